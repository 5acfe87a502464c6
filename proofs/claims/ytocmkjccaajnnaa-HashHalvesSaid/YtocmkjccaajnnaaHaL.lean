/- An index's count and length, plainly: behind each deed; of which keys it tells. No program. -/
import Derived.Test.YtocmkjccaajnnaaHaA
namespace Go.Proofs.Ytocmkjccaajnnaa.Ha
open Go.RowKit Bu

theorem nodup_le {α : Type} : ∀ {a b : List α}, a.Nodup → (∀ x ∈ a, x ∈ b) → a.length ≤ b.length
  | [], b, _, _ => Nat.zero_le _
  | x :: a, b, hd, h => by
    obtain ⟨b1, b2, rfl⟩ := List.append_of_mem (h x (List.mem_cons_self ..))
    have hd' := List.nodup_cons.1 hd
    have ih := nodup_le (a := a) (b := b1 ++ b2) hd'.2 (fun y hy => by
      have hne : y ≠ x := fun e => hd'.1 (e ▸ hy)
      have hm := h y (List.mem_cons_of_mem _ hy)
      rcases List.mem_append.1 hm with hm | hm
      · exact List.mem_append.2 (Or.inl hm)
      · rcases List.mem_cons.1 hm with hm | hm
        · exact absurd hm hne
        · exact List.mem_append.2 (Or.inr hm))
    rw [List.length_append] at ih
    rw [List.length_append, List.length_cons, List.length_cons]
    omega
theorem nodup_same {α : Type} {a b : List α} (ha : a.Nodup) (hb : b.Nodup) (h : ∀ x, x ∈ a ↔ x ∈ b) : a.length = b.length :=
  Nat.le_antisymm (nodup_le ha fun x hx => (h x).1 hx) (nodup_le hb fun x hx => (h x).2 hx)
/-- All keys, bucket by bucket. -/
def keysH (h : H) : List (List UInt8) := h.bs.flatten.map E.k
theorem keys_len (h : H) : (keysH h).length = countH h := by unfold keysH countH; rw [List.length_map, List.length_flatten]
def hasK (h : H) (k : List UInt8) : Prop := ∃ e, memH h e ∧ e.k = k
theorem keys_mem {h : H} (k : List UInt8) : k ∈ keysH h ↔ hasK h k := by
  unfold keysH hasK memH
  rw [List.mem_map]
  constructor
  · rintro ⟨e, he, hk⟩
    obtain ⟨b, hb, heb⟩ := List.mem_flatten.1 he
    exact ⟨e, ⟨b, hb, heb⟩, hk⟩
  · rintro ⟨e, ⟨b, hb, heb⟩, hk⟩
    exact ⟨e, List.mem_flatten.2 ⟨b, hb, heb⟩, hk⟩
variable {f : List UInt8 → Nat}
theorem IsH.nodup {h : H} (hh : IsH f h) : (keysH h).Nodup := by
  unfold keysH
  rw [List.Nodup, List.pairwise_map, List.pairwise_flatten]
  refine ⟨fun b hb => (hh.ris b hb).imp fun hlt => lt_ne hlt, ?_⟩
  rw [List.pairwise_iff_getElem]
  intro i j hi hj hij x hx y hy hk
  have h1 := hh.own i _ (List.getElem?_eq_getElem hi) x hx
  have h2 := hh.own j _ (List.getElem?_eq_getElem hj) y hy
  rw [hk, h2] at h1
  omega
theorem IsH.has_get {h : H} (hh : IsH f h) {k : List UInt8} : hasK h k ↔ (getH f h k).isSome = true := by
  cases hg : getH f h k with
  | none =>
    constructor
    · rintro ⟨e, he, hk⟩
      exact absurd hk (hh.get_none.1 hg e he)
    · intro h; cases h
  | some e => exact ⟨fun _ => rfl, fun _ => ⟨e, hh.get.1 hg⟩⟩
theorem count_same {a b : H} (ha : IsH f a) (hb : IsH f b) (h : ∀ k, hasK a k ↔ hasK b k) : countH a = countH b := by
  rw [← keys_len, ← keys_len]
  exact nodup_same ha.nodup hb.nodup fun k => by rw [keys_mem, keys_mem, h]
theorem halve_has {h : H} (hh : IsH f h) (k : List UInt8) : hasK (halveH f h) k ↔ hasK h k := by
  unfold hasK
  constructor
  · rintro ⟨e, he, hk⟩
    exact ⟨e, (halve_mem hh e).1 he, hk⟩
  · rintro ⟨e, he, hk⟩
    exact ⟨e, (halve_mem hh e).2 he, hk⟩
theorem halve_count {h : H} (hh : IsH f h) : countH (halveH f h) = countH h := count_same (halve_is hh) hh (halve_has hh)
theorem putB_has {h : H} (hh : IsH f h) (e : E) (k : List UInt8) : hasK (putB f h e) k ↔ k = e.k ∨ hasK h k := by
  constructor
  · rintro ⟨x, hx, rfl⟩
    rcases (putB_mem hh e x).1 hx with rfl | ⟨h1, _⟩
    · exact Or.inl rfl
    · exact Or.inr ⟨x, h1, rfl⟩
  · rintro (rfl | ⟨x, hx, rfl⟩)
    · exact ⟨e, (putB_mem hh e e).2 (Or.inl rfl), rfl⟩
    · by_cases hk : x.k = e.k
      · exact ⟨e, (putB_mem hh e e).2 (Or.inl rfl), hk.symm⟩
      · exact ⟨x, (putB_mem hh e x).2 (Or.inr ⟨hx, hk⟩), rfl⟩
theorem putB_old {h : H} (hh : IsH f h) {e : E} (hk : hasK h e.k) : countH (putB f h e) = countH h :=
  count_same (putB_is hh e) hh fun k => by
    rw [putB_has hh]
    exact ⟨fun q => q.elim (fun q => q ▸ hk) id, Or.inr⟩
theorem putB_new {h : H} (hh : IsH f h) {e : E} (hk : ¬ hasK h e.k) : countH (putB f h e) = countH h + 1 := by
  rw [← keys_len, ← keys_len, ← List.length_cons (a := e.k)]
  refine nodup_same (putB_is hh e).nodup (List.nodup_cons.2 ⟨fun h => hk ((keys_mem _).1 h), hh.nodup⟩) fun k => ?_
  rw [keys_mem, putB_has hh, List.mem_cons, keys_mem]
theorem putB_count {h : H} (hh : IsH f h) (e : E) : countH (putB f h e) ≤ countH h + 1 := by
  by_cases hk : hasK h e.k
  · rw [putB_old hh hk]; omega
  · rw [putB_new hh hk]; exact Nat.le_refl _
theorem drop_has {h : H} (hh : IsH f h) (k k' : List UInt8) : hasK (dropH f h k) k' ↔ k' ≠ k ∧ hasK h k' := by
  constructor
  · rintro ⟨x, hx, rfl⟩
    obtain ⟨h1, h2⟩ := (drop_mem hh k x).1 hx
    exact ⟨h2, x, h1, rfl⟩
  · rintro ⟨h1, x, hx, rfl⟩
    exact ⟨x, (drop_mem hh k x).2 ⟨hx, h1⟩, rfl⟩
theorem drop_count {h : H} (hh : IsH f h) (k : List UInt8) : countH (dropH f h k) ≤ countH h := by
  rw [← keys_len, ← keys_len]
  exact nodup_le (drop_is hh k).nodup fun x hx => (keys_mem x).2 ((drop_has hh k x).1 ((keys_mem x).1 hx)).2
theorem with_len (h : H) (i : Nat) (b : List E) : (withB h i b).bs.length = h.bs.length := List.length_set ..
theorem putB_len (h : H) (e : E) : (putB f h e).bs.length = h.bs.length := with_len ..
theorem drop_len (h : H) (k : List UInt8) : (dropH f h k).bs.length = h.bs.length := with_len ..
theorem halve_len {h : H} (h8 : h.lv < 8) : (halveH f h).bs.length = h.bs.length + 1 := by
  unfold halveH
  rw [if_neg (by omega)]
  simp
theorem IsH.lv8 {h : H} (hh : IsH f h) (hl : h.bs.length ≤ 255) : h.lv < 8 := by
  have h1 := hh.len
  by_cases h8 : h.lv < 8
  · exact h8
  · have h2 : 2 ^ 8 ≤ 2 ^ h.lv := Nat.pow_le_pow_right (by omega) (by omega)
    have h3 : (2 : Nat) ^ 8 = 256 := rfl
    omega
def FineP (e : E) : Prop := e.key.size ≤ 61 ∧ (0 ≤ e.t ∧ e.t < 64) ∧ (0 ≤ e.s ∧ e.s < 8)
/-- An index behind i deeds. -/
structure Idx (f : List UInt8 → Nat) (h : H) (i : Nat) : Prop where
  is : IsH f h
  ent : ∀ e, memH h e → FineP e
  cnt : countH h ≤ i
  len : h.bs.length ≤ i + 1
  four : countH h ≤ 4 * h.bs.length
theorem Idx.new : Idx f newH 0 := ⟨new_is, fun e he => absurd he (new_mem e), Nat.le_refl _, Nat.le_refl _, Nat.zero_le _⟩
theorem Idx.mono {h : H} {i j : Nat} (hh : Idx f h i) (hij : i ≤ j) : Idx f h j := ⟨hh.is, hh.ent, Nat.le_trans hh.cnt hij, Nat.le_trans hh.len (by omega), hh.four⟩
theorem Idx.halve {h : H} {i : Nat} (hh : Idx f h i) (hi : i ≤ 200) : Idx f (halveH f h) (i + 1) := by
  have h1 := hh.cnt
  have h2 := hh.len
  have h3 := hh.four
  have hl := halve_len (f := f) (hh.is.lv8 (by omega))
  exact ⟨halve_is hh.is, fun e he => hh.ent e ((halve_mem hh.is e).1 he), by rw [halve_count hh.is]; omega, by rw [hl]; omega, by rw [halve_count hh.is, hl]; omega⟩
theorem Idx.drop {h : H} {i : Nat} (hh : Idx f h i) (k : List UInt8) : Idx f (dropH f h k) (i + 1) := by
  have h1 := drop_count hh.is k
  have h2 := hh.cnt
  have h3 := hh.len
  have h4 := hh.four
  exact ⟨drop_is hh.is k, fun e he => hh.ent e ((drop_mem hh.is k e).1 he).1, by omega, by rw [drop_len]; omega, by rw [drop_len]; omega⟩
theorem Idx.put {h : H} {i : Nat} (hh : Idx f h i) (hi : i ≤ 200) {e : E} (he : FineP e) : Idx f (putH f h e) (i + 1) := by
  have h1 := putB_count hh.is e
  have h2 := hh.cnt
  have h3 := hh.len
  have h4 := hh.four
  have h5 := putB_len (f := f) h e
  have hb := putB_is hh.is e
  have hen : ∀ x, memH (putB f h e) x → FineP x := fun x hx => by
    rcases (putB_mem hh.is e x).1 hx with rfl | ⟨hx, _⟩
    · exact he
    · exact hh.ent x hx
  unfold putH
  split
  · have hl := halve_len (f := f) (hb.lv8 (by omega))
    exact ⟨halve_is hb, fun x hx => hen x ((halve_mem hb x).1 hx), by rw [halve_count hb]; omega, by rw [hl]; omega, by rw [halve_count hb, hl]; omega⟩
  · exact ⟨hb, hen, by omega, by omega, by omega⟩
/-- A key more: how many, and how many buckets. -/
theorem Idx.put_new {h : H} {i : Nat} (hh : Idx f h i) (hi : i ≤ 200) {e : E} (hk : ¬ hasK h e.k) :
    countH (putH f h e) = countH h + 1 ∧ (putH f h e).bs.length = if 4 * h.bs.length < countH h + 1 then h.bs.length + 1 else h.bs.length := by
  have h1 := putB_new hh.is hk
  have h2 := hh.cnt
  have h3 := hh.len
  have h5 := putB_len (f := f) h e
  have hb := putB_is hh.is e
  unfold putH
  rw [h1, h5]
  split
  · have hl := halve_len (f := f) (hb.lv8 (by omega))
    exact ⟨by rw [halve_count hb]; exact h1, by rw [hl, h5]⟩
  · exact ⟨h1, h5⟩
theorem put_has {h : H} (hh : IsH f h) (e : E) (k : List UInt8) : hasK (putH f h e) k ↔ k = e.k ∨ hasK h k := by
  unfold putH
  split
  · rw [halve_has (putB_is hh e), putB_has hh]
  · exact putB_has hh e k
/-- What is found of a key, behind each deed. -/
theorem get_new (k : List UInt8) : getH f newH k = none := new_is.get_none.2 fun e he => absurd he (new_mem e)
theorem get_put {h : H} (hh : IsH f h) (e : E) (k : List UInt8) : getH f (putH f h e) k = if k = e.k then some e else getH f h k := by
  by_cases hk : k = e.k
  · rw [if_pos hk]
    exact (put_is hh e).get.2 ⟨(put_mem hh e e).2 (Or.inl rfl), hk.symm⟩
  · rw [if_neg hk]
    cases hg : getH f h k with
    | none =>
      refine (put_is hh e).get_none.2 fun x hx hxk => ?_
      rcases (put_mem hh e x).1 hx with rfl | ⟨h1, _⟩
      · exact hk hxk.symm
      · exact hh.get_none.1 hg x h1 hxk
    | some x =>
      obtain ⟨h1, h2⟩ := hh.get.1 hg
      exact (put_is hh e).get.2 ⟨(put_mem hh e x).2 (Or.inr ⟨h1, fun q => hk (h2.symm.trans q)⟩), h2⟩
theorem get_drop {h : H} (hh : IsH f h) (k0 k : List UInt8) : getH f (dropH f h k0) k = if k = k0 then none else getH f h k := by
  by_cases hk : k = k0
  · rw [if_pos hk]
    exact (drop_is hh k0).get_none.2 fun x hx hxk => ((drop_mem hh k0 x).1 hx).2 (hxk.trans hk)
  · rw [if_neg hk]
    cases hg : getH f h k with
    | none => exact (drop_is hh k0).get_none.2 fun x hx hxk => hh.get_none.1 hg x ((drop_mem hh k0 x).1 hx).1 hxk
    | some x =>
      obtain ⟨h1, h2⟩ := hh.get.1 hg
      exact (drop_is hh k0).get.2 ⟨(drop_mem hh k0 x).2 ⟨h1, fun q => hk (h2.symm.trans q)⟩, h2⟩
theorem get_halve {h : H} (hh : IsH f h) (k : List UInt8) : getH f (halveH f h) k = getH f h k := by
  cases hg : getH f h k with
  | none => exact (halve_is hh).get_none.2 fun x hx hxk => hh.get_none.1 hg x ((halve_mem hh x).1 hx) hxk
  | some x =>
    obtain ⟨h1, h2⟩ := hh.get.1 hg
    exact (halve_is hh).get.2 ⟨(halve_mem hh x).2 h1, h2⟩
theorem len_countH (h : H) {r : List E} (hr : r ∈ h.bs) : r.length ≤ countH h := by
  unfold countH
  obtain ⟨b1, b2, e⟩ := List.append_of_mem hr
  rw [e]
  simp
  omega
end Go.Proofs.Ytocmkjccaajnnaa.Ha
