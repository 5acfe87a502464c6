/- An index that grows bucket by bucket, plainly: where a key belongs, put, dropped, halved; what is found. No program. -/
import Derived.Test.YtocmkjccaajnnaaMgS
namespace Go.Proofs.Ytocmkjccaajnnaa.Ha
open Go.RowKit Bu

structure H where
  lv : Nat
  nx : Nat
  bs : List (List E)
/-- Where a key of number n belongs. -/
def atN (lv nx n : Nat) : Nat := if n % 2 ^ lv < nx then n % 2 ^ (lv + 1) else n % 2 ^ lv
theorem pow_pos2 (lv : Nat) : 0 < 2 ^ lv := Nat.pow_pos (by omega)
theorem half (lv n : Nat) : n % 2 ^ (lv + 1) = n % 2 ^ lv ∨ n % 2 ^ (lv + 1) = n % 2 ^ lv + 2 ^ lv := by
  have h1 := Nat.mod_lt n (pow_pos2 (lv + 1))
  have h2 : n % 2 ^ (lv + 1) % 2 ^ lv = n % 2 ^ lv := Nat.mod_mod_of_dvd n ⟨2, Nat.pow_succ ..⟩
  have h3 := Nat.div_add_mod (n % 2 ^ (lv + 1)) (2 ^ lv)
  have h4 : n % 2 ^ (lv + 1) / 2 ^ lv < 2 := Nat.div_lt_of_lt_mul (by rw [Nat.mul_comm, ← Nat.pow_succ']; rw [Nat.pow_succ, Nat.mul_comm] at h1; rw [Nat.pow_succ']; exact h1)
  rw [h2] at h3
  have h5 : n % 2 ^ (lv + 1) / 2 ^ lv = 0 ∨ n % 2 ^ (lv + 1) / 2 ^ lv = 1 := by
    generalize n % 2 ^ (lv + 1) / 2 ^ lv = q at h4
    omega
  rcases h5 with h5 | h5
  · rw [h5, Nat.mul_zero, Nat.zero_add] at h3
    exact Or.inl h3.symm
  · rw [h5, Nat.mul_one] at h3
    exact Or.inr (by omega)
theorem atN_lt {lv nx : Nat} (n : Nat) : atN lv nx n < 2 ^ lv + nx := by
  have h1 := Nat.mod_lt n (pow_pos2 lv)
  unfold atN
  split
  · rcases half lv n with h2 | h2 <;> omega
  · omega
/-- The round and the next one, behind a halving. -/
def stepL (lv nx : Nat) : Nat × Nat := if nx + 1 = 2 ^ lv then (lv + 1, 0) else (lv, nx + 1)
theorem step_len {lv nx : Nat} : 2 ^ (stepL lv nx).1 + (stepL lv nx).2 = 2 ^ lv + nx + 1 := by
  unfold stepL
  split
  · rename_i h
    show 2 ^ (lv + 1) + 0 = _
    rw [Nat.pow_succ]
    omega
  · show 2 ^ lv + (nx + 1) = _
    omega
theorem step_nx {lv nx : Nat} (h : nx < 2 ^ lv) : (stepL lv nx).2 < 2 ^ (stepL lv nx).1 := by
  unfold stepL
  split
  · exact pow_pos2 _
  · show nx + 1 < 2 ^ lv
    omega
theorem atN_step {lv nx : Nat} (h : nx < 2 ^ lv) (n : Nat) : (atN lv nx n ≠ nx ∧ atN (stepL lv nx).1 (stepL lv nx).2 n = atN lv nx n) ∨ (atN lv nx n = nx ∧ (atN (stepL lv nx).1 (stepL lv nx).2 n = nx ∨ atN (stepL lv nx).1 (stepL lv nx).2 n = 2 ^ lv + nx)) := by
  have h1 := Nat.mod_lt n (pow_pos2 lv)
  have h2 := half lv n
  have hs : atN (stepL lv nx).1 (stepL lv nx).2 n = if n % 2 ^ lv < nx + 1 then n % 2 ^ (lv + 1) else n % 2 ^ lv := by
    unfold stepL
    split
    · rename_i e
      show (if n % 2 ^ (lv + 1) < 0 then _ else n % 2 ^ (lv + 1)) = _
      rw [if_neg (by omega), if_pos (by omega)]
    · rfl
  rw [hs]
  unfold atN
  by_cases h3 : n % 2 ^ lv < nx
  · rw [if_pos h3, if_pos (by omega)]
    refine Or.inl ⟨?_, rfl⟩
    rcases h2 with h2 | h2 <;> omega
  · rw [if_neg h3]
    by_cases h4 : n % 2 ^ lv = nx
    · rw [if_pos (by omega)]
      refine Or.inr ⟨h4, ?_⟩
      rcases h2 with h2 | h2 <;> omega
    · rw [if_neg (by omega)]
      exact Or.inl ⟨h4, rfl⟩

section
variable (f : List UInt8 → Nat)
def whereH (h : H) (k : List UInt8) : Nat := atN h.lv h.nx (f k)
/-- May it be? (its entries' form apart) -/
structure IsH (h : H) : Prop where
  l8 : h.lv ≤ 8
  nx : h.nx < 2 ^ h.lv
  len : h.bs.length = 2 ^ h.lv + h.nx
  ris : ∀ b ∈ h.bs, Rises b
  own : ∀ (i : Nat) (b : List E), h.bs[i]? = some b → ∀ e ∈ b, whereH f h e.k = i
def getH (h : H) (k : List UInt8) : Option E := (h.bs[whereH f h k]?).bind (fun b => findL b k)
def countH (h : H) : Nat := (h.bs.map List.length).sum
def withB (h : H) (i : Nat) (b : List E) : H := { h with bs := h.bs.set i b }
def putB (h : H) (e : E) : H := withB h (whereH f h e.k) (putL ((h.bs[whereH f h e.k]?).getD []) e)
def dropH (h : H) (k : List UInt8) : H := withB h (whereH f h k) (dropL ((h.bs[whereH f h k]?).getD []) k)
def halveH (h : H) : H :=
  if 8 ≤ h.lv then h else
    ⟨(stepL h.lv h.nx).1, (stepL h.lv h.nx).2,
      (h.bs.set h.nx (((h.bs[h.nx]?).getD []).filter (fun e => decide (atN (stepL h.lv h.nx).1 (stepL h.lv h.nx).2 (f e.k) = h.nx)))) ++
      [((h.bs[h.nx]?).getD []).filter (fun e => !decide (atN (stepL h.lv h.nx).1 (stepL h.lv h.nx).2 (f e.k) = h.nx))]⟩
def putH (h : H) (e : E) : H := if 4 * (putB f h e).bs.length < countH (putB f h e) then halveH f (putB f h e) else putB f h e
def newH : H := ⟨0, 0, [[]]⟩
def memH (h : H) (e : E) : Prop := ∃ b ∈ h.bs, e ∈ b
end
variable {f : List UInt8 → Nat}
theorem IsH.here {h : H} (hh : IsH f h) (k : List UInt8) : ∃ b, h.bs[whereH f h k]? = some b := by
  have : whereH f h k < h.bs.length := by rw [hh.len]; exact atN_lt _
  exact ⟨_, List.getElem?_eq_getElem this⟩
theorem IsH.mem_at {h : H} (hh : IsH f h) {e : E} : memH h e ↔ ∃ b, h.bs[whereH f h e.k]? = some b ∧ e ∈ b := by
  constructor
  · rintro ⟨b, hb, he⟩
    obtain ⟨i, hi⟩ := List.mem_iff_getElem?.1 hb
    have := hh.own i b hi e he
    rw [this]
    exact ⟨b, hi, he⟩
  · rintro ⟨b, hb, he⟩
    exact ⟨b, List.mem_of_getElem? hb, he⟩
theorem IsH.get {h : H} (hh : IsH f h) {k : List UInt8} {e : E} : getH f h k = some e ↔ memH h e ∧ e.k = k := by
  obtain ⟨b, hb⟩ := hh.here k
  unfold getH
  rw [hb]
  show findL b k = some e ↔ _
  constructor
  · intro hf
    obtain ⟨h1, h2⟩ := find_some hf
    exact ⟨⟨b, List.mem_of_getElem? hb, h1⟩, h2⟩
  · rintro ⟨hm, rfl⟩
    obtain ⟨b', hb', he⟩ := hh.mem_at.1 hm
    rw [hb] at hb'
    injection hb' with hb'
    subst hb'
    exact find_of (hh.ris b (List.mem_of_getElem? hb)) he
theorem IsH.get_none {h : H} (hh : IsH f h) {k : List UInt8} : getH f h k = none ↔ ∀ e, memH h e → e.k ≠ k := by
  cases hg : getH f h k with
  | none =>
    refine ⟨fun _ e he hk => ?_, fun _ => rfl⟩
    rw [hh.get.2 ⟨he, hk⟩] at hg
    cases hg
  | some e =>
    have := hh.get.1 hg
    exact ⟨fun q => (by cases q), fun q => absurd this.2 (q e this.1)⟩
theorem IsH.one {h : H} (hh : IsH f h) {a b : E} (ha : memH h a) (hb : memH h b) (hk : a.k = b.k) : a = b := by
  have h1 := hh.get.2 ⟨ha, hk⟩
  have h2 := hh.get.2 ⟨hb, rfl⟩
  rw [h1] at h2
  exact Option.some.inj h2
theorem new_is : IsH f newH := ⟨by decide, by decide, rfl, fun b hb => by
  have : b = [] := by simpa [newH] using hb
  subst this
  exact rises_nil, fun i b hb e he => by
  cases i with
  | zero => have : b = [] := by simpa [newH] using hb.symm
            subst this
            cases he
  | succ i => simp [newH] at hb⟩
theorem new_mem (e : E) : ¬ memH newH e := by
  rintro ⟨b, hb, he⟩
  have : b = [] := by simpa [newH] using hb
  subst this
  cases he
/-- Another bucket in one place. -/
theorem with_is {h : H} (hh : IsH f h) {i : Nat} {b : List E} (hr : Rises b) (ho : ∀ e ∈ b, whereH f h e.k = i) : IsH f (withB h i b) := by
  refine ⟨hh.l8, hh.nx, by show (h.bs.set i b).length = _; rw [List.length_set]; exact hh.len, fun c hc => ?_, fun j c hc e he => ?_⟩
  · have hc : c ∈ h.bs.set i b := hc
    rcases List.mem_or_eq_of_mem_set hc with hc | rfl
    · exact hh.ris c hc
    · exact hr
  · have hc : (h.bs.set i b)[j]? = some c := hc
    by_cases hj : i = j
    · subst hj
      have hlt : i < h.bs.length := by
        have := (List.getElem?_eq_some_iff.1 hc).1
        rw [List.length_set] at this
        exact this
      rw [List.getElem?_set_self hlt] at hc
      injection hc with hc
      subst hc
      exact ho e he
    · rw [List.getElem?_set_ne hj] at hc
      exact hh.own j c hc e he
theorem with_mem {h : H} {i : Nat} {b c : List E} (hc : h.bs[i]? = some c) (hh : IsH f h) (e : E) (ho : ∀ e ∈ b, whereH f h e.k = i) : memH (withB h i b) e ↔ (whereH f h e.k = i ∧ e ∈ b) ∨ (whereH f h e.k ≠ i ∧ memH h e) := by
  have hlt := (List.getElem?_eq_some_iff.1 hc).1
  constructor
  · rintro ⟨d, hd, he⟩
    obtain ⟨j, hj⟩ := List.mem_iff_getElem?.1 hd
    have hj : (h.bs.set i b)[j]? = some d := hj
    by_cases hij : i = j
    · subst hij
      rw [List.getElem?_set_self hlt] at hj
      injection hj with hj
      subst hj
      exact Or.inl ⟨ho e he, he⟩
    · rw [List.getElem?_set_ne hij] at hj
      have := hh.own j d hj e he
      exact Or.inr ⟨by rw [this]; exact Ne.symm hij, ⟨d, List.mem_of_getElem? hj, he⟩⟩
  · rintro (⟨_, he⟩ | ⟨hne, hm⟩)
    · exact ⟨b, List.mem_of_getElem? (show (h.bs.set i b)[i]? = some b from List.getElem?_set_self hlt), he⟩
    · obtain ⟨d, hd, he⟩ := hh.mem_at.1 hm
      exact ⟨d, List.mem_of_getElem? (show (h.bs.set i b)[whereH f h e.k]? = some d by rw [List.getElem?_set_ne (Ne.symm hne)]; exact hd), he⟩
theorem putB_is {h : H} (hh : IsH f h) (e : E) : IsH f (putB f h e) := by
  obtain ⟨b, hb⟩ := hh.here e.k
  have hr := hh.ris b (List.mem_of_getElem? hb)
  unfold putB
  rw [hb]
  refine with_is hh (rises_put hr) fun x hx => ?_
  rcases (mem_put hr x).1 hx with rfl | ⟨h1, _⟩
  · rfl
  · exact hh.own _ b hb x h1
theorem putB_mem {h : H} (hh : IsH f h) (e x : E) : memH (putB f h e) x ↔ x = e ∨ (memH h x ∧ x.k ≠ e.k) := by
  obtain ⟨b, hb⟩ := hh.here e.k
  have hr := hh.ris b (List.mem_of_getElem? hb)
  have ho : ∀ y ∈ putL b e, whereH f h y.k = whereH f h e.k := fun y hy => by
    rcases (mem_put hr y).1 hy with rfl | ⟨h1, _⟩
    · rfl
    · exact hh.own _ b hb y h1
  unfold putB
  rw [hb]
  show memH (withB h (whereH f h e.k) (putL b e)) x ↔ _
  rw [with_mem hb hh x ho, mem_put hr x]
  constructor
  · rintro (⟨h1, rfl | ⟨h2, h3⟩⟩ | ⟨h1, h2⟩)
    · exact Or.inl rfl
    · exact Or.inr ⟨⟨b, List.mem_of_getElem? hb, h2⟩, h3⟩
    · exact Or.inr ⟨h2, fun e => h1 (by rw [e])⟩
  · rintro (rfl | ⟨h1, h2⟩)
    · exact Or.inl ⟨rfl, Or.inl rfl⟩
    · by_cases hw : whereH f h x.k = whereH f h e.k
      · obtain ⟨c, hc, hx⟩ := hh.mem_at.1 h1
        rw [hw, hb] at hc
        injection hc with hc
        subst hc
        exact Or.inl ⟨hw, Or.inr ⟨hx, h2⟩⟩
      · exact Or.inr ⟨hw, h1⟩
theorem drop_is {h : H} (hh : IsH f h) (k : List UInt8) : IsH f (dropH f h k) := by
  obtain ⟨b, hb⟩ := hh.here k
  have hr := hh.ris b (List.mem_of_getElem? hb)
  unfold dropH
  rw [hb]
  exact with_is hh (rises_drop hr k) fun x hx => hh.own _ b hb x ((mem_drop x).1 hx).1
theorem drop_mem {h : H} (hh : IsH f h) (k : List UInt8) (x : E) : memH (dropH f h k) x ↔ memH h x ∧ x.k ≠ k := by
  obtain ⟨b, hb⟩ := hh.here k
  have ho : ∀ y ∈ dropL b k, whereH f h y.k = whereH f h k := fun y hy => hh.own _ b hb y ((mem_drop y).1 hy).1
  unfold dropH
  rw [hb]
  show memH (withB h (whereH f h k) (dropL b k)) x ↔ _
  rw [with_mem hb hh x ho, mem_drop]
  constructor
  · rintro (⟨_, h2, h3⟩ | ⟨h1, h2⟩)
    · exact ⟨⟨b, List.mem_of_getElem? hb, h2⟩, h3⟩
    · exact ⟨h2, fun e => h1 (by rw [e])⟩
  · rintro ⟨h1, h2⟩
    by_cases hw : whereH f h x.k = whereH f h k
    · obtain ⟨c, hc, hx⟩ := hh.mem_at.1 h1
      rw [hw, hb] at hc
      injection hc with hc
      subst hc
      exact Or.inl ⟨hw, hx, h2⟩
    · exact Or.inr ⟨hw, h1⟩
theorem IsH.next {h : H} (hh : IsH f h) : ∃ b, h.bs[h.nx]? = some b := ⟨_, List.getElem?_eq_getElem (by rw [hh.len]; have := hh.nx; omega)⟩
theorem halve_is {h : H} (hh : IsH f h) : IsH f (halveH f h) := by
  unfold halveH
  split
  · exact hh
  · rename_i h8
    obtain ⟨b, hb⟩ := hh.next
    rw [hb]
    simp only [Option.getD_some]
    have hr := hh.ris b (List.mem_of_getElem? hb)
    have hlt := (List.getElem?_eq_some_iff.1 hb).1
    refine ⟨?_, step_nx hh.nx, ?_, fun c hc => ?_, fun j c hc e he => ?_⟩
    · show (stepL h.lv h.nx).1 ≤ 8
      unfold stepL
      split
      · show h.lv + 1 ≤ 8
        omega
      · show h.lv ≤ 8
        omega
    · show (h.bs.set h.nx _ ++ [_]).length = _
      rw [List.length_append, List.length_set, step_len, hh.len]
      rfl
    · have hc : c ∈ h.bs.set h.nx _ ++ [_] := hc
      rcases List.mem_append.1 hc with hc | hc
      · rcases List.mem_or_eq_of_mem_set hc with hc | rfl
        · exact hh.ris c hc
        · exact List.Pairwise.sublist List.filter_sublist hr
      · obtain rfl := List.mem_singleton.1 hc
        exact List.Pairwise.sublist List.filter_sublist hr
    · show atN (stepL h.lv h.nx).1 (stepL h.lv h.nx).2 (f e.k) = j
      have hc : (h.bs.set h.nx _ ++ [_])[j]? = some c := hc
      have hst := atN_step hh.nx (f e.k)
      by_cases hj : j < h.bs.length
      · rw [List.getElem?_append_left (by rw [List.length_set]; exact hj)] at hc
        by_cases hn : h.nx = j
        · subst hn
          rw [List.getElem?_set_self hlt] at hc
          injection hc with hc
          subst hc
          exact of_decide_eq_true (List.mem_filter.1 he).2
        · rw [List.getElem?_set_ne hn] at hc
          have hw : atN h.lv h.nx (f e.k) = j := hh.own j c hc e he
          rcases hst with ⟨_, h2⟩ | ⟨h1, _⟩
          · rw [h2]; exact hw
          · exact absurd (h1.symm.trans hw) hn
      · have hj2 : j = h.bs.length := by
          have := (List.getElem?_eq_some_iff.1 hc).1
          rw [List.length_append, List.length_set] at this
          simp at this
          omega
        subst hj2
        rw [List.getElem?_append_right (by rw [List.length_set]; exact Nat.le_refl _), List.length_set, Nat.sub_self] at hc
        have hc := Option.some.inj (show some _ = some c from hc)
        subst hc
        obtain ⟨h1, h2⟩ := List.mem_filter.1 he
        have hw : atN h.lv h.nx (f e.k) = h.nx := hh.own _ b hb e h1
        rcases hst with ⟨h3, _⟩ | ⟨_, h3 | h3⟩
        · exact absurd hw h3
        · simp [h3] at h2
        · rw [h3, hh.len]
theorem halve_mem {h : H} (hh : IsH f h) (x : E) : memH (halveH f h) x ↔ memH h x := by
  unfold halveH
  split
  · exact Iff.rfl
  · obtain ⟨b, hb⟩ := hh.next
    rw [hb]
    simp only [Option.getD_some]
    have hlt := (List.getElem?_eq_some_iff.1 hb).1
    constructor
    · rintro ⟨c, hc, hx⟩
      rcases List.mem_append.1 hc with hc | hc
      · rcases List.mem_or_eq_of_mem_set hc with hc | rfl
        · exact ⟨c, hc, hx⟩
        · exact ⟨b, List.mem_of_getElem? hb, (List.mem_filter.1 hx).1⟩
      · obtain rfl := List.mem_singleton.1 hc
        exact ⟨b, List.mem_of_getElem? hb, (List.mem_filter.1 hx).1⟩
    · rintro ⟨c, hc, hx⟩
      obtain ⟨j, hj⟩ := List.mem_iff_getElem?.1 hc
      by_cases hn : h.nx = j
      · subst hn
        rw [hb] at hj
        injection hj with hj
        subst hj
        by_cases hq : atN (stepL h.lv h.nx).1 (stepL h.lv h.nx).2 (f x.k) = h.nx
        · exact ⟨_, List.mem_append.2 (Or.inl (List.mem_of_getElem? (List.getElem?_set_self hlt))), List.mem_filter.2 ⟨hx, decide_eq_true hq⟩⟩
        · exact ⟨_, List.mem_append.2 (Or.inr (List.mem_singleton.2 rfl)), List.mem_filter.2 ⟨hx, by simp [hq]⟩⟩
      · exact ⟨c, List.mem_append.2 (Or.inl (List.mem_of_getElem? (by rw [List.getElem?_set_ne hn]; exact hj))), hx⟩
theorem put_is {h : H} (hh : IsH f h) (e : E) : IsH f (putH f h e) := by
  unfold putH
  split
  · exact halve_is (putB_is hh e)
  · exact putB_is hh e
theorem put_mem {h : H} (hh : IsH f h) (e x : E) : memH (putH f h e) x ↔ x = e ∨ (memH h x ∧ x.k ≠ e.k) := by
  unfold putH
  split
  · rw [halve_mem (putB_is hh e), putB_mem hh]
  · exact putB_mem hh e x
/-- Of one round, the same next one, and the same entries: the same. -/
theorem same_index {a b : H} (ha : IsH f a) (hb : IsH f b) (h1 : a.lv = b.lv) (h2 : a.nx = b.nx) (h : ∀ x, memH a x ↔ memH b x) : a = b := by
  have hl : a.bs.length = b.bs.length := by rw [ha.len, hb.len, h1, h2]
  have hw : ∀ k, whereH f a k = whereH f b k := fun k => by unfold whereH; rw [h1, h2]
  have hbs : a.bs = b.bs := by
    refine List.ext_getElem? fun i => ?_
    by_cases hi : i < a.bs.length
    · have e1 : a.bs[i]? = some a.bs[i] := List.getElem?_eq_getElem hi
      have e2 : b.bs[i]? = some b.bs[i] := List.getElem?_eq_getElem (by omega)
      rw [e1, e2]
      congr 1
      refine rises_unique (ha.ris _ (List.getElem_mem hi)) (hb.ris _ (List.getElem_mem (by omega))) fun x => ?_
      constructor
      · intro hx
        have hwx := ha.own i _ e1 x hx
        obtain ⟨c, hc, hxc⟩ := hb.mem_at.1 ((h x).1 ⟨_, List.getElem_mem hi, hx⟩)
        rw [← hw, hwx, e2] at hc
        injection hc with hc
        rw [hc]
        exact hxc
      · intro hx
        have hwx := hb.own i _ e2 x hx
        obtain ⟨c, hc, hxc⟩ := ha.mem_at.1 ((h x).2 ⟨_, List.getElem_mem (by omega), hx⟩)
        rw [hw, hwx, e1] at hc
        injection hc with hc
        rw [hc]
        exact hxc
    · rw [List.getElem?_eq_none (by omega), List.getElem?_eq_none (by omega)]
  obtain ⟨la, na, ba⟩ := a
  obtain ⟨lb, nb, bb⟩ := b
  simp only at h1 h2 hbs
  subst h1 h2 hbs
  rfl
/-- As many buckets tell the round, and the next one. -/
theorem len_tells {l1 n1 l2 n2 : Nat} (h1 : n1 < 2 ^ l1) (h2 : n2 < 2 ^ l2) (h : 2 ^ l1 + n1 = 2 ^ l2 + n2) : l1 = l2 ∧ n1 = n2 := by
  have key : ∀ {a b m n : Nat}, m < 2 ^ a → n < 2 ^ b → 2 ^ a + m = 2 ^ b + n → ¬ a < b := fun {a b m n} hm hn he hab => by
    have hp : 2 ^ (a + 1) ≤ 2 ^ b := Nat.pow_le_pow_right (by omega) hab
    rw [Nat.pow_succ] at hp
    omega
  have hl : l1 = l2 := by
    rcases Nat.lt_trichotomy l1 l2 with hlt | he | hgt
    · exact absurd hlt (key h1 h2 h)
    · exact he
    · exact absurd hgt (key h2 h1 h.symm)
  subst hl
  exact ⟨rfl, by omega⟩
end Go.Proofs.Ytocmkjccaajnnaa.Ha
