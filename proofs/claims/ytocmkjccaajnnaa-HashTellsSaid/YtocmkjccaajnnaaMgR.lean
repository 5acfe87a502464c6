/- Texts HaR, HaU, HaW, one behind the other. -/
import Derived.Test.YtocmkjccaajnnaaMgQ
import Derived.Test.YtocmkjccaajnnaaMgE
/- An index behind deeds; what is wanted of a key; the first deed of each key, plainly. -/
namespace Go.Proofs.Ytocmkjccaajnnaa.Ha
open Go.RowKit Pac Bu Ls Lex Go.Proofs.Ytocmkjccaajnnaa.Or

theorem VarH.lt {w : World} {g n cp : Nat} {X : Nat → Prop} {h : H} {A : Option Addr} (v : VarH w g X h A n cp) : VarH w g (fun b => X b ∧ b < w.heap.size) h A n cp := ⟨v.b, v.hn, v.hc, v.hb.lt⟩
/-- Behind a cell of one's own that was written. -/
theorem VarH.past {w w' : World} {g q n cp : Nat} {X : Nat → Prop} {h : H} {A : Option Addr} (v : VarH w g X h A n cp) (hq : w.heap.size ≤ q) (hb : Bar q w w') : VarH w' g X h A n cp :=
  (v.lt.bar hb (by have := v.b.lt; omega) (fun h => by have := h.2; omega)).weak (fun _ h => h.1)
theorem hasL_old {α : Type} {R : α → List Value} {k q lo : Nat} {w w' : World} {A : Option Addr} {l : List α} (h : Li.HasL R k w lo A l) (hq : w.heap.size ≤ q) (hb : Bar q w w') : Li.HasL R k w' lo A l := h.bar hb (Or.inr hq)
theorem other2 {w : World} {b i : Nat} {v : Value} (g : Nat) (x y : Value) (h : w.cell? ⟨b, i, none⟩ = some v) (hne : b ≠ g) : ((w.setCell ⟨g, 0, none⟩ x).setCell ⟨g, 1, none⟩ y).cell? ⟨b, i, none⟩ = some v := by
  rw [World.cell?_setCell_other _ _ _ _ (fun e => hne (by injection e with e; exact e.symm)), World.cell?_setCell_other _ _ _ _ (fun e => hne (by injection e with e; exact e.symm))]
  exact h
/-- A deed is done. -/
def doA (h : H) (a : Ac) : H := if a.k = 0 then putH spread h a.e else if a.k = 1 then dropH spread h a.e.k else if a.k = 2 then halveH spread h else h
def runA (l : List Ac) : H := l.foldl doA newH
theorem run_snoc (l : List Ac) (a : Ac) : runA (l ++ [a]) = doA (runA l) a := by unfold runA; rw [List.foldl_append]; rfl
theorem Idx.doA {h : H} {i : Nat} (hh : Idx spread h i) (hi : i ≤ 200) {a : Ac} (ha : FineP a.e) : Idx spread (doA h a) (i + 1) := by
  unfold Ha.doA
  split
  · exact hh.put hi ha
  · split
    · exact hh.drop _
    · split
      · exact hh.halve hi
      · exact hh.mono (by omega)
theorem run_take {l : List Ac} {q : Nat} {a : Ac} (h : l[q]? = some a) : runA (l.take (q + 1)) = doA (runA (l.take q)) a := by rw [take_snocA h, run_snoc]
theorem Idx.run {l : List Ac} (hf : ∀ a ∈ l, FineP a.e) : ∀ q, q ≤ l.length → q ≤ 200 → Idx spread (runA (l.take q)) q
  | 0, _, _ => by
    rw [List.take_zero]
    exact Idx.new
  | q + 1, hq, h2 => by
    have hg := List.getElem?_eq_getElem (l := l) (i := q) (by omega)
    rw [run_take hg]
    exact (Idx.run hf q (by omega) (by omega)).doA (by omega) (hf _ (List.mem_of_getElem? hg))
/-- What is wanted of a key: as what was put last of it says, if it hasn't gone since. -/
def wantS (k : List UInt8) (o : Option (Int × Int)) (a : Ac) : Option (Int × Int) := if a.e.k = k then (if a.k = 0 then some (a.e.t, a.e.s) else if a.k = 1 then none else o) else o
def wantA (l : List Ac) (k : List UInt8) : Option (Int × Int) := l.foldl (wantS k) none
theorem want_snoc (l : List Ac) (a : Ac) (k : List UInt8) : wantA (l ++ [a]) k = wantS k (wantA l k) a := by unfold wantA; rw [List.foldl_append]; rfl
def atE (e : E) : Int × Int := (e.t, e.s)
theorem place_at (o : Option E) : placeN o = (o.map atE).getD (0, 0) := by cases o <;> rfl
theorem want_do {h : H} (hh : IsH spread h) (a : Ac) (k : List UInt8) : (getH spread (doA h a) k).map atE = wantS k ((getH spread h k).map atE) a := by
  unfold doA wantS
  by_cases h0 : a.k = 0
  · rw [if_pos h0, get_put hh]
    by_cases hk : k = a.e.k
    · rw [if_pos hk, if_pos hk.symm, if_pos h0]
      rfl
    · rw [if_neg hk, if_neg (fun e => hk e.symm)]
  · rw [if_neg h0]
    by_cases h1 : a.k = 1
    · rw [if_pos h1, get_drop hh]
      by_cases hk : k = a.e.k
      · rw [if_pos hk, if_pos hk.symm, if_neg h0, if_pos h1]
        rfl
      · rw [if_neg hk, if_neg (fun e => hk e.symm)]
    · rw [if_neg h1, if_neg h0, if_neg h1]
      split
      · rw [get_halve hh]
        split <;> rfl
      · split <;> rfl
theorem run_is : ∀ (l : List Ac) (h : H), IsH spread h → IsH spread (l.foldl doA h)
  | [], h, hh => hh
  | a :: l, h, hh => run_is l (doA h a) (by
    unfold doA
    split
    · exact put_is hh _
    · split
      · exact drop_is hh _
      · split
        · exact halve_is hh
        · exact hh)
theorem want_run (k : List UInt8) : ∀ (l : List Ac) (h : H) (o : Option (Int × Int)), IsH spread h → (getH spread h k).map atE = o → (getH spread (l.foldl doA h) k).map atE = l.foldl (wantS k) o
  | [], h, o, _, ho => ho
  | a :: l, h, o, hh, ho => want_run k l (doA h a) (wantS k o a) (run_is [a] h hh) (by rw [want_do hh, ho])
theorem want_get (l : List Ac) (k : List UInt8) : (getH spread (runA l) k).map atE = wantA l k := want_run k l newH none new_is (by rw [get_new]; rfl)
theorem wantS_other {k : List UInt8} {o : Option (Int × Int)} {a : Ac} (h : a.e.k ≠ k) : wantS k o a = o := by unfold wantS; rw [if_neg h]
/-- The key of deed number j; whether it is the first of its key. -/
def keyA (l : List Ac) (j : Nat) : List UInt8 := ((l[j]?).map (fun a => a.e.k)).getD []
theorem key_at {l : List Ac} {j : Nat} {a : Ac} (h : l[j]? = some a) : keyA l j = a.e.k := by unfold keyA; rw [h]; rfl
open Classical in
noncomputable def firstB (l : List Ac) (i m : Nat) : Bool := decide (∀ j, j < m → keyA l j = keyA l i → i ≤ j)
theorem first_zero (l : List Ac) (i : Nat) : firstB l i 0 = true := by
  unfold firstB
  exact decide_eq_true fun j hj => absurd hj (by omega)
theorem first_other {l : List Ac} {i m : Nat} (h : keyA l m ≠ keyA l i) : firstB l i (m + 1) = firstB l i m := by
  unfold firstB
  congr 1
  apply propext
  constructor
  · intro q j hj
    exact q j (by omega)
  · intro q j hj hk
    by_cases e : j = m
    · subst e
      exact absurd hk h
    · exact q j (by omega) hk
theorem first_same {l : List Ac} {i m : Nat} (h : keyA l m = keyA l i) : firstB l i (m + 1) = (firstB l i m && decide ((i : Int) ≤ (m : Int))) := by
  unfold firstB
  rw [Bool.eq_iff_iff, Bool.and_eq_true, decide_eq_true_iff, decide_eq_true_iff, decide_eq_true_iff]
  constructor
  · intro q
    exact ⟨fun j hj hk => q j (by omega) hk, by have := q m (by omega) h; omega⟩
  · rintro ⟨q, hm⟩ j hj hk
    by_cases e : j = m
    · subst e
      omega
    · exact q j (by omega) hk
theorem first_iff {l : List Ac} {i : Nat} (hi : i < l.length) : firstB l i l.length = true ↔ ∀ j, j < i → keyA l j ≠ keyA l i := by
  unfold firstB
  rw [decide_eq_true_iff]
  constructor
  · intro q j hj hk
    have := q j (by omega) hk
    omega
  · intro q j _ hk
    by_cases e : j < i
    · exact absurd hk (q j e)
    · omega
/-- How many keys, up to deed number i, are there at the end. -/
noncomputable def cntB (l : List Ac) (i : Nat) : Bool := firstB l i l.length && (wantA l (keyA l i)).isSome
noncomputable def numA (l : List Ac) (i : Nat) : List (List UInt8) := ((List.range i).filter (cntB l)).map (keyA l)
theorem num_next (l : List Ac) (i : Nat) : (numA l (i + 1)).length = (numA l i).length + (if cntB l i = true then 1 else 0) := by
  unfold numA
  rw [List.range_succ, List.filter_append, List.map_append, List.length_append]
  congr 1
  by_cases h : cntB l i = true
  · rw [if_pos h, List.filter_cons_of_pos h]
    rfl
  · rw [if_neg h, List.filter_cons_of_neg h]
    rfl
theorem num_nodup (l : List Ac) : (numA l l.length).Nodup := by
  unfold numA
  rw [List.Nodup, List.pairwise_map]
  have h1 : ((List.range l.length).filter (cntB l)).Pairwise (· < ·) := List.Pairwise.filter _ List.pairwise_lt_range
  refine List.Pairwise.imp_of_mem ?_ h1
  intro a b _ hb hab hk
  have hb' := List.mem_filter.1 hb
  have hbl : b < l.length := List.mem_range.1 hb'.1
  have h2 := hb'.2
  unfold cntB at h2
  rw [Bool.and_eq_true] at h2
  exact (first_iff hbl).1 h2.1 a hab hk
theorem want_mem (k : List UInt8) : ∀ (l : List Ac) (o : Option (Int × Int)), (l.foldl (wantS k) o).isSome = true → o.isSome = true ∨ ∃ a ∈ l, a.e.k = k
  | [], o, h => Or.inl h
  | a :: l, o, h => by
    rcases want_mem k l (wantS k o a) h with h | ⟨x, hx, hk⟩
    · by_cases hk : a.e.k = k
      · exact Or.inr ⟨a, List.mem_cons_self .., hk⟩
      · rw [wantS_other hk] at h
        exact Or.inl h
    · exact Or.inr ⟨x, List.mem_cons_of_mem _ hx, hk⟩
theorem want_some (l : List Ac) (k : List UInt8) (h : (wantA l k).isSome = true) : ∃ j, j < l.length ∧ keyA l j = k := by
  rcases want_mem k l none h with h | ⟨a, ha, hk⟩
  · cases h
  · obtain ⟨j, hj⟩ := List.mem_iff_getElem?.1 ha
    exact ⟨j, (List.getElem?_eq_some_iff.1 hj).1, by rw [key_at hj]; exact hk⟩
theorem first_ex (l : List Ac) (k : List UInt8) : ∀ j, j < l.length → keyA l j = k → ∃ i, i ≤ j ∧ keyA l i = k ∧ ∀ m, m < i → keyA l m ≠ keyA l i := by
  intro j
  induction j using Nat.strongRecOn with
  | ind j ih =>
    intro hj hk
    by_cases h : ∀ m, m < j → keyA l m ≠ keyA l j
    · exact ⟨j, Nat.le_refl _, hk, h⟩
    · obtain ⟨m, hm⟩ := Classical.not_forall.1 h
      obtain ⟨hmj, hm⟩ := Classical.not_imp.1 hm
      obtain ⟨i, h1, h2, h3⟩ := ih m hmj (by omega) (by rw [Classical.not_not.1 hm]; exact hk)
      exact ⟨i, by omega, h2, h3⟩
theorem num_count {l : List Ac} : (numA l l.length).length = countH (runA l) := by
  have hi : IsH spread (runA l) := run_is l newH new_is
  rw [← keys_len]
  refine nodup_same (num_nodup l) hi.nodup fun k => ?_
  rw [keys_mem, hi.has_get]
  have hw : (getH spread (runA l) k).isSome = (wantA l k).isSome := by rw [← want_get, Option.isSome_map]
  rw [hw]
  unfold numA
  rw [List.mem_map]
  constructor
  · rintro ⟨j, hj, rfl⟩
    have h2 := (List.mem_filter.1 hj).2
    unfold cntB at h2
    rw [Bool.and_eq_true] at h2
    exact h2.2
  · intro h
    obtain ⟨j, hj, hk⟩ := want_some l k h
    obtain ⟨i, h1, h2, h3⟩ := first_ex l k j hj hk
    refine ⟨i, List.mem_filter.2 ⟨List.mem_range.2 (by omega), ?_⟩, h2⟩
    unfold cntB
    rw [Bool.and_eq_true]
    exact ⟨(first_iff (by omega)).2 h3, by rw [h2]; exact h⟩
theorem wantS_put {k : List UInt8} {o : Option (Int × Int)} {a : Ac} (h : a.e.k = k) (h0 : a.k = 0) : wantS k o a = some (a.e.t, a.e.s) := by unfold wantS; rw [if_pos h, if_pos h0]
theorem wantS_drop {k : List UInt8} {o : Option (Int × Int)} {a : Ac} (h : a.e.k = k) (h0 : ¬ a.k = 0) (h1 : a.k = 1) : wantS k o a = none := by unfold wantS; rw [if_pos h, if_neg h0, if_pos h1]
theorem wantS_else {k : List UInt8} {o : Option (Int × Int)} {a : Ac} (h0 : ¬ a.k = 0) (h1 : ¬ a.k = 1) : wantS k o a = o := by unfold wantS; rw [if_neg h0, if_neg h1]; split <;> rfl
end Go.Proofs.Ytocmkjccaajnnaa.Ha

/- An index behind puts alone, and behind halvings; in whatever order, plainly. -/
namespace Go.Proofs.Ytocmkjccaajnnaa.Ha
open Go.RowKit Pac Bu Ls Lex Go.Proofs.Ytocmkjccaajnnaa.Or

def putsA (l : List Ac) : H := l.foldl (fun h a => putH spread h a.e) newH
theorem puts_take {l : List Ac} {q : Nat} {a : Ac} (h : l[q]? = some a) : putsA (l.take (q + 1)) = putH spread (putsA (l.take q)) a.e := by
  rw [take_snocA h]
  unfold putsA
  rw [List.foldl_append]
  rfl
theorem Idx.puts {l : List Ac} (hf : ∀ a ∈ l, FineP a.e) : ∀ q, q ≤ l.length → q ≤ 200 → Idx spread (putsA (l.take q)) q
  | 0, _, _ => by
    rw [List.take_zero]
    exact Idx.new
  | q + 1, hq, h2 => by
    have hg := List.getElem?_eq_getElem (l := l) (i := q) (by omega)
    rw [puts_take hg]
    exact (Idx.puts hf q (by omega) (by omega)).put (by omega) (hf _ (List.mem_of_getElem? hg))
theorem puts_has {l : List Ac} (hf : ∀ a ∈ l, FineP a.e) : ∀ q, q ≤ l.length → q ≤ 200 → ∀ k, hasK (putsA (l.take q)) k ↔ ∃ a ∈ l.take q, a.e.k = k
  | 0, _, _, k => by
    rw [List.take_zero]
    constructor
    · rintro ⟨e, he, _⟩
      exact absurd he (new_mem e)
    · rintro ⟨a, ha, _⟩
      cases ha
  | q + 1, hq, h2, k => by
    have hg := List.getElem?_eq_getElem (l := l) (i := q) (by omega)
    rw [puts_take hg, put_has (Idx.puts hf q (by omega) (by omega)).is, puts_has hf q (by omega) (by omega) k, take_snocA hg]
    constructor
    · rintro (rfl | ⟨a, ha, hk⟩)
      · exact ⟨_, List.mem_append.2 (Or.inr (List.mem_singleton.2 rfl)), rfl⟩
      · exact ⟨a, List.mem_append.2 (Or.inl ha), hk⟩
    · rintro ⟨a, ha, hk⟩
      rcases List.mem_append.1 ha with ha | ha
      · exact Or.inr ⟨a, ha, hk⟩
      · obtain rfl := List.mem_singleton.1 ha
        exact Or.inl hk.symm
def halves : Nat → H → H
  | 0, h => h
  | t + 1, h => halveH spread (halves t h)
theorem Idx.halves {h : H} {m : Nat} (hh : Idx spread h m) : ∀ t, m + t ≤ 200 → Idx spread (halves t h) (m + t)
  | 0, _ => hh
  | t + 1, ht => (Idx.halves hh t (by omega)).halve (by omega)
theorem halves_len {h : H} {m : Nat} (hh : Idx spread h m) : ∀ t, m + t ≤ 200 → (halves t h).bs.length = h.bs.length + t
  | 0, _ => rfl
  | t + 1, ht => by
    have hi := Idx.halves hh t (by omega)
    have hl := hi.len
    show (halveH spread (halves t h)).bs.length = _
    rw [halve_len (hi.is.lv8 (by omega)), halves_len hh t (by omega)]
    omega
theorem halves_count {h : H} {m : Nat} (hh : Idx spread h m) : ∀ t, m + t ≤ 200 → countH (halves t h) = countH h
  | 0, _ => rfl
  | t + 1, ht => by
    show countH (halveH spread (halves t h)) = _
    rw [halve_count (Idx.halves hh t (by omega)).is, halves_count hh t (by omega)]
theorem halves_get {h : H} {m : Nat} (hh : Idx spread h m) (k : List UInt8) : ∀ t, m + t ≤ 200 → getH spread (halves t h) k = getH spread h k
  | 0, _ => rfl
  | t + 1, ht => by
    show getH spread (halveH spread (halves t h)) k = _
    rw [get_halve (Idx.halves hh t (by omega)).is, halves_get hh k t (by omega)]
/-- Unlike keys. -/
def Apart1 (l : List Ac) : Prop := ∀ (i j : Nat) (a b : Ac), j < i → l[i]? = some a → l[j]? = some b → b.e.k ≠ a.e.k
theorem puts_count {l : List Ac} (hf : ∀ a ∈ l, FineP a.e) (hd : Apart1 l) : ∀ q, q ≤ l.length → q ≤ 200 → countH (putsA (l.take q)) = q
  | 0, _, _ => by rw [List.take_zero]; rfl
  | q + 1, hq, h2 => by
    have hg := List.getElem?_eq_getElem (l := l) (i := q) (by omega)
    have hi := Idx.puts hf q (by omega) (by omega)
    have hnew : ¬ hasK (putsA (l.take q)) (l[q]'(by omega)).e.k := fun h => by
      obtain ⟨a, ha, hk⟩ := (puts_has hf q (by omega) (by omega) _).1 h
      obtain ⟨j, hj⟩ := List.mem_iff_getElem?.1 ha
      have hjq : j < q := by have := (List.getElem?_eq_some_iff.1 hj).1; rw [List.length_take] at this; omega
      rw [List.getElem?_take, if_pos hjq] at hj
      exact hd q j _ _ hjq hg hj hk
    rw [puts_take hg, (hi.put_new (by omega) hnew).1, puts_count hf hd q (by omega) (by omega)]
/-- As many buckets as entries tell. -/
def lenF : Nat → Nat
  | 0 => 1
  | q + 1 => if 4 * lenF q < q + 1 then lenF q + 1 else lenF q
theorem puts_len {l : List Ac} (hf : ∀ a ∈ l, FineP a.e) (hd : Apart1 l) : ∀ q, q ≤ l.length → q ≤ 200 → (putsA (l.take q)).bs.length = lenF q
  | 0, _, _ => by rw [List.take_zero]; rfl
  | q + 1, hq, h2 => by
    have hg := List.getElem?_eq_getElem (l := l) (i := q) (by omega)
    have hi := Idx.puts hf q (by omega) (by omega)
    have hnew : ¬ hasK (putsA (l.take q)) (l[q]'(by omega)).e.k := fun h => by
      obtain ⟨a, ha, hk⟩ := (puts_has hf q (by omega) (by omega) _).1 h
      obtain ⟨j, hj⟩ := List.mem_iff_getElem?.1 ha
      have hjq : j < q := by have := (List.getElem?_eq_some_iff.1 hj).1; rw [List.length_take] at this; omega
      rw [List.getElem?_take, if_pos hjq] at hj
      exact hd q j _ _ hjq hg hj hk
    rw [puts_take hg, (hi.put_new (by omega) hnew).2, puts_count hf hd q (by omega) (by omega), puts_len hf hd q (by omega) (by omega)]
    rfl
theorem puts_mem {l : List Ac} (hf : ∀ a ∈ l, FineP a.e) (hd : Apart1 l) : ∀ q, q ≤ l.length → q ≤ 200 → ∀ x, memH (putsA (l.take q)) x ↔ ∃ a ∈ l.take q, x = a.e
  | 0, _, _, x => by
    rw [List.take_zero]
    constructor
    · intro h
      exact absurd h (new_mem x)
    · rintro ⟨a, ha, _⟩
      cases ha
  | q + 1, hq, h2, x => by
    have hg := List.getElem?_eq_getElem (l := l) (i := q) (by omega)
    have hi := Idx.puts hf q (by omega) (by omega)
    rw [puts_take hg, put_mem hi.is, puts_mem hf hd q (by omega) (by omega) x, take_snocA hg]
    constructor
    · rintro (rfl | ⟨⟨a, ha, hk⟩, _⟩)
      · exact ⟨_, List.mem_append.2 (Or.inr (List.mem_singleton.2 rfl)), rfl⟩
      · exact ⟨a, List.mem_append.2 (Or.inl ha), hk⟩
    · rintro ⟨a, ha, rfl⟩
      rcases List.mem_append.1 ha with ha | ha
      · refine Or.inr ⟨⟨a, ha, rfl⟩, ?_⟩
        obtain ⟨j, hj⟩ := List.mem_iff_getElem?.1 ha
        have hjq : j < q := by have := (List.getElem?_eq_some_iff.1 hj).1; rw [List.length_take] at this; omega
        rw [List.getElem?_take, if_pos hjq] at hj
        exact hd q j _ _ hjq hg hj
      · obtain rfl := List.mem_singleton.1 ha
        exact Or.inl rfl
/-- Turned about: the deeds from number k on, then those before. -/
def turnA (l : List Ac) (k : Nat) : List Ac := l.drop k ++ l.take k
theorem turn_len (l : List Ac) (k : Nat) (hk : k ≤ l.length) : (turnA l k).length = l.length := by unfold turnA; rw [List.length_append, List.length_drop, List.length_take]; omega
theorem turn_mem (l : List Ac) (k : Nat) (a : Ac) : a ∈ turnA l k ↔ a ∈ l := by
  unfold turnA
  rw [List.mem_append]
  constructor
  · rintro (h | h)
    · exact List.mem_of_mem_drop h
    · exact List.mem_of_mem_take h
  · intro h
    rw [← List.take_append_drop k l] at h
    exact (List.mem_append.1 h).symm
theorem turn_at {l : List Ac} {k i : Nat} (hk : k < l.length) (hi : i < l.length) : (turnA l k)[i]? = l[(i + k) % l.length]? := by
  unfold turnA
  by_cases h : i < l.length - k
  · rw [List.getElem?_append_left (by rw [List.length_drop]; exact h), List.getElem?_drop, Nat.mod_eq_of_lt (by omega), Nat.add_comm]
  · rw [List.getElem?_append_right (by rw [List.length_drop]; omega), List.length_drop, List.getElem?_take, if_pos (by omega)]
    have h2 : (i + k) % l.length = i + k - l.length := by
      rw [Nat.mod_eq_sub_mod (by omega), Nat.mod_eq_of_lt (by omega)]
    rw [h2]
    congr 1
    omega
theorem turn_apart {l : List Ac} {k : Nat} (hk : k < l.length) (hd : Apart1 l) : Apart1 (turnA l k) := by
  have hd2 : ∀ (i j : Nat) (a b : Ac), i ≠ j → l[i]? = some a → l[j]? = some b → b.e.k ≠ a.e.k := fun i j a b hij ha hb => by
    rcases Nat.lt_or_gt_of_ne hij with h | h
    · exact fun e => hd j i b a h hb ha e.symm
    · exact hd i j a b h ha hb
  intro i j a b hji ha hb
  have hi : i < l.length := by have := (List.getElem?_eq_some_iff.1 ha).1; rw [turn_len l k (by omega)] at this; exact this
  have hj : j < l.length := by omega
  rw [turn_at hk hi] at ha
  rw [turn_at hk hj] at hb
  refine hd2 _ _ a b ?_ ha hb
  by_cases h1 : i + k < l.length
  · rw [Nat.mod_eq_of_lt h1, Nat.mod_eq_of_lt (by omega)]
    omega
  · rw [Nat.mod_eq_sub_mod (a := i + k) (by omega), Nat.mod_eq_of_lt (a := i + k - l.length) (by omega)]
    by_cases h2 : j + k < l.length
    · rw [Nat.mod_eq_of_lt h2]
      omega
    · rw [Nat.mod_eq_sub_mod (a := j + k) (by omega), Nat.mod_eq_of_lt (a := j + k - l.length) (by omega)]
      omega
theorem same_puts {l l' : List Ac} (hf : ∀ a ∈ l, FineP a.e) (hf' : ∀ a ∈ l', FineP a.e) (hd : Apart1 l) (hd' : Apart1 l') (hl : l.length = l'.length) (h2 : l.length ≤ 200) (hm : ∀ a, a ∈ l ↔ a ∈ l') : putsA l = putsA l' := by
  have e1 : l.take l.length = l := List.take_length
  have e2 : l'.take l'.length = l' := List.take_length
  have i1 := Idx.puts hf l.length (Nat.le_refl _) h2
  have i2 := Idx.puts hf' l'.length (Nat.le_refl _) (by omega)
  have n1 := puts_len hf hd l.length (Nat.le_refl _) h2
  have n2 := puts_len hf' hd' l'.length (Nat.le_refl _) (by omega)
  have m1 := puts_mem hf hd l.length (Nat.le_refl _) h2
  have m2 := puts_mem hf' hd' l'.length (Nat.le_refl _) (by omega)
  rw [e1] at i1 n1 m1
  rw [e2] at i2 n2 m2
  rw [i1.is.len] at n1
  rw [i2.is.len] at n2
  obtain ⟨h3, h4⟩ := len_tells i1.is.nx i2.is.nx (by rw [n1, n2, hl])
  refine same_index i1.is i2.is h3 h4 fun x => ?_
  rw [m1, m2]
  constructor
  · rintro ⟨a, ha, rfl⟩
    exact ⟨a, (hm a).1 ha, rfl⟩
  · rintro ⟨a, ha, rfl⟩
    exact ⟨a, (hm a).2 ha, rfl⟩
end Go.Proofs.Ytocmkjccaajnnaa.Ha

/- A variable of four cells (a deed); two indexes in variables of their own. -/
namespace Go.Proofs.Ytocmkjccaajnnaa.Ha
open Go.RowKit Pac Bu Ls Lex Go.Proofs.Ytocmkjccaajnnaa.Or

structure Box4 (w : World) (g : Nat) (v0 v1 v2 v3 : Value) : Prop where
  c0 : w.cell? ⟨g, 0, none⟩ = some v0
  c1 : w.cell? ⟨g, 1, none⟩ = some v1
  c2 : w.cell? ⟨g, 2, none⟩ = some v2
  c3 : w.cell? ⟨g, 3, none⟩ = some v3
  f : ∀ i, w.frozen? ⟨g, i, none⟩ = false
section
variable {w w' : World} {g q B : Nat} {v0 v1 v2 v3 : Value}
theorem Box4.lt (h : Box4 w g v0 v1 v2 v3) : g < w.heap.size := World.block_lt_of_cell? w _ h.c0
theorem Box4.bar (h : Box4 w g v0 v1 v2 v3) (hb : Bar q w w') (hne : g ≠ q) : Box4 w' g v0 v1 v2 v3 :=
  ⟨(hb.cell h.lt hne).trans h.c0, (hb.cell h.lt hne).trans h.c1, (hb.cell h.lt hne).trans h.c2, (hb.cell h.lt hne).trans h.c3, fun i => (hb.frozen h.lt hne).trans (h.f i)⟩
theorem Box4.below (h : Box4 w g v0 v1 v2 v3) (hb : Below B w w') (hB : g < B) : Box4 w' g v0 v1 v2 v3 :=
  ⟨(hb.cell (p := ⟨g, 0, none⟩) hB).trans h.c0, (hb.cell (p := ⟨g, 1, none⟩) hB).trans h.c1, (hb.cell (p := ⟨g, 2, none⟩) hB).trans h.c2, (hb.cell (p := ⟨g, 3, none⟩) hB).trans h.c3, fun i => (hb.frozen (p := ⟨g, i, none⟩) hB).trans (h.f i)⟩
theorem Box4.new (w : World) (v0 v1 v2 v3 : Value) (t : TypeId) : Box4 (w.alloc (.cells #[v0, v1, v2, v3] t)) w.heap.size v0 v1 v2 v3 := by
  constructor <;> simp [go_sem]
/-- All four are stored. -/
theorem Box4.put (h : Box4 w g v0 v1 v2 v3) (a b c d : Value) : Box4 ((((w.setCell ⟨g, 0, none⟩ a).setCell ⟨g, 1, none⟩ b).setCell ⟨g, 2, none⟩ c).setCell ⟨g, 3, none⟩ d) g a b c d := by
  have h0 : ∀ (W : World) (i j : Nat) (u : Value), i ≠ j → (W.setCell ⟨g, j, none⟩ u).cell? ⟨g, i, none⟩ = W.cell? ⟨g, i, none⟩ := fun W i j u hij => World.cell?_setCell_other W _ _ u (fun e => hij (by injection e with _ e; exact e.symm))
  have hs : ∀ (W : World) (i : Nat) (u v : Value), W.cell? ⟨g, i, none⟩ = some v → (W.setCell ⟨g, i, none⟩ u).cell? ⟨g, i, none⟩ = some u := fun W i u v hv => World.cell?_setCell_same _ _ _ hv
  refine ⟨?_, ?_, ?_, ?_, fun i => by simp [h.f]⟩
  · rw [h0 _ 0 3 _ (by decide), h0 _ 0 2 _ (by decide), h0 _ 0 1 _ (by decide)]
    exact hs _ 0 a v0 h.c0
  · rw [h0 _ 1 3 _ (by decide), h0 _ 1 2 _ (by decide)]
    exact hs _ 1 b v1 (by rw [h0 _ 1 0 _ (by decide)]; exact h.c1)
  · rw [h0 _ 2 3 _ (by decide)]
    exact hs _ 2 c v2 (by rw [h0 _ 2 1 _ (by decide), h0 _ 2 0 _ (by decide)]; exact h.c2)
  · exact hs _ 3 d v3 (by rw [h0 _ 3 2 _ (by decide), h0 _ 3 1 _ (by decide), h0 _ 3 0 _ (by decide)]; exact h.c3)
end
theorem cell_belowB2 {w w' : World} {N b i : Nat} {v : Value} (h : Below N w w') (hc : w.cell? ⟨b, i, none⟩ = some v) (hN : w.heap.size = N) : w'.cell? ⟨b, i, none⟩ = some v :=
  (h.cell (p := ⟨b, i, none⟩) (by rw [← hN]; exact World.block_lt_of_cell? w _ hc)).trans hc
theorem below4 {w0 w : World} {B g : Nat} (hb : Below B w0 w) (hg : B ≤ g) (x y z u : Value) : Below B w0 ((((w.setCell ⟨g, 0, none⟩ x).setCell ⟨g, 1, none⟩ y).setCell ⟨g, 2, none⟩ z).setCell ⟨g, 3, none⟩ u) :=
  (((hb.setCell (p := ⟨g, 0, none⟩) hg x).setCell (p := ⟨g, 1, none⟩) hg y).setCell (p := ⟨g, 2, none⟩) hg z).setCell (p := ⟨g, 3, none⟩) hg u
theorem bar4 (w : World) (g : Nat) (a b c d : Value) : Bar g w ((((w.setCell ⟨g, 0, none⟩ a).setCell ⟨g, 1, none⟩ b).setCell ⟨g, 2, none⟩ c).setCell ⟨g, 3, none⟩ d) :=
  ((((Bar.refl g w).setCell 0 a).setCell 1 b).setCell 2 c).setCell 3 d
theorem bar3 (w : World) (g : Nat) (a b c : Value) : Bar g w (((w.setCell ⟨g, 0, none⟩ a).setCell ⟨g, 1, none⟩ b).setCell ⟨g, 2, none⟩ c) :=
  (((Bar.refl g w).setCell 0 a).setCell 1 b).setCell 2 c
/-- Two indexes that the laws keep: x at gx, y at gy. -/
structure Duo (w W : World) (gx gy : Nat) (x y : H) (A : Option Addr) (n c : Nat) (B : Option Addr) (m d : Nat) : Prop where
  x : VarH W gx (fun b => b ≠ gx ∧ b ≠ gy) x A n c
  y : VarH W gy (fun b => b ≠ gx ∧ b ≠ gy) y B m d
  b : Below w.heap.size w W
  ne : gx ≠ gy
  gx : w.heap.size ≤ gx
  gy : w.heap.size ≤ gy
section
variable {w W W' : World} {gx gy : Nat} {x y : H} {A : Option Addr} {n c : Nat} {B : Option Addr} {m d : Nat}
theorem Duo.below (h : Duo w W gx gy x y A n c B m d) (hb : Below W.heap.size W W') : Duo w W' gx gy x y A n c B m d :=
  ⟨h.x.below hb, h.y.below hb, h.b.trans (hb.mono h.b.size), h.ne, h.gx, h.gy⟩
/-- Behind a variable of the walk's own that was written. -/
theorem Duo.past (h : Duo w W gx gy x y A n c B m d) {W0 : World} {q : Nat} (h0 : Duo w W0 gx gy x y A n c B m d) (hq : W0.heap.size ≤ q) (hb : Bar q W0 W') : Duo w W' gx gy x y A n c B m d :=
  ⟨h0.x.past hq hb, h0.y.past hq hb, h0.b.trans (hb.below (Nat.le_trans h0.b.size hq) h0.b.size), h.ne, h.gx, h.gy⟩
theorem Duo.putX (h : Duo w W gx gy x y A n c B m d) {x' : H} {A' : Option Addr} {n' c' : Nat} (hn : x'.bs.length = n') (hc : n' ≤ c') (hb : HasBsX W (fun b => b ≠ gx ∧ b ≠ gy) A' x'.bs) :
    Duo w (((W.setCell ⟨gx, 0, none⟩ (.int .i64 (x'.lv : Nat))).setCell ⟨gx, 1, none⟩ (.int .i64 (x'.nx : Nat))).setCell ⟨gx, 2, none⟩ (.slice A' n' c')) gx gy x' y A' n' c' B m d :=
  ⟨VarH.store h.x.b hn hc hb (fun h => h.1 rfl), h.y.other (Ne.symm h.ne) (fun h => h.1 rfl) _ _ _, store3_below h.b h.gx _ _ _, h.ne, h.gx, h.gy⟩
theorem Duo.putY (h : Duo w W gx gy x y A n c B m d) {y' : H} {A' : Option Addr} {n' c' : Nat} (hn : y'.bs.length = n') (hc : n' ≤ c') (hb : HasBsX W (fun b => b ≠ gx ∧ b ≠ gy) A' y'.bs) :
    Duo w (((W.setCell ⟨gy, 0, none⟩ (.int .i64 (y'.lv : Nat))).setCell ⟨gy, 1, none⟩ (.int .i64 (y'.nx : Nat))).setCell ⟨gy, 2, none⟩ (.slice A' n' c')) gx gy x y' A n c A' n' c' :=
  ⟨h.x.other h.ne (fun h => h.2 rfl) _ _ _, VarH.store h.y.b hn hc hb (fun h => h.2 rfl), store3_below h.b h.gy _ _ _, h.ne, h.gx, h.gy⟩
theorem duo_x (h : Duo w W gx gy x y A n c B m d) {W0 W1 : World} {x' : H} {A' : Option Addr} (hW : W0.heap.size ≥ W.heap.size) (hb : HasBsX W1 (fun b => (b ≠ gx ∧ b ≠ gy) ∨ W0.heap.size ≤ b) A' x'.bs) : HasBsX W1 (fun b => b ≠ gx ∧ b ≠ gy) A' x'.bs :=
  hash_x hb (fun b hb => by have := h.x.b.lt; have := h.y.b.lt; omega)
end
theorem duo_new {w w3 : World} {h : H} {A B : Option Addr} {n c m d : Nat} {Xa Xb : Nat → Prop} (hB : Below w.heap.size w w3) (hn : h.bs.length = n) (hc : n ≤ c) (hb : HasBsX w3 Xa A h.bs) (hn2 : h.bs.length = m) (hc2 : m ≤ d) (hb2 : HasBsX w3 Xb B h.bs) :
    Duo w ((w3.alloc (.cells #[.int .i64 (h.lv : Nat), .int .i64 (h.nx : Nat), .slice A n c] 27)).alloc (.cells #[.int .i64 (h.lv : Nat), .int .i64 (h.nx : Nat), .slice B m d] 27)) w3.heap.size (w3.heap.size + 1) h h A n c B m d := by
  have h1 := VarH.new hn hc (hb.lt.mono (Y := fun b => b < w3.heap.size) (fun _ h => h.2))
  have hnew := (Below.refl w3.heap.size w3).alloc (Nat.le_refl _) (.cells #[.int .i64 (h.lv : Nat), .int .i64 (h.nx : Nat), .slice A n c] 27)
  have hs : (w3.alloc (.cells #[.int .i64 (h.lv : Nat), .int .i64 (h.nx : Nat), .slice A n c] 27)).heap.size = w3.heap.size + 1 := by simp
  have hb2 := (hb2.lt.mono (Y := fun b => b < w3.heap.size) (fun _ h => h.2)).below hnew (Nat.le_refl _)
  have hB1 := hB.trans (hnew.mono hB.size)
  generalize w3.alloc (.cells #[.int .i64 (h.lv : Nat), .int .i64 (h.nx : Nat), .slice A n c] 27) = w4 at h1 hs hb2 hB1 ⊢
  have h2 := VarH.new hn2 hc2 hb2
  have hnew2 := (Below.refl w4.heap.size w4).alloc (Nat.le_refl _) (.cells #[.int .i64 (h.lv : Nat), .int .i64 (h.nx : Nat), .slice B m d] 27)
  have h1 := h1.below hnew2
  rw [hs] at h2
  have hle := hB.size
  exact ⟨h1.weak (fun b h => by omega), h2.weak (fun b h => by omega), hB1.trans (hnew2.mono hB1.size), by omega, hle, by omega⟩
end Go.Proofs.Ytocmkjccaajnnaa.Ha
