/- Which pages are taken, plainly: bits of bytes. No program. -/
namespace Go.Proofs.Ytbeojghlldiniaa.Pl
/-- A byte with one of its bits another one. -/
def setB (b : UInt8) (k : Nat) (t : Bool) : UInt8 := UInt8.ofNat (if t then (if b.toNat.testBit k then b.toNat else b.toNat + 2 ^ k) else (if b.toNat.testBit k then b.toNat - 2 ^ k else b.toNat))
set_option maxRecDepth 100000 in
theorem setN_bit : ∀ b < 256, ∀ k < 8, ∀ t : Bool, ∀ j < 8, ((if t then (if Nat.testBit b k then b else b + 2 ^ k) else (if Nat.testBit b k then b - 2 ^ k else b)) % 256).testBit j = if j = k then t else b.testBit j := by decide +kernel
theorem setB_bit (b : UInt8) {k j : Nat} (hk : k < 8) (hj : j < 8) (t : Bool) : (setB b k t).toNat.testBit j = if j = k then t else b.toNat.testBit j := by
  have := setN_bit b.toNat b.toNat_lt k hk t j hj
  unfold setB
  rw [UInt8.toNat_ofNat']
  exact this
set_option maxRecDepth 100000 in
theorem bits_eq : ∀ a < 256, ∀ b < 256, (∀ j < 8, Nat.testBit a j = Nat.testBit b j) → a = b := by
  intro a ha b hb h
  apply Nat.eq_of_testBit_eq
  intro i
  by_cases hi : i < 8
  · exact h i hi
  · have h2 : 2 ^ 8 ≤ 2 ^ i := Nat.pow_le_pow_right (by decide) (by omega)
    rw [Nat.testBit_lt_two_pow (by omega), Nat.testBit_lt_two_pow (by omega)]
theorem byte_eq {a b : UInt8} (h : ∀ j < 8, a.toNat.testBit j = b.toNat.testBit j) : a = b := UInt8.toNat_inj.1 (bits_eq _ a.toNat_lt _ b.toNat_lt h)
/-- Is a page taken? -/
def tk (l : List UInt8) (i : Nat) : Bool := decide (i < 512) && decide (i / 8 < l.length) && (l.getD (i / 8) 0).toNat.testBit (i % 8)
/-- With a page taken, or free. -/
def mk (l : List UInt8) (i : Nat) (t : Bool) : List UInt8 := if i < 512 ∧ i / 8 < l.length then l.set (i / 8) (setB (l.getD (i / 8) 0) (i % 8) t) else l
section
variable {l m : List UInt8} {i j p : Nat} {t : Bool}
theorem mk_len : (mk l i t).length = l.length := by unfold mk; split <;> simp
theorem getD_set {α : Type} {l : List α} {i j : Nat} {v d : α} (h : i < l.length) : (l.set i v).getD j d = if j = i then v else l.getD j d := by
  by_cases e : j = i
  · subst e; rw [if_pos rfl]; simp [List.getD_eq_getElem?_getD, List.getElem?_set, h]
  · rw [if_neg e]; simp [List.getD_eq_getElem?_getD, List.getElem?_set, Ne.symm e]
theorem mk_getD (hi : i < 512 ∧ i / 8 < l.length) : (mk l i t).getD p 0 = if p = i / 8 then setB (l.getD (i / 8) 0) (i % 8) t else l.getD p 0 := by
  unfold mk
  rw [if_pos hi, getD_set hi.2]
theorem mk_high (hp : 64 ≤ p) : (mk l i t).getD p 0 = l.getD p 0 := by
  by_cases hi : i < 512 ∧ i / 8 < l.length
  · rw [mk_getD hi, if_neg (by omega)]
  · unfold mk; rw [if_neg hi]
theorem tk_mk (hi : i < 512 ∧ i / 8 < l.length) : tk (mk l i t) j = if j = i then t else tk l j := by
  unfold tk
  rw [mk_len, mk_getD hi]
  by_cases e : j = i
  · subst e
    rw [if_pos rfl, if_pos rfl, setB_bit _ (Nat.mod_lt _ (by decide)) (Nat.mod_lt _ (by decide)), if_pos rfl, decide_eq_true hi.1, decide_eq_true hi.2]
    rfl
  · rw [if_neg e]
    by_cases e2 : j / 8 = i / 8
    · rw [if_pos e2, setB_bit _ (Nat.mod_lt _ (by decide)) (Nat.mod_lt _ (by decide)), if_neg (by omega), e2]
    · rw [if_neg e2]
theorem tk_out (h : ¬ (i < 512 ∧ i / 8 < l.length)) : tk l i = false := by
  unfold tk
  by_cases h1 : i < 512
  · rw [decide_eq_false (p := i / 8 < l.length) (fun h2 => h ⟨h1, h2⟩)]; simp
  · rw [decide_eq_false h1]; simp
theorem ext_tk (hl : l.length = m.length) (h : ∀ j < 512, tk l j = tk m j) (h2 : ∀ p, 64 ≤ p → l.getD p 0 = m.getD p 0) : l = m := by
  have hg : ∀ p, p < l.length → l.getD p 0 = m.getD p 0 := fun p hp => by
    by_cases hp64 : 64 ≤ p
    · exact h2 p hp64
    · apply byte_eq
      intro j hj
      have := h (8 * p + j) (by omega)
      unfold tk at this
      rw [show (8 * p + j) / 8 = p by omega, show (8 * p + j) % 8 = j by omega, decide_eq_true (show 8 * p + j < 512 by omega), decide_eq_true hp, decide_eq_true (show p < m.length by omega)] at this
      simpa using this
  apply List.ext_getElem hl
  intro p h1 h3
  have := hg p h1
  simpa [List.getD_eq_getElem?_getD, h1, h3] using this
/-- Where the catalog begins. -/
def rootN (l : List UInt8) : Nat := if l.length < 66 then 0 else (l.getD 64 0).toNat * 256 + (l.getD 65 0).toNat
def setR (l : List UInt8) (n : Nat) : List UInt8 := if l.length < 66 ∨ 512 ≤ n then l else (l.set 64 (UInt8.ofNat (n / 256))).set 65 (UInt8.ofNat n)
theorem setR_len {n : Nat} : (setR l n).length = l.length := by unfold setR; split <;> simp
theorem setR_getD {n : Nat} (h : ¬ (l.length < 66 ∨ 512 ≤ n)) : (setR l n).getD p 0 = if p = 65 then UInt8.ofNat n else if p = 64 then UInt8.ofNat (n / 256) else l.getD p 0 := by
  unfold setR
  rw [if_neg h, getD_set (by rw [List.length_set]; omega), getD_set (by omega)]
theorem tk_setR {n : Nat} : tk (setR l n) j = tk l j := by
  by_cases h : l.length < 66 ∨ 512 ≤ n
  · unfold setR; rw [if_pos h]
  · by_cases hj : j < 512
    · unfold tk
      rw [setR_len, setR_getD h, if_neg (by omega), if_neg (by omega)]
    · rw [tk_out (by omega), tk_out (by omega)]
theorem root_setR {n : Nat} (h : 66 ≤ l.length) (hn : n < 512) : rootN (setR l n) = n := by
  unfold rootN
  rw [setR_len, if_neg (by omega), setR_getD (by omega), setR_getD (by omega)]
  simp
  omega
theorem root_mk : rootN (mk l i t) = rootN l := by
  unfold rootN
  rw [mk_len, mk_high (by decide), mk_high (by decide)]
/-- The pages that are free, of so many. -/
def freeL (l : List UInt8) (p : Nat) : List Nat := (List.range (min p 512)).filter (fun i => !tk l i)
theorem mem_free : i ∈ freeL l p ↔ i < min p 512 ∧ tk l i = false := by simp [freeL]
theorem free_nodup : (freeL l p).Nodup := List.Pairwise.filter _ List.nodup_range
/-- The first free ones, so many. -/
def pickL (l : List UInt8) (p n : Nat) : Option (List Nat) := if n ≤ (freeL l p).length then some ((freeL l p).take n) else none
theorem pick_len {n : Nat} {r : List Nat} (h : pickL l p n = some r) : r.length = n := by
  unfold pickL at h
  split at h
  · rename_i hn
    injection h with h
    subst h
    rw [List.length_take]; omega
  · cases h
theorem pick_mem {n : Nat} {r : List Nat} (h : pickL l p n = some r) (hi : i ∈ r) : i ∈ freeL l p := by
  unfold pickL at h
  split at h
  · injection h with h
    subst h
    exact List.mem_of_mem_take hi
  · cases h
theorem free_split {q : Nat} (h : q ≤ min p 512) : freeL l p = freeL l q ++ ((List.range' q (min p 512 - q)).filter (fun i => !tk l i)) := by
  unfold freeL
  rw [show min q 512 = q by omega, ← List.filter_append]
  congr 1
  rw [List.range_eq_range', List.range_eq_range']
  have := List.range'_append_1 (s := 0) (m := q) (n := min p 512 - q)
  rw [Nat.zero_add] at this
  rw [this]
  congr 1
  omega
theorem free_succ {q : Nat} (hq : q < 512) : freeL l (q + 1) = if tk l q = true then freeL l q else freeL l q ++ [q] := by
  unfold freeL
  rw [show min (q + 1) 512 = q + 1 by omega, show min q 512 = q by omega, List.range_succ, List.filter_append]
  cases h : tk l q <;> simp [h]
/-- Behind as many free ones as are ahead of it stands the next free one. -/
theorem free_at {q : Nat} (hq : q < min p 512) (ht : tk l q = false) : (freeL l p)[(freeL l q).length]? = some q := by
  rw [free_split (Nat.le_of_lt hq), List.getElem?_append_right (Nat.le_refl _), Nat.sub_self]
  obtain ⟨n, hn⟩ : ∃ n, min p 512 - q = n + 1 := ⟨min p 512 - q - 1, by omega⟩
  rw [hn, List.range'_succ, List.filter_cons, if_pos (by simp [ht])]
  rfl
/-- Many pages marked. -/
def mks (l : List UInt8) (t : Bool) (r : List Nat) : List UInt8 := r.foldl (fun l i => mk l i t) l
theorem mks_snoc {r : List Nat} : mks l t (r ++ [i]) = mk (mks l t r) i t := by unfold mks; rw [List.foldl_append]; rfl
theorem mks_cons {r : List Nat} : mks l t (i :: r) = mks (mk l i t) t r := rfl
theorem mks_len {r : List Nat} : (mks l t r).length = l.length := by
  induction r generalizing l with
  | nil => rfl
  | cons i r ih => rw [mks_cons, ih, mk_len]
theorem mks_high {r : List Nat} (hp : 64 ≤ p) : (mks l t r).getD p 0 = l.getD p 0 := by
  induction r generalizing l with
  | nil => rfl
  | cons i r ih => rw [mks_cons, ih, mk_high hp]
theorem tk_mks {r : List Nat} (h : ∀ i ∈ r, i < 512 ∧ i / 8 < l.length) : tk (mks l t r) j = if j ∈ r then t else tk l j := by
  induction r generalizing l with
  | nil => simp [mks]
  | cons i r ih =>
    rw [mks_cons, ih (fun k hk => by rw [mk_len]; exact h k (by simp [hk])), tk_mk (h i (by simp))]
    by_cases e : j = i
    · subst e; simp
    · by_cases e2 : j ∈ r <;> simp [e, e2]
/-- Marked, and marked free again. -/
theorem mks_back {r : List Nat} (h : ∀ i ∈ r, i < 512 ∧ i / 8 < l.length) (hf : ∀ i ∈ r, tk l i = false) : mks (mks l true r) false r = l := by
  apply ext_tk
  · rw [mks_len, mks_len]
  · intro j _
    rw [tk_mks (by rw [mks_len]; exact h), tk_mks h]
    by_cases e : j ∈ r
    · rw [if_pos e, hf j e]
    · rw [if_neg e, if_neg e]
  · intro p hp
    rw [mks_high hp, mks_high hp]
theorem free_mks {r : List Nat} (h : ∀ i ∈ r, i < 512 ∧ i / 8 < l.length) : freeL (mks l true r) p = (freeL l p).filter (fun i => decide (i ∉ r)) := by
  unfold freeL
  rw [List.filter_filter]
  apply List.filter_congr
  intro i _
  rw [tk_mks h]
  by_cases e : i ∈ r <;> simp [e]
/-- The first ones being taken, those behind them are free. -/
theorem free_pick {n : Nat} {r : List Nat} (hp : pickL l p n = some r) (h : ∀ i ∈ r, i < 512 ∧ i / 8 < l.length) : freeL (mks l true r) p = (freeL l p).drop n := by
  rw [free_mks h]
  unfold pickL at hp
  split at hp
  · injection hp with hp
    subst hp
    have hnd := free_nodup (l := l) (p := p)
    conv => lhs; rw [← List.take_append_drop n (freeL l p)]
    rw [List.filter_append]
    have e1 : ((freeL l p).take n).filter (fun i => decide (i ∉ (freeL l p).take n)) = [] := by
      rw [List.filter_eq_nil_iff]; intro i hi; simp [hi]
    have e2 : ((freeL l p).drop n).filter (fun i => decide (i ∉ (freeL l p).take n)) = (freeL l p).drop n := by
      rw [List.filter_eq_self]
      intro i hi
      rw [← List.take_append_drop n (freeL l p), List.nodup_append] at hnd
      simp only [decide_eq_true_eq]
      intro hi2
      exact hnd.2.2 i hi2 i hi rfl
    rw [List.take_append_drop]
    rw [e1, e2]; rfl
  · cases hp
end
end Go.Proofs.Ytbeojghlldiniaa.Pl
