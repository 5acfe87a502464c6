/- Schemas, plainly: printed, read, there and back. No program. -/
import Derived.Test.YtodhhoegdfpakaaPacL
namespace Go.Proofs.Ytodhhoegdfpakaa.Sc
open Go.RowKit Pac

/-- A column: its name, its kind, whether it may be nothing. -/
structure C where
  n : ByteArray
  k : Int
  z : Bool
def colNum (c : C) : Int := if c.z then 2 * c.k + 1 else 2 * c.k
def wordB (s : ByteArray) : Bool := s.data.toList.all (fun b => decide (97 ≤ b.toNat) && decide (b.toNat ≤ 122)) && (decide (1 ≤ s.size) && decide (s.size ≤ 20))
/-- May column number i be? -/
def colB (i : Nat) (c : C) : Bool := wordB c.n && (decide (1 ≤ c.k) && (decide (c.k ≤ 3) && !(i == 0 && (c.z || c.k == 2))))
/-- May these stand behind i columns of the names 'before'? -/
def colsB : Nat → List (List UInt8) → List C → Bool
  | _, _, [] => true
  | i, before, c :: l => (colB i c && !before.contains c.n.data.toList) && colsB (i + 1) (before ++ [c.n.data.toList]) l
def rightS (name : ByteArray) (cs : List C) : Bool := wordB name && (decide (1 ≤ cs.length) && (decide (cs.length ≤ 8) && colsB 0 [] cs))
def printC (c : C) : ByteArray := txtB c.n ++ encB (zig (colNum c))
def catC : List C → ByteArray
  | [] => ⟨#[]⟩
  | c :: l => printC c ++ catC l
def printS (name : ByteArray) (cs : List C) : ByteArray := txtB name ++ (encB (zig (cs.length : Int)) ++ catC cs)
/-- One column is read. -/
def readC (s : ByteArray) : C × ByteArray × Bool :=
  (⟨txtR s false 20, (btwR (txtS s false 20) (txtBad s false 20) 0 7).tdiv 2, (btwR (txtS s false 20) (txtBad s false 20) 0 7).tmod 2 == 1⟩, numS (txtS s false 20) (txtBad s false 20), btwBad (txtS s false 20) (txtBad s false 20) 0 7)
def readCs : Nat → ByteArray → Bool → List C × ByteArray × Bool
  | 0, s, d => ([], s, d)
  | m + 1, s, d => if d = true then ([], s, d) else ((readC s).1 :: (readCs m (readC s).2.1 (readC s).2.2).1, (readCs m (readC s).2.1 (readC s).2.2).2)
/-- All is read, but not yet judged. -/
def seenS (s : ByteArray) (bad : Bool) : ByteArray × List C × ByteArray × Bool :=
  (txtR s bad 20, readCs (btwR (txtS s bad 20) (txtBad s bad 20) 1 8).toNat (numS (txtS s bad 20) (txtBad s bad 20)) (btwBad (txtS s bad 20) (txtBad s bad 20) 1 8))
def readS (s : ByteArray) (bad : Bool) : ByteArray × List C × ByteArray × Bool :=
  if ((seenS s bad).2.2.2 || !rightS (seenS s bad).1 (seenS s bad).2.1) = true then (⟨#[]⟩, [], (seenS s bad).2.2.1, true) else seenS s bad

theorem word_size {s : ByteArray} (h : wordB s = true) : 1 ≤ s.size ∧ s.size ≤ 20 := by
  unfold wordB at h
  simp only [Bool.and_eq_true, decide_eq_true_eq] at h
  exact h.2
theorem col_parts {i : Nat} {c : C} (h : colB i c = true) : wordB c.n = true ∧ 1 ≤ c.k ∧ c.k ≤ 3 := by
  unfold colB at h
  simp only [Bool.and_eq_true, decide_eq_true_eq] at h
  exact ⟨h.1, h.2.1, h.2.2.1⟩
theorem colNum_back (c : C) (h0 : 1 ≤ c.k) (h1 : c.k ≤ 3) : (colNum c).tdiv 2 = c.k ∧ ((colNum c).tmod 2 == 1) = c.z ∧ 0 ≤ colNum c ∧ colNum c ≤ 7 := by
  obtain ⟨n, k, z⟩ := c
  unfold colNum
  simp only at h0 h1 ⊢
  cases z
  · simp only [Bool.false_eq_true, if_false]
    rw [Int.tdiv_eq_ediv_of_nonneg (by omega), Int.tmod_eq_emod_of_nonneg (by omega)]
    refine ⟨by omega, ?_, by omega, by omega⟩
    exact beq_eq_false_iff_ne.2 (by omega)
  · simp only [if_true]
    rw [Int.tdiv_eq_ediv_of_nonneg (by omega), Int.tmod_eq_emod_of_nonneg (by omega)]
    refine ⟨by omega, ?_, by omega, by omega⟩
    exact beq_iff_eq.2 (by omega)
theorem readC_print (c : C) (r : ByteArray) (hw : wordB c.n = true) (h0 : 1 ≤ c.k) (h1 : c.k ≤ 3) : readC (printC c ++ r) = (c, r, false) := by
  have hs := word_size hw
  obtain ⟨b1, b2, b3, b4⟩ := colNum_back c h0 h1
  obtain ⟨e1, e2, e3⟩ := text_enc c.n (encB (zig (colNum c)) ++ r) 20 (by omega) (by omega)
  obtain ⟨f1, f2, f3⟩ := btw_enc (colNum c) 0 7 r (by omega) (by omega) b3 b4
  unfold readC printC
  rw [app_assoc, e1, e2, e3, f1, f2, f3, b1, b2]
theorem readCs_print : ∀ (cs : List C) (i : Nat) (before : List (List UInt8)) (r : ByteArray), colsB i before cs = true → readCs cs.length (catC cs ++ r) false = (cs, r, false)
  | [], _, _, r, _ => by
    have : (⟨#[]⟩ ++ r : ByteArray) = r := bytesEq' (by rw [app_list]; rfl)
    show ([], (⟨#[]⟩ ++ r : ByteArray), false) = _
    rw [this]
  | c :: l, i, before, r, h => by
    simp only [colsB, Bool.and_eq_true] at h
    obtain ⟨hw, h0, h1⟩ := col_parts h.1.1
    have ih := readCs_print l (i + 1) _ r h.2
    show (if false = true then _ else _) = _
    rw [if_neg (by simp)]
    simp only [catC, app_assoc, readC_print c (catC l ++ r) hw h0 h1, ih]
theorem back (name : ByteArray) (cs : List C) (m : ByteArray) (h : rightS name cs = true) : readS (printS name cs ++ m) false = (name, cs, m, false) := by
  have h' := h
  unfold rightS at h
  simp only [Bool.and_eq_true, decide_eq_true_eq] at h
  obtain ⟨hw, h0, h1, hc⟩ := h
  have hs := word_size hw
  obtain ⟨e1, e2, e3⟩ := text_enc name (encB (zig (cs.length : Int)) ++ (catC cs ++ m)) 20 (by omega) (by omega)
  obtain ⟨f1, f2, f3⟩ := btw_enc (cs.length : Int) 1 8 (catC cs ++ m) (by omega) (by omega) (by omega) (by omega)
  have hS : seenS (printS name cs ++ m) false = (name, cs, m, false) := by
    unfold seenS printS
    rw [app_assoc, app_assoc, e1, e2, e3, f1, f2, f3, Int.toNat_natCast, readCs_print cs 0 [] m hc]
  unfold readS
  rw [hS, if_neg (by simp [h'])]

theorem col_dec {i : Nat} (s : ByteArray) (h : (readC s).2.2 = false) : s = printC (readC s).1 ++ (readC s).2.1 := by
  unfold readC at h ⊢
  simp only at h ⊢
  cases hb : txtBad s false 20 with
  | true =>
    rw [hb] at h
    unfold btwBad numBad at h
    simp at h
  | false =>
    rw [hb] at h
    obtain ⟨e1, _⟩ := txt_dec hb
    obtain ⟨e2, g0, g1, _⟩ := btw_dec h
    have hk : colNum ⟨txtR s false 20, (btwR (txtS s false 20) false 0 7).tdiv 2, (btwR (txtS s false 20) false 0 7).tmod 2 == 1⟩ = btwR (txtS s false 20) false 0 7 := by
      unfold colNum
      rw [Int.tdiv_eq_ediv_of_nonneg g0, Int.tmod_eq_emod_of_nonneg g0]
      simp only
      split
      · rename_i q
        have := beq_iff_eq.1 q
        omega
      · rename_i q
        have : ¬ (btwR (txtS s false 20) false 0 7 % 2 = 1) := fun e => q (beq_iff_eq.2 e)
        omega
    unfold printC
    rw [hk, app_assoc, ← e2]
    exact e1
theorem cols_dec : ∀ (m : Nat) (s : ByteArray), (readCs m s false).2.2 = false → s = catC (readCs m s false).1 ++ (readCs m s false).2.1 ∧ (readCs m s false).1.length = m
  | 0, s, _ => ⟨(bytesEq' (by rw [app_list]; rfl)), rfl⟩
  | m + 1, s, h => by
    have hu : readCs (m + 1) s false = ((readC s).1 :: (readCs m (readC s).2.1 (readC s).2.2).1, (readCs m (readC s).2.1 (readC s).2.2).2) := rfl
    rw [hu] at h ⊢
    simp only at h ⊢
    cases hb : (readC s).2.2 with
    | true =>
      rw [hb] at h
      cases m with
      | zero => simp [readCs] at h
      | succ m => simp [readCs] at h
    | false =>
      rw [hb] at h
      obtain ⟨ih, il⟩ := cols_dec m (readC s).2.1 h
      have e := col_dec (i := 0) s hb
      refine ⟨?_, by simp [il]⟩
      simp only [catC]
      rw [app_assoc, ← ih]
      exact e
/-- What is read may be, and is written just so. -/
theorem exact_form {s name r : ByteArray} {cs : List C} (h : readS s false = (name, cs, r, false)) : rightS name cs = true ∧ s = printS name cs ++ r := by
  unfold readS at h
  split at h
  · rename_i q
    simp at h
  · rename_i q
    simp only [Bool.or_eq_true, Bool.not_eq_true', not_or, Bool.not_eq_true, Bool.not_eq_false] at q
    have e0 : (seenS s false).1 = name := by rw [h]
    have e1 : (seenS s false).2.1 = cs := by rw [h]
    have e2 : (seenS s false).2.2.1 = r := by rw [h]
    refine ⟨by rw [← e0, ← e1]; exact q.2, ?_⟩
    have q1 := q.1
    unfold seenS at q1 e0 e1 e2
    simp only at q1 e0 e1 e2
    cases hb : txtBad s false 20 with
    | true =>
      rw [hb] at q1
      have : btwBad (txtS s false 20) true 1 8 = true := by unfold btwBad numBad; simp
      rw [this] at q1
      generalize (btwR (txtS s false 20) true 1 8).toNat = m at q1
      cases m with
      | zero => simp [readCs] at q1
      | succ m => simp [readCs] at q1
    | false =>
      rw [hb] at q1 e1 e2
      cases hd : btwBad (txtS s false 20) false 1 8 with
      | true =>
        rw [hd] at q1
        generalize (btwR (txtS s false 20) false 1 8).toNat = m at q1
        cases m with
        | zero => simp [readCs] at q1
        | succ m => simp [readCs] at q1
      | false =>
        rw [hd] at q1 e1 e2
        obtain ⟨f1, _⟩ := txt_dec hb
        obtain ⟨f2, g0, g1, _⟩ := btw_dec hd
        obtain ⟨f3, hl⟩ := cols_dec _ _ q1
        rw [e1] at f3 hl
        rw [e2] at f3
        have hn : btwR (txtS s false 20) false 1 8 = (cs.length : Int) := by omega
        unfold printS
        rw [← e0, app_assoc, app_assoc, ← f3, ← hn, ← f2]
        exact f1
theorem print_inj {n1 n2 : ByteArray} {c1 c2 : List C} (h1 : rightS n1 c1 = true) (h2 : rightS n2 c2 = true) (e : printS n1 c1 = printS n2 c2) : n1 = n2 ∧ c1 = c2 := by
  have a := back n1 c1 ⟨#[]⟩ h1
  rw [e, back n2 c2 ⟨#[]⟩ h2] at a
  injection a with a1 a2
  injection a2 with a2 a3
  exact ⟨a1.symm, a2.symm⟩
/-- Cut off, it is none. -/
theorem cut_none {name y t : ByteArray} {cs : List C} (h : rightS name cs = true) (e : printS name cs = y ++ t) (ht : 1 ≤ t.size) : (readS y false).2.2.2 = true := by
  rcases hr : readS y false with ⟨n', c', r, d⟩
  cases d with
  | true => rfl
  | false =>
    exfalso
    obtain ⟨hr', e'⟩ := exact_form hr
    have a := back n' c' (r ++ t) hr'
    rw [← app_assoc, ← e', ← e] at a
    have b := back name cs ⟨#[]⟩ h
    have z : (printS name cs ++ ⟨#[]⟩ : ByteArray) = printS name cs := bytesEq' (by rw [app_list]; simp)
    rw [z, a] at b
    injection b with _ b
    injection b with _ b
    injection b with b _
    have := congrArg ByteArray.size b
    rw [ByteArray.size_append] at this
    have z2 : (⟨#[]⟩ : ByteArray).size = 0 := rfl
    omega
end Go.Proofs.Ytodhhoegdfpakaa.Sc
