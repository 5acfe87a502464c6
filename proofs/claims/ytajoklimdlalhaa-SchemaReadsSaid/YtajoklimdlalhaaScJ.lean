/- Columns that are read, one behind the other: plainly, and as rows of memory. -/
import Derived.Test.YtajoklimdlalhaaScI
import Derived.Test.YtajoklimdlalhaaScF
import Derived.Deep.AppendLies
namespace Go.Proofs.Ytajoklimdlalhaa.Sc
open Go.RowKit Pac

def readP : Nat → ByteArray → Bool → List C × ByteArray × Bool
  | 0, s, d => ([], s, d)
  | m + 1, s, d => ((readCd s d).1 :: (readP m (readCd s d).2.1 (readCd s d).2.2).1, (readP m (readCd s d).2.1 (readCd s d).2.2).2)
theorem readP_bad : ∀ (m : Nat) (s : ByteArray), (readP m s true).2 = (s, true)
  | 0, _ => rfl
  | m + 1, s => by
    show (readP m (readCd s true).2.1 (readCd s true).2.2).2 = _
    rw [readCd_bad]
    exact readP_bad m s
theorem readP_two : ∀ (m : Nat) (s : ByteArray) (d : Bool), (readP m s d).2 = (readCs m s d).2
  | 0, _, _ => rfl
  | m + 1, s, true => by
    rw [readP_bad]
    rfl
  | m + 1, s, false => by
    show (readP m (readC s).2.1 (readC s).2.2).2 = (readCs m (readC s).2.1 (readC s).2.2).2
    exact readP_two m _ _
theorem readP_one : ∀ (m : Nat) (s : ByteArray) (d : Bool), (readP m s d).2.2 = false → (readP m s d).1 = (readCs m s d).1
  | 0, _, _, _ => rfl
  | m + 1, s, true, h => by
    rw [readP_bad] at h
    cases h
  | m + 1, s, false, h => by
    show (readC s).1 :: (readP m (readC s).2.1 (readC s).2.2).1 = (readC s).1 :: (readCs m (readC s).2.1 (readC s).2.2).1
    rw [readP_one m (readC s).2.1 (readC s).2.2 h]
theorem readP_len : ∀ (m : Nat) (s : ByteArray) (d : Bool), (readP m s d).1.length = m
  | 0, _, _ => rfl
  | m + 1, s, d => by
    show ((readCd s d).1 :: (readP m _ _).1).length = m + 1
    rw [List.length_cons, readP_len]
theorem readP_ok : ∀ (m : Nat) (s : ByteArray) (d : Bool), s.size ≤ 9223372036854775807 → ∀ (j : Nat) (c : C), (readP m s d).1[j]? = some c → c.Ok
  | 0, _, _, _, j, c, h => by simp [readP] at h
  | m + 1, s, d, hs, 0, c, h => by
    have h : (readCd s d).1 = c := by simpa [readP] using h
    rw [← h]
    exact readCd_ok s d hs
  | m + 1, s, d, hs, j + 1, c, h => by
    have h : (readP m (readCd s d).2.1 (readCd s d).2.2).1[j]? = some c := by simpa [readP] using h
    exact readP_ok m _ _ (Nat.le_trans (readCd_size s d) hs) j c h
def seenP (s : ByteArray) (bad : Bool) : ByteArray × List C × ByteArray × Bool :=
  (txtR s bad 20, readP (btwR (txtS s bad 20) (txtBad s bad 20) 1 8).toNat (numS (txtS s bad 20) (txtBad s bad 20)) (btwBad (txtS s bad 20) (txtBad s bad 20) 1 8))
/-- What is judged of what was seen: the same, whether or not all columns were gone through. -/
theorem readS_seenP (s : ByteArray) (bad : Bool) : readS s bad = if ((seenP s bad).2.2.2 || !rightS (seenP s bad).1 (seenP s bad).2.1) = true then (⟨#[]⟩, [], (seenP s bad).2.2.1, true) else seenP s bad := by
  have h2 : (seenP s bad).2.2 = (seenS s bad).2.2 := readP_two _ _ _
  have h0 : (seenP s bad).1 = (seenS s bad).1 := rfl
  unfold readS
  cases hb : (seenS s bad).2.2.2 with
  | true =>
    rw [h2, hb]
    rfl
  | false =>
    have h1 : (seenP s bad).2.1 = (seenS s bad).2.1 := readP_one _ _ _ (by
      show (seenP s bad).2.2.2 = false
      rw [h2, hb])
    have h3 : seenP s bad = seenS s bad := Prod.ext h0 (Prod.ext h1 h2)
    rw [h3, hb]

/-- Columns as cells. -/
def cellsOf : List C → List Value
  | [] => []
  | c :: l => .string c.n :: .int .i64 c.k :: .bool c.z :: cellsOf l
theorem cellsOf_snoc (l : List C) (c : C) : cellsOf (l ++ [c]) = cellsOf l ++ [.string c.n, .int .i64 c.k, .bool c.z] := by
  induction l with
  | nil => rfl
  | cons d l ih => simp only [List.cons_append, cellsOf, ih]
theorem cellsOf_len (l : List C) : (cellsOf l).length = l.length * 3 := by
  induction l with
  | nil => rfl
  | cons d l ih => simp only [cellsOf, List.length_cons, ih]; omega
theorem cellsOf_at : ∀ (l : List C) (j : Nat) (c : C), l[j]? = some c → (cellsOf l)[j * 3]? = some (.string c.n) ∧ (cellsOf l)[j * 3 + 1]? = some (.int .i64 c.k) ∧ (cellsOf l)[j * 3 + 2]? = some (.bool c.z)
  | [], j, c, h => by simp at h
  | d :: l, 0, c, h => by
    have h : d = c := by simpa using h
    subst h
    exact ⟨rfl, rfl, rfl⟩
  | d :: l, j + 1, c, h => by
    have h : l[j]? = some c := by simpa using h
    obtain ⟨a, b, e⟩ := cellsOf_at l j c h
    have q : (j + 1) * 3 = j * 3 + 3 := by omega
    rw [q]
    exact ⟨a, b, e⟩
theorem info41 : (Try.prog.info? 41).map (fun i => (i.zero, i.size, i.bytes)) = some (some (.agg #[.string ⟨#[]⟩, .int .i64 0, .bool false]), 3, 32) := by kernel_rfl
theorem own_bar {w w' : World} {g base : Nat} {e : TypeId} {size : Nat} {v : Value} {n : Nat} {xs : List Value} (h : w.ownsRow base e size v n xs) (hb : Bar g w w') (hg : g < base) : w'.ownsRow base e size v n xs := by
  refine ⟨h.1, ?_⟩
  rcases h.2 with h2 | ⟨k, cap, cur, e1, e2, e3, r⟩
  · exact Or.inl h2
  · refine Or.inr ⟨k, cap, cur, e1, e2, ?_, r⟩
    have hk : k < w.heap.size := (Array.getElem?_eq_some_iff.1 e3).1
    rw [hb.block k hk (by omega)]
    exact e3
/-- Such a row is a slice of columns. -/
theorem cols_of_own {w : World} {base n : Nat} {v : Value} {l : List C} (h : w.ownsRow base 41 3 v n (cellsOf l)) (hn : l.length = n) : ∃ A c, v = .slice A n c ∧ n ≤ c ∧ HasCols w base A l := by
  have h' := h
  rcases h.2 with ⟨rfl, rfl⟩ | ⟨g, cap, cur, rfl, e2, e3, e4, e5, e6, e7⟩
  · refine ⟨none, 0, rfl, Nat.le_refl _, ?_⟩
    rw [List.length_eq_zero_iff.1 hn]
    exact HasCols.nil w base none
  · refine ⟨_, cap, rfl, e4, fun _ => ⟨g, 0, rfl, e2, (Array.getElem?_eq_some_iff.1 e3).1, fun j c hc => ?_⟩⟩
    obtain ⟨a, b, d⟩ := cellsOf_at l j c hc
    have hj : j < n := by rw [← hn]; exact (List.getElem?_eq_some_iff.1 hc).1
    simp only [Nat.zero_add]
    rw [h'.cellAt (j * 3) (by omega), h'.cellAt (j * 3 + 1) (by omega), h'.cellAt (j * 3 + 2) (by omega)]
    exact ⟨a, b, d⟩
end Go.Proofs.Ytajoklimdlalhaa.Sc
