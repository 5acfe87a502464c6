/- TallyTurns, walked. -/
import Derived.Test.YtcajkkfeancjmaaDoorF
import Derived.Laws.IdiomStrings
import Derived.Lib.ConvBytes
import Derived.RegionTactic
import Derived.ChangeAlike
namespace Go.Proofs.YtcajkkfeancjmaaDoor
open Go.RowKit Go.Shelf

/-- Is one of the first ones no nought? -/
def oth (E : Nat → UInt8) : Nat → Bool
  | 0 => false
  | q + 1 => oth E q || (E q != 0)
/-- Bytes, of which so many behind the k-th are others. -/
def cur (S E : Nat → UInt8) (k q j : Nat) : UInt8 := if k ≤ j ∧ j < k + q then S j ^^^ E (j - k) else S j
theorem cur_zero (S E : Nat → UInt8) (k j : Nat) : cur S E k 0 j = S j := by
  unfold cur
  rw [if_neg (by omega)]
theorem cur_at (S E : Nat → UInt8) (k q : Nat) : cur S E k (q + 1) (k + q) = cur S E k q (k + q) ^^^ E q := by
  unfold cur
  rw [if_pos (by omega), if_neg (by omega)]
  congr 2
  omega
theorem cur_off (S E : Nat → UInt8) (k q j : Nat) (h : j ≠ k + q) : cur S E k (q + 1) j = cur S E k q j := by
  unfold cur
  by_cases h1 : k ≤ j ∧ j < k + q
  · rw [if_pos h1, if_pos (by omega)]
  · rw [if_neg h1, if_neg (by omega)]
theorem oth_iff (E : Nat → UInt8) (q : Nat) : oth E q = false ↔ ∀ j, j < q → E j = 0 := by
  induction q with
  | zero => simp [oth]
  | succ q ih =>
    simp only [oth, Bool.or_eq_false_iff, ih, bne_eq_false_iff_eq]
    constructor
    · rintro ⟨h1, h2⟩ j hj
      by_cases e : j = q
      · subst e; exact h2
      · exact h1 j (by omega)
    · intro h
      exact ⟨fun j hj => h j (by omega), h q (by omega)⟩

/-- The bytes behind all turns, as a list. -/
def curL (S E : Nat → UInt8) (k q n : Nat) : List UInt8 := (List.range n).map (cur S E k q)
theorem curL_length (S E : Nat → UInt8) (k q n : Nat) : (curL S E k q n).length = n := by simp [curL]
theorem curL_parts (l : List UInt8) (E : Nat → UInt8) (k q : Nat) (h : k + q ≤ l.length) :
    curL (fun j => l.getD j 0) E k q l.length = l.take k ++ turned ((l.drop k).take q) ((List.range q).map E) ++ l.drop (k + q) := by
  apply List.ext_getElem
  · simp [curL, turned]; omega
  · intro i h1 h2
    have hi : i < l.length := by simpa [curL] using h1
    simp only [curL, List.getElem_map, List.getElem_range]
    unfold cur
    by_cases c1 : i < k
    · rw [if_neg (by omega), List.getElem_append_left (by simp [turned]; omega), List.getElem_append_left (by simp; omega)]
      simp [hi]
    · by_cases c2 : i < k + q
      · rw [if_pos (by omega), List.getElem_append_left (by simp [turned]; omega), List.getElem_append_right (by simp; omega)]
        have e1 : i - min k l.length = i - k := by omega
        have e2 : k + (i - k) = i := by omega
        simp [turned, hi, e1, e2]
      · rw [if_neg (by omega), List.getElem_append_right (by simp [turned]; omega)]
        simp [turned, hi]
        congr 1
        omega
theorem turns_sum (l : List UInt8) (E : Nat → UInt8) (k q : Nat) (h : k + q ≤ l.length) (hq : q ≤ 4) :
    (crc (curL (fun j => l.getD j 0) E k q l.length) = crc l) ↔ oth E q = false := by
  rw [curL_parts l E k q h, oth_iff]
  have e : l.take k ++ (l.drop k).take q ++ l.drop (k + q) = l := by
    rw [List.append_assoc, ← List.drop_drop, List.take_append_drop, List.take_append_drop]
  have := crc_burst (l.take k) ((l.drop k).take q) ((List.range q).map E) (l.drop (k + q)) (by simp; omega) (by simpa using hq)
  rw [e] at this
  rw [this]
  constructor
  · intro h j hj
    exact h _ (by simp; exact ⟨j, hj, rfl⟩)
  · intro h b hb
    simp at hb
    obtain ⟨j, hj, rfl⟩ := hb
    exact h j hj
end Go.Proofs.YtcajkkfeancjmaaDoor
