/- Names, and what may be in a column; walked. -/
import Derived.Test.YtodhhoegdfpakaaScB
namespace Go.Proofs.Ytodhhoegdfpakaa.Sc
open Go.RowKit Pac

def letB (b : UInt8) : Bool := decide (97 ≤ b.toNat) && decide (b.toNat ≤ 122)
theorem wordB_def (s : ByteArray) : wordB s = (s.data.toList.all letB && (decide (1 ≤ s.size) && decide (s.size ≤ 20))) := rfl
theorem let_succ {s : ByteArray} {q : Nat} (hq : q < s.size) (h : (s.data.toList.take q).all letB = true) (h1 : ¬ s[q].toNat < 97) (h2 : ¬ 122 < s[q].toNat) : (s.data.toList.take (q + 1)).all letB = true := by
  have hkl : s.data.toList.take (q + 1) = s.data.toList.take q ++ [s[q]] := by
    rw [List.take_succ_eq_append_getElem (by simpa using hq)]; rfl
  rw [hkl, List.all_append, h]
  simp only [List.all_cons, List.all_nil, letB, Bool.true_and, Bool.and_true, Bool.and_eq_true, decide_eq_true_eq]
  omega
theorem let_bad {s : ByteArray} {q : Nat} (hq : q < s.size) (h : s[q].toNat < 97 ∨ 122 < s[q].toNat) : wordB s = false := by
  have : s.data.toList.all letB = false := by
    rw [List.all_eq_false]
    refine ⟨s[q], List.getElem_mem (l := s.data.toList) (by simpa using hq), ?_⟩
    simp only [letB, Bool.and_eq_true, decide_eq_true_eq]
    omega
  rw [wordB_def, this]
  rfl
theorem let_all {s : ByteArray} {q : Nat} (hq : q = s.size) (h : (s.data.toList.take q).all letB = true) : wordB s = (decide (1 ≤ s.size) && decide (s.size ≤ 20)) := by
  rw [wordB_def]
  rw [List.take_of_length_le (by rw [Array.length_toList, hq]; exact Nat.le_refl _)] at h
  rw [h]
  rfl
theorem word_few {s : ByteArray} (h : s.size < 1) : wordB s = false := by
  rw [wordB_def, decide_eq_false (show ¬ 1 ≤ s.size by omega)]
  cases s.data.toList.all letB <;> rfl
theorem word_many {s : ByteArray} (h : 20 < s.size) : wordB s = false := by
  rw [wordB_def, decide_eq_false (show ¬ s.size ≤ 20 by omega)]
  cases s.data.toList.all letB
  · rfl
  · cases decide (1 ≤ s.size) <;> rfl

set_option maxHeartbeats 1000000 in
theorem word_any (s : ByteArray) (w : World) (hs : s.size ≤ 9223372036854775807) : Calls Try.prog 19 #[.string s] w fun e w' => e = .returned (.bool (wordB s)) ∧ w = w' := by
  obtain ⟨z, hz⟩ : ∃ z, wordB s = z := ⟨_, rfl⟩
  rw [hz]
  have HZ := Lib.hid hz
  clear hz
  go_enter Try.func19, Try.ntmps19
  go_wp2
  go_loop [3] (fun i => ∃ q : Nat, q ≤ s.size ∧ i = .int .i64 q ∧ Hid ((s.data.toList.take q).all letB = true)) (fun i => s.size - (intOf i).toNat)
  case atStart => exact ⟨0, Nat.zero_le _, rfl, Lib.hid rfl⟩
  case round =>
    obtain ⟨q, hq, rfl, hH⟩ := hrel
    by_cases hlt : q < s.size
    · by_cases a1 : s[q].toNat < 97
      · have HB := Lib.hid (let_bad hlt (Or.inl a1))
        go_wp2
        go_ret
        exact ⟨by rw [← HZ.out, HB.out]; rfl, rfl⟩
      · by_cases a2 : 122 < s[q].toNat
        · have HB := Lib.hid (let_bad hlt (Or.inr a2))
          go_wp2
          go_ret
          exact ⟨by rw [← HZ.out, HB.out]; rfl, rfl⟩
        · go_wp2
          go_round
          case rel => exact ⟨q + 1, by omega, by go_num, Lib.hid (let_succ hlt hH.out a1 a2)⟩
          case measure => simp [intOf]; omega
    · obtain rfl : q = s.size := by omega
      have HF := Lib.hid (let_all rfl hH.out)
      have e20 : decide ((s.size : Int) ≤ 20) = decide (s.size ≤ 20) := decide_eq_decide.2 (by omega)
      by_cases h1 : 1 ≤ s.size
      · have H20 := Lib.hid e20
        have H1 := Lib.hid (decide_eq_true h1)
        clear e20
        go_wp2
        go_ret
        refine ⟨?_, rfl⟩
        rw [← HZ.out, HF.out, H1.out, ← H20.out]
        rfl
      · have H1 := Lib.hid (decide_eq_false h1)
        clear e20
        go_wp2
        go_ret
        refine ⟨?_, rfl⟩
        rw [← HZ.out, HF.out, H1.out]
        rfl

end Go.Proofs.Ytodhhoegdfpakaa.Sc
