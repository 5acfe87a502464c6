/- What is read is written just so, plainly. -/
import Derived.Test.YtmjlfhfadmndhaaPacK
namespace Go.Proofs.Ytmjlfhfadmndhaa.Pac
open Go.RowKit

theorem split_at (s : ByteArray) (k : Nat) (h : k ≤ s.size) : s = s.extract 0 k ++ s.extract k s.size := by
  apply bytesEq'
  rw [app_list, ← ByteArray.toList_eq (s.extract 0 k), ← ByteArray.toList_eq (s.extract k s.size), Lib.extract_toList, Lib.extract_toList, List.drop_zero, Nat.sub_zero]
  have hl := len_list s
  rw [List.take_of_length_le (l := s.data.toList.drop k) (by rw [List.length_drop]; omega), List.take_append_drop]
theorem extract_size (s : ByteArray) (k : Nat) (h : k ≤ s.size) : (s.extract 0 k).size = k := by
  rw [ByteArray.size_extract]
  omega
theorem num_dec {s : ByteArray} (h : numBad s false = false) : s = encB (zig (numR s false)) ++ numS s false := by
  have hle := rdB_le s
  unfold numBad numR numS at *
  simp only [Bool.false_eq_true, if_false] at *
  unfold rdB at *
  rcases hr : rdN s.data.toList with _ | ⟨u, r⟩
  · rw [hr] at h
    simp at h
  · rw [hr] at h hle
    simp only at h hle ⊢
    obtain ⟨e, hu⟩ := rdN_some hr
    have hl := len_list s
    have hl2 : s.size = (enc u).length + r.length := by rw [← hl, e, List.length_append]
    rw [zig_unzig]
    have e1 : s.size - r.length = (enc u).length := by omega
    rw [e1]
    have e2 : s.extract 0 (enc u).length = encB u := by
      apply bytesEq'
      rw [← ByteArray.toList_eq, Lib.extract_toList, List.drop_zero, Nat.sub_zero, e, List.take_left' rfl, encB_list]
    have := split_at s (enc u).length (by omega)
    rw [e2] at this
    exact this
theorem btw_dec {s : ByteArray} {lo hi : Int} (h : btwBad s false lo hi = false) : s = encB (zig (btwR s false lo hi)) ++ numS s false ∧ lo ≤ btwR s false lo hi ∧ btwR s false lo hi ≤ hi ∧ numBad s false = false := by
  have hb := h
  unfold btwBad at h
  simp only [Bool.or_eq_false_iff, decide_eq_false_iff_not] at h
  unfold btwR
  rw [hb]
  simp only [Bool.false_eq_true, if_false]
  exact ⟨num_dec h.1.1, by omega, by omega, h.1.1⟩
theorem txt_dec {s : ByteArray} {most : Int} (h : txtBad s false most = false) : s = txtB (txtR s false most) ++ txtS s false most ∧ ((txtR s false most).size : Int) ≤ most := by
  have hb := h
  unfold txtBad at h
  simp only [Bool.or_eq_false_iff, decide_eq_false_iff_not] at h
  obtain ⟨e, h0, h1, _⟩ := btw_dec h.1
  obtain ⟨k, hk⟩ := Int.eq_ofNat_of_zero_le h0
  rw [hk] at h e h1
  have hle : k ≤ (numS s false).size := by omega
  unfold txtR txtS
  rw [hb, hk]
  simp only [Bool.false_eq_true, if_false, Int.toNat_natCast]
  have hz := extract_size (numS s false) k hle
  refine ⟨?_, by rw [hz]; exact h1⟩
  unfold txtB
  rw [hz, app_assoc, ← split_at (numS s false) k hle]
  exact e
end Go.Proofs.Ytmjlfhfadmndhaa.Pac
