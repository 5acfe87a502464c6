/- What is sealed, plainly; the document's examples, closed, and walked. -/
import Derived.Test.YtcajkkfeancjmaaDoorD
import Derived.Lib.Strings
namespace Go.Proofs.YtcajkkfeancjmaaDoor
open Go.RowKit Go.Shelf

theorem body_data (s : ByteArray) (n : Nat) : (body s n).data.toList = s.data.toList ++ List.replicate (n - s.size) 0 := by
  unfold body
  rw [ByteArray.data_append, Array.toList_append]
  rfl
theorem body_length (s : ByteArray) (n : Nat) (h : s.size ≤ n) : (body s n).data.toList.length = n := by
  have := body_size s n h
  simpa using this
theorem sealed_data (s : ByteArray) (n : Nat) : (sealed s n).data.toList = (body s (n - 4)).data.toList ++ (prt (crc (body s (n - 4)).data.toList)).data.toList := by
  unfold sealed
  rw [ByteArray.data_append, Array.toList_append]
theorem sealed_size (s : ByteArray) (n : Nat) (h : s.size + 4 ≤ n) : (sealed s n).size = n := by
  unfold sealed
  rw [ByteArray.size_append, body_size _ _ (by omega), prt_size]
  omega
theorem sealed_head (s : ByteArray) (n : Nat) (h : s.size + 4 ≤ n) : (sealed s n).data.toList.take (n - 4) = (body s (n - 4)).data.toList := by
  rw [sealed_data, List.take_append_of_le_length (by rw [body_length _ _ (by omega)]; omega), List.take_of_length_le (by rw [body_length _ _ (by omega)]; omega)]
theorem sealed_whole (s : ByteArray) (n : Nat) (h : s.size + 4 ≤ n) : wholeB (sealed s n) = true := by
  unfold wholeB
  rw [sealed_size s n h, sealed_head s n h, Lib.extract_toList, sealed_data]
  rw [List.drop_append_of_le_length (by rw [body_length _ _ (by omega)]; omega), List.drop_of_length_le (by rw [body_length _ _ (by omega)]; omega), List.nil_append]
  rw [List.take_of_length_le (by show 4 ≤ _; omega)]
  rw [ByteArray.toList_eq]
  simp
/-- Sealed once more, with the noughts. -/
theorem sealed_again (s : ByteArray) (n : Nat) (h : s.size + 4 ≤ n) : sealed (body s (n - 4)) n = sealed s n := by
  have e : body (body s (n - 4)) (n - 4) = body s (n - 4) := by
    have h1 : n - 4 - (body s (n - 4)).size = 0 := by rw [body_size _ _ (by omega)]; omega
    show body s (n - 4) ++ zeros (n - 4 - (body s (n - 4)).size) = _
    rw [h1]
    apply ByteArray.ext
    simp [ByteArray.data_append, zeros]
  unfold sealed
  rw [e]

def s9 : ByteArray := ⟨#[49, 50, 51, 52, 53, 54, 55, 56, 57]⟩
theorem crc_s9 : crc s9.data.toList = 3421780262 := by decide +kernel
theorem crc_no : crc [] = 0 := by decide +kernel
theorem whole_abcd : wholeB ⟨#[97, 98, 99, 100]⟩ = false := by unfold wholeB; decide +kernel
theorem whole_noughts : wholeB ⟨#[0, 0, 0, 0]⟩ = true := by unfold wholeB; decide +kernel
theorem sealed9_head : (sealed s9 16).data.toList.take 12 = [49, 50, 51, 52, 53, 54, 55, 56, 57, 0, 0, 0] := by
  rw [sealed_head s9 16 (by decide), body_data]
  decide

set_option maxRecDepth 100000 in
set_option maxHeartbeats 1000000 in
theorem awake_any (w : World) (ht : Tab w) : Calls Tryd.prog 5 #[] w fun e w' => e = .returned (.bool true) ∧ Below w.heap.size w w' := by
  have HT := Lib.hid ht
  have HF := Lib.hid sealed9_head
  have HW := Lib.hid (sealed_whole s9 16 (by decide))
  have hz := sealed_size s9 16 (by decide)
  clear ht
  go_enter Tryd.func5, Tryd.ntmps5
  go_wp2_with fail
  refine (show Calls Tryd.prog 6 #[.string ⟨#[49, 50, 51, 52, 53, 54, 55, 56, 57]⟩, .int .i64 16] w fun e w' => e = .returned (.string (sealed s9 16)) ∧ Below w.heap.size w w' from sealed_any s9 16 w HT.out (by decide) (by decide)).mono ?_
  rintro e w1 ⟨rfl, hb1⟩
  generalize sealed s9 16 = x at HF HW hz ⊢
  have hz1 := Lib.hid hz
  have z1 : x.size ≤ 16 := by omega
  have z2 : 16 ≤ x.size := by omega
  clear hz
  have HT1 := Lib.hid (HT.out.below hb1)
  go_wp2_with fail
  refine (show Calls Tryd.prog 7 #[.string ⟨#[49, 50, 51, 52, 53, 54, 55, 56, 57]⟩] w1 fun e w' => e = .returned (.int .u32 3421780262) ∧ w1 = w' from (of_any s9 w1 (by decide) HT1.out).mono fun e w' h => ⟨by rw [h.1, crc_s9]; rfl, h.2⟩).mono ?_
  rintro e w2 ⟨rfl, rfl⟩
  go_wp2_with fail
  refine (show Calls Tryd.prog 7 #[.string ⟨#[]⟩] w1 fun e w' => e = .returned (.int .u32 0) ∧ w1 = w' from (of_any ⟨#[]⟩ w1 (by decide) HT1.out).mono fun e w' h => ⟨by rw [h.1, show (ByteArray.mk #[]).data.toList = [] from rfl, crc_no]; rfl, h.2⟩).mono ?_
  rintro e w2 ⟨rfl, rfl⟩
  have b1 : ((x.size : Int) == 16) = true := by rw [hz1.out]; rfl
  have b2 : ((x.extract 0 12).toList == [49, 50, 51, 52, 53, 54, 55, 56, 57, 0, 0, 0]) = true := by
    rw [Lib.extract_toList, List.drop_zero, HF.out]; rfl
  go_wp2_with fail
  refine (show Calls Tryd.prog 8 #[.string x] w1 fun e w' => e = .returned (.bool true) ∧ Below w1.heap.size w1 w' from (whole_any x w1 (by omega) (by omega) HT1.out).mono fun e w' h => ⟨by rw [h.1, HW.out], h.2⟩).mono ?_
  rintro e w2 ⟨rfl, hb2⟩
  have hc2 := hb1.trans (hb2.mono hb1.size)
  have HT2 := Lib.hid (HT.out.below hc2)
  clear b1 b2
  go_wp2_with fail
  refine (show Calls Tryd.prog 8 #[.string ⟨#[97, 98, 99, 100]⟩] w2 fun e w' => e = .returned (.bool false) ∧ Below w2.heap.size w2 w' from (whole_any ⟨#[97, 98, 99, 100]⟩ w2 (by decide) (by decide) HT2.out).mono fun e w' h => ⟨by rw [h.1, whole_abcd], h.2⟩).mono ?_
  rintro e w3 ⟨rfl, hb3⟩
  have hc3 := hc2.trans (hb3.mono hc2.size)
  have HT3 := Lib.hid (HT.out.below hc3)
  go_wp2_with fail
  refine (show Calls Tryd.prog 8 #[.string ⟨#[0, 0, 0, 0]⟩] w3 fun e w' => e = .returned (.bool true) ∧ Below w3.heap.size w3 w' from (whole_any ⟨#[0, 0, 0, 0]⟩ w3 (by decide) (by decide) HT3.out).mono fun e w' h => ⟨by rw [h.1, whole_noughts], h.2⟩).mono ?_
  rintro e w4 ⟨rfl, hb4⟩
  have hc4 := hc3.trans (hb4.mono hc3.size)
  go_wp2_with fail
  refine (sealed_no ⟨#[97, 98, 99]⟩ 6 w4 (by decide) (by decide) (by decide) (by decide)).mono ?_
  rintro e w5 ⟨rfl, rfl⟩
  go_wp2_with fail
  refine (whole_no ⟨#[97, 98, 99]⟩ w4 (by decide)).mono ?_
  rintro e w5 ⟨rfl, hb5⟩
  go_wp2_with fail
  go_ret
  exact ⟨rfl, hc4.trans (hb5.mono hc4.size)⟩
end Go.Proofs.YtcajkkfeancjmaaDoor
