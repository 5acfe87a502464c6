/- What is sealed, plainly; the document's examples, closed, and walked. -/
import Derived.Test.YtiacdpfodhggmaaDoorTalD
import Derived.Lib.Strings
namespace Go.Proofs.YtiacdpfodhggmaaDoor.Tal
open Go.RowKit Go.Shelf

theorem body_data (s : ByteArray) (n : Nat) : (body s n).data.toList = s.data.toList ++ List.replicate (n - s.size) 0 := by
  unfold body
  rw [ByteArray.data_append, Array.toList_append]
  rfl
theorem body_length (s : ByteArray) (n : Nat) (h : s.size ≤ n) : (body s n).data.toList.length = n := by
  have := body_size s n h
  simpa using this
theorem sealed_data (s : ByteArray) (n : Nat) : (sealed s n).data.toList = (body s (n - 4)).data.toList ++ (prt (crc (body s (n - 4)).data.toList)).data.toList := by
  unfold sealed
  rw [ByteArray.data_append, Array.toList_append]
theorem sealed_size (s : ByteArray) (n : Nat) (h : s.size + 4 ≤ n) : (sealed s n).size = n := by
  unfold sealed
  rw [ByteArray.size_append, body_size _ _ (by omega), prt_size]
  omega
theorem sealed_head (s : ByteArray) (n : Nat) (h : s.size + 4 ≤ n) : (sealed s n).data.toList.take (n - 4) = (body s (n - 4)).data.toList := by
  rw [sealed_data, List.take_append_of_le_length (by rw [body_length _ _ (by omega)]; omega), List.take_of_length_le (by rw [body_length _ _ (by omega)]; omega)]
theorem sealed_whole (s : ByteArray) (n : Nat) (h : s.size + 4 ≤ n) : wholeB (sealed s n) = true := by
  unfold wholeB
  rw [sealed_size s n h, sealed_head s n h, Lib.extract_toList, sealed_data]
  rw [List.drop_append_of_le_length (by rw [body_length _ _ (by omega)]; omega), List.drop_of_length_le (by rw [body_length _ _ (by omega)]; omega), List.nil_append]
  rw [List.take_of_length_le (by show 4 ≤ _; omega)]
  rw [ByteArray.toList_eq]
  simp
/-- Sealed once more, with the noughts. -/
theorem sealed_again (s : ByteArray) (n : Nat) (h : s.size + 4 ≤ n) : sealed (body s (n - 4)) n = sealed s n := by
  have e : body (body s (n - 4)) (n - 4) = body s (n - 4) := by
    have h1 : n - 4 - (body s (n - 4)).size = 0 := by rw [body_size _ _ (by omega)]; omega
    show body s (n - 4) ++ zeros (n - 4 - (body s (n - 4)).size) = _
    rw [h1]
    apply ByteArray.ext
    simp [ByteArray.data_append, zeros]
  unfold sealed
  rw [e]

def s9 : ByteArray := ⟨#[49, 50, 51, 52, 53, 54, 55, 56, 57]⟩
theorem crc_s9 : crc s9.data.toList = 3421780262 := by decide +kernel
theorem crc_no : crc [] = 0 := by decide +kernel
theorem whole_abcd : wholeB ⟨#[97, 98, 99, 100]⟩ = false := by unfold wholeB; decide +kernel
theorem whole_noughts : wholeB ⟨#[0, 0, 0, 0]⟩ = true := by unfold wholeB; decide +kernel
theorem sealed9_head : (sealed s9 16).data.toList.take 12 = [49, 50, 51, 52, 53, 54, 55, 56, 57, 0, 0, 0] := by
  rw [sealed_head s9 16 (by decide), body_data]
  decide

end Go.Proofs.YtiacdpfodhggmaaDoor.Tal
