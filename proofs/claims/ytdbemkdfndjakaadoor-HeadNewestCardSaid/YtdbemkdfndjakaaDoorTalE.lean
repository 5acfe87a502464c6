/- What is sealed, plainly; the document's examples, closed, and walked. -/
import Derived.Test.YtdbemkdfndjakaaDoorTalD
import Derived.Lib.Strings
namespace Go.Proofs.YtdbemkdfndjakaaDoor.Tal
open Go.RowKit Go.Shelf

theorem body_data (s : ByteArray) (n : Nat) : (body s n).data.toList = s.data.toList ++ List.replicate (n - s.size) 0 := by
  unfold body
  rw [ByteArray.data_append, Array.toList_append]
  rfl
theorem sealed_data (s : ByteArray) (n : Nat) : (sealed s n).data.toList = (body s (n - 4)).data.toList ++ (prt (crc (body s (n - 4)).data.toList)).data.toList := by
  unfold sealed
  rw [ByteArray.data_append, Array.toList_append]
theorem sealed_size (s : ByteArray) (n : Nat) (h : s.size + 4 ≤ n) : (sealed s n).size = n := by
  unfold sealed
  rw [ByteArray.size_append, body_size _ _ (by omega), prt_size]
  omega
def s9 : ByteArray := ⟨#[49, 50, 51, 52, 53, 54, 55, 56, 57]⟩
end Go.Proofs.YtdbemkdfndjakaaDoor.Tal
