/- Bytes of which up to four side by side are others: plainly, and in memory. -/
import Derived.Test.YtdbemkdfndjakaaDoorTalE
import Derived.Laws.IdiomStrings
import Derived.Lib.ConvBytes
import Derived.RegionTactic
import Derived.ChangeAlike
namespace Go.Proofs.YtdbemkdfndjakaaDoor.Tal
open Go.RowKit Go.Shelf

/-- Bytes, of which so many behind the k-th are others. -/
def cur (S E : Nat → UInt8) (k q j : Nat) : UInt8 := if k ≤ j ∧ j < k + q then S j ^^^ E (j - k) else S j
/-- The bytes of a text, in new memory. -/
theorem bytes_new (s : ByteArray) (w : World) : ∃ (W : World) (cap : Nat), (convert 9 42 (.string s)).run Tryd.prog w = .ok (.slice (some ⟨w.heap.size, 0, none⟩) s.size cap) W ∧ s.size ≤ cap ∧
    (∀ j, j < s.size → W.cell? ⟨w.heap.size, j, none⟩ = some (.int .u8 ((s.data.toList.getD j 0).toNat)) ∧ W.frozen? ⟨w.heap.size, j, none⟩ = false) ∧ Below w.heap.size w W := by
  have hc := Lib.run_convert_string_bytes (P := Tryd.prog) w 9 42 5 s Tryd.underlying9 Tryd.underlying42 Tryd.underlying5
  refine ⟨_, _, hc, grownCap_ge _ _ _ _, fun j hj => ⟨Lib.bytesWorld_cell w 5 s j hj, ?_⟩, ?_⟩
  · have hsz : s.size ≤ (Lib.bytesCells w 5 s).size := by unfold Lib.bytesCells; simp
    simp [World.frozen?, Lib.bytesWorld_at_new]
    omega
  · exact ⟨rfl, rfl, rfl, by rw [Lib.bytesWorld_size]; omega, fun k hk => Lib.bytesWorld_at_old w 5 s k hk⟩
theorem add_zero_off (b j : Nat) : (⟨b, 0, none⟩ : Addr).add j = ⟨b, j, none⟩ := by unfold Addr.add; split <;> simp_all
end Go.Proofs.YtdbemkdfndjakaaDoor.Tal
