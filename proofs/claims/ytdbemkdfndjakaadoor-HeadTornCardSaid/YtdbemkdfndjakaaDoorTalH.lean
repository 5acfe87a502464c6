/- Bytes of which up to four side by side are others: plainly, and in memory. -/
import Derived.Test.YtdbemkdfndjakaaDoorTalE
import Derived.Laws.IdiomStrings
import Derived.Lib.ConvBytes
import Derived.RegionTactic
import Derived.ChangeAlike
namespace Go.Proofs.YtdbemkdfndjakaaDoor.Tal
open Go.RowKit Go.Shelf

/-- Bytes, of which so many behind the k-th are others. -/
def cur (S E : Nat → UInt8) (k q j : Nat) : UInt8 := if k ≤ j ∧ j < k + q then S j ^^^ E (j - k) else S j
theorem add_zero_off (b j : Nat) : (⟨b, 0, none⟩ : Addr).add j = ⟨b, j, none⟩ := by unfold Addr.add; split <;> simp_all
end Go.Proofs.YtdbemkdfndjakaaDoor.Tal
