/- The document's Box's Done, walked. -/
import Derived.Test.YtmjlfhfadmndhaaPacF
namespace Go.Proofs.Ytmjlfhfadmndhaa.Pac
open Go.RowKit

set_option maxHeartbeats 400000 in
theorem refDone_any (g : Nat) (s : ByteArray) (bad : Bool) (w : World) (hb : IsBox w g s bad) :
    Calls Try.prog 36 #[.pointer (some ⟨g, 0, none⟩)] w fun e w' => e = .returned (.bool (doneB s bad)) ∧ w = w' := by
  have c0 := hb.c0
  have c1 := hb.c1
  go_enter Try.func36, Try.ntmps36
  cases bad with
  | true =>
    go_wp2
    go_ret
    exact ⟨rfl, rfl⟩
  | false =>
    go_wp2
    go_ret
    exact ⟨rfl, rfl⟩

end Go.Proofs.Ytmjlfhfadmndhaa.Pac
