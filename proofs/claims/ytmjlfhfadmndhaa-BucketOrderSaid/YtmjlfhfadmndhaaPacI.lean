/- A Box's Done, walked. -/
import Derived.Test.YtmjlfhfadmndhaaPacF
namespace Go.Proofs.Ytmjlfhfadmndhaa.Pac
open Go.RowKit

set_option maxHeartbeats 400000 in
theorem boxDone_any (g : Nat) (s : ByteArray) (bad : Bool) (w : World) (hb : IsBox w g s bad) :
    Calls Try.prog 33 #[.pointer (some ⟨g, 0, none⟩)] w fun e w' => e = .returned (.bool (doneB s bad)) ∧ w = w' := by
  have c0 := hb.c0
  go_enter Try.func33, Try.ntmps33
  go_wp2_with fail
  refine (spoilt_any g s bad w hb).mono ?_
  rintro e w1 ⟨rfl, rfl⟩
  cases bad with
  | true =>
    go_wp2
    go_ret
    exact ⟨rfl, rfl⟩
  | false =>
    go_wp2
    go_ret
    exact ⟨rfl, rfl⟩

end Go.Proofs.Ytmjlfhfadmndhaa.Pac
