/- Values, rows and places that came in, out of their readings. -/
import Derived.Test.YtpnnkhpokangfaaDoorRoD
import Derived.Test.YtpnnkhpokangfaaDoorMgS
import Derived.ProofKit
import Derived.OpenShut
import Derived.Carry
namespace Go.Proofs.YtpnnkhpokangfaaDoor.Ro
set_option maxRecDepth 20000
open Go.ChangeShapes Go.WideShapes Go.ChangeAt Go.RowKit Va

theorem cells34 : Tryd.prog.cellsOf 37 = 3 := by kernel_rfl
theorem cellsInt : Tryd.prog.cellsOf 3 = 1 := by kernel_rfl
theorem cellsStr : Tryd.prog.cellsOf 9 = 1 := by kernel_rfl
section
variable {H : Type} {enc : TypeId × Value → H} {w : World} {base : Nat} {spare : Nat → Bool} {held : Bool}
end
instance : Inhabited V := ⟨⟨0, 0, ⟨#[]⟩⟩⟩
end Go.Proofs.YtpnnkhpokangfaaDoor.Ro
