/- StoreAgain: for every input the law returns true, and its arguments read as they did. The listed table is tied to the program's text; no condition beside that tie. -/
import Derived.Test.YtcgkbcgpnlogoaaGreatDoorRows
import Derived.Test.YtcgkbcgpnlogoaaGreatDoorCards
import Derived.Test.YtcgkbcgpnlogoaaGreatDoorTie
import Derived.Test.YtcgkbcgpnlogoaaGreatDoorSuH
import Derived.Test.YtcgkbcgpnlogoaaGreatDoorMgAK
import Derived.Test.YtcgkbcgpnlogoaaGreatDoorMgAD
import Derived.ProofKit
import Derived.OpenShut
import Derived.Carry
import Derived.ChangeSame
import Derived.ChangeVars
import Derived.JoinedOf
import Derived.RowKit
namespace Go.Proofs.YtcgkbcgpnlogoaaGreatDoor
open Go.ChangeShapes Go.WideShapes Go.ChangeAt Go.RowKit
open Go.ChangeMaps (setBlock shut_map_nil open_string shut_string keptBut_setBlock frozen?_setBlock heap_setBlock_same)

namespace RowStoreAgain
theorem c1 : OpenClaim.wfByText (OpenSpec.ofChange Rows.storeAgainSpec) Rows.storeAgainRow = true := by kernel_rfl
theorem w5 : Tryz.prog.wantsStandIn 5 = false := by kernel_rfl
theorem w22 : Tryz.prog.wantsStandIn 22 = false := by kernel_rfl
theorem c3 : false = Tryz.prog.looks [] := by kernel_rfl
theorem c5 : false = Rows.storeAgainRow.goesBy Tryz.prog := by kernel_rfl
end RowStoreAgain
end Go.Proofs.YtcgkbcgpnlogoaaGreatDoor
