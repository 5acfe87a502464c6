/- StoreAgain: for every input the law returns true, and its arguments read as they did. The listed table is tied to the program's text; no condition beside that tie. -/
import Derived.Test.YtcgkbcgpnlogoaaGreatDoorKREA
import Derived.Test.YtcgkbcgpnlogoaaGreatDoorKREJ
import Derived.Test.YtcgkbcgpnlogoaaGreatDoorRows
import Derived.Test.YtcgkbcgpnlogoaaGreatDoorCards
import Derived.Test.YtcgkbcgpnlogoaaGreatDoorTie
import Derived.Test.YtcgkbcgpnlogoaaGreatDoorSuH
import Derived.Test.YtcgkbcgpnlogoaaGreatDoorMgAK
import Derived.Test.YtcgkbcgpnlogoaaGreatDoorMgAD
import Derived.ProofKit
import Derived.OpenShut
import Derived.Carry
import Derived.ChangeSame
import Derived.ChangeVars
import Derived.JoinedOf
import Derived.RowKit
namespace Go.Proofs.YtcgkbcgpnlogoaaGreatDoor
open Go.ChangeShapes Go.WideShapes Go.ChangeAt Go.RowKit
open Go.ChangeMaps (setBlock shut_map_nil open_string shut_string keptBut_setBlock frozen?_setBlock heap_setBlock_same)

namespace RowStoreAgain
theorem row : Rows.StoreAgainSaid :=
 OpenClaim.holds_of_wide 5 Tryz.f5 rfl rfl rfl rfl rfl rfl rfl ⟨rfl, rfl, rfl, rfl, rfl⟩ rfl rfl rfl rfl rfl (by kernel_rfl) Tryz.func5 closed
  (of_decide_eq_true (by kernel_rfl)) (by unfold Func.isWrapper; first | (rw [if_pos (by decide +kernel)]; kernel_rfl) | (rw [if_neg (by decide +kernel)]; exact ⟨rfl, rfl⟩))
  (fun os started H enc _ => lifted os started H enc)
end RowStoreAgain
end Go.Proofs.YtcgkbcgpnlogoaaGreatDoor
