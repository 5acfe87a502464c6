/- StoreAgain: for every input the law returns true, and its arguments read as they did. The listed table is tied to the program's text; no condition beside that tie. -/
import Derived.Test.YtcgkbcgpnlogoaaGreatDoorRows
import Derived.Test.YtcgkbcgpnlogoaaGreatDoorCards
import Derived.Test.YtcgkbcgpnlogoaaGreatDoorTie
import Derived.Test.YtcgkbcgpnlogoaaGreatDoorSuH
import Derived.Test.YtcgkbcgpnlogoaaGreatDoorMgAK
import Derived.Test.YtcgkbcgpnlogoaaGreatDoorMgAD
import Derived.ProofKit
import Derived.OpenShut
import Derived.Carry
import Derived.ChangeSame
import Derived.ChangeVars
import Derived.JoinedOf
import Derived.RowKit
namespace Go.Proofs.YtcgkbcgpnlogoaaGreatDoor
open Go.ChangeShapes Go.WideShapes Go.ChangeAt Go.RowKit
open Go.ChangeMaps (setBlock shut_map_nil open_string shut_string keptBut_setBlock frozen?_setBlock heap_setBlock_same)

namespace RowStoreAgain
theorem j1 : (Rows.storeAgainRow.wf (OpenSpec.ofChange Rows.storeAgainSpec)) = true := by kernel_rfl
theorem j2 : (laidOutB Tryz.prog) = true := by kernel_rfl
theorem j3 : (mapsRowed Tryz.prog) = true := by kernel_rfl
theorem j10 : ((Rows.storeAgainRow.inPlace == Tryz.prog.inPlace 5)) = true := by kernel_rfl
theorem j11 : ((Rows.storeAgainRow.unfollowed == Tryz.prog.unfollowed 5)) = true := by kernel_rfl
theorem j12 : ((Rows.storeAgainRow.recurses == Tryz.prog.recurses 5)) = true := by kernel_rfl
theorem j13 : ((Rows.storeAgainRow.named == Tryz.prog.varsNamed 5)) = true := by kernel_rfl
theorem j23 : ((Rows.storeAgainRow.plainKeys == Tryz.prog.plainKeys)) = true := by kernel_rfl
theorem j25 : (Tryz.prog.stopsHeard) = true := by kernel_rfl
theorem j26 : (Tryz.prog.mayEnter) = true := by kernel_rfl
theorem j27 : ((Rows.storeAgainRow.lifted == Tryz.prog.liftsFinal)) = true := by kernel_rfl
theorem j28 : ((Tryz.prog.make == some Rows.storeAgainRow.make)) = true := by kernel_rfl
theorem and_b {a b : Bool} (h : a = true) (k : b = true) : (a && b) = true := by rw [h, k]; rfl
theorem closed : joinedFacts Tryz.prog 5 Tryz.f5 Rows.storeAgainSpec Rows.storeAgainRow = true := by
 unfold joinedFacts
 exact (and_b (and_b (and_b (and_b (and_b (and_b (and_b (and_b (and_b (and_b (and_b (and_b (and_b (and_b (and_b (and_b (and_b (and_b (and_b (and_b (and_b (and_b (and_b (and_b (and_b (and_b (and_b (and_b (and_b (and_b (and_b j1 j2) j3) (by kernel_rfl)) (by kernel_rfl)) (by kernel_rfl)) (by kernel_rfl)) (by kernel_rfl)) (by kernel_rfl)) j10) j11) j12) j13) (by kernel_rfl)) (by kernel_rfl)) (by kernel_rfl)) (by kernel_rfl)) (by kernel_rfl)) (by kernel_rfl)) (by kernel_rfl)) (by kernel_rfl)) (by kernel_rfl)) j23) (by kernel_rfl)) j25) j26) j27) j28) (by kernel_rfl)) (by kernel_rfl)) (by kernel_rfl)) (by kernel_rfl))
end RowStoreAgain
end Go.Proofs.YtcgkbcgpnlogoaaGreatDoor
