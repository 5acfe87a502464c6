/- StoreAgain: for every input the law returns true, and its arguments read as they did. The listed table is tied to the program's text; no condition beside that tie. -/
import Derived.Test.YtcgkbcgpnlogoaaGreatDoorKREB
import Derived.Test.YtcgkbcgpnlogoaaGreatDoorKREC
import Derived.Test.YtcgkbcgpnlogoaaGreatDoorRows
import Derived.Test.YtcgkbcgpnlogoaaGreatDoorCards
import Derived.Test.YtcgkbcgpnlogoaaGreatDoorTie
import Derived.Test.YtcgkbcgpnlogoaaGreatDoorSuH
import Derived.Test.YtcgkbcgpnlogoaaGreatDoorMgAK
import Derived.Test.YtcgkbcgpnlogoaaGreatDoorMgAD
import Derived.ProofKit
import Derived.OpenShut
import Derived.Carry
import Derived.ChangeSame
import Derived.ChangeVars
import Derived.JoinedOf
import Derived.RowKit
namespace Go.Proofs.YtcgkbcgpnlogoaaGreatDoor
open Go.ChangeShapes Go.WideShapes Go.ChangeAt Go.RowKit
open Go.ChangeMaps (setBlock shut_map_nil open_string shut_string keptBut_setBlock frozen?_setBlock heap_setBlock_same)

namespace RowStoreAgain
theorem card : Rows.StoreAgainCardSaid :=
 Claim7.holds_tied_plain_at .later [] [.data] true (true, "7cff7e5e34a5094ed9641bc6244b0d49c660463fbc51d19e3ca042c92efaf512") false
  row (fun _ h => by cases h) c1 (fun _ h => by cases h) storeAgain_row_tie rfl ⟨rfl, rfl⟩ (by kernel_rfl) rfl
  (fun f fn hf hfn => by
   obtain rfl : f = 5 := Option.some.inj ((show Tryz.prog.funcNamed "mosaicist/mosaicistlaw18.StoreAgain" = some 5 by kernel_rfl).symm.trans hf) |>.symm
   obtain rfl : fn = Tryz.f5 := (Option.some.inj (Tryz.func5.symm.trans hfn)).symm
   exact ⟨c3, fun j t ht => by
    rw [Tryz.params5] at ht
    rcases j with _ | j
    ·obtain rfl : t = 5 := by simpa using ht.symm
     exact w5
    rcases j with _ | j
    ·obtain rfl : t = 22 := by simpa using ht.symm
     exact w22
    rcases j with _ | j
    ·obtain rfl : t = 5 := by simpa using ht.symm
     exact w5
    simp at ht⟩)
  c5
#print axioms card
end RowStoreAgain
end Go.Proofs.YtcgkbcgpnlogoaaGreatDoor
