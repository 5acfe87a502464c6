/- The table of half bytes (tally) as the rows list it: what a laid world holds. -/
import Derived.Test.YtdbemkdfndjakaaDoorRows
import Derived.Test.YtdbemkdfndjakaaDoorMgT
import Derived.ProofKit
import Derived.OpenShut
import Derived.Carry
import Derived.ChangeSame
import Derived.ChangeVars
import Derived.JoinedOf
import Derived.RowKit
import Derived.Lib.LaidTab
namespace Go.Proofs.YtdbemkdfndjakaaDoor
open Go.ChangeShapes Go.WideShapes Go.ChangeAt Go.RowKit Tal
theorem gHalves : Tryd.prog.globalNamed "mosaicist/tally.halves" = some 0 := by kernel_rfl
theorem gHalvesType : (Tryd.prog.globals[0]?).map (·.type) = some 94 := by kernel_rfl
theorem cellsHalves : Tryd.prog.cellsOf 94 = 16 := by kernel_rfl
theorem cellsU32 : Tryd.prog.cellsOf 72 = 1 := by kernel_rfl
def halvesI : List Int := [0, 498536548, 997073096, 651767980, 1994146192, 1802195444, 1303535960, 1342533948, 3988292384, 4027552580, 3604390888, 3412177804, 2607071920, 2262029012, 2685067896, 3183342108]
def laidL : List (String × DataW Unit) := [("mosaicist/tally.halves", Rows.laid_mosaicist_tally_halves)]
theorem tab_of_laid {W : World} (h : laidMet Tryd.prog laidL W) : Tal.Tab W := by
  have h' : laidMet Tryd.prog (("mosaicist/tally.halves", Lib.tabData .u32 halvesI) :: []) W := h
  have hT := Lib.tabIs_of_head gHalves gHalvesType Tryd.underlying94 Tryd.underlying72 cellsU32 cellsHalves h'
  intro i hi
  rw [hT.cell gHalves i hi]
  have : ∀ j, j < 16 → halvesI.getD j 0 = (hv j : Int) := by decide
  rw [this i hi]
/-- The witness: the settled world, the table holding what its initialiser lays. -/
noncomputable def laidWorld (os : Os) : World :=
  { World.holding Tryd.prog os ⟨#[], #[], []⟩ with heap := (World.holding Tryd.prog os ⟨#[], #[], []⟩).heap.modify 0 fun
      | .cells _ t frozen => .cells (halvesI.map fun z => Value.int .u32 z).toArray t frozen
      | o => o }
theorem laid_met (os : Os) (args : Array Value) : laidMet Tryd.prog laidL ((laidWorld os).forCall (fun _ _ => 0) ⟨#[], args, []⟩).memory :=
  laidMet_of_run' 8 (by kernel_rfl) (by kernel_rfl)
end Go.Proofs.YtdbemkdfndjakaaDoor
