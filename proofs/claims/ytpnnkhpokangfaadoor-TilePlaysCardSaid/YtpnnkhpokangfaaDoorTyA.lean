/- The library's tables as the rows list them: what a laid world holds. -/
import Derived.Test.YtpnnkhpokangfaaDoorRows
import Derived.Test.YtpnnkhpokangfaaDoorTiD
import Derived.ProofKit
import Derived.OpenShut
import Derived.Carry
import Derived.ChangeSame
import Derived.ChangeVars
import Derived.JoinedOf
import Derived.RowKit
import Derived.Lib.LaidTab
namespace Go.Proofs.YtpnnkhpokangfaaDoor
open Go.ChangeShapes Go.WideShapes Go.ChangeAt Go.RowKit
theorem gTab1 : Tryd.prog.globalNamed "math/bits.deBruijn64tab" = some 1 := by kernel_rfl
theorem gTab1Type : (Tryd.prog.globals[1]?).map (·.type) = some 105 := by kernel_rfl
theorem cellsTab : Tryd.prog.cellsOf 105 = 64 := by kernel_rfl
theorem cellsByte : Tryd.prog.cellsOf 5 = 1 := by kernel_rfl
def tab64I : List Int := Lib.deBruijn64tab.map (fun (n : Nat) => (n : Int))
def tab32I : List Int := Lib.deBruijn32tab.map (fun (n : Nat) => (n : Int))
def laidL : List (String × DataW Unit) := [("math/bits.deBruijn32tab", Rows.laid_math_bits_deBruijn32tab), ("math/bits.deBruijn64tab", Rows.laid_math_bits_deBruijn64tab)]
theorem laid_tail {P : Program} {W : World} {x : String × DataW Unit} {r : List (String × DataW Unit)} (h : laidMet P (x :: r) W) : laidMet P r W := by
 obtain ⟨ps, ⟨g, t, cs, fuel, p, q, _, _, _, _, hr, rfl⟩, hnd, hx⟩ := h
 exact ⟨q, hr, (List.nodup_append.1 hnd).2.1, fun b off hm => hx b off (List.mem_append_right _ hm)⟩
theorem tab_of_laid {W : World} (h : laidMet Tryd.prog laidL W) : Ti.Tab W := by
 have h' : laidMet Tryd.prog (("math/bits.deBruijn64tab", Lib.tabData .u8 tab64I) :: []) W := laid_tail h
 have hT := Lib.tabIs_of_head gTab1 gTab1Type Tryd.underlying105 Tryd.underlying5 cellsByte cellsTab h'
 have hc : ∀ i, i < 64 → W.cell? ⟨1, i, none⟩ = some (.int .u8 (Lib.deBruijn64tab.getD i 0)) := fun i hi => by
  rw [hT.cell gTab1 i hi]
  have : ∀ j, j < 64 → tab64I.getD j 0 = ((Lib.deBruijn64tab.getD j 0 : Nat) : Int) := by decide
  rw [this i hi]
 exact ⟨fun j hj => hc j hj, World.block_lt_of_cell? W _ (hc 0 (by decide))⟩
/-- The witness: the settled world, the tables holding what their initialisers lay. -/
noncomputable def put0 (l : List Int) : Obj → Obj
 | .cells _ t frozen => .cells (l.map fun z => Value.int .u8 z).toArray t frozen
 | o => o
noncomputable def laidWorld (os : Os) : World :=
 { World.holding Tryd.prog os ⟨#[], #[], []⟩ with heap := ((World.holding Tryd.prog os ⟨#[], #[], []⟩).heap.modify 0 (put0 tab32I)).modify 1 (put0 tab64I) }
theorem laid_met (os : Os) (args : Array Value) : laidMet Tryd.prog laidL ((laidWorld os).forCall (fun _ _ => 0) ⟨#[], args, []⟩).memory :=
 laidMet_of_run' 8 (by kernel_rfl) (by kernel_rfl)
end Go.Proofs.YtpnnkhpokangfaaDoor
