/-
  No cell of these rows narrows 'for every input' (looked for: loops, veiled, ifaces, maps, wideKeys, modest, calm, conditions, laid).
  DERIVED. THE GIVEN ROWS OF THIS SEAT. 4 by the template 'for every input the law returns true; each argument reads behind the call as it read before'; 0 by the template 'total and deterministic' (their statements: YtabgbhilbnchnaaTotals.lean).
  GIVEN WITH THE SEED: the statements are not yours to turn. If you find one false, say at which input.
  Laid BY PROGRAM, IN A SANDBOX (cutbox-rows.mjs): the forced cells as the released guide's own fill.sh prints them over the translation fef6bb9115421576… (all of the seat's roots in one cut). By AI agents, Wed Nov 11 2026. No macro, syntax, notation, axiom, sorry.
-/
import Derived.Test.YtabgbhilbnchnaaChecked
import GoSem.Claim
import GoSem.ClaimJoined
import GoSem.ClaimMapViews
import Derived.JoinedTies
import Derived.KernelRfl
namespace Go.Proofs.Ytabgbhilbnchnaa
/- THE CELL 'sum', in the pinned program and in every row, IS THE sha256 OF THE DUMP (.gsa) THAT YtabgbhilbnchnaaProg.lean LOADS. Nothing in Lean hashes anything: it is a label: what it is worth is what the hold of that sum in a sandbox is worth. -/
noncomputable def Try.pinned : Pinned := { name := "ytabgbhilbnchnaa", sum := "fef6bb9115421576d599114cee8aa92643baf07b2426e640ed810fd3541de112", checked := Try.checked }
namespace Rows
def none {H : Type} : Left H := { results := [], args := [] }

/-- 'mosaicistlaw09.MiniPrints': WHATEVER THE INPUT: true; the input reads as it did. -/
def miniPrintsSpec : ChangeSpec := { name := "miniPrints", fn := fun _ => fun
  | [d1, d2, d3] => { results := [.lit (.bool true)], args := [d1, d2, d3] }
  | _ => none }
def miniPrintsRow : OpenClaim := { program := "ytabgbhilbnchnaa", sum := "fef6bb9115421576d599114cee8aa92643baf07b2426e640ed810fd3541de112", func := "mosaicist/mosaicistlaw09.MiniPrints", spec := "miniPrints", apart := false }
def MiniPrintsSaid : Prop := miniPrintsRow.holds Try.pinned (OpenSpec.ofChange miniPrintsSpec)

/-- ITS FALSE NEIGHBOUR: 'it returns false'. Refute it at one input. -/
def miniPrintsWrong : ChangeSpec := { name := "miniPrints", fn := fun _ => fun
  | [d1, d2, d3] => { results := [.lit (.bool false)], args := [d1, d2, d3] }
  | _ => none }
def MiniPrintsWrongFalsely : Prop := miniPrintsRow.holds Try.pinned (OpenSpec.ofChange miniPrintsWrong)

/-- 'mosaicistlaw09.MiniBack': WHATEVER THE INPUT: true; the input reads as it did. -/
def miniBackSpec : ChangeSpec := { name := "miniBack", fn := fun _ => fun
  | [d1, d2, d3] => { results := [.lit (.bool true)], args := [d1, d2, d3] }
  | _ => none }
def miniBackRow : OpenClaim := { program := "ytabgbhilbnchnaa", sum := "fef6bb9115421576d599114cee8aa92643baf07b2426e640ed810fd3541de112", func := "mosaicist/mosaicistlaw09.MiniBack", spec := "miniBack", apart := false }
def MiniBackSaid : Prop := miniBackRow.holds Try.pinned (OpenSpec.ofChange miniBackSpec)

/-- ITS FALSE NEIGHBOUR: 'it returns false'. Refute it at one input. -/
def miniBackWrong : ChangeSpec := { name := "miniBack", fn := fun _ => fun
  | [d1, d2, d3] => { results := [.lit (.bool false)], args := [d1, d2, d3] }
  | _ => none }
def MiniBackWrongFalsely : Prop := miniBackRow.holds Try.pinned (OpenSpec.ofChange miniBackWrong)

/-- 'mosaicistlaw09.MiniWidths': WHATEVER THE INPUT: true; the input reads as it did. -/
def miniWidthsSpec : ChangeSpec := { name := "miniWidths", fn := fun _ => fun
  | [d1, d2, d3] => { results := [.lit (.bool true)], args := [d1, d2, d3] }
  | _ => none }
def miniWidthsRow : OpenClaim := { program := "ytabgbhilbnchnaa", sum := "fef6bb9115421576d599114cee8aa92643baf07b2426e640ed810fd3541de112", func := "mosaicist/mosaicistlaw09.MiniWidths", spec := "miniWidths", apart := false }
def MiniWidthsSaid : Prop := miniWidthsRow.holds Try.pinned (OpenSpec.ofChange miniWidthsSpec)

/-- ITS FALSE NEIGHBOUR: 'it returns false'. Refute it at one input. -/
def miniWidthsWrong : ChangeSpec := { name := "miniWidths", fn := fun _ => fun
  | [d1, d2, d3] => { results := [.lit (.bool false)], args := [d1, d2, d3] }
  | _ => none }
def MiniWidthsWrongFalsely : Prop := miniWidthsRow.holds Try.pinned (OpenSpec.ofChange miniWidthsWrong)

/-- 'mosaicistlaw09.MiniCell': WHATEVER THE INPUT: true; the input reads as it did. -/
def miniCellSpec : ChangeSpec := { name := "miniCell", fn := fun _ => fun
  | [d1, d2, d3] => { results := [.lit (.bool true)], args := [d1, d2, d3] }
  | _ => none }
def miniCellRow : OpenClaim := { program := "ytabgbhilbnchnaa", sum := "fef6bb9115421576d599114cee8aa92643baf07b2426e640ed810fd3541de112", func := "mosaicist/mosaicistlaw09.MiniCell", spec := "miniCell", apart := false }
def MiniCellSaid : Prop := miniCellRow.holds Try.pinned (OpenSpec.ofChange miniCellSpec)

/-- ITS FALSE NEIGHBOUR: 'it returns false'. Refute it at one input. -/
def miniCellWrong : ChangeSpec := { name := "miniCell", fn := fun _ => fun
  | [d1, d2, d3] => { results := [.lit (.bool false)], args := [d1, d2, d3] }
  | _ => none }
def MiniCellWrongFalsely : Prop := miniCellRow.holds Try.pinned (OpenSpec.ofChange miniCellWrong)

/- THE SECOND FORM. 'bulk': how many values and letters a reading holds, each counted each time it is reached (what is shared counts as often as it is met; a slice's spare places count too). A statement '..UptoSaid' is the law's where the arguments, and the package variables that the reading takes, are together of bulk at most 1048576: NARROWER than '..Said'. Prove '..Said' where nothing that the law and all that it calls make is longer than what came in: it says more and counts as full. Else prove '..UptoSaid'. A law counts once. -/
mutual
def uptoBulk {H : Type} : DataW H → Nat
  | .lit (.string bytes) => bytes.length + 1
  | .lit _ => 1
  | .nil => 1
  | .ptr d => uptoBulk d + 1
  | .slice elems spare => uptoBulkAll elems + uptoBulkAll spare + 1
  | .agg parts => uptoBulkAll parts + 1
  | .iface _ d => uptoBulk d + 1
  | .map entries => uptoBulkEntries entries + 1
  | .held _ => 1
def uptoBulkAll {H : Type} : List (DataW H) → Nat
  | [] => 0
  | d :: r => uptoBulk d + uptoBulkAll r
def uptoBulkEntries {H : Type} : List (Lit × DataW H) → Nat
  | [] => 0
  | x :: r => uptoBulkEntry x + uptoBulkEntries r
def uptoBulkEntry {H : Type} : Lit × DataW H → Nat
  | (.string bytes, d) => bytes.length + uptoBulk d + 1
  | (_, d) => uptoBulk d + 1
 end
def uptoSmall : (H : Type) → List (DataW H) → Bool := fun _ ds => decide (uptoBulkAll ds ≤ 1048576)
def OpenSpec.upto (s : _root_.Go.ChangeSpec) : _root_.Go.OpenSpec := { _root_.Go.OpenSpec.ofChange s with cond := some uptoSmall }

/-- 'mosaicistlaw09.MiniPrints', WHERE WHAT IT READS IS OF BULK AT MOST 1048576: true; the input reads as it did. -/
def miniPrintsUptoRow : OpenClaim := { program := "ytabgbhilbnchnaa", sum := "fef6bb9115421576d599114cee8aa92643baf07b2426e640ed810fd3541de112", func := "mosaicist/mosaicistlaw09.MiniPrints", spec := "miniPrints", apart := false, narrowed := true }
def MiniPrintsUptoSaid : Prop := miniPrintsUptoRow.holds Try.pinned (OpenSpec.upto miniPrintsSpec)

/-- 'mosaicistlaw09.MiniBack', WHERE WHAT IT READS IS OF BULK AT MOST 1048576: true; the input reads as it did. -/
def miniBackUptoRow : OpenClaim := { program := "ytabgbhilbnchnaa", sum := "fef6bb9115421576d599114cee8aa92643baf07b2426e640ed810fd3541de112", func := "mosaicist/mosaicistlaw09.MiniBack", spec := "miniBack", apart := false, narrowed := true }
def MiniBackUptoSaid : Prop := miniBackUptoRow.holds Try.pinned (OpenSpec.upto miniBackSpec)

/-- 'mosaicistlaw09.MiniWidths', WHERE WHAT IT READS IS OF BULK AT MOST 1048576: true; the input reads as it did. -/
def miniWidthsUptoRow : OpenClaim := { program := "ytabgbhilbnchnaa", sum := "fef6bb9115421576d599114cee8aa92643baf07b2426e640ed810fd3541de112", func := "mosaicist/mosaicistlaw09.MiniWidths", spec := "miniWidths", apart := false, narrowed := true }
def MiniWidthsUptoSaid : Prop := miniWidthsUptoRow.holds Try.pinned (OpenSpec.upto miniWidthsSpec)

/-- 'mosaicistlaw09.MiniCell', WHERE WHAT IT READS IS OF BULK AT MOST 1048576: true; the input reads as it did. -/
def miniCellUptoRow : OpenClaim := { program := "ytabgbhilbnchnaa", sum := "fef6bb9115421576d599114cee8aa92643baf07b2426e640ed810fd3541de112", func := "mosaicist/mosaicistlaw09.MiniCell", spec := "miniCell", apart := false, narrowed := true }
def MiniCellUptoSaid : Prop := miniCellUptoRow.holds Try.pinned (OpenSpec.upto miniCellSpec)

end Rows
end Go.Proofs.Ytabgbhilbnchnaa
