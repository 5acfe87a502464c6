/-
  No cell of these rows narrows 'for every input' (looked for: loops, veiled, ifaces, maps, wideKeys, modest, calm, conditions, laid).
  DERIVED. THE GIVEN ROWS OF THIS SEAT. 4 by the template 'for every input the law returns true; each argument reads behind the call as it read before'; 0 by the template 'total and deterministic' (their statements: YtodhhoegdfpakaaTotals.lean).
  GIVEN WITH THE SEED: the statements are not yours to turn. If you find one false, say at which input.
  Laid BY PROGRAM, IN A SANDBOX (cutbox-rows.mjs): the forced cells as the released guide's own fill.sh prints them over the translation 7c5bf4b498224adf… (all of the seat's roots in one cut). By AI agents, Wed Nov 11 2026. No macro, syntax, notation, axiom, sorry.
-/
import Derived.Test.YtodhhoegdfpakaaChecked
import GoSem.Claim
import GoSem.ClaimJoined
import GoSem.ClaimMapViews
import Derived.JoinedTies
import Derived.KernelRfl
namespace Go.Proofs.Ytodhhoegdfpakaa
/- THE CELL 'sum', in the pinned program and in every row, IS THE sha256 OF THE DUMP (.gsa) THAT YtodhhoegdfpakaaProg.lean LOADS. Nothing in Lean hashes anything: it is a label: what it is worth is what the hold of that sum in a sandbox is worth. -/
noncomputable def Try.pinned : Pinned := { name := "ytodhhoegdfpakaa", sum := "7c5bf4b498224adfa47b91a62f2975d727ac69e2365ca909d14cd586405625d8", checked := Try.checked }
namespace Rows
def none {H : Type} : Left H := { results := [], args := [] }

/-- 'mosaicistlaw06.RowChecks': WHATEVER THE INPUT: true; the input reads as it did. -/
def rowChecksSpec : ChangeSpec := { name := "rowChecks", fn := fun _ => fun
  | [d1, d2, d3] => { results := [.lit (.bool true)], args := [d1, d2, d3] }
  | _ => none }
def rowChecksRow : OpenClaim := { program := "ytodhhoegdfpakaa", sum := "7c5bf4b498224adfa47b91a62f2975d727ac69e2365ca909d14cd586405625d8", func := "mosaicist/mosaicistlaw06.RowChecks", spec := "rowChecks", apart := false }
def RowChecksSaid : Prop := rowChecksRow.holds Try.pinned (OpenSpec.ofChange rowChecksSpec)

/-- ITS FALSE NEIGHBOUR: 'it returns false'. Refute it at one input. -/
def rowChecksWrong : ChangeSpec := { name := "rowChecks", fn := fun _ => fun
  | [d1, d2, d3] => { results := [.lit (.bool false)], args := [d1, d2, d3] }
  | _ => none }
def RowChecksWrongFalsely : Prop := rowChecksRow.holds Try.pinned (OpenSpec.ofChange rowChecksWrong)

/-- 'mosaicistlaw06.RowCells': WHATEVER THE INPUT: true; the input reads as it did. -/
def rowCellsSpec : ChangeSpec := { name := "rowCells", fn := fun _ => fun
  | [d1, d2] => { results := [.lit (.bool true)], args := [d1, d2] }
  | _ => none }
def rowCellsRow : OpenClaim := { program := "ytodhhoegdfpakaa", sum := "7c5bf4b498224adfa47b91a62f2975d727ac69e2365ca909d14cd586405625d8", func := "mosaicist/mosaicistlaw06.RowCells", spec := "rowCells", apart := false }
def RowCellsSaid : Prop := rowCellsRow.holds Try.pinned (OpenSpec.ofChange rowCellsSpec)

/-- ITS FALSE NEIGHBOUR: 'it returns false'. Refute it at one input. -/
def rowCellsWrong : ChangeSpec := { name := "rowCells", fn := fun _ => fun
  | [d1, d2] => { results := [.lit (.bool false)], args := [d1, d2] }
  | _ => none }
def RowCellsWrongFalsely : Prop := rowCellsRow.holds Try.pinned (OpenSpec.ofChange rowCellsWrong)

/-- 'mosaicistlaw06.RowPicks': WHATEVER THE INPUT: true; the input reads as it did. -/
def rowPicksSpec : ChangeSpec := { name := "rowPicks", fn := fun _ => fun
  | [d1, d2] => { results := [.lit (.bool true)], args := [d1, d2] }
  | _ => none }
def rowPicksRow : OpenClaim := { program := "ytodhhoegdfpakaa", sum := "7c5bf4b498224adfa47b91a62f2975d727ac69e2365ca909d14cd586405625d8", func := "mosaicist/mosaicistlaw06.RowPicks", spec := "rowPicks", apart := false }
def RowPicksSaid : Prop := rowPicksRow.holds Try.pinned (OpenSpec.ofChange rowPicksSpec)

/-- ITS FALSE NEIGHBOUR: 'it returns false'. Refute it at one input. -/
def rowPicksWrong : ChangeSpec := { name := "rowPicks", fn := fun _ => fun
  | [d1, d2] => { results := [.lit (.bool false)], args := [d1, d2] }
  | _ => none }
def RowPicksWrongFalsely : Prop := rowPicksRow.holds Try.pinned (OpenSpec.ofChange rowPicksWrong)

/-- 'mosaicistlaw06.RowTurns': WHATEVER THE INPUT: true; the input reads as it did. -/
def rowTurnsSpec : ChangeSpec := { name := "rowTurns", fn := fun _ => fun
  | [d1, d2, d3] => { results := [.lit (.bool true)], args := [d1, d2, d3] }
  | _ => none }
def rowTurnsRow : OpenClaim := { program := "ytodhhoegdfpakaa", sum := "7c5bf4b498224adfa47b91a62f2975d727ac69e2365ca909d14cd586405625d8", func := "mosaicist/mosaicistlaw06.RowTurns", spec := "rowTurns", apart := false }
def RowTurnsSaid : Prop := rowTurnsRow.holds Try.pinned (OpenSpec.ofChange rowTurnsSpec)

/-- ITS FALSE NEIGHBOUR: 'it returns false'. Refute it at one input. -/
def rowTurnsWrong : ChangeSpec := { name := "rowTurns", fn := fun _ => fun
  | [d1, d2, d3] => { results := [.lit (.bool false)], args := [d1, d2, d3] }
  | _ => none }
def RowTurnsWrongFalsely : Prop := rowTurnsRow.holds Try.pinned (OpenSpec.ofChange rowTurnsWrong)

/- THE SECOND FORM. 'bulk': how many values and letters a reading holds, each counted each time it is reached (what is shared counts as often as it is met; a slice's spare places count too). A statement '..UptoSaid' is the law's where the arguments, and the package variables that the reading takes, are together of bulk at most 1048576: NARROWER than '..Said'. Prove '..Said' where nothing that the law and all that it calls make is longer than what came in: it says more and counts as full. Else prove '..UptoSaid'. A law counts once. -/
mutual
def uptoBulk {H : Type} : DataW H → Nat
  | .lit (.string bytes) => bytes.length + 1
  | .lit _ => 1
  | .nil => 1
  | .ptr d => uptoBulk d + 1
  | .slice elems spare => uptoBulkAll elems + uptoBulkAll spare + 1
  | .agg parts => uptoBulkAll parts + 1
  | .iface _ d => uptoBulk d + 1
  | .map entries => uptoBulkEntries entries + 1
  | .held _ => 1
def uptoBulkAll {H : Type} : List (DataW H) → Nat
  | [] => 0
  | d :: r => uptoBulk d + uptoBulkAll r
def uptoBulkEntries {H : Type} : List (Lit × DataW H) → Nat
  | [] => 0
  | x :: r => uptoBulkEntry x + uptoBulkEntries r
def uptoBulkEntry {H : Type} : Lit × DataW H → Nat
  | (.string bytes, d) => bytes.length + uptoBulk d + 1
  | (_, d) => uptoBulk d + 1
 end
def uptoSmall : (H : Type) → List (DataW H) → Bool := fun _ ds => decide (uptoBulkAll ds ≤ 1048576)
def OpenSpec.upto (s : _root_.Go.ChangeSpec) : _root_.Go.OpenSpec := { _root_.Go.OpenSpec.ofChange s with cond := some uptoSmall }

/-- 'mosaicistlaw06.RowChecks', WHERE WHAT IT READS IS OF BULK AT MOST 1048576: true; the input reads as it did. -/
def rowChecksUptoRow : OpenClaim := { program := "ytodhhoegdfpakaa", sum := "7c5bf4b498224adfa47b91a62f2975d727ac69e2365ca909d14cd586405625d8", func := "mosaicist/mosaicistlaw06.RowChecks", spec := "rowChecks", apart := false, narrowed := true }
def RowChecksUptoSaid : Prop := rowChecksUptoRow.holds Try.pinned (OpenSpec.upto rowChecksSpec)

/-- 'mosaicistlaw06.RowCells', WHERE WHAT IT READS IS OF BULK AT MOST 1048576: true; the input reads as it did. -/
def rowCellsUptoRow : OpenClaim := { program := "ytodhhoegdfpakaa", sum := "7c5bf4b498224adfa47b91a62f2975d727ac69e2365ca909d14cd586405625d8", func := "mosaicist/mosaicistlaw06.RowCells", spec := "rowCells", apart := false, narrowed := true }
def RowCellsUptoSaid : Prop := rowCellsUptoRow.holds Try.pinned (OpenSpec.upto rowCellsSpec)

/-- 'mosaicistlaw06.RowPicks', WHERE WHAT IT READS IS OF BULK AT MOST 1048576: true; the input reads as it did. -/
def rowPicksUptoRow : OpenClaim := { program := "ytodhhoegdfpakaa", sum := "7c5bf4b498224adfa47b91a62f2975d727ac69e2365ca909d14cd586405625d8", func := "mosaicist/mosaicistlaw06.RowPicks", spec := "rowPicks", apart := false, narrowed := true }
def RowPicksUptoSaid : Prop := rowPicksUptoRow.holds Try.pinned (OpenSpec.upto rowPicksSpec)

/-- 'mosaicistlaw06.RowTurns', WHERE WHAT IT READS IS OF BULK AT MOST 1048576: true; the input reads as it did. -/
def rowTurnsUptoRow : OpenClaim := { program := "ytodhhoegdfpakaa", sum := "7c5bf4b498224adfa47b91a62f2975d727ac69e2365ca909d14cd586405625d8", func := "mosaicist/mosaicistlaw06.RowTurns", spec := "rowTurns", apart := false, narrowed := true }
def RowTurnsUptoSaid : Prop := rowTurnsUptoRow.holds Try.pinned (OpenSpec.upto rowTurnsSpec)

end Rows
end Go.Proofs.Ytodhhoegdfpakaa
