/-
  No cell of these rows narrows 'for every input' (looked for: loops, veiled, ifaces, maps, wideKeys, modest, calm, conditions, laid).
  DERIVED. THE GIVEN ROWS OF THIS SEAT. 4 by the template 'for every input the law returns true; each argument reads behind the call as it read before'; 0 by the template 'total and deterministic' (their statements: YtbeojghlldiniaaTotals.lean).
  GIVEN WITH THE SEED: the statements are not yours to turn. If you find one false, say at which input.
  Laid BY PROGRAM, IN A SANDBOX (cutbox-rows.mjs): the forced cells as the released guide's own fill.sh prints them over the translation 4be180abd631daf6… (all of the seat's roots in one cut). By AI agents, Wed Nov 11 2026. No macro, syntax, notation, axiom, sorry.
-/
import Derived.Test.YtbeojghlldiniaaChecked
import GoSem.Claim
import GoSem.ClaimJoined
import GoSem.ClaimMapViews
import Derived.JoinedTies
import Derived.KernelRfl
namespace Go.Proofs.Ytbeojghlldiniaa
/- THE CELL 'sum', in the pinned program and in every row, IS THE sha256 OF THE DUMP (.gsa) THAT YtbeojghlldiniaaProg.lean LOADS. Nothing in Lean hashes anything: it is a label: what it is worth is what the hold of that sum in a sandbox is worth. -/
noncomputable def Try.pinned : Pinned := { name := "ytbeojghlldiniaa", sum := "4be180abd631daf66ba278f73cfd18244a54ebe12e5ccf289deb30ed6a7db730", checked := Try.checked }
namespace Rows
def none {H : Type} : Left H := { results := [], args := [] }

/-- 'mosaicistlaw14.PlotTells': WHATEVER THE INPUT: true; the input reads as it did. -/
def plotTellsSpec : ChangeSpec := { name := "plotTells", fn := fun _ => fun
  | [d1, d2, d3] => { results := [.lit (.bool true)], args := [d1, d2, d3] }
  | _ => none }
def plotTellsRow : OpenClaim := { program := "ytbeojghlldiniaa", sum := "4be180abd631daf66ba278f73cfd18244a54ebe12e5ccf289deb30ed6a7db730", func := "mosaicist/mosaicistlaw14.PlotTells", spec := "plotTells", apart := false }
def PlotTellsSaid : Prop := plotTellsRow.holds Try.pinned (OpenSpec.ofChange plotTellsSpec)

/-- ITS FALSE NEIGHBOUR: 'it returns false'. Refute it at one input. -/
def plotTellsWrong : ChangeSpec := { name := "plotTells", fn := fun _ => fun
  | [d1, d2, d3] => { results := [.lit (.bool false)], args := [d1, d2, d3] }
  | _ => none }
def PlotTellsWrongFalsely : Prop := plotTellsRow.holds Try.pinned (OpenSpec.ofChange plotTellsWrong)

/-- 'mosaicistlaw14.PlotMarks': WHATEVER THE INPUT: true; the input reads as it did. -/
def plotMarksSpec : ChangeSpec := { name := "plotMarks", fn := fun _ => fun
  | [d1, d2, d3] => { results := [.lit (.bool true)], args := [d1, d2, d3] }
  | _ => none }
def plotMarksRow : OpenClaim := { program := "ytbeojghlldiniaa", sum := "4be180abd631daf66ba278f73cfd18244a54ebe12e5ccf289deb30ed6a7db730", func := "mosaicist/mosaicistlaw14.PlotMarks", spec := "plotMarks", apart := false }
def PlotMarksSaid : Prop := plotMarksRow.holds Try.pinned (OpenSpec.ofChange plotMarksSpec)

/-- ITS FALSE NEIGHBOUR: 'it returns false'. Refute it at one input. -/
def plotMarksWrong : ChangeSpec := { name := "plotMarks", fn := fun _ => fun
  | [d1, d2, d3] => { results := [.lit (.bool false)], args := [d1, d2, d3] }
  | _ => none }
def PlotMarksWrongFalsely : Prop := plotMarksRow.holds Try.pinned (OpenSpec.ofChange plotMarksWrong)

/-- 'mosaicistlaw14.PlotPicks': WHATEVER THE INPUT: true; the input reads as it did. -/
def plotPicksSpec : ChangeSpec := { name := "plotPicks", fn := fun _ => fun
  | [d1, d2] => { results := [.lit (.bool true)], args := [d1, d2] }
  | _ => none }
def plotPicksRow : OpenClaim := { program := "ytbeojghlldiniaa", sum := "4be180abd631daf66ba278f73cfd18244a54ebe12e5ccf289deb30ed6a7db730", func := "mosaicist/mosaicistlaw14.PlotPicks", spec := "plotPicks", apart := false }
def PlotPicksSaid : Prop := plotPicksRow.holds Try.pinned (OpenSpec.ofChange plotPicksSpec)

/-- ITS FALSE NEIGHBOUR: 'it returns false'. Refute it at one input. -/
def plotPicksWrong : ChangeSpec := { name := "plotPicks", fn := fun _ => fun
  | [d1, d2] => { results := [.lit (.bool false)], args := [d1, d2] }
  | _ => none }
def PlotPicksWrongFalsely : Prop := plotPicksRow.holds Try.pinned (OpenSpec.ofChange plotPicksWrong)

/-- 'mosaicistlaw14.PlotAll': WHATEVER THE INPUT: true; the input reads as it did. -/
def plotAllSpec : ChangeSpec := { name := "plotAll", fn := fun _ => fun
  | [d1, d2] => { results := [.lit (.bool true)], args := [d1, d2] }
  | _ => none }
def plotAllRow : OpenClaim := { program := "ytbeojghlldiniaa", sum := "4be180abd631daf66ba278f73cfd18244a54ebe12e5ccf289deb30ed6a7db730", func := "mosaicist/mosaicistlaw14.PlotAll", spec := "plotAll", apart := false }
def PlotAllSaid : Prop := plotAllRow.holds Try.pinned (OpenSpec.ofChange plotAllSpec)

/-- ITS FALSE NEIGHBOUR: 'it returns false'. Refute it at one input. -/
def plotAllWrong : ChangeSpec := { name := "plotAll", fn := fun _ => fun
  | [d1, d2] => { results := [.lit (.bool false)], args := [d1, d2] }
  | _ => none }
def PlotAllWrongFalsely : Prop := plotAllRow.holds Try.pinned (OpenSpec.ofChange plotAllWrong)

/- THE SECOND FORM. 'bulk': how many values and letters a reading holds, each counted each time it is reached (what is shared counts as often as it is met; a slice's spare places count too). A statement '..UptoSaid' is the law's where the arguments, and the package variables that the reading takes, are together of bulk at most 1048576: NARROWER than '..Said'. Prove '..Said' where nothing that the law and all that it calls make is longer than what came in: it says more and counts as full. Else prove '..UptoSaid'. A law counts once. -/
mutual
def uptoBulk {H : Type} : DataW H → Nat
  | .lit (.string bytes) => bytes.length + 1
  | .lit _ => 1
  | .nil => 1
  | .ptr d => uptoBulk d + 1
  | .slice elems spare => uptoBulkAll elems + uptoBulkAll spare + 1
  | .agg parts => uptoBulkAll parts + 1
  | .iface _ d => uptoBulk d + 1
  | .map entries => uptoBulkEntries entries + 1
  | .held _ => 1
def uptoBulkAll {H : Type} : List (DataW H) → Nat
  | [] => 0
  | d :: r => uptoBulk d + uptoBulkAll r
def uptoBulkEntries {H : Type} : List (Lit × DataW H) → Nat
  | [] => 0
  | x :: r => uptoBulkEntry x + uptoBulkEntries r
def uptoBulkEntry {H : Type} : Lit × DataW H → Nat
  | (.string bytes, d) => bytes.length + uptoBulk d + 1
  | (_, d) => uptoBulk d + 1
 end
def uptoSmall : (H : Type) → List (DataW H) → Bool := fun _ ds => decide (uptoBulkAll ds ≤ 1048576)
def OpenSpec.upto (s : _root_.Go.ChangeSpec) : _root_.Go.OpenSpec := { _root_.Go.OpenSpec.ofChange s with cond := some uptoSmall }

/-- 'mosaicistlaw14.PlotTells', WHERE WHAT IT READS IS OF BULK AT MOST 1048576: true; the input reads as it did. -/
def plotTellsUptoRow : OpenClaim := { program := "ytbeojghlldiniaa", sum := "4be180abd631daf66ba278f73cfd18244a54ebe12e5ccf289deb30ed6a7db730", func := "mosaicist/mosaicistlaw14.PlotTells", spec := "plotTells", apart := false, narrowed := true }
def PlotTellsUptoSaid : Prop := plotTellsUptoRow.holds Try.pinned (OpenSpec.upto plotTellsSpec)

/-- 'mosaicistlaw14.PlotMarks', WHERE WHAT IT READS IS OF BULK AT MOST 1048576: true; the input reads as it did. -/
def plotMarksUptoRow : OpenClaim := { program := "ytbeojghlldiniaa", sum := "4be180abd631daf66ba278f73cfd18244a54ebe12e5ccf289deb30ed6a7db730", func := "mosaicist/mosaicistlaw14.PlotMarks", spec := "plotMarks", apart := false, narrowed := true }
def PlotMarksUptoSaid : Prop := plotMarksUptoRow.holds Try.pinned (OpenSpec.upto plotMarksSpec)

/-- 'mosaicistlaw14.PlotPicks', WHERE WHAT IT READS IS OF BULK AT MOST 1048576: true; the input reads as it did. -/
def plotPicksUptoRow : OpenClaim := { program := "ytbeojghlldiniaa", sum := "4be180abd631daf66ba278f73cfd18244a54ebe12e5ccf289deb30ed6a7db730", func := "mosaicist/mosaicistlaw14.PlotPicks", spec := "plotPicks", apart := false, narrowed := true }
def PlotPicksUptoSaid : Prop := plotPicksUptoRow.holds Try.pinned (OpenSpec.upto plotPicksSpec)

/-- 'mosaicistlaw14.PlotAll', WHERE WHAT IT READS IS OF BULK AT MOST 1048576: true; the input reads as it did. -/
def plotAllUptoRow : OpenClaim := { program := "ytbeojghlldiniaa", sum := "4be180abd631daf66ba278f73cfd18244a54ebe12e5ccf289deb30ed6a7db730", func := "mosaicist/mosaicistlaw14.PlotAll", spec := "plotAll", apart := false, narrowed := true }
def PlotAllUptoSaid : Prop := plotAllUptoRow.holds Try.pinned (OpenSpec.upto plotAllSpec)

end Rows
end Go.Proofs.Ytbeojghlldiniaa
