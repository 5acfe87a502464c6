/-
  NARROWER THAN 'FOR EVERY INPUT', by the rows' own cells (each row's printed sentence says how): HeadTells: laid · HeadNewest: laid · HeadTorn: laid · HeadPlaces: laid.
  DERIVED. THE GIVEN ROWS OF THIS SEAT. 4 by the template 'for every input the law returns true; each argument reads behind the call as it read before'; 0 by the template 'total and deterministic' (their statements: YtdbemkdfndjakaaDoorTotals.lean).
  GIVEN WITH THE SEED: the statements are not yours to turn. If you find one false, say at which input.
  Laid BY PROGRAM, IN A SANDBOX (cutbox-rows.mjs): the forced cells as the released guide's own fill.sh prints them over the translation ccbb8af835c72635… (all of the seat's roots in one cut). By AI agents, Wed Nov 11 2026. No macro, syntax, notation, axiom, sorry.
-/
import Derived.Test.YtdbemkdfndjakaaDoorChecked
import GoSem.Claim
import GoSem.ClaimJoined
import GoSem.ClaimMapViews
import Derived.JoinedTies
import Derived.KernelRfl
namespace Go.Proofs.YtdbemkdfndjakaaDoor
/- THE CELL 'sum', in the pinned program and in every row, IS THE sha256 OF THE DUMP (.gsa) THAT YtdbemkdfndjakaaDoorProg.lean LOADS. Nothing in Lean hashes anything: it is a label: what it is worth is what the hold of that sum in a sandbox is worth. -/
noncomputable def Tryd.pinned : Pinned := { name := "ytdbemkdfndjakaadoor", sum := "ccbb8af835c726353e43344853bb397cb3e274c8fd9cb2690c9910c5e14c8b23", checked := Tryd.checked }
namespace Rows
def none {H : Type} : Left H := { results := [], args := [] }

/- WHAT THE LISTED PACKAGE-LEVEL VARIABLES READ AS WHEN THE CALL BEGINS. Each datum BY PROGRAM (the guide's laid-datum.mjs) off the statement by which the dump's own 'gosem.cut.vars' lays the variable. In a bare row this is a premise. The card (YtdbemkdfndjakaaDoorCards.lean) ties it to the program's text. -/
def laid_mosaicist_tally_halves {H : Type} : DataW H := .agg [.lit (.int .u32 0), .lit (.int .u32 498536548), .lit (.int .u32 997073096), .lit (.int .u32 651767980), .lit (.int .u32 1994146192), .lit (.int .u32 1802195444), .lit (.int .u32 1303535960), .lit (.int .u32 1342533948), .lit (.int .u32 3988292384), .lit (.int .u32 4027552580), .lit (.int .u32 3604390888), .lit (.int .u32 3412177804), .lit (.int .u32 2607071920), .lit (.int .u32 2262029012), .lit (.int .u32 2685067896), .lit (.int .u32 3183342108)]

/-- 'mosaicistlaw17.HeadTells': WHATEVER THE INPUT: true; the input reads as it did. -/
def headTellsSpec : ChangeSpec := { name := "headTells", fn := fun _ => fun
  | [d1, d2, d3] => { results := [.lit (.bool true)], args := [d1, d2, d3] }
  | _ => none }
def headTellsRow : OpenClaim := { program := "ytdbemkdfndjakaadoor", sum := "ccbb8af835c726353e43344853bb397cb3e274c8fd9cb2690c9910c5e14c8b23", func := "mosaicist/mosaicistlaw17.HeadTells", spec := "headTells", inPlace := ["internal/abi.NoEscape", "internal/bytealg.MakeNoZero"], unfollowed := true, recurses := true, named := ["mosaicist/tally.halves"], apart := false, laid := [("mosaicist/tally.halves", laid_mosaicist_tally_halves)] }
def HeadTellsSaid : Prop := headTellsRow.holds Tryd.pinned (OpenSpec.ofChange headTellsSpec)

/-- ITS FALSE NEIGHBOUR: 'it returns false'. Refute it at one input. -/
def headTellsWrong : ChangeSpec := { name := "headTells", fn := fun _ => fun
  | [d1, d2, d3] => { results := [.lit (.bool false)], args := [d1, d2, d3] }
  | _ => none }
def HeadTellsWrongFalsely : Prop := headTellsRow.holds Tryd.pinned (OpenSpec.ofChange headTellsWrong)

/-- 'mosaicistlaw17.HeadNewest': WHATEVER THE INPUT: true; the input reads as it did. -/
def headNewestSpec : ChangeSpec := { name := "headNewest", fn := fun _ => fun
  | [d1, d2, d3] => { results := [.lit (.bool true)], args := [d1, d2, d3] }
  | _ => none }
def headNewestRow : OpenClaim := { program := "ytdbemkdfndjakaadoor", sum := "ccbb8af835c726353e43344853bb397cb3e274c8fd9cb2690c9910c5e14c8b23", func := "mosaicist/mosaicistlaw17.HeadNewest", spec := "headNewest", inPlace := ["internal/abi.NoEscape", "internal/bytealg.MakeNoZero"], unfollowed := true, recurses := true, named := ["mosaicist/tally.halves"], apart := false, laid := [("mosaicist/tally.halves", laid_mosaicist_tally_halves)] }
def HeadNewestSaid : Prop := headNewestRow.holds Tryd.pinned (OpenSpec.ofChange headNewestSpec)

/-- ITS FALSE NEIGHBOUR: 'it returns false'. Refute it at one input. -/
def headNewestWrong : ChangeSpec := { name := "headNewest", fn := fun _ => fun
  | [d1, d2, d3] => { results := [.lit (.bool false)], args := [d1, d2, d3] }
  | _ => none }
def HeadNewestWrongFalsely : Prop := headNewestRow.holds Tryd.pinned (OpenSpec.ofChange headNewestWrong)

/-- 'mosaicistlaw17.HeadTorn': WHATEVER THE INPUT: true; the input reads as it did. -/
def headTornSpec : ChangeSpec := { name := "headTorn", fn := fun _ => fun
  | [d1, d2] => { results := [.lit (.bool true)], args := [d1, d2] }
  | _ => none }
def headTornRow : OpenClaim := { program := "ytdbemkdfndjakaadoor", sum := "ccbb8af835c726353e43344853bb397cb3e274c8fd9cb2690c9910c5e14c8b23", func := "mosaicist/mosaicistlaw17.HeadTorn", spec := "headTorn", inPlace := ["internal/abi.NoEscape", "internal/bytealg.MakeNoZero"], unfollowed := true, recurses := true, named := ["mosaicist/tally.halves"], apart := false, laid := [("mosaicist/tally.halves", laid_mosaicist_tally_halves)] }
def HeadTornSaid : Prop := headTornRow.holds Tryd.pinned (OpenSpec.ofChange headTornSpec)

/-- ITS FALSE NEIGHBOUR: 'it returns false'. Refute it at one input. -/
def headTornWrong : ChangeSpec := { name := "headTorn", fn := fun _ => fun
  | [d1, d2] => { results := [.lit (.bool false)], args := [d1, d2] }
  | _ => none }
def HeadTornWrongFalsely : Prop := headTornRow.holds Tryd.pinned (OpenSpec.ofChange headTornWrong)

/-- 'mosaicistlaw17.HeadPlaces': WHATEVER THE INPUT: true; the input reads as it did. -/
def headPlacesSpec : ChangeSpec := { name := "headPlaces", fn := fun _ => fun
  | [d1, d2] => { results := [.lit (.bool true)], args := [d1, d2] }
  | _ => none }
def headPlacesRow : OpenClaim := { program := "ytdbemkdfndjakaadoor", sum := "ccbb8af835c726353e43344853bb397cb3e274c8fd9cb2690c9910c5e14c8b23", func := "mosaicist/mosaicistlaw17.HeadPlaces", spec := "headPlaces", inPlace := ["internal/abi.NoEscape", "internal/bytealg.MakeNoZero"], unfollowed := true, recurses := true, named := ["mosaicist/tally.halves"], apart := false, laid := [("mosaicist/tally.halves", laid_mosaicist_tally_halves)] }
def HeadPlacesSaid : Prop := headPlacesRow.holds Tryd.pinned (OpenSpec.ofChange headPlacesSpec)

/-- ITS FALSE NEIGHBOUR: 'it returns false'. Refute it at one input. -/
def headPlacesWrong : ChangeSpec := { name := "headPlaces", fn := fun _ => fun
  | [d1, d2] => { results := [.lit (.bool false)], args := [d1, d2] }
  | _ => none }
def HeadPlacesWrongFalsely : Prop := headPlacesRow.holds Tryd.pinned (OpenSpec.ofChange headPlacesWrong)

/- THE SECOND FORM. 'bulk': how many values and letters a reading holds, each counted each time it is reached (what is shared counts as often as it is met; a slice's spare places count too). A statement '..UptoSaid' is the law's where the arguments, and the package variables that the reading takes, are together of bulk at most 1048576: NARROWER than '..Said'. Prove '..Said' where nothing that the law and all that it calls make is longer than what came in: it says more and counts as full. Else prove '..UptoSaid'. A law counts once. -/
mutual
def uptoBulk {H : Type} : DataW H → Nat
  | .lit (.string bytes) => bytes.length + 1
  | .lit _ => 1
  | .nil => 1
  | .ptr d => uptoBulk d + 1
  | .slice elems spare => uptoBulkAll elems + uptoBulkAll spare + 1
  | .agg parts => uptoBulkAll parts + 1
  | .iface _ d => uptoBulk d + 1
  | .map entries => uptoBulkEntries entries + 1
  | .held _ => 1
def uptoBulkAll {H : Type} : List (DataW H) → Nat
  | [] => 0
  | d :: r => uptoBulk d + uptoBulkAll r
def uptoBulkEntries {H : Type} : List (Lit × DataW H) → Nat
  | [] => 0
  | x :: r => uptoBulkEntry x + uptoBulkEntries r
def uptoBulkEntry {H : Type} : Lit × DataW H → Nat
  | (.string bytes, d) => bytes.length + uptoBulk d + 1
  | (_, d) => uptoBulk d + 1
 end
def uptoSmall : (H : Type) → List (DataW H) → Bool := fun _ ds => decide (uptoBulkAll ds ≤ 1048576)
def OpenSpec.upto (s : _root_.Go.ChangeSpec) : _root_.Go.OpenSpec := { _root_.Go.OpenSpec.ofChange s with cond := some uptoSmall }

/-- 'mosaicistlaw17.HeadTells', WHERE WHAT IT READS IS OF BULK AT MOST 1048576: true; the input reads as it did. -/
def headTellsUptoRow : OpenClaim := { program := "ytdbemkdfndjakaadoor", sum := "ccbb8af835c726353e43344853bb397cb3e274c8fd9cb2690c9910c5e14c8b23", func := "mosaicist/mosaicistlaw17.HeadTells", spec := "headTells", inPlace := ["internal/abi.NoEscape", "internal/bytealg.MakeNoZero"], unfollowed := true, recurses := true, named := ["mosaicist/tally.halves"], apart := false, laid := [("mosaicist/tally.halves", laid_mosaicist_tally_halves)], narrowed := true }
def HeadTellsUptoSaid : Prop := headTellsUptoRow.holds Tryd.pinned (OpenSpec.upto headTellsSpec)

/-- 'mosaicistlaw17.HeadNewest', WHERE WHAT IT READS IS OF BULK AT MOST 1048576: true; the input reads as it did. -/
def headNewestUptoRow : OpenClaim := { program := "ytdbemkdfndjakaadoor", sum := "ccbb8af835c726353e43344853bb397cb3e274c8fd9cb2690c9910c5e14c8b23", func := "mosaicist/mosaicistlaw17.HeadNewest", spec := "headNewest", inPlace := ["internal/abi.NoEscape", "internal/bytealg.MakeNoZero"], unfollowed := true, recurses := true, named := ["mosaicist/tally.halves"], apart := false, laid := [("mosaicist/tally.halves", laid_mosaicist_tally_halves)], narrowed := true }
def HeadNewestUptoSaid : Prop := headNewestUptoRow.holds Tryd.pinned (OpenSpec.upto headNewestSpec)

/-- 'mosaicistlaw17.HeadTorn', WHERE WHAT IT READS IS OF BULK AT MOST 1048576: true; the input reads as it did. -/
def headTornUptoRow : OpenClaim := { program := "ytdbemkdfndjakaadoor", sum := "ccbb8af835c726353e43344853bb397cb3e274c8fd9cb2690c9910c5e14c8b23", func := "mosaicist/mosaicistlaw17.HeadTorn", spec := "headTorn", inPlace := ["internal/abi.NoEscape", "internal/bytealg.MakeNoZero"], unfollowed := true, recurses := true, named := ["mosaicist/tally.halves"], apart := false, laid := [("mosaicist/tally.halves", laid_mosaicist_tally_halves)], narrowed := true }
def HeadTornUptoSaid : Prop := headTornUptoRow.holds Tryd.pinned (OpenSpec.upto headTornSpec)

/-- 'mosaicistlaw17.HeadPlaces', WHERE WHAT IT READS IS OF BULK AT MOST 1048576: true; the input reads as it did. -/
def headPlacesUptoRow : OpenClaim := { program := "ytdbemkdfndjakaadoor", sum := "ccbb8af835c726353e43344853bb397cb3e274c8fd9cb2690c9910c5e14c8b23", func := "mosaicist/mosaicistlaw17.HeadPlaces", spec := "headPlaces", inPlace := ["internal/abi.NoEscape", "internal/bytealg.MakeNoZero"], unfollowed := true, recurses := true, named := ["mosaicist/tally.halves"], apart := false, laid := [("mosaicist/tally.halves", laid_mosaicist_tally_halves)], narrowed := true }
def HeadPlacesUptoSaid : Prop := headPlacesUptoRow.holds Tryd.pinned (OpenSpec.upto headPlacesSpec)

end Rows
end Go.Proofs.YtdbemkdfndjakaaDoor
