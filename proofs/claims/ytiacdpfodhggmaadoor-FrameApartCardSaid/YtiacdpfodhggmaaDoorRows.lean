/-
  NARROWER THAN 'FOR EVERY INPUT', by the rows' own cells (each row's printed sentence says how): LeafBack: laid · LeafApart: laid · FrameTells: laid · FrameBack: laid · FrameApart: laid · FrameKinds: laid.
  DERIVED. THE GIVEN ROWS OF THIS SEAT. 6 by the template 'for every input the law returns true; each argument reads behind the call as it read before'; 0 by the template 'total and deterministic' (their statements: YtiacdpfodhggmaaDoorTotals.lean).
  GIVEN WITH THE SEED: the statements are not yours to turn. If you find one false, say at which input.
  Laid BY PROGRAM, IN A SANDBOX (cutbox-rows.mjs): the forced cells as the released guide's own fill.sh prints them over the translation 53d2aac249c53420… (all of the seat's roots in one cut). By AI agents, Wed Nov 11 2026. No macro, syntax, notation, axiom, sorry.
-/
import Derived.Test.YtiacdpfodhggmaaDoorChecked
import GoSem.Claim
import GoSem.ClaimJoined
import GoSem.ClaimMapViews
import Derived.JoinedTies
import Derived.KernelRfl
namespace Go.Proofs.YtiacdpfodhggmaaDoor
/- THE CELL 'sum', in the pinned program and in every row, IS THE sha256 OF THE DUMP (.gsa) THAT YtiacdpfodhggmaaDoorProg.lean LOADS. Nothing in Lean hashes anything: it is a label: what it is worth is what the hold of that sum in a sandbox is worth. -/
noncomputable def Tryd.pinned : Pinned := { name := "ytiacdpfodhggmaadoor", sum := "53d2aac249c534200191d1e1a63e65c616d45d9c2143772fca1c51418afd24ca", checked := Tryd.checked }
namespace Rows
def none {H : Type} : Left H := { results := [], args := [] }

/- WHAT THE LISTED PACKAGE-LEVEL VARIABLES READ AS WHEN THE CALL BEGINS. Each datum BY PROGRAM (the guide's laid-datum.mjs) off the statement by which the dump's own 'gosem.cut.vars' lays the variable. In a bare row this is a premise. The card (YtiacdpfodhggmaaDoorCards.lean) ties it to the program's text. -/
def laid_mosaicist_tally_halves {H : Type} : DataW H := .agg [.lit (.int .u32 0), .lit (.int .u32 498536548), .lit (.int .u32 997073096), .lit (.int .u32 651767980), .lit (.int .u32 1994146192), .lit (.int .u32 1802195444), .lit (.int .u32 1303535960), .lit (.int .u32 1342533948), .lit (.int .u32 3988292384), .lit (.int .u32 4027552580), .lit (.int .u32 3604390888), .lit (.int .u32 3412177804), .lit (.int .u32 2607071920), .lit (.int .u32 2262029012), .lit (.int .u32 2685067896), .lit (.int .u32 3183342108)]

/-- 'mosaicistlaw13.LeafBack': WHATEVER THE INPUT: true; the input reads as it did. -/
def leafBackSpec : ChangeSpec := { name := "leafBack", fn := fun _ => fun
  | [d1, d2, d3] => { results := [.lit (.bool true)], args := [d1, d2, d3] }
  | _ => none }
def leafBackRow : OpenClaim := { program := "ytiacdpfodhggmaadoor", sum := "53d2aac249c534200191d1e1a63e65c616d45d9c2143772fca1c51418afd24ca", func := "mosaicist/mosaicistlaw13.LeafBack", spec := "leafBack", inPlace := ["internal/abi.NoEscape", "internal/bytealg.MakeNoZero"], named := ["mosaicist/tally.halves"], apart := false, laid := [("mosaicist/tally.halves", laid_mosaicist_tally_halves)] }
def LeafBackSaid : Prop := leafBackRow.holds Tryd.pinned (OpenSpec.ofChange leafBackSpec)

/-- ITS FALSE NEIGHBOUR: 'it returns false'. Refute it at one input. -/
def leafBackWrong : ChangeSpec := { name := "leafBack", fn := fun _ => fun
  | [d1, d2, d3] => { results := [.lit (.bool false)], args := [d1, d2, d3] }
  | _ => none }
def LeafBackWrongFalsely : Prop := leafBackRow.holds Tryd.pinned (OpenSpec.ofChange leafBackWrong)

/-- 'mosaicistlaw13.LeafApart': WHATEVER THE INPUT: true; the input reads as it did. -/
def leafApartSpec : ChangeSpec := { name := "leafApart", fn := fun _ => fun
  | [d1, d2] => { results := [.lit (.bool true)], args := [d1, d2] }
  | _ => none }
def leafApartRow : OpenClaim := { program := "ytiacdpfodhggmaadoor", sum := "53d2aac249c534200191d1e1a63e65c616d45d9c2143772fca1c51418afd24ca", func := "mosaicist/mosaicistlaw13.LeafApart", spec := "leafApart", inPlace := ["internal/abi.NoEscape", "internal/bytealg.MakeNoZero"], named := ["mosaicist/tally.halves"], apart := false, laid := [("mosaicist/tally.halves", laid_mosaicist_tally_halves)] }
def LeafApartSaid : Prop := leafApartRow.holds Tryd.pinned (OpenSpec.ofChange leafApartSpec)

/-- ITS FALSE NEIGHBOUR: 'it returns false'. Refute it at one input. -/
def leafApartWrong : ChangeSpec := { name := "leafApart", fn := fun _ => fun
  | [d1, d2] => { results := [.lit (.bool false)], args := [d1, d2] }
  | _ => none }
def LeafApartWrongFalsely : Prop := leafApartRow.holds Tryd.pinned (OpenSpec.ofChange leafApartWrong)

/-- 'mosaicistlaw16.FrameTells': WHATEVER THE INPUT: true; the input reads as it did. -/
def frameTellsSpec : ChangeSpec := { name := "frameTells", fn := fun _ => fun
  | [d1, d2] => { results := [.lit (.bool true)], args := [d1, d2] }
  | _ => none }
def frameTellsRow : OpenClaim := { program := "ytiacdpfodhggmaadoor", sum := "53d2aac249c534200191d1e1a63e65c616d45d9c2143772fca1c51418afd24ca", func := "mosaicist/mosaicistlaw16.FrameTells", spec := "frameTells", inPlace := ["internal/abi.NoEscape", "internal/bytealg.MakeNoZero"], named := ["mosaicist/tally.halves"], apart := false, laid := [("mosaicist/tally.halves", laid_mosaicist_tally_halves)] }
def FrameTellsSaid : Prop := frameTellsRow.holds Tryd.pinned (OpenSpec.ofChange frameTellsSpec)

/-- ITS FALSE NEIGHBOUR: 'it returns false'. Refute it at one input. -/
def frameTellsWrong : ChangeSpec := { name := "frameTells", fn := fun _ => fun
  | [d1, d2] => { results := [.lit (.bool false)], args := [d1, d2] }
  | _ => none }
def FrameTellsWrongFalsely : Prop := frameTellsRow.holds Tryd.pinned (OpenSpec.ofChange frameTellsWrong)

/-- 'mosaicistlaw16.FrameBack': WHATEVER THE INPUT: true; the input reads as it did. -/
def frameBackSpec : ChangeSpec := { name := "frameBack", fn := fun _ => fun
  | [d1, d2, d3] => { results := [.lit (.bool true)], args := [d1, d2, d3] }
  | _ => none }
def frameBackRow : OpenClaim := { program := "ytiacdpfodhggmaadoor", sum := "53d2aac249c534200191d1e1a63e65c616d45d9c2143772fca1c51418afd24ca", func := "mosaicist/mosaicistlaw16.FrameBack", spec := "frameBack", inPlace := ["internal/abi.NoEscape", "internal/bytealg.MakeNoZero"], named := ["mosaicist/tally.halves"], apart := false, laid := [("mosaicist/tally.halves", laid_mosaicist_tally_halves)] }
def FrameBackSaid : Prop := frameBackRow.holds Tryd.pinned (OpenSpec.ofChange frameBackSpec)

/-- ITS FALSE NEIGHBOUR: 'it returns false'. Refute it at one input. -/
def frameBackWrong : ChangeSpec := { name := "frameBack", fn := fun _ => fun
  | [d1, d2, d3] => { results := [.lit (.bool false)], args := [d1, d2, d3] }
  | _ => none }
def FrameBackWrongFalsely : Prop := frameBackRow.holds Tryd.pinned (OpenSpec.ofChange frameBackWrong)

/-- 'mosaicistlaw16.FrameApart': WHATEVER THE INPUT: true; the input reads as it did. -/
def frameApartSpec : ChangeSpec := { name := "frameApart", fn := fun _ => fun
  | [d1, d2] => { results := [.lit (.bool true)], args := [d1, d2] }
  | _ => none }
def frameApartRow : OpenClaim := { program := "ytiacdpfodhggmaadoor", sum := "53d2aac249c534200191d1e1a63e65c616d45d9c2143772fca1c51418afd24ca", func := "mosaicist/mosaicistlaw16.FrameApart", spec := "frameApart", inPlace := ["internal/abi.NoEscape", "internal/bytealg.MakeNoZero"], named := ["mosaicist/tally.halves"], apart := false, laid := [("mosaicist/tally.halves", laid_mosaicist_tally_halves)] }
def FrameApartSaid : Prop := frameApartRow.holds Tryd.pinned (OpenSpec.ofChange frameApartSpec)

/-- ITS FALSE NEIGHBOUR: 'it returns false'. Refute it at one input. -/
def frameApartWrong : ChangeSpec := { name := "frameApart", fn := fun _ => fun
  | [d1, d2] => { results := [.lit (.bool false)], args := [d1, d2] }
  | _ => none }
def FrameApartWrongFalsely : Prop := frameApartRow.holds Tryd.pinned (OpenSpec.ofChange frameApartWrong)

/-- 'mosaicistlaw16.FrameKinds': WHATEVER THE INPUT: true; the input reads as it did. -/
def frameKindsSpec : ChangeSpec := { name := "frameKinds", fn := fun _ => fun
  | [d1, d2] => { results := [.lit (.bool true)], args := [d1, d2] }
  | _ => none }
def frameKindsRow : OpenClaim := { program := "ytiacdpfodhggmaadoor", sum := "53d2aac249c534200191d1e1a63e65c616d45d9c2143772fca1c51418afd24ca", func := "mosaicist/mosaicistlaw16.FrameKinds", spec := "frameKinds", inPlace := ["internal/abi.NoEscape", "internal/bytealg.MakeNoZero"], named := ["mosaicist/tally.halves"], apart := false, laid := [("mosaicist/tally.halves", laid_mosaicist_tally_halves)] }
def FrameKindsSaid : Prop := frameKindsRow.holds Tryd.pinned (OpenSpec.ofChange frameKindsSpec)

/-- ITS FALSE NEIGHBOUR: 'it returns false'. Refute it at one input. -/
def frameKindsWrong : ChangeSpec := { name := "frameKinds", fn := fun _ => fun
  | [d1, d2] => { results := [.lit (.bool false)], args := [d1, d2] }
  | _ => none }
def FrameKindsWrongFalsely : Prop := frameKindsRow.holds Tryd.pinned (OpenSpec.ofChange frameKindsWrong)

/- THE SECOND FORM. 'bulk': how many values and letters a reading holds, each counted each time it is reached (what is shared counts as often as it is met; a slice's spare places count too). A statement '..UptoSaid' is the law's where the arguments, and the package variables that the reading takes, are together of bulk at most 1048576: NARROWER than '..Said'. Prove '..Said' where nothing that the law and all that it calls make is longer than what came in: it says more and counts as full. Else prove '..UptoSaid'. A law counts once. -/
mutual
def uptoBulk {H : Type} : DataW H → Nat
  | .lit (.string bytes) => bytes.length + 1
  | .lit _ => 1
  | .nil => 1
  | .ptr d => uptoBulk d + 1
  | .slice elems spare => uptoBulkAll elems + uptoBulkAll spare + 1
  | .agg parts => uptoBulkAll parts + 1
  | .iface _ d => uptoBulk d + 1
  | .map entries => uptoBulkEntries entries + 1
  | .held _ => 1
def uptoBulkAll {H : Type} : List (DataW H) → Nat
  | [] => 0
  | d :: r => uptoBulk d + uptoBulkAll r
def uptoBulkEntries {H : Type} : List (Lit × DataW H) → Nat
  | [] => 0
  | x :: r => uptoBulkEntry x + uptoBulkEntries r
def uptoBulkEntry {H : Type} : Lit × DataW H → Nat
  | (.string bytes, d) => bytes.length + uptoBulk d + 1
  | (_, d) => uptoBulk d + 1
 end
def uptoSmall : (H : Type) → List (DataW H) → Bool := fun _ ds => decide (uptoBulkAll ds ≤ 1048576)
def OpenSpec.upto (s : _root_.Go.ChangeSpec) : _root_.Go.OpenSpec := { _root_.Go.OpenSpec.ofChange s with cond := some uptoSmall }

/-- 'mosaicistlaw13.LeafBack', WHERE WHAT IT READS IS OF BULK AT MOST 1048576: true; the input reads as it did. -/
def leafBackUptoRow : OpenClaim := { program := "ytiacdpfodhggmaadoor", sum := "53d2aac249c534200191d1e1a63e65c616d45d9c2143772fca1c51418afd24ca", func := "mosaicist/mosaicistlaw13.LeafBack", spec := "leafBack", inPlace := ["internal/abi.NoEscape", "internal/bytealg.MakeNoZero"], named := ["mosaicist/tally.halves"], apart := false, laid := [("mosaicist/tally.halves", laid_mosaicist_tally_halves)], narrowed := true }
def LeafBackUptoSaid : Prop := leafBackUptoRow.holds Tryd.pinned (OpenSpec.upto leafBackSpec)

/-- 'mosaicistlaw13.LeafApart', WHERE WHAT IT READS IS OF BULK AT MOST 1048576: true; the input reads as it did. -/
def leafApartUptoRow : OpenClaim := { program := "ytiacdpfodhggmaadoor", sum := "53d2aac249c534200191d1e1a63e65c616d45d9c2143772fca1c51418afd24ca", func := "mosaicist/mosaicistlaw13.LeafApart", spec := "leafApart", inPlace := ["internal/abi.NoEscape", "internal/bytealg.MakeNoZero"], named := ["mosaicist/tally.halves"], apart := false, laid := [("mosaicist/tally.halves", laid_mosaicist_tally_halves)], narrowed := true }
def LeafApartUptoSaid : Prop := leafApartUptoRow.holds Tryd.pinned (OpenSpec.upto leafApartSpec)

/-- 'mosaicistlaw16.FrameTells', WHERE WHAT IT READS IS OF BULK AT MOST 1048576: true; the input reads as it did. -/
def frameTellsUptoRow : OpenClaim := { program := "ytiacdpfodhggmaadoor", sum := "53d2aac249c534200191d1e1a63e65c616d45d9c2143772fca1c51418afd24ca", func := "mosaicist/mosaicistlaw16.FrameTells", spec := "frameTells", inPlace := ["internal/abi.NoEscape", "internal/bytealg.MakeNoZero"], named := ["mosaicist/tally.halves"], apart := false, laid := [("mosaicist/tally.halves", laid_mosaicist_tally_halves)], narrowed := true }
def FrameTellsUptoSaid : Prop := frameTellsUptoRow.holds Tryd.pinned (OpenSpec.upto frameTellsSpec)

/-- 'mosaicistlaw16.FrameBack', WHERE WHAT IT READS IS OF BULK AT MOST 1048576: true; the input reads as it did. -/
def frameBackUptoRow : OpenClaim := { program := "ytiacdpfodhggmaadoor", sum := "53d2aac249c534200191d1e1a63e65c616d45d9c2143772fca1c51418afd24ca", func := "mosaicist/mosaicistlaw16.FrameBack", spec := "frameBack", inPlace := ["internal/abi.NoEscape", "internal/bytealg.MakeNoZero"], named := ["mosaicist/tally.halves"], apart := false, laid := [("mosaicist/tally.halves", laid_mosaicist_tally_halves)], narrowed := true }
def FrameBackUptoSaid : Prop := frameBackUptoRow.holds Tryd.pinned (OpenSpec.upto frameBackSpec)

/-- 'mosaicistlaw16.FrameApart', WHERE WHAT IT READS IS OF BULK AT MOST 1048576: true; the input reads as it did. -/
def frameApartUptoRow : OpenClaim := { program := "ytiacdpfodhggmaadoor", sum := "53d2aac249c534200191d1e1a63e65c616d45d9c2143772fca1c51418afd24ca", func := "mosaicist/mosaicistlaw16.FrameApart", spec := "frameApart", inPlace := ["internal/abi.NoEscape", "internal/bytealg.MakeNoZero"], named := ["mosaicist/tally.halves"], apart := false, laid := [("mosaicist/tally.halves", laid_mosaicist_tally_halves)], narrowed := true }
def FrameApartUptoSaid : Prop := frameApartUptoRow.holds Tryd.pinned (OpenSpec.upto frameApartSpec)

/-- 'mosaicistlaw16.FrameKinds', WHERE WHAT IT READS IS OF BULK AT MOST 1048576: true; the input reads as it did. -/
def frameKindsUptoRow : OpenClaim := { program := "ytiacdpfodhggmaadoor", sum := "53d2aac249c534200191d1e1a63e65c616d45d9c2143772fca1c51418afd24ca", func := "mosaicist/mosaicistlaw16.FrameKinds", spec := "frameKinds", inPlace := ["internal/abi.NoEscape", "internal/bytealg.MakeNoZero"], named := ["mosaicist/tally.halves"], apart := false, laid := [("mosaicist/tally.halves", laid_mosaicist_tally_halves)], narrowed := true }
def FrameKindsUptoSaid : Prop := frameKindsUptoRow.holds Tryd.pinned (OpenSpec.upto frameKindsSpec)

end Rows
end Go.Proofs.YtiacdpfodhggmaaDoor
