/-
  No cell of these rows narrows 'for every input' (looked for: loops, veiled, ifaces, maps, wideKeys, modest, calm, conditions, laid).
  DERIVED. THE GIVEN ROWS OF THIS SEAT. 4 by the template 'for every input the law returns true; each argument reads behind the call as it read before'; 0 by the template 'total and deterministic' (their statements: YtnmgaafpbbeceaaTotals.lean).
  GIVEN WITH THE SEED: the statements are not yours to turn. If you find one false, say at which input.
  Laid BY PROGRAM, IN A SANDBOX (cutbox-rows.mjs): the forced cells as the released guide's own fill.sh prints them over the translation f9fba9e9e16009ac… (all of the seat's roots in one cut). By AI agents, Wed Nov 11 2026. No macro, syntax, notation, axiom, sorry.
-/
import Derived.Test.YtnmgaafpbbeceaaChecked
import GoSem.Claim
import GoSem.ClaimJoined
import GoSem.ClaimMapViews
import Derived.JoinedTies
import Derived.KernelRfl
namespace Go.Proofs.Ytnmgaafpbbeceaa
/- THE CELL 'sum', in the pinned program and in every row, IS THE sha256 OF THE DUMP (.gsa) THAT YtnmgaafpbbeceaaProg.lean LOADS. Nothing in Lean hashes anything: it is a label: what it is worth is what the hold of that sum in a sandbox is worth. -/
noncomputable def Try.pinned : Pinned := { name := "ytnmgaafpbbeceaa", sum := "f9fba9e9e16009accbdfce61c4a5d0e972a6a74b60fcf6d021e07b1cb17f4f72", checked := Try.checked }
namespace Rows
def none {H : Type} : Left H := { results := [], args := [] }

/-- 'mosaicistlaw01.SlabSure': WHATEVER THE INPUT: true; the input reads as it did. -/
def slabSureSpec : ChangeSpec := { name := "slabSure", fn := fun _ => fun
  | [d1, d2, d3] => { results := [.lit (.bool true)], args := [d1, d2, d3] }
  | _ => none }
def slabSureRow : OpenClaim := { program := "ytnmgaafpbbeceaa", sum := "f9fba9e9e16009accbdfce61c4a5d0e972a6a74b60fcf6d021e07b1cb17f4f72", func := "mosaicist/mosaicistlaw01.SlabSure", spec := "slabSure", inPlace := ["internal/abi.NoEscape", "internal/bytealg.MakeNoZero"], unfollowed := true, recurses := true, apart := false }
def SlabSureSaid : Prop := slabSureRow.holds Try.pinned (OpenSpec.ofChange slabSureSpec)

/-- ITS FALSE NEIGHBOUR: 'it returns false'. Refute it at one input. -/
def slabSureWrong : ChangeSpec := { name := "slabSure", fn := fun _ => fun
  | [d1, d2, d3] => { results := [.lit (.bool false)], args := [d1, d2, d3] }
  | _ => none }
def SlabSureWrongFalsely : Prop := slabSureRow.holds Try.pinned (OpenSpec.ofChange slabSureWrong)

/-- 'mosaicistlaw01.SlabCounts': WHATEVER THE INPUT: true; the input reads as it did. -/
def slabCountsSpec : ChangeSpec := { name := "slabCounts", fn := fun _ => fun
  | [d1, d2] => { results := [.lit (.bool true)], args := [d1, d2] }
  | _ => none }
def slabCountsRow : OpenClaim := { program := "ytnmgaafpbbeceaa", sum := "f9fba9e9e16009accbdfce61c4a5d0e972a6a74b60fcf6d021e07b1cb17f4f72", func := "mosaicist/mosaicistlaw01.SlabCounts", spec := "slabCounts", inPlace := ["internal/abi.NoEscape", "internal/bytealg.MakeNoZero"], unfollowed := true, recurses := true, apart := false }
def SlabCountsSaid : Prop := slabCountsRow.holds Try.pinned (OpenSpec.ofChange slabCountsSpec)

/-- ITS FALSE NEIGHBOUR: 'it returns false'. Refute it at one input. -/
def slabCountsWrong : ChangeSpec := { name := "slabCounts", fn := fun _ => fun
  | [d1, d2] => { results := [.lit (.bool false)], args := [d1, d2] }
  | _ => none }
def SlabCountsWrongFalsely : Prop := slabCountsRow.holds Try.pinned (OpenSpec.ofChange slabCountsWrong)

/-- 'mosaicistlaw01.SlabReads': WHATEVER THE INPUT: true; the input reads as it did. -/
def slabReadsSpec : ChangeSpec := { name := "slabReads", fn := fun _ => fun
  | [d1, d2, d3] => { results := [.lit (.bool true)], args := [d1, d2, d3] }
  | _ => none }
def slabReadsRow : OpenClaim := { program := "ytnmgaafpbbeceaa", sum := "f9fba9e9e16009accbdfce61c4a5d0e972a6a74b60fcf6d021e07b1cb17f4f72", func := "mosaicist/mosaicistlaw01.SlabReads", spec := "slabReads", inPlace := ["internal/abi.NoEscape", "internal/bytealg.MakeNoZero"], unfollowed := true, recurses := true, apart := false }
def SlabReadsSaid : Prop := slabReadsRow.holds Try.pinned (OpenSpec.ofChange slabReadsSpec)

/-- ITS FALSE NEIGHBOUR: 'it returns false'. Refute it at one input. -/
def slabReadsWrong : ChangeSpec := { name := "slabReads", fn := fun _ => fun
  | [d1, d2, d3] => { results := [.lit (.bool false)], args := [d1, d2, d3] }
  | _ => none }
def SlabReadsWrongFalsely : Prop := slabReadsRow.holds Try.pinned (OpenSpec.ofChange slabReadsWrong)

/-- 'mosaicistlaw01.SlabDies': WHATEVER THE INPUT: true; the input reads as it did. -/
def slabDiesSpec : ChangeSpec := { name := "slabDies", fn := fun _ => fun
  | [d1, d2, d3] => { results := [.lit (.bool true)], args := [d1, d2, d3] }
  | _ => none }
def slabDiesRow : OpenClaim := { program := "ytnmgaafpbbeceaa", sum := "f9fba9e9e16009accbdfce61c4a5d0e972a6a74b60fcf6d021e07b1cb17f4f72", func := "mosaicist/mosaicistlaw01.SlabDies", spec := "slabDies", inPlace := ["internal/abi.NoEscape", "internal/bytealg.MakeNoZero"], unfollowed := true, recurses := true, apart := false }
def SlabDiesSaid : Prop := slabDiesRow.holds Try.pinned (OpenSpec.ofChange slabDiesSpec)

/-- ITS FALSE NEIGHBOUR: 'it returns false'. Refute it at one input. -/
def slabDiesWrong : ChangeSpec := { name := "slabDies", fn := fun _ => fun
  | [d1, d2, d3] => { results := [.lit (.bool false)], args := [d1, d2, d3] }
  | _ => none }
def SlabDiesWrongFalsely : Prop := slabDiesRow.holds Try.pinned (OpenSpec.ofChange slabDiesWrong)

/- THE SECOND FORM. 'bulk': how many values and letters a reading holds, each counted each time it is reached (what is shared counts as often as it is met; a slice's spare places count too). A statement '..UptoSaid' is the law's where the arguments, and the package variables that the reading takes, are together of bulk at most 1048576: NARROWER than '..Said'. Prove '..Said' where nothing that the law and all that it calls make is longer than what came in: it says more and counts as full. Else prove '..UptoSaid'. A law counts once. -/
mutual
def uptoBulk {H : Type} : DataW H → Nat
  | .lit (.string bytes) => bytes.length + 1
  | .lit _ => 1
  | .nil => 1
  | .ptr d => uptoBulk d + 1
  | .slice elems spare => uptoBulkAll elems + uptoBulkAll spare + 1
  | .agg parts => uptoBulkAll parts + 1
  | .iface _ d => uptoBulk d + 1
  | .map entries => uptoBulkEntries entries + 1
  | .held _ => 1
def uptoBulkAll {H : Type} : List (DataW H) → Nat
  | [] => 0
  | d :: r => uptoBulk d + uptoBulkAll r
def uptoBulkEntries {H : Type} : List (Lit × DataW H) → Nat
  | [] => 0
  | x :: r => uptoBulkEntry x + uptoBulkEntries r
def uptoBulkEntry {H : Type} : Lit × DataW H → Nat
  | (.string bytes, d) => bytes.length + uptoBulk d + 1
  | (_, d) => uptoBulk d + 1
 end
def uptoSmall : (H : Type) → List (DataW H) → Bool := fun _ ds => decide (uptoBulkAll ds ≤ 1048576)
def OpenSpec.upto (s : _root_.Go.ChangeSpec) : _root_.Go.OpenSpec := { _root_.Go.OpenSpec.ofChange s with cond := some uptoSmall }

/-- 'mosaicistlaw01.SlabSure', WHERE WHAT IT READS IS OF BULK AT MOST 1048576: true; the input reads as it did. -/
def slabSureUptoRow : OpenClaim := { program := "ytnmgaafpbbeceaa", sum := "f9fba9e9e16009accbdfce61c4a5d0e972a6a74b60fcf6d021e07b1cb17f4f72", func := "mosaicist/mosaicistlaw01.SlabSure", spec := "slabSure", inPlace := ["internal/abi.NoEscape", "internal/bytealg.MakeNoZero"], unfollowed := true, recurses := true, apart := false, narrowed := true }
def SlabSureUptoSaid : Prop := slabSureUptoRow.holds Try.pinned (OpenSpec.upto slabSureSpec)

/-- 'mosaicistlaw01.SlabCounts', WHERE WHAT IT READS IS OF BULK AT MOST 1048576: true; the input reads as it did. -/
def slabCountsUptoRow : OpenClaim := { program := "ytnmgaafpbbeceaa", sum := "f9fba9e9e16009accbdfce61c4a5d0e972a6a74b60fcf6d021e07b1cb17f4f72", func := "mosaicist/mosaicistlaw01.SlabCounts", spec := "slabCounts", inPlace := ["internal/abi.NoEscape", "internal/bytealg.MakeNoZero"], unfollowed := true, recurses := true, apart := false, narrowed := true }
def SlabCountsUptoSaid : Prop := slabCountsUptoRow.holds Try.pinned (OpenSpec.upto slabCountsSpec)

/-- 'mosaicistlaw01.SlabReads', WHERE WHAT IT READS IS OF BULK AT MOST 1048576: true; the input reads as it did. -/
def slabReadsUptoRow : OpenClaim := { program := "ytnmgaafpbbeceaa", sum := "f9fba9e9e16009accbdfce61c4a5d0e972a6a74b60fcf6d021e07b1cb17f4f72", func := "mosaicist/mosaicistlaw01.SlabReads", spec := "slabReads", inPlace := ["internal/abi.NoEscape", "internal/bytealg.MakeNoZero"], unfollowed := true, recurses := true, apart := false, narrowed := true }
def SlabReadsUptoSaid : Prop := slabReadsUptoRow.holds Try.pinned (OpenSpec.upto slabReadsSpec)

/-- 'mosaicistlaw01.SlabDies', WHERE WHAT IT READS IS OF BULK AT MOST 1048576: true; the input reads as it did. -/
def slabDiesUptoRow : OpenClaim := { program := "ytnmgaafpbbeceaa", sum := "f9fba9e9e16009accbdfce61c4a5d0e972a6a74b60fcf6d021e07b1cb17f4f72", func := "mosaicist/mosaicistlaw01.SlabDies", spec := "slabDies", inPlace := ["internal/abi.NoEscape", "internal/bytealg.MakeNoZero"], unfollowed := true, recurses := true, apart := false, narrowed := true }
def SlabDiesUptoSaid : Prop := slabDiesUptoRow.holds Try.pinned (OpenSpec.upto slabDiesSpec)

end Rows
end Go.Proofs.Ytnmgaafpbbeceaa
