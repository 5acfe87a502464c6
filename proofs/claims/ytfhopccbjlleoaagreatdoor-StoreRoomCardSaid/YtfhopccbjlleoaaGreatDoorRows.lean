/-
  NARROWER THAN 'FOR EVERY INPUT', by the rows' own cells (each row's printed sentence says how): StorePlays: laid · StoreKeeps: laid · StoreRoom: laid · StoreDeeds: laid · StoreAgain: laid · StoreReads: laid.
  DERIVED. THE GIVEN ROWS OF THIS SEAT. 6 by the template 'for every input the law returns true; each argument reads behind the call as it read before'; 0 by the template 'total and deterministic' (their statements: YtfhopccbjlleoaaGreatDoorTotals.lean).
  GIVEN WITH THE SEED: the statements are not yours to turn. If you find one false, say at which input.
  Laid BY PROGRAM, IN A SANDBOX (cutbox-rows.mjs): the forced cells as the released guide's own fill.sh prints them over the translation 99c4d51ec0a40fe7… (all of the seat's roots in one cut). By AI agents, Wed Nov 11 2026. No macro, syntax, notation, axiom, sorry.
-/
import Derived.Test.YtfhopccbjlleoaaGreatDoorChecked
import GoSem.Claim
import GoSem.ClaimJoined
import GoSem.ClaimMapViews
import Derived.JoinedTies
import Derived.KernelRfl
namespace Go.Proofs.YtfhopccbjlleoaaGreatDoor
/- THE CELL 'sum', in the pinned program and in every row, IS THE sha256 OF THE DUMP (.gsa) THAT YtfhopccbjlleoaaGreatDoorProg.lean LOADS. Nothing in Lean hashes anything: it is a label: what it is worth is what the hold of that sum in a sandbox is worth. -/
noncomputable def Tryz.pinned : Pinned := { name := "ytfhopccbjlleoaagreatdoor", sum := "99c4d51ec0a40fe775228240c9aea1c7894acec88338ebf06aa1be6bed912382", checked := Tryz.checked }
namespace Rows
def none {H : Type} : Left H := { results := [], args := [] }

/- WHAT THE LISTED PACKAGE-LEVEL VARIABLES READ AS WHEN THE CALL BEGINS. Each datum BY PROGRAM (the guide's laid-datum.mjs) off the statement by which the dump's own 'gosem.cut.vars' lays the variable. In a bare row this is a premise. The card (YtfhopccbjlleoaaGreatDoorCards.lean) ties it to the program's text. -/
def laid_mosaicist_tally_halves {H : Type} : DataW H := .agg [.lit (.int .u32 0), .lit (.int .u32 498536548), .lit (.int .u32 997073096), .lit (.int .u32 651767980), .lit (.int .u32 1994146192), .lit (.int .u32 1802195444), .lit (.int .u32 1303535960), .lit (.int .u32 1342533948), .lit (.int .u32 3988292384), .lit (.int .u32 4027552580), .lit (.int .u32 3604390888), .lit (.int .u32 3412177804), .lit (.int .u32 2607071920), .lit (.int .u32 2262029012), .lit (.int .u32 2685067896), .lit (.int .u32 3183342108)]

/-- 'mosaicistlaw18.StorePlays': WHATEVER THE INPUT: true; the input reads as it did. -/
def storePlaysSpec : ChangeSpec := { name := "storePlays", fn := fun _ => fun
  | [d1, d2, d3] => { results := [.lit (.bool true)], args := [d1, d2, d3] }
  | _ => none }
def storePlaysRow : OpenClaim := { program := "ytfhopccbjlleoaagreatdoor", sum := "99c4d51ec0a40fe775228240c9aea1c7894acec88338ebf06aa1be6bed912382", func := "mosaicist/mosaicistlaw18.StorePlays", spec := "storePlays", inPlace := ["internal/abi.NoEscape", "internal/bytealg.MakeNoZero", "slices.overlaps[mosaicist/api.Page]", "slices.overlaps[mosaicist/api.Image]"], unfollowed := true, recurses := true, named := ["mosaicist/tally.halves"], apart := false, laid := [("mosaicist/tally.halves", laid_mosaicist_tally_halves)] }
def StorePlaysSaid : Prop := storePlaysRow.holds Tryz.pinned (OpenSpec.ofChange storePlaysSpec)

/-- ITS FALSE NEIGHBOUR: 'it returns false'. Refute it at one input. -/
def storePlaysWrong : ChangeSpec := { name := "storePlays", fn := fun _ => fun
  | [d1, d2, d3] => { results := [.lit (.bool false)], args := [d1, d2, d3] }
  | _ => none }
def StorePlaysWrongFalsely : Prop := storePlaysRow.holds Tryz.pinned (OpenSpec.ofChange storePlaysWrong)

/-- 'mosaicistlaw18.StoreKeeps': WHATEVER THE INPUT: true; the input reads as it did. -/
def storeKeepsSpec : ChangeSpec := { name := "storeKeeps", fn := fun _ => fun
  | [d1, d2] => { results := [.lit (.bool true)], args := [d1, d2] }
  | _ => none }
def storeKeepsRow : OpenClaim := { program := "ytfhopccbjlleoaagreatdoor", sum := "99c4d51ec0a40fe775228240c9aea1c7894acec88338ebf06aa1be6bed912382", func := "mosaicist/mosaicistlaw18.StoreKeeps", spec := "storeKeeps", inPlace := ["internal/abi.NoEscape", "internal/bytealg.MakeNoZero", "slices.overlaps[mosaicist/api.Page]", "slices.overlaps[mosaicist/api.Image]"], unfollowed := true, recurses := true, named := ["mosaicist/tally.halves"], apart := false, laid := [("mosaicist/tally.halves", laid_mosaicist_tally_halves)] }
def StoreKeepsSaid : Prop := storeKeepsRow.holds Tryz.pinned (OpenSpec.ofChange storeKeepsSpec)

/-- ITS FALSE NEIGHBOUR: 'it returns false'. Refute it at one input. -/
def storeKeepsWrong : ChangeSpec := { name := "storeKeeps", fn := fun _ => fun
  | [d1, d2] => { results := [.lit (.bool false)], args := [d1, d2] }
  | _ => none }
def StoreKeepsWrongFalsely : Prop := storeKeepsRow.holds Tryz.pinned (OpenSpec.ofChange storeKeepsWrong)

/-- 'mosaicistlaw18.StoreRoom': WHATEVER THE INPUT: true; the input reads as it did. -/
def storeRoomSpec : ChangeSpec := { name := "storeRoom", fn := fun _ => fun
  | [d1, d2] => { results := [.lit (.bool true)], args := [d1, d2] }
  | _ => none }
def storeRoomRow : OpenClaim := { program := "ytfhopccbjlleoaagreatdoor", sum := "99c4d51ec0a40fe775228240c9aea1c7894acec88338ebf06aa1be6bed912382", func := "mosaicist/mosaicistlaw18.StoreRoom", spec := "storeRoom", inPlace := ["internal/abi.NoEscape", "internal/bytealg.MakeNoZero", "slices.overlaps[mosaicist/api.Page]", "slices.overlaps[mosaicist/api.Image]"], unfollowed := true, recurses := true, named := ["mosaicist/tally.halves"], apart := false, laid := [("mosaicist/tally.halves", laid_mosaicist_tally_halves)] }
def StoreRoomSaid : Prop := storeRoomRow.holds Tryz.pinned (OpenSpec.ofChange storeRoomSpec)

/-- ITS FALSE NEIGHBOUR: 'it returns false'. Refute it at one input. -/
def storeRoomWrong : ChangeSpec := { name := "storeRoom", fn := fun _ => fun
  | [d1, d2] => { results := [.lit (.bool false)], args := [d1, d2] }
  | _ => none }
def StoreRoomWrongFalsely : Prop := storeRoomRow.holds Tryz.pinned (OpenSpec.ofChange storeRoomWrong)

/-- 'mosaicistlaw18.StoreDeeds': WHATEVER THE INPUT: true; the input reads as it did. -/
def storeDeedsSpec : ChangeSpec := { name := "storeDeeds", fn := fun _ => fun
  | [d1, d2] => { results := [.lit (.bool true)], args := [d1, d2] }
  | _ => none }
def storeDeedsRow : OpenClaim := { program := "ytfhopccbjlleoaagreatdoor", sum := "99c4d51ec0a40fe775228240c9aea1c7894acec88338ebf06aa1be6bed912382", func := "mosaicist/mosaicistlaw18.StoreDeeds", spec := "storeDeeds", inPlace := ["internal/abi.NoEscape", "internal/bytealg.MakeNoZero", "slices.overlaps[mosaicist/api.Page]", "slices.overlaps[mosaicist/api.Image]"], unfollowed := true, recurses := true, named := ["mosaicist/tally.halves"], apart := false, laid := [("mosaicist/tally.halves", laid_mosaicist_tally_halves)] }
def StoreDeedsSaid : Prop := storeDeedsRow.holds Tryz.pinned (OpenSpec.ofChange storeDeedsSpec)

/-- ITS FALSE NEIGHBOUR: 'it returns false'. Refute it at one input. -/
def storeDeedsWrong : ChangeSpec := { name := "storeDeeds", fn := fun _ => fun
  | [d1, d2] => { results := [.lit (.bool false)], args := [d1, d2] }
  | _ => none }
def StoreDeedsWrongFalsely : Prop := storeDeedsRow.holds Tryz.pinned (OpenSpec.ofChange storeDeedsWrong)

/-- 'mosaicistlaw18.StoreAgain': WHATEVER THE INPUT: true; the input reads as it did. -/
def storeAgainSpec : ChangeSpec := { name := "storeAgain", fn := fun _ => fun
  | [d1, d2, d3] => { results := [.lit (.bool true)], args := [d1, d2, d3] }
  | _ => none }
def storeAgainRow : OpenClaim := { program := "ytfhopccbjlleoaagreatdoor", sum := "99c4d51ec0a40fe775228240c9aea1c7894acec88338ebf06aa1be6bed912382", func := "mosaicist/mosaicistlaw18.StoreAgain", spec := "storeAgain", inPlace := ["internal/abi.NoEscape", "internal/bytealg.MakeNoZero", "slices.overlaps[mosaicist/api.Page]", "slices.overlaps[mosaicist/api.Image]"], unfollowed := true, recurses := true, named := ["mosaicist/tally.halves"], apart := false, laid := [("mosaicist/tally.halves", laid_mosaicist_tally_halves)] }
def StoreAgainSaid : Prop := storeAgainRow.holds Tryz.pinned (OpenSpec.ofChange storeAgainSpec)

/-- ITS FALSE NEIGHBOUR: 'it returns false'. Refute it at one input. -/
def storeAgainWrong : ChangeSpec := { name := "storeAgain", fn := fun _ => fun
  | [d1, d2, d3] => { results := [.lit (.bool false)], args := [d1, d2, d3] }
  | _ => none }
def StoreAgainWrongFalsely : Prop := storeAgainRow.holds Tryz.pinned (OpenSpec.ofChange storeAgainWrong)

/-- 'mosaicistlaw18.StoreReads': WHATEVER THE INPUT: true; the input reads as it did. -/
def storeReadsSpec : ChangeSpec := { name := "storeReads", fn := fun _ => fun
  | [d1, d2] => { results := [.lit (.bool true)], args := [d1, d2] }
  | _ => none }
def storeReadsRow : OpenClaim := { program := "ytfhopccbjlleoaagreatdoor", sum := "99c4d51ec0a40fe775228240c9aea1c7894acec88338ebf06aa1be6bed912382", func := "mosaicist/mosaicistlaw18.StoreReads", spec := "storeReads", inPlace := ["internal/abi.NoEscape", "internal/bytealg.MakeNoZero", "slices.overlaps[mosaicist/api.Page]", "slices.overlaps[mosaicist/api.Image]"], unfollowed := true, recurses := true, named := ["mosaicist/tally.halves"], apart := false, laid := [("mosaicist/tally.halves", laid_mosaicist_tally_halves)] }
def StoreReadsSaid : Prop := storeReadsRow.holds Tryz.pinned (OpenSpec.ofChange storeReadsSpec)

/-- ITS FALSE NEIGHBOUR: 'it returns false'. Refute it at one input. -/
def storeReadsWrong : ChangeSpec := { name := "storeReads", fn := fun _ => fun
  | [d1, d2] => { results := [.lit (.bool false)], args := [d1, d2] }
  | _ => none }
def StoreReadsWrongFalsely : Prop := storeReadsRow.holds Tryz.pinned (OpenSpec.ofChange storeReadsWrong)

/- THE SECOND FORM. 'bulk': how many values and letters a reading holds, each counted each time it is reached (what is shared counts as often as it is met; a slice's spare places count too). A statement '..UptoSaid' is the law's where the arguments, and the package variables that the reading takes, are together of bulk at most 1048576: NARROWER than '..Said'. Prove '..Said' where nothing that the law and all that it calls make is longer than what came in: it says more and counts as full. Else prove '..UptoSaid'. A law counts once. -/
mutual
def uptoBulk {H : Type} : DataW H → Nat
  | .lit (.string bytes) => bytes.length + 1
  | .lit _ => 1
  | .nil => 1
  | .ptr d => uptoBulk d + 1
  | .slice elems spare => uptoBulkAll elems + uptoBulkAll spare + 1
  | .agg parts => uptoBulkAll parts + 1
  | .iface _ d => uptoBulk d + 1
  | .map entries => uptoBulkEntries entries + 1
  | .held _ => 1
def uptoBulkAll {H : Type} : List (DataW H) → Nat
  | [] => 0
  | d :: r => uptoBulk d + uptoBulkAll r
def uptoBulkEntries {H : Type} : List (Lit × DataW H) → Nat
  | [] => 0
  | x :: r => uptoBulkEntry x + uptoBulkEntries r
def uptoBulkEntry {H : Type} : Lit × DataW H → Nat
  | (.string bytes, d) => bytes.length + uptoBulk d + 1
  | (_, d) => uptoBulk d + 1
 end
def uptoSmall : (H : Type) → List (DataW H) → Bool := fun _ ds => decide (uptoBulkAll ds ≤ 1048576)
def OpenSpec.upto (s : _root_.Go.ChangeSpec) : _root_.Go.OpenSpec := { _root_.Go.OpenSpec.ofChange s with cond := some uptoSmall }

/-- 'mosaicistlaw18.StorePlays', WHERE WHAT IT READS IS OF BULK AT MOST 1048576: true; the input reads as it did. -/
def storePlaysUptoRow : OpenClaim := { program := "ytfhopccbjlleoaagreatdoor", sum := "99c4d51ec0a40fe775228240c9aea1c7894acec88338ebf06aa1be6bed912382", func := "mosaicist/mosaicistlaw18.StorePlays", spec := "storePlays", inPlace := ["internal/abi.NoEscape", "internal/bytealg.MakeNoZero", "slices.overlaps[mosaicist/api.Page]", "slices.overlaps[mosaicist/api.Image]"], unfollowed := true, recurses := true, named := ["mosaicist/tally.halves"], apart := false, laid := [("mosaicist/tally.halves", laid_mosaicist_tally_halves)], narrowed := true }
def StorePlaysUptoSaid : Prop := storePlaysUptoRow.holds Tryz.pinned (OpenSpec.upto storePlaysSpec)

/-- 'mosaicistlaw18.StoreKeeps', WHERE WHAT IT READS IS OF BULK AT MOST 1048576: true; the input reads as it did. -/
def storeKeepsUptoRow : OpenClaim := { program := "ytfhopccbjlleoaagreatdoor", sum := "99c4d51ec0a40fe775228240c9aea1c7894acec88338ebf06aa1be6bed912382", func := "mosaicist/mosaicistlaw18.StoreKeeps", spec := "storeKeeps", inPlace := ["internal/abi.NoEscape", "internal/bytealg.MakeNoZero", "slices.overlaps[mosaicist/api.Page]", "slices.overlaps[mosaicist/api.Image]"], unfollowed := true, recurses := true, named := ["mosaicist/tally.halves"], apart := false, laid := [("mosaicist/tally.halves", laid_mosaicist_tally_halves)], narrowed := true }
def StoreKeepsUptoSaid : Prop := storeKeepsUptoRow.holds Tryz.pinned (OpenSpec.upto storeKeepsSpec)

/-- 'mosaicistlaw18.StoreRoom', WHERE WHAT IT READS IS OF BULK AT MOST 1048576: true; the input reads as it did. -/
def storeRoomUptoRow : OpenClaim := { program := "ytfhopccbjlleoaagreatdoor", sum := "99c4d51ec0a40fe775228240c9aea1c7894acec88338ebf06aa1be6bed912382", func := "mosaicist/mosaicistlaw18.StoreRoom", spec := "storeRoom", inPlace := ["internal/abi.NoEscape", "internal/bytealg.MakeNoZero", "slices.overlaps[mosaicist/api.Page]", "slices.overlaps[mosaicist/api.Image]"], unfollowed := true, recurses := true, named := ["mosaicist/tally.halves"], apart := false, laid := [("mosaicist/tally.halves", laid_mosaicist_tally_halves)], narrowed := true }
def StoreRoomUptoSaid : Prop := storeRoomUptoRow.holds Tryz.pinned (OpenSpec.upto storeRoomSpec)

/-- 'mosaicistlaw18.StoreDeeds', WHERE WHAT IT READS IS OF BULK AT MOST 1048576: true; the input reads as it did. -/
def storeDeedsUptoRow : OpenClaim := { program := "ytfhopccbjlleoaagreatdoor", sum := "99c4d51ec0a40fe775228240c9aea1c7894acec88338ebf06aa1be6bed912382", func := "mosaicist/mosaicistlaw18.StoreDeeds", spec := "storeDeeds", inPlace := ["internal/abi.NoEscape", "internal/bytealg.MakeNoZero", "slices.overlaps[mosaicist/api.Page]", "slices.overlaps[mosaicist/api.Image]"], unfollowed := true, recurses := true, named := ["mosaicist/tally.halves"], apart := false, laid := [("mosaicist/tally.halves", laid_mosaicist_tally_halves)], narrowed := true }
def StoreDeedsUptoSaid : Prop := storeDeedsUptoRow.holds Tryz.pinned (OpenSpec.upto storeDeedsSpec)

/-- 'mosaicistlaw18.StoreAgain', WHERE WHAT IT READS IS OF BULK AT MOST 1048576: true; the input reads as it did. -/
def storeAgainUptoRow : OpenClaim := { program := "ytfhopccbjlleoaagreatdoor", sum := "99c4d51ec0a40fe775228240c9aea1c7894acec88338ebf06aa1be6bed912382", func := "mosaicist/mosaicistlaw18.StoreAgain", spec := "storeAgain", inPlace := ["internal/abi.NoEscape", "internal/bytealg.MakeNoZero", "slices.overlaps[mosaicist/api.Page]", "slices.overlaps[mosaicist/api.Image]"], unfollowed := true, recurses := true, named := ["mosaicist/tally.halves"], apart := false, laid := [("mosaicist/tally.halves", laid_mosaicist_tally_halves)], narrowed := true }
def StoreAgainUptoSaid : Prop := storeAgainUptoRow.holds Tryz.pinned (OpenSpec.upto storeAgainSpec)

/-- 'mosaicistlaw18.StoreReads', WHERE WHAT IT READS IS OF BULK AT MOST 1048576: true; the input reads as it did. -/
def storeReadsUptoRow : OpenClaim := { program := "ytfhopccbjlleoaagreatdoor", sum := "99c4d51ec0a40fe775228240c9aea1c7894acec88338ebf06aa1be6bed912382", func := "mosaicist/mosaicistlaw18.StoreReads", spec := "storeReads", inPlace := ["internal/abi.NoEscape", "internal/bytealg.MakeNoZero", "slices.overlaps[mosaicist/api.Page]", "slices.overlaps[mosaicist/api.Image]"], unfollowed := true, recurses := true, named := ["mosaicist/tally.halves"], apart := false, laid := [("mosaicist/tally.halves", laid_mosaicist_tally_halves)], narrowed := true }
def StoreReadsUptoSaid : Prop := storeReadsUptoRow.holds Tryz.pinned (OpenSpec.upto storeReadsSpec)

end Rows
end Go.Proofs.YtfhopccbjlleoaaGreatDoor
