/-
  NARROWER THAN 'FOR EVERY INPUT', by the rows' own cells (each row's printed sentence says how): StorePlays: laid · StoreKeeps: laid · StoreAgain: laid · BlobPlays: laid · BlobKeeps: laid · BlobFits: laid · BlobChains: laid · CatalogTells: laid · CatalogSaves: laid · CatalogBack: laid · CatalogKeeps: laid · CatalogApart: laid.
  DERIVED. THE GIVEN ROWS OF THIS SEAT. 12 by the template 'for every input the law returns true; each argument reads behind the call as it read before'; 0 by the template 'total and deterministic' (their statements: YtcgkbcgpnlogoaaGreatDoorTotals.lean).
  GIVEN WITH THE SEED: the statements are not yours to turn. If you find one false, say at which input.
  Laid BY PROGRAM, IN A SANDBOX (cutbox-rows.mjs): the forced cells as the released guide's own fill.sh prints them over the translation d88e1cd03511a3c6… (all of the seat's roots in one cut). By AI agents, Wed Nov 11 2026. No macro, syntax, notation, axiom, sorry.
-/
import Derived.Test.YtcgkbcgpnlogoaaGreatDoorChecked
import GoSem.Claim
import GoSem.ClaimJoined
import GoSem.ClaimMapViews
import Derived.JoinedTies
import Derived.KernelRfl
namespace Go.Proofs.YtcgkbcgpnlogoaaGreatDoor
/- THE CELL 'sum', in the pinned program and in every row, IS THE sha256 OF THE DUMP (.gsa) THAT YtcgkbcgpnlogoaaGreatDoorProg.lean LOADS. Nothing in Lean hashes anything: it is a label: what it is worth is what the hold of that sum in a sandbox is worth. -/
noncomputable def Tryz.pinned : Pinned := { name := "ytcgkbcgpnlogoaagreatdoor", sum := "d88e1cd03511a3c6090653f249c818c07c0dca04b80ea3675f8d984d54b063c7", checked := Tryz.checked }
namespace Rows
def none {H : Type} : Left H := { results := [], args := [] }

/- WHAT THE LISTED PACKAGE-LEVEL VARIABLES READ AS WHEN THE CALL BEGINS. Each datum BY PROGRAM (the guide's laid-datum.mjs) off the statement by which the dump's own 'gosem.cut.vars' lays the variable. In a bare row this is a premise. The card (YtcgkbcgpnlogoaaGreatDoorCards.lean) ties it to the program's text. -/
def laid_mosaicist_tally_halves {H : Type} : DataW H := .agg [.lit (.int .u32 0), .lit (.int .u32 498536548), .lit (.int .u32 997073096), .lit (.int .u32 651767980), .lit (.int .u32 1994146192), .lit (.int .u32 1802195444), .lit (.int .u32 1303535960), .lit (.int .u32 1342533948), .lit (.int .u32 3988292384), .lit (.int .u32 4027552580), .lit (.int .u32 3604390888), .lit (.int .u32 3412177804), .lit (.int .u32 2607071920), .lit (.int .u32 2262029012), .lit (.int .u32 2685067896), .lit (.int .u32 3183342108)]

/-- 'mosaicistlaw18.StorePlays': WHATEVER THE INPUT: true; the input reads as it did. -/
def storePlaysSpec : ChangeSpec := { name := "storePlays", fn := fun _ => fun
  | [d1, d2, d3] => { results := [.lit (.bool true)], args := [d1, d2, d3] }
  | _ => none }
def storePlaysRow : OpenClaim := { program := "ytcgkbcgpnlogoaagreatdoor", sum := "d88e1cd03511a3c6090653f249c818c07c0dca04b80ea3675f8d984d54b063c7", func := "mosaicist/mosaicistlaw18.StorePlays", spec := "storePlays", inPlace := ["internal/abi.NoEscape", "internal/bytealg.MakeNoZero", "slices.overlaps[mosaicist/api.Page]", "slices.overlaps[mosaicist/api.Image]"], unfollowed := true, recurses := true, named := ["mosaicist/tally.halves"], apart := false, laid := [("mosaicist/tally.halves", laid_mosaicist_tally_halves)] }
def StorePlaysSaid : Prop := storePlaysRow.holds Tryz.pinned (OpenSpec.ofChange storePlaysSpec)

/-- ITS FALSE NEIGHBOUR: 'it returns false'. Refute it at one input. -/
def storePlaysWrong : ChangeSpec := { name := "storePlays", fn := fun _ => fun
  | [d1, d2, d3] => { results := [.lit (.bool false)], args := [d1, d2, d3] }
  | _ => none }
def StorePlaysWrongFalsely : Prop := storePlaysRow.holds Tryz.pinned (OpenSpec.ofChange storePlaysWrong)

/-- 'mosaicistlaw18.StoreKeeps': WHATEVER THE INPUT: true; the input reads as it did. -/
def storeKeepsSpec : ChangeSpec := { name := "storeKeeps", fn := fun _ => fun
  | [d1, d2] => { results := [.lit (.bool true)], args := [d1, d2] }
  | _ => none }
def storeKeepsRow : OpenClaim := { program := "ytcgkbcgpnlogoaagreatdoor", sum := "d88e1cd03511a3c6090653f249c818c07c0dca04b80ea3675f8d984d54b063c7", func := "mosaicist/mosaicistlaw18.StoreKeeps", spec := "storeKeeps", inPlace := ["internal/abi.NoEscape", "internal/bytealg.MakeNoZero", "slices.overlaps[mosaicist/api.Page]", "slices.overlaps[mosaicist/api.Image]"], unfollowed := true, recurses := true, named := ["mosaicist/tally.halves"], apart := false, laid := [("mosaicist/tally.halves", laid_mosaicist_tally_halves)] }
def StoreKeepsSaid : Prop := storeKeepsRow.holds Tryz.pinned (OpenSpec.ofChange storeKeepsSpec)

/-- ITS FALSE NEIGHBOUR: 'it returns false'. Refute it at one input. -/
def storeKeepsWrong : ChangeSpec := { name := "storeKeeps", fn := fun _ => fun
  | [d1, d2] => { results := [.lit (.bool false)], args := [d1, d2] }
  | _ => none }
def StoreKeepsWrongFalsely : Prop := storeKeepsRow.holds Tryz.pinned (OpenSpec.ofChange storeKeepsWrong)

/-- 'mosaicistlaw18.StoreAgain': WHATEVER THE INPUT: true; the input reads as it did. -/
def storeAgainSpec : ChangeSpec := { name := "storeAgain", fn := fun _ => fun
  | [d1, d2, d3] => { results := [.lit (.bool true)], args := [d1, d2, d3] }
  | _ => none }
def storeAgainRow : OpenClaim := { program := "ytcgkbcgpnlogoaagreatdoor", sum := "d88e1cd03511a3c6090653f249c818c07c0dca04b80ea3675f8d984d54b063c7", func := "mosaicist/mosaicistlaw18.StoreAgain", spec := "storeAgain", inPlace := ["internal/abi.NoEscape", "internal/bytealg.MakeNoZero", "slices.overlaps[mosaicist/api.Page]", "slices.overlaps[mosaicist/api.Image]"], unfollowed := true, recurses := true, named := ["mosaicist/tally.halves"], apart := false, laid := [("mosaicist/tally.halves", laid_mosaicist_tally_halves)] }
def StoreAgainSaid : Prop := storeAgainRow.holds Tryz.pinned (OpenSpec.ofChange storeAgainSpec)

/-- ITS FALSE NEIGHBOUR: 'it returns false'. Refute it at one input. -/
def storeAgainWrong : ChangeSpec := { name := "storeAgain", fn := fun _ => fun
  | [d1, d2, d3] => { results := [.lit (.bool false)], args := [d1, d2, d3] }
  | _ => none }
def StoreAgainWrongFalsely : Prop := storeAgainRow.holds Tryz.pinned (OpenSpec.ofChange storeAgainWrong)

/-- 'mosaicistlaw19.BlobPlays': WHATEVER THE INPUT: true; the input reads as it did. -/
def blobPlaysSpec : ChangeSpec := { name := "blobPlays", fn := fun _ => fun
  | [d1, d2, d3] => { results := [.lit (.bool true)], args := [d1, d2, d3] }
  | _ => none }
def blobPlaysRow : OpenClaim := { program := "ytcgkbcgpnlogoaagreatdoor", sum := "d88e1cd03511a3c6090653f249c818c07c0dca04b80ea3675f8d984d54b063c7", func := "mosaicist/mosaicistlaw19.BlobPlays", spec := "blobPlays", inPlace := ["internal/abi.NoEscape", "internal/bytealg.MakeNoZero", "slices.overlaps[mosaicist/api.Page]"], unfollowed := true, recurses := true, named := ["mosaicist/tally.halves"], apart := false, laid := [("mosaicist/tally.halves", laid_mosaicist_tally_halves)] }
def BlobPlaysSaid : Prop := blobPlaysRow.holds Tryz.pinned (OpenSpec.ofChange blobPlaysSpec)

/-- ITS FALSE NEIGHBOUR: 'it returns false'. Refute it at one input. -/
def blobPlaysWrong : ChangeSpec := { name := "blobPlays", fn := fun _ => fun
  | [d1, d2, d3] => { results := [.lit (.bool false)], args := [d1, d2, d3] }
  | _ => none }
def BlobPlaysWrongFalsely : Prop := blobPlaysRow.holds Tryz.pinned (OpenSpec.ofChange blobPlaysWrong)

/-- 'mosaicistlaw19.BlobKeeps': WHATEVER THE INPUT: true; the input reads as it did. -/
def blobKeepsSpec : ChangeSpec := { name := "blobKeeps", fn := fun _ => fun
  | [d1, d2] => { results := [.lit (.bool true)], args := [d1, d2] }
  | _ => none }
def blobKeepsRow : OpenClaim := { program := "ytcgkbcgpnlogoaagreatdoor", sum := "d88e1cd03511a3c6090653f249c818c07c0dca04b80ea3675f8d984d54b063c7", func := "mosaicist/mosaicistlaw19.BlobKeeps", spec := "blobKeeps", inPlace := ["internal/abi.NoEscape", "internal/bytealg.MakeNoZero", "slices.overlaps[mosaicist/api.Page]"], unfollowed := true, recurses := true, named := ["mosaicist/tally.halves"], apart := false, laid := [("mosaicist/tally.halves", laid_mosaicist_tally_halves)] }
def BlobKeepsSaid : Prop := blobKeepsRow.holds Tryz.pinned (OpenSpec.ofChange blobKeepsSpec)

/-- ITS FALSE NEIGHBOUR: 'it returns false'. Refute it at one input. -/
def blobKeepsWrong : ChangeSpec := { name := "blobKeeps", fn := fun _ => fun
  | [d1, d2] => { results := [.lit (.bool false)], args := [d1, d2] }
  | _ => none }
def BlobKeepsWrongFalsely : Prop := blobKeepsRow.holds Tryz.pinned (OpenSpec.ofChange blobKeepsWrong)

/-- 'mosaicistlaw19.BlobFits': WHATEVER THE INPUT: true; the input reads as it did. -/
def blobFitsSpec : ChangeSpec := { name := "blobFits", fn := fun _ => fun
  | [d1, d2, d3] => { results := [.lit (.bool true)], args := [d1, d2, d3] }
  | _ => none }
def blobFitsRow : OpenClaim := { program := "ytcgkbcgpnlogoaagreatdoor", sum := "d88e1cd03511a3c6090653f249c818c07c0dca04b80ea3675f8d984d54b063c7", func := "mosaicist/mosaicistlaw19.BlobFits", spec := "blobFits", inPlace := ["internal/abi.NoEscape", "internal/bytealg.MakeNoZero", "slices.overlaps[mosaicist/api.Page]"], unfollowed := true, recurses := true, named := ["mosaicist/tally.halves"], apart := false, laid := [("mosaicist/tally.halves", laid_mosaicist_tally_halves)] }
def BlobFitsSaid : Prop := blobFitsRow.holds Tryz.pinned (OpenSpec.ofChange blobFitsSpec)

/-- ITS FALSE NEIGHBOUR: 'it returns false'. Refute it at one input. -/
def blobFitsWrong : ChangeSpec := { name := "blobFits", fn := fun _ => fun
  | [d1, d2, d3] => { results := [.lit (.bool false)], args := [d1, d2, d3] }
  | _ => none }
def BlobFitsWrongFalsely : Prop := blobFitsRow.holds Tryz.pinned (OpenSpec.ofChange blobFitsWrong)

/-- 'mosaicistlaw19.BlobChains': WHATEVER THE INPUT: true; the input reads as it did. -/
def blobChainsSpec : ChangeSpec := { name := "blobChains", fn := fun _ => fun
  | [d1, d2] => { results := [.lit (.bool true)], args := [d1, d2] }
  | _ => none }
def blobChainsRow : OpenClaim := { program := "ytcgkbcgpnlogoaagreatdoor", sum := "d88e1cd03511a3c6090653f249c818c07c0dca04b80ea3675f8d984d54b063c7", func := "mosaicist/mosaicistlaw19.BlobChains", spec := "blobChains", inPlace := ["internal/abi.NoEscape", "internal/bytealg.MakeNoZero", "slices.overlaps[mosaicist/api.Page]"], unfollowed := true, recurses := true, named := ["mosaicist/tally.halves"], apart := false, laid := [("mosaicist/tally.halves", laid_mosaicist_tally_halves)] }
def BlobChainsSaid : Prop := blobChainsRow.holds Tryz.pinned (OpenSpec.ofChange blobChainsSpec)

/-- ITS FALSE NEIGHBOUR: 'it returns false'. Refute it at one input. -/
def blobChainsWrong : ChangeSpec := { name := "blobChains", fn := fun _ => fun
  | [d1, d2] => { results := [.lit (.bool false)], args := [d1, d2] }
  | _ => none }
def BlobChainsWrongFalsely : Prop := blobChainsRow.holds Tryz.pinned (OpenSpec.ofChange blobChainsWrong)

/-- 'mosaicistlaw20.CatalogTells': WHATEVER THE INPUT: true; the input reads as it did. -/
def catalogTellsSpec : ChangeSpec := { name := "catalogTells", fn := fun _ => fun
  | [d1, d2, d3] => { results := [.lit (.bool true)], args := [d1, d2, d3] }
  | _ => none }
def catalogTellsRow : OpenClaim := { program := "ytcgkbcgpnlogoaagreatdoor", sum := "d88e1cd03511a3c6090653f249c818c07c0dca04b80ea3675f8d984d54b063c7", func := "mosaicist/mosaicistlaw20.CatalogTells", spec := "catalogTells", inPlace := ["internal/abi.NoEscape", "internal/bytealg.MakeNoZero", "slices.overlaps[mosaicist/api.Page]"], unfollowed := true, recurses := true, named := ["mosaicist/tally.halves"], apart := false, laid := [("mosaicist/tally.halves", laid_mosaicist_tally_halves)] }
def CatalogTellsSaid : Prop := catalogTellsRow.holds Tryz.pinned (OpenSpec.ofChange catalogTellsSpec)

/-- ITS FALSE NEIGHBOUR: 'it returns false'. Refute it at one input. -/
def catalogTellsWrong : ChangeSpec := { name := "catalogTells", fn := fun _ => fun
  | [d1, d2, d3] => { results := [.lit (.bool false)], args := [d1, d2, d3] }
  | _ => none }
def CatalogTellsWrongFalsely : Prop := catalogTellsRow.holds Tryz.pinned (OpenSpec.ofChange catalogTellsWrong)

/-- 'mosaicistlaw20.CatalogSaves': WHATEVER THE INPUT: true; the input reads as it did. -/
def catalogSavesSpec : ChangeSpec := { name := "catalogSaves", fn := fun _ => fun
  | [d1, d2] => { results := [.lit (.bool true)], args := [d1, d2] }
  | _ => none }
def catalogSavesRow : OpenClaim := { program := "ytcgkbcgpnlogoaagreatdoor", sum := "d88e1cd03511a3c6090653f249c818c07c0dca04b80ea3675f8d984d54b063c7", func := "mosaicist/mosaicistlaw20.CatalogSaves", spec := "catalogSaves", inPlace := ["internal/abi.NoEscape", "internal/bytealg.MakeNoZero", "slices.overlaps[mosaicist/api.Page]"], unfollowed := true, recurses := true, named := ["mosaicist/tally.halves"], apart := false, laid := [("mosaicist/tally.halves", laid_mosaicist_tally_halves)] }
def CatalogSavesSaid : Prop := catalogSavesRow.holds Tryz.pinned (OpenSpec.ofChange catalogSavesSpec)

/-- ITS FALSE NEIGHBOUR: 'it returns false'. Refute it at one input. -/
def catalogSavesWrong : ChangeSpec := { name := "catalogSaves", fn := fun _ => fun
  | [d1, d2] => { results := [.lit (.bool false)], args := [d1, d2] }
  | _ => none }
def CatalogSavesWrongFalsely : Prop := catalogSavesRow.holds Tryz.pinned (OpenSpec.ofChange catalogSavesWrong)

/-- 'mosaicistlaw20.CatalogBack': WHATEVER THE INPUT: true; the input reads as it did. -/
def catalogBackSpec : ChangeSpec := { name := "catalogBack", fn := fun _ => fun
  | [d1, d2, d3] => { results := [.lit (.bool true)], args := [d1, d2, d3] }
  | _ => none }
def catalogBackRow : OpenClaim := { program := "ytcgkbcgpnlogoaagreatdoor", sum := "d88e1cd03511a3c6090653f249c818c07c0dca04b80ea3675f8d984d54b063c7", func := "mosaicist/mosaicistlaw20.CatalogBack", spec := "catalogBack", inPlace := ["internal/abi.NoEscape", "internal/bytealg.MakeNoZero", "slices.overlaps[mosaicist/api.Page]"], unfollowed := true, recurses := true, named := ["mosaicist/tally.halves"], apart := false, laid := [("mosaicist/tally.halves", laid_mosaicist_tally_halves)] }
def CatalogBackSaid : Prop := catalogBackRow.holds Tryz.pinned (OpenSpec.ofChange catalogBackSpec)

/-- ITS FALSE NEIGHBOUR: 'it returns false'. Refute it at one input. -/
def catalogBackWrong : ChangeSpec := { name := "catalogBack", fn := fun _ => fun
  | [d1, d2, d3] => { results := [.lit (.bool false)], args := [d1, d2, d3] }
  | _ => none }
def CatalogBackWrongFalsely : Prop := catalogBackRow.holds Tryz.pinned (OpenSpec.ofChange catalogBackWrong)

/-- 'mosaicistlaw20.CatalogKeeps': WHATEVER THE INPUT: true; the input reads as it did. -/
def catalogKeepsSpec : ChangeSpec := { name := "catalogKeeps", fn := fun _ => fun
  | [d1, d2] => { results := [.lit (.bool true)], args := [d1, d2] }
  | _ => none }
def catalogKeepsRow : OpenClaim := { program := "ytcgkbcgpnlogoaagreatdoor", sum := "d88e1cd03511a3c6090653f249c818c07c0dca04b80ea3675f8d984d54b063c7", func := "mosaicist/mosaicistlaw20.CatalogKeeps", spec := "catalogKeeps", inPlace := ["internal/abi.NoEscape", "internal/bytealg.MakeNoZero", "slices.overlaps[mosaicist/api.Page]"], unfollowed := true, recurses := true, named := ["mosaicist/tally.halves"], apart := false, laid := [("mosaicist/tally.halves", laid_mosaicist_tally_halves)] }
def CatalogKeepsSaid : Prop := catalogKeepsRow.holds Tryz.pinned (OpenSpec.ofChange catalogKeepsSpec)

/-- ITS FALSE NEIGHBOUR: 'it returns false'. Refute it at one input. -/
def catalogKeepsWrong : ChangeSpec := { name := "catalogKeeps", fn := fun _ => fun
  | [d1, d2] => { results := [.lit (.bool false)], args := [d1, d2] }
  | _ => none }
def CatalogKeepsWrongFalsely : Prop := catalogKeepsRow.holds Tryz.pinned (OpenSpec.ofChange catalogKeepsWrong)

/-- 'mosaicistlaw20.CatalogApart': WHATEVER THE INPUT: true; the input reads as it did. -/
def catalogApartSpec : ChangeSpec := { name := "catalogApart", fn := fun _ => fun
  | [d1, d2, d3] => { results := [.lit (.bool true)], args := [d1, d2, d3] }
  | _ => none }
def catalogApartRow : OpenClaim := { program := "ytcgkbcgpnlogoaagreatdoor", sum := "d88e1cd03511a3c6090653f249c818c07c0dca04b80ea3675f8d984d54b063c7", func := "mosaicist/mosaicistlaw20.CatalogApart", spec := "catalogApart", inPlace := ["internal/abi.NoEscape", "internal/bytealg.MakeNoZero", "slices.overlaps[mosaicist/api.Page]"], unfollowed := true, recurses := true, named := ["mosaicist/tally.halves"], apart := false, laid := [("mosaicist/tally.halves", laid_mosaicist_tally_halves)] }
def CatalogApartSaid : Prop := catalogApartRow.holds Tryz.pinned (OpenSpec.ofChange catalogApartSpec)

/-- ITS FALSE NEIGHBOUR: 'it returns false'. Refute it at one input. -/
def catalogApartWrong : ChangeSpec := { name := "catalogApart", fn := fun _ => fun
  | [d1, d2, d3] => { results := [.lit (.bool false)], args := [d1, d2, d3] }
  | _ => none }
def CatalogApartWrongFalsely : Prop := catalogApartRow.holds Tryz.pinned (OpenSpec.ofChange catalogApartWrong)

/- THE SECOND FORM. 'bulk': how many values and letters a reading holds, each counted each time it is reached (what is shared counts as often as it is met; a slice's spare places count too). A statement '..UptoSaid' is the law's where the arguments, and the package variables that the reading takes, are together of bulk at most 1048576: NARROWER than '..Said'. Prove '..Said' where nothing that the law and all that it calls make is longer than what came in: it says more and counts as full. Else prove '..UptoSaid'. A law counts once. -/
mutual
def uptoBulk {H : Type} : DataW H → Nat
  | .lit (.string bytes) => bytes.length + 1
  | .lit _ => 1
  | .nil => 1
  | .ptr d => uptoBulk d + 1
  | .slice elems spare => uptoBulkAll elems + uptoBulkAll spare + 1
  | .agg parts => uptoBulkAll parts + 1
  | .iface _ d => uptoBulk d + 1
  | .map entries => uptoBulkEntries entries + 1
  | .held _ => 1
def uptoBulkAll {H : Type} : List (DataW H) → Nat
  | [] => 0
  | d :: r => uptoBulk d + uptoBulkAll r
def uptoBulkEntries {H : Type} : List (Lit × DataW H) → Nat
  | [] => 0
  | x :: r => uptoBulkEntry x + uptoBulkEntries r
def uptoBulkEntry {H : Type} : Lit × DataW H → Nat
  | (.string bytes, d) => bytes.length + uptoBulk d + 1
  | (_, d) => uptoBulk d + 1
 end
def uptoSmall : (H : Type) → List (DataW H) → Bool := fun _ ds => decide (uptoBulkAll ds ≤ 1048576)
def OpenSpec.upto (s : _root_.Go.ChangeSpec) : _root_.Go.OpenSpec := { _root_.Go.OpenSpec.ofChange s with cond := some uptoSmall }

/-- 'mosaicistlaw18.StorePlays', WHERE WHAT IT READS IS OF BULK AT MOST 1048576: true; the input reads as it did. -/
def storePlaysUptoRow : OpenClaim := { program := "ytcgkbcgpnlogoaagreatdoor", sum := "d88e1cd03511a3c6090653f249c818c07c0dca04b80ea3675f8d984d54b063c7", func := "mosaicist/mosaicistlaw18.StorePlays", spec := "storePlays", inPlace := ["internal/abi.NoEscape", "internal/bytealg.MakeNoZero", "slices.overlaps[mosaicist/api.Page]", "slices.overlaps[mosaicist/api.Image]"], unfollowed := true, recurses := true, named := ["mosaicist/tally.halves"], apart := false, laid := [("mosaicist/tally.halves", laid_mosaicist_tally_halves)], narrowed := true }
def StorePlaysUptoSaid : Prop := storePlaysUptoRow.holds Tryz.pinned (OpenSpec.upto storePlaysSpec)

/-- 'mosaicistlaw18.StoreKeeps', WHERE WHAT IT READS IS OF BULK AT MOST 1048576: true; the input reads as it did. -/
def storeKeepsUptoRow : OpenClaim := { program := "ytcgkbcgpnlogoaagreatdoor", sum := "d88e1cd03511a3c6090653f249c818c07c0dca04b80ea3675f8d984d54b063c7", func := "mosaicist/mosaicistlaw18.StoreKeeps", spec := "storeKeeps", inPlace := ["internal/abi.NoEscape", "internal/bytealg.MakeNoZero", "slices.overlaps[mosaicist/api.Page]", "slices.overlaps[mosaicist/api.Image]"], unfollowed := true, recurses := true, named := ["mosaicist/tally.halves"], apart := false, laid := [("mosaicist/tally.halves", laid_mosaicist_tally_halves)], narrowed := true }
def StoreKeepsUptoSaid : Prop := storeKeepsUptoRow.holds Tryz.pinned (OpenSpec.upto storeKeepsSpec)

/-- 'mosaicistlaw18.StoreAgain', WHERE WHAT IT READS IS OF BULK AT MOST 1048576: true; the input reads as it did. -/
def storeAgainUptoRow : OpenClaim := { program := "ytcgkbcgpnlogoaagreatdoor", sum := "d88e1cd03511a3c6090653f249c818c07c0dca04b80ea3675f8d984d54b063c7", func := "mosaicist/mosaicistlaw18.StoreAgain", spec := "storeAgain", inPlace := ["internal/abi.NoEscape", "internal/bytealg.MakeNoZero", "slices.overlaps[mosaicist/api.Page]", "slices.overlaps[mosaicist/api.Image]"], unfollowed := true, recurses := true, named := ["mosaicist/tally.halves"], apart := false, laid := [("mosaicist/tally.halves", laid_mosaicist_tally_halves)], narrowed := true }
def StoreAgainUptoSaid : Prop := storeAgainUptoRow.holds Tryz.pinned (OpenSpec.upto storeAgainSpec)

/-- 'mosaicistlaw19.BlobPlays', WHERE WHAT IT READS IS OF BULK AT MOST 1048576: true; the input reads as it did. -/
def blobPlaysUptoRow : OpenClaim := { program := "ytcgkbcgpnlogoaagreatdoor", sum := "d88e1cd03511a3c6090653f249c818c07c0dca04b80ea3675f8d984d54b063c7", func := "mosaicist/mosaicistlaw19.BlobPlays", spec := "blobPlays", inPlace := ["internal/abi.NoEscape", "internal/bytealg.MakeNoZero", "slices.overlaps[mosaicist/api.Page]"], unfollowed := true, recurses := true, named := ["mosaicist/tally.halves"], apart := false, laid := [("mosaicist/tally.halves", laid_mosaicist_tally_halves)], narrowed := true }
def BlobPlaysUptoSaid : Prop := blobPlaysUptoRow.holds Tryz.pinned (OpenSpec.upto blobPlaysSpec)

/-- 'mosaicistlaw19.BlobKeeps', WHERE WHAT IT READS IS OF BULK AT MOST 1048576: true; the input reads as it did. -/
def blobKeepsUptoRow : OpenClaim := { program := "ytcgkbcgpnlogoaagreatdoor", sum := "d88e1cd03511a3c6090653f249c818c07c0dca04b80ea3675f8d984d54b063c7", func := "mosaicist/mosaicistlaw19.BlobKeeps", spec := "blobKeeps", inPlace := ["internal/abi.NoEscape", "internal/bytealg.MakeNoZero", "slices.overlaps[mosaicist/api.Page]"], unfollowed := true, recurses := true, named := ["mosaicist/tally.halves"], apart := false, laid := [("mosaicist/tally.halves", laid_mosaicist_tally_halves)], narrowed := true }
def BlobKeepsUptoSaid : Prop := blobKeepsUptoRow.holds Tryz.pinned (OpenSpec.upto blobKeepsSpec)

/-- 'mosaicistlaw19.BlobFits', WHERE WHAT IT READS IS OF BULK AT MOST 1048576: true; the input reads as it did. -/
def blobFitsUptoRow : OpenClaim := { program := "ytcgkbcgpnlogoaagreatdoor", sum := "d88e1cd03511a3c6090653f249c818c07c0dca04b80ea3675f8d984d54b063c7", func := "mosaicist/mosaicistlaw19.BlobFits", spec := "blobFits", inPlace := ["internal/abi.NoEscape", "internal/bytealg.MakeNoZero", "slices.overlaps[mosaicist/api.Page]"], unfollowed := true, recurses := true, named := ["mosaicist/tally.halves"], apart := false, laid := [("mosaicist/tally.halves", laid_mosaicist_tally_halves)], narrowed := true }
def BlobFitsUptoSaid : Prop := blobFitsUptoRow.holds Tryz.pinned (OpenSpec.upto blobFitsSpec)

/-- 'mosaicistlaw19.BlobChains', WHERE WHAT IT READS IS OF BULK AT MOST 1048576: true; the input reads as it did. -/
def blobChainsUptoRow : OpenClaim := { program := "ytcgkbcgpnlogoaagreatdoor", sum := "d88e1cd03511a3c6090653f249c818c07c0dca04b80ea3675f8d984d54b063c7", func := "mosaicist/mosaicistlaw19.BlobChains", spec := "blobChains", inPlace := ["internal/abi.NoEscape", "internal/bytealg.MakeNoZero", "slices.overlaps[mosaicist/api.Page]"], unfollowed := true, recurses := true, named := ["mosaicist/tally.halves"], apart := false, laid := [("mosaicist/tally.halves", laid_mosaicist_tally_halves)], narrowed := true }
def BlobChainsUptoSaid : Prop := blobChainsUptoRow.holds Tryz.pinned (OpenSpec.upto blobChainsSpec)

/-- 'mosaicistlaw20.CatalogTells', WHERE WHAT IT READS IS OF BULK AT MOST 1048576: true; the input reads as it did. -/
def catalogTellsUptoRow : OpenClaim := { program := "ytcgkbcgpnlogoaagreatdoor", sum := "d88e1cd03511a3c6090653f249c818c07c0dca04b80ea3675f8d984d54b063c7", func := "mosaicist/mosaicistlaw20.CatalogTells", spec := "catalogTells", inPlace := ["internal/abi.NoEscape", "internal/bytealg.MakeNoZero", "slices.overlaps[mosaicist/api.Page]"], unfollowed := true, recurses := true, named := ["mosaicist/tally.halves"], apart := false, laid := [("mosaicist/tally.halves", laid_mosaicist_tally_halves)], narrowed := true }
def CatalogTellsUptoSaid : Prop := catalogTellsUptoRow.holds Tryz.pinned (OpenSpec.upto catalogTellsSpec)

/-- 'mosaicistlaw20.CatalogSaves', WHERE WHAT IT READS IS OF BULK AT MOST 1048576: true; the input reads as it did. -/
def catalogSavesUptoRow : OpenClaim := { program := "ytcgkbcgpnlogoaagreatdoor", sum := "d88e1cd03511a3c6090653f249c818c07c0dca04b80ea3675f8d984d54b063c7", func := "mosaicist/mosaicistlaw20.CatalogSaves", spec := "catalogSaves", inPlace := ["internal/abi.NoEscape", "internal/bytealg.MakeNoZero", "slices.overlaps[mosaicist/api.Page]"], unfollowed := true, recurses := true, named := ["mosaicist/tally.halves"], apart := false, laid := [("mosaicist/tally.halves", laid_mosaicist_tally_halves)], narrowed := true }
def CatalogSavesUptoSaid : Prop := catalogSavesUptoRow.holds Tryz.pinned (OpenSpec.upto catalogSavesSpec)

/-- 'mosaicistlaw20.CatalogBack', WHERE WHAT IT READS IS OF BULK AT MOST 1048576: true; the input reads as it did. -/
def catalogBackUptoRow : OpenClaim := { program := "ytcgkbcgpnlogoaagreatdoor", sum := "d88e1cd03511a3c6090653f249c818c07c0dca04b80ea3675f8d984d54b063c7", func := "mosaicist/mosaicistlaw20.CatalogBack", spec := "catalogBack", inPlace := ["internal/abi.NoEscape", "internal/bytealg.MakeNoZero", "slices.overlaps[mosaicist/api.Page]"], unfollowed := true, recurses := true, named := ["mosaicist/tally.halves"], apart := false, laid := [("mosaicist/tally.halves", laid_mosaicist_tally_halves)], narrowed := true }
def CatalogBackUptoSaid : Prop := catalogBackUptoRow.holds Tryz.pinned (OpenSpec.upto catalogBackSpec)

/-- 'mosaicistlaw20.CatalogKeeps', WHERE WHAT IT READS IS OF BULK AT MOST 1048576: true; the input reads as it did. -/
def catalogKeepsUptoRow : OpenClaim := { program := "ytcgkbcgpnlogoaagreatdoor", sum := "d88e1cd03511a3c6090653f249c818c07c0dca04b80ea3675f8d984d54b063c7", func := "mosaicist/mosaicistlaw20.CatalogKeeps", spec := "catalogKeeps", inPlace := ["internal/abi.NoEscape", "internal/bytealg.MakeNoZero", "slices.overlaps[mosaicist/api.Page]"], unfollowed := true, recurses := true, named := ["mosaicist/tally.halves"], apart := false, laid := [("mosaicist/tally.halves", laid_mosaicist_tally_halves)], narrowed := true }
def CatalogKeepsUptoSaid : Prop := catalogKeepsUptoRow.holds Tryz.pinned (OpenSpec.upto catalogKeepsSpec)

/-- 'mosaicistlaw20.CatalogApart', WHERE WHAT IT READS IS OF BULK AT MOST 1048576: true; the input reads as it did. -/
def catalogApartUptoRow : OpenClaim := { program := "ytcgkbcgpnlogoaagreatdoor", sum := "d88e1cd03511a3c6090653f249c818c07c0dca04b80ea3675f8d984d54b063c7", func := "mosaicist/mosaicistlaw20.CatalogApart", spec := "catalogApart", inPlace := ["internal/abi.NoEscape", "internal/bytealg.MakeNoZero", "slices.overlaps[mosaicist/api.Page]"], unfollowed := true, recurses := true, named := ["mosaicist/tally.halves"], apart := false, laid := [("mosaicist/tally.halves", laid_mosaicist_tally_halves)], narrowed := true }
def CatalogApartUptoSaid : Prop := catalogApartUptoRow.holds Tryz.pinned (OpenSpec.upto catalogApartSpec)

end Rows
end Go.Proofs.YtcgkbcgpnlogoaaGreatDoor
