/-
  DERIVED. GIVEN WITH THE SEED: THE CARDS: each row of YtpnnkhpokangfaaDoorRows.lean that lists a variable, with what it lists TIED to the program's text (the seventh form; the later family's looks); each row that meets fmt, with fmt's text TOLD by the authors' own Lean function (tested against real Go, not proved from fmt's source: count such statements apart). THE CARD IS WHAT COUNTS. Prove the row's statement (the work); the ties are given (YtpnnkhpokangfaaDoorTie.lean); close each card by the builder's one call (the guide's Derived/Test/ToyasCard.lean, 'card_holds'). Laid BY PROGRAM, IN A SANDBOX (cutbox-door.mjs). By AI agents, Wed Nov 11 2026. No macro, syntax, notation, axiom, sorry.
-/
import Derived.Test.YtpnnkhpokangfaaDoorRows
import GoSem.ClaimSeven
namespace Go.Proofs.YtpnnkhpokangfaaDoor
namespace Rows

/-- THE TIED CARD OF 'mosaicistlaw10.TilePlays'. -/
def tilePlaysCard : Claim7 := { stood := { row := tilePlaysRow, standIns := [], harness := (true, "40c24adabfd7f02b7876abfd132be42c9238516218c0bcf5f6e3ec809f5ed5b6"), looks := false }, kinds := [], alts := [], laidByText := true, laidKinds := [.data, .data], laidTests := true, laidLooks := .later }
def TilePlaysCardSaid : Prop := Claim7.holds Tryd.pinned (.plain (OpenSpec.ofChange tilePlaysSpec)) tilePlaysCard

/-- THE TIED CARD OF 'mosaicistlaw10.TileModel'. -/
def tileModelCard : Claim7 := { stood := { row := tileModelRow, standIns := [], harness := (true, "40c24adabfd7f02b7876abfd132be42c9238516218c0bcf5f6e3ec809f5ed5b6"), looks := false }, kinds := [], alts := [], laidByText := true, laidKinds := [.data, .data], laidTests := true, laidLooks := .later }
def TileModelCardSaid : Prop := Claim7.holds Tryd.pinned (.plain (OpenSpec.ofChange tileModelSpec)) tileModelCard

/-- THE TIED CARD OF 'mosaicistlaw10.TileLays'. -/
def tileLaysCard : Claim7 := { stood := { row := tileLaysRow, standIns := [], harness := (true, "40c24adabfd7f02b7876abfd132be42c9238516218c0bcf5f6e3ec809f5ed5b6"), looks := false }, kinds := [], alts := [], laidByText := true, laidKinds := [.data, .data], laidTests := true, laidLooks := .later }
def TileLaysCardSaid : Prop := Claim7.holds Tryd.pinned (.plain (OpenSpec.ofChange tileLaysSpec)) tileLaysCard

/-- THE TIED CARD OF 'mosaicistlaw10.TileFills'. -/
def tileFillsCard : Claim7 := { stood := { row := tileFillsRow, standIns := [], harness := (true, "40c24adabfd7f02b7876abfd132be42c9238516218c0bcf5f6e3ec809f5ed5b6"), looks := false }, kinds := [], alts := [], laidByText := true, laidKinds := [.data, .data], laidTests := true, laidLooks := .later }
def TileFillsCardSaid : Prop := Claim7.holds Tryd.pinned (.plain (OpenSpec.ofChange tileFillsSpec)) tileFillsCard

/-- THE SECOND FORM's CARD OF 'mosaicistlaw10.TilePlays'. -/
def tilePlaysUptoCard : Claim7 := { stood := { row := tilePlaysUptoRow, standIns := [], harness := (true, "40c24adabfd7f02b7876abfd132be42c9238516218c0bcf5f6e3ec809f5ed5b6"), looks := false }, kinds := [], alts := [], laidByText := true, laidKinds := [.data, .data], laidTests := true, laidLooks := .later }
def TilePlaysUptoCardSaid : Prop := Claim7.holds Tryd.pinned (.plain (OpenSpec.upto tilePlaysSpec)) tilePlaysUptoCard

/-- THE SECOND FORM's CARD OF 'mosaicistlaw10.TileModel'. -/
def tileModelUptoCard : Claim7 := { stood := { row := tileModelUptoRow, standIns := [], harness := (true, "40c24adabfd7f02b7876abfd132be42c9238516218c0bcf5f6e3ec809f5ed5b6"), looks := false }, kinds := [], alts := [], laidByText := true, laidKinds := [.data, .data], laidTests := true, laidLooks := .later }
def TileModelUptoCardSaid : Prop := Claim7.holds Tryd.pinned (.plain (OpenSpec.upto tileModelSpec)) tileModelUptoCard

/-- THE SECOND FORM's CARD OF 'mosaicistlaw10.TileLays'. -/
def tileLaysUptoCard : Claim7 := { stood := { row := tileLaysUptoRow, standIns := [], harness := (true, "40c24adabfd7f02b7876abfd132be42c9238516218c0bcf5f6e3ec809f5ed5b6"), looks := false }, kinds := [], alts := [], laidByText := true, laidKinds := [.data, .data], laidTests := true, laidLooks := .later }
def TileLaysUptoCardSaid : Prop := Claim7.holds Tryd.pinned (.plain (OpenSpec.upto tileLaysSpec)) tileLaysUptoCard

/-- THE SECOND FORM's CARD OF 'mosaicistlaw10.TileFills'. -/
def tileFillsUptoCard : Claim7 := { stood := { row := tileFillsUptoRow, standIns := [], harness := (true, "40c24adabfd7f02b7876abfd132be42c9238516218c0bcf5f6e3ec809f5ed5b6"), looks := false }, kinds := [], alts := [], laidByText := true, laidKinds := [.data, .data], laidTests := true, laidLooks := .later }
def TileFillsUptoCardSaid : Prop := Claim7.holds Tryd.pinned (.plain (OpenSpec.upto tileFillsSpec)) tileFillsUptoCard
end Rows
end Go.Proofs.YtpnnkhpokangfaaDoor
