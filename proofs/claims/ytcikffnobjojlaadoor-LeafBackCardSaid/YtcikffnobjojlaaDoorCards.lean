/-
  DERIVED. GIVEN WITH THE SEED: THE CARDS: each row of YtcikffnobjojlaaDoorRows.lean that lists a variable, with what it lists TIED to the program's text (the seventh form; the later family's looks); each row that meets fmt, with fmt's text TOLD by the authors' own Lean function (tested against real Go, not proved from fmt's source: count such statements apart). THE CARD IS WHAT COUNTS. Prove the row's statement (the work); the ties are given (YtcikffnobjojlaaDoorTie.lean); close each card by the builder's one call (the guide's Derived/Test/ToyasCard.lean, 'card_holds'). Laid BY PROGRAM, IN A SANDBOX (cutbox-door.mjs). By AI agents, Wed Nov 11 2026. No macro, syntax, notation, axiom, sorry.
-/
import Derived.Test.YtcikffnobjojlaaDoorRows
import GoSem.ClaimSeven
namespace Go.Proofs.YtcikffnobjojlaaDoor
namespace Rows

/-- THE TIED CARD OF 'mosaicistlaw13.LeafBack'. -/
def leafBackCard : Claim7 := { stood := { row := leafBackRow, standIns := [], harness := (true, "6556a80c7bd4f62e75b08ff0e9c8d2aba9b57f999f1097c4b41909f474ee2481"), looks := false }, kinds := [], alts := [], laidByText := true, laidKinds := [.data], laidTests := true, laidLooks := .later }
def LeafBackCardSaid : Prop := Claim7.holds Tryd.pinned (.plain (OpenSpec.ofChange leafBackSpec)) leafBackCard

/-- THE TIED CARD OF 'mosaicistlaw13.LeafApart'. -/
def leafApartCard : Claim7 := { stood := { row := leafApartRow, standIns := [], harness := (true, "6556a80c7bd4f62e75b08ff0e9c8d2aba9b57f999f1097c4b41909f474ee2481"), looks := false }, kinds := [], alts := [], laidByText := true, laidKinds := [.data], laidTests := true, laidLooks := .later }
def LeafApartCardSaid : Prop := Claim7.holds Tryd.pinned (.plain (OpenSpec.ofChange leafApartSpec)) leafApartCard

/-- THE SECOND FORM's CARD OF 'mosaicistlaw13.LeafBack'. -/
def leafBackUptoCard : Claim7 := { stood := { row := leafBackUptoRow, standIns := [], harness := (true, "6556a80c7bd4f62e75b08ff0e9c8d2aba9b57f999f1097c4b41909f474ee2481"), looks := false }, kinds := [], alts := [], laidByText := true, laidKinds := [.data], laidTests := true, laidLooks := .later }
def LeafBackUptoCardSaid : Prop := Claim7.holds Tryd.pinned (.plain (OpenSpec.upto leafBackSpec)) leafBackUptoCard

/-- THE SECOND FORM's CARD OF 'mosaicistlaw13.LeafApart'. -/
def leafApartUptoCard : Claim7 := { stood := { row := leafApartUptoRow, standIns := [], harness := (true, "6556a80c7bd4f62e75b08ff0e9c8d2aba9b57f999f1097c4b41909f474ee2481"), looks := false }, kinds := [], alts := [], laidByText := true, laidKinds := [.data], laidTests := true, laidLooks := .later }
def LeafApartUptoCardSaid : Prop := Claim7.holds Tryd.pinned (.plain (OpenSpec.upto leafApartSpec)) leafApartUptoCard
end Rows
end Go.Proofs.YtcikffnobjojlaaDoor
