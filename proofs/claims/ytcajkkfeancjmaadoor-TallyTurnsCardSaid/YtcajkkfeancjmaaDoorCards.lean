/-
  DERIVED. GIVEN WITH THE SEED: THE CARDS: each row of YtcajkkfeancjmaaDoorRows.lean that lists a variable, with what it lists TIED to the program's text (the seventh form; the later family's looks); each row that meets fmt, with fmt's text TOLD by the authors' own Lean function (tested against real Go, not proved from fmt's source: count such statements apart). THE CARD IS WHAT COUNTS. Prove the row's statement (the work); the ties are given (YtcajkkfeancjmaaDoorTie.lean); close each card by the builder's one call (the guide's Derived/Test/ToyasCard.lean, 'card_holds'). Laid BY PROGRAM, IN A SANDBOX (cutbox-door.mjs). By AI agents, Wed Nov 11 2026. No macro, syntax, notation, axiom, sorry.
-/
import Derived.Test.YtcajkkfeancjmaaDoorRows
import GoSem.ClaimSeven
namespace Go.Proofs.YtcajkkfeancjmaaDoor
namespace Rows

/-- THE TIED CARD OF 'mosaicistlaw02.TallyTurns'. -/
def tallyTurnsCard : Claim7 := { stood := { row := tallyTurnsRow, standIns := [], harness := (true, "d6dcad2c9709feaa7d5a2df46072e1224118de4b1e32a0e79efe1a4f1d56b510"), looks := false }, kinds := [], alts := [], laidByText := true, laidKinds := [.data], laidTests := true, laidLooks := .later }
def TallyTurnsCardSaid : Prop := Claim7.holds Tryd.pinned (.plain (OpenSpec.ofChange tallyTurnsSpec)) tallyTurnsCard

/-- THE TIED CARD OF 'mosaicistlaw02.TallyFills'. -/
def tallyFillsCard : Claim7 := { stood := { row := tallyFillsRow, standIns := [], harness := (true, "d6dcad2c9709feaa7d5a2df46072e1224118de4b1e32a0e79efe1a4f1d56b510"), looks := false }, kinds := [], alts := [], laidByText := true, laidKinds := [.data], laidTests := true, laidLooks := .later }
def TallyFillsCardSaid : Prop := Claim7.holds Tryd.pinned (.plain (OpenSpec.ofChange tallyFillsSpec)) tallyFillsCard

/-- THE SECOND FORM's CARD OF 'mosaicistlaw02.TallyTurns'. -/
def tallyTurnsUptoCard : Claim7 := { stood := { row := tallyTurnsUptoRow, standIns := [], harness := (true, "d6dcad2c9709feaa7d5a2df46072e1224118de4b1e32a0e79efe1a4f1d56b510"), looks := false }, kinds := [], alts := [], laidByText := true, laidKinds := [.data], laidTests := true, laidLooks := .later }
def TallyTurnsUptoCardSaid : Prop := Claim7.holds Tryd.pinned (.plain (OpenSpec.upto tallyTurnsSpec)) tallyTurnsUptoCard

/-- THE SECOND FORM's CARD OF 'mosaicistlaw02.TallyFills'. -/
def tallyFillsUptoCard : Claim7 := { stood := { row := tallyFillsUptoRow, standIns := [], harness := (true, "d6dcad2c9709feaa7d5a2df46072e1224118de4b1e32a0e79efe1a4f1d56b510"), looks := false }, kinds := [], alts := [], laidByText := true, laidKinds := [.data], laidTests := true, laidLooks := .later }
def TallyFillsUptoCardSaid : Prop := Claim7.holds Tryd.pinned (.plain (OpenSpec.upto tallyFillsSpec)) tallyFillsUptoCard
end Rows
end Go.Proofs.YtcajkkfeancjmaaDoor
