/-
  DERIVED. GIVEN WITH THE SEED: THE CARDS: each row of YtdbemkdfndjakaaDoorRows.lean that lists a variable, with what it lists TIED to the program's text (the seventh form; the later family's looks); each row that meets fmt, with fmt's text TOLD by the authors' own Lean function (tested against real Go, not proved from fmt's source: count such statements apart). THE CARD IS WHAT COUNTS. Prove the row's statement (the work); the ties are given (YtdbemkdfndjakaaDoorTie.lean); close each card by the builder's one call (the guide's Derived/Test/ToyasCard.lean, 'card_holds'). Laid BY PROGRAM, IN A SANDBOX (cutbox-door.mjs). By AI agents, Wed Nov 11 2026. No macro, syntax, notation, axiom, sorry.
-/
import Derived.Test.YtdbemkdfndjakaaDoorRows
import GoSem.ClaimSeven
namespace Go.Proofs.YtdbemkdfndjakaaDoor
namespace Rows

/-- THE TIED CARD OF 'mosaicistlaw17.HeadTells'. -/
def headTellsCard : Claim7 := { stood := { row := headTellsRow, standIns := [], harness := (true, "efafccdfdcc146234595ea9656d2dc8ce555e85e6f7bfc7fa7ee4b0dc9e2bd9f"), looks := false }, kinds := [], alts := [], laidByText := true, laidKinds := [.data], laidTests := true, laidLooks := .later }
def HeadTellsCardSaid : Prop := Claim7.holds Tryd.pinned (.plain (OpenSpec.ofChange headTellsSpec)) headTellsCard

/-- THE TIED CARD OF 'mosaicistlaw17.HeadNewest'. -/
def headNewestCard : Claim7 := { stood := { row := headNewestRow, standIns := [], harness := (true, "efafccdfdcc146234595ea9656d2dc8ce555e85e6f7bfc7fa7ee4b0dc9e2bd9f"), looks := false }, kinds := [], alts := [], laidByText := true, laidKinds := [.data], laidTests := true, laidLooks := .later }
def HeadNewestCardSaid : Prop := Claim7.holds Tryd.pinned (.plain (OpenSpec.ofChange headNewestSpec)) headNewestCard

/-- THE TIED CARD OF 'mosaicistlaw17.HeadTorn'. -/
def headTornCard : Claim7 := { stood := { row := headTornRow, standIns := [], harness := (true, "efafccdfdcc146234595ea9656d2dc8ce555e85e6f7bfc7fa7ee4b0dc9e2bd9f"), looks := false }, kinds := [], alts := [], laidByText := true, laidKinds := [.data], laidTests := true, laidLooks := .later }
def HeadTornCardSaid : Prop := Claim7.holds Tryd.pinned (.plain (OpenSpec.ofChange headTornSpec)) headTornCard

/-- THE TIED CARD OF 'mosaicistlaw17.HeadPlaces'. -/
def headPlacesCard : Claim7 := { stood := { row := headPlacesRow, standIns := [], harness := (true, "efafccdfdcc146234595ea9656d2dc8ce555e85e6f7bfc7fa7ee4b0dc9e2bd9f"), looks := false }, kinds := [], alts := [], laidByText := true, laidKinds := [.data], laidTests := true, laidLooks := .later }
def HeadPlacesCardSaid : Prop := Claim7.holds Tryd.pinned (.plain (OpenSpec.ofChange headPlacesSpec)) headPlacesCard

/-- THE SECOND FORM's CARD OF 'mosaicistlaw17.HeadTells'. -/
def headTellsUptoCard : Claim7 := { stood := { row := headTellsUptoRow, standIns := [], harness := (true, "efafccdfdcc146234595ea9656d2dc8ce555e85e6f7bfc7fa7ee4b0dc9e2bd9f"), looks := false }, kinds := [], alts := [], laidByText := true, laidKinds := [.data], laidTests := true, laidLooks := .later }
def HeadTellsUptoCardSaid : Prop := Claim7.holds Tryd.pinned (.plain (OpenSpec.upto headTellsSpec)) headTellsUptoCard

/-- THE SECOND FORM's CARD OF 'mosaicistlaw17.HeadNewest'. -/
def headNewestUptoCard : Claim7 := { stood := { row := headNewestUptoRow, standIns := [], harness := (true, "efafccdfdcc146234595ea9656d2dc8ce555e85e6f7bfc7fa7ee4b0dc9e2bd9f"), looks := false }, kinds := [], alts := [], laidByText := true, laidKinds := [.data], laidTests := true, laidLooks := .later }
def HeadNewestUptoCardSaid : Prop := Claim7.holds Tryd.pinned (.plain (OpenSpec.upto headNewestSpec)) headNewestUptoCard

/-- THE SECOND FORM's CARD OF 'mosaicistlaw17.HeadTorn'. -/
def headTornUptoCard : Claim7 := { stood := { row := headTornUptoRow, standIns := [], harness := (true, "efafccdfdcc146234595ea9656d2dc8ce555e85e6f7bfc7fa7ee4b0dc9e2bd9f"), looks := false }, kinds := [], alts := [], laidByText := true, laidKinds := [.data], laidTests := true, laidLooks := .later }
def HeadTornUptoCardSaid : Prop := Claim7.holds Tryd.pinned (.plain (OpenSpec.upto headTornSpec)) headTornUptoCard

/-- THE SECOND FORM's CARD OF 'mosaicistlaw17.HeadPlaces'. -/
def headPlacesUptoCard : Claim7 := { stood := { row := headPlacesUptoRow, standIns := [], harness := (true, "efafccdfdcc146234595ea9656d2dc8ce555e85e6f7bfc7fa7ee4b0dc9e2bd9f"), looks := false }, kinds := [], alts := [], laidByText := true, laidKinds := [.data], laidTests := true, laidLooks := .later }
def HeadPlacesUptoCardSaid : Prop := Claim7.holds Tryd.pinned (.plain (OpenSpec.upto headPlacesSpec)) headPlacesUptoCard
end Rows
end Go.Proofs.YtdbemkdfndjakaaDoor
