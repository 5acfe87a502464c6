/-
  DERIVED. GIVEN WITH THE SEED: THE CARDS: each row of YtcgkbcgpnlogoaaGreatDoorRows.lean that lists a variable, with what it lists TIED to the program's text (the seventh form; the later family's looks); each row that meets fmt, with fmt's text TOLD by the authors' own Lean function (tested against real Go, not proved from fmt's source: count such statements apart). THE CARD IS WHAT COUNTS. Prove the row's statement (the work); the ties are given (YtcgkbcgpnlogoaaGreatDoorTie.lean); close each card by the builder's one call (the guide's Derived/Test/ToyasCard.lean, 'card_holds'). Laid BY PROGRAM, IN A SANDBOX (cutbox-door.mjs). By AI agents, Wed Nov 11 2026. No macro, syntax, notation, axiom, sorry.
-/
import Derived.Test.YtcgkbcgpnlogoaaGreatDoorRows
import GoSem.ClaimSeven
namespace Go.Proofs.YtcgkbcgpnlogoaaGreatDoor
namespace Rows

/-- THE TIED CARD OF 'mosaicistlaw18.StorePlays'. -/
def storePlaysCard : Claim7 := { stood := { row := storePlaysRow, standIns := [], harness := (true, "7cff7e5e34a5094ed9641bc6244b0d49c660463fbc51d19e3ca042c92efaf512"), looks := false }, kinds := [], alts := [], laidByText := true, laidKinds := [.data], laidTests := true, laidLooks := .later }
def StorePlaysCardSaid : Prop := Claim7.holds Tryz.pinned (.plain (OpenSpec.ofChange storePlaysSpec)) storePlaysCard

/-- THE TIED CARD OF 'mosaicistlaw18.StoreKeeps'. -/
def storeKeepsCard : Claim7 := { stood := { row := storeKeepsRow, standIns := [], harness := (true, "7cff7e5e34a5094ed9641bc6244b0d49c660463fbc51d19e3ca042c92efaf512"), looks := false }, kinds := [], alts := [], laidByText := true, laidKinds := [.data], laidTests := true, laidLooks := .later }
def StoreKeepsCardSaid : Prop := Claim7.holds Tryz.pinned (.plain (OpenSpec.ofChange storeKeepsSpec)) storeKeepsCard

/-- THE TIED CARD OF 'mosaicistlaw18.StoreAgain'. -/
def storeAgainCard : Claim7 := { stood := { row := storeAgainRow, standIns := [], harness := (true, "7cff7e5e34a5094ed9641bc6244b0d49c660463fbc51d19e3ca042c92efaf512"), looks := false }, kinds := [], alts := [], laidByText := true, laidKinds := [.data], laidTests := true, laidLooks := .later }
def StoreAgainCardSaid : Prop := Claim7.holds Tryz.pinned (.plain (OpenSpec.ofChange storeAgainSpec)) storeAgainCard

/-- THE TIED CARD OF 'mosaicistlaw19.BlobPlays'. -/
def blobPlaysCard : Claim7 := { stood := { row := blobPlaysRow, standIns := [], harness := (true, "7cff7e5e34a5094ed9641bc6244b0d49c660463fbc51d19e3ca042c92efaf512"), looks := false }, kinds := [], alts := [], laidByText := true, laidKinds := [.data], laidTests := true, laidLooks := .later }
def BlobPlaysCardSaid : Prop := Claim7.holds Tryz.pinned (.plain (OpenSpec.ofChange blobPlaysSpec)) blobPlaysCard

/-- THE TIED CARD OF 'mosaicistlaw19.BlobKeeps'. -/
def blobKeepsCard : Claim7 := { stood := { row := blobKeepsRow, standIns := [], harness := (true, "7cff7e5e34a5094ed9641bc6244b0d49c660463fbc51d19e3ca042c92efaf512"), looks := false }, kinds := [], alts := [], laidByText := true, laidKinds := [.data], laidTests := true, laidLooks := .later }
def BlobKeepsCardSaid : Prop := Claim7.holds Tryz.pinned (.plain (OpenSpec.ofChange blobKeepsSpec)) blobKeepsCard

/-- THE TIED CARD OF 'mosaicistlaw19.BlobFits'. -/
def blobFitsCard : Claim7 := { stood := { row := blobFitsRow, standIns := [], harness := (true, "7cff7e5e34a5094ed9641bc6244b0d49c660463fbc51d19e3ca042c92efaf512"), looks := false }, kinds := [], alts := [], laidByText := true, laidKinds := [.data], laidTests := true, laidLooks := .later }
def BlobFitsCardSaid : Prop := Claim7.holds Tryz.pinned (.plain (OpenSpec.ofChange blobFitsSpec)) blobFitsCard

/-- THE TIED CARD OF 'mosaicistlaw19.BlobChains'. -/
def blobChainsCard : Claim7 := { stood := { row := blobChainsRow, standIns := [], harness := (true, "7cff7e5e34a5094ed9641bc6244b0d49c660463fbc51d19e3ca042c92efaf512"), looks := false }, kinds := [], alts := [], laidByText := true, laidKinds := [.data], laidTests := true, laidLooks := .later }
def BlobChainsCardSaid : Prop := Claim7.holds Tryz.pinned (.plain (OpenSpec.ofChange blobChainsSpec)) blobChainsCard

/-- THE TIED CARD OF 'mosaicistlaw20.CatalogTells'. -/
def catalogTellsCard : Claim7 := { stood := { row := catalogTellsRow, standIns := [], harness := (true, "7cff7e5e34a5094ed9641bc6244b0d49c660463fbc51d19e3ca042c92efaf512"), looks := false }, kinds := [], alts := [], laidByText := true, laidKinds := [.data], laidTests := true, laidLooks := .later }
def CatalogTellsCardSaid : Prop := Claim7.holds Tryz.pinned (.plain (OpenSpec.ofChange catalogTellsSpec)) catalogTellsCard

/-- THE TIED CARD OF 'mosaicistlaw20.CatalogSaves'. -/
def catalogSavesCard : Claim7 := { stood := { row := catalogSavesRow, standIns := [], harness := (true, "7cff7e5e34a5094ed9641bc6244b0d49c660463fbc51d19e3ca042c92efaf512"), looks := false }, kinds := [], alts := [], laidByText := true, laidKinds := [.data], laidTests := true, laidLooks := .later }
def CatalogSavesCardSaid : Prop := Claim7.holds Tryz.pinned (.plain (OpenSpec.ofChange catalogSavesSpec)) catalogSavesCard

/-- THE TIED CARD OF 'mosaicistlaw20.CatalogBack'. -/
def catalogBackCard : Claim7 := { stood := { row := catalogBackRow, standIns := [], harness := (true, "7cff7e5e34a5094ed9641bc6244b0d49c660463fbc51d19e3ca042c92efaf512"), looks := false }, kinds := [], alts := [], laidByText := true, laidKinds := [.data], laidTests := true, laidLooks := .later }
def CatalogBackCardSaid : Prop := Claim7.holds Tryz.pinned (.plain (OpenSpec.ofChange catalogBackSpec)) catalogBackCard

/-- THE TIED CARD OF 'mosaicistlaw20.CatalogKeeps'. -/
def catalogKeepsCard : Claim7 := { stood := { row := catalogKeepsRow, standIns := [], harness := (true, "7cff7e5e34a5094ed9641bc6244b0d49c660463fbc51d19e3ca042c92efaf512"), looks := false }, kinds := [], alts := [], laidByText := true, laidKinds := [.data], laidTests := true, laidLooks := .later }
def CatalogKeepsCardSaid : Prop := Claim7.holds Tryz.pinned (.plain (OpenSpec.ofChange catalogKeepsSpec)) catalogKeepsCard

/-- THE TIED CARD OF 'mosaicistlaw20.CatalogApart'. -/
def catalogApartCard : Claim7 := { stood := { row := catalogApartRow, standIns := [], harness := (true, "7cff7e5e34a5094ed9641bc6244b0d49c660463fbc51d19e3ca042c92efaf512"), looks := false }, kinds := [], alts := [], laidByText := true, laidKinds := [.data], laidTests := true, laidLooks := .later }
def CatalogApartCardSaid : Prop := Claim7.holds Tryz.pinned (.plain (OpenSpec.ofChange catalogApartSpec)) catalogApartCard

/-- THE SECOND FORM's CARD OF 'mosaicistlaw18.StorePlays'. -/
def storePlaysUptoCard : Claim7 := { stood := { row := storePlaysUptoRow, standIns := [], harness := (true, "7cff7e5e34a5094ed9641bc6244b0d49c660463fbc51d19e3ca042c92efaf512"), looks := false }, kinds := [], alts := [], laidByText := true, laidKinds := [.data], laidTests := true, laidLooks := .later }
def StorePlaysUptoCardSaid : Prop := Claim7.holds Tryz.pinned (.plain (OpenSpec.upto storePlaysSpec)) storePlaysUptoCard

/-- THE SECOND FORM's CARD OF 'mosaicistlaw18.StoreKeeps'. -/
def storeKeepsUptoCard : Claim7 := { stood := { row := storeKeepsUptoRow, standIns := [], harness := (true, "7cff7e5e34a5094ed9641bc6244b0d49c660463fbc51d19e3ca042c92efaf512"), looks := false }, kinds := [], alts := [], laidByText := true, laidKinds := [.data], laidTests := true, laidLooks := .later }
def StoreKeepsUptoCardSaid : Prop := Claim7.holds Tryz.pinned (.plain (OpenSpec.upto storeKeepsSpec)) storeKeepsUptoCard

/-- THE SECOND FORM's CARD OF 'mosaicistlaw18.StoreAgain'. -/
def storeAgainUptoCard : Claim7 := { stood := { row := storeAgainUptoRow, standIns := [], harness := (true, "7cff7e5e34a5094ed9641bc6244b0d49c660463fbc51d19e3ca042c92efaf512"), looks := false }, kinds := [], alts := [], laidByText := true, laidKinds := [.data], laidTests := true, laidLooks := .later }
def StoreAgainUptoCardSaid : Prop := Claim7.holds Tryz.pinned (.plain (OpenSpec.upto storeAgainSpec)) storeAgainUptoCard

/-- THE SECOND FORM's CARD OF 'mosaicistlaw19.BlobPlays'. -/
def blobPlaysUptoCard : Claim7 := { stood := { row := blobPlaysUptoRow, standIns := [], harness := (true, "7cff7e5e34a5094ed9641bc6244b0d49c660463fbc51d19e3ca042c92efaf512"), looks := false }, kinds := [], alts := [], laidByText := true, laidKinds := [.data], laidTests := true, laidLooks := .later }
def BlobPlaysUptoCardSaid : Prop := Claim7.holds Tryz.pinned (.plain (OpenSpec.upto blobPlaysSpec)) blobPlaysUptoCard

/-- THE SECOND FORM's CARD OF 'mosaicistlaw19.BlobKeeps'. -/
def blobKeepsUptoCard : Claim7 := { stood := { row := blobKeepsUptoRow, standIns := [], harness := (true, "7cff7e5e34a5094ed9641bc6244b0d49c660463fbc51d19e3ca042c92efaf512"), looks := false }, kinds := [], alts := [], laidByText := true, laidKinds := [.data], laidTests := true, laidLooks := .later }
def BlobKeepsUptoCardSaid : Prop := Claim7.holds Tryz.pinned (.plain (OpenSpec.upto blobKeepsSpec)) blobKeepsUptoCard

/-- THE SECOND FORM's CARD OF 'mosaicistlaw19.BlobFits'. -/
def blobFitsUptoCard : Claim7 := { stood := { row := blobFitsUptoRow, standIns := [], harness := (true, "7cff7e5e34a5094ed9641bc6244b0d49c660463fbc51d19e3ca042c92efaf512"), looks := false }, kinds := [], alts := [], laidByText := true, laidKinds := [.data], laidTests := true, laidLooks := .later }
def BlobFitsUptoCardSaid : Prop := Claim7.holds Tryz.pinned (.plain (OpenSpec.upto blobFitsSpec)) blobFitsUptoCard

/-- THE SECOND FORM's CARD OF 'mosaicistlaw19.BlobChains'. -/
def blobChainsUptoCard : Claim7 := { stood := { row := blobChainsUptoRow, standIns := [], harness := (true, "7cff7e5e34a5094ed9641bc6244b0d49c660463fbc51d19e3ca042c92efaf512"), looks := false }, kinds := [], alts := [], laidByText := true, laidKinds := [.data], laidTests := true, laidLooks := .later }
def BlobChainsUptoCardSaid : Prop := Claim7.holds Tryz.pinned (.plain (OpenSpec.upto blobChainsSpec)) blobChainsUptoCard

/-- THE SECOND FORM's CARD OF 'mosaicistlaw20.CatalogTells'. -/
def catalogTellsUptoCard : Claim7 := { stood := { row := catalogTellsUptoRow, standIns := [], harness := (true, "7cff7e5e34a5094ed9641bc6244b0d49c660463fbc51d19e3ca042c92efaf512"), looks := false }, kinds := [], alts := [], laidByText := true, laidKinds := [.data], laidTests := true, laidLooks := .later }
def CatalogTellsUptoCardSaid : Prop := Claim7.holds Tryz.pinned (.plain (OpenSpec.upto catalogTellsSpec)) catalogTellsUptoCard

/-- THE SECOND FORM's CARD OF 'mosaicistlaw20.CatalogSaves'. -/
def catalogSavesUptoCard : Claim7 := { stood := { row := catalogSavesUptoRow, standIns := [], harness := (true, "7cff7e5e34a5094ed9641bc6244b0d49c660463fbc51d19e3ca042c92efaf512"), looks := false }, kinds := [], alts := [], laidByText := true, laidKinds := [.data], laidTests := true, laidLooks := .later }
def CatalogSavesUptoCardSaid : Prop := Claim7.holds Tryz.pinned (.plain (OpenSpec.upto catalogSavesSpec)) catalogSavesUptoCard

/-- THE SECOND FORM's CARD OF 'mosaicistlaw20.CatalogBack'. -/
def catalogBackUptoCard : Claim7 := { stood := { row := catalogBackUptoRow, standIns := [], harness := (true, "7cff7e5e34a5094ed9641bc6244b0d49c660463fbc51d19e3ca042c92efaf512"), looks := false }, kinds := [], alts := [], laidByText := true, laidKinds := [.data], laidTests := true, laidLooks := .later }
def CatalogBackUptoCardSaid : Prop := Claim7.holds Tryz.pinned (.plain (OpenSpec.upto catalogBackSpec)) catalogBackUptoCard

/-- THE SECOND FORM's CARD OF 'mosaicistlaw20.CatalogKeeps'. -/
def catalogKeepsUptoCard : Claim7 := { stood := { row := catalogKeepsUptoRow, standIns := [], harness := (true, "7cff7e5e34a5094ed9641bc6244b0d49c660463fbc51d19e3ca042c92efaf512"), looks := false }, kinds := [], alts := [], laidByText := true, laidKinds := [.data], laidTests := true, laidLooks := .later }
def CatalogKeepsUptoCardSaid : Prop := Claim7.holds Tryz.pinned (.plain (OpenSpec.upto catalogKeepsSpec)) catalogKeepsUptoCard

/-- THE SECOND FORM's CARD OF 'mosaicistlaw20.CatalogApart'. -/
def catalogApartUptoCard : Claim7 := { stood := { row := catalogApartUptoRow, standIns := [], harness := (true, "7cff7e5e34a5094ed9641bc6244b0d49c660463fbc51d19e3ca042c92efaf512"), looks := false }, kinds := [], alts := [], laidByText := true, laidKinds := [.data], laidTests := true, laidLooks := .later }
def CatalogApartUptoCardSaid : Prop := Claim7.holds Tryz.pinned (.plain (OpenSpec.upto catalogApartSpec)) catalogApartUptoCard
end Rows
end Go.Proofs.YtcgkbcgpnlogoaaGreatDoor
