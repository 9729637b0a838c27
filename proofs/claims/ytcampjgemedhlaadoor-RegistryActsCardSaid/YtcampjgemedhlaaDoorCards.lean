/-
  DERIVED. GIVEN WITH THE SEED: THE CARDS: each row of YtcampjgemedhlaaDoorRows.lean that lists a variable, with what it lists TIED to the program's text (the seventh form; the later family's looks); each row that meets fmt, with fmt's text TOLD by the authors' own Lean function (tested against real Go, not proved from fmt's source: count such statements apart). THE CARD IS WHAT COUNTS. Prove the row's statement (the work); the ties are given (YtcampjgemedhlaaDoorTie.lean); close each card by the builder's one call (the guide's Derived/Test/ToyasCard.lean, 'card_holds'). Laid BY PROGRAM, IN A SANDBOX (cutbox-door.mjs). By AI agents, Wed Nov 11 2026. No macro, syntax, notation, axiom, sorry.
-/
import Derived.Test.YtcampjgemedhlaaDoorRows
import GoSem.ClaimSeven
namespace Go.Proofs.YtcampjgemedhlaaDoor
namespace Rows

/-- THE TIED CARD OF 'tipstafflaw01.DigestSums'. -/
def digestSumsCard : Claim7 := { stood := { row := digestSumsRow, standIns := [], harness := (true, "fb50704814e71b14ea4fcf0a23a17ddaf217c91019ccf99fe816e5c6199caee1"), looks := false }, kinds := [], alts := [], laidByText := true, laidKinds := [.data, .data], laidTests := true, laidLooks := .later }
def DigestSumsCardSaid : Prop := Claim7.holds Tryd.pinned (.plain (OpenSpec.ofChange digestSumsSpec)) digestSumsCard

/-- THE TIED CARD OF 'tipstafflaw01.DigestJoins'. -/
def digestJoinsCard : Claim7 := { stood := { row := digestJoinsRow, standIns := [], harness := (true, "fb50704814e71b14ea4fcf0a23a17ddaf217c91019ccf99fe816e5c6199caee1"), looks := false }, kinds := [], alts := [], laidByText := true, laidKinds := [.data, .data], laidTests := true, laidLooks := .later }
def DigestJoinsCardSaid : Prop := Claim7.holds Tryd.pinned (.plain (OpenSpec.ofChange digestJoinsSpec)) digestJoinsCard

/-- THE TIED CARD OF 'tipstafflaw01.DigestPads'. -/
def digestPadsCard : Claim7 := { stood := { row := digestPadsRow, standIns := [], harness := (true, "fb50704814e71b14ea4fcf0a23a17ddaf217c91019ccf99fe816e5c6199caee1"), looks := false }, kinds := [], alts := [], laidByText := true, laidKinds := [.data, .data], laidTests := true, laidLooks := .later }
def DigestPadsCardSaid : Prop := Claim7.holds Tryd.pinned (.plain (OpenSpec.ofChange digestPadsSpec)) digestPadsCard

/-- THE TIED CARD OF 'tipstafflaw01.DigestParts'. -/
def digestPartsCard : Claim7 := { stood := { row := digestPartsRow, standIns := [], harness := (true, "fb50704814e71b14ea4fcf0a23a17ddaf217c91019ccf99fe816e5c6199caee1"), looks := false }, kinds := [], alts := [], laidByText := true, laidKinds := [.data, .data], laidTests := true, laidLooks := .later }
def DigestPartsCardSaid : Prop := Claim7.holds Tryd.pinned (.plain (OpenSpec.ofChange digestPartsSpec)) digestPartsCard

/-- THE TIED CARD OF 'tipstafflaw02.LamportSigns'. -/
def lamportSignsCard : Claim7 := { stood := { row := lamportSignsRow, standIns := [], harness := (true, "fb50704814e71b14ea4fcf0a23a17ddaf217c91019ccf99fe816e5c6199caee1"), looks := false }, kinds := [], alts := [], laidByText := true, laidKinds := [.data, .data], laidTests := true, laidLooks := .later }
def LamportSignsCardSaid : Prop := Claim7.holds Tryd.pinned (.plain (OpenSpec.ofChange lamportSignsSpec)) lamportSignsCard

/-- THE TIED CARD OF 'tipstafflaw02.LamportVerifies'. -/
def lamportVerifiesCard : Claim7 := { stood := { row := lamportVerifiesRow, standIns := [], harness := (true, "fb50704814e71b14ea4fcf0a23a17ddaf217c91019ccf99fe816e5c6199caee1"), looks := false }, kinds := [], alts := [], laidByText := true, laidKinds := [.data, .data], laidTests := true, laidLooks := .later }
def LamportVerifiesCardSaid : Prop := Claim7.holds Tryd.pinned (.plain (OpenSpec.ofChange lamportVerifiesSpec)) lamportVerifiesCard

/-- THE TIED CARD OF 'tipstafflaw02.LamportBents'. -/
def lamportBentsCard : Claim7 := { stood := { row := lamportBentsRow, standIns := [], harness := (true, "fb50704814e71b14ea4fcf0a23a17ddaf217c91019ccf99fe816e5c6199caee1"), looks := false }, kinds := [], alts := [], laidByText := true, laidKinds := [.data, .data], laidTests := true, laidLooks := .later }
def LamportBentsCardSaid : Prop := Claim7.holds Tryd.pinned (.plain (OpenSpec.ofChange lamportBentsSpec)) lamportBentsCard

/-- THE TIED CARD OF 'tipstafflaw02.LamportBits'. -/
def lamportBitsCard : Claim7 := { stood := { row := lamportBitsRow, standIns := [], harness := (true, "fb50704814e71b14ea4fcf0a23a17ddaf217c91019ccf99fe816e5c6199caee1"), looks := false }, kinds := [], alts := [], laidByText := true, laidKinds := [.data, .data], laidTests := true, laidLooks := .later }
def LamportBitsCardSaid : Prop := Claim7.holds Tryd.pinned (.plain (OpenSpec.ofChange lamportBitsSpec)) lamportBitsCard

/-- THE TIED CARD OF 'tipstafflaw02.LamportLengths'. -/
def lamportLengthsCard : Claim7 := { stood := { row := lamportLengthsRow, standIns := [], harness := (true, "fb50704814e71b14ea4fcf0a23a17ddaf217c91019ccf99fe816e5c6199caee1"), looks := false }, kinds := [], alts := [], laidByText := true, laidKinds := [.data, .data], laidTests := true, laidLooks := .later }
def LamportLengthsCardSaid : Prop := Claim7.holds Tryd.pinned (.plain (OpenSpec.ofChange lamportLengthsSpec)) lamportLengthsCard

/-- THE TIED CARD OF 'tipstafflaw03.RegistryActs'. -/
def registryActsCard : Claim7 := { stood := { row := registryActsRow, standIns := [], harness := (true, "fb50704814e71b14ea4fcf0a23a17ddaf217c91019ccf99fe816e5c6199caee1"), looks := false }, kinds := [], alts := [], laidByText := true, laidKinds := [.data, .data], laidTests := true, laidLooks := .later }
def RegistryActsCardSaid : Prop := Claim7.holds Tryd.pinned (.plain (OpenSpec.ofChange registryActsSpec)) registryActsCard

/-- THE TIED CARD OF 'tipstafflaw03.RegistryFull'. -/
def registryFullCard : Claim7 := { stood := { row := registryFullRow, standIns := [], harness := (true, "fb50704814e71b14ea4fcf0a23a17ddaf217c91019ccf99fe816e5c6199caee1"), looks := false }, kinds := [], alts := [], laidByText := true, laidKinds := [.data, .data], laidTests := true, laidLooks := .later }
def RegistryFullCardSaid : Prop := Claim7.holds Tryd.pinned (.plain (OpenSpec.ofChange registryFullSpec)) registryFullCard

/-- THE TIED CARD OF 'tipstafflaw03.RegistryOrder'. -/
def registryOrderCard : Claim7 := { stood := { row := registryOrderRow, standIns := [], harness := (true, "fb50704814e71b14ea4fcf0a23a17ddaf217c91019ccf99fe816e5c6199caee1"), looks := false }, kinds := [], alts := [], laidByText := true, laidKinds := [.data, .data], laidTests := true, laidLooks := .later }
def RegistryOrderCardSaid : Prop := Claim7.holds Tryd.pinned (.plain (OpenSpec.ofChange registryOrderSpec)) registryOrderCard

/-- THE TIED CARD OF 'tipstafflaw03.RegistryAgain'. -/
def registryAgainCard : Claim7 := { stood := { row := registryAgainRow, standIns := [], harness := (true, "fb50704814e71b14ea4fcf0a23a17ddaf217c91019ccf99fe816e5c6199caee1"), looks := false }, kinds := [], alts := [], laidByText := true, laidKinds := [.data, .data], laidTests := true, laidLooks := .later }
def RegistryAgainCardSaid : Prop := Claim7.holds Tryd.pinned (.plain (OpenSpec.ofChange registryAgainSpec)) registryAgainCard

/-- THE TIED CARD OF 'tipstafftop.TipstaffSigns'. -/
def tipstaffSignsCard : Claim7 := { stood := { row := tipstaffSignsRow, standIns := [], harness := (true, "fb50704814e71b14ea4fcf0a23a17ddaf217c91019ccf99fe816e5c6199caee1"), looks := false }, kinds := [], alts := [], laidByText := true, laidKinds := [.data, .data], laidTests := true, laidLooks := .later }
def TipstaffSignsCardSaid : Prop := Claim7.holds Tryd.pinned (.plain (OpenSpec.ofChange tipstaffSignsSpec)) tipstaffSignsCard

/-- THE SECOND FORM's CARD OF 'tipstafflaw01.DigestSums'. -/
def digestSumsUptoCard : Claim7 := { stood := { row := digestSumsUptoRow, standIns := [], harness := (true, "fb50704814e71b14ea4fcf0a23a17ddaf217c91019ccf99fe816e5c6199caee1"), looks := false }, kinds := [], alts := [], laidByText := true, laidKinds := [.data, .data], laidTests := true, laidLooks := .later }
def DigestSumsUptoCardSaid : Prop := Claim7.holds Tryd.pinned (.plain (OpenSpec.upto digestSumsSpec)) digestSumsUptoCard

/-- THE SECOND FORM's CARD OF 'tipstafflaw01.DigestJoins'. -/
def digestJoinsUptoCard : Claim7 := { stood := { row := digestJoinsUptoRow, standIns := [], harness := (true, "fb50704814e71b14ea4fcf0a23a17ddaf217c91019ccf99fe816e5c6199caee1"), looks := false }, kinds := [], alts := [], laidByText := true, laidKinds := [.data, .data], laidTests := true, laidLooks := .later }
def DigestJoinsUptoCardSaid : Prop := Claim7.holds Tryd.pinned (.plain (OpenSpec.upto digestJoinsSpec)) digestJoinsUptoCard

/-- THE SECOND FORM's CARD OF 'tipstafflaw01.DigestPads'. -/
def digestPadsUptoCard : Claim7 := { stood := { row := digestPadsUptoRow, standIns := [], harness := (true, "fb50704814e71b14ea4fcf0a23a17ddaf217c91019ccf99fe816e5c6199caee1"), looks := false }, kinds := [], alts := [], laidByText := true, laidKinds := [.data, .data], laidTests := true, laidLooks := .later }
def DigestPadsUptoCardSaid : Prop := Claim7.holds Tryd.pinned (.plain (OpenSpec.upto digestPadsSpec)) digestPadsUptoCard

/-- THE SECOND FORM's CARD OF 'tipstafflaw01.DigestParts'. -/
def digestPartsUptoCard : Claim7 := { stood := { row := digestPartsUptoRow, standIns := [], harness := (true, "fb50704814e71b14ea4fcf0a23a17ddaf217c91019ccf99fe816e5c6199caee1"), looks := false }, kinds := [], alts := [], laidByText := true, laidKinds := [.data, .data], laidTests := true, laidLooks := .later }
def DigestPartsUptoCardSaid : Prop := Claim7.holds Tryd.pinned (.plain (OpenSpec.upto digestPartsSpec)) digestPartsUptoCard

/-- THE SECOND FORM's CARD OF 'tipstafflaw02.LamportSigns'. -/
def lamportSignsUptoCard : Claim7 := { stood := { row := lamportSignsUptoRow, standIns := [], harness := (true, "fb50704814e71b14ea4fcf0a23a17ddaf217c91019ccf99fe816e5c6199caee1"), looks := false }, kinds := [], alts := [], laidByText := true, laidKinds := [.data, .data], laidTests := true, laidLooks := .later }
def LamportSignsUptoCardSaid : Prop := Claim7.holds Tryd.pinned (.plain (OpenSpec.upto lamportSignsSpec)) lamportSignsUptoCard

/-- THE SECOND FORM's CARD OF 'tipstafflaw02.LamportVerifies'. -/
def lamportVerifiesUptoCard : Claim7 := { stood := { row := lamportVerifiesUptoRow, standIns := [], harness := (true, "fb50704814e71b14ea4fcf0a23a17ddaf217c91019ccf99fe816e5c6199caee1"), looks := false }, kinds := [], alts := [], laidByText := true, laidKinds := [.data, .data], laidTests := true, laidLooks := .later }
def LamportVerifiesUptoCardSaid : Prop := Claim7.holds Tryd.pinned (.plain (OpenSpec.upto lamportVerifiesSpec)) lamportVerifiesUptoCard

/-- THE SECOND FORM's CARD OF 'tipstafflaw02.LamportBents'. -/
def lamportBentsUptoCard : Claim7 := { stood := { row := lamportBentsUptoRow, standIns := [], harness := (true, "fb50704814e71b14ea4fcf0a23a17ddaf217c91019ccf99fe816e5c6199caee1"), looks := false }, kinds := [], alts := [], laidByText := true, laidKinds := [.data, .data], laidTests := true, laidLooks := .later }
def LamportBentsUptoCardSaid : Prop := Claim7.holds Tryd.pinned (.plain (OpenSpec.upto lamportBentsSpec)) lamportBentsUptoCard

/-- THE SECOND FORM's CARD OF 'tipstafflaw02.LamportBits'. -/
def lamportBitsUptoCard : Claim7 := { stood := { row := lamportBitsUptoRow, standIns := [], harness := (true, "fb50704814e71b14ea4fcf0a23a17ddaf217c91019ccf99fe816e5c6199caee1"), looks := false }, kinds := [], alts := [], laidByText := true, laidKinds := [.data, .data], laidTests := true, laidLooks := .later }
def LamportBitsUptoCardSaid : Prop := Claim7.holds Tryd.pinned (.plain (OpenSpec.upto lamportBitsSpec)) lamportBitsUptoCard

/-- THE SECOND FORM's CARD OF 'tipstafflaw02.LamportLengths'. -/
def lamportLengthsUptoCard : Claim7 := { stood := { row := lamportLengthsUptoRow, standIns := [], harness := (true, "fb50704814e71b14ea4fcf0a23a17ddaf217c91019ccf99fe816e5c6199caee1"), looks := false }, kinds := [], alts := [], laidByText := true, laidKinds := [.data, .data], laidTests := true, laidLooks := .later }
def LamportLengthsUptoCardSaid : Prop := Claim7.holds Tryd.pinned (.plain (OpenSpec.upto lamportLengthsSpec)) lamportLengthsUptoCard

/-- THE SECOND FORM's CARD OF 'tipstafflaw03.RegistryActs'. -/
def registryActsUptoCard : Claim7 := { stood := { row := registryActsUptoRow, standIns := [], harness := (true, "fb50704814e71b14ea4fcf0a23a17ddaf217c91019ccf99fe816e5c6199caee1"), looks := false }, kinds := [], alts := [], laidByText := true, laidKinds := [.data, .data], laidTests := true, laidLooks := .later }
def RegistryActsUptoCardSaid : Prop := Claim7.holds Tryd.pinned (.plain (OpenSpec.upto registryActsSpec)) registryActsUptoCard

/-- THE SECOND FORM's CARD OF 'tipstafflaw03.RegistryFull'. -/
def registryFullUptoCard : Claim7 := { stood := { row := registryFullUptoRow, standIns := [], harness := (true, "fb50704814e71b14ea4fcf0a23a17ddaf217c91019ccf99fe816e5c6199caee1"), looks := false }, kinds := [], alts := [], laidByText := true, laidKinds := [.data, .data], laidTests := true, laidLooks := .later }
def RegistryFullUptoCardSaid : Prop := Claim7.holds Tryd.pinned (.plain (OpenSpec.upto registryFullSpec)) registryFullUptoCard

/-- THE SECOND FORM's CARD OF 'tipstafflaw03.RegistryOrder'. -/
def registryOrderUptoCard : Claim7 := { stood := { row := registryOrderUptoRow, standIns := [], harness := (true, "fb50704814e71b14ea4fcf0a23a17ddaf217c91019ccf99fe816e5c6199caee1"), looks := false }, kinds := [], alts := [], laidByText := true, laidKinds := [.data, .data], laidTests := true, laidLooks := .later }
def RegistryOrderUptoCardSaid : Prop := Claim7.holds Tryd.pinned (.plain (OpenSpec.upto registryOrderSpec)) registryOrderUptoCard

/-- THE SECOND FORM's CARD OF 'tipstafflaw03.RegistryAgain'. -/
def registryAgainUptoCard : Claim7 := { stood := { row := registryAgainUptoRow, standIns := [], harness := (true, "fb50704814e71b14ea4fcf0a23a17ddaf217c91019ccf99fe816e5c6199caee1"), looks := false }, kinds := [], alts := [], laidByText := true, laidKinds := [.data, .data], laidTests := true, laidLooks := .later }
def RegistryAgainUptoCardSaid : Prop := Claim7.holds Tryd.pinned (.plain (OpenSpec.upto registryAgainSpec)) registryAgainUptoCard

/-- THE SECOND FORM's CARD OF 'tipstafftop.TipstaffSigns'. -/
def tipstaffSignsUptoCard : Claim7 := { stood := { row := tipstaffSignsUptoRow, standIns := [], harness := (true, "fb50704814e71b14ea4fcf0a23a17ddaf217c91019ccf99fe816e5c6199caee1"), looks := false }, kinds := [], alts := [], laidByText := true, laidKinds := [.data, .data], laidTests := true, laidLooks := .later }
def TipstaffSignsUptoCardSaid : Prop := Claim7.holds Tryd.pinned (.plain (OpenSpec.upto tipstaffSignsSpec)) tipstaffSignsUptoCard
end Rows
end Go.Proofs.YtcampjgemedhlaaDoor
