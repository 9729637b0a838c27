/-
  DERIVED. GIVEN WITH THE SEED: THE CARDS: each row of YtilhkgbninbkkaaDoorRows.lean that lists a variable, with what it lists TIED to the program's text (the seventh form; the later family's looks); each row that meets fmt, with fmt's text TOLD by the authors' own Lean function (tested against real Go, not proved from fmt's source: count such statements apart). THE CARD IS WHAT COUNTS. Prove the row's statement (the work); the ties are given (YtilhkgbninbkkaaDoorTie.lean); close each card by the builder's one call (the guide's Derived/Test/ToyasCard.lean, 'card_holds'). Laid BY PROGRAM, IN A SANDBOX (cutbox-door.mjs). By AI agents, Wed Nov 11 2026. No macro, syntax, notation, axiom, sorry.
-/
import Derived.Test.YtilhkgbninbkkaaDoorRows
import GoSem.ClaimSeven
namespace Go.Proofs.YtilhkgbninbkkaaDoor
namespace Rows

/-- THE TIED CARD OF 'tipstafflaw11.RightsWithin'. -/
def rightsWithinCard : Claim7 := { stood := { row := rightsWithinRow, standIns := [], harness := (true, "a44940ed941ce4dd1234db327d25b33498b6f922293df2cea29a0163b813c2a7"), looks := true }, kinds := [], alts := [], laidByText := true, laidKinds := [.data, .data, .data, .data], laidTests := true, laidLooks := .later }
def RightsWithinCardSaid : Prop := Claim7.holds Tryd.pinned (.plain (OpenSpec.ofChange rightsWithinSpec)) rightsWithinCard

/-- THE TIED CARD OF 'tipstafflaw11.RightsTexts'. -/
def rightsTextsCard : Claim7 := { stood := { row := rightsTextsRow, standIns := [], harness := (true, "a44940ed941ce4dd1234db327d25b33498b6f922293df2cea29a0163b813c2a7"), looks := true }, kinds := [], alts := [], laidByText := true, laidKinds := [.data, .data, .data, .sentinel, .sentinel, .data], laidTests := true, laidLooks := .later }
def RightsTextsCardSaid : Prop := Claim7.holds Tryd.pinned (.plain (OpenSpec.ofChange rightsTextsSpec)) rightsTextsCard

/-- THE TIED CARD OF 'tipstafflaw11.RightsParses'. -/
def rightsParsesCard : Claim7 := { stood := { row := rightsParsesRow, standIns := [], harness := (true, "a44940ed941ce4dd1234db327d25b33498b6f922293df2cea29a0163b813c2a7"), looks := true }, kinds := [], alts := [], laidByText := true, laidKinds := [.data, .data, .data, .sentinel, .sentinel, .data], laidTests := true, laidLooks := .later }
def RightsParsesCardSaid : Prop := Claim7.holds Tryd.pinned (.plain (OpenSpec.ofChange rightsParsesSpec)) rightsParsesCard

/-- THE TIED CARD OF 'tipstafflaw11.RightsBits'. -/
def rightsBitsCard : Claim7 := { stood := { row := rightsBitsRow, standIns := [], harness := (true, "a44940ed941ce4dd1234db327d25b33498b6f922293df2cea29a0163b813c2a7"), looks := true }, kinds := [], alts := [], laidByText := true, laidKinds := [.data, .data, .data, .data], laidTests := true, laidLooks := .later }
def RightsBitsCardSaid : Prop := Claim7.holds Tryd.pinned (.plain (OpenSpec.ofChange rightsBitsSpec)) rightsBitsCard

/-- THE TIED CARD OF 'tipstafflaw11.RightsLess'. -/
def rightsLessCard : Claim7 := { stood := { row := rightsLessRow, standIns := [], harness := (true, "a44940ed941ce4dd1234db327d25b33498b6f922293df2cea29a0163b813c2a7"), looks := true }, kinds := [], alts := [], laidByText := true, laidKinds := [.data, .data, .data, .data], laidTests := true, laidLooks := .later }
def RightsLessCardSaid : Prop := Claim7.holds Tryd.pinned (.plain (OpenSpec.ofChange rightsLessSpec)) rightsLessCard

/-- THE TIED CARD OF 'tipstafflaw11.RightsMeets'. -/
def rightsMeetsCard : Claim7 := { stood := { row := rightsMeetsRow, standIns := [], harness := (true, "a44940ed941ce4dd1234db327d25b33498b6f922293df2cea29a0163b813c2a7"), looks := true }, kinds := [], alts := [], laidByText := true, laidKinds := [.data, .data, .data, .data], laidTests := true, laidLooks := .later }
def RightsMeetsCardSaid : Prop := Claim7.holds Tryd.pinned (.plain (OpenSpec.ofChange rightsMeetsSpec)) rightsMeetsCard

/-- THE TIED CARD OF 'tipstafflaw12.TokenDerives'. -/
def tokenDerivesCard : Claim7 := { stood := { row := tokenDerivesRow, standIns := [], harness := (true, "a44940ed941ce4dd1234db327d25b33498b6f922293df2cea29a0163b813c2a7"), looks := true }, kinds := [], alts := [], laidByText := true, laidKinds := [.data], laidTests := true, laidLooks := .later }
def TokenDerivesCardSaid : Prop := Claim7.holds Tryd.pinned (.plain (OpenSpec.ofChange tokenDerivesSpec)) tokenDerivesCard

/-- THE TIED CARD OF 'tipstafflaw12.TokenForged'. -/
def tokenForgedCard : Claim7 := { stood := { row := tokenForgedRow, standIns := [], harness := (true, "a44940ed941ce4dd1234db327d25b33498b6f922293df2cea29a0163b813c2a7"), looks := true }, kinds := [], alts := [], laidByText := true, laidKinds := [.data], laidTests := true, laidLooks := .later }
def TokenForgedCardSaid : Prop := Claim7.holds Tryd.pinned (.plain (OpenSpec.ofChange tokenForgedSpec)) tokenForgedCard

/-- THE TIED CARD OF 'tipstafflaw12.TokenDepth'. -/
def tokenDepthCard : Claim7 := { stood := { row := tokenDepthRow, standIns := [], harness := (true, "a44940ed941ce4dd1234db327d25b33498b6f922293df2cea29a0163b813c2a7"), looks := true }, kinds := [], alts := [], laidByText := true, laidKinds := [.data], laidTests := true, laidLooks := .later }
def TokenDepthCardSaid : Prop := Claim7.holds Tryd.pinned (.plain (OpenSpec.ofChange tokenDepthSpec)) tokenDepthCard

/-- THE TIED CARD OF 'tipstafflaw12.TokenInside'. -/
def tokenInsideCard : Claim7 := { stood := { row := tokenInsideRow, standIns := [], harness := (true, "a44940ed941ce4dd1234db327d25b33498b6f922293df2cea29a0163b813c2a7"), looks := true }, kinds := [], alts := [], laidByText := true, laidKinds := [.data], laidTests := true, laidLooks := .later }
def TokenInsideCardSaid : Prop := Claim7.holds Tryd.pinned (.plain (OpenSpec.ofChange tokenInsideSpec)) tokenInsideCard

/-- THE TIED CARD OF 'tipstafftop.TipstaffDerives'. -/
def tipstaffDerivesCard : Claim7 := { stood := { row := tipstaffDerivesRow, standIns := [], harness := (true, "a44940ed941ce4dd1234db327d25b33498b6f922293df2cea29a0163b813c2a7"), looks := true }, kinds := [], alts := [], laidByText := true, laidKinds := [.data, .data, .data, .data, .data, .sentinel, .sentinel], laidTests := true, laidLooks := .later }
def TipstaffDerivesCardSaid : Prop := Claim7.holds Tryd.pinned (.plain (OpenSpec.ofChange tipstaffDerivesSpec)) tipstaffDerivesCard

/-- THE SECOND FORM's CARD OF 'tipstafflaw11.RightsWithin'. -/
def rightsWithinUptoCard : Claim7 := { stood := { row := rightsWithinUptoRow, standIns := [], harness := (true, "a44940ed941ce4dd1234db327d25b33498b6f922293df2cea29a0163b813c2a7"), looks := true }, kinds := [], alts := [], laidByText := true, laidKinds := [.data, .data, .data, .data], laidTests := true, laidLooks := .later }
def RightsWithinUptoCardSaid : Prop := Claim7.holds Tryd.pinned (.plain (OpenSpec.upto rightsWithinSpec)) rightsWithinUptoCard

/-- THE SECOND FORM's CARD OF 'tipstafflaw11.RightsTexts'. -/
def rightsTextsUptoCard : Claim7 := { stood := { row := rightsTextsUptoRow, standIns := [], harness := (true, "a44940ed941ce4dd1234db327d25b33498b6f922293df2cea29a0163b813c2a7"), looks := true }, kinds := [], alts := [], laidByText := true, laidKinds := [.data, .data, .data, .sentinel, .sentinel, .data], laidTests := true, laidLooks := .later }
def RightsTextsUptoCardSaid : Prop := Claim7.holds Tryd.pinned (.plain (OpenSpec.upto rightsTextsSpec)) rightsTextsUptoCard

/-- THE SECOND FORM's CARD OF 'tipstafflaw11.RightsParses'. -/
def rightsParsesUptoCard : Claim7 := { stood := { row := rightsParsesUptoRow, standIns := [], harness := (true, "a44940ed941ce4dd1234db327d25b33498b6f922293df2cea29a0163b813c2a7"), looks := true }, kinds := [], alts := [], laidByText := true, laidKinds := [.data, .data, .data, .sentinel, .sentinel, .data], laidTests := true, laidLooks := .later }
def RightsParsesUptoCardSaid : Prop := Claim7.holds Tryd.pinned (.plain (OpenSpec.upto rightsParsesSpec)) rightsParsesUptoCard

/-- THE SECOND FORM's CARD OF 'tipstafflaw11.RightsBits'. -/
def rightsBitsUptoCard : Claim7 := { stood := { row := rightsBitsUptoRow, standIns := [], harness := (true, "a44940ed941ce4dd1234db327d25b33498b6f922293df2cea29a0163b813c2a7"), looks := true }, kinds := [], alts := [], laidByText := true, laidKinds := [.data, .data, .data, .data], laidTests := true, laidLooks := .later }
def RightsBitsUptoCardSaid : Prop := Claim7.holds Tryd.pinned (.plain (OpenSpec.upto rightsBitsSpec)) rightsBitsUptoCard

/-- THE SECOND FORM's CARD OF 'tipstafflaw11.RightsLess'. -/
def rightsLessUptoCard : Claim7 := { stood := { row := rightsLessUptoRow, standIns := [], harness := (true, "a44940ed941ce4dd1234db327d25b33498b6f922293df2cea29a0163b813c2a7"), looks := true }, kinds := [], alts := [], laidByText := true, laidKinds := [.data, .data, .data, .data], laidTests := true, laidLooks := .later }
def RightsLessUptoCardSaid : Prop := Claim7.holds Tryd.pinned (.plain (OpenSpec.upto rightsLessSpec)) rightsLessUptoCard

/-- THE SECOND FORM's CARD OF 'tipstafflaw11.RightsMeets'. -/
def rightsMeetsUptoCard : Claim7 := { stood := { row := rightsMeetsUptoRow, standIns := [], harness := (true, "a44940ed941ce4dd1234db327d25b33498b6f922293df2cea29a0163b813c2a7"), looks := true }, kinds := [], alts := [], laidByText := true, laidKinds := [.data, .data, .data, .data], laidTests := true, laidLooks := .later }
def RightsMeetsUptoCardSaid : Prop := Claim7.holds Tryd.pinned (.plain (OpenSpec.upto rightsMeetsSpec)) rightsMeetsUptoCard

/-- THE SECOND FORM's CARD OF 'tipstafflaw12.TokenDerives'. -/
def tokenDerivesUptoCard : Claim7 := { stood := { row := tokenDerivesUptoRow, standIns := [], harness := (true, "a44940ed941ce4dd1234db327d25b33498b6f922293df2cea29a0163b813c2a7"), looks := true }, kinds := [], alts := [], laidByText := true, laidKinds := [.data], laidTests := true, laidLooks := .later }
def TokenDerivesUptoCardSaid : Prop := Claim7.holds Tryd.pinned (.plain (OpenSpec.upto tokenDerivesSpec)) tokenDerivesUptoCard

/-- THE SECOND FORM's CARD OF 'tipstafflaw12.TokenForged'. -/
def tokenForgedUptoCard : Claim7 := { stood := { row := tokenForgedUptoRow, standIns := [], harness := (true, "a44940ed941ce4dd1234db327d25b33498b6f922293df2cea29a0163b813c2a7"), looks := true }, kinds := [], alts := [], laidByText := true, laidKinds := [.data], laidTests := true, laidLooks := .later }
def TokenForgedUptoCardSaid : Prop := Claim7.holds Tryd.pinned (.plain (OpenSpec.upto tokenForgedSpec)) tokenForgedUptoCard

/-- THE SECOND FORM's CARD OF 'tipstafflaw12.TokenDepth'. -/
def tokenDepthUptoCard : Claim7 := { stood := { row := tokenDepthUptoRow, standIns := [], harness := (true, "a44940ed941ce4dd1234db327d25b33498b6f922293df2cea29a0163b813c2a7"), looks := true }, kinds := [], alts := [], laidByText := true, laidKinds := [.data], laidTests := true, laidLooks := .later }
def TokenDepthUptoCardSaid : Prop := Claim7.holds Tryd.pinned (.plain (OpenSpec.upto tokenDepthSpec)) tokenDepthUptoCard

/-- THE SECOND FORM's CARD OF 'tipstafflaw12.TokenInside'. -/
def tokenInsideUptoCard : Claim7 := { stood := { row := tokenInsideUptoRow, standIns := [], harness := (true, "a44940ed941ce4dd1234db327d25b33498b6f922293df2cea29a0163b813c2a7"), looks := true }, kinds := [], alts := [], laidByText := true, laidKinds := [.data], laidTests := true, laidLooks := .later }
def TokenInsideUptoCardSaid : Prop := Claim7.holds Tryd.pinned (.plain (OpenSpec.upto tokenInsideSpec)) tokenInsideUptoCard

/-- THE SECOND FORM's CARD OF 'tipstafftop.TipstaffDerives'. -/
def tipstaffDerivesUptoCard : Claim7 := { stood := { row := tipstaffDerivesUptoRow, standIns := [], harness := (true, "a44940ed941ce4dd1234db327d25b33498b6f922293df2cea29a0163b813c2a7"), looks := true }, kinds := [], alts := [], laidByText := true, laidKinds := [.data, .data, .data, .data, .data, .sentinel, .sentinel], laidTests := true, laidLooks := .later }
def TipstaffDerivesUptoCardSaid : Prop := Claim7.holds Tryd.pinned (.plain (OpenSpec.upto tipstaffDerivesSpec)) tipstaffDerivesUptoCard
end Rows
end Go.Proofs.YtilhkgbninbkkaaDoor
