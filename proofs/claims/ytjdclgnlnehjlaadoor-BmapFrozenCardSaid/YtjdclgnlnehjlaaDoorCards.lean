/-
  DERIVED. GIVEN WITH THE SEED: THE CARDS: each row of YtjdclgnlnehjlaaDoorRows.lean that lists a variable, with what it lists TIED to the program's text (the seventh form; the later family's looks); each row that meets fmt, with fmt's text TOLD by the authors' own Lean function (tested against real Go, not proved from fmt's source: count such statements apart). THE CARD IS WHAT COUNTS. Prove the row's statement (the work); the ties are given (YtjdclgnlnehjlaaDoorTie.lean); close each card by the builder's one call (the guide's Derived/Test/ToyasCard.lean, 'card_holds'). Laid BY PROGRAM, IN A SANDBOX (cutbox-door.mjs). By AI agents, Wed Nov 11 2026. No macro, syntax, notation, axiom, sorry.
-/
import Derived.Test.YtjdclgnlnehjlaaDoorRows
import GoSem.ClaimSeven
namespace Go.Proofs.YtjdclgnlnehjlaaDoor
namespace Rows

/-- THE TIED CARD OF 'tipstafflaw09.BmapFrozen'. -/
def bmapFrozenCard : Claim7 := { stood := { row := bmapFrozenRow, standIns := [], harness := (true, "53ecfb3af1a61a37de88962151ce2935ee7f7aa904719ced43cba487131b34cd"), looks := false }, kinds := [], alts := [], laidByText := true, laidKinds := [.data, .data], laidTests := true, laidLooks := .later }
def BmapFrozenCardSaid : Prop := Claim7.holds Tryd.pinned (.plain (OpenSpec.ofChange bmapFrozenSpec)) bmapFrozenCard

/-- THE TIED CARD OF 'tipstafftop.TipstaffMaps'. -/
def tipstaffMapsCard : Claim7 := { stood := { row := tipstaffMapsRow, standIns := [], harness := (true, "53ecfb3af1a61a37de88962151ce2935ee7f7aa904719ced43cba487131b34cd"), looks := false }, kinds := [], alts := [], laidByText := true, laidKinds := [.data, .data], laidTests := true, laidLooks := .later }
def TipstaffMapsCardSaid : Prop := Claim7.holds Tryd.pinned (.plain (OpenSpec.ofChange tipstaffMapsSpec)) tipstaffMapsCard

/-- THE SECOND FORM's CARD OF 'tipstafflaw09.BmapFrozen'. -/
def bmapFrozenUptoCard : Claim7 := { stood := { row := bmapFrozenUptoRow, standIns := [], harness := (true, "53ecfb3af1a61a37de88962151ce2935ee7f7aa904719ced43cba487131b34cd"), looks := false }, kinds := [], alts := [], laidByText := true, laidKinds := [.data, .data], laidTests := true, laidLooks := .later }
def BmapFrozenUptoCardSaid : Prop := Claim7.holds Tryd.pinned (.plain (OpenSpec.upto bmapFrozenSpec)) bmapFrozenUptoCard

/-- THE SECOND FORM's CARD OF 'tipstafftop.TipstaffMaps'. -/
def tipstaffMapsUptoCard : Claim7 := { stood := { row := tipstaffMapsUptoRow, standIns := [], harness := (true, "53ecfb3af1a61a37de88962151ce2935ee7f7aa904719ced43cba487131b34cd"), looks := false }, kinds := [], alts := [], laidByText := true, laidKinds := [.data, .data], laidTests := true, laidLooks := .later }
def TipstaffMapsUptoCardSaid : Prop := Claim7.holds Tryd.pinned (.plain (OpenSpec.upto tipstaffMapsSpec)) tipstaffMapsUptoCard
end Rows
end Go.Proofs.YtjdclgnlnehjlaaDoor
