/-
  DERIVED. GIVEN WITH THE SEED: THE CARDS: each row of YtjbmeedfipggdaaDoorRows.lean that lists a variable, with what it lists TIED to the program's text (the seventh form; the later family's looks); each row that meets fmt, with fmt's text TOLD by the authors' own Lean function (tested against real Go, not proved from fmt's source: count such statements apart). THE CARD IS WHAT COUNTS. Prove the row's statement (the work); the ties are given (YtjbmeedfipggdaaDoorTie.lean); close each card by the builder's one call (the guide's Derived/Test/ToyasCard.lean, 'card_holds'). Laid BY PROGRAM, IN A SANDBOX (cutbox-door.mjs). By AI agents, Wed Nov 11 2026. No macro, syntax, notation, axiom, sorry.
-/
import Derived.Test.YtjbmeedfipggdaaDoorRows
import GoSem.ClaimSeven
namespace Go.Proofs.YtjbmeedfipggdaaDoor
namespace Rows

/-- THE TIED CARD OF 'tipstafftop.TipstaffShares'. -/
def tipstaffSharesCard : Claim7 := { stood := { row := tipstaffSharesRow, standIns := [], harness := (true, "a51ccb2e04fbac8607a8b223d7759fdc21d52f0cbf917249526d3f2b34d672c1"), looks := false }, kinds := [], alts := [], laidByText := true, laidKinds := [.data, .data], laidTests := true, laidLooks := .later }
def TipstaffSharesCardSaid : Prop := Claim7.holds Tryd.pinned (.plain (OpenSpec.ofChange tipstaffSharesSpec)) tipstaffSharesCard

/-- THE SECOND FORM's CARD OF 'tipstafftop.TipstaffShares'. -/
def tipstaffSharesUptoCard : Claim7 := { stood := { row := tipstaffSharesUptoRow, standIns := [], harness := (true, "a51ccb2e04fbac8607a8b223d7759fdc21d52f0cbf917249526d3f2b34d672c1"), looks := false }, kinds := [], alts := [], laidByText := true, laidKinds := [.data, .data], laidTests := true, laidLooks := .later }
def TipstaffSharesUptoCardSaid : Prop := Claim7.holds Tryd.pinned (.plain (OpenSpec.upto tipstaffSharesSpec)) tipstaffSharesUptoCard
end Rows
end Go.Proofs.YtjbmeedfipggdaaDoor
