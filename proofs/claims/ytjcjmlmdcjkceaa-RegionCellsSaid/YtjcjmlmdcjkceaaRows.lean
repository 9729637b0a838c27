/-
  No cell of these rows narrows 'for every input' (looked for: loops, veiled, ifaces, maps, wideKeys, modest, calm, conditions, laid).
  DERIVED. THE GIVEN ROWS OF THIS SEAT. 4 by the template 'for every input the law returns true; each argument reads behind the call as it read before'; 0 by the template 'total and deterministic' (their statements: YtjcjmlmdcjkceaaTotals.lean).
  GIVEN WITH THE SEED: the statements are not yours to turn. If you find one false, say at which input.
  Laid BY PROGRAM, IN A SANDBOX (cutbox-rows.mjs): the forced cells as the released guide's own fill.sh prints them over the translation d201f271221d77ac… (all of the seat's roots in one cut). By AI agents, Wed Nov 11 2026. No macro, syntax, notation, axiom, sorry.
-/
import Derived.Test.YtjcjmlmdcjkceaaChecked
import GoSem.Claim
import GoSem.ClaimJoined
import GoSem.ClaimMapViews
import Derived.JoinedTies
import Derived.KernelRfl
namespace Go.Proofs.Ytjcjmlmdcjkceaa
/- THE CELL 'sum', in the pinned program and in every row, IS THE sha256 OF THE DUMP (.gsa) THAT YtjcjmlmdcjkceaaProg.lean LOADS. Nothing in Lean hashes anything: it is a label: what it is worth is what the hold of that sum in a sandbox is worth. -/
noncomputable def Try.pinned : Pinned := { name := "ytjcjmlmdcjkceaa", sum := "d201f271221d77ac8821a02e331c4b1b53dd3c32394633113463566e51033648", checked := Try.checked }
namespace Rows
def none {H : Type} : Left H := { results := [], args := [] }

/-- 'tipstafflaw19.RegionStacks': WHATEVER THE INPUT: true; the input reads as it did. -/
def regionStacksSpec : ChangeSpec := { name := "regionStacks", fn := fun _ => fun
  | [d] => { results := [.lit (.bool true)], args := [d] }
  | _ => none }
def regionStacksRow : OpenClaim := { program := "ytjcjmlmdcjkceaa", sum := "d201f271221d77ac8821a02e331c4b1b53dd3c32394633113463566e51033648", func := "tipstaff/tipstafflaw19.RegionStacks", spec := "regionStacks", apart := false }
def RegionStacksSaid : Prop := regionStacksRow.holds Try.pinned (OpenSpec.ofChange regionStacksSpec)

/-- ITS FALSE NEIGHBOUR: 'it returns false'. Refute it at one input. -/
def regionStacksWrong : ChangeSpec := { name := "regionStacks", fn := fun _ => fun
  | [d] => { results := [.lit (.bool false)], args := [d] }
  | _ => none }
def RegionStacksWrongFalsely : Prop := regionStacksRow.holds Try.pinned (OpenSpec.ofChange regionStacksWrong)

/-- 'tipstafflaw19.RegionCells': WHATEVER THE INPUT: true; the input reads as it did. -/
def regionCellsSpec : ChangeSpec := { name := "regionCells", fn := fun _ => fun
  | [d1, d2, d3] => { results := [.lit (.bool true)], args := [d1, d2, d3] }
  | _ => none }
def regionCellsRow : OpenClaim := { program := "ytjcjmlmdcjkceaa", sum := "d201f271221d77ac8821a02e331c4b1b53dd3c32394633113463566e51033648", func := "tipstaff/tipstafflaw19.RegionCells", spec := "regionCells", unfollowed := true, recurses := true, apart := false }
def RegionCellsSaid : Prop := regionCellsRow.holds Try.pinned (OpenSpec.ofChange regionCellsSpec)

/-- ITS FALSE NEIGHBOUR: 'it returns false'. Refute it at one input. -/
def regionCellsWrong : ChangeSpec := { name := "regionCells", fn := fun _ => fun
  | [d1, d2, d3] => { results := [.lit (.bool false)], args := [d1, d2, d3] }
  | _ => none }
def RegionCellsWrongFalsely : Prop := regionCellsRow.holds Try.pinned (OpenSpec.ofChange regionCellsWrong)

/-- 'tipstafflaw19.RegionNumbers': WHATEVER THE INPUT: true; the input reads as it did. -/
def regionNumbersSpec : ChangeSpec := { name := "regionNumbers", fn := fun _ => fun
  | [d1, d2, d3] => { results := [.lit (.bool true)], args := [d1, d2, d3] }
  | _ => none }
def regionNumbersRow : OpenClaim := { program := "ytjcjmlmdcjkceaa", sum := "d201f271221d77ac8821a02e331c4b1b53dd3c32394633113463566e51033648", func := "tipstaff/tipstafflaw19.RegionNumbers", spec := "regionNumbers", apart := false }
def RegionNumbersSaid : Prop := regionNumbersRow.holds Try.pinned (OpenSpec.ofChange regionNumbersSpec)

/-- ITS FALSE NEIGHBOUR: 'it returns false'. Refute it at one input. -/
def regionNumbersWrong : ChangeSpec := { name := "regionNumbers", fn := fun _ => fun
  | [d1, d2, d3] => { results := [.lit (.bool false)], args := [d1, d2, d3] }
  | _ => none }
def RegionNumbersWrongFalsely : Prop := regionNumbersRow.holds Try.pinned (OpenSpec.ofChange regionNumbersWrong)

/-- 'tipstafflaw19.RegionKept': WHATEVER THE INPUT: true; the input reads as it did. -/
def regionKeptSpec : ChangeSpec := { name := "regionKept", fn := fun _ => fun
  | [d1, d2] => { results := [.lit (.bool true)], args := [d1, d2] }
  | _ => none }
def regionKeptRow : OpenClaim := { program := "ytjcjmlmdcjkceaa", sum := "d201f271221d77ac8821a02e331c4b1b53dd3c32394633113463566e51033648", func := "tipstaff/tipstafflaw19.RegionKept", spec := "regionKept", apart := false }
def RegionKeptSaid : Prop := regionKeptRow.holds Try.pinned (OpenSpec.ofChange regionKeptSpec)

/-- ITS FALSE NEIGHBOUR: 'it returns false'. Refute it at one input. -/
def regionKeptWrong : ChangeSpec := { name := "regionKept", fn := fun _ => fun
  | [d1, d2] => { results := [.lit (.bool false)], args := [d1, d2] }
  | _ => none }
def RegionKeptWrongFalsely : Prop := regionKeptRow.holds Try.pinned (OpenSpec.ofChange regionKeptWrong)

/- THE SECOND FORM. 'bulk': how many values and letters a reading holds, each counted each time it is reached (what is shared counts as often as it is met; a slice's spare places count too). A statement '..UptoSaid' is the law's where the arguments, and the package variables that the reading takes, are together of bulk at most 1048576: NARROWER than '..Said'. Prove '..Said' where nothing that the law and all that it calls make is longer than what came in: it says more and counts as full. Else prove '..UptoSaid'. A law counts once. -/
mutual
def uptoBulk {H : Type} : DataW H → Nat
  | .lit (.string bytes) => bytes.length + 1
  | .lit _ => 1
  | .nil => 1
  | .ptr d => uptoBulk d + 1
  | .slice elems spare => uptoBulkAll elems + uptoBulkAll spare + 1
  | .agg parts => uptoBulkAll parts + 1
  | .iface _ d => uptoBulk d + 1
  | .map entries => uptoBulkEntries entries + 1
  | .held _ => 1
def uptoBulkAll {H : Type} : List (DataW H) → Nat
  | [] => 0
  | d :: r => uptoBulk d + uptoBulkAll r
def uptoBulkEntries {H : Type} : List (Lit × DataW H) → Nat
  | [] => 0
  | x :: r => uptoBulkEntry x + uptoBulkEntries r
def uptoBulkEntry {H : Type} : Lit × DataW H → Nat
  | (.string bytes, d) => bytes.length + uptoBulk d + 1
  | (_, d) => uptoBulk d + 1
 end
def uptoSmall : (H : Type) → List (DataW H) → Bool := fun _ ds => decide (uptoBulkAll ds ≤ 1048576)
def OpenSpec.upto (s : _root_.Go.ChangeSpec) : _root_.Go.OpenSpec := { _root_.Go.OpenSpec.ofChange s with cond := some uptoSmall }

/-- 'tipstafflaw19.RegionStacks', WHERE WHAT IT READS IS OF BULK AT MOST 1048576: true; the input reads as it did. -/
def regionStacksUptoRow : OpenClaim := { program := "ytjcjmlmdcjkceaa", sum := "d201f271221d77ac8821a02e331c4b1b53dd3c32394633113463566e51033648", func := "tipstaff/tipstafflaw19.RegionStacks", spec := "regionStacks", apart := false, narrowed := true }
def RegionStacksUptoSaid : Prop := regionStacksUptoRow.holds Try.pinned (OpenSpec.upto regionStacksSpec)

/-- 'tipstafflaw19.RegionCells', WHERE WHAT IT READS IS OF BULK AT MOST 1048576: true; the input reads as it did. -/
def regionCellsUptoRow : OpenClaim := { program := "ytjcjmlmdcjkceaa", sum := "d201f271221d77ac8821a02e331c4b1b53dd3c32394633113463566e51033648", func := "tipstaff/tipstafflaw19.RegionCells", spec := "regionCells", unfollowed := true, recurses := true, apart := false, narrowed := true }
def RegionCellsUptoSaid : Prop := regionCellsUptoRow.holds Try.pinned (OpenSpec.upto regionCellsSpec)

/-- 'tipstafflaw19.RegionNumbers', WHERE WHAT IT READS IS OF BULK AT MOST 1048576: true; the input reads as it did. -/
def regionNumbersUptoRow : OpenClaim := { program := "ytjcjmlmdcjkceaa", sum := "d201f271221d77ac8821a02e331c4b1b53dd3c32394633113463566e51033648", func := "tipstaff/tipstafflaw19.RegionNumbers", spec := "regionNumbers", apart := false, narrowed := true }
def RegionNumbersUptoSaid : Prop := regionNumbersUptoRow.holds Try.pinned (OpenSpec.upto regionNumbersSpec)

/-- 'tipstafflaw19.RegionKept', WHERE WHAT IT READS IS OF BULK AT MOST 1048576: true; the input reads as it did. -/
def regionKeptUptoRow : OpenClaim := { program := "ytjcjmlmdcjkceaa", sum := "d201f271221d77ac8821a02e331c4b1b53dd3c32394633113463566e51033648", func := "tipstaff/tipstafflaw19.RegionKept", spec := "regionKept", apart := false, narrowed := true }
def RegionKeptUptoSaid : Prop := regionKeptUptoRow.holds Try.pinned (OpenSpec.upto regionKeptSpec)

end Rows
end Go.Proofs.Ytjcjmlmdcjkceaa
