/-
  No cell of these rows narrows 'for every input' (looked for: loops, veiled, ifaces, maps, wideKeys, modest, calm, conditions, laid).
  DERIVED. THE GIVEN ROWS OF THIS SEAT. 4 by the template 'for every input the law returns true; each argument reads behind the call as it read before'; 0 by the template 'total and deterministic' (their statements: YtcbcnhkalchpbaaTotals.lean).
  GIVEN WITH THE SEED: the statements are not yours to turn. If you find one false, say at which input.
  Laid BY PROGRAM, IN A SANDBOX (cutbox-rows.mjs): the forced cells as the released guide's own fill.sh prints them over the translation 0bde222f98ef1d38… (all of the seat's roots in one cut). By AI agents, Wed Nov 11 2026. No macro, syntax, notation, axiom, sorry.
-/
import Derived.Test.YtcbcnhkalchpbaaChecked
import GoSem.Claim
import GoSem.ClaimJoined
import GoSem.ClaimMapViews
import Derived.JoinedTies
import Derived.KernelRfl
namespace Go.Proofs.Ytcbcnhkalchpbaa
/- THE CELL 'sum', in the pinned program and in every row, IS THE sha256 OF THE DUMP (.gsa) THAT YtcbcnhkalchpbaaProg.lean LOADS. Nothing in Lean hashes anything: it is a label: what it is worth is what the hold of that sum in a sandbox is worth. -/
noncomputable def Try.pinned : Pinned := { name := "ytcbcnhkalchpbaa", sum := "0bde222f98ef1d383d35b7079522a82ac44a054c06c667048581eda0dd07b609", checked := Try.checked }
namespace Rows
def none {H : Type} : Left H := { results := [], args := [] }

/-- 'tipstafflaw10.SpaceMakes': WHATEVER THE INPUT: true; the input reads as it did. -/
def spaceMakesSpec : ChangeSpec := { name := "spaceMakes", fn := fun _ => fun
  | [d1, d2, d3] => { results := [.lit (.bool true)], args := [d1, d2, d3] }
  | _ => none }
def spaceMakesRow : OpenClaim := { program := "ytcbcnhkalchpbaa", sum := "0bde222f98ef1d383d35b7079522a82ac44a054c06c667048581eda0dd07b609", func := "tipstaff/tipstafflaw10.SpaceMakes", spec := "spaceMakes", apart := false }
def SpaceMakesSaid : Prop := spaceMakesRow.holds Try.pinned (OpenSpec.ofChange spaceMakesSpec)

/-- ITS FALSE NEIGHBOUR: 'it returns false'. Refute it at one input. -/
def spaceMakesWrong : ChangeSpec := { name := "spaceMakes", fn := fun _ => fun
  | [d1, d2, d3] => { results := [.lit (.bool false)], args := [d1, d2, d3] }
  | _ => none }
def SpaceMakesWrongFalsely : Prop := spaceMakesRow.holds Try.pinned (OpenSpec.ofChange spaceMakesWrong)

/-- 'tipstafflaw10.SpaceInside': WHATEVER THE INPUT: true; the input reads as it did. -/
def spaceInsideSpec : ChangeSpec := { name := "spaceInside", fn := fun _ => fun
  | [d1, d2] => { results := [.lit (.bool true)], args := [d1, d2] }
  | _ => none }
def spaceInsideRow : OpenClaim := { program := "ytcbcnhkalchpbaa", sum := "0bde222f98ef1d383d35b7079522a82ac44a054c06c667048581eda0dd07b609", func := "tipstaff/tipstafflaw10.SpaceInside", spec := "spaceInside", apart := false }
def SpaceInsideSaid : Prop := spaceInsideRow.holds Try.pinned (OpenSpec.ofChange spaceInsideSpec)

/-- ITS FALSE NEIGHBOUR: 'it returns false'. Refute it at one input. -/
def spaceInsideWrong : ChangeSpec := { name := "spaceInside", fn := fun _ => fun
  | [d1, d2] => { results := [.lit (.bool false)], args := [d1, d2] }
  | _ => none }
def SpaceInsideWrongFalsely : Prop := spaceInsideRow.holds Try.pinned (OpenSpec.ofChange spaceInsideWrong)

/-- 'tipstafflaw10.SpaceDeep': WHATEVER THE INPUT: true; the input reads as it did. -/
def spaceDeepSpec : ChangeSpec := { name := "spaceDeep", fn := fun _ => fun
  | [d] => { results := [.lit (.bool true)], args := [d] }
  | _ => none }
def spaceDeepRow : OpenClaim := { program := "ytcbcnhkalchpbaa", sum := "0bde222f98ef1d383d35b7079522a82ac44a054c06c667048581eda0dd07b609", func := "tipstaff/tipstafflaw10.SpaceDeep", spec := "spaceDeep", apart := false }
def SpaceDeepSaid : Prop := spaceDeepRow.holds Try.pinned (OpenSpec.ofChange spaceDeepSpec)

/-- ITS FALSE NEIGHBOUR: 'it returns false'. Refute it at one input. -/
def spaceDeepWrong : ChangeSpec := { name := "spaceDeep", fn := fun _ => fun
  | [d] => { results := [.lit (.bool false)], args := [d] }
  | _ => none }
def SpaceDeepWrongFalsely : Prop := spaceDeepRow.holds Try.pinned (OpenSpec.ofChange spaceDeepWrong)

/-- 'tipstafflaw10.SpacePaths': WHATEVER THE INPUT: true; the input reads as it did. -/
def spacePathsSpec : ChangeSpec := { name := "spacePaths", fn := fun _ => fun
  | [d] => { results := [.lit (.bool true)], args := [d] }
  | _ => none }
def spacePathsRow : OpenClaim := { program := "ytcbcnhkalchpbaa", sum := "0bde222f98ef1d383d35b7079522a82ac44a054c06c667048581eda0dd07b609", func := "tipstaff/tipstafflaw10.SpacePaths", spec := "spacePaths", apart := false }
def SpacePathsSaid : Prop := spacePathsRow.holds Try.pinned (OpenSpec.ofChange spacePathsSpec)

/-- ITS FALSE NEIGHBOUR: 'it returns false'. Refute it at one input. -/
def spacePathsWrong : ChangeSpec := { name := "spacePaths", fn := fun _ => fun
  | [d] => { results := [.lit (.bool false)], args := [d] }
  | _ => none }
def SpacePathsWrongFalsely : Prop := spacePathsRow.holds Try.pinned (OpenSpec.ofChange spacePathsWrong)

/- THE SECOND FORM. 'bulk': how many values and letters a reading holds, each counted each time it is reached (what is shared counts as often as it is met; a slice's spare places count too). A statement '..UptoSaid' is the law's where the arguments, and the package variables that the reading takes, are together of bulk at most 1048576: NARROWER than '..Said'. Prove '..Said' where nothing that the law and all that it calls make is longer than what came in: it says more and counts as full. Else prove '..UptoSaid'. A law counts once. -/
mutual
def uptoBulk {H : Type} : DataW H → Nat
  | .lit (.string bytes) => bytes.length + 1
  | .lit _ => 1
  | .nil => 1
  | .ptr d => uptoBulk d + 1
  | .slice elems spare => uptoBulkAll elems + uptoBulkAll spare + 1
  | .agg parts => uptoBulkAll parts + 1
  | .iface _ d => uptoBulk d + 1
  | .map entries => uptoBulkEntries entries + 1
  | .held _ => 1
def uptoBulkAll {H : Type} : List (DataW H) → Nat
  | [] => 0
  | d :: r => uptoBulk d + uptoBulkAll r
def uptoBulkEntries {H : Type} : List (Lit × DataW H) → Nat
  | [] => 0
  | x :: r => uptoBulkEntry x + uptoBulkEntries r
def uptoBulkEntry {H : Type} : Lit × DataW H → Nat
  | (.string bytes, d) => bytes.length + uptoBulk d + 1
  | (_, d) => uptoBulk d + 1
 end
def uptoSmall : (H : Type) → List (DataW H) → Bool := fun _ ds => decide (uptoBulkAll ds ≤ 1048576)
def OpenSpec.upto (s : _root_.Go.ChangeSpec) : _root_.Go.OpenSpec := { _root_.Go.OpenSpec.ofChange s with cond := some uptoSmall }

/-- 'tipstafflaw10.SpaceMakes', WHERE WHAT IT READS IS OF BULK AT MOST 1048576: true; the input reads as it did. -/
def spaceMakesUptoRow : OpenClaim := { program := "ytcbcnhkalchpbaa", sum := "0bde222f98ef1d383d35b7079522a82ac44a054c06c667048581eda0dd07b609", func := "tipstaff/tipstafflaw10.SpaceMakes", spec := "spaceMakes", apart := false, narrowed := true }
def SpaceMakesUptoSaid : Prop := spaceMakesUptoRow.holds Try.pinned (OpenSpec.upto spaceMakesSpec)

/-- 'tipstafflaw10.SpaceInside', WHERE WHAT IT READS IS OF BULK AT MOST 1048576: true; the input reads as it did. -/
def spaceInsideUptoRow : OpenClaim := { program := "ytcbcnhkalchpbaa", sum := "0bde222f98ef1d383d35b7079522a82ac44a054c06c667048581eda0dd07b609", func := "tipstaff/tipstafflaw10.SpaceInside", spec := "spaceInside", apart := false, narrowed := true }
def SpaceInsideUptoSaid : Prop := spaceInsideUptoRow.holds Try.pinned (OpenSpec.upto spaceInsideSpec)

/-- 'tipstafflaw10.SpaceDeep', WHERE WHAT IT READS IS OF BULK AT MOST 1048576: true; the input reads as it did. -/
def spaceDeepUptoRow : OpenClaim := { program := "ytcbcnhkalchpbaa", sum := "0bde222f98ef1d383d35b7079522a82ac44a054c06c667048581eda0dd07b609", func := "tipstaff/tipstafflaw10.SpaceDeep", spec := "spaceDeep", apart := false, narrowed := true }
def SpaceDeepUptoSaid : Prop := spaceDeepUptoRow.holds Try.pinned (OpenSpec.upto spaceDeepSpec)

/-- 'tipstafflaw10.SpacePaths', WHERE WHAT IT READS IS OF BULK AT MOST 1048576: true; the input reads as it did. -/
def spacePathsUptoRow : OpenClaim := { program := "ytcbcnhkalchpbaa", sum := "0bde222f98ef1d383d35b7079522a82ac44a054c06c667048581eda0dd07b609", func := "tipstaff/tipstafflaw10.SpacePaths", spec := "spacePaths", apart := false, narrowed := true }
def SpacePathsUptoSaid : Prop := spacePathsUptoRow.holds Try.pinned (OpenSpec.upto spacePathsSpec)

end Rows
end Go.Proofs.Ytcbcnhkalchpbaa
