/-
  No cell of these rows narrows 'for every input' (looked for: loops, veiled, ifaces, maps, wideKeys, modest, calm, conditions, laid).
  DERIVED. THE GIVEN ROWS OF THIS SEAT. 6 by the template 'for every input the law returns true; each argument reads behind the call as it read before'; 0 by the template 'total and deterministic' (their statements: YtbeikhokkpioeaaTotals.lean).
  GIVEN WITH THE SEED: the statements are not yours to turn. If you find one false, say at which input.
  Laid BY PROGRAM, IN A SANDBOX (cutbox-rows.mjs): the forced cells as the released guide's own fill.sh prints them over the translation 273725ec51e6db12… (all of the seat's roots in one cut). By AI agents, Wed Nov 11 2026. No macro, syntax, notation, axiom, sorry.
-/
import Derived.Test.YtbeikhokkpioeaaChecked
import GoSem.Claim
import GoSem.ClaimJoined
import GoSem.ClaimMapViews
import Derived.JoinedTies
import Derived.KernelRfl
namespace Go.Proofs.Ytbeikhokkpioeaa
/- THE CELL 'sum', in the pinned program and in every row, IS THE sha256 OF THE DUMP (.gsa) THAT YtbeikhokkpioeaaProg.lean LOADS. Nothing in Lean hashes anything: it is a label: what it is worth is what the hold of that sum in a sandbox is worth. -/
noncomputable def Try.pinned : Pinned := { name := "ytbeikhokkpioeaa", sum := "273725ec51e6db12ff254670f40c16b241ec8ea8f7e64e9ef83a56be659b2b4a", checked := Try.checked }
namespace Rows
def none {H : Type} : Left H := { results := [], args := [] }

/-- 'tipstafflaw13.TnumSums': WHATEVER THE INPUT: true; the input reads as it did. -/
def tnumSumsSpec : ChangeSpec := { name := "tnumSums", fn := fun _ => fun
  | [d1, d2] => { results := [.lit (.bool true)], args := [d1, d2] }
  | _ => none }
def tnumSumsRow : OpenClaim := { program := "ytbeikhokkpioeaa", sum := "273725ec51e6db12ff254670f40c16b241ec8ea8f7e64e9ef83a56be659b2b4a", func := "tipstaff/tipstafflaw13.TnumSums", spec := "tnumSums", apart := false }
def TnumSumsSaid : Prop := tnumSumsRow.holds Try.pinned (OpenSpec.ofChange tnumSumsSpec)

/-- ITS FALSE NEIGHBOUR: 'it returns false'. Refute it at one input. -/
def tnumSumsWrong : ChangeSpec := { name := "tnumSums", fn := fun _ => fun
  | [d1, d2] => { results := [.lit (.bool false)], args := [d1, d2] }
  | _ => none }
def TnumSumsWrongFalsely : Prop := tnumSumsRow.holds Try.pinned (OpenSpec.ofChange tnumSumsWrong)

/-- 'tipstafflaw13.TnumHas': WHATEVER THE INPUT: true; the input reads as it did. -/
def tnumHasSpec : ChangeSpec := { name := "tnumHas", fn := fun _ => fun
  | [d1, d2, d3] => { results := [.lit (.bool true)], args := [d1, d2, d3] }
  | _ => none }
def tnumHasRow : OpenClaim := { program := "ytbeikhokkpioeaa", sum := "273725ec51e6db12ff254670f40c16b241ec8ea8f7e64e9ef83a56be659b2b4a", func := "tipstaff/tipstafflaw13.TnumHas", spec := "tnumHas", apart := false }
def TnumHasSaid : Prop := tnumHasRow.holds Try.pinned (OpenSpec.ofChange tnumHasSpec)

/-- ITS FALSE NEIGHBOUR: 'it returns false'. Refute it at one input. -/
def tnumHasWrong : ChangeSpec := { name := "tnumHas", fn := fun _ => fun
  | [d1, d2, d3] => { results := [.lit (.bool false)], args := [d1, d2, d3] }
  | _ => none }
def TnumHasWrongFalsely : Prop := tnumHasRow.holds Try.pinned (OpenSpec.ofChange tnumHasWrong)

/-- 'tipstafflaw13.TnumShifts': WHATEVER THE INPUT: true; the input reads as it did. -/
def tnumShiftsSpec : ChangeSpec := { name := "tnumShifts", fn := fun _ => fun
  | [d1, d2, d3] => { results := [.lit (.bool true)], args := [d1, d2, d3] }
  | _ => none }
def tnumShiftsRow : OpenClaim := { program := "ytbeikhokkpioeaa", sum := "273725ec51e6db12ff254670f40c16b241ec8ea8f7e64e9ef83a56be659b2b4a", func := "tipstaff/tipstafflaw13.TnumShifts", spec := "tnumShifts", apart := false }
def TnumShiftsSaid : Prop := tnumShiftsRow.holds Try.pinned (OpenSpec.ofChange tnumShiftsSpec)

/-- ITS FALSE NEIGHBOUR: 'it returns false'. Refute it at one input. -/
def tnumShiftsWrong : ChangeSpec := { name := "tnumShifts", fn := fun _ => fun
  | [d1, d2, d3] => { results := [.lit (.bool false)], args := [d1, d2, d3] }
  | _ => none }
def TnumShiftsWrongFalsely : Prop := tnumShiftsRow.holds Try.pinned (OpenSpec.ofChange tnumShiftsWrong)

/-- 'tipstafflaw13.TnumMeets': WHATEVER THE INPUT: true; the input reads as it did. -/
def tnumMeetsSpec : ChangeSpec := { name := "tnumMeets", fn := fun _ => fun
  | [d1, d2, d3] => { results := [.lit (.bool true)], args := [d1, d2, d3] }
  | _ => none }
def tnumMeetsRow : OpenClaim := { program := "ytbeikhokkpioeaa", sum := "273725ec51e6db12ff254670f40c16b241ec8ea8f7e64e9ef83a56be659b2b4a", func := "tipstaff/tipstafflaw13.TnumMeets", spec := "tnumMeets", apart := false }
def TnumMeetsSaid : Prop := tnumMeetsRow.holds Try.pinned (OpenSpec.ofChange tnumMeetsSpec)

/-- ITS FALSE NEIGHBOUR: 'it returns false'. Refute it at one input. -/
def tnumMeetsWrong : ChangeSpec := { name := "tnumMeets", fn := fun _ => fun
  | [d1, d2, d3] => { results := [.lit (.bool false)], args := [d1, d2, d3] }
  | _ => none }
def TnumMeetsWrongFalsely : Prop := tnumMeetsRow.holds Try.pinned (OpenSpec.ofChange tnumMeetsWrong)

/-- 'tipstafflaw13.TnumRight': WHATEVER THE INPUT: true; the input reads as it did. -/
def tnumRightSpec : ChangeSpec := { name := "tnumRight", fn := fun _ => fun
  | [d1, d2, d3] => { results := [.lit (.bool true)], args := [d1, d2, d3] }
  | _ => none }
def tnumRightRow : OpenClaim := { program := "ytbeikhokkpioeaa", sum := "273725ec51e6db12ff254670f40c16b241ec8ea8f7e64e9ef83a56be659b2b4a", func := "tipstaff/tipstafflaw13.TnumRight", spec := "tnumRight", apart := false }
def TnumRightSaid : Prop := tnumRightRow.holds Try.pinned (OpenSpec.ofChange tnumRightSpec)

/-- ITS FALSE NEIGHBOUR: 'it returns false'. Refute it at one input. -/
def tnumRightWrong : ChangeSpec := { name := "tnumRight", fn := fun _ => fun
  | [d1, d2, d3] => { results := [.lit (.bool false)], args := [d1, d2, d3] }
  | _ => none }
def TnumRightWrongFalsely : Prop := tnumRightRow.holds Try.pinned (OpenSpec.ofChange tnumRightWrong)

/-- 'tipstafflaw13.TnumConsts': WHATEVER THE INPUT: true; the input reads as it did. -/
def tnumConstsSpec : ChangeSpec := { name := "tnumConsts", fn := fun _ => fun
  | [d1, d2] => { results := [.lit (.bool true)], args := [d1, d2] }
  | _ => none }
def tnumConstsRow : OpenClaim := { program := "ytbeikhokkpioeaa", sum := "273725ec51e6db12ff254670f40c16b241ec8ea8f7e64e9ef83a56be659b2b4a", func := "tipstaff/tipstafflaw13.TnumConsts", spec := "tnumConsts", apart := false }
def TnumConstsSaid : Prop := tnumConstsRow.holds Try.pinned (OpenSpec.ofChange tnumConstsSpec)

/-- ITS FALSE NEIGHBOUR: 'it returns false'. Refute it at one input. -/
def tnumConstsWrong : ChangeSpec := { name := "tnumConsts", fn := fun _ => fun
  | [d1, d2] => { results := [.lit (.bool false)], args := [d1, d2] }
  | _ => none }
def TnumConstsWrongFalsely : Prop := tnumConstsRow.holds Try.pinned (OpenSpec.ofChange tnumConstsWrong)

/- THE SECOND FORM. 'bulk': how many values and letters a reading holds, each counted each time it is reached (what is shared counts as often as it is met; a slice's spare places count too). A statement '..UptoSaid' is the law's where the arguments, and the package variables that the reading takes, are together of bulk at most 1048576: NARROWER than '..Said'. Prove '..Said' where nothing that the law and all that it calls make is longer than what came in: it says more and counts as full. Else prove '..UptoSaid'. A law counts once. -/
mutual
def uptoBulk {H : Type} : DataW H → Nat
  | .lit (.string bytes) => bytes.length + 1
  | .lit _ => 1
  | .nil => 1
  | .ptr d => uptoBulk d + 1
  | .slice elems spare => uptoBulkAll elems + uptoBulkAll spare + 1
  | .agg parts => uptoBulkAll parts + 1
  | .iface _ d => uptoBulk d + 1
  | .map entries => uptoBulkEntries entries + 1
  | .held _ => 1
def uptoBulkAll {H : Type} : List (DataW H) → Nat
  | [] => 0
  | d :: r => uptoBulk d + uptoBulkAll r
def uptoBulkEntries {H : Type} : List (Lit × DataW H) → Nat
  | [] => 0
  | x :: r => uptoBulkEntry x + uptoBulkEntries r
def uptoBulkEntry {H : Type} : Lit × DataW H → Nat
  | (.string bytes, d) => bytes.length + uptoBulk d + 1
  | (_, d) => uptoBulk d + 1
 end
def uptoSmall : (H : Type) → List (DataW H) → Bool := fun _ ds => decide (uptoBulkAll ds ≤ 1048576)
def OpenSpec.upto (s : _root_.Go.ChangeSpec) : _root_.Go.OpenSpec := { _root_.Go.OpenSpec.ofChange s with cond := some uptoSmall }

/-- 'tipstafflaw13.TnumSums', WHERE WHAT IT READS IS OF BULK AT MOST 1048576: true; the input reads as it did. -/
def tnumSumsUptoRow : OpenClaim := { program := "ytbeikhokkpioeaa", sum := "273725ec51e6db12ff254670f40c16b241ec8ea8f7e64e9ef83a56be659b2b4a", func := "tipstaff/tipstafflaw13.TnumSums", spec := "tnumSums", apart := false, narrowed := true }
def TnumSumsUptoSaid : Prop := tnumSumsUptoRow.holds Try.pinned (OpenSpec.upto tnumSumsSpec)

/-- 'tipstafflaw13.TnumHas', WHERE WHAT IT READS IS OF BULK AT MOST 1048576: true; the input reads as it did. -/
def tnumHasUptoRow : OpenClaim := { program := "ytbeikhokkpioeaa", sum := "273725ec51e6db12ff254670f40c16b241ec8ea8f7e64e9ef83a56be659b2b4a", func := "tipstaff/tipstafflaw13.TnumHas", spec := "tnumHas", apart := false, narrowed := true }
def TnumHasUptoSaid : Prop := tnumHasUptoRow.holds Try.pinned (OpenSpec.upto tnumHasSpec)

/-- 'tipstafflaw13.TnumShifts', WHERE WHAT IT READS IS OF BULK AT MOST 1048576: true; the input reads as it did. -/
def tnumShiftsUptoRow : OpenClaim := { program := "ytbeikhokkpioeaa", sum := "273725ec51e6db12ff254670f40c16b241ec8ea8f7e64e9ef83a56be659b2b4a", func := "tipstaff/tipstafflaw13.TnumShifts", spec := "tnumShifts", apart := false, narrowed := true }
def TnumShiftsUptoSaid : Prop := tnumShiftsUptoRow.holds Try.pinned (OpenSpec.upto tnumShiftsSpec)

/-- 'tipstafflaw13.TnumMeets', WHERE WHAT IT READS IS OF BULK AT MOST 1048576: true; the input reads as it did. -/
def tnumMeetsUptoRow : OpenClaim := { program := "ytbeikhokkpioeaa", sum := "273725ec51e6db12ff254670f40c16b241ec8ea8f7e64e9ef83a56be659b2b4a", func := "tipstaff/tipstafflaw13.TnumMeets", spec := "tnumMeets", apart := false, narrowed := true }
def TnumMeetsUptoSaid : Prop := tnumMeetsUptoRow.holds Try.pinned (OpenSpec.upto tnumMeetsSpec)

/-- 'tipstafflaw13.TnumRight', WHERE WHAT IT READS IS OF BULK AT MOST 1048576: true; the input reads as it did. -/
def tnumRightUptoRow : OpenClaim := { program := "ytbeikhokkpioeaa", sum := "273725ec51e6db12ff254670f40c16b241ec8ea8f7e64e9ef83a56be659b2b4a", func := "tipstaff/tipstafflaw13.TnumRight", spec := "tnumRight", apart := false, narrowed := true }
def TnumRightUptoSaid : Prop := tnumRightUptoRow.holds Try.pinned (OpenSpec.upto tnumRightSpec)

/-- 'tipstafflaw13.TnumConsts', WHERE WHAT IT READS IS OF BULK AT MOST 1048576: true; the input reads as it did. -/
def tnumConstsUptoRow : OpenClaim := { program := "ytbeikhokkpioeaa", sum := "273725ec51e6db12ff254670f40c16b241ec8ea8f7e64e9ef83a56be659b2b4a", func := "tipstaff/tipstafflaw13.TnumConsts", spec := "tnumConsts", apart := false, narrowed := true }
def TnumConstsUptoSaid : Prop := tnumConstsUptoRow.holds Try.pinned (OpenSpec.upto tnumConstsSpec)

end Rows
end Go.Proofs.Ytbeikhokkpioeaa
