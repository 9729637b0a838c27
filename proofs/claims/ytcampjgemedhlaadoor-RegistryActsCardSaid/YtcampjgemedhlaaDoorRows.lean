/-
  NARROWER THAN 'FOR EVERY INPUT', by the rows' own cells (each row's printed sentence says how): DigestSums: laid · DigestJoins: laid · DigestPads: laid · DigestParts: laid · LamportSigns: laid · LamportVerifies: laid · LamportBents: laid · LamportBits: laid · LamportLengths: laid · RegistryActs: laid · RegistryFull: laid · RegistryOrder: laid · RegistryAgain: laid · TipstaffSigns: laid.
  DERIVED. THE GIVEN ROWS OF THIS SEAT. 14 by the template 'for every input the law returns true; each argument reads behind the call as it read before'; 0 by the template 'total and deterministic' (their statements: YtcampjgemedhlaaDoorTotals.lean).
  GIVEN WITH THE SEED: the statements are not yours to turn. If you find one false, say at which input.
  Laid BY PROGRAM, IN A SANDBOX (cutbox-rows.mjs): the forced cells as the released guide's own fill.sh prints them over the translation b61362c53fe287ba… (all of the seat's roots in one cut). By AI agents, Wed Nov 11 2026. No macro, syntax, notation, axiom, sorry.
-/
import Derived.Test.YtcampjgemedhlaaDoorChecked
import GoSem.Claim
import GoSem.ClaimJoined
import GoSem.ClaimMapViews
import Derived.JoinedTies
import Derived.KernelRfl
namespace Go.Proofs.YtcampjgemedhlaaDoor
/- THE CELL 'sum', in the pinned program and in every row, IS THE sha256 OF THE DUMP (.gsa) THAT YtcampjgemedhlaaDoorProg.lean LOADS. Nothing in Lean hashes anything: it is a label: what it is worth is what the hold of that sum in a sandbox is worth. -/
noncomputable def Tryd.pinned : Pinned := { name := "ytcampjgemedhlaadoor", sum := "b61362c53fe287bab373cdb7f4b114ce8e55bb57082504fce49efa99ae65e0d9", checked := Tryd.checked }
namespace Rows
def none {H : Type} : Left H := { results := [], args := [] }

/- WHAT THE LISTED PACKAGE-LEVEL VARIABLES READ AS WHEN THE CALL BEGINS. Each datum BY PROGRAM (the guide's laid-datum.mjs) off the statement by which the dump's own 'gosem.cut.vars' lays the variable. In a bare row this is a premise. The card (YtcampjgemedhlaaDoorCards.lean) ties it to the program's text. -/
def laid_tipstaff_digest_beginnings {H : Type} : DataW H := .agg [.lit (.int .u32 1779033703), .lit (.int .u32 3144134277), .lit (.int .u32 1013904242), .lit (.int .u32 2773480762), .lit (.int .u32 1359893119), .lit (.int .u32 2600822924), .lit (.int .u32 528734635), .lit (.int .u32 1541459225)]
def laid_tipstaff_digest_constants {H : Type} : DataW H := .agg [.lit (.int .u32 1116352408), .lit (.int .u32 1899447441), .lit (.int .u32 3049323471), .lit (.int .u32 3921009573), .lit (.int .u32 961987163), .lit (.int .u32 1508970993), .lit (.int .u32 2453635748), .lit (.int .u32 2870763221), .lit (.int .u32 3624381080), .lit (.int .u32 310598401), .lit (.int .u32 607225278), .lit (.int .u32 1426881987), .lit (.int .u32 1925078388), .lit (.int .u32 2162078206), .lit (.int .u32 2614888103), .lit (.int .u32 3248222580), .lit (.int .u32 3835390401), .lit (.int .u32 4022224774), .lit (.int .u32 264347078), .lit (.int .u32 604807628), .lit (.int .u32 770255983), .lit (.int .u32 1249150122), .lit (.int .u32 1555081692), .lit (.int .u32 1996064986), .lit (.int .u32 2554220882), .lit (.int .u32 2821834349), .lit (.int .u32 2952996808), .lit (.int .u32 3210313671), .lit (.int .u32 3336571891), .lit (.int .u32 3584528711), .lit (.int .u32 113926993), .lit (.int .u32 338241895), .lit (.int .u32 666307205), .lit (.int .u32 773529912), .lit (.int .u32 1294757372), .lit (.int .u32 1396182291), .lit (.int .u32 1695183700), .lit (.int .u32 1986661051), .lit (.int .u32 2177026350), .lit (.int .u32 2456956037), .lit (.int .u32 2730485921), .lit (.int .u32 2820302411), .lit (.int .u32 3259730800), .lit (.int .u32 3345764771), .lit (.int .u32 3516065817), .lit (.int .u32 3600352804), .lit (.int .u32 4094571909), .lit (.int .u32 275423344), .lit (.int .u32 430227734), .lit (.int .u32 506948616), .lit (.int .u32 659060556), .lit (.int .u32 883997877), .lit (.int .u32 958139571), .lit (.int .u32 1322822218), .lit (.int .u32 1537002063), .lit (.int .u32 1747873779), .lit (.int .u32 1955562222), .lit (.int .u32 2024104815), .lit (.int .u32 2227730452), .lit (.int .u32 2361852424), .lit (.int .u32 2428436474), .lit (.int .u32 2756734187), .lit (.int .u32 3204031479), .lit (.int .u32 3329325298)]

/-- 'tipstafflaw01.DigestSums': WHATEVER THE INPUT: true; the input reads as it did. -/
def digestSumsSpec : ChangeSpec := { name := "digestSums", fn := fun _ => fun
  | [d] => { results := [.lit (.bool true)], args := [d] }
  | _ => none }
def digestSumsRow : OpenClaim := { program := "ytcampjgemedhlaadoor", sum := "b61362c53fe287bab373cdb7f4b114ce8e55bb57082504fce49efa99ae65e0d9", func := "tipstaff/tipstafflaw01.DigestSums", spec := "digestSums", named := ["tipstaff/digest.beginnings", "tipstaff/digest.constants"], apart := false, laid := [("tipstaff/digest.beginnings", laid_tipstaff_digest_beginnings), ("tipstaff/digest.constants", laid_tipstaff_digest_constants)] }
def DigestSumsSaid : Prop := digestSumsRow.holds Tryd.pinned (OpenSpec.ofChange digestSumsSpec)

/-- ITS FALSE NEIGHBOUR: 'it returns false'. Refute it at one input. -/
def digestSumsWrong : ChangeSpec := { name := "digestSums", fn := fun _ => fun
  | [d] => { results := [.lit (.bool false)], args := [d] }
  | _ => none }
def DigestSumsWrongFalsely : Prop := digestSumsRow.holds Tryd.pinned (OpenSpec.ofChange digestSumsWrong)

/-- 'tipstafflaw01.DigestJoins': WHATEVER THE INPUT: true; the input reads as it did. -/
def digestJoinsSpec : ChangeSpec := { name := "digestJoins", fn := fun _ => fun
  | [d1, d2] => { results := [.lit (.bool true)], args := [d1, d2] }
  | _ => none }
def digestJoinsRow : OpenClaim := { program := "ytcampjgemedhlaadoor", sum := "b61362c53fe287bab373cdb7f4b114ce8e55bb57082504fce49efa99ae65e0d9", func := "tipstaff/tipstafflaw01.DigestJoins", spec := "digestJoins", named := ["tipstaff/digest.beginnings", "tipstaff/digest.constants"], apart := false, laid := [("tipstaff/digest.beginnings", laid_tipstaff_digest_beginnings), ("tipstaff/digest.constants", laid_tipstaff_digest_constants)] }
def DigestJoinsSaid : Prop := digestJoinsRow.holds Tryd.pinned (OpenSpec.ofChange digestJoinsSpec)

/-- ITS FALSE NEIGHBOUR: 'it returns false'. Refute it at one input. -/
def digestJoinsWrong : ChangeSpec := { name := "digestJoins", fn := fun _ => fun
  | [d1, d2] => { results := [.lit (.bool false)], args := [d1, d2] }
  | _ => none }
def DigestJoinsWrongFalsely : Prop := digestJoinsRow.holds Tryd.pinned (OpenSpec.ofChange digestJoinsWrong)

/-- 'tipstafflaw01.DigestPads': WHATEVER THE INPUT: true; the input reads as it did. -/
def digestPadsSpec : ChangeSpec := { name := "digestPads", fn := fun _ => fun
  | [d1, d2] => { results := [.lit (.bool true)], args := [d1, d2] }
  | _ => none }
def digestPadsRow : OpenClaim := { program := "ytcampjgemedhlaadoor", sum := "b61362c53fe287bab373cdb7f4b114ce8e55bb57082504fce49efa99ae65e0d9", func := "tipstaff/tipstafflaw01.DigestPads", spec := "digestPads", named := ["tipstaff/digest.beginnings", "tipstaff/digest.constants"], apart := false, laid := [("tipstaff/digest.beginnings", laid_tipstaff_digest_beginnings), ("tipstaff/digest.constants", laid_tipstaff_digest_constants)] }
def DigestPadsSaid : Prop := digestPadsRow.holds Tryd.pinned (OpenSpec.ofChange digestPadsSpec)

/-- ITS FALSE NEIGHBOUR: 'it returns false'. Refute it at one input. -/
def digestPadsWrong : ChangeSpec := { name := "digestPads", fn := fun _ => fun
  | [d1, d2] => { results := [.lit (.bool false)], args := [d1, d2] }
  | _ => none }
def DigestPadsWrongFalsely : Prop := digestPadsRow.holds Tryd.pinned (OpenSpec.ofChange digestPadsWrong)

/-- 'tipstafflaw01.DigestParts': WHATEVER THE INPUT: true; the input reads as it did. -/
def digestPartsSpec : ChangeSpec := { name := "digestParts", fn := fun _ => fun
  | [d] => { results := [.lit (.bool true)], args := [d] }
  | _ => none }
def digestPartsRow : OpenClaim := { program := "ytcampjgemedhlaadoor", sum := "b61362c53fe287bab373cdb7f4b114ce8e55bb57082504fce49efa99ae65e0d9", func := "tipstaff/tipstafflaw01.DigestParts", spec := "digestParts", named := ["tipstaff/digest.beginnings", "tipstaff/digest.constants"], apart := false, laid := [("tipstaff/digest.beginnings", laid_tipstaff_digest_beginnings), ("tipstaff/digest.constants", laid_tipstaff_digest_constants)] }
def DigestPartsSaid : Prop := digestPartsRow.holds Tryd.pinned (OpenSpec.ofChange digestPartsSpec)

/-- ITS FALSE NEIGHBOUR: 'it returns false'. Refute it at one input. -/
def digestPartsWrong : ChangeSpec := { name := "digestParts", fn := fun _ => fun
  | [d] => { results := [.lit (.bool false)], args := [d] }
  | _ => none }
def DigestPartsWrongFalsely : Prop := digestPartsRow.holds Tryd.pinned (OpenSpec.ofChange digestPartsWrong)

/-- 'tipstafflaw02.LamportSigns': WHATEVER THE INPUT: true; the input reads as it did. -/
def lamportSignsSpec : ChangeSpec := { name := "lamportSigns", fn := fun _ => fun
  | [d1, d2] => { results := [.lit (.bool true)], args := [d1, d2] }
  | _ => none }
def lamportSignsRow : OpenClaim := { program := "ytcampjgemedhlaadoor", sum := "b61362c53fe287bab373cdb7f4b114ce8e55bb57082504fce49efa99ae65e0d9", func := "tipstaff/tipstafflaw02.LamportSigns", spec := "lamportSigns", named := ["tipstaff/digest.beginnings", "tipstaff/digest.constants"], apart := false, laid := [("tipstaff/digest.beginnings", laid_tipstaff_digest_beginnings), ("tipstaff/digest.constants", laid_tipstaff_digest_constants)] }
def LamportSignsSaid : Prop := lamportSignsRow.holds Tryd.pinned (OpenSpec.ofChange lamportSignsSpec)

/-- ITS FALSE NEIGHBOUR: 'it returns false'. Refute it at one input. -/
def lamportSignsWrong : ChangeSpec := { name := "lamportSigns", fn := fun _ => fun
  | [d1, d2] => { results := [.lit (.bool false)], args := [d1, d2] }
  | _ => none }
def LamportSignsWrongFalsely : Prop := lamportSignsRow.holds Tryd.pinned (OpenSpec.ofChange lamportSignsWrong)

/-- 'tipstafflaw02.LamportVerifies': WHATEVER THE INPUT: true; the input reads as it did. -/
def lamportVerifiesSpec : ChangeSpec := { name := "lamportVerifies", fn := fun _ => fun
  | [d1, d2, d3] => { results := [.lit (.bool true)], args := [d1, d2, d3] }
  | _ => none }
def lamportVerifiesRow : OpenClaim := { program := "ytcampjgemedhlaadoor", sum := "b61362c53fe287bab373cdb7f4b114ce8e55bb57082504fce49efa99ae65e0d9", func := "tipstaff/tipstafflaw02.LamportVerifies", spec := "lamportVerifies", named := ["tipstaff/digest.beginnings", "tipstaff/digest.constants"], apart := false, laid := [("tipstaff/digest.beginnings", laid_tipstaff_digest_beginnings), ("tipstaff/digest.constants", laid_tipstaff_digest_constants)] }
def LamportVerifiesSaid : Prop := lamportVerifiesRow.holds Tryd.pinned (OpenSpec.ofChange lamportVerifiesSpec)

/-- ITS FALSE NEIGHBOUR: 'it returns false'. Refute it at one input. -/
def lamportVerifiesWrong : ChangeSpec := { name := "lamportVerifies", fn := fun _ => fun
  | [d1, d2, d3] => { results := [.lit (.bool false)], args := [d1, d2, d3] }
  | _ => none }
def LamportVerifiesWrongFalsely : Prop := lamportVerifiesRow.holds Tryd.pinned (OpenSpec.ofChange lamportVerifiesWrong)

/-- 'tipstafflaw02.LamportBents': WHATEVER THE INPUT: true; the input reads as it did. -/
def lamportBentsSpec : ChangeSpec := { name := "lamportBents", fn := fun _ => fun
  | [d1, d2, d3] => { results := [.lit (.bool true)], args := [d1, d2, d3] }
  | _ => none }
def lamportBentsRow : OpenClaim := { program := "ytcampjgemedhlaadoor", sum := "b61362c53fe287bab373cdb7f4b114ce8e55bb57082504fce49efa99ae65e0d9", func := "tipstaff/tipstafflaw02.LamportBents", spec := "lamportBents", named := ["tipstaff/digest.beginnings", "tipstaff/digest.constants"], apart := false, laid := [("tipstaff/digest.beginnings", laid_tipstaff_digest_beginnings), ("tipstaff/digest.constants", laid_tipstaff_digest_constants)] }
def LamportBentsSaid : Prop := lamportBentsRow.holds Tryd.pinned (OpenSpec.ofChange lamportBentsSpec)

/-- ITS FALSE NEIGHBOUR: 'it returns false'. Refute it at one input. -/
def lamportBentsWrong : ChangeSpec := { name := "lamportBents", fn := fun _ => fun
  | [d1, d2, d3] => { results := [.lit (.bool false)], args := [d1, d2, d3] }
  | _ => none }
def LamportBentsWrongFalsely : Prop := lamportBentsRow.holds Tryd.pinned (OpenSpec.ofChange lamportBentsWrong)

/-- 'tipstafflaw02.LamportBits': WHATEVER THE INPUT: true; the input reads as it did. -/
def lamportBitsSpec : ChangeSpec := { name := "lamportBits", fn := fun _ => fun
  | [d1, d2, d3] => { results := [.lit (.bool true)], args := [d1, d2, d3] }
  | _ => none }
def lamportBitsRow : OpenClaim := { program := "ytcampjgemedhlaadoor", sum := "b61362c53fe287bab373cdb7f4b114ce8e55bb57082504fce49efa99ae65e0d9", func := "tipstaff/tipstafflaw02.LamportBits", spec := "lamportBits", named := ["tipstaff/digest.beginnings", "tipstaff/digest.constants"], apart := false, laid := [("tipstaff/digest.beginnings", laid_tipstaff_digest_beginnings), ("tipstaff/digest.constants", laid_tipstaff_digest_constants)] }
def LamportBitsSaid : Prop := lamportBitsRow.holds Tryd.pinned (OpenSpec.ofChange lamportBitsSpec)

/-- ITS FALSE NEIGHBOUR: 'it returns false'. Refute it at one input. -/
def lamportBitsWrong : ChangeSpec := { name := "lamportBits", fn := fun _ => fun
  | [d1, d2, d3] => { results := [.lit (.bool false)], args := [d1, d2, d3] }
  | _ => none }
def LamportBitsWrongFalsely : Prop := lamportBitsRow.holds Tryd.pinned (OpenSpec.ofChange lamportBitsWrong)

/-- 'tipstafflaw02.LamportLengths': WHATEVER THE INPUT: true; the input reads as it did. -/
def lamportLengthsSpec : ChangeSpec := { name := "lamportLengths", fn := fun _ => fun
  | [d1, d2, d3] => { results := [.lit (.bool true)], args := [d1, d2, d3] }
  | _ => none }
def lamportLengthsRow : OpenClaim := { program := "ytcampjgemedhlaadoor", sum := "b61362c53fe287bab373cdb7f4b114ce8e55bb57082504fce49efa99ae65e0d9", func := "tipstaff/tipstafflaw02.LamportLengths", spec := "lamportLengths", named := ["tipstaff/digest.beginnings", "tipstaff/digest.constants"], apart := false, laid := [("tipstaff/digest.beginnings", laid_tipstaff_digest_beginnings), ("tipstaff/digest.constants", laid_tipstaff_digest_constants)] }
def LamportLengthsSaid : Prop := lamportLengthsRow.holds Tryd.pinned (OpenSpec.ofChange lamportLengthsSpec)

/-- ITS FALSE NEIGHBOUR: 'it returns false'. Refute it at one input. -/
def lamportLengthsWrong : ChangeSpec := { name := "lamportLengths", fn := fun _ => fun
  | [d1, d2, d3] => { results := [.lit (.bool false)], args := [d1, d2, d3] }
  | _ => none }
def LamportLengthsWrongFalsely : Prop := lamportLengthsRow.holds Tryd.pinned (OpenSpec.ofChange lamportLengthsWrong)

/-- 'tipstafflaw03.RegistryActs': WHATEVER THE INPUT: true; the input reads as it did. -/
def registryActsSpec : ChangeSpec := { name := "registryActs", fn := fun _ => fun
  | [d] => { results := [.lit (.bool true)], args := [d] }
  | _ => none }
def registryActsRow : OpenClaim := { program := "ytcampjgemedhlaadoor", sum := "b61362c53fe287bab373cdb7f4b114ce8e55bb57082504fce49efa99ae65e0d9", func := "tipstaff/tipstafflaw03.RegistryActs", spec := "registryActs", named := ["tipstaff/digest.beginnings", "tipstaff/digest.constants"], apart := false, laid := [("tipstaff/digest.beginnings", laid_tipstaff_digest_beginnings), ("tipstaff/digest.constants", laid_tipstaff_digest_constants)] }
def RegistryActsSaid : Prop := registryActsRow.holds Tryd.pinned (OpenSpec.ofChange registryActsSpec)

/-- ITS FALSE NEIGHBOUR: 'it returns false'. Refute it at one input. -/
def registryActsWrong : ChangeSpec := { name := "registryActs", fn := fun _ => fun
  | [d] => { results := [.lit (.bool false)], args := [d] }
  | _ => none }
def RegistryActsWrongFalsely : Prop := registryActsRow.holds Tryd.pinned (OpenSpec.ofChange registryActsWrong)

/-- 'tipstafflaw03.RegistryFull': WHATEVER THE INPUT: true; the input reads as it did. -/
def registryFullSpec : ChangeSpec := { name := "registryFull", fn := fun _ => fun
  | [d1, d2] => { results := [.lit (.bool true)], args := [d1, d2] }
  | _ => none }
def registryFullRow : OpenClaim := { program := "ytcampjgemedhlaadoor", sum := "b61362c53fe287bab373cdb7f4b114ce8e55bb57082504fce49efa99ae65e0d9", func := "tipstaff/tipstafflaw03.RegistryFull", spec := "registryFull", named := ["tipstaff/digest.beginnings", "tipstaff/digest.constants"], apart := false, laid := [("tipstaff/digest.beginnings", laid_tipstaff_digest_beginnings), ("tipstaff/digest.constants", laid_tipstaff_digest_constants)] }
def RegistryFullSaid : Prop := registryFullRow.holds Tryd.pinned (OpenSpec.ofChange registryFullSpec)

/-- ITS FALSE NEIGHBOUR: 'it returns false'. Refute it at one input. -/
def registryFullWrong : ChangeSpec := { name := "registryFull", fn := fun _ => fun
  | [d1, d2] => { results := [.lit (.bool false)], args := [d1, d2] }
  | _ => none }
def RegistryFullWrongFalsely : Prop := registryFullRow.holds Tryd.pinned (OpenSpec.ofChange registryFullWrong)

/-- 'tipstafflaw03.RegistryOrder': WHATEVER THE INPUT: true; the input reads as it did. -/
def registryOrderSpec : ChangeSpec := { name := "registryOrder", fn := fun _ => fun
  | [d1, d2] => { results := [.lit (.bool true)], args := [d1, d2] }
  | _ => none }
def registryOrderRow : OpenClaim := { program := "ytcampjgemedhlaadoor", sum := "b61362c53fe287bab373cdb7f4b114ce8e55bb57082504fce49efa99ae65e0d9", func := "tipstaff/tipstafflaw03.RegistryOrder", spec := "registryOrder", named := ["tipstaff/digest.beginnings", "tipstaff/digest.constants"], apart := false, laid := [("tipstaff/digest.beginnings", laid_tipstaff_digest_beginnings), ("tipstaff/digest.constants", laid_tipstaff_digest_constants)] }
def RegistryOrderSaid : Prop := registryOrderRow.holds Tryd.pinned (OpenSpec.ofChange registryOrderSpec)

/-- ITS FALSE NEIGHBOUR: 'it returns false'. Refute it at one input. -/
def registryOrderWrong : ChangeSpec := { name := "registryOrder", fn := fun _ => fun
  | [d1, d2] => { results := [.lit (.bool false)], args := [d1, d2] }
  | _ => none }
def RegistryOrderWrongFalsely : Prop := registryOrderRow.holds Tryd.pinned (OpenSpec.ofChange registryOrderWrong)

/-- 'tipstafflaw03.RegistryAgain': WHATEVER THE INPUT: true; the input reads as it did. -/
def registryAgainSpec : ChangeSpec := { name := "registryAgain", fn := fun _ => fun
  | [d1, d2] => { results := [.lit (.bool true)], args := [d1, d2] }
  | _ => none }
def registryAgainRow : OpenClaim := { program := "ytcampjgemedhlaadoor", sum := "b61362c53fe287bab373cdb7f4b114ce8e55bb57082504fce49efa99ae65e0d9", func := "tipstaff/tipstafflaw03.RegistryAgain", spec := "registryAgain", named := ["tipstaff/digest.beginnings", "tipstaff/digest.constants"], apart := false, laid := [("tipstaff/digest.beginnings", laid_tipstaff_digest_beginnings), ("tipstaff/digest.constants", laid_tipstaff_digest_constants)] }
def RegistryAgainSaid : Prop := registryAgainRow.holds Tryd.pinned (OpenSpec.ofChange registryAgainSpec)

/-- ITS FALSE NEIGHBOUR: 'it returns false'. Refute it at one input. -/
def registryAgainWrong : ChangeSpec := { name := "registryAgain", fn := fun _ => fun
  | [d1, d2] => { results := [.lit (.bool false)], args := [d1, d2] }
  | _ => none }
def RegistryAgainWrongFalsely : Prop := registryAgainRow.holds Tryd.pinned (OpenSpec.ofChange registryAgainWrong)

/-- 'tipstafftop.TipstaffSigns': WHATEVER THE INPUT: true; the input reads as it did. -/
def tipstaffSignsSpec : ChangeSpec := { name := "tipstaffSigns", fn := fun _ => fun
  | [d1, d2, d3] => { results := [.lit (.bool true)], args := [d1, d2, d3] }
  | _ => none }
def tipstaffSignsRow : OpenClaim := { program := "ytcampjgemedhlaadoor", sum := "b61362c53fe287bab373cdb7f4b114ce8e55bb57082504fce49efa99ae65e0d9", func := "tipstaff/tipstafftop.TipstaffSigns", spec := "tipstaffSigns", named := ["tipstaff/digest.beginnings", "tipstaff/digest.constants"], apart := false, laid := [("tipstaff/digest.beginnings", laid_tipstaff_digest_beginnings), ("tipstaff/digest.constants", laid_tipstaff_digest_constants)] }
def TipstaffSignsSaid : Prop := tipstaffSignsRow.holds Tryd.pinned (OpenSpec.ofChange tipstaffSignsSpec)

/-- ITS FALSE NEIGHBOUR: 'it returns false'. Refute it at one input. -/
def tipstaffSignsWrong : ChangeSpec := { name := "tipstaffSigns", fn := fun _ => fun
  | [d1, d2, d3] => { results := [.lit (.bool false)], args := [d1, d2, d3] }
  | _ => none }
def TipstaffSignsWrongFalsely : Prop := tipstaffSignsRow.holds Tryd.pinned (OpenSpec.ofChange tipstaffSignsWrong)

/- THE SECOND FORM. 'bulk': how many values and letters a reading holds, each counted each time it is reached (what is shared counts as often as it is met; a slice's spare places count too). A statement '..UptoSaid' is the law's where the arguments, and the package variables that the reading takes, are together of bulk at most 1048576: NARROWER than '..Said'. Prove '..Said' where nothing that the law and all that it calls make is longer than what came in: it says more and counts as full. Else prove '..UptoSaid'. A law counts once. -/
mutual
def uptoBulk {H : Type} : DataW H → Nat
  | .lit (.string bytes) => bytes.length + 1
  | .lit _ => 1
  | .nil => 1
  | .ptr d => uptoBulk d + 1
  | .slice elems spare => uptoBulkAll elems + uptoBulkAll spare + 1
  | .agg parts => uptoBulkAll parts + 1
  | .iface _ d => uptoBulk d + 1
  | .map entries => uptoBulkEntries entries + 1
  | .held _ => 1
def uptoBulkAll {H : Type} : List (DataW H) → Nat
  | [] => 0
  | d :: r => uptoBulk d + uptoBulkAll r
def uptoBulkEntries {H : Type} : List (Lit × DataW H) → Nat
  | [] => 0
  | x :: r => uptoBulkEntry x + uptoBulkEntries r
def uptoBulkEntry {H : Type} : Lit × DataW H → Nat
  | (.string bytes, d) => bytes.length + uptoBulk d + 1
  | (_, d) => uptoBulk d + 1
 end
def uptoSmall : (H : Type) → List (DataW H) → Bool := fun _ ds => decide (uptoBulkAll ds ≤ 1048576)
def OpenSpec.upto (s : _root_.Go.ChangeSpec) : _root_.Go.OpenSpec := { _root_.Go.OpenSpec.ofChange s with cond := some uptoSmall }

/-- 'tipstafflaw01.DigestSums', WHERE WHAT IT READS IS OF BULK AT MOST 1048576: true; the input reads as it did. -/
def digestSumsUptoRow : OpenClaim := { program := "ytcampjgemedhlaadoor", sum := "b61362c53fe287bab373cdb7f4b114ce8e55bb57082504fce49efa99ae65e0d9", func := "tipstaff/tipstafflaw01.DigestSums", spec := "digestSums", named := ["tipstaff/digest.beginnings", "tipstaff/digest.constants"], apart := false, laid := [("tipstaff/digest.beginnings", laid_tipstaff_digest_beginnings), ("tipstaff/digest.constants", laid_tipstaff_digest_constants)], narrowed := true }
def DigestSumsUptoSaid : Prop := digestSumsUptoRow.holds Tryd.pinned (OpenSpec.upto digestSumsSpec)

/-- 'tipstafflaw01.DigestJoins', WHERE WHAT IT READS IS OF BULK AT MOST 1048576: true; the input reads as it did. -/
def digestJoinsUptoRow : OpenClaim := { program := "ytcampjgemedhlaadoor", sum := "b61362c53fe287bab373cdb7f4b114ce8e55bb57082504fce49efa99ae65e0d9", func := "tipstaff/tipstafflaw01.DigestJoins", spec := "digestJoins", named := ["tipstaff/digest.beginnings", "tipstaff/digest.constants"], apart := false, laid := [("tipstaff/digest.beginnings", laid_tipstaff_digest_beginnings), ("tipstaff/digest.constants", laid_tipstaff_digest_constants)], narrowed := true }
def DigestJoinsUptoSaid : Prop := digestJoinsUptoRow.holds Tryd.pinned (OpenSpec.upto digestJoinsSpec)

/-- 'tipstafflaw01.DigestPads', WHERE WHAT IT READS IS OF BULK AT MOST 1048576: true; the input reads as it did. -/
def digestPadsUptoRow : OpenClaim := { program := "ytcampjgemedhlaadoor", sum := "b61362c53fe287bab373cdb7f4b114ce8e55bb57082504fce49efa99ae65e0d9", func := "tipstaff/tipstafflaw01.DigestPads", spec := "digestPads", named := ["tipstaff/digest.beginnings", "tipstaff/digest.constants"], apart := false, laid := [("tipstaff/digest.beginnings", laid_tipstaff_digest_beginnings), ("tipstaff/digest.constants", laid_tipstaff_digest_constants)], narrowed := true }
def DigestPadsUptoSaid : Prop := digestPadsUptoRow.holds Tryd.pinned (OpenSpec.upto digestPadsSpec)

/-- 'tipstafflaw01.DigestParts', WHERE WHAT IT READS IS OF BULK AT MOST 1048576: true; the input reads as it did. -/
def digestPartsUptoRow : OpenClaim := { program := "ytcampjgemedhlaadoor", sum := "b61362c53fe287bab373cdb7f4b114ce8e55bb57082504fce49efa99ae65e0d9", func := "tipstaff/tipstafflaw01.DigestParts", spec := "digestParts", named := ["tipstaff/digest.beginnings", "tipstaff/digest.constants"], apart := false, laid := [("tipstaff/digest.beginnings", laid_tipstaff_digest_beginnings), ("tipstaff/digest.constants", laid_tipstaff_digest_constants)], narrowed := true }
def DigestPartsUptoSaid : Prop := digestPartsUptoRow.holds Tryd.pinned (OpenSpec.upto digestPartsSpec)

/-- 'tipstafflaw02.LamportSigns', WHERE WHAT IT READS IS OF BULK AT MOST 1048576: true; the input reads as it did. -/
def lamportSignsUptoRow : OpenClaim := { program := "ytcampjgemedhlaadoor", sum := "b61362c53fe287bab373cdb7f4b114ce8e55bb57082504fce49efa99ae65e0d9", func := "tipstaff/tipstafflaw02.LamportSigns", spec := "lamportSigns", named := ["tipstaff/digest.beginnings", "tipstaff/digest.constants"], apart := false, laid := [("tipstaff/digest.beginnings", laid_tipstaff_digest_beginnings), ("tipstaff/digest.constants", laid_tipstaff_digest_constants)], narrowed := true }
def LamportSignsUptoSaid : Prop := lamportSignsUptoRow.holds Tryd.pinned (OpenSpec.upto lamportSignsSpec)

/-- 'tipstafflaw02.LamportVerifies', WHERE WHAT IT READS IS OF BULK AT MOST 1048576: true; the input reads as it did. -/
def lamportVerifiesUptoRow : OpenClaim := { program := "ytcampjgemedhlaadoor", sum := "b61362c53fe287bab373cdb7f4b114ce8e55bb57082504fce49efa99ae65e0d9", func := "tipstaff/tipstafflaw02.LamportVerifies", spec := "lamportVerifies", named := ["tipstaff/digest.beginnings", "tipstaff/digest.constants"], apart := false, laid := [("tipstaff/digest.beginnings", laid_tipstaff_digest_beginnings), ("tipstaff/digest.constants", laid_tipstaff_digest_constants)], narrowed := true }
def LamportVerifiesUptoSaid : Prop := lamportVerifiesUptoRow.holds Tryd.pinned (OpenSpec.upto lamportVerifiesSpec)

/-- 'tipstafflaw02.LamportBents', WHERE WHAT IT READS IS OF BULK AT MOST 1048576: true; the input reads as it did. -/
def lamportBentsUptoRow : OpenClaim := { program := "ytcampjgemedhlaadoor", sum := "b61362c53fe287bab373cdb7f4b114ce8e55bb57082504fce49efa99ae65e0d9", func := "tipstaff/tipstafflaw02.LamportBents", spec := "lamportBents", named := ["tipstaff/digest.beginnings", "tipstaff/digest.constants"], apart := false, laid := [("tipstaff/digest.beginnings", laid_tipstaff_digest_beginnings), ("tipstaff/digest.constants", laid_tipstaff_digest_constants)], narrowed := true }
def LamportBentsUptoSaid : Prop := lamportBentsUptoRow.holds Tryd.pinned (OpenSpec.upto lamportBentsSpec)

/-- 'tipstafflaw02.LamportBits', WHERE WHAT IT READS IS OF BULK AT MOST 1048576: true; the input reads as it did. -/
def lamportBitsUptoRow : OpenClaim := { program := "ytcampjgemedhlaadoor", sum := "b61362c53fe287bab373cdb7f4b114ce8e55bb57082504fce49efa99ae65e0d9", func := "tipstaff/tipstafflaw02.LamportBits", spec := "lamportBits", named := ["tipstaff/digest.beginnings", "tipstaff/digest.constants"], apart := false, laid := [("tipstaff/digest.beginnings", laid_tipstaff_digest_beginnings), ("tipstaff/digest.constants", laid_tipstaff_digest_constants)], narrowed := true }
def LamportBitsUptoSaid : Prop := lamportBitsUptoRow.holds Tryd.pinned (OpenSpec.upto lamportBitsSpec)

/-- 'tipstafflaw02.LamportLengths', WHERE WHAT IT READS IS OF BULK AT MOST 1048576: true; the input reads as it did. -/
def lamportLengthsUptoRow : OpenClaim := { program := "ytcampjgemedhlaadoor", sum := "b61362c53fe287bab373cdb7f4b114ce8e55bb57082504fce49efa99ae65e0d9", func := "tipstaff/tipstafflaw02.LamportLengths", spec := "lamportLengths", named := ["tipstaff/digest.beginnings", "tipstaff/digest.constants"], apart := false, laid := [("tipstaff/digest.beginnings", laid_tipstaff_digest_beginnings), ("tipstaff/digest.constants", laid_tipstaff_digest_constants)], narrowed := true }
def LamportLengthsUptoSaid : Prop := lamportLengthsUptoRow.holds Tryd.pinned (OpenSpec.upto lamportLengthsSpec)

/-- 'tipstafflaw03.RegistryActs', WHERE WHAT IT READS IS OF BULK AT MOST 1048576: true; the input reads as it did. -/
def registryActsUptoRow : OpenClaim := { program := "ytcampjgemedhlaadoor", sum := "b61362c53fe287bab373cdb7f4b114ce8e55bb57082504fce49efa99ae65e0d9", func := "tipstaff/tipstafflaw03.RegistryActs", spec := "registryActs", named := ["tipstaff/digest.beginnings", "tipstaff/digest.constants"], apart := false, laid := [("tipstaff/digest.beginnings", laid_tipstaff_digest_beginnings), ("tipstaff/digest.constants", laid_tipstaff_digest_constants)], narrowed := true }
def RegistryActsUptoSaid : Prop := registryActsUptoRow.holds Tryd.pinned (OpenSpec.upto registryActsSpec)

/-- 'tipstafflaw03.RegistryFull', WHERE WHAT IT READS IS OF BULK AT MOST 1048576: true; the input reads as it did. -/
def registryFullUptoRow : OpenClaim := { program := "ytcampjgemedhlaadoor", sum := "b61362c53fe287bab373cdb7f4b114ce8e55bb57082504fce49efa99ae65e0d9", func := "tipstaff/tipstafflaw03.RegistryFull", spec := "registryFull", named := ["tipstaff/digest.beginnings", "tipstaff/digest.constants"], apart := false, laid := [("tipstaff/digest.beginnings", laid_tipstaff_digest_beginnings), ("tipstaff/digest.constants", laid_tipstaff_digest_constants)], narrowed := true }
def RegistryFullUptoSaid : Prop := registryFullUptoRow.holds Tryd.pinned (OpenSpec.upto registryFullSpec)

/-- 'tipstafflaw03.RegistryOrder', WHERE WHAT IT READS IS OF BULK AT MOST 1048576: true; the input reads as it did. -/
def registryOrderUptoRow : OpenClaim := { program := "ytcampjgemedhlaadoor", sum := "b61362c53fe287bab373cdb7f4b114ce8e55bb57082504fce49efa99ae65e0d9", func := "tipstaff/tipstafflaw03.RegistryOrder", spec := "registryOrder", named := ["tipstaff/digest.beginnings", "tipstaff/digest.constants"], apart := false, laid := [("tipstaff/digest.beginnings", laid_tipstaff_digest_beginnings), ("tipstaff/digest.constants", laid_tipstaff_digest_constants)], narrowed := true }
def RegistryOrderUptoSaid : Prop := registryOrderUptoRow.holds Tryd.pinned (OpenSpec.upto registryOrderSpec)

/-- 'tipstafflaw03.RegistryAgain', WHERE WHAT IT READS IS OF BULK AT MOST 1048576: true; the input reads as it did. -/
def registryAgainUptoRow : OpenClaim := { program := "ytcampjgemedhlaadoor", sum := "b61362c53fe287bab373cdb7f4b114ce8e55bb57082504fce49efa99ae65e0d9", func := "tipstaff/tipstafflaw03.RegistryAgain", spec := "registryAgain", named := ["tipstaff/digest.beginnings", "tipstaff/digest.constants"], apart := false, laid := [("tipstaff/digest.beginnings", laid_tipstaff_digest_beginnings), ("tipstaff/digest.constants", laid_tipstaff_digest_constants)], narrowed := true }
def RegistryAgainUptoSaid : Prop := registryAgainUptoRow.holds Tryd.pinned (OpenSpec.upto registryAgainSpec)

/-- 'tipstafftop.TipstaffSigns', WHERE WHAT IT READS IS OF BULK AT MOST 1048576: true; the input reads as it did. -/
def tipstaffSignsUptoRow : OpenClaim := { program := "ytcampjgemedhlaadoor", sum := "b61362c53fe287bab373cdb7f4b114ce8e55bb57082504fce49efa99ae65e0d9", func := "tipstaff/tipstafftop.TipstaffSigns", spec := "tipstaffSigns", named := ["tipstaff/digest.beginnings", "tipstaff/digest.constants"], apart := false, laid := [("tipstaff/digest.beginnings", laid_tipstaff_digest_beginnings), ("tipstaff/digest.constants", laid_tipstaff_digest_constants)], narrowed := true }
def TipstaffSignsUptoSaid : Prop := tipstaffSignsUptoRow.holds Tryd.pinned (OpenSpec.upto tipstaffSignsSpec)

end Rows
end Go.Proofs.YtcampjgemedhlaaDoor
