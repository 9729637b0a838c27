/- bmap: keys of one byte, rests of bytes. -/
import Derived.Test.YtjdclgnlnehjlaaDoorBm10
import Derived.Test.YtjdclgnlnehjlaaDoorInns
namespace Go.Proofs.YtjdclgnlnehjlaaDoor
open Go Go.RowKit
def b8 (c : Nat) : BitVec 8 := BitVec.ofNat 8 c
theorem by_nat (c : Nat) (hc : c < 256) : Value.int .u8 (c : Int) = By (b8 c) := by
  unfold By v8 b8
  rw [BitVec.toNat_ofNat, Nat.mod_eq_of_lt (by omega)]
section
variable {ops : Array Oper} {rest : List Oper} {o : Oper} {a : Act} {w : World} {Q : Exit → Act → World → Prop}
end
end Go.Proofs.YtjdclgnlnehjlaaDoor
