/- Contracts of operations of ranges: products, shifts. -/
import Derived.Test.YtbbfdehipgkjmaaDoorSe2
namespace Go.Proofs.YtbbfdehipgkjmaaDoor
open Go Go.RowKit
def mul64F (x : W) (y : W) : W × W :=
 (((((x >>> (32#64).toNat) * (y >>> (32#64).toNat)) + ((((x >>> (32#64).toNat) * (y &&& 4294967295#64)) + (((x &&& 4294967295#64) * (y &&& 4294967295#64)) >>> (32#64).toNat)) >>> (32#64).toNat)) + ((((((x >>> (32#64).toNat) * (y &&& 4294967295#64)) + (((x &&& 4294967295#64) * (y &&& 4294967295#64)) >>> (32#64).toNat)) &&& 4294967295#64) + ((x &&& 4294967295#64) * (y >>> (32#64).toNat))) >>> (32#64).toNat)), (x * y))
def mulR (a : Rn) (b : Rn) : Rn :=
 bif ((mul64F a.hi b.hi).1 == 0#64) then bif (shortF a) then bif (shortF b) then ⟨(obR (tMul a.b b.b)).b, (a.lo * b.lo), (mul64F a.hi b.hi).2, (sMin4 (a.sl * b.sl) (a.sl * b.sh) (a.sh * b.sl) (a.sh * b.sh)), (sMax4 (a.sl * b.sl) (a.sl * b.sh) (a.sh * b.sl) (a.sh * b.sh))⟩
   else ⟨(obR (tMul a.b b.b)).b, (a.lo * b.lo), (mul64F a.hi b.hi).2, (obR (tMul a.b b.b)).sl, (obR (tMul a.b b.b)).sh⟩
  else ⟨(obR (tMul a.b b.b)).b, (a.lo * b.lo), (mul64F a.hi b.hi).2, (obR (tMul a.b b.b)).sl, (obR (tMul a.b b.b)).sh⟩
 else bif (shortF a) then bif (shortF b) then ⟨(obR (tMul a.b b.b)).b, (obR (tMul a.b b.b)).lo, (obR (tMul a.b b.b)).hi, (sMin4 (a.sl * b.sl) (a.sl * b.sh) (a.sh * b.sl) (a.sh * b.sh)), (sMax4 (a.sl * b.sl) (a.sl * b.sh) (a.sh * b.sl) (a.sh * b.sh))⟩
  else (obR (tMul a.b b.b))
 else (obR (tMul a.b b.b))
end Go.Proofs.YtbbfdehipgkjmaaDoor
