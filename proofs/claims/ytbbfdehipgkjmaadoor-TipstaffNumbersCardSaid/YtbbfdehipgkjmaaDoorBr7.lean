/- Laws of conversions to and from signed numbers of 32 bits. -/
import Derived.Test.YtbbfdehipgkjmaaDoorBr6
namespace Go.Proofs.YtbbfdehipgkjmaaDoor
open Go Go.RowKit
theorem run_uj {P : Program} {a : Act} {o : Oper} {src dst : TypeId} {x : Operand} (ho : o.op = .convert src dst x) {k : IntKind} {p : W} (hs : P.underlying src = some (.int k)) (hd : P.underlying dst = some (.int .i32)) (hx : a.eval x = Q p) (w : World) : (execOp a.eval o).run P w = .ok (.value (Jv (s32 p))) w := by
  rw [run_conv ho hs hd hx w, wrap_j]
  have e : BitVec.ofInt 32 (qn p) = s32 p := by
    apply BitVec.eq_of_toNat_eq
    unfold s32 qn
    rw [BitVec.toNat_ofInt, BitVec.toNat_setWidth]
    omega
  rw [e]; rfl
theorem run_ji {P : Program} {a : Act} {o : Oper} {src dst : TypeId} {x : Operand} (ho : o.op = .convert src dst x) {k : IntKind} {p : BitVec 32} (hs : P.underlying src = some (.int k)) (hd : P.underlying dst = some (.int .i64)) (hx : a.eval x = Jv p) (w : World) : (execOp a.eval o).run P w = .ok (.value (S (p.signExtend 64))) w := by
  rw [run_conv ho hs hd hx w, wrap_s]; rfl
end Go.Proofs.YtbbfdehipgkjmaaDoor
