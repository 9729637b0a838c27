/- RegionKept: of places that are kept. -/
import Derived.Test.YtjcjmlmdcjkceaaRn1
namespace Go.Proofs.Ytjcjmlmdcjkceaa
open Go Go.RowKit
theorem run_neq_op {P : Program} {a : Act} {w : World} {o : Oper} (t ty : TypeId) (x y : Operand) (ho : o.op = .binOp .neq t x y ty) (A B : Array Value) (hx : a.eval x = .agg A) (hy : a.eval y = .agg B) (r : Bool) (hm : P.eqGuardType P.depth t = false) (h : (Op.equalIn 10000 t (.agg A) (.agg B)).run P w = .ok r w) :
    (execOp a.eval o).run P w = .ok (.value (.bool (!r))) w := by
  unfold execOp
  simp only [ho, hx, hy, Sem.run_bind, run_eqGuard_agg w _ t x y A B hm, run_neq_struct, h, Result.andThen_ok, Sem.run_pure]
end Go.Proofs.Ytjcjmlmdcjkceaa
