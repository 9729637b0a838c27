/- The builtin min of two numbers, by its outcome. Nothing of the program. -/
import Derived.Test.YtilhkgbninbkkaaDoorInns
import Derived.Laws.Small
namespace Go.Proofs.YtilhkgbninbkkaaDoor
open Go Go.RowKit
variable {P : Program} {ops : Array Oper} {rest : List Oper} {o : Oper} {a : Act} {w : World} {Q : Exit → Act → World → Prop}
theorem wpl_min (hgd : o.guard = none) (x y : Operand) (T : TypeId) (ho : o.op = .call { callee := .builtin .min, args := #[x, y], argTypes := #[T, T] }) (n m c : Nat) (hx : a.eval x = .int .i64 (n : Int)) (hy : a.eval y = .int .i64 (m : Int)) (hc : Hid (c = min n m))
    (h : wpList P ops Q rest (a.put o.dst (.int .i64 (c : Int))) w) : wpList P ops Q (o :: rest) a w := by
  refine wpList_plain hgd fun K hK => ?_
  have e : (if (m : Int) < (n : Int) then (m : Int) else (n : Int)) = (c : Int) := by have := hc.out; split <;> omega
  have hrun : (Builtin.min_ #[T, T] o.type #[.int .i64 (n : Int), .int .i64 (m : Int)]).run P w = .ok (.int .i64 (c : Int)) w := by
    rw [run_min_int2, e]
  unfold Oper.wp
  simp [execOp, ho, resolve, invoke, builtin, hx, hy, hrun, Result.andThen]
  exact hK _ _ h
end Go.Proofs.YtilhkgbninbkkaaDoor
