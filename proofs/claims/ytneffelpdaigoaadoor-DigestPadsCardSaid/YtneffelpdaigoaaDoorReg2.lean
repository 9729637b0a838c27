/- Two operations may come up, and both ways meet again at the region's end. -/
import Derived.Test.YtneffelpdaigoaaDoorReg
import Derived.Laws.StructEq
namespace Go.Proofs.YtneffelpdaigoaaDoor
open Go Go.RowKit
theorem wpAny_join {P : Program} {md : Region.Mode} {ops : Array Oper} {Q : Exit → Act → World → Prop} (i j : Nat) (r s : List Nat) (fuel : Nat) (listed : Array Bool) (a : Act) (w : World) {α : Type} (F : Act → α → Act) (R : α → World → Prop)
    (hr : Region.ready md ops listed = [i, j]) (hc : ((ops[i]?).isSome && (ops[j]?).isSome && chained md ops (listed.setIfInBounds i true) r && chained md ops (listed.setIfInBounds j true) s && decide (r.length ≤ fuel) && decide (s.length ≤ fuel)) = true)
    (h1 : Hid (∀ x w', R x w' → wpList P ops Q [] (F a x) w') → wpList P ops Q ((i :: r).filterMap (ops[·]?)) a w) (h2 : Hid (∀ x w', R x w' → wpList P ops Q [] (F a x) w') → wpList P ops Q ((j :: s).filterMap (ops[·]?)) a w)
    (ht : ∀ x w', R x w' → wpList P ops Q [] (F a x) w') : wpAny P md ops Q (fuel + 1) listed a w :=
  wpAny_fork i j r s fuel listed a w hr hc (h1 (hid ht)) (h2 (hid ht))
section
variable {P : Program} {ops : Array Oper} {rest : List Oper} {o : Oper} {a : Act} {w : World} {Q : Exit → Act → World → Prop}
/-- '!=' of two structs or arrays, from what '==' tells. -/
theorem wpl_neq (hgd : o.guard = none) (t ty : TypeId) (x y : Operand) (ho : o.op = .binOp .neq t x y ty) (A B : Array Value) (hx : a.eval x = .agg A) (hy : a.eval y = .agg B) (r : Bool) (hm : P.eqGuardType P.depth t = false) (h : (Op.equalIn 10000 t (.agg A) (.agg B)).run P w = .ok r w)
    (hk : wpList P ops Q rest (a.put o.dst (.bool (!r))) w) : wpList P ops Q (o :: rest) a w := by
  refine wpList_plain hgd fun K hK => ?_
  unfold Oper.wp execOp
  simp only [ho, hx, hy, Sem.run_bind, run_eqGuard_agg w _ t x y A B hm, run_neq_struct, h, Result.andThen_ok, Sem.run_pure]
  exact hK _ _ hk
theorem wpl_eql (hgd : o.guard = none) (t ty : TypeId) (x y : Operand) (ho : o.op = .binOp .eql t x y ty) (A B : Array Value) (hx : a.eval x = .agg A) (hy : a.eval y = .agg B) (r : Bool) (hm : P.eqGuardType P.depth t = false) (h : (Op.equalIn 10000 t (.agg A) (.agg B)).run P w = .ok r w)
    (hk : wpList P ops Q rest (a.put o.dst (.bool r)) w) : wpList P ops Q (o :: rest) a w := by
  refine wpList_plain hgd fun K hK => ?_
  unfold Oper.wp execOp
  simp only [ho, hx, hy, Sem.run_bind, run_eqGuard_agg w _ t x y A B hm, run_eql_struct, h, Result.andThen_ok, Sem.run_pure]
  exact hK _ _ hk
/-- What '==' of two structs or arrays runs to, and '!='. -/
theorem run_eql_op (t ty : TypeId) (x y : Operand) (ho : o.op = .binOp .eql t x y ty) (A B : Array Value) (hx : a.eval x = .agg A) (hy : a.eval y = .agg B) (r : Bool) (hm : P.eqGuardType P.depth t = false) (h : (Op.equalIn 10000 t (.agg A) (.agg B)).run P w = .ok r w) :
    (execOp a.eval o).run P w = .ok (.value (.bool r)) w := by
  unfold execOp
  simp only [ho, hx, hy, Sem.run_bind, run_eqGuard_agg w _ t x y A B hm, run_eql_struct, h, Result.andThen_ok, Sem.run_pure]
end
end Go.Proofs.YtneffelpdaigoaaDoor
