/- Single operations of a region whose order is drawn: loads of structs, calls, new variables; and rights in such a region. -/
import Derived.Test.YtilhkgbninbkkaaDoorInns
import Derived.Test.YtilhkgbninbkkaaDoorRi2
namespace Go.Proofs.YtilhkgbninbkkaaDoor
open Go Go.RowKit
section
variable {P : Program} {ops : Array Oper} {Q : Exit → Act → World → Prop} {i : Nat} {o : Oper} {K : Act → World → Prop} {a : Act} {w : World}
theorem op_list (hi : ops[i]? = some o) (h : wpList P ops (behind Q K) [o] a w) : wpOp P ops Q i K a w :=
  wpOp_one (by simp only [List.filterMap_cons, hi, List.filterMap_nil]; exact h)
theorem op_alloc (hi : ops[i]? = some o) (hg : o.guard = none) (T : TypeId) (ho : o.op = .alloc T) (n : Nat) (f : Nat → Value) (hz : (P.info? T).map (fun i => (i.zero, i.size)) = some (some (.agg (cellsOf f n)), n))
    (M : Nat) (hM : Sz w M) (h : ∀ w1, Sz w1 (M + 1) → Below M w w1 → Has w1 M T n f → K (a.put o.dst (.pointer (some ⟨M, 0, none⟩))) w1) : wpOp P ops Q i K a w :=
  op_list hi (wpl_alloc hg T ho n f hz M hM h)
/-- A function that has a body. -/
def bodied (P : Program) (g : FuncId) : Bool := match P.funcs[g]? with | some fn => fn.name != "runtime.NumGoroutine" && fn.body.isSome | none => false
theorem op_call (hi : ops[i]? = some o) (hg : o.guard = none) (g : FuncId) (xs : Array Operand) (ts : Array TypeId) (ho : o.op = .call { callee := .value (.func g), args := xs, argTypes := ts }) (vs : Array Value) (hx : xs.map a.eval = vs)
    (hb : bodied P g = true) (r : Value) (R : World → Prop) (hc : Calls P g vs w fun e w' => e = .returned r ∧ R w') (h : ∀ w', R w' → K (a.put o.dst r) w') : wpOp P ops Q i K a w := by
  refine op_list hi (wpList_plain hg fun K' hK => ?_)
  have hrun : (execOp a.eval o).run P w = .ok (.enter g vs) w := by
    unfold bodied at hb
    cases hf : P.funcs[g]? with
    | none => rw [hf] at hb; cases hb
    | some fn =>
      rw [hf] at hb
      simp only [Bool.and_eq_true, bne_iff_ne, ne_eq] at hb
      have h2 : ¬ fn.body = none := fun e => by rw [e] at hb; exact absurd hb.2 (by simp)
      simp [execOp, ho, resolve, invoke, hx, Act.eval, Deferred.ofValue, callFunc, hf, hb.1, h2]
  unfold Oper.wp
  rw [hrun, Oper.upon_enter]
  refine hc.mono fun e w' hh => ?_
  obtain ⟨rfl, hR⟩ := hh
  exact hK _ _ (h _ hR)
end
section
variable {N M : Nat} {T : TypeId} {z : Rg} {V : Nat → Option Rg} {j i : Nat} {u v : Value} {w w' : World}
end
section
variable {P : Program} {ops : Array Oper} {Q : Exit → Act → World → Prop} {i : Nat} {o : Oper} {a : Act} {w w0 : World} {N : Nat} {T : TypeId} {z : Rg} {V : Nat → Option Rg} {rem : List Nat}
end
end Go.Proofs.YtilhkgbninbkkaaDoor
