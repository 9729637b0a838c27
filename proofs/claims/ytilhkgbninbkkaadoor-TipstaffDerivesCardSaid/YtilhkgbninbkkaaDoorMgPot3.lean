/- Tokens: Helper, Command, Program, Map. Single operations of a region whose order is drawn: loads of structs, calls, new variables; and rights in such a region. A region that draws its order: values that are what they are, and one new variable. Nothing of the program. -/
import Derived.Test.YtilhkgbninbkkaaDoorTk4
import Derived.Test.YtilhkgbninbkkaaDoorInns
import Derived.Test.YtilhkgbninbkkaaDoorRi2
namespace Go.Proofs.YtilhkgbninbkkaaDoor
open Go Go.RowKit
end Go.Proofs.YtilhkgbninbkkaaDoor
namespace Go.Proofs.YtilhkgbninbkkaaDoor
open Go Go.RowKit
section
variable {P : Program} {ops : Array Oper} {Q : Exit → Act → World → Prop} {i : Nat} {o : Oper} {K : Act → World → Prop} {a : Act} {w : World}
theorem op_list (hi : ops[i]? = some o) (h : wpList P ops (behind Q K) [o] a w) : wpOp P ops Q i K a w :=
  wpOp_one (by simp only [List.filterMap_cons, hi, List.filterMap_nil]; exact h)
theorem op_alloc (hi : ops[i]? = some o) (hg : o.guard = none) (T : TypeId) (ho : o.op = .alloc T) (n : Nat) (f : Nat → Value) (hz : (P.info? T).map (fun i => (i.zero, i.size)) = some (some (.agg (cellsOf f n)), n))
    (M : Nat) (hM : Sz w M) (h : ∀ w1, Sz w1 (M + 1) → Below M w w1 → Has w1 M T n f → K (a.put o.dst (.pointer (some ⟨M, 0, none⟩))) w1) : wpOp P ops Q i K a w :=
  op_list hi (wpl_alloc hg T ho n f hz M hM h)
/-- A function that has a body. -/
def bodied (P : Program) (g : FuncId) : Bool := match P.funcs[g]? with | some fn => fn.name != "runtime.NumGoroutine" && fn.body.isSome | none => false
theorem op_call (hi : ops[i]? = some o) (hg : o.guard = none) (g : FuncId) (xs : Array Operand) (ts : Array TypeId) (ho : o.op = .call { callee := .value (.func g), args := xs, argTypes := ts }) (vs : Array Value) (hx : xs.map a.eval = vs)
    (hb : bodied P g = true) (r : Value) (R : World → Prop) (hc : Calls P g vs w fun e w' => e = .returned r ∧ R w') (h : ∀ w', R w' → K (a.put o.dst r) w') : wpOp P ops Q i K a w := by
  refine op_list hi (wpList_plain hg fun K' hK => ?_)
  have hrun : (execOp a.eval o).run P w = .ok (.enter g vs) w := by
    unfold bodied at hb
    cases hf : P.funcs[g]? with
    | none => rw [hf] at hb; cases hb
    | some fn =>
      rw [hf] at hb
      simp only [Bool.and_eq_true, bne_iff_ne, ne_eq] at hb
      have h2 : ¬ fn.body = none := fun e => by rw [e] at hb; exact absurd hb.2 (by simp)
      simp [execOp, ho, resolve, invoke, hx, Act.eval, Deferred.ofValue, callFunc, hf, hb.1, h2]
  unfold Oper.wp
  rw [hrun, Oper.upon_enter]
  refine hc.mono fun e w' hh => ?_
  obtain ⟨rfl, hR⟩ := hh
  exact hK _ _ (h _ hR)
end
section
variable {N M : Nat} {T : TypeId} {z : Rg} {V : Nat → Option Rg} {j i : Nat} {u v : Value} {w w' : World}
end
section
variable {P : Program} {ops : Array Oper} {Q : Exit → Act → World → Prop} {i : Nat} {o : Oper} {a : Act} {w w0 : World} {N : Nat} {T : TypeId} {z : Rg} {V : Nat → Option Rg} {rem : List Nat}
end
end Go.Proofs.YtilhkgbninbkkaaDoor
namespace Go.Proofs.YtilhkgbninbkkaaDoor
open Go Go.RowKit
/-- What is told of such an operation's value: it is that one, or a new variable. -/
def FV (N : Nat) (T : TypeId) (z : Rg) (V : Nat → Option Value) (j : Nat) (v : Value) (w : World) : Prop :=
  match V j with
  | some u => v = u
  | none => ∃ b, N ≤ b ∧ v = .pointer (some ⟨b, 0, none⟩) ∧ Has w b T 6 (rgC z)
section
variable {N M : Nat} {T : TypeId} {z : Rg} {V : Nat → Option Value} {j : Nat} {u v : Value} {w w' : World}
theorem FV.keep (h : FV N T z V j u w) (hM : Sz w M) (hb : Below M w w') : FV N T z V j u w' := by
  unfold FV at h ⊢
  cases e : V j with
  | some r => rw [e] at h; exact h
  | none =>
    rw [e] at h
    obtain ⟨b, h1, h2, h3⟩ := h
    exact ⟨b, h1, h2, h3.below hb (h3.ltN hM)⟩
theorem FV.val (h : FV N T z V j v w) {r : Value} (e : V j = some r) : v = r := by unfold FV at h; rw [e] at h; exact h
theorem FV.al (h : FV N T z V j v w) (e : V j = none) : ∃ b, N ≤ b ∧ v = .pointer (some ⟨b, 0, none⟩) ∧ Has w b T 6 (rgC z) := by unfold FV at h; rw [e] at h; exact h
end
/-- Nothing of two. -/
def NoB (_ _ : Nat) (_ _ : Value) : Prop := True
section
variable {P : Program} {ops : Array Oper} {Q : Exit → Act → World → Prop} {i : Nat} {o : Oper} {a : Act} {w w0 : World} {N : Nat} {T : TypeId} {z : Rg} {V : Nat → Option Value} {rem : List Nat}
/-- What each step owes. -/
def potV (ops : Array Oper) (w0 : World) (N : Nat) (T : TypeId) (z : Rg) (V : Nat → Option Value) (rem : List Nat) (i : Nat) (a : Act) (w : World) : Act → World → Prop := fun a' w' =>
  ∃ v, a' = a.put (dstOf ops i) v ∧ FV N T z V i v w' ∧ Below N w0 w' ∧ ∀ j ∈ rem, ∀ u, j ≠ i → FV N T z V j u w → FV N T z V j u w' ∧ NoB j i u v ∧ NoB i j v u
theorem potV_val (hi : ops[i]? = some o) (r : Value) (hV : V i = some r) (hN : Sz w0 N) (hI : Below N w0 w) (w' : World) (hb : ∀ M, Sz w M → Below M w w') : potV ops w0 N T z V rem i a w (a.put o.dst r) w' := by
  obtain ⟨M, hM⟩ := sz_some w
  have l := below_sz hI hN hM
  refine ⟨r, by unfold dstOf; rw [hi]; rfl, by unfold FV; rw [hV], hI.trans ((hb M hM).mono l), fun j _ u _ h => ⟨h.keep hM (hb M hM), trivial, trivial⟩⟩
theorem potv_run (hi : ops[i]? = some o) (hg : o.guard = none) (r : Value) (hV : V i = some r) (hrun : (execOp a.eval o).run P w = .ok (.value r) w) (hN : Sz w0 N) (hI : Below N w0 w) : wpOp P ops Q i (potV ops w0 N T z V rem i a w) a w := by
  refine op_list hi (wpList_plain hg fun K' hK => ?_)
  unfold Oper.wp
  rw [hrun]
  exact hK _ _ (potV_val hi r hV hN hI w (fun M _ => Below.refl M w))
theorem potv_cl (hi : ops[i]? = some o) (hg : o.guard = none) (g : FuncId) (xs : Array Operand) (ts : Array TypeId) (ho : o.op = .call { callee := .value (.func g), args := xs, argTypes := ts }) (vs : Array Value) (hx : xs.map a.eval = vs)
    (hbd : bodied P g = true) (r : Value) (hc : ∀ M, Sz w M → Calls P g vs w fun e w' => e = .returned r ∧ Below M w w') (hV : V i = some r) (hN : Sz w0 N) (hI : Below N w0 w) : wpOp P ops Q i (potV ops w0 N T z V rem i a w) a w := by
  obtain ⟨M, hM⟩ := sz_some w
  refine op_call hi hg g xs ts ho vs hx hbd r _ (hc M hM) (fun w' hb => potV_val hi r hV hN hI w' (fun M' hM' => ?_))
  obtain rfl : M = M' := hM.symm.trans hM'
  exact hb
theorem potv_al (hi : ops[i]? = some o) (hg : o.guard = none) (ho : o.op = .alloc T) (hz : (P.info? T).map (fun i => (i.zero, i.size)) = some (some (.agg (cellsOf (rgC z) 6)), 6)) (hV : V i = none) (hN : Sz w0 N) (hI : Below N w0 w) :
    wpOp P ops Q i (potV ops w0 N T z V rem i a w) a w := by
  obtain ⟨M, hM⟩ := sz_some w
  have l := below_sz hI hN hM
  refine op_alloc hi hg T ho 6 (rgC z) hz M hM (fun w1 hM1 hb1 hh1 => ⟨_, by unfold dstOf; rw [hi]; rfl, by unfold FV; rw [hV]; exact ⟨M, l, rfl, hh1⟩, hI.trans (hb1.mono l), fun j _ u _ h => ⟨h.keep hM hb1, trivial, trivial⟩⟩)
end
end Go.Proofs.YtilhkgbninbkkaaDoor
