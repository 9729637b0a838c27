/- A region that draws its order: values that are what they are, and new variables of whatever types, each once. Nothing of the program. -/
import Derived.Test.YtkljnpdojmcipaaPot
import Derived.Test.YtkljnpdojmcipaaRegB
namespace Go.Proofs.Ytkljnpdojmcipaa
open Go Go.RowKit
/-- What is told of such an operation's value: it is that one, or a new variable. -/
def FG (N : Nat) (V : Nat → Option Value) (A : Nat → TypeId × Nat × (Nat → Value)) (j : Nat) (v : Value) (w : World) : Prop :=
  match V j with
  | some u => v = u
  | none => ∃ b, N ≤ b ∧ v = .pointer (some ⟨b, 0, none⟩) ∧ Has w b (A j).1 (A j).2.1 (A j).2.2
section
variable {N M : Nat} {V : Nat → Option Value} {A : Nat → TypeId × Nat × (Nat → Value)} {j : Nat} {u v : Value} {w w' : World}
theorem FG.keep (h : FG N V A j u w) (hM : Sz w M) (hb : Below M w w') : FG N V A j u w' := by
  unfold FG at h ⊢
  cases e : V j with
  | some r => rw [e] at h; exact h
  | none =>
    rw [e] at h
    obtain ⟨b, h1, h2, h3⟩ := h
    exact ⟨b, h1, h2, h3.below hb (h3.ltN hM)⟩
theorem FG.val (h : FG N V A j v w) {r : Value} (e : V j = some r) : v = r := by unfold FG at h; rw [e] at h; exact h
theorem FG.al (h : FG N V A j v w) (e : V j = none) {T : TypeId} {n : Nat} {f : Nat → Value} (ea : A j = (T, n, f)) : ∃ b, N ≤ b ∧ v = .pointer (some ⟨b, 0, none⟩) ∧ Has w b T n f := by
  unfold FG at h; rw [e] at h; obtain ⟨b, h1, h2, h3⟩ := h; rw [ea] at h3; exact ⟨b, h1, h2, h3⟩
end
/-- Two new variables are two. -/
def TwoN (V : Nat → Option Value) (j k : Nat) (u v : Value) : Prop := V j = none → V k = none → ∀ b c : Nat, u = .pointer (some ⟨b, 0, none⟩) → v = .pointer (some ⟨c, 0, none⟩) → b ≠ c
theorem not_dstG {ops : Array Oper} {rem : List Nat} {t : Tmp} (h : (rem.all fun j => dstOf ops j != some t) = true) : ∀ j ∈ rem, dstOf ops j ≠ some t := fun j hj => by
  have := List.all_eq_true.1 h j hj
  simpa using this
theorem size_dstG {ops : Array Oper} {rem : List Nat} {n : Nat} (h : (rem.all fun j => match dstOf ops j with | some t => decide (t < n) | none => true) = true) : ∀ i ∈ rem, ∀ t, dstOf ops i = some t → t < n := fun i hi t ht => by
  have := List.all_eq_true.1 h i hi
  rw [ht] at this
  simpa using this
/-- A function that has a body. -/
def bodiedG (P : Program) (g : FuncId) : Bool := match P.funcs[g]? with | some fn => fn.name != "runtime.NumGoroutine" && fn.body.isSome | none => false
section
variable {P : Program} {ops : Array Oper} {Q : Exit → Act → World → Prop} {i : Nat} {o : Oper} {a : Act} {w w0 : World} {N : Nat} {V : Nat → Option Value} {A : Nat → TypeId × Nat × (Nat → Value)} {rem : List Nat}
theorem opg_list {K : Act → World → Prop} (hi : ops[i]? = some o) (h : wpList P ops (behind Q K) [o] a w) : wpOp P ops Q i K a w :=
  wpOp_one (by simp only [List.filterMap_cons, hi, List.filterMap_nil]; exact h)
/-- What each step owes. -/
def potG (ops : Array Oper) (w0 : World) (N : Nat) (V : Nat → Option Value) (A : Nat → TypeId × Nat × (Nat → Value)) (rem : List Nat) (i : Nat) (a : Act) (w : World) : Act → World → Prop := fun a' w' =>
  ∃ v, a' = a.put (dstOf ops i) v ∧ FG N V A i v w' ∧ Below N w0 w' ∧ ∀ j ∈ rem, ∀ u, j ≠ i → FG N V A j u w → FG N V A j u w' ∧ TwoN V j i u v ∧ TwoN V i j v u
theorem potg_val (hi : ops[i]? = some o) (r : Value) (hV : V i = some r) (hN : Sz w0 N) (hI : Below N w0 w) (w' : World) (hb : ∀ M, Sz w M → Below M w w') : potG ops w0 N V A rem i a w (a.put o.dst r) w' := by
  obtain ⟨M, hM⟩ := sz_some w
  have l := below_sz hI hN hM
  exact ⟨r, by unfold dstOf; rw [hi]; rfl, by unfold FG; rw [hV], hI.trans ((hb M hM).mono l), fun j _ u _ h => ⟨h.keep hM (hb M hM), fun _ e => (by rw [hV] at e; cases e), fun e => (by rw [hV] at e; cases e)⟩⟩
theorem potg_run (hi : ops[i]? = some o) (hg : o.guard = none) (r : Value) (hV : V i = some r) (hrun : (execOp a.eval o).run P w = .ok (.value r) w) (hN : Sz w0 N) (hI : Below N w0 w) : wpOp P ops Q i (potG ops w0 N V A rem i a w) a w := by
  refine opg_list hi (wpList_plain hg fun K' hK => ?_)
  unfold Oper.wp
  rw [hrun]
  exact hK _ _ (potg_val hi r hV hN hI w (fun M _ => Below.refl M w))
theorem potg_cl (hi : ops[i]? = some o) (hg : o.guard = none) (g : FuncId) (xs : Array Operand) (ts : Array TypeId) (ho : o.op = .call { callee := .value (.func g), args := xs, argTypes := ts }) (vs : Array Value) (hx : xs.map a.eval = vs)
    (hbd : bodiedG P g = true) (r : Value) (hc : ∀ M, Sz w M → Calls P g vs w fun e w' => e = .returned r ∧ Below M w w') (hV : V i = some r) (hN : Sz w0 N) (hI : Below N w0 w) : wpOp P ops Q i (potG ops w0 N V A rem i a w) a w := by
  obtain ⟨M, hM⟩ := sz_some w
  refine opg_list hi (wpList_plain hg fun K' hK => ?_)
  have hrun : (execOp a.eval o).run P w = .ok (.enter g vs) w := by
    unfold bodiedG at hbd
    cases hf : P.funcs[g]? with
    | none => rw [hf] at hbd; cases hbd
    | some fn =>
      rw [hf] at hbd
      simp only [Bool.and_eq_true, bne_iff_ne, ne_eq] at hbd
      have h2 : ¬ fn.body = none := fun e => by rw [e] at hbd; exact absurd hbd.2 (by simp)
      simp [execOp, ho, resolve, invoke, hx, Act.eval, Deferred.ofValue, callFunc, hf, hbd.1, h2]
  unfold Oper.wp
  rw [hrun, Oper.upon_enter]
  refine (hc M hM).mono fun e w' hh => ?_
  obtain ⟨rfl, hR⟩ := hh
  exact hK _ _ (potg_val hi r hV hN hI w' (fun M' hM' => by obtain rfl : M = M' := hM.symm.trans hM'; exact hR))
theorem potg_al (hi : ops[i]? = some o) (hg : o.guard = none) {T : TypeId} (ho : o.op = .alloc T) {n : Nat} {f : Nat → Value} (hz : (P.info? T).map (fun i => (i.zero, i.size)) = some (some (.agg (cellsOf f n)), n)) (hV : V i = none) (hA : A i = (T, n, f)) (hN : Sz w0 N) (hI : Below N w0 w) :
    wpOp P ops Q i (potG ops w0 N V A rem i a w) a w := by
  obtain ⟨M, hM⟩ := sz_some w
  have l := below_sz hI hN hM
  refine opg_list hi (wpl_alloc hg T ho n f hz M hM fun w1 hM1 hb1 hh1 => ?_)
  refine ⟨_, by unfold dstOf; rw [hi]; rfl, by unfold FG; rw [hV]; exact ⟨M, l, rfl, by rw [hA]; exact hh1⟩, hI.trans (hb1.mono l), fun j _ u _ h => ⟨h.keep hM hb1, ?_, ?_⟩⟩
  · intro ej _ b c h1 h2
    unfold FG at h; rw [ej] at h
    obtain ⟨b', h3, h4, h5⟩ := h
    rw [h1] at h4
    injection h2 with h2; injection h2 with h2; injection h2 with h2
    injection h4 with h4; injection h4 with h4; injection h4 with h4
    have := h5.ltN hM
    omega
  · intro _ ej b c h1 h2
    unfold FG at h; rw [ej] at h
    obtain ⟨b', h3, h4, h5⟩ := h
    rw [h2] at h4
    injection h1 with h1; injection h1 with h1; injection h1 with h1
    injection h4 with h4; injection h4 with h4; injection h4 with h4
    have := h5.ltN hM
    omega
end
end Go.Proofs.Ytkljnpdojmcipaa
