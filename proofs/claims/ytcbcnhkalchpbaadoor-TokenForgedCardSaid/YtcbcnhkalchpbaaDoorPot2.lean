/- Single operations of a region whose order is drawn: loads of structs, calls, new variables; and rights in such a region. -/
import Derived.Test.YtcbcnhkalchpbaaDoorPot
import Derived.Test.YtcbcnhkalchpbaaDoorRi2
namespace Go.Proofs.YtcbcnhkalchpbaaDoor
open Go Go.RowKit
section
variable {P : Program} {ops : Array Oper} {Q : Exit → Act → World → Prop} {i : Nat} {o : Oper} {K : Act → World → Prop} {a : Act} {w : World}
theorem op_list (hi : ops[i]? = some o) (h : wpList P ops (behind Q K) [o] a w) : wpOp P ops Q i K a w :=
  wpOp_one (by simp only [List.filterMap_cons, hi, List.filterMap_nil]; exact h)
theorem op_load (hi : ops[i]? = some o) (hg : o.guard = none) (ty : TypeId) (x : Operand) (ho : o.op = .load ty x) (b : Nat) (hx : a.eval x = .pointer (some ⟨b, 0, none⟩)) (T : TypeId) (n : Nat) (f : Nat → Value) (hh : Has w b T n f)
    (hu : ∃ d, P.underlying ty = some d ∧ d.isRow = true) (hs : (P.info? ty).map (·.size) = some n) (h : K (a.put o.dst (.agg (cellsOf f n))) w) : wpOp P ops Q i K a w := by
  obtain ⟨d, h1, h2⟩ := hu
  exact op_list hi (wpl_load hg ty x ho b hx T n f hh d h1 h2 hs h)
theorem op_alloc (hi : ops[i]? = some o) (hg : o.guard = none) (T : TypeId) (ho : o.op = .alloc T) (n : Nat) (f : Nat → Value) (hz : (P.info? T).map (fun i => (i.zero, i.size)) = some (some (.agg (cellsOf f n)), n))
    (M : Nat) (hM : Sz w M) (h : ∀ w1, Sz w1 (M + 1) → Below M w w1 → Has w1 M T n f → K (a.put o.dst (.pointer (some ⟨M, 0, none⟩))) w1) : wpOp P ops Q i K a w :=
  op_list hi (wpl_alloc hg T ho n f hz M hM h)
/-- A function that has a body. -/
def bodied (P : Program) (g : FuncId) : Bool := match P.funcs[g]? with | some fn => fn.name != "runtime.NumGoroutine" && fn.body.isSome | none => false
theorem op_call (hi : ops[i]? = some o) (hg : o.guard = none) (g : FuncId) (xs : Array Operand) (ts : Array TypeId) (ho : o.op = .call { callee := .value (.func g), args := xs, argTypes := ts }) (vs : Array Value) (hx : xs.map a.eval = vs)
    (hb : bodied P g = true) (r : Value) (R : World → Prop) (hc : Calls P g vs w fun e w' => e = .returned r ∧ R w') (h : ∀ w', R w' → K (a.put o.dst r) w') : wpOp P ops Q i K a w := by
  refine op_list hi (wpList_plain hg fun K' hK => ?_)
  have hrun : (execOp a.eval o).run P w = .ok (.enter g vs) w := by
    unfold bodied at hb
    cases hf : P.funcs[g]? with
    | none => rw [hf] at hb; cases hb
    | some fn =>
      rw [hf] at hb
      simp only [Bool.and_eq_true, bne_iff_ne, ne_eq] at hb
      have h2 : ¬ fn.body = none := fun e => by rw [e] at hb; exact absurd hb.2 (by simp)
      simp [execOp, ho, resolve, invoke, hx, Act.eval, Deferred.ofValue, callFunc, hf, hb.1, h2]
  unfold Oper.wp
  rw [hrun, Oper.upon_enter]
  refine hc.mono fun e w' hh => ?_
  obtain ⟨rfl, hR⟩ := hh
  exact hK _ _ (h _ hR)
end
/-- What is told of such an operation's value: rights, or a new variable. -/
def FR (N : Nat) (T : TypeId) (z : Rg) (V : Nat → Option Rg) (j : Nat) (v : Value) (w : World) : Prop :=
  match V j with
  | some r => v = rgV r
  | none => ∃ b, N ≤ b ∧ v = .pointer (some ⟨b, 0, none⟩) ∧ Has w b T 6 (rgC z)
section
variable {N M : Nat} {T : TypeId} {z : Rg} {V : Nat → Option Rg} {j i : Nat} {u v : Value} {w w' : World}
theorem FR.keep (h : FR N T z V j u w) (hM : Sz w M) (hb : Below M w w') : FR N T z V j u w' := by
  unfold FR at h ⊢
  cases e : V j with
  | some r => rw [e] at h; exact h
  | none =>
    rw [e] at h
    obtain ⟨b, h1, h2, h3⟩ := h
    exact ⟨b, h1, h2, h3.below hb (h3.ltN hM)⟩
theorem two_agg (j i : Nat) (u : Value) (r : Rg) : TwoB j i u (rgV r) ∧ TwoB i j (rgV r) u := by
  constructor
  · intro b c _ h2; cases h2
  · intro b c h1 _; cases h1
theorem FR.two (h : FR N T z V j u w) (hM : Sz w M) (i c : Nat) (hc : M ≤ c) : TwoB j i u (.pointer (some ⟨c, 0, none⟩)) ∧ TwoB i j (.pointer (some ⟨c, 0, none⟩)) u := by
  unfold FR at h
  cases e : V j with
  | some r =>
    rw [e] at h
    subst h
    constructor
    · intro b c h1 _; cases h1
    · intro b c _ h2; cases h2
  | none =>
    rw [e] at h
    obtain ⟨b, h1, rfl, h3⟩ := h
    have hl := h3.ltN hM
    constructor
    · intro b' c' e1 e2
      obtain rfl : b = b' := by injection e1 with e1; injection e1 with e1; injection e1
      obtain rfl : c = c' := by injection e2 with e2; injection e2 with e2; injection e2
      omega
    · intro b' c' e1 e2
      obtain rfl : c = b' := by injection e1 with e1; injection e1 with e1; injection e1
      obtain rfl : b = c' := by injection e2 with e2; injection e2 with e2; injection e2
      omega
end
section
variable {P : Program} {ops : Array Oper} {Q : Exit → Act → World → Prop} {i : Nat} {o : Oper} {a : Act} {w w0 : World} {N : Nat} {T : TypeId} {z : Rg} {V : Nat → Option Rg} {rem : List Nat}
/-- What each step owes. -/
def potK (ops : Array Oper) (w0 : World) (N : Nat) (T : TypeId) (z : Rg) (V : Nat → Option Rg) (rem : List Nat) (i : Nat) (a : Act) (w : World) : Act → World → Prop := fun a' w' =>
  ∃ v, a' = a.put (dstOf ops i) v ∧ FR N T z V i v w' ∧ Below N w0 w' ∧ ∀ j ∈ rem, ∀ u, j ≠ i → FR N T z V j u w → FR N T z V j u w' ∧ TwoB j i u v ∧ TwoB i j v u
theorem potK_rg (hi : ops[i]? = some o) (r : Rg) (hV : V i = some r) (hN : Sz w0 N) (hI : Below N w0 w) (w' : World) (hb : ∀ M, Sz w M → Below M w w') : potK ops w0 N T z V rem i a w (a.put o.dst (rgV r)) w' := by
  obtain ⟨M, hM⟩ := sz_some w
  have l := below_sz hI hN hM
  refine ⟨rgV r, by unfold dstOf; rw [hi]; rfl, by unfold FR; rw [hV], hI.trans ((hb M hM).mono l), fun j _ u _ h => ⟨h.keep hM (hb M hM), two_agg j i u r⟩⟩
theorem pot_ld (hi : ops[i]? = some o) (hg : o.guard = none) (ty : TypeId) (x : Operand) (ho : o.op = .load ty x) (b : Nat) (hx : a.eval x = .pointer (some ⟨b, 0, none⟩)) (T' : TypeId) (r : Rg) (hh : Has w0 b T' 6 (rgC r))
    (hu : ∃ d, P.underlying ty = some d ∧ d.isRow = true) (hs : (P.info? ty).map (·.size) = some 6) (hV : V i = some r) (hN : Sz w0 N) (hI : Below N w0 w) : wpOp P ops Q i (potK ops w0 N T z V rem i a w) a w :=
  op_load hi hg ty x ho b hx T' 6 (rgC r) (hh.below hI (hh.ltN hN)) hu hs (potK_rg hi r hV hN hI w (fun M _ => Below.refl M w))
theorem pot_cl (hi : ops[i]? = some o) (hg : o.guard = none) (g : FuncId) (xs : Array Operand) (ts : Array TypeId) (ho : o.op = .call { callee := .value (.func g), args := xs, argTypes := ts }) (vs : Array Value) (hx : xs.map a.eval = vs)
    (hbd : bodied P g = true) (r : Rg) (hc : ∀ M, Sz w M → Calls P g vs w fun e w' => e = .returned (rgV r) ∧ Below M w w') (hV : V i = some r) (hN : Sz w0 N) (hI : Below N w0 w) : wpOp P ops Q i (potK ops w0 N T z V rem i a w) a w := by
  obtain ⟨M, hM⟩ := sz_some w
  refine op_call hi hg g xs ts ho vs hx hbd (rgV r) _ (hc M hM) (fun w' hb => potK_rg hi r hV hN hI w' (fun M' hM' => ?_))
  obtain rfl : M = M' := hM.symm.trans hM'
  exact hb
theorem pot_al (hi : ops[i]? = some o) (hg : o.guard = none) (ho : o.op = .alloc T) (hz : (P.info? T).map (fun i => (i.zero, i.size)) = some (some (.agg (cellsOf (rgC z) 6)), 6)) (hV : V i = none) (hN : Sz w0 N) (hI : Below N w0 w) :
    wpOp P ops Q i (potK ops w0 N T z V rem i a w) a w := by
  obtain ⟨M, hM⟩ := sz_some w
  have l := below_sz hI hN hM
  refine op_alloc hi hg T ho 6 (rgC z) hz M hM (fun w1 hM1 hb1 hh1 => ⟨_, by unfold dstOf; rw [hi]; rfl, by unfold FR; rw [hV]; exact ⟨M, l, rfl, hh1⟩, hI.trans (hb1.mono l), fun j _ u _ h => ⟨h.keep hM hb1, h.two hM i M (Nat.le_refl M)⟩⟩)
end
end Go.Proofs.YtcbcnhkalchpbaaDoor
