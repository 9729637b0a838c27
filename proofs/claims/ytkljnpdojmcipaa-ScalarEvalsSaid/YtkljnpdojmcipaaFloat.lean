/- A region that draws its order, in which an operation that reads may come up at any time: what it reads is kept by all others. -/
import Derived.Test.YtkljnpdojmcipaaRegB
namespace Go.Proofs.Ytkljnpdojmcipaa
open Go Go.RowKit
section
variable {P : Program} {md : Region.Mode} {ops : Array Oper} {Q : Exit → Act → World → Prop}
/-- As wpAny, and what I says holds behind each operation. -/
def anyI (P : Program) (md : Region.Mode) (ops : Array Oper) (Q : Exit → Act → World → Prop) (I : World → Prop) : Nat → Array Bool → Act → World → Prop
  | 0, listed, a, w => Region.ready md ops listed = [] ∧ Q .normal a w
  | fuel + 1, listed, a, w => (Region.ready md ops listed = [] → Q .normal a w) ∧ ∀ i ∈ Region.ready md ops listed, wpOp P ops Q i (fun a' w' => I w' ∧ anyI P md ops Q I fuel (listed.setIfInBounds i true) a' w') a w
theorem anyI_any {I : World → Prop} : ∀ (fuel : Nat) (listed : Array Bool) (a : Act) (w : World), anyI P md ops Q I fuel listed a w → wpAny P md ops Q fuel listed a w
  | 0, _, _, _, h => h
  | fuel + 1, listed, _, _, h => ⟨h.1, fun i hi => wpOp_mono (fun a' w' h' => anyI_any fuel _ a' w' h'.2) (h.2 i hi)⟩
/-- An operation that yields v wherever I holds. -/
def YI (P : Program) (ops : Array Oper) (I : World → Prop) (o : Oper) (v : Value) (a : Act) : Prop :=
  Region.wanted o (yielded ops a.tmps) = true ∧ ∀ w, I w → (execOp a.eval o).run P w = .ok (.value v) w
/-- One operation, and a value that is put into another one's slot ahead of it or behind it. -/
theorem wpOp_carry {j : Nat} {oi oj : Oper} {v : Value} (hj : ops[j]? = some oj) (hap : oi.apart ops oj = true) (hsj : ∀ cs b, oj.op ≠ .select cs b)
    (hQ : ∀ c a w, Q (.panic c) (a.put oi.dst v) w → Q (.panic c) a w) (Y : Act → Prop) (hput : ∀ a u, Y a → Y (a.put oj.dst u)) (hdef : ∀ a d, Y a → Y { a with defers := d :: a.defers })
    {K : Act → World → Prop} {a : Act} {w : World} (hy : Y a) (h : wpOp P ops Q j K (a.put oi.dst v) w) : wpOp P ops Q j (fun a' w' => Y a' ∧ K (a'.put oi.dst v) w') a w := by
  obtain ⟨h1, h2, _⟩ := Oper.apart_spec hap
  unfold wpOp at *
  simp only [hj] at *
  rw [wanted_put oj a oi.dst v h1] at h
  by_cases hw : Region.wanted oj (yielded ops a.tmps) = true
  · rw [if_pos hw] at h ⊢
    rcases h with h | ⟨ha, hl⟩
    · left
      unfold Oper.wp at *
      rw [execOp_put oj hsj a oi.dst v h1] at h
      generalize (execOp a.eval oj).run P w = r at *
      rcases r with ⟨n, w'⟩ | ⟨x, w'⟩
      · cases n <;> simp only [Oper.upon] at h ⊢
        · exact ⟨hput a _ hy, by rw [← Act.put_comm a v _ h2]; exact h⟩
        · exact ⟨hput a _ hy, by rw [← Act.put_comm a v undef h2]; exact h⟩
        · refine Calls.mono h fun e w'' he => ?_
          rcases e with u | c | _
          · exact ⟨hput a u hy, by rw [← Act.put_comm a v u h2]; exact he⟩
          · exact hQ _ _ _ he
          · exact he
        · rename_i d
          exact ⟨hput _ _ (hdef a d hy), by rw [← Act.put_comm _ v undef h2, ← Act.put_defers]; exact h⟩
        · exact Rows.mono h fun u w'' he => ⟨hput a u hy, by rw [← Act.put_comm a v u h2]; exact he⟩
      · cases x <;> simp only [Oper.upon] at h ⊢
        exact hQ _ _ _ h
    · right
      refine ⟨?_, hl⟩
      unfold Oper.asks at *
      rw [execOp_put oj hsj a oi.dst v h1] at ha
      exact ha
  · rw [if_neg hw] at h ⊢
    exact ⟨hput a _ hy, by rw [← Act.put_comm a v undef h2]; exact h⟩
theorem anyI_first {I : World → Prop} {i : Nat} {oi : Oper} {v : Value} (hi : ops[i]? = some oi) (hsel : Region.noSelect ops = true) (hQ : ∀ c a w, Q (.panic c) (a.put oi.dst v) w → Q (.panic c) a w) :
    ∀ (fuel : Nat) (listed : Array Bool) (a : Act) (w : World),
      (∀ j oj, ops[j]? = some oj → j ≠ i → listed.getD j true = false → (∀ e ∈ oj.after, Region.binds md e = true → e.on ≠ i) → oi.apart ops oj = true) →
      i ∈ Region.ready md ops listed → YI P ops I oi v a → I w → anyI P md ops Q I fuel (listed.setIfInBounds i true) (a.put oi.dst v) w → anyI P md ops Q I (fuel + 1) listed a w := by
  have hs := Region.noSelect_spec hsel
  intro fuel
  induction fuel with
  | zero =>
    intro listed a w _ hr hy hI H
    refine ⟨fun h => (by rw [h] at hr; cases hr), fun j hj => ?_⟩
    by_cases hji : j = i
    · subst hji; exact wpOp_value hi hy.1 (hy.2 w hI) ⟨hI, H⟩
    · have := ready_mono hj hji
      rw [H.1] at this
      cases this
  | succ fuel ih =>
    intro listed a w hfree hr hy hI H
    refine ⟨fun h => (by rw [h] at hr; cases hr), fun j hj => ?_⟩
    by_cases hji : j = i
    · subst hji; exact wpOp_value hi hy.1 (hy.2 w hI) ⟨hI, H⟩
    · have h1 := H.2 j (ready_mono hj hji)
      obtain ⟨hjun, oj, hoj, hall⟩ := mem_ready.1 hj
      have hnot : ∀ e ∈ oj.after, Region.binds md e = true → e.on ≠ i := fun e he hb heq => by
        have h1 := hall e he hb
        have h0 := (mem_ready.1 hr).1
        rw [heq] at h1
        rcases Nat.lt_or_ge i listed.size with h' | h'
        · simp [h'] at h0 h1; rw [h0] at h1; cases h1
        · simp [Array.getElem?_eq_none h'] at h1
      have hap := hfree j oj hoj hji hjun hnot
      obtain ⟨_, _, h3⟩ := Oper.apart_spec hap
      have h2 := wpOp_carry hoj hap (fun cs b => hs j oj cs b hoj) hQ (YI P ops I oi v)
        (fun a u hy => by unfold YI at *; rw [execOp_put oi (fun cs b => hs i oi cs b hi) a oj.dst u h3, wanted_put oi a oj.dst u h3]; exact hy) (fun a d hy => hy) hy h1
      have hfree' : ∀ k ok, ops[k]? = some ok → k ≠ i → (listed.setIfInBounds j true).getD k true = false →
          (∀ e ∈ ok.after, Region.binds md e = true → e.on ≠ i) → oi.apart ops ok = true := fun k ok hk hki hun hno => by
        refine hfree k ok hk hki ?_ hno
        by_cases hjk : j = k
        · subst hjk; exact hjun
        · rw [getD_set_ne true hjk] at hun; exact hun
      refine wpOp_mono (fun a' w' h3 => ⟨h3.2.1, ih (listed.setIfInBounds j true) a' w' hfree' (ready_mono hr (Ne.symm hji)) h3.1 h3.2.1 ?_⟩) h2
      rw [Array.setIfInBounds_comm _ _ hji]
      exact h3.2.2
/-- An operation that reads comes first. -/
theorem anyI_take {I : World → Prop} {i : Nat} {oi : Oper} {v : Value} {fuel : Nat} {listed : Array Bool} {a : Act} {w : World} (hi : ops[i]? = some oi) (hs : Region.noSelect ops = true) (hf : Region.free md ops listed i = true)
    (hr : (Region.ready md ops listed).contains i = true) (hQ : ∀ c a w, Q (.panic c) (a.put oi.dst v) w → Q (.panic c) a w) (hy : YI P ops I oi v a) (hI : I w)
    (h : anyI P md ops Q I fuel (listed.setIfInBounds i true) (a.put oi.dst v) w) : anyI P md ops Q I (fuel + 1) listed a w :=
  anyI_first hi hs hQ fuel listed a w (Region.free_spec hi hf) (by simpa using hr) hy hI h
/-- Operations one by one; behind each I is shown, and at the end E. -/
def listI (P : Program) (ops : Array Oper) (Q : Exit → Act → World → Prop) (I : World → Prop) (E : Act → World → Prop) : List Oper → Act → World → Prop
  | [], a, w => E a w
  | o :: r, a, w => wpList P ops (behind Q (fun a w => I w ∧ listI P ops Q I E r a w)) [o] a w
theorem anyI_pre {I : World → Prop} : ∀ (r : List Nat) (fuel : Nat) (listed : Array Bool) (a : Act) (w : World), prechain md ops listed r = true →
    listI P ops Q I (fun a w => anyI P md ops Q I fuel (r.foldl (fun l i => l.setIfInBounds i true) listed) a w) (r.filterMap (ops[·]?)) a w → anyI P md ops Q I (fuel + r.length) listed a w
  | [], fuel, listed, a, w, _, h => h
  | i :: r, fuel, listed, a, w, hc, h => by
    simp only [prechain, Bool.and_eq_true, beq_iff_eq] at hc
    obtain ⟨⟨h1, h2⟩, h3⟩ := hc
    obtain ⟨o, ho⟩ := Option.isSome_iff_exists.1 h2
    show anyI P md ops Q I ((fuel + r.length) + 1) listed a w
    refine ⟨fun he => (by rw [h1] at he; cases he), fun j hj => ?_⟩
    rw [h1] at hj
    obtain rfl : j = i := by simpa using hj
    simp only [List.filterMap_cons, ho] at h
    refine wpOp_mono (fun a' w' hh => ⟨hh.1, anyI_pre r fuel _ a' w' h3 hh.2⟩) (wpOp_one (Q := Q) (i := j)
      (K := fun a w => I w ∧ listI P ops Q I (fun a w => anyI P md ops Q I fuel (r.foldl (fun l i => l.setIfInBounds i true) (listed.setIfInBounds j true)) a w) (r.filterMap (ops[·]?)) a w) ?_)
    simp only [List.filterMap_cons, ho, List.filterMap_nil]
    exact h
/-- The same, what is left of the fuel reckoned. -/
theorem anyI_part {I : World → Prop} (r : List Nat) (F : Nat) (listed : Array Bool) (a : Act) (w : World) (hc : (prechain md ops listed r && decide (r.length ≤ F)) = true)
    (h : listI P ops Q I (fun a w => anyI P md ops Q I (F - r.length) (r.foldl (fun l i => l.setIfInBounds i true) listed) a w) (r.filterMap (ops[·]?)) a w) : anyI P md ops Q I F listed a w := by
  simp only [Bool.and_eq_true, decide_eq_true_eq] at hc
  have := anyI_pre r (F - r.length) listed a w hc.1 h
  rwa [Nat.sub_add_cancel hc.2] at this
theorem anyI_done {I : World → Prop} {fuel : Nat} {listed : Array Bool} {a : Act} {w : World} (hr : Region.ready md ops listed = []) (h : Q .normal a w) : anyI P md ops Q I fuel listed a w := by
  cases fuel with
  | zero => exact ⟨hr, h⟩
  | succ f => exact ⟨fun _ => h, fun i hi => by rw [hr] at hi; cases hi⟩
end
/-- A conversion that marks what it is given. -/
theorem wpl_conv2 {P : Program} {ops : Array Oper} {rest : List Oper} {o : Oper} {a : Act} {w : World} {Q : Exit → Act → World → Prop} (hgd : o.guard = none) (src dst : TypeId) (x : Operand) (ho : o.op = .convert src dst x) (u v : Value) (w' : World) (hx : a.eval x = u)
    (hrun : (convert src dst u).run P w = .ok v w') (h : wpList P ops Q rest (a.put o.dst v) w') : wpList P ops Q (o :: rest) a w := by
  refine wpl_run hgd v w' ?_ h
  unfold execOp
  simp only [ho, hx, Sem.run_bind, hrun, Result.andThen_ok, Sem.run_pure]
end Go.Proofs.Ytkljnpdojmcipaa
