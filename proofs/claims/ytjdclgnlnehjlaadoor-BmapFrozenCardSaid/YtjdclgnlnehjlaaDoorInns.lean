/- Plain words on regions: what is read while calls go on. Nothing of the program. -/
import Derived.Test.YtjdclgnlnehjlaaDoorBase
namespace Go.Proofs.YtjdclgnlnehjlaaDoor
open Go Go.RowKit
section
variable {P : Program} {md : Region.Mode} {ops : Array Oper} {Q : Exit → Act → World → Prop}
/-- As wpAny, and what I says holds behind each operation. -/
def anyI (P : Program) (md : Region.Mode) (ops : Array Oper) (Q : Exit → Act → World → Prop) (I : World → Prop) : Nat → Array Bool → Act → World → Prop
  | 0, listed, a, w => Region.ready md ops listed = [] ∧ Q .normal a w
  | fuel + 1, listed, a, w => (Region.ready md ops listed = [] → Q .normal a w) ∧ ∀ i ∈ Region.ready md ops listed, wpOp P ops Q i (fun a' w' => I w' ∧ anyI P md ops Q I fuel (listed.setIfInBounds i true) a' w') a w
theorem anyI_any {I : World → Prop} : ∀ (fuel : Nat) (listed : Array Bool) (a : Act) (w : World), anyI P md ops Q I fuel listed a w → wpAny P md ops Q fuel listed a w
  | 0, _, _, _, h => h
  | fuel + 1, listed, _, _, h => ⟨h.1, fun i hi => wpOp_mono (fun a' w' h' => anyI_any fuel _ a' w' h'.2) (h.2 i hi)⟩
/-- An operation that yields v wherever I holds. -/
def YI (P : Program) (ops : Array Oper) (I : World → Prop) (o : Oper) (v : Value) (a : Act) : Prop :=
  Region.wanted o (yielded ops a.tmps) = true ∧ ∀ w, I w → (execOp a.eval o).run P w = .ok (.value v) w
/-- One operation, and a value that is put into another one's slot ahead of it or behind it. -/
theorem wpOp_carry {j : Nat} {oi oj : Oper} {v : Value} (hj : ops[j]? = some oj) (hap : oi.apart ops oj = true) (hsj : ∀ cs b, oj.op ≠ .select cs b)
    (hQ : ∀ c a w, Q (.panic c) (a.put oi.dst v) w → Q (.panic c) a w) (Y : Act → Prop) (hput : ∀ a u, Y a → Y (a.put oj.dst u)) (hdef : ∀ a d, Y a → Y { a with defers := d :: a.defers })
    {K : Act → World → Prop} {a : Act} {w : World} (hy : Y a) (h : wpOp P ops Q j K (a.put oi.dst v) w) : wpOp P ops Q j (fun a' w' => Y a' ∧ K (a'.put oi.dst v) w') a w := by
  obtain ⟨h1, h2, _⟩ := Oper.apart_spec hap
  unfold wpOp at *
  simp only [hj] at *
  rw [wanted_put oj a oi.dst v h1] at h
  by_cases hw : Region.wanted oj (yielded ops a.tmps) = true
  · rw [if_pos hw] at h ⊢
    rcases h with h | ⟨ha, hl⟩
    · left
      unfold Oper.wp at *
      rw [execOp_put oj hsj a oi.dst v h1] at h
      generalize (execOp a.eval oj).run P w = r at *
      rcases r with ⟨n, w'⟩ | ⟨x, w'⟩
      · cases n <;> simp only [Oper.upon] at h ⊢
        · exact ⟨hput a _ hy, by rw [← Act.put_comm a v _ h2]; exact h⟩
        · exact ⟨hput a _ hy, by rw [← Act.put_comm a v undef h2]; exact h⟩
        · refine Calls.mono h fun e w'' he => ?_
          rcases e with u | c | _
          · exact ⟨hput a u hy, by rw [← Act.put_comm a v u h2]; exact he⟩
          · exact hQ _ _ _ he
          · exact he
        · rename_i d
          exact ⟨hput _ _ (hdef a d hy), by rw [← Act.put_comm _ v undef h2, ← Act.put_defers]; exact h⟩
        · exact Rows.mono h fun u w'' he => ⟨hput a u hy, by rw [← Act.put_comm a v u h2]; exact he⟩
      · cases x <;> simp only [Oper.upon] at h ⊢
        exact hQ _ _ _ h
    · right
      refine ⟨?_, hl⟩
      unfold Oper.asks at *
      rw [execOp_put oj hsj a oi.dst v h1] at ha
      exact ha
  · rw [if_neg hw] at h ⊢
    exact ⟨hput a _ hy, by rw [← Act.put_comm a v undef h2]; exact h⟩
/-- Operations one by one; behind each I is shown, and at the end E. -/
def listI (P : Program) (ops : Array Oper) (Q : Exit → Act → World → Prop) (I : World → Prop) (E : Act → World → Prop) : List Oper → Act → World → Prop
  | [], a, w => E a w
  | o :: r, a, w => wpList P ops (behind Q (fun a w => I w ∧ listI P ops Q I E r a w)) [o] a w
theorem anyI_pre {I : World → Prop} : ∀ (r : List Nat) (fuel : Nat) (listed : Array Bool) (a : Act) (w : World), prechain md ops listed r = true →
    listI P ops Q I (fun a w => anyI P md ops Q I fuel (r.foldl (fun l i => l.setIfInBounds i true) listed) a w) (r.filterMap (ops[·]?)) a w → anyI P md ops Q I (fuel + r.length) listed a w
  | [], fuel, listed, a, w, _, h => h
  | i :: r, fuel, listed, a, w, hc, h => by
    simp only [prechain, Bool.and_eq_true, beq_iff_eq] at hc
    obtain ⟨⟨h1, h2⟩, h3⟩ := hc
    obtain ⟨o, ho⟩ := Option.isSome_iff_exists.1 h2
    show anyI P md ops Q I ((fuel + r.length) + 1) listed a w
    refine ⟨fun he => (by rw [h1] at he; cases he), fun j hj => ?_⟩
    rw [h1] at hj
    obtain rfl : j = i := by simpa using hj
    simp only [List.filterMap_cons, ho] at h
    refine wpOp_mono (fun a' w' hh => ⟨hh.1, anyI_pre r fuel _ a' w' h3 hh.2⟩) (wpOp_one (Q := Q) (i := j)
      (K := fun a w => I w ∧ listI P ops Q I (fun a w => anyI P md ops Q I fuel (r.foldl (fun l i => l.setIfInBounds i true) (listed.setIfInBounds j true)) a w) (r.filterMap (ops[·]?)) a w) ?_)
    simp only [List.filterMap_cons, ho, List.filterMap_nil]
    exact h
/-- The same, what is left of the fuel reckoned. -/
theorem anyI_part {I : World → Prop} (r : List Nat) (F : Nat) (listed : Array Bool) (a : Act) (w : World) (hc : (prechain md ops listed r && decide (r.length ≤ F)) = true)
    (h : listI P ops Q I (fun a w => anyI P md ops Q I (F - r.length) (r.foldl (fun l i => l.setIfInBounds i true) listed) a w) (r.filterMap (ops[·]?)) a w) : anyI P md ops Q I F listed a w := by
  simp only [Bool.and_eq_true, decide_eq_true_eq] at hc
  have := anyI_pre r (F - r.length) listed a w hc.1 h
  rwa [Nat.sub_add_cancel hc.2] at this
theorem anyI_done {I : World → Prop} {fuel : Nat} {listed : Array Bool} {a : Act} {w : World} (hr : Region.ready md ops listed = []) (h : Q .normal a w) : anyI P md ops Q I fuel listed a w := by
  cases fuel with
  | zero => exact ⟨hr, h⟩
  | succ f => exact ⟨fun _ => h, fun i hi => by rw [hr] at hi; cases hi⟩
end
/-- A conversion that marks what it is given. -/
theorem wpl_conv2 {P : Program} {ops : Array Oper} {rest : List Oper} {o : Oper} {a : Act} {w : World} {Q : Exit → Act → World → Prop} (hgd : o.guard = none) (src dst : TypeId) (x : Operand) (ho : o.op = .convert src dst x) (u v : Value) (w' : World) (hx : a.eval x = u)
    (hrun : (convert src dst u).run P w = .ok v w') (h : wpList P ops Q rest (a.put o.dst v) w') : wpList P ops Q (o :: rest) a w := by
  refine wpl_run hgd v w' ?_ h
  unfold execOp
  simp only [ho, hx, Sem.run_bind, hrun, Result.andThen_ok, Sem.run_pure]
end Go.Proofs.YtjdclgnlnehjlaaDoor
namespace Go.Proofs.YtjdclgnlnehjlaaDoor
open Go Go.RowKit
/-- A world of a class. -/
structure Inn (I : World → Prop) where
  w' : World
  h : I w'
theorem inn_ne {I : World → Prop} {w : World} (h : I w) : Nonempty (Inn I) := ⟨⟨w, h⟩⟩
/-- Operations that yield a value and enter nothing. -/
def readOp : Op → Bool
  | .move _ | .assign _ | .pick .. | .load .. | .binOp .. | .unOp .. | .convert .. | .makeInterface .. | .slice .. | .fieldAddr .. | .field .. | .indexAddr .. | .index .. | .extract .. | .lookup .. | .typeAssert .. | .nilCheck .. | .build .. => true
  | .call c => match c.callee with
    | .builtin .len | .builtin .min | .builtin .max | .builtin .cap => true
    | _ => false
  | _ => false
section
variable {P : Program} {md : Region.Mode} {ops : Array Oper} {Q : Exit → Act → World → Prop}
theorem value_only {m : Sem Value} {w w' : World} {n : Next} (h : (do pure (Next.value (← m)) : Sem Next).run P w = .ok n w') : ∃ u, n = .value u := by
  rw [Sem.run_bind] at h
  cases e : m.run P w with
  | ok x w2 => rw [e] at h; simp [Result.andThen] at h; exact ⟨x, h.1.symm⟩
  | halt x w2 => rw [e] at h; simp [Result.andThen] at h
theorem nilCheck_value {ρ : Operand → Value} {o : Oper} {x : Operand} {w w' : World} {n : Next} (e : o.op = .nilCheck x) (hr : (execOp ρ o).run P w = .ok n w') : ∃ u, n = .value u := by
  unfold execOp at hr
  rw [e] at hr
  dsimp only at hr
  split at hr
  · simp [runtimePanic] at hr
  · simp [runtimePanic] at hr
  · simp [runtimePanic] at hr
  · split at hr
    · simp [runtimePanic] at hr
    · rw [Sem.run_bind] at hr
      cases e1 : (program).run P w with
      | ok a w1 =>
        rw [e1] at hr
        simp only [Result.andThen_ok, Sem.run_bind] at hr
        cases e2 : (nilAhead (a.types.size + Made.depth) _ _ _).run P w1 with
        | ok b w2 =>
          rw [e2] at hr
          simp only [Result.andThen_ok] at hr
          split at hr
          · rw [Sem.run_bind] at hr
            simp [unsupported] at hr
          · simp at hr; exact ⟨_, hr.1.symm⟩
        | halt b w2 => rw [e2] at hr; simp [Result.andThen] at hr
      | halt a w1 => rw [e1] at hr; simp [Result.andThen] at hr
    · simp at hr; exact ⟨_, hr.1.symm⟩
  · simp at hr; exact ⟨_, hr.1.symm⟩
theorem read_value {ρ : Operand → Value} {o : Oper} {w w' : World} {n : Next} (h : readOp o.op = true) (hr : (execOp ρ o).run P w = .ok n w') : ∃ u, n = .value u := by
  by_cases hn : ∃ x, o.op = .nilCheck x
  · obtain ⟨x, e⟩ := hn
    exact nilCheck_value e hr
  unfold execOp at hr
  split at hr <;> first
    | exact value_only hr
    | (rename_i e; rw [e] at h; simp [readOp] at h; done)
    | (rename_i e; rw [e] at hn; simp at hn; done)
    | skip
  · simp at hr; exact ⟨_, hr.1.symm⟩
  · simp at hr; exact ⟨_, hr.1.symm⟩
  · rename_i c x y e
    dsimp only at hr
    rw [Sem.run_bind] at hr
    cases e2 : (asBool (ρ c)).run P w with
    | ok b w2 => rw [e2] at hr; simp [Result.andThen] at hr; exact ⟨_, hr.1.symm⟩
    | halt b w2 => rw [e2] at hr; simp [Result.andThen] at hr
  · rename_i c e
    rw [e] at h
    dsimp only at hr
    obtain ⟨cal, args, ts⟩ := c
    cases cal with
    | builtin b =>
      simp only [resolve, Sem.run_bind, Sem.run_pure, Result.andThen_ok, invoke] at hr
      cases b <;> first
        | (simp [readOp] at h; done)
        | exact value_only (by simpa only [builtin] using hr)
    | _ => simp [readOp] at h
/-- As YI, or passed over. -/
def YJ (P : Program) (ops : Array Oper) (I : World → Prop) (o : Oper) (v : Value) (a : Act) : Prop :=
  (Region.wanted o (yielded ops a.tmps) = true ∧ ∀ w, I w → (execOp a.eval o).run P w = .ok (.value v) w) ∨ (Region.wanted o (yielded ops a.tmps) = false ∧ v = undef)
theorem wpOp_YJ {I : World → Prop} {i : Nat} {oi : Oper} {v : Value} {K : Act → World → Prop} {a : Act} {w : World} (hi : ops[i]? = some oi) (hy : YJ P ops I oi v a) (hI : I w) (h : K (a.put oi.dst v) w) : wpOp P ops Q i K a w := by
  rcases hy with ⟨hw, hv⟩ | ⟨hw, rfl⟩
  · exact wpOp_value hi hw (hv w hI) h
  · unfold wpOp
    simp only [hi]
    rw [if_neg (by rw [hw]; exact Bool.false_ne_true)]
    exact h
theorem anyJ_first {I : World → Prop} {i : Nat} {oi : Oper} {v : Value} (hi : ops[i]? = some oi) (hsel : Region.noSelect ops = true) (hQ : ∀ c a w, Q (.panic c) (a.put oi.dst v) w → Q (.panic c) a w) :
    ∀ (fuel : Nat) (listed : Array Bool) (a : Act) (w : World),
      (∀ j oj, ops[j]? = some oj → j ≠ i → listed.getD j true = false → (∀ e ∈ oj.after, Region.binds md e = true → e.on ≠ i) → oi.apart ops oj = true) →
      i ∈ Region.ready md ops listed → YJ P ops I oi v a → I w → anyI P md ops Q I fuel (listed.setIfInBounds i true) (a.put oi.dst v) w → anyI P md ops Q I (fuel + 1) listed a w := by
  have hs := Region.noSelect_spec hsel
  intro fuel
  induction fuel with
  | zero =>
    intro listed a w _ hr hy hI H
    refine ⟨fun h => (by rw [h] at hr; cases hr), fun j hj => ?_⟩
    by_cases hji : j = i
    · subst hji; exact wpOp_YJ hi hy hI ⟨hI, H⟩
    · have := ready_mono hj hji
      rw [H.1] at this
      cases this
  | succ fuel ih =>
    intro listed a w hfree hr hy hI H
    refine ⟨fun h => (by rw [h] at hr; cases hr), fun j hj => ?_⟩
    by_cases hji : j = i
    · subst hji; exact wpOp_YJ hi hy hI ⟨hI, H⟩
    · have h1 := H.2 j (ready_mono hj hji)
      obtain ⟨hjun, oj, hoj, hall⟩ := mem_ready.1 hj
      have hnot : ∀ e ∈ oj.after, Region.binds md e = true → e.on ≠ i := fun e he hb heq => by
        have h1 := hall e he hb
        have h0 := (mem_ready.1 hr).1
        rw [heq] at h1
        rcases Nat.lt_or_ge i listed.size with h' | h'
        · simp [h'] at h0 h1; rw [h0] at h1; cases h1
        · simp [Array.getElem?_eq_none h'] at h1
      have hap := hfree j oj hoj hji hjun hnot
      obtain ⟨_, _, h3⟩ := Oper.apart_spec hap
      have h2 := wpOp_carry hoj hap (fun cs b => hs j oj cs b hoj) hQ (YJ P ops I oi v)
        (fun a u hy => by unfold YJ at *; rw [execOp_put oi (fun cs b => hs i oi cs b hi) a oj.dst u h3, wanted_put oi a oj.dst u h3]; exact hy) (fun a d hy => hy) hy h1
      have hfree' : ∀ k ok, ops[k]? = some ok → k ≠ i → (listed.setIfInBounds j true).getD k true = false →
          (∀ e ∈ ok.after, Region.binds md e = true → e.on ≠ i) → oi.apart ops ok = true := fun k ok hk hki hun hno => by
        refine hfree k ok hk hki ?_ hno
        by_cases hjk : j = k
        · subst hjk; exact hjun
        · rw [getD_set_ne true hjk] at hun; exact hun
      refine wpOp_mono (fun a' w' h3 => ⟨h3.2.1, ih (listed.setIfInBounds j true) a' w' hfree' (ready_mono hr (Ne.symm hji)) h3.1 h3.2.1 ?_⟩) h2
      rw [Array.setIfInBounds_comm _ _ hji]
      exact h3.2.2
/-- These may be taken first, in this order. -/
def takesB (md : Region.Mode) (ops : Array Oper) : Array Bool → List Nat → Bool
  | _, [] => true
  | listed, i :: r => (match ops[i]? with | some o => readOp o.op | none => false) && Region.free md ops listed i && (Region.ready md ops listed).contains i && takesB md ops (listed.setIfInBounds i true) r
def o0 : Oper := ⟨none, .move (.tmp 0), 0, "", #[], none⟩
def pickO (ops : Array Oper) (r : List Nat) : List Oper := r.map fun i => (ops[i]?).getD o0
theorem anyI_takes {I : World → Prop} {fuel : Nat} {w : World} (hI : I w) (hsel : Region.noSelect ops = true) (hQ : ∀ c a w d v, Q (.panic c) (Act.put a d v) w → Q (.panic c) a w) : ∀ (r : List Nat) (listed : Array Bool) (a : Act), takesB md ops listed r = true →
    wpQuiet P ops (fun w' => ∃ x : Inn I, w' = x.w') (fun a' => anyI P md ops Q I fuel (r.foldl (fun l i => l.setIfInBounds i true) listed) a' w) (pickO ops r) a → anyI P md ops Q I (fuel + r.length) listed a w
  | [], _, _, _, h => h
  | i :: r, listed, a, hb, h => by
    simp only [takesB, Bool.and_eq_true] at hb
    obtain ⟨⟨⟨h1, h2⟩, h3⟩, h4⟩ := hb
    cases ho : ops[i]? with
    | none => rw [ho] at h1; cases h1
    | some o =>
      rw [ho] at h1
      simp only [pickO, List.map_cons, ho, Option.getD_some] at h
      show anyI P md ops Q I (fuel + r.length + 1) listed a w
      have key : ∃ v, YJ P ops I o v a ∧ wpQuiet P ops (fun w' => ∃ x : Inn I, w' = x.w') (fun a' => anyI P md ops Q I fuel ((i :: r).foldl (fun l i => l.setIfInBounds i true) listed) a' w) (pickO ops r) (a.put o.dst v) := by
        unfold wpQuiet at h
        by_cases hw : Region.wanted o (yielded ops a.tmps) = true
        · rw [if_pos hw] at h
          obtain ⟨v, hv, hk⟩ := h
          refine ⟨v, .inl ⟨hw, fun w1 hw1 => ?_⟩, hk⟩
          have hq := hv w1 ⟨⟨w1, hw1⟩, rfl⟩
          unfold Oper.quietAt at hq
          cases hr : (execOp a.eval o).run P w1 with
          | ok n w2 =>
            obtain ⟨u, rfl⟩ := read_value h1 hr
            rw [hr] at hq
            simp only [Oper.quietUpon] at hq
            obtain ⟨rfl, rfl⟩ := hq
            rfl
          | halt x w2 => rw [hr] at hq; simp only [Oper.quietUpon] at hq
        · rw [if_neg hw] at h
          exact ⟨undef, .inr ⟨by simpa using hw, rfl⟩, h⟩
      obtain ⟨v, hy, hk⟩ := key
      exact anyJ_first ho hsel (fun c a w h => hQ c a w _ _ h) _ listed a w (Region.free_spec ho h2) (by simpa using h3) hy hI (anyI_takes hI hsel hQ r _ _ h4 hk)
/-- The same, what is left of the fuel reckoned. -/
theorem anyI_reads {I : World → Prop} {w : World} (r : List Nat) (F : Nat) (listed : Array Bool) (a : Act) (hI : I w) (hb : (Region.noSelect ops && takesB md ops listed r && decide (r.length ≤ F)) = true) (hQ : ∀ c a w d v, Q (.panic c) (Act.put a d v) w → Q (.panic c) a w)
    (h : wpQuiet P ops (fun w' => ∃ x : Inn I, w' = x.w') (fun a' => anyI P md ops Q I (F - r.length) (r.foldl (fun l i => l.setIfInBounds i true) listed) a' w) (pickO ops r) a) : anyI P md ops Q I F listed a w := by
  simp only [Bool.and_eq_true, decide_eq_true_eq] at hb
  obtain ⟨⟨h1, h2⟩, h3⟩ := hb
  have := anyI_takes (fuel := F - r.length) hI h1 hQ r listed a h2 h
  rwa [Nat.sub_add_cancel h3] at this
/-- One of two comes up. -/
theorem anyI_two {I : World → Prop} (i j : Nat) (F : Nat) (listed : Array Bool) (a : Act) (w : World) (hr : (Region.ready md ops listed == [i, j] && decide (1 ≤ F)) = true)
    (h1 : wpList P ops (behind Q (fun a w => I w ∧ anyI P md ops Q I (F - 1) (listed.setIfInBounds i true) a w)) ([i].filterMap (ops[·]?)) a w)
    (h2 : wpList P ops (behind Q (fun a w => I w ∧ anyI P md ops Q I (F - 1) (listed.setIfInBounds j true) a w)) ([j].filterMap (ops[·]?)) a w) : anyI P md ops Q I F listed a w := by
  simp only [Bool.and_eq_true, beq_iff_eq, decide_eq_true_eq] at hr
  obtain ⟨hr, hF⟩ := hr
  obtain ⟨f, rfl⟩ : ∃ f, F = f + 1 := ⟨F - 1, by omega⟩
  refine ⟨fun he => (by rw [hr] at he; cases he), fun k hk => ?_⟩
  rw [hr] at hk
  rcases (show k = i ∨ k = j by simpa using hk) with rfl | rfl
  · exact wpOp_one h1
  · exact wpOp_one h2
/-- A region that draws, whatever order: in a class of worlds. -/
theorem wp_region_inn {id : Nat} {a : Act} {w : World} {l : List Oper} (I : World → Prop) (hI : I w.drew) (hm : P.follows .mixedOrders = true)
    (h : anyI P .any l.toArray Q I l.length (Array.replicate l.length false) a w.drew) : (Code.region id l.toArray true).wp P Q a w := by
  refine wp_region_any hm ?_
  have := anyI_any (I := I) _ _ _ _ h
  simpa using this
/-- One operation, by what it runs to there. -/
theorem inn_val {I : World → Prop} {R : Act → Prop} {a : Act} {o : Oper} {rest : List Oper} {v : Value} (hr : ∀ x : Inn I, (execOp a.eval o).run P x.w' = .ok (.value v) x.w') (hw : Region.wanted o (yielded ops a.tmps) = true)
    (h : wpQuiet P ops (fun w' => ∃ x : Inn I, w' = x.w') R rest (a.put o.dst v)) : wpQuiet P ops (fun w' => ∃ x : Inn I, w' = x.w') R (o :: rest) a :=
  wpQuiet_step fun K hK => by
    rw [if_pos hw]
    exact ⟨v, fun w1 ⟨x, e⟩ => by subst e; unfold Oper.quietAt; rw [hr x]; exact ⟨rfl, rfl⟩, hK _ h⟩
end
end Go.Proofs.YtjdclgnlnehjlaaDoor
namespace Go.Proofs.YtjdclgnlnehjlaaDoor
open Go Go.RowKit
section
variable {P : Program} {md : Region.Mode} {ops : Array Oper} {Q : Exit → Act → World → Prop} {s : Nat}
/-- As wpAny; till s has come, what I says holds behind each operation. -/
def anyT (P : Program) (md : Region.Mode) (ops : Array Oper) (Q : Exit → Act → World → Prop) (s : Nat) (I : World → Prop) : Nat → Array Bool → Act → World → Prop
  | 0, listed, a, w => Region.ready md ops listed = [] ∧ Q .normal a w
  | fuel + 1, listed, a, w => (Region.ready md ops listed = [] → Q .normal a w) ∧ ∀ i ∈ Region.ready md ops listed, wpOp P ops Q i (fun a' w' => ((listed.setIfInBounds i true).getD s true = false → I w') ∧ anyT P md ops Q s I fuel (listed.setIfInBounds i true) a' w') a w
theorem anyT_any {I : World → Prop} : ∀ (fuel : Nat) (listed : Array Bool) (a : Act) (w : World), anyT P md ops Q s I fuel listed a w → wpAny P md ops Q fuel listed a w
  | 0, _, _, _, h => h
  | fuel + 1, listed, _, _, h => ⟨h.1, fun i hi => wpOp_mono (fun a' w' h' => anyT_any fuel _ a' w' h'.2) (h.2 i hi)⟩
theorem waits_not {i : Nat} {listed : Array Bool} (hw : waitsB md ops s i = true) (hi : i ∈ Region.ready md ops listed) {j : Nat} (hj : j ∈ Region.ready md ops listed) : j ≠ s := by
  rintro rfl
  unfold waitsB at hw
  obtain ⟨_, oj, hoj, hall⟩ := mem_ready.1 hj
  rw [hoj] at hw
  simp only [Array.any_eq_true', Bool.and_eq_true, beq_iff_eq] at hw
  obtain ⟨e, he, hb, heq⟩ := hw
  have h1 := hall e he hb
  have h0 := (mem_ready.1 hi).1
  rw [heq] at h1
  rcases Nat.lt_or_ge i listed.size with h' | h'
  · simp [h'] at h0 h1; rw [h0] at h1; cases h1
  · simp [Array.getElem?_eq_none h'] at h1
theorem anyT_first {I : World → Prop} {i : Nat} {oi : Oper} {v : Value} (hi : ops[i]? = some oi) (hsel : Region.noSelect ops = true) (hws : waitsB md ops s i = true) (his : i ≠ s) (hQ : ∀ c a w, Q (.panic c) (a.put oi.dst v) w → Q (.panic c) a w) :
    ∀ (fuel : Nat) (listed : Array Bool) (a : Act) (w : World),
      (∀ j oj, ops[j]? = some oj → j ≠ i → listed.getD j true = false → (∀ e ∈ oj.after, Region.binds md e = true → e.on ≠ i) → oi.apart ops oj = true) →
      i ∈ Region.ready md ops listed → YJ P ops I oi v a → listed.getD s true = false → I w → anyT P md ops Q s I fuel (listed.setIfInBounds i true) (a.put oi.dst v) w → anyT P md ops Q s I (fuel + 1) listed a w := by
  have hs := Region.noSelect_spec hsel
  intro fuel
  induction fuel with
  | zero =>
    intro listed a w _ hr hy hl hI H
    refine ⟨fun h => (by rw [h] at hr; cases hr), fun j hj => ?_⟩
    by_cases hji : j = i
    · subst hji; exact wpOp_YJ hi hy hI ⟨fun _ => hI, H⟩
    · have := ready_mono hj hji
      rw [H.1] at this
      cases this
  | succ fuel ih =>
    intro listed a w hfree hr hy hl hI H
    refine ⟨fun h => (by rw [h] at hr; cases hr), fun j hj => ?_⟩
    by_cases hji : j = i
    · subst hji; exact wpOp_YJ hi hy hI ⟨fun _ => hI, H⟩
    · have h1 := H.2 j (ready_mono hj hji)
      have hjs := waits_not hws hr hj
      obtain ⟨hjun, oj, hoj, hall⟩ := mem_ready.1 hj
      have hnot : ∀ e ∈ oj.after, Region.binds md e = true → e.on ≠ i := fun e he hb heq => by
        have h1 := hall e he hb
        have h0 := (mem_ready.1 hr).1
        rw [heq] at h1
        rcases Nat.lt_or_ge i listed.size with h' | h'
        · simp [h'] at h0 h1; rw [h0] at h1; cases h1
        · simp [Array.getElem?_eq_none h'] at h1
      have hap := hfree j oj hoj hji hjun hnot
      obtain ⟨_, _, h3⟩ := Oper.apart_spec hap
      have h2 := wpOp_carry hoj hap (fun cs b => hs j oj cs b hoj) hQ (YJ P ops I oi v)
        (fun a u hy => by unfold YJ at *; rw [execOp_put oi (fun cs b => hs i oi cs b hi) a oj.dst u h3, wanted_put oi a oj.dst u h3]; exact hy) (fun a d hy => hy) hy h1
      have hfree' : ∀ k ok, ops[k]? = some ok → k ≠ i → (listed.setIfInBounds j true).getD k true = false →
          (∀ e ∈ ok.after, Region.binds md e = true → e.on ≠ i) → oi.apart ops ok = true := fun k ok hk hki hun hno => by
        refine hfree k ok hk hki ?_ hno
        by_cases hjk : j = k
        · subst hjk; exact hjun
        · rw [getD_set_ne true hjk] at hun; exact hun
      have hl1 : (listed.setIfInBounds j true).getD s true = false := by rw [getD_set_ne true hjs]; exact hl
      have hl2 : ((listed.setIfInBounds i true).setIfInBounds j true).getD s true = false := by rw [getD_set_ne true hjs, getD_set_ne true his]; exact hl
      refine wpOp_mono (fun a' w' h3 => ⟨fun _ => h3.2.1 hl2, ih (listed.setIfInBounds j true) a' w' hfree' (ready_mono hr (Ne.symm hji)) h3.1 hl1 (h3.2.1 hl2) ?_⟩) h2
      rw [Array.setIfInBounds_comm _ _ hji]
      exact h3.2.2
/-- Operations that yield a value and enter nothing; a look whether a pointer is nil among them. -/
def readN : Op → Bool
  | .nilCheck _ => true
  | o => readOp o
theorem bind_value {α : Type} {m : Sem α} {k : α → Sem Next} {w w' : World} {n : Next} (h : ∀ x w1, (k x).run P w1 = .ok n w' → ∃ u, n = .value u) (hr : (m >>= k).run P w = .ok n w') : ∃ u, n = .value u := by
  rw [Sem.run_bind] at hr
  cases e : m.run P w with
  | ok x w2 => rw [e] at hr; exact h x w2 (by simpa [Result.andThen] using hr)
  | halt x w2 => rw [e] at hr; simp [Result.andThen] at hr
theorem pure_value {v : Value} {w w' : World} {n : Next} (hr : (pure (Next.value v) : Sem Next).run P w = .ok n w') : ∃ u, n = .value u := by
  simp at hr; exact ⟨_, hr.1.symm⟩
theorem readN_value {ρ : Operand → Value} {o : Oper} {w w' : World} {n : Next} (h : readN o.op = true) (hr : (execOp ρ o).run P w = .ok n w') : ∃ u, n = .value u := by
  cases e : o.op with
  | nilCheck x =>
    unfold execOp at hr
    simp only [e] at hr
    repeat' split at hr
    all_goals first
      | exact pure_value hr
      | (simp [runtimePanic] at hr; done)
      | (refine bind_value (fun x1 w1 hr => ?_) hr
         refine bind_value (fun x2 w2 hr => ?_) hr
         split at hr
         · refine bind_value (fun x3 w3 hr => ?_) hr
           exact pure_value hr
         · exact pure_value hr)
  | _ => rw [e] at h; exact read_value (by rw [e]; exact h) hr
/-- These may be taken first, in this order. -/
def takesT (md : Region.Mode) (ops : Array Oper) (s : Nat) : Array Bool → List Nat → Bool
  | _, [] => true
  | listed, i :: r => (match ops[i]? with | some o => readN o.op | none => false) && Region.free md ops listed i && (Region.ready md ops listed).contains i && waitsB md ops s i && (i != s) && takesT md ops s (listed.setIfInBounds i true) r
theorem anyT_takes {I : World → Prop} {fuel : Nat} {w : World} (hI : I w) (hsel : Region.noSelect ops = true) (hQ : ∀ c a w d v, Q (.panic c) (Act.put a d v) w → Q (.panic c) a w) : ∀ (r : List Nat) (listed : Array Bool) (a : Act), takesT md ops s listed r = true → listed.getD s true = false →
    wpQuiet P ops (fun w' => ∃ x : Inn I, w' = x.w') (fun a' => anyT P md ops Q s I fuel (r.foldl (fun l i => l.setIfInBounds i true) listed) a' w) (pickO ops r) a → anyT P md ops Q s I (fuel + r.length) listed a w
  | [], _, _, _, _, h => h
  | i :: r, listed, a, hb, hl, h => by
    simp only [takesT, Bool.and_eq_true, bne_iff_ne, ne_eq] at hb
    obtain ⟨⟨⟨⟨⟨h1, h2⟩, h3⟩, h5⟩, h6⟩, h4⟩ := hb
    cases ho : ops[i]? with
    | none => rw [ho] at h1; cases h1
    | some o =>
      rw [ho] at h1
      simp only [pickO, List.map_cons, ho, Option.getD_some] at h
      show anyT P md ops Q s I (fuel + r.length + 1) listed a w
      have key : ∃ v, YJ P ops I o v a ∧ wpQuiet P ops (fun w' => ∃ x : Inn I, w' = x.w') (fun a' => anyT P md ops Q s I fuel ((i :: r).foldl (fun l i => l.setIfInBounds i true) listed) a' w) (pickO ops r) (a.put o.dst v) := by
        unfold wpQuiet at h
        by_cases hw : Region.wanted o (yielded ops a.tmps) = true
        · rw [if_pos hw] at h
          obtain ⟨v, hv, hk⟩ := h
          refine ⟨v, .inl ⟨hw, fun w1 hw1 => ?_⟩, hk⟩
          have hq := hv w1 ⟨⟨w1, hw1⟩, rfl⟩
          unfold Oper.quietAt at hq
          cases hr : (execOp a.eval o).run P w1 with
          | ok n w2 =>
            obtain ⟨u, rfl⟩ := readN_value h1 hr
            rw [hr] at hq
            simp only [Oper.quietUpon] at hq
            obtain ⟨rfl, rfl⟩ := hq
            rfl
          | halt x w2 => rw [hr] at hq; simp only [Oper.quietUpon] at hq
        · rw [if_neg hw] at h
          exact ⟨undef, .inr ⟨by simpa using hw, rfl⟩, h⟩
      obtain ⟨v, hy, hk⟩ := key
      exact anyT_first ho hsel h5 h6 (fun c a w h => hQ c a w _ _ h) _ listed a w (Region.free_spec ho h2) (by simpa using h3) hy hl hI (anyT_takes hI hsel hQ r _ _ h4 (by rw [getD_set_ne true h6]; exact hl) hk)
theorem anyT_reads {I : World → Prop} {w : World} (r : List Nat) (F : Nat) (listed : Array Bool) (a : Act) (hI : I w) (hb : (Region.noSelect ops && takesT md ops s listed r && decide (r.length ≤ F) && !listed.getD s true) = true) (hQ : ∀ c a w d v, Q (.panic c) (Act.put a d v) w → Q (.panic c) a w)
    (h : wpQuiet P ops (fun w' => ∃ x : Inn I, w' = x.w') (fun a' => anyT P md ops Q s I (F - r.length) (r.foldl (fun l i => l.setIfInBounds i true) listed) a' w) (pickO ops r) a) : anyT P md ops Q s I F listed a w := by
  simp only [Bool.and_eq_true, decide_eq_true_eq, Bool.not_eq_true'] at hb
  obtain ⟨⟨⟨h1, h2⟩, h3⟩, h4⟩ := hb
  have := anyT_takes (fuel := F - r.length) hI h1 hQ r listed a h2 h4 h
  rwa [Nat.sub_add_cancel h3] at this
/-- One of two comes up. -/
theorem anyT_two {I : World → Prop} (i j : Nat) (F : Nat) (listed : Array Bool) (a : Act) (w : World) (hr : (Region.ready md ops listed == [i, j] && decide (1 ≤ F)) = true)
    (h1 : wpList P ops (behind Q (fun a w => ((listed.setIfInBounds i true).getD s true = false → I w) ∧ anyT P md ops Q s I (F - 1) (listed.setIfInBounds i true) a w)) ([i].filterMap (ops[·]?)) a w)
    (h2 : wpList P ops (behind Q (fun a w => ((listed.setIfInBounds j true).getD s true = false → I w) ∧ anyT P md ops Q s I (F - 1) (listed.setIfInBounds j true) a w)) ([j].filterMap (ops[·]?)) a w) : anyT P md ops Q s I F listed a w := by
  simp only [Bool.and_eq_true, beq_iff_eq, decide_eq_true_eq] at hr
  obtain ⟨hr, hF⟩ := hr
  obtain ⟨f, rfl⟩ : ∃ f, F = f + 1 := ⟨F - 1, by omega⟩
  refine ⟨fun he => (by rw [hr] at he; cases he), fun k hk => ?_⟩
  rw [hr] at hk
  rcases (show k = i ∨ k = j by simpa using hk) with rfl | rfl
  · exact wpOp_one h1
  · exact wpOp_one h2
/-- The one that may come. -/
theorem anyT_one {I : World → Prop} (i : Nat) (F : Nat) (listed : Array Bool) (a : Act) (w : World) (hr : (Region.ready md ops listed == [i] && decide (1 ≤ F)) = true)
    (h1 : wpList P ops (behind Q (fun a w => ((listed.setIfInBounds i true).getD s true = false → I w) ∧ anyT P md ops Q s I (F - 1) (listed.setIfInBounds i true) a w)) ([i].filterMap (ops[·]?)) a w) : anyT P md ops Q s I F listed a w := by
  simp only [Bool.and_eq_true, beq_iff_eq, decide_eq_true_eq] at hr
  obtain ⟨hr, hF⟩ := hr
  obtain ⟨f, rfl⟩ : ∃ f, F = f + 1 := ⟨F - 1, by omega⟩
  refine ⟨fun he => (by rw [hr] at he; cases he), fun k hk => ?_⟩
  rw [hr] at hk
  obtain rfl : k = i := by simpa using hk
  exact wpOp_one h1
theorem getD_set_keep (l : Array Bool) (i s : Nat) (h : l.getD s true = true) : (l.setIfInBounds i true).getD s true = true := by
  by_cases e : i = s
  · subst e
    rcases Nat.lt_or_ge i l.size with h' | h'
    · simp [Array.getD, h']
    · simp [Array.getD, Nat.not_lt.2 h']
  · rw [getD_set_ne true e]; exact h
/-- Behind s: the rest by wpAny. -/
theorem anyT_of_any {I : World → Prop} : ∀ (fuel : Nat) (listed : Array Bool) (a : Act) (w : World), listed.getD s true = true → wpAny P md ops Q fuel listed a w → anyT P md ops Q s I fuel listed a w
  | 0, _, _, _, _, h => h
  | fuel + 1, listed, _, _, hl, h => ⟨h.1, fun i hi => wpOp_mono (fun a' w' h' => ⟨fun e => (by rw [getD_set_keep listed i s hl] at e; cases e), anyT_of_any fuel _ a' w' (getD_set_keep listed i s hl) h'⟩) (h.2 i hi)⟩
end
end Go.Proofs.YtjdclgnlnehjlaaDoor
