/- A region that draws its order, in which what reads is taken first, as long as one operation, which waits for all that reads, has not come: until then a class of worlds is kept. Nothing of the program. -/
import Derived.Test.YtkljnpdojmcipaaInn
namespace Go.Proofs.Ytkljnpdojmcipaa
open Go Go.RowKit
section
variable {P : Program} {md : Region.Mode} {ops : Array Oper} {Q : Exit → Act → World → Prop} {s : Nat}
/-- As wpAny; till s has come, what I says holds behind each operation. -/
def anyT (P : Program) (md : Region.Mode) (ops : Array Oper) (Q : Exit → Act → World → Prop) (s : Nat) (I : World → Prop) : Nat → Array Bool → Act → World → Prop
  | 0, listed, a, w => Region.ready md ops listed = [] ∧ Q .normal a w
  | fuel + 1, listed, a, w => (Region.ready md ops listed = [] → Q .normal a w) ∧ ∀ i ∈ Region.ready md ops listed, wpOp P ops Q i (fun a' w' => ((listed.setIfInBounds i true).getD s true = false → I w') ∧ anyT P md ops Q s I fuel (listed.setIfInBounds i true) a' w') a w
theorem anyT_any {I : World → Prop} : ∀ (fuel : Nat) (listed : Array Bool) (a : Act) (w : World), anyT P md ops Q s I fuel listed a w → wpAny P md ops Q fuel listed a w
  | 0, _, _, _, h => h
  | fuel + 1, listed, _, _, h => ⟨h.1, fun i hi => wpOp_mono (fun a' w' h' => anyT_any fuel _ a' w' h'.2) (h.2 i hi)⟩
/-- Does s wait for i? -/
def waitsB (md : Region.Mode) (ops : Array Oper) (s i : Nat) : Bool := match ops[s]? with | some o => o.after.any (fun e => Region.binds md e && e.on == i) | none => false
theorem waits_not {i : Nat} {listed : Array Bool} (hw : waitsB md ops s i = true) (hi : i ∈ Region.ready md ops listed) {j : Nat} (hj : j ∈ Region.ready md ops listed) : j ≠ s := by
  rintro rfl
  unfold waitsB at hw
  obtain ⟨_, oj, hoj, hall⟩ := mem_ready.1 hj
  rw [hoj] at hw
  simp only [Array.any_eq_true', Bool.and_eq_true, beq_iff_eq] at hw
  obtain ⟨e, he, hb, heq⟩ := hw
  have h1 := hall e he hb
  have h0 := (mem_ready.1 hi).1
  rw [heq] at h1
  rcases Nat.lt_or_ge i listed.size with h' | h'
  · simp [h'] at h0 h1; rw [h0] at h1; cases h1
  · simp [Array.getElem?_eq_none h'] at h1
theorem anyT_first {I : World → Prop} {i : Nat} {oi : Oper} {v : Value} (hi : ops[i]? = some oi) (hsel : Region.noSelect ops = true) (hws : waitsB md ops s i = true) (his : i ≠ s) (hQ : ∀ c a w, Q (.panic c) (a.put oi.dst v) w → Q (.panic c) a w) :
    ∀ (fuel : Nat) (listed : Array Bool) (a : Act) (w : World),
      (∀ j oj, ops[j]? = some oj → j ≠ i → listed.getD j true = false → (∀ e ∈ oj.after, Region.binds md e = true → e.on ≠ i) → oi.apart ops oj = true) →
      i ∈ Region.ready md ops listed → YJ P ops I oi v a → listed.getD s true = false → I w → anyT P md ops Q s I fuel (listed.setIfInBounds i true) (a.put oi.dst v) w → anyT P md ops Q s I (fuel + 1) listed a w := by
  have hs := Region.noSelect_spec hsel
  intro fuel
  induction fuel with
  | zero =>
    intro listed a w _ hr hy hl hI H
    refine ⟨fun h => (by rw [h] at hr; cases hr), fun j hj => ?_⟩
    by_cases hji : j = i
    · subst hji; exact wpOp_YJ hi hy hI ⟨fun _ => hI, H⟩
    · have := ready_mono hj hji
      rw [H.1] at this
      cases this
  | succ fuel ih =>
    intro listed a w hfree hr hy hl hI H
    refine ⟨fun h => (by rw [h] at hr; cases hr), fun j hj => ?_⟩
    by_cases hji : j = i
    · subst hji; exact wpOp_YJ hi hy hI ⟨fun _ => hI, H⟩
    · have h1 := H.2 j (ready_mono hj hji)
      have hjs := waits_not hws hr hj
      obtain ⟨hjun, oj, hoj, hall⟩ := mem_ready.1 hj
      have hnot : ∀ e ∈ oj.after, Region.binds md e = true → e.on ≠ i := fun e he hb heq => by
        have h1 := hall e he hb
        have h0 := (mem_ready.1 hr).1
        rw [heq] at h1
        rcases Nat.lt_or_ge i listed.size with h' | h'
        · simp [h'] at h0 h1; rw [h0] at h1; cases h1
        · simp [Array.getElem?_eq_none h'] at h1
      have hap := hfree j oj hoj hji hjun hnot
      obtain ⟨_, _, h3⟩ := Oper.apart_spec hap
      have h2 := wpOp_carry hoj hap (fun cs b => hs j oj cs b hoj) hQ (YJ P ops I oi v)
        (fun a u hy => by unfold YJ at *; rw [execOp_put oi (fun cs b => hs i oi cs b hi) a oj.dst u h3, wanted_put oi a oj.dst u h3]; exact hy) (fun a d hy => hy) hy h1
      have hfree' : ∀ k ok, ops[k]? = some ok → k ≠ i → (listed.setIfInBounds j true).getD k true = false →
          (∀ e ∈ ok.after, Region.binds md e = true → e.on ≠ i) → oi.apart ops ok = true := fun k ok hk hki hun hno => by
        refine hfree k ok hk hki ?_ hno
        by_cases hjk : j = k
        · subst hjk; exact hjun
        · rw [getD_set_ne true hjk] at hun; exact hun
      have hl1 : (listed.setIfInBounds j true).getD s true = false := by rw [getD_set_ne true hjs]; exact hl
      have hl2 : ((listed.setIfInBounds i true).setIfInBounds j true).getD s true = false := by rw [getD_set_ne true hjs, getD_set_ne true his]; exact hl
      refine wpOp_mono (fun a' w' h3 => ⟨fun _ => h3.2.1 hl2, ih (listed.setIfInBounds j true) a' w' hfree' (ready_mono hr (Ne.symm hji)) h3.1 hl1 (h3.2.1 hl2) ?_⟩) h2
      rw [Array.setIfInBounds_comm _ _ hji]
      exact h3.2.2
/-- Operations that yield a value and enter nothing; a look whether a pointer is nil among them. -/
def readN : Op → Bool
  | .nilCheck _ => true
  | o => readOp o
theorem bind_value {α : Type} {m : Sem α} {k : α → Sem Next} {w w' : World} {n : Next} (h : ∀ x w1, (k x).run P w1 = .ok n w' → ∃ u, n = .value u) (hr : (m >>= k).run P w = .ok n w') : ∃ u, n = .value u := by
  rw [Sem.run_bind] at hr
  cases e : m.run P w with
  | ok x w2 => rw [e] at hr; exact h x w2 (by simpa [Result.andThen] using hr)
  | halt x w2 => rw [e] at hr; simp [Result.andThen] at hr
theorem pure_value {v : Value} {w w' : World} {n : Next} (hr : (pure (Next.value v) : Sem Next).run P w = .ok n w') : ∃ u, n = .value u := by
  simp at hr; exact ⟨_, hr.1.symm⟩
theorem readN_value {ρ : Operand → Value} {o : Oper} {w w' : World} {n : Next} (h : readN o.op = true) (hr : (execOp ρ o).run P w = .ok n w') : ∃ u, n = .value u := by
  cases e : o.op with
  | nilCheck x =>
    unfold execOp at hr
    simp only [e] at hr
    repeat' split at hr
    all_goals first
      | exact pure_value hr
      | (simp [runtimePanic] at hr; done)
      | (refine bind_value (fun x1 w1 hr => ?_) hr
         refine bind_value (fun x2 w2 hr => ?_) hr
         split at hr
         · refine bind_value (fun x3 w3 hr => ?_) hr
           exact pure_value hr
         · exact pure_value hr)
  | _ => rw [e] at h; exact read_value (by rw [e]; exact h) hr
/-- These may be taken first, in this order. -/
def takesT (md : Region.Mode) (ops : Array Oper) (s : Nat) : Array Bool → List Nat → Bool
  | _, [] => true
  | listed, i :: r => (match ops[i]? with | some o => readN o.op | none => false) && Region.free md ops listed i && (Region.ready md ops listed).contains i && waitsB md ops s i && (i != s) && takesT md ops s (listed.setIfInBounds i true) r
theorem anyT_takes {I : World → Prop} {fuel : Nat} {w : World} (hI : I w) (hsel : Region.noSelect ops = true) (hQ : ∀ c a w d v, Q (.panic c) (Act.put a d v) w → Q (.panic c) a w) : ∀ (r : List Nat) (listed : Array Bool) (a : Act), takesT md ops s listed r = true → listed.getD s true = false →
    wpQuiet P ops (fun w' => ∃ x : Inn I, w' = x.w') (fun a' => anyT P md ops Q s I fuel (r.foldl (fun l i => l.setIfInBounds i true) listed) a' w) (pickO ops r) a → anyT P md ops Q s I (fuel + r.length) listed a w
  | [], _, _, _, _, h => h
  | i :: r, listed, a, hb, hl, h => by
    simp only [takesT, Bool.and_eq_true, bne_iff_ne, ne_eq] at hb
    obtain ⟨⟨⟨⟨⟨h1, h2⟩, h3⟩, h5⟩, h6⟩, h4⟩ := hb
    cases ho : ops[i]? with
    | none => rw [ho] at h1; cases h1
    | some o =>
      rw [ho] at h1
      simp only [pickO, List.map_cons, ho, Option.getD_some] at h
      show anyT P md ops Q s I (fuel + r.length + 1) listed a w
      have key : ∃ v, YJ P ops I o v a ∧ wpQuiet P ops (fun w' => ∃ x : Inn I, w' = x.w') (fun a' => anyT P md ops Q s I fuel ((i :: r).foldl (fun l i => l.setIfInBounds i true) listed) a' w) (pickO ops r) (a.put o.dst v) := by
        unfold wpQuiet at h
        by_cases hw : Region.wanted o (yielded ops a.tmps) = true
        · rw [if_pos hw] at h
          obtain ⟨v, hv, hk⟩ := h
          refine ⟨v, .inl ⟨hw, fun w1 hw1 => ?_⟩, hk⟩
          have hq := hv w1 ⟨⟨w1, hw1⟩, rfl⟩
          unfold Oper.quietAt at hq
          cases hr : (execOp a.eval o).run P w1 with
          | ok n w2 =>
            obtain ⟨u, rfl⟩ := readN_value h1 hr
            rw [hr] at hq
            simp only [Oper.quietUpon] at hq
            obtain ⟨rfl, rfl⟩ := hq
            rfl
          | halt x w2 => rw [hr] at hq; simp only [Oper.quietUpon] at hq
        · rw [if_neg hw] at h
          exact ⟨undef, .inr ⟨by simpa using hw, rfl⟩, h⟩
      obtain ⟨v, hy, hk⟩ := key
      exact anyT_first ho hsel h5 h6 (fun c a w h => hQ c a w _ _ h) _ listed a w (Region.free_spec ho h2) (by simpa using h3) hy hl hI (anyT_takes hI hsel hQ r _ _ h4 (by rw [getD_set_ne true h6]; exact hl) hk)
theorem anyT_reads {I : World → Prop} {w : World} (r : List Nat) (F : Nat) (listed : Array Bool) (a : Act) (hI : I w) (hb : (Region.noSelect ops && takesT md ops s listed r && decide (r.length ≤ F) && !listed.getD s true) = true) (hQ : ∀ c a w d v, Q (.panic c) (Act.put a d v) w → Q (.panic c) a w)
    (h : wpQuiet P ops (fun w' => ∃ x : Inn I, w' = x.w') (fun a' => anyT P md ops Q s I (F - r.length) (r.foldl (fun l i => l.setIfInBounds i true) listed) a' w) (pickO ops r) a) : anyT P md ops Q s I F listed a w := by
  simp only [Bool.and_eq_true, decide_eq_true_eq, Bool.not_eq_true'] at hb
  obtain ⟨⟨⟨h1, h2⟩, h3⟩, h4⟩ := hb
  have := anyT_takes (fuel := F - r.length) hI h1 hQ r listed a h2 h4 h
  rwa [Nat.sub_add_cancel h3] at this
/-- One of two comes up. -/
theorem anyT_two {I : World → Prop} (i j : Nat) (F : Nat) (listed : Array Bool) (a : Act) (w : World) (hr : (Region.ready md ops listed == [i, j] && decide (1 ≤ F)) = true)
    (h1 : wpList P ops (behind Q (fun a w => ((listed.setIfInBounds i true).getD s true = false → I w) ∧ anyT P md ops Q s I (F - 1) (listed.setIfInBounds i true) a w)) ([i].filterMap (ops[·]?)) a w)
    (h2 : wpList P ops (behind Q (fun a w => ((listed.setIfInBounds j true).getD s true = false → I w) ∧ anyT P md ops Q s I (F - 1) (listed.setIfInBounds j true) a w)) ([j].filterMap (ops[·]?)) a w) : anyT P md ops Q s I F listed a w := by
  simp only [Bool.and_eq_true, beq_iff_eq, decide_eq_true_eq] at hr
  obtain ⟨hr, hF⟩ := hr
  obtain ⟨f, rfl⟩ : ∃ f, F = f + 1 := ⟨F - 1, by omega⟩
  refine ⟨fun he => (by rw [hr] at he; cases he), fun k hk => ?_⟩
  rw [hr] at hk
  rcases (show k = i ∨ k = j by simpa using hk) with rfl | rfl
  · exact wpOp_one h1
  · exact wpOp_one h2
theorem anyT_done {I : World → Prop} {fuel : Nat} {listed : Array Bool} {a : Act} {w : World} (hr : Region.ready md ops listed = []) (h : Q .normal a w) : anyT P md ops Q s I fuel listed a w := by
  cases fuel with
  | zero => exact ⟨hr, h⟩
  | succ f => exact ⟨fun _ => h, fun i hi => by rw [hr] at hi; cases hi⟩
/-- The one that may come. -/
theorem anyT_one {I : World → Prop} (i : Nat) (F : Nat) (listed : Array Bool) (a : Act) (w : World) (hr : (Region.ready md ops listed == [i] && decide (1 ≤ F)) = true)
    (h1 : wpList P ops (behind Q (fun a w => ((listed.setIfInBounds i true).getD s true = false → I w) ∧ anyT P md ops Q s I (F - 1) (listed.setIfInBounds i true) a w)) ([i].filterMap (ops[·]?)) a w) : anyT P md ops Q s I F listed a w := by
  simp only [Bool.and_eq_true, beq_iff_eq, decide_eq_true_eq] at hr
  obtain ⟨hr, hF⟩ := hr
  obtain ⟨f, rfl⟩ : ∃ f, F = f + 1 := ⟨F - 1, by omega⟩
  refine ⟨fun he => (by rw [hr] at he; cases he), fun k hk => ?_⟩
  rw [hr] at hk
  obtain rfl : k = i := by simpa using hk
  exact wpOp_one h1
theorem getD_set_keep (l : Array Bool) (i s : Nat) (h : l.getD s true = true) : (l.setIfInBounds i true).getD s true = true := by
  by_cases e : i = s
  · subst e
    rcases Nat.lt_or_ge i l.size with h' | h'
    · simp [Array.getD, h']
    · simp [Array.getD, Nat.not_lt.2 h']
  · rw [getD_set_ne true e]; exact h
/-- Behind s: the rest by wpAny. -/
theorem anyT_of_any {I : World → Prop} : ∀ (fuel : Nat) (listed : Array Bool) (a : Act) (w : World), listed.getD s true = true → wpAny P md ops Q fuel listed a w → anyT P md ops Q s I fuel listed a w
  | 0, _, _, _, _, h => h
  | fuel + 1, listed, _, _, hl, h => ⟨h.1, fun i hi => wpOp_mono (fun a' w' h' => ⟨fun e => (by rw [getD_set_keep listed i s hl] at e; cases e), anyT_of_any fuel _ a' w' (getD_set_keep listed i s hl) h'⟩) (h.2 i hi)⟩
theorem wp_region_till {id : Nat} {a : Act} {w : World} {l : List Oper} (s : Nat) (I : World → Prop) (hm : P.follows .mixedOrders = true)
    (h : anyT P .any l.toArray Q s I l.length (Array.replicate l.length false) a w.drew) : (Code.region id l.toArray true).wp P Q a w := by
  refine wp_region_any hm ?_
  have := anyT_any (I := I) _ _ _ _ h
  simpa using this
end
end Go.Proofs.Ytkljnpdojmcipaa
