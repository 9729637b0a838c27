/- A region that draws its order: one of two, then whatever may; two that read, in either order. -/
import Derived.Test.YtneffelpdaigoaaDoorReg3
namespace Go.Proofs.YtneffelpdaigoaaDoor
open Go Go.RowKit
theorem wpOp_one {P : Program} {ops : Array Oper} {Q : Exit → Act → World → Prop} {i : Nat} {K : Act → World → Prop} {a : Act} {w : World} (h : wpList P ops (behind Q K) ([i].filterMap (ops[·]?)) a w) : wpOp P ops Q i K a w := by
  unfold wpOp
  cases ho : ops[i]? with
  | none => simp only [List.filterMap_cons, ho, List.filterMap_nil] at h; exact h
  | some o =>
    simp only [List.filterMap_cons, ho, List.filterMap_nil] at h
    unfold wpList at h
    have mono : ∀ a w, wpList P ops (behind Q K) [] a w → K a w := fun a w h => h
    dsimp only
    split
    · rename_i hw
      rw [if_pos hw] at h
      exact h.imp (fun h => Oper.wp_mono mono (wp_behind h)) (fun h => ⟨h.1, h.2⟩)
    · rename_i hw
      rw [if_neg hw] at h
      exact mono _ _ h
/-- One of two comes up. -/
theorem wpAny_two {P : Program} {md : Region.Mode} {ops : Array Oper} {Q : Exit → Act → World → Prop} (i j : Nat) (fuel : Nat) (listed : Array Bool) (a : Act) (w : World) (hr : Region.ready md ops listed = [i, j])
    (h1 : wpList P ops (behind Q (fun a w => wpAny P md ops Q fuel (listed.setIfInBounds i true) a w)) ([i].filterMap (ops[·]?)) a w)
    (h2 : wpList P ops (behind Q (fun a w => wpAny P md ops Q fuel (listed.setIfInBounds j true) a w)) ([j].filterMap (ops[·]?)) a w) : wpAny P md ops Q (fuel + 1) listed a w := by
  refine wpAny_all hr (by simp) (fun k hk => ?_)
  rcases (show k = i ∨ k = j by simpa using hk) with rfl | rfl
  · exact wpOp_one h1
  · exact wpOp_one h2
/-- Where several ways meet again. -/
theorem wpAny_knot {P : Program} {md : Region.Mode} {ops : Array Oper} {Q : Exit → Act → World → Prop} {fuel : Nat} {listed : Array Bool} {a : Act} {w : World} {α : Type} (F : Act → α → Act) (R : α → World → Prop) (L : List Nat) (fuel' : Nat)
    (h : Hid (∀ x w', R x w' → wpAny P md ops Q fuel' (L.foldl (fun l i => l.setIfInBounds i true) listed) (F a x) w') → wpAny P md ops Q fuel listed a w)
    (ht : ∀ x w', R x w' → wpAny P md ops Q fuel' (L.foldl (fun l i => l.setIfInBounds i true) listed) (F a x) w') : wpAny P md ops Q fuel listed a w := h (hid ht)
theorem wpOp_value {P : Program} {ops : Array Oper} {Q : Exit → Act → World → Prop} {i : Nat} {o : Oper} {K : Act → World → Prop} {a : Act} {w : World} {v : Value} (ho : ops[i]? = some o) (hw : Region.wanted o (yielded ops a.tmps) = true)
    (hrun : (execOp a.eval o).run P w = .ok (.value v) w) (h : K (a.put o.dst v) w) : wpOp P ops Q i K a w := by
  unfold wpOp
  simp only [ho]
  rw [if_pos hw]
  refine .inl ?_
  unfold Oper.wp
  rw [hrun]
  exact h
theorem put_swap (a : Act) (i j : Nat) (u v : Value) (h : i ≠ j) : (a.put (some j) u).put (some i) v = (a.put (some i) v).put (some j) u := by
  unfold Act.put
  simp only
  rw [Array.setIfInBounds_comm _ _ (Ne.symm h)]
/-- Two that read, in either order. -/
theorem wpAny_pair {P : Program} {md : Region.Mode} {ops : Array Oper} {Q : Exit → Act → World → Prop} (i j : Nat) (oi oj : Oper) (vi vj : Value) (fuel : Nat) (listed : Array Bool) (a : Act) (w : World)
    (hi : ops[i]? = some oi) (hj : ops[j]? = some oj)
    (hr : Region.ready md ops listed = [i, j] ∧ Region.ready md ops (listed.setIfInBounds i true) = [j] ∧ Region.ready md ops (listed.setIfInBounds j true) = [i])
    (wi : Region.wanted oi (yielded ops a.tmps) = true) (wj : Region.wanted oj (yielded ops a.tmps) = true) (wi' : Region.wanted oi (yielded ops (a.put oj.dst vj).tmps) = true) (wj' : Region.wanted oj (yielded ops (a.put oi.dst vi).tmps) = true)
    (ri : (execOp a.eval oi).run P w = .ok (.value vi) w) (rj : (execOp a.eval oj).run P w = .ok (.value vj) w) (ri' : (execOp (a.put oj.dst vj).eval oi).run P w = .ok (.value vi) w) (rj' : (execOp (a.put oi.dst vi).eval oj).run P w = .ok (.value vj) w)
    (hc : (a.put oj.dst vj).put oi.dst vi = (a.put oi.dst vi).put oj.dst vj) (hne : i ≠ j)
    (h : wpAny P md ops Q fuel ((listed.setIfInBounds i true).setIfInBounds j true) ((a.put oi.dst vi).put oj.dst vj) w) : wpAny P md ops Q (fuel + 1 + 1) listed a w := by
  obtain ⟨r0, r1, r2⟩ := hr
  refine wpAny_all r0 (by simp) (fun k hk => ?_)
  rcases (show k = i ∨ k = j by simpa using hk) with rfl | rfl
  · refine wpOp_value hi wi ri ?_
    refine wpAny_all r1 (by simp) (fun k hk => ?_)
    obtain rfl : k = j := by simpa using hk
    exact wpOp_value hj wj' rj' h
  · refine wpOp_value hj wj rj ?_
    refine wpAny_all r2 (by simp) (fun k' hk => ?_)
    obtain rfl : k' = i := by simpa using hk
    refine wpOp_value hi wi' ri' ?_
    rw [hc, Array.setIfInBounds_comm _ _ (Ne.symm hne)]
    exact h
section
variable {P : Program} {a : Act} {w : World}
/-- What a load of a whole array runs to. -/
theorem run_ld {o : Oper} (ty : TypeId) (x : Operand) (ho : o.op = .load ty x) (b : Nat) (hx : a.eval x = .pointer (some ⟨b, 0, none⟩)) (T : TypeId) (n : Nat) (f : Nat → Value) (hh : Has w b T n f)
    (d : TypeDesc) (hu : P.underlying ty = some d) (hd : d.isRow = true) (hi : (P.info? ty).map (·.size) = some n) : (execOp a.eval o).run P w = .ok (.value (.agg (cellsOf f n))) w := by
  have hrun := run_load_part (P := P) hh 0 n (by omega) ty d hu hd hi
  simp only [Nat.zero_add] at hrun
  unfold execOp
  simp only [ho, hx, Sem.run_bind, hrun, Result.andThen_ok, Sem.run_pure]
end
section
variable {P : Program} {ops : Array Oper} {rest : List Oper} {o : Oper} {a : Act} {w : World} {Q : Exit → Act → World → Prop}
/-- A conversion, by what it runs to. -/
theorem wpl_conv (hgd : o.guard = none) (src dst : TypeId) (x : Operand) (ho : o.op = .convert src dst x) (u v : Value) (hx : a.eval x = u) (hrun : (convert src dst u).run P w = .ok v w) (h : wpList P ops Q rest (a.put o.dst v) w) : wpList P ops Q (o :: rest) a w := by
  refine wpl_run hgd v w ?_ h
  unfold execOp
  simp only [ho, hx, Sem.run_bind, hrun, Result.andThen_ok, Sem.run_pure]
theorem wpAny_at {md : Region.Mode} {fuel : Nat} {l1 l2 : Array Bool} {a1 a2 : Act} (hl : l1 = l2) (ha : a1 = a2) (h : wpAny P md ops Q fuel l1 a1 w) : wpAny P md ops Q fuel l2 a2 w := by
  subst hl; subst ha; exact h
end
end Go.Proofs.YtneffelpdaigoaaDoor
