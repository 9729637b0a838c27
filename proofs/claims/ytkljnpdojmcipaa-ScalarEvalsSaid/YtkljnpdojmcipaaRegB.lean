/- Two operations may come up, and both ways meet again at the region's end. A region that draws its order, piece by piece; operations with a guard. A region that draws its order: one of two, then whatever may; two that read, in either order. -/
import Derived.Test.YtkljnpdojmcipaaReg
import Derived.Laws.StructEq
namespace Go.Proofs.Ytkljnpdojmcipaa
open Go Go.RowKit
theorem wpAny_join {P : Program} {md : Region.Mode} {ops : Array Oper} {Q : Exit → Act → World → Prop} (i j : Nat) (r s : List Nat) (fuel : Nat) (listed : Array Bool) (a : Act) (w : World) {α : Type} (F : Act → α → Act) (R : α → World → Prop)
    (hr : Region.ready md ops listed = [i, j]) (hc : ((ops[i]?).isSome && (ops[j]?).isSome && chained md ops (listed.setIfInBounds i true) r && chained md ops (listed.setIfInBounds j true) s && decide (r.length ≤ fuel) && decide (s.length ≤ fuel)) = true)
    (h1 : Hid (∀ x w', R x w' → wpList P ops Q [] (F a x) w') → wpList P ops Q ((i :: r).filterMap (ops[·]?)) a w) (h2 : Hid (∀ x w', R x w' → wpList P ops Q [] (F a x) w') → wpList P ops Q ((j :: s).filterMap (ops[·]?)) a w)
    (ht : ∀ x w', R x w' → wpList P ops Q [] (F a x) w') : wpAny P md ops Q (fuel + 1) listed a w :=
  wpAny_fork i j r s fuel listed a w hr hc (h1 (hid ht)) (h2 (hid ht))
section
variable {P : Program} {ops : Array Oper} {rest : List Oper} {o : Oper} {a : Act} {w : World} {Q : Exit → Act → World → Prop}
/-- '!=' of two structs or arrays, from what '==' tells. -/
theorem wpl_neq (hgd : o.guard = none) (t ty : TypeId) (x y : Operand) (ho : o.op = .binOp .neq t x y ty) (A B : Array Value) (hx : a.eval x = .agg A) (hy : a.eval y = .agg B) (r : Bool) (hm : P.eqGuardType P.depth t = false) (h : (Op.equalIn 10000 t (.agg A) (.agg B)).run P w = .ok r w)
    (hk : wpList P ops Q rest (a.put o.dst (.bool (!r))) w) : wpList P ops Q (o :: rest) a w := by
  refine wpList_plain hgd fun K hK => ?_
  unfold Oper.wp execOp
  simp only [ho, hx, hy, Sem.run_bind, run_eqGuard_agg w _ t x y A B hm, run_neq_struct, h, Result.andThen_ok, Sem.run_pure]
  exact hK _ _ hk
theorem wpl_eql (hgd : o.guard = none) (t ty : TypeId) (x y : Operand) (ho : o.op = .binOp .eql t x y ty) (A B : Array Value) (hx : a.eval x = .agg A) (hy : a.eval y = .agg B) (r : Bool) (hm : P.eqGuardType P.depth t = false) (h : (Op.equalIn 10000 t (.agg A) (.agg B)).run P w = .ok r w)
    (hk : wpList P ops Q rest (a.put o.dst (.bool r)) w) : wpList P ops Q (o :: rest) a w := by
  refine wpList_plain hgd fun K hK => ?_
  unfold Oper.wp execOp
  simp only [ho, hx, hy, Sem.run_bind, run_eqGuard_agg w _ t x y A B hm, run_eql_struct, h, Result.andThen_ok, Sem.run_pure]
  exact hK _ _ hk
/-- What '==' of two structs or arrays runs to, and '!='. -/
theorem run_eql_op (t ty : TypeId) (x y : Operand) (ho : o.op = .binOp .eql t x y ty) (A B : Array Value) (hx : a.eval x = .agg A) (hy : a.eval y = .agg B) (r : Bool) (hm : P.eqGuardType P.depth t = false) (h : (Op.equalIn 10000 t (.agg A) (.agg B)).run P w = .ok r w) :
    (execOp a.eval o).run P w = .ok (.value (.bool r)) w := by
  unfold execOp
  simp only [ho, hx, hy, Sem.run_bind, run_eqGuard_agg w _ t x y A B hm, run_eql_struct, h, Result.andThen_ok, Sem.run_pure]
end
end Go.Proofs.Ytkljnpdojmcipaa
namespace Go.Proofs.Ytkljnpdojmcipaa
open Go Go.RowKit
/-- Q, but R where the code goes on. -/
def behind (Q : Exit → Act → World → Prop) (R : Act → World → Prop) : Exit → Act → World → Prop
  | .normal, a, w => R a w
  | .exit i, a, w => Q (.exit i) a w
  | .goto l, a, w => Q (.goto l) a w
  | .ret, a, w => Q .ret a w
  | .panic c, a, w => Q (.panic c) a w
  | .outgrown, a, w => Q .outgrown a w
theorem wp_behind {P : Program} {o : Oper} {a : Act} {w : World} {K : Act → World → Prop} {Q : Exit → Act → World → Prop} {R : Act → World → Prop} (h : o.wp P a w K (behind Q R)) : o.wp P a w K Q := by
  unfold Oper.wp at *
  generalize (execOp a.eval o).run P w = r at *
  exact h
def prechain (md : Region.Mode) (ops : Array Oper) : Array Bool → List Nat → Bool
  | _, [] => true
  | listed, i :: r => Region.ready md ops listed == [i] && (ops[i]?).isSome && prechain md ops (listed.setIfInBounds i true) r
/-- One operation alone may come up, so many times; then whatever may. -/
theorem wpAny_pre {P : Program} {md : Region.Mode} {ops : Array Oper} {Q : Exit → Act → World → Prop} : ∀ (r : List Nat) (fuel : Nat) (listed : Array Bool) (a : Act) (w : World), prechain md ops listed r = true →
    wpList P ops (behind Q (fun a w => wpAny P md ops Q fuel (r.foldl (fun l i => l.setIfInBounds i true) listed) a w)) (r.filterMap (ops[·]?)) a w → wpAny P md ops Q (fuel + r.length) listed a w
  | [], fuel, listed, a, w, _, h => h
  | i :: r, fuel, listed, a, w, hc, h => by
    simp only [prechain, Bool.and_eq_true, beq_iff_eq] at hc
    obtain ⟨⟨h1, h2⟩, h3⟩ := hc
    obtain ⟨o, ho⟩ := Option.isSome_iff_exists.1 h2
    show wpAny P md ops Q ((fuel + r.length) + 1) listed a w
    refine wpAny_all h1 (by simp) (fun j hj => ?_)
    obtain rfl : j = i := by simpa using hj
    simp only [List.filterMap_cons, ho] at h
    unfold wpOp
    simp only [ho]
    unfold wpList at h
    have mono : ∀ a w, wpList P ops (behind Q (fun a w => wpAny P md ops Q fuel (r.foldl (fun l i => l.setIfInBounds i true) (listed.setIfInBounds j true)) a w)) (r.filterMap (ops[·]?)) a w → wpAny P md ops Q (fuel + r.length) (listed.setIfInBounds j true) a w := fun a w h => wpAny_pre r fuel _ a w h3 h
    split
    · rename_i hw
      rw [if_pos hw] at h
      exact h.imp (fun h => Oper.wp_mono mono (wp_behind h)) (fun h => ⟨h.1, h.2⟩)
    · rename_i hw
      rw [if_neg hw] at h
      exact mono _ _ h
/-- The same, what is left of the fuel reckoned. -/
theorem wpAny_part {P : Program} {md : Region.Mode} {ops : Array Oper} {Q : Exit → Act → World → Prop} (r : List Nat) (F : Nat) (listed : Array Bool) (a : Act) (w : World) (hc : (prechain md ops listed r && decide (r.length ≤ F)) = true)
    (h : wpList P ops (behind Q (fun a w => wpAny P md ops Q (F - r.length) (r.foldl (fun l i => l.setIfInBounds i true) listed) a w)) (r.filterMap (ops[·]?)) a w) : wpAny P md ops Q F listed a w := by
  simp only [Bool.and_eq_true, decide_eq_true_eq] at hc
  have := wpAny_pre r (F - r.length) listed a w hc.1 h
  rwa [Nat.sub_add_cancel hc.2] at this
section
variable {P : Program} {ops : Array Oper} {rest : List Oper} {o : Oper} {a : Act} {w : World} {Q : Exit → Act → World → Prop}
theorem wpl_want (hw : Region.wanted o (yielded ops a.tmps) = true) (h : wpList P ops Q ({ o with guard := none } :: rest) a w) : wpList P ops Q (o :: rest) a w := by
  unfold wpList at h ⊢
  rw [if_pos (by simp [Region.wanted])] at h
  rw [if_pos hw]
  exact h
theorem wpl_skip (hw : Region.wanted o (yielded ops a.tmps) = false) (h : wpList P ops Q rest (a.put o.dst undef) w) : wpList P ops Q (o :: rest) a w := by
  unfold wpList
  rw [if_neg (by rw [hw]; decide)]
  exact h
end
end Go.Proofs.Ytkljnpdojmcipaa
namespace Go.Proofs.Ytkljnpdojmcipaa
open Go Go.RowKit
theorem wpOp_one {P : Program} {ops : Array Oper} {Q : Exit → Act → World → Prop} {i : Nat} {K : Act → World → Prop} {a : Act} {w : World} (h : wpList P ops (behind Q K) ([i].filterMap (ops[·]?)) a w) : wpOp P ops Q i K a w := by
  unfold wpOp
  cases ho : ops[i]? with
  | none => simp only [List.filterMap_cons, ho, List.filterMap_nil] at h; exact h
  | some o =>
    simp only [List.filterMap_cons, ho, List.filterMap_nil] at h
    unfold wpList at h
    have mono : ∀ a w, wpList P ops (behind Q K) [] a w → K a w := fun a w h => h
    dsimp only
    split
    · rename_i hw
      rw [if_pos hw] at h
      exact h.imp (fun h => Oper.wp_mono mono (wp_behind h)) (fun h => ⟨h.1, h.2⟩)
    · rename_i hw
      rw [if_neg hw] at h
      exact mono _ _ h
/-- One of two comes up. -/
theorem wpAny_two {P : Program} {md : Region.Mode} {ops : Array Oper} {Q : Exit → Act → World → Prop} (i j : Nat) (fuel : Nat) (listed : Array Bool) (a : Act) (w : World) (hr : Region.ready md ops listed = [i, j])
    (h1 : wpList P ops (behind Q (fun a w => wpAny P md ops Q fuel (listed.setIfInBounds i true) a w)) ([i].filterMap (ops[·]?)) a w)
    (h2 : wpList P ops (behind Q (fun a w => wpAny P md ops Q fuel (listed.setIfInBounds j true) a w)) ([j].filterMap (ops[·]?)) a w) : wpAny P md ops Q (fuel + 1) listed a w := by
  refine wpAny_all hr (by simp) (fun k hk => ?_)
  rcases (show k = i ∨ k = j by simpa using hk) with rfl | rfl
  · exact wpOp_one h1
  · exact wpOp_one h2
/-- Where several ways meet again. -/
theorem wpAny_knot {P : Program} {md : Region.Mode} {ops : Array Oper} {Q : Exit → Act → World → Prop} {fuel : Nat} {listed : Array Bool} {a : Act} {w : World} {α : Type} (F : Act → α → Act) (R : α → World → Prop) (L : List Nat) (fuel' : Nat)
    (h : Hid (∀ x w', R x w' → wpAny P md ops Q fuel' (L.foldl (fun l i => l.setIfInBounds i true) listed) (F a x) w') → wpAny P md ops Q fuel listed a w)
    (ht : ∀ x w', R x w' → wpAny P md ops Q fuel' (L.foldl (fun l i => l.setIfInBounds i true) listed) (F a x) w') : wpAny P md ops Q fuel listed a w := h (hid ht)
theorem wpOp_value {P : Program} {ops : Array Oper} {Q : Exit → Act → World → Prop} {i : Nat} {o : Oper} {K : Act → World → Prop} {a : Act} {w : World} {v : Value} (ho : ops[i]? = some o) (hw : Region.wanted o (yielded ops a.tmps) = true)
    (hrun : (execOp a.eval o).run P w = .ok (.value v) w) (h : K (a.put o.dst v) w) : wpOp P ops Q i K a w := by
  unfold wpOp
  simp only [ho]
  rw [if_pos hw]
  refine .inl ?_
  unfold Oper.wp
  rw [hrun]
  exact h
theorem put_swap (a : Act) (i j : Nat) (u v : Value) (h : i ≠ j) : (a.put (some j) u).put (some i) v = (a.put (some i) v).put (some j) u := by
  unfold Act.put
  simp only
  rw [Array.setIfInBounds_comm _ _ (Ne.symm h)]
/-- Two that read, in either order. -/
theorem wpAny_pair {P : Program} {md : Region.Mode} {ops : Array Oper} {Q : Exit → Act → World → Prop} (i j : Nat) (oi oj : Oper) (vi vj : Value) (fuel : Nat) (listed : Array Bool) (a : Act) (w : World)
    (hi : ops[i]? = some oi) (hj : ops[j]? = some oj)
    (hr : Region.ready md ops listed = [i, j] ∧ Region.ready md ops (listed.setIfInBounds i true) = [j] ∧ Region.ready md ops (listed.setIfInBounds j true) = [i])
    (wi : Region.wanted oi (yielded ops a.tmps) = true) (wj : Region.wanted oj (yielded ops a.tmps) = true) (wi' : Region.wanted oi (yielded ops (a.put oj.dst vj).tmps) = true) (wj' : Region.wanted oj (yielded ops (a.put oi.dst vi).tmps) = true)
    (ri : (execOp a.eval oi).run P w = .ok (.value vi) w) (rj : (execOp a.eval oj).run P w = .ok (.value vj) w) (ri' : (execOp (a.put oj.dst vj).eval oi).run P w = .ok (.value vi) w) (rj' : (execOp (a.put oi.dst vi).eval oj).run P w = .ok (.value vj) w)
    (hc : (a.put oj.dst vj).put oi.dst vi = (a.put oi.dst vi).put oj.dst vj) (hne : i ≠ j)
    (h : wpAny P md ops Q fuel ((listed.setIfInBounds i true).setIfInBounds j true) ((a.put oi.dst vi).put oj.dst vj) w) : wpAny P md ops Q (fuel + 1 + 1) listed a w := by
  obtain ⟨r0, r1, r2⟩ := hr
  refine wpAny_all r0 (by simp) (fun k hk => ?_)
  rcases (show k = i ∨ k = j by simpa using hk) with rfl | rfl
  · refine wpOp_value hi wi ri ?_
    refine wpAny_all r1 (by simp) (fun k hk => ?_)
    obtain rfl : k = j := by simpa using hk
    exact wpOp_value hj wj' rj' h
  · refine wpOp_value hj wj rj ?_
    refine wpAny_all r2 (by simp) (fun k' hk => ?_)
    obtain rfl : k' = i := by simpa using hk
    refine wpOp_value hi wi' ri' ?_
    rw [hc, Array.setIfInBounds_comm _ _ (Ne.symm hne)]
    exact h
section
variable {P : Program} {a : Act} {w : World}
/-- What a load of a whole array runs to. -/
theorem run_ld {o : Oper} (ty : TypeId) (x : Operand) (ho : o.op = .load ty x) (b : Nat) (hx : a.eval x = .pointer (some ⟨b, 0, none⟩)) (T : TypeId) (n : Nat) (f : Nat → Value) (hh : Has w b T n f)
    (d : TypeDesc) (hu : P.underlying ty = some d) (hd : d.isRow = true) (hi : (P.info? ty).map (·.size) = some n) : (execOp a.eval o).run P w = .ok (.value (.agg (cellsOf f n))) w := by
  have hrun := run_load_part (P := P) hh 0 n (by omega) ty d hu hd hi
  simp only [Nat.zero_add] at hrun
  unfold execOp
  simp only [ho, hx, Sem.run_bind, hrun, Result.andThen_ok, Sem.run_pure]
end
section
variable {P : Program} {ops : Array Oper} {rest : List Oper} {o : Oper} {a : Act} {w : World} {Q : Exit → Act → World → Prop}
/-- A conversion, by what it runs to. -/
theorem wpl_conv (hgd : o.guard = none) (src dst : TypeId) (x : Operand) (ho : o.op = .convert src dst x) (u v : Value) (hx : a.eval x = u) (hrun : (convert src dst u).run P w = .ok v w) (h : wpList P ops Q rest (a.put o.dst v) w) : wpList P ops Q (o :: rest) a w := by
  refine wpl_run hgd v w ?_ h
  unfold execOp
  simp only [ho, hx, Sem.run_bind, hrun, Result.andThen_ok, Sem.run_pure]
theorem wpAny_at {md : Region.Mode} {fuel : Nat} {l1 l2 : Array Bool} {a1 a2 : Act} (hl : l1 = l2) (ha : a1 = a2) (h : wpAny P md ops Q fuel l1 a1 w) : wpAny P md ops Q fuel l2 a2 w := by
  subst hl; subst ha; exact h
end
end Go.Proofs.Ytkljnpdojmcipaa
