/- A region that draws its order, piece by piece; operations with a guard. -/
import Derived.Test.YtneffelpdaigoaaDoorReg2
namespace Go.Proofs.YtneffelpdaigoaaDoor
open Go Go.RowKit
/-- Q, but R where the code goes on. -/
def behind (Q : Exit → Act → World → Prop) (R : Act → World → Prop) : Exit → Act → World → Prop
  | .normal, a, w => R a w
  | .exit i, a, w => Q (.exit i) a w
  | .goto l, a, w => Q (.goto l) a w
  | .ret, a, w => Q .ret a w
  | .panic c, a, w => Q (.panic c) a w
  | .outgrown, a, w => Q .outgrown a w
theorem wp_behind {P : Program} {o : Oper} {a : Act} {w : World} {K : Act → World → Prop} {Q : Exit → Act → World → Prop} {R : Act → World → Prop} (h : o.wp P a w K (behind Q R)) : o.wp P a w K Q := by
  unfold Oper.wp at *
  generalize (execOp a.eval o).run P w = r at *
  exact h
def prechain (md : Region.Mode) (ops : Array Oper) : Array Bool → List Nat → Bool
  | _, [] => true
  | listed, i :: r => Region.ready md ops listed == [i] && (ops[i]?).isSome && prechain md ops (listed.setIfInBounds i true) r
/-- One operation alone may come up, so many times; then whatever may. -/
theorem wpAny_pre {P : Program} {md : Region.Mode} {ops : Array Oper} {Q : Exit → Act → World → Prop} : ∀ (r : List Nat) (fuel : Nat) (listed : Array Bool) (a : Act) (w : World), prechain md ops listed r = true →
    wpList P ops (behind Q (fun a w => wpAny P md ops Q fuel (r.foldl (fun l i => l.setIfInBounds i true) listed) a w)) (r.filterMap (ops[·]?)) a w → wpAny P md ops Q (fuel + r.length) listed a w
  | [], fuel, listed, a, w, _, h => h
  | i :: r, fuel, listed, a, w, hc, h => by
    simp only [prechain, Bool.and_eq_true, beq_iff_eq] at hc
    obtain ⟨⟨h1, h2⟩, h3⟩ := hc
    obtain ⟨o, ho⟩ := Option.isSome_iff_exists.1 h2
    show wpAny P md ops Q ((fuel + r.length) + 1) listed a w
    refine wpAny_all h1 (by simp) (fun j hj => ?_)
    obtain rfl : j = i := by simpa using hj
    simp only [List.filterMap_cons, ho] at h
    unfold wpOp
    simp only [ho]
    unfold wpList at h
    have mono : ∀ a w, wpList P ops (behind Q (fun a w => wpAny P md ops Q fuel (r.foldl (fun l i => l.setIfInBounds i true) (listed.setIfInBounds j true)) a w)) (r.filterMap (ops[·]?)) a w → wpAny P md ops Q (fuel + r.length) (listed.setIfInBounds j true) a w := fun a w h => wpAny_pre r fuel _ a w h3 h
    split
    · rename_i hw
      rw [if_pos hw] at h
      exact h.imp (fun h => Oper.wp_mono mono (wp_behind h)) (fun h => ⟨h.1, h.2⟩)
    · rename_i hw
      rw [if_neg hw] at h
      exact mono _ _ h
/-- The same, what is left of the fuel reckoned. -/
theorem wpAny_part {P : Program} {md : Region.Mode} {ops : Array Oper} {Q : Exit → Act → World → Prop} (r : List Nat) (F : Nat) (listed : Array Bool) (a : Act) (w : World) (hc : (prechain md ops listed r && decide (r.length ≤ F)) = true)
    (h : wpList P ops (behind Q (fun a w => wpAny P md ops Q (F - r.length) (r.foldl (fun l i => l.setIfInBounds i true) listed) a w)) (r.filterMap (ops[·]?)) a w) : wpAny P md ops Q F listed a w := by
  simp only [Bool.and_eq_true, decide_eq_true_eq] at hc
  have := wpAny_pre r (F - r.length) listed a w hc.1 h
  rwa [Nat.sub_add_cancel hc.2] at this
section
variable {P : Program} {ops : Array Oper} {rest : List Oper} {o : Oper} {a : Act} {w : World} {Q : Exit → Act → World → Prop}
theorem wpl_want (hw : Region.wanted o (yielded ops a.tmps) = true) (h : wpList P ops Q ({ o with guard := none } :: rest) a w) : wpList P ops Q (o :: rest) a w := by
  unfold wpList at h ⊢
  rw [if_pos (by simp [Region.wanted])] at h
  rw [if_pos hw]
  exact h
theorem wpl_skip (hw : Region.wanted o (yielded ops a.tmps) = false) (h : wpList P ops Q rest (a.put o.dst undef) w) : wpList P ops Q (o :: rest) a w := by
  unfold wpList
  rw [if_neg (by rw [hw]; decide)]
  exact h
end
end Go.Proofs.YtneffelpdaigoaaDoor
