/- A region that draws its order, from a point on at which one operation alone may come up, each time. -/
import Derived.Test.YtkljnpdojmcipaaKit2
import Derived.Deep.RegionWith
namespace Go.Proofs.Ytkljnpdojmcipaa
open Go Go.RowKit
theorem wanted_none {o : Oper} {y : Nat → Option Bool} {A B : Prop} (hg : o.guard = none) (x : A) : if Region.wanted o y = true then A else B := by
  rw [if_pos (by simp [Region.wanted, hg])]; exact x
/-- One operation alone may come up, each time. -/
def chained (md : Region.Mode) (ops : Array Oper) : Array Bool → List Nat → Bool
  | listed, [] => (Region.ready md ops listed).isEmpty
  | listed, i :: r => Region.ready md ops listed == [i] && (ops[i]?).isSome && chained md ops (listed.setIfInBounds i true) r
theorem wpAny_chain {P : Program} {md : Region.Mode} {ops : Array Oper} {Q : Exit → Act → World → Prop} : ∀ (r : List Nat) (fuel : Nat) (listed : Array Bool) (a : Act) (w : World),
    chained md ops listed r = true → r.length ≤ fuel → wpList P ops Q (r.filterMap (ops[·]?)) a w → wpAny P md ops Q fuel listed a w
  | [], fuel, listed, a, w, hc, _, h => by
    simp only [chained, List.isEmpty_iff] at hc
    exact wpAny_done hc h fuel
  | i :: r, fuel, listed, a, w, hc, hf, h => by
    simp only [chained, Bool.and_eq_true, beq_iff_eq] at hc
    obtain ⟨⟨h1, h2⟩, h3⟩ := hc
    obtain ⟨o, ho⟩ := Option.isSome_iff_exists.1 h2
    obtain ⟨fuel, rfl⟩ : ∃ k, fuel = k + 1 := ⟨fuel - 1, by simp only [List.length_cons] at hf; omega⟩
    refine wpAny_all h1 (by simp) (fun j hj => ?_)
    obtain rfl : j = i := by simpa using hj
    simp only [List.filterMap_cons, ho] at h
    unfold wpOp
    simp only [ho]
    unfold wpList at h
    have hl : r.length ≤ fuel := by simp only [List.length_cons] at hf; omega
    have mono : ∀ a w, wpList P ops Q (r.filterMap (ops[·]?)) a w → wpAny P md ops Q fuel (listed.setIfInBounds j true) a w := fun a w h => wpAny_chain r fuel _ a w h3 hl h
    split
    · rename_i hw
      rw [if_pos hw] at h
      exact h.imp (fun h => Oper.wp_mono mono h) id
    · rename_i hw
      rw [if_neg hw] at h
      exact mono _ _ h
/-- The head of such a chain, from its list. -/
theorem wpOp_head {P : Program} {md : Region.Mode} {ops : Array Oper} {Q : Exit → Act → World → Prop} (i : Nat) (r : List Nat) (fuel : Nat) (listed : Array Bool) (a : Act) (w : World)
    (ho : (ops[i]?).isSome = true) (hc : chained md ops (listed.setIfInBounds i true) r = true) (hl : r.length ≤ fuel) (h : wpList P ops Q ((i :: r).filterMap (ops[·]?)) a w) :
    wpOp P ops Q i (wpAny P md ops Q fuel (listed.setIfInBounds i true)) a w := by
  obtain ⟨o, ho⟩ := Option.isSome_iff_exists.1 ho
  simp only [List.filterMap_cons, ho] at h
  unfold wpOp
  simp only [ho]
  unfold wpList at h
  have mono : ∀ a w, wpList P ops Q (r.filterMap (ops[·]?)) a w → wpAny P md ops Q fuel (listed.setIfInBounds i true) a w := fun a w h => wpAny_chain r fuel _ a w hc hl h
  split
  · rename_i hw
    rw [if_pos hw] at h
    exact h.imp (fun h => Oper.wp_mono mono h) id
  · rename_i hw
    rw [if_neg hw] at h
    exact mono _ _ h
/-- Two operations may come up; behind either all is a chain. -/
theorem wpAny_fork {P : Program} {md : Region.Mode} {ops : Array Oper} {Q : Exit → Act → World → Prop} (i j : Nat) (r s : List Nat) (fuel : Nat) (listed : Array Bool) (a : Act) (w : World)
    (hr : Region.ready md ops listed = [i, j]) (hc : ((ops[i]?).isSome && (ops[j]?).isSome && chained md ops (listed.setIfInBounds i true) r && chained md ops (listed.setIfInBounds j true) s && decide (r.length ≤ fuel) && decide (s.length ≤ fuel)) = true)
    (h1 : wpList P ops Q ((i :: r).filterMap (ops[·]?)) a w) (h2 : wpList P ops Q ((j :: s).filterMap (ops[·]?)) a w) : wpAny P md ops Q (fuel + 1) listed a w := by
  simp only [Bool.and_eq_true, decide_eq_true_eq] at hc
  obtain ⟨⟨⟨⟨⟨c1, c2⟩, c3⟩, c4⟩, c5⟩, c6⟩ := hc
  refine wpAny_all hr (by simp) (fun k hk => ?_)
  rcases (show k = i ∨ k = j by simpa using hk) with rfl | rfl
  · exact wpOp_head _ r fuel listed a w c1 c3 c5 h1
  · exact wpOp_head _ s fuel listed a w c2 c4 c6 h2
/-- An operation by what it runs to. -/
theorem wpl_run {P : Program} {ops : Array Oper} {rest : List Oper} {o : Oper} {a : Act} {w : World} {Q : Exit → Act → World → Prop} (hgd : o.guard = none) (v : Value) (w' : World)
    (hrun : (execOp a.eval o).run P w = .ok (.value v) w') (h : wpList P ops Q rest (a.put o.dst v) w') : wpList P ops Q (o :: rest) a w := by
  refine wpList_plain hgd fun K hK => ?_
  unfold Oper.wp
  rw [hrun]
  exact hK _ _ h
end Go.Proofs.Ytkljnpdojmcipaa
