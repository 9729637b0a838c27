/- Plain: what does not hang on the order, and what is less known of one leaves no more known of both. Nothing of the program. -/
import Derived.Test.YtkljnpdojmcipaaNc
namespace Go.Proofs.Ytkljnpdojmcipaa
open Go
theorem add_comm' (a b : Nm) : tAdd a b = tAdd b a := by
  unfold tAdd
  rw [BitVec.add_comm b.v a.v, BitVec.or_comm b.m a.m, show a.v + b.v + b.m + a.m = a.v + b.v + a.m + b.m from by ac_rfl]
theorem and_comm' (a b : Nm) : tAnd a b = tAnd b a := by
  unfold tAnd
  rw [BitVec.and_comm b.v a.v, BitVec.and_comm (b.v ||| b.m)]
theorem or_comm' (a b : Nm) : tOr a b = tOr b a := by
  unfold tOr
  rw [BitVec.or_comm b.v a.v, BitVec.or_comm b.m]
theorem xor_comm' (a b : Nm) : tXor a b = tXor b a := by
  unfold tXor
  rw [BitVec.xor_comm b.v a.v, BitVec.or_comm b.m]
theorem join_comm' (a b : Nm) : tJoin a b = tJoin b a := by
  unfold tJoin tKnown
  rw [BitVec.xor_comm b.v a.v, BitVec.or_comm b.m]
  congr 1
  apply BitVec.eq_of_getLsbD_eq; intro i hi
  simp only [BitVec.getLsbD_and, BitVec.getLsbD_or, BitVec.getLsbD_xor, BitVec.getLsbD_not, hi, decide_true, Bool.true_and]
  cases a.v.getLsbD i <;> cases b.v.getLsbD i <;> cases a.m.getLsbD i <;> cases b.m.getLsbD i <;> rfl
theorem within_bits {A B : Nm} (hB : Rgt B) (h : ∀ i, i < 64 → (A.m.getLsbD i = true → B.m.getLsbD i = true) ∧ (B.m.getLsbD i = false → A.v.getLsbD i = B.v.getLsbD i)) : tWithin A B = true := by
  have h1 : A.m &&& ~~~B.m = 0#64 := by
    apply BitVec.eq_of_getLsbD_eq; intro i hi
    have := (h i hi).1
    simp only [BitVec.getLsbD_and, BitVec.getLsbD_not, hi, decide_true, Bool.true_and, BitVec.getLsbD_zero]
    revert this
    cases A.m.getLsbD i <;> cases B.m.getLsbD i <;> simp
  have h2 : tHas B A.v = true := by
    rw [has_iff]; intro i hi
    have h3 := (h i hi).2
    have h4 := hB.bit i
    revert h3 h4
    cases A.v.getLsbD i <;> cases B.v.getLsbD i <;> cases B.m.getLsbD i <;> simp
  unfold tWithin
  rw [h1, h2]; simp
/-- Less is known of one. -/
structure Wider (a a' : Nm) : Prop where
  r : Rgt a
  m : ∀ i, a.m.getLsbD i = true → a'.m.getLsbD i = true
  v : ∀ i, a'.v.getLsbD i = (a.v.getLsbD i && !a'.m.getLsbD i)
theorem Wider.rgt {a a' : Nm} (h : Wider a a') : Rgt a' := rgt_of fun i _ ⟨h1, h2⟩ => by
  rw [h.v i, h2] at h1; simp at h1
theorem Wider.lo {a a' : Nm} (h : Wider a a') : Sub a'.v a.v := fun i hi => by
  rw [h.v i] at hi; simp at hi; exact hi.1
theorem Wider.hi {a a' : Nm} (h : Wider a a') : Sub (hiN a) (hiN a') := fun i hi => by
  unfold hiN at hi ⊢
  have h1 := h.m i
  have h2 := h.v i
  simp only [BitVec.getLsbD_or] at hi ⊢
  rw [h2]
  revert hi h1
  cases a.v.getLsbD i <;> cases a.m.getLsbD i <;> cases a'.m.getLsbD i <;> simp
theorem wider_of {a : Nm} (ha : Rgt a) (more : W) : Wider a (rightN ⟨a.v, a.m ||| more⟩) where
  r := ha
  m := fun i h => by unfold rightN; simp [h]
  v := fun i => by
    unfold rightN
    by_cases hi : i < 64
    · simp only [BitVec.getLsbD_and, BitVec.getLsbD_not, hi, decide_true, Bool.true_and]
    · simp only [BitVec.getLsbD_of_ge _ i (Nat.le_of_not_lt hi), Bool.false_and]
theorem wider_within {a a' : Nm} (h : Wider a a') : tWithin a a' = true := by
  refine within_bits h.rgt fun i hi => ⟨h.m i, fun h0 => ?_⟩
  rw [h.v i, h0]; simp
theorem add_mono {a a' b : Nm} (h : Wider a a') (hb : Rgt b) : tWithin (tAdd a b) (tAdd a' b) = true := by
  refine within_bits (known_rgt _ _) fun i hi => ?_
  have c1 := carry_mono h.lo (y := b.v) (y' := b.v) (fun _ h => h) (c := false) (c' := false) (fun h => h) i
  have c2 := carry_mono (sub_hi a) (sub_hi b) (c := false) (c' := false) (fun h => h) i
  have c3 := carry_mono h.hi (y := hiN b) (y' := hiN b) (fun _ h => h) (c := false) (c' := false) (fun h => h) i
  have e1 := h.m i
  have e2 := h.v i
  have r1 := h.r.bit i
  have r2 := hb.bit i
  unfold tAdd tKnown
  rw [greatest_eq h.r hb, greatest_eq h.rgt hb]
  simp only [BitVec.getLsbD_and, BitVec.getLsbD_or, BitVec.getLsbD_xor, BitVec.getLsbD_not, hi, decide_true, Bool.true_and, bit_add _ _ i hi]
  rw [show (hiN a).getLsbD i = (a.v.getLsbD i || a.m.getLsbD i) from by unfold hiN; simp, show (hiN a').getLsbD i = (a'.v.getLsbD i || a'.m.getLsbD i) from by unfold hiN; simp, show (hiN b).getLsbD i = (b.v.getLsbD i || b.m.getLsbD i) from by unfold hiN; simp, e2]
  generalize BitVec.carry i a'.v b.v false = k1 at *
  generalize BitVec.carry i a.v b.v false = k2 at *
  generalize BitVec.carry i (hiN a) (hiN b) false = k3 at *
  generalize BitVec.carry i (hiN a') (hiN b) false = k4 at *
  generalize a.v.getLsbD i = av at *
  generalize a.m.getLsbD i = am at *
  generalize a'.m.getLsbD i = an at *
  generalize b.v.getLsbD i = bv at *
  generalize b.m.getLsbD i = bm at *
  clear e2
  revert c1 c2 c3 e1 r1 r2
  cases av <;> cases am <;> cases an <;> cases bv <;> cases bm <;> cases k1 <;> cases k2 <;> cases k3 <;> cases k4 <;> simp
theorem sub_mono {a a' b : Nm} (h : Wider a a') (hb : Rgt b) : tWithin (tSub a b) (tSub a' b) = true := by
  refine within_bits (known_rgt _ _) fun i hi => ?_
  have c1 := carry_mono h.lo (y := ~~~(hiN b)) (y' := ~~~(hiN b)) (fun _ h => h) (c := true) (c' := true) (fun h => h) i
  have c2 := carry_mono (sub_hi a) (not_sub (sub_hi b)) (c := true) (c' := true) (fun h => h) i
  have c3 := carry_mono h.hi (y := ~~~b.v) (y' := ~~~b.v) (fun _ h => h) (c := true) (c' := true) (fun h => h) i
  have c4 := carry_mono (x := a.v) (x' := a.v) (fun _ h => h) (not_sub (sub_hi b)) (c := true) (c' := true) (fun h => h) i
  have c5 := carry_mono (sub_hi a) (y := ~~~b.v) (y' := ~~~b.v) (fun _ h => h) (c := true) (c' := true) (fun h => h) i
  have c6 := carry_mono (x := a'.v) (x' := a'.v) (fun _ h => h) (not_sub (sub_hi b)) (c := true) (c' := true) (fun h => h) i
  have c7 := carry_mono h.lo (y := ~~~b.v) (y' := ~~~b.v) (fun _ h => h) (c := true) (c' := true) (fun h => h) i
  have e1 := h.m i
  have e2 := h.v i
  have r1 := h.r.bit i
  have r2 := hb.bit i
  unfold tSub tKnown
  rw [sless_eq hb, sless_eq hb, smore_eq h.r, smore_eq h.rgt]
  simp only [BitVec.getLsbD_and, BitVec.getLsbD_or, BitVec.getLsbD_xor, BitVec.getLsbD_not, hi, decide_true, Bool.true_and, bit_sub _ _ i hi]
  rw [show (hiN a).getLsbD i = (a.v.getLsbD i || a.m.getLsbD i) from by unfold hiN; simp, show (hiN a').getLsbD i = (a'.v.getLsbD i || a'.m.getLsbD i) from by unfold hiN; simp, show (hiN b).getLsbD i = (b.v.getLsbD i || b.m.getLsbD i) from by unfold hiN; simp, e2]
  generalize BitVec.carry i a'.v (~~~(hiN b)) true = k1 at *
  generalize BitVec.carry i a.v (~~~(hiN b)) true = k2 at *
  generalize BitVec.carry i a.v (~~~b.v) true = k5 at *
  generalize BitVec.carry i a'.v (~~~b.v) true = k6 at *
  generalize BitVec.carry i (hiN a) (~~~b.v) true = k3 at *
  generalize BitVec.carry i (hiN a') (~~~b.v) true = k4 at *
  generalize a.v.getLsbD i = av at *
  generalize a.m.getLsbD i = am at *
  generalize a'.m.getLsbD i = an at *
  generalize b.v.getLsbD i = bv at *
  generalize b.m.getLsbD i = bm at *
  clear e2 c2
  revert c1 c3 c4 c5 c6 c7 e1 r1 r2
  cases av <;> cases am <;> cases an <;> cases bv <;> cases bm <;> simp <;> cases k1 <;> cases k2 <;> cases k3 <;> cases k4 <;> cases k5 <;> cases k6 <;> simp
theorem and_rgt {a b : Nm} (ha : Rgt a) (hb : Rgt b) : Rgt (tAnd a b) := by
  refine rgt_of fun i hi => ?_
  unfold tAnd
  simp only [BitVec.getLsbD_and, BitVec.getLsbD_or, BitVec.getLsbD_not, hi, decide_true, Bool.true_and]
  cases a.v.getLsbD i <;> cases b.v.getLsbD i <;> cases a.m.getLsbD i <;> cases b.m.getLsbD i <;> simp
theorem and_mono {a a' b : Nm} (h : Wider a a') (hb : Rgt b) : tWithin (tAnd a b) (tAnd a' b) = true := by
  refine within_bits (and_rgt h.rgt hb) fun i hi => ?_
  have e1 := h.m i
  have e2 := h.v i
  have r1 := h.r.bit i
  have r2 := hb.bit i
  unfold tAnd
  simp only [BitVec.getLsbD_and, BitVec.getLsbD_or, BitVec.getLsbD_not, hi, decide_true, Bool.true_and]
  rw [e2]
  generalize a.v.getLsbD i = av at *
  generalize a.m.getLsbD i = am at *
  generalize a'.m.getLsbD i = an at *
  generalize b.v.getLsbD i = bv at *
  generalize b.m.getLsbD i = bm at *
  clear e2
  revert e1 r1 r2
  cases av <;> cases am <;> cases an <;> cases bv <;> cases bm <;> simp
end Go.Proofs.Ytkljnpdojmcipaa
