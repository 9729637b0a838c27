/- What is told of both, of either, and of one within another one, is the document's. -/
import Derived.Test.YtbeikhokkpioeaaNr3
namespace Go.Proofs.Ytbeikhokkpioeaa
open Go Go.RowKit
theorem join_ref {a b : Nm} (ha : Rgt a) (hb : Rgt b) : tJoin a b = rJoin a b := by
  refine rN_eq fun i hi => ?_
  have h1 := ha.bit i
  have h2 := hb.bit i
  unfold tJoin tKnown rBits
  simp only [BitVec.getLsbD_and, BitVec.getLsbD_or, BitVec.getLsbD_xor, BitVec.getLsbD_not, hi, decide_true, Bool.true_and]
  revert h1 h2
  cases a.v.getLsbD i <;> cases b.v.getLsbD i <;> cases a.m.getLsbD i <;> cases b.m.getLsbD i <;> decide
def apartW (a b : Nm) : W := (a.v ^^^ b.v) &&& ~~~(a.m ||| b.m)
theorem meet_of {a b : Nm} (ha : Rgt a) (hb : Rgt b) : tMeet a b = if apartW a b != 0#64 then (⟨0#64, 0#64⟩, false) else (⟨a.v ||| b.v, a.m &&& b.m⟩, true) := by
  unfold tMeet apartW
  rw [tRight_iff.2 ha, tRight_iff.2 hb]; rfl
theorem apart_bit {a b : Nm} (ha : Rgt a) (hb : Rgt b) {i : Nat} (hi : i < 64) : ((apartW a b).getLsbD i = true) ↔ rMeetY a b i = (false, false) := by
  have h1 := ha.bit i
  have h2 := hb.bit i
  unfold apartW rMeetY rBits
  simp only [BitVec.getLsbD_and, BitVec.getLsbD_or, BitVec.getLsbD_xor, BitVec.getLsbD_not, hi, decide_true, Bool.true_and]
  revert h1 h2
  cases a.v.getLsbD i <;> cases b.v.getLsbD i <;> cases a.m.getLsbD i <;> cases b.m.getLsbD i <;> decide
theorem apart_iff {a b : Nm} (ha : Rgt a) (hb : Rgt b) : (apartW a b != 0#64) = !rMeetB a b := by
  rw [Bool.eq_iff_iff]
  constructor
  · intro h
    rw [bne_iff_ne] at h
    have : ∃ i, i < 64 ∧ (apartW a b).getLsbD i = true := by
      apply Classical.byContradiction
      intro hc
      apply h
      apply BitVec.eq_of_getLsbD_eq
      intro i hi
      cases hb : (apartW a b).getLsbD i
      · simp
      · exact absurd ⟨i, hi, hb⟩ hc
    obtain ⟨i, hi, hbit⟩ := this
    rw [(meet_none hi ((apart_bit ha hb hi).1 hbit)).2]; rfl
  · intro h
    rw [bne_iff_ne]
    intro h0
    have : rMeetB a b = true := (meet_all (fun i hi hc => by
      have := (apart_bit ha hb hi).2 hc
      rw [h0] at this; simp at this)).2
    rw [this] at h; cases h
theorem meetB_ref {a b : Nm} (ha : Rgt a) (hb : Rgt b) : meetB a b = rMeetB a b := by
  unfold meetB
  rw [meet_of ha hb, apart_iff ha hb]
  cases rMeetB a b <;> rfl
theorem apart_zero {a b : Nm} (ha : Rgt a) (hb : Rgt b) (h : meetB a b = true) (i : Nat) (hi : i < 64) : (apartW a b).getLsbD i = false := by
  have h1 := apart_iff ha hb
  rw [← meetB_ref ha hb, h] at h1
  have : apartW a b = 0#64 := by
    have : ¬ (apartW a b != 0#64) = true := by rw [h1]; decide
    simpa using this
  rw [this]; simp
theorem meetN_val {a b : Nm} (ha : Rgt a) (hb : Rgt b) (h : meetB a b = true) : meetN a b = ⟨a.v ||| b.v, a.m &&& b.m⟩ := by
  have h1 := apart_iff ha hb
  rw [← meetB_ref ha hb, h] at h1
  unfold meetN
  rw [meet_of ha hb, h1]; rfl
theorem meetN_ref {a b : Nm} (ha : Rgt a) (hb : Rgt b) : meetN a b = rMeetN a b := by
  cases h : meetB a b
  · have h1 := apart_iff ha hb
    have h2 := meetB_ref ha hb
    rw [h] at h2
    rw [← h2] at h1
    have : rMeetN a b = zeroN := by unfold rMeetN; rw [← h2]; rfl
    rw [this]
    unfold meetN
    rw [meet_of ha hb, h1]; rfl
  · rw [meetN_val ha hb h]
    have h2 := meetB_ref ha hb
    rw [h] at h2
    have : rMeetN a b = rN (rMeetY a b) 64 := by unfold rMeetN; rw [← h2]; rfl
    rw [this]
    refine rN_eq fun i hi => ?_
    have h3 := apart_zero ha hb h i hi
    have h4 := ha.bit i
    have h5 := hb.bit i
    unfold apartW at h3
    unfold rMeetY rBits
    simp only [BitVec.getLsbD_and, BitVec.getLsbD_or, BitVec.getLsbD_xor, BitVec.getLsbD_not, hi, decide_true, Bool.true_and] at h3 ⊢
    revert h3 h4 h5
    cases a.v.getLsbD i <;> cases b.v.getLsbD i <;> cases a.m.getLsbD i <;> cases b.m.getLsbD i <;> decide
theorem within_iff {a b : Nm} (ha : Rgt a) (hb : Rgt b) : tWithin a b = true ↔ ∀ i, i < 64 → (a.m.getLsbD i = true → b.m.getLsbD i = true) ∧ (b.m.getLsbD i = false → a.v.getLsbD i = b.v.getLsbD i) := by
  constructor
  · intro h
    unfold tWithin at h
    rw [tRight_iff.2 ha] at h
    simp only [Bool.not_true, Bool.false_or, Bool.and_eq_true, beq_iff_eq] at h
    obtain ⟨h1, h2⟩ := h
    rw [has_iff] at h2
    intro i hi
    have h3 := congrArg (fun z => z.getLsbD i) h1
    simp only [BitVec.getLsbD_and, BitVec.getLsbD_not, hi, decide_true, Bool.true_and, BitVec.getLsbD_zero] at h3
    have h4 := h2 i hi
    revert h3 h4
    cases a.v.getLsbD i <;> cases b.v.getLsbD i <;> cases a.m.getLsbD i <;> cases b.m.getLsbD i <;> decide
  · exact within_bits hb
theorem within_meet {a b : Nm} (ha : Rgt a) (hb : Rgt b) : tWithin a b = (meetB a b && (meetN a b).beq a) := by
  rw [Bool.eq_iff_iff, Bool.and_eq_true, within_iff ha hb]
  constructor
  · intro h
    have h1 : meetB a b = true := by
      rw [meetB_ref ha hb]
      refine (meet_all (fun i hi hc => ?_)).2
      have h2 := (apart_bit ha hb hi).2 hc
      have h3 := h i hi
      unfold apartW at h2
      simp only [BitVec.getLsbD_and, BitVec.getLsbD_or, BitVec.getLsbD_xor, BitVec.getLsbD_not, hi, decide_true, Bool.true_and] at h2
      revert h2 h3
      cases a.v.getLsbD i <;> cases b.v.getLsbD i <;> cases a.m.getLsbD i <;> cases b.m.getLsbD i <;> decide
    refine ⟨h1, Nm.beq_iff.2 ?_⟩
    rw [meetN_val ha hb h1]
    apply Nm.ext'
    · apply BitVec.eq_of_getLsbD_eq; intro i hi
      have h3 := h i hi
      have h4 := hb.bit i
      show (a.v ||| b.v).getLsbD i = a.v.getLsbD i
      rw [BitVec.getLsbD_or]
      revert h3 h4
      cases a.v.getLsbD i <;> cases b.v.getLsbD i <;> cases a.m.getLsbD i <;> cases b.m.getLsbD i <;> decide
    · apply BitVec.eq_of_getLsbD_eq; intro i hi
      have h3 := h i hi
      show (a.m &&& b.m).getLsbD i = a.m.getLsbD i
      rw [BitVec.getLsbD_and]
      revert h3
      cases a.v.getLsbD i <;> cases b.v.getLsbD i <;> cases a.m.getLsbD i <;> cases b.m.getLsbD i <;> decide
  · rintro ⟨h1, h2⟩ i hi
    have h3 := apart_zero ha hb h1 i hi
    rw [Nm.beq_iff, meetN_val ha hb h1] at h2
    have h4 := congrArg (fun z : Nm => z.v.getLsbD i) h2
    have h5 := congrArg (fun z : Nm => z.m.getLsbD i) h2
    unfold apartW at h3
    simp only [BitVec.getLsbD_and, BitVec.getLsbD_or, BitVec.getLsbD_xor, BitVec.getLsbD_not, hi, decide_true, Bool.true_and] at h3 h4 h5
    revert h3 h4 h5
    cases a.v.getLsbD i <;> cases b.v.getLsbD i <;> cases a.m.getLsbD i <;> cases b.m.getLsbD i <;> decide
theorem within_join_l {a b : Nm} (ha : Rgt a) (hb : Rgt b) : tWithin a (tJoin a b) = true := by
  refine within_bits (known_rgt _ _) fun i hi => ?_
  unfold tJoin tKnown
  simp only [BitVec.getLsbD_and, BitVec.getLsbD_or, BitVec.getLsbD_xor, BitVec.getLsbD_not, hi, decide_true, Bool.true_and]
  cases a.v.getLsbD i <;> cases b.v.getLsbD i <;> cases a.m.getLsbD i <;> cases b.m.getLsbD i <;> decide
theorem within_join_r {a b : Nm} (ha : Rgt a) (hb : Rgt b) : tWithin b (tJoin a b) = true := by rw [join_comm']; exact within_join_l hb ha
theorem within_any (a : Nm) : tWithin a tAny = true := by
  refine within_bits (by unfold Rgt tAny; simp) fun i hi => ?_
  simp only [tAny, BitVec.getLsbD_allOnes, hi, decide_true]
  simp
theorem meet_rgt {a b : Nm} (ha : Rgt a) (hb : Rgt b) (h : meetB a b = true) : Rgt (meetN a b) := by
  rw [meetN_val ha hb h]
  refine rgt_of fun i hi => ?_
  have h4 := ha.bit i
  have h5 := hb.bit i
  simp only [BitVec.getLsbD_and, BitVec.getLsbD_or]
  revert h4 h5
  cases a.v.getLsbD i <;> cases b.v.getLsbD i <;> cases a.m.getLsbD i <;> cases b.m.getLsbD i <;> decide
theorem within_meet_l {a b : Nm} (ha : Rgt a) (hb : Rgt b) (h : meetB a b = true) : tWithin (meetN a b) a = true := by
  rw [meetN_val ha hb h]
  refine within_bits ha fun i hi => ?_
  have h3 := apart_zero ha hb h i hi
  have h5 := hb.bit i
  unfold apartW at h3
  simp only [BitVec.getLsbD_and, BitVec.getLsbD_or, BitVec.getLsbD_xor, BitVec.getLsbD_not, hi, decide_true, Bool.true_and] at h3 ⊢
  revert h3 h5
  cases a.v.getLsbD i <;> cases b.v.getLsbD i <;> cases a.m.getLsbD i <;> cases b.m.getLsbD i <;> decide
theorem within_meet_r {a b : Nm} (ha : Rgt a) (hb : Rgt b) (h : meetB a b = true) : tWithin (meetN a b) b = true := by
  rw [meetN_val ha hb h]
  refine within_bits hb fun i hi => ?_
  have h3 := apart_zero ha hb h i hi
  have h5 := ha.bit i
  unfold apartW at h3
  simp only [BitVec.getLsbD_and, BitVec.getLsbD_or, BitVec.getLsbD_xor, BitVec.getLsbD_not, hi, decide_true, Bool.true_and] at h3 ⊢
  revert h3 h5
  cases a.v.getLsbD i <;> cases b.v.getLsbD i <;> cases a.m.getLsbD i <;> cases b.m.getLsbD i <;> decide
end Go.Proofs.Ytbeikhokkpioeaa
