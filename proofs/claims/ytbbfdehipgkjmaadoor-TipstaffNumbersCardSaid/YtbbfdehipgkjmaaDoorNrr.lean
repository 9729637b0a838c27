/- Contracts of the document's bits: what a bit may be; a bit that may be these. Contracts of the document's bits: the lower ones, shifted ones. Contracts of the document's bits: of either, of both. What is told of both, of either, and of one within another one, is the document's. -/
import Derived.Test.YtbbfdehipgkjmaaDoorNk
namespace Go.Proofs.YtbbfdehipgkjmaaDoor
open Go Go.RowKit
end Go.Proofs.YtbbfdehipgkjmaaDoor
namespace Go.Proofs.YtbbfdehipgkjmaaDoor
open Go Go.RowKit
end Go.Proofs.YtbbfdehipgkjmaaDoor
namespace Go.Proofs.YtbbfdehipgkjmaaDoor
open Go Go.RowKit
def rMeetY (a b : Nm) (i : Nat) : Bool × Bool := ((rBits a i).1 && (rBits b i).1, (rBits a i).2 && (rBits b i).2)
def rMeetB (a b : Nm) : Bool := (List.range 64).all (fun i => rMeetY a b i != (false, false))
def rMeetN (a b : Nm) : Nm := if rMeetB a b then rN (rMeetY a b) 64 else zeroN
theorem meet_none {a b : Nm} {k : Nat} (hk : k < 64) (h : rMeetY a b k = (false, false)) : rMeetN a b = zeroN ∧ rMeetB a b = false := by
  have h1 : rMeetB a b = false := by
    unfold rMeetB
    rw [List.all_eq_false]
    exact ⟨k, List.mem_range.2 hk, by rw [h]; decide⟩
  exact ⟨by unfold rMeetN; rw [h1]; rfl, h1⟩
theorem meet_all {a b : Nm} (h : ∀ i, i < 64 → rMeetY a b i ≠ (false, false)) : rMeetN a b = rN (rMeetY a b) 64 ∧ rMeetB a b = true := by
  have h1 : rMeetB a b = true := by
    unfold rMeetB
    rw [List.all_eq_true]
    intro i hi
    exact bne_iff_ne.2 (h i (List.mem_range.1 hi))
  exact ⟨by unfold rMeetN; rw [h1]; rfl, h1⟩
end Go.Proofs.YtbbfdehipgkjmaaDoor
namespace Go.Proofs.YtbbfdehipgkjmaaDoor
open Go Go.RowKit
def apartW (a b : Nm) : W := (a.v ^^^ b.v) &&& ~~~(a.m ||| b.m)
theorem meet_of {a b : Nm} (ha : Rgt a) (hb : Rgt b) : tMeet a b = if apartW a b != 0#64 then (⟨0#64, 0#64⟩, false) else (⟨a.v ||| b.v, a.m &&& b.m⟩, true) := by
  unfold tMeet apartW
  rw [tRight_iff.2 ha, tRight_iff.2 hb]; rfl
theorem apart_bit {a b : Nm} (ha : Rgt a) (hb : Rgt b) {i : Nat} (hi : i < 64) : ((apartW a b).getLsbD i = true) ↔ rMeetY a b i = (false, false) := by
  have h1 := ha.bit i
  have h2 := hb.bit i
  unfold apartW rMeetY rBits
  simp only [BitVec.getLsbD_and, BitVec.getLsbD_or, BitVec.getLsbD_xor, BitVec.getLsbD_not, hi, decide_true, Bool.true_and]
  revert h1 h2
  cases a.v.getLsbD i <;> cases b.v.getLsbD i <;> cases a.m.getLsbD i <;> cases b.m.getLsbD i <;> decide
theorem apart_iff {a b : Nm} (ha : Rgt a) (hb : Rgt b) : (apartW a b != 0#64) = !rMeetB a b := by
  rw [Bool.eq_iff_iff]
  constructor
  · intro h
    rw [bne_iff_ne] at h
    have : ∃ i, i < 64 ∧ (apartW a b).getLsbD i = true := by
      apply Classical.byContradiction
      intro hc
      apply h
      apply BitVec.eq_of_getLsbD_eq
      intro i hi
      cases hb : (apartW a b).getLsbD i
      · simp
      · exact absurd ⟨i, hi, hb⟩ hc
    obtain ⟨i, hi, hbit⟩ := this
    rw [(meet_none hi ((apart_bit ha hb hi).1 hbit)).2]; rfl
  · intro h
    rw [bne_iff_ne]
    intro h0
    have : rMeetB a b = true := (meet_all (fun i hi hc => by
      have := (apart_bit ha hb hi).2 hc
      rw [h0] at this; simp at this)).2
    rw [this] at h; cases h
theorem meetB_ref {a b : Nm} (ha : Rgt a) (hb : Rgt b) : meetB a b = rMeetB a b := by
  unfold meetB
  rw [meet_of ha hb, apart_iff ha hb]
  cases rMeetB a b <;> rfl
theorem apart_zero {a b : Nm} (ha : Rgt a) (hb : Rgt b) (h : meetB a b = true) (i : Nat) (hi : i < 64) : (apartW a b).getLsbD i = false := by
  have h1 := apart_iff ha hb
  rw [← meetB_ref ha hb, h] at h1
  have : apartW a b = 0#64 := by
    have : ¬ (apartW a b != 0#64) = true := by rw [h1]; decide
    simpa using this
  rw [this]; simp
theorem meetN_val {a b : Nm} (ha : Rgt a) (hb : Rgt b) (h : meetB a b = true) : meetN a b = ⟨a.v ||| b.v, a.m &&& b.m⟩ := by
  have h1 := apart_iff ha hb
  rw [← meetB_ref ha hb, h] at h1
  unfold meetN
  rw [meet_of ha hb, h1]; rfl
theorem within_iff {a b : Nm} (ha : Rgt a) (hb : Rgt b) : tWithin a b = true ↔ ∀ i, i < 64 → (a.m.getLsbD i = true → b.m.getLsbD i = true) ∧ (b.m.getLsbD i = false → a.v.getLsbD i = b.v.getLsbD i) := by
  constructor
  · intro h
    unfold tWithin at h
    rw [tRight_iff.2 ha] at h
    simp only [Bool.not_true, Bool.false_or, Bool.and_eq_true, beq_iff_eq] at h
    obtain ⟨h1, h2⟩ := h
    rw [has_iff] at h2
    intro i hi
    have h3 := congrArg (fun z => z.getLsbD i) h1
    simp only [BitVec.getLsbD_and, BitVec.getLsbD_not, hi, decide_true, Bool.true_and, BitVec.getLsbD_zero] at h3
    have h4 := h2 i hi
    revert h3 h4
    cases a.v.getLsbD i <;> cases b.v.getLsbD i <;> cases a.m.getLsbD i <;> cases b.m.getLsbD i <;> decide
  · exact within_bits hb
theorem meet_rgt {a b : Nm} (ha : Rgt a) (hb : Rgt b) (h : meetB a b = true) : Rgt (meetN a b) := by
  rw [meetN_val ha hb h]
  refine rgt_of fun i hi => ?_
  have h4 := ha.bit i
  have h5 := hb.bit i
  simp only [BitVec.getLsbD_and, BitVec.getLsbD_or]
  revert h4 h5
  cases a.v.getLsbD i <;> cases b.v.getLsbD i <;> cases a.m.getLsbD i <;> cases b.m.getLsbD i <;> decide
theorem within_meet_l {a b : Nm} (ha : Rgt a) (hb : Rgt b) (h : meetB a b = true) : tWithin (meetN a b) a = true := by
  rw [meetN_val ha hb h]
  refine within_bits ha fun i hi => ?_
  have h3 := apart_zero ha hb h i hi
  have h5 := hb.bit i
  unfold apartW at h3
  simp only [BitVec.getLsbD_and, BitVec.getLsbD_or, BitVec.getLsbD_xor, BitVec.getLsbD_not, hi, decide_true, Bool.true_and] at h3 ⊢
  revert h3 h5
  cases a.v.getLsbD i <;> cases b.v.getLsbD i <;> cases a.m.getLsbD i <;> cases b.m.getLsbD i <;> decide
theorem within_meet_r {a b : Nm} (ha : Rgt a) (hb : Rgt b) (h : meetB a b = true) : tWithin (meetN a b) b = true := by
  rw [meetN_val ha hb h]
  refine within_bits hb fun i hi => ?_
  have h3 := apart_zero ha hb h i hi
  have h5 := ha.bit i
  unfold apartW at h3
  simp only [BitVec.getLsbD_and, BitVec.getLsbD_or, BitVec.getLsbD_xor, BitVec.getLsbD_not, hi, decide_true, Bool.true_and] at h3 ⊢
  revert h3 h5
  cases a.v.getLsbD i <;> cases b.v.getLsbD i <;> cases a.m.getLsbD i <;> cases b.m.getLsbD i <;> decide
end Go.Proofs.YtbbfdehipgkjmaaDoor
