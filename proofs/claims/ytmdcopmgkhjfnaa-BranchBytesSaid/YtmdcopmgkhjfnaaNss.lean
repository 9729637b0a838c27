/- Shifts and lower bytes are the document's. -/
import Derived.Test.YtmdcopmgkhjfnaaNrr
namespace Go.Proofs.Ytmdcopmgkhjfnaa
open Go Go.RowKit
theorem bits_pair (a : Nm) (ha : Rgt a) (i : Nat) : ((rBits a i).2 && !(rBits a i).1) = a.v.getLsbD i ∧ ((rBits a i).1 && (rBits a i).2) = a.m.getLsbD i := by
  have := ha.bit i
  unfold rBits
  revert this
  cases a.v.getLsbD i <;> cases a.m.getLsbD i <;> decide
theorem left_ref {a : Nm} (ha : Rgt a) (k : Nat) : tLeft a k = rShift a k true := by
  refine rN_eq fun i hi => ?_
  have hp := bits_pair a ha
  unfold tLeft rShY rFrom
  simp only [BitVec.getLsbD_shiftLeft, hi, decide_true, Bool.true_and, if_true]
  by_cases h : i < k
  · rw [if_neg (by omega)]; simp [h]
  · rw [if_pos (by omega), show ((i : Int) - (k : Int)).toNat = i - k from by omega, (hp (i - k)).1, (hp (i - k)).2]; simp [h]
theorem down_ref {a : Nm} (ha : Rgt a) (k : Nat) : tDown a k = rShift a k false := by
  refine rN_eq fun i hi => ?_
  have hp := bits_pair a ha
  unfold tDown rShY rFrom
  simp only [BitVec.getLsbD_ushiftRight, Bool.false_eq_true, if_false]
  by_cases h : i + k < 64
  · rw [if_pos (by omega), show ((i : Int) + (k : Int)).toNat = k + i from by omega, (hp (k + i)).1, (hp (k + i)).2]; exact ⟨rfl, rfl⟩
  · rw [if_neg (by omega), BitVec.getLsbD_of_ge a.v _ (by omega), BitVec.getLsbD_of_ge a.m _ (by omega)]; decide
theorem bit_cut (x : W) (z : Int) (i : Nat) (hi : i < 64) : (tCut x z).getLsbD i = (decide (i < cutB z) && x.getLsbD i) := by
  unfold tCut
  rw [BitVec.getLsbD_ofNat, Nat.testBit_mod_two_pow]
  simp only [hi, decide_true, Bool.true_and]
  rfl
theorem low_ref {a : Nm} (ha : Rgt a) (z : Int) : tLow a z = rLow a (cutB z) := by
  have hc : cutB z ≤ 64 := by
    unfold cutB
    split
    · omega
    · split
      · omega
      · split <;> omega
  have hp := bits_pair a ha
  unfold rLow
  apply Nm.ext'
  · apply BitVec.eq_of_getLsbD_eq; intro i hi
    show (tCut a.v z).getLsbD i = _
    rw [bit_cut _ _ i hi, (rN_bits _ (cutB z) i hc hi).1, ← (hp i).1, Bool.and_assoc]
  · apply BitVec.eq_of_getLsbD_eq; intro i hi
    show (tCut a.m z).getLsbD i = _
    rw [bit_cut _ _ i hi, (rN_bits _ (cutB z) i hc hi).2, ← (hp i).2, Bool.and_assoc]
theorem left_again (a : Nm) (k : Nat) (hk : k < 64) : tLeft a (tw ((k : Int) + 64)).toNat = tLeft a k := by
  rw [tw_nat]; congr 1; unfold tn; omega
end Go.Proofs.Ytmdcopmgkhjfnaa
