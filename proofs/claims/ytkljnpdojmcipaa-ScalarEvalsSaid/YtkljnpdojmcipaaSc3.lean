/- Shifts with a sign, bit by bit. -/
import Derived.Test.YtkljnpdojmcipaaSc2
namespace Go.Proofs.Ytkljnpdojmcipaa
open Go Go.RowKit
/-- The document's: ones from the uppermost place on. -/
def arN (z wd : W) : Nat → W
  | 0 => z
  | k + 1 => arN z wd k ||| (1#64 <<< ((wd - 1#64) - BitVec.ofNat 64 k).toNat)
theorem ar_idx (wd : W) (n k : Nat) (hn : wd.toNat = n) (h1 : 1 ≤ n) (h2 : n ≤ 64) (hk : k < n) : ((wd - 1#64) - BitVec.ofNat 64 k).toNat = n - 1 - k := by
  rw [BitVec.toNat_sub, BitVec.toNat_sub, BitVec.toNat_ofNat, hn]
  simp only [BitVec.toNat_ofNat]
  omega
theorem arN_bit (z wd : W) (n : Nat) (hn : wd.toNat = n) (h1 : 1 ≤ n) (h2 : n ≤ 64) : ∀ (k i : Nat), k ≤ n → i < 64 → (arN z wd k).getLsbD i = (z.getLsbD i || decide (n - k ≤ i ∧ i < n))
  | 0, i, _, _ => by
    have : ¬ (n - 0 ≤ i ∧ i < n) := by omega
    show z.getLsbD i = _
    rw [decide_eq_false this, Bool.or_false]
  | k + 1, i, hk, hi => by
    show (arN z wd k ||| (1#64 <<< ((wd - 1#64) - BitVec.ofNat 64 k).toNat)).getLsbD i = _
    rw [BitVec.getLsbD_or, arN_bit z wd n hn h1 h2 k i (by omega) hi, ar_idx wd n k hn h1 h2 (by omega), bit_shl _ _ hi, Bool.or_assoc]
    congr 1
    rw [Bool.eq_iff_iff, Bool.or_eq_true, decide_eq_true_eq, decide_eq_true_eq, decide_eq_true_eq]
    omega
theorem bit_shr1 (x : W) (i : Nat) : (x >>> i &&& 1#64 == 1#64) = x.getLsbD i := by
  rw [Bool.eq_iff_iff, beq_iff_eq]
  constructor
  · intro h
    have := congrArg (fun z => z.getLsbD 0) h
    simpa [BitVec.getLsbD_ushiftRight] using this
  · intro h
    apply BitVec.eq_of_getLsbD_eq
    intro j hj
    rw [BitVec.getLsbD_and, BitVec.getLsbD_ushiftRight]
    by_cases e : j = 0
    · subst e; simp [h]
    · simp [BitVec.getLsbD_one, e]
theorem msb_bit (x : W) (wd : W) (n : Nat) (hn : wd.toNat = n) (h1 : 1 ≤ n) (h2 : n ≤ 64) : (x >>> (wd - 1#64).toNat &&& 1#64 == 1#64) = x.getLsbD (n - 1) := by
  rw [bit_shr1, BitVec.toNat_sub, hn]
  congr 1
  simp only [BitVec.toNat_ofNat]
  omega
theorem ar64 (x : W) (n : Nat) (hn : n < 64) : (if x.getLsbD 63 then arN (x >>> n) 64#64 n else x >>> n) = x.sshiftRight n := by
  apply BitVec.eq_of_getLsbD_eq; intro i hi
  rw [BitVec.getLsbD_sshiftRight]
  have hm : x.msb = x.getLsbD 63 := by rw [BitVec.msb_eq_getLsbD_last]
  rw [hm]
  cases h : x.getLsbD 63
  · simp only [Bool.false_eq_true, if_false, BitVec.getLsbD_ushiftRight]
    by_cases e : n + i < 64
    · simp [hi, e]
    · rw [BitVec.getLsbD_of_ge x _ (by omega)]; simp [e]
  · rw [if_pos rfl, arN_bit _ 64#64 64 rfl (by omega) (by omega) n i (by omega) hi, BitVec.getLsbD_ushiftRight]
    by_cases e : n + i < 64
    · have : ¬ (64 - n ≤ i ∧ i < 64) := by omega
      rw [decide_eq_false this, Bool.or_false, if_pos e, decide_eq_false (show ¬ 64 ≤ i by omega)]; rfl
    · have : (64 - n ≤ i ∧ i < 64) := by omega
      rw [decide_eq_true this, Bool.or_true, if_neg e, decide_eq_false (show ¬ 64 ≤ i by omega)]; rfl
theorem lo32_bit (x : W) (i : Nat) (hi : i < 64) : (lo32 x).getLsbD i = (decide (i < 32) && x.getLsbD i) := by
  have e : lo32 x = BitVec.ofNat 64 (x.toNat % 2 ^ 32) := by
    apply BitVec.eq_of_toNat_eq
    unfold lo32
    rw [BitVec.toNat_umod, BitVec.toNat_ofNat]
    have := x.isLt
    show x.toNat % 4294967296 = x.toNat % 4294967296 % 18446744073709551616
    omega
  rw [e, BitVec.getLsbD_ofNat, Nat.testBit_mod_two_pow]
  simp only [hi, decide_true, Bool.true_and]
  rfl
theorem ar32 (x : W) (n : Nat) (hn : n < 32) : lo32 (if (lo32 x).getLsbD 31 then arN (lo32 x >>> n) 32#64 n else lo32 x >>> n) = BitVec.setWidth 64 (BitVec.sshiftRight (s32 (lo32 x)) n) := by
  apply BitVec.eq_of_getLsbD_eq; intro i hi
  rw [lo32_bit _ i hi, BitVec.getLsbD_setWidth, BitVec.getLsbD_sshiftRight]
  have hb : ∀ j, j < 32 → (s32 (lo32 x)).getLsbD j = (lo32 x).getLsbD j := fun j hj => by unfold s32; rw [BitVec.getLsbD_setWidth]; simp [hj]
  have hm : (s32 (lo32 x)).msb = (lo32 x).getLsbD 31 := by rw [BitVec.msb_eq_getLsbD_last]; exact hb 31 (by omega)
  rw [hm]
  by_cases h32 : i < 32
  · have h32' : ¬ 32 ≤ i := by omega
    simp only [h32, decide_true, Bool.true_and, hi, h32', decide_false, Bool.not_false]
    cases h : (lo32 x).getLsbD 31
    · simp only [Bool.false_eq_true, if_false, BitVec.getLsbD_ushiftRight]
      by_cases e : n + i < 32
      · rw [if_pos e, hb _ e]
      · rw [if_neg e, lo32_bit _ _ (by omega)]; simp [e]
    · rw [if_pos rfl, arN_bit _ 32#64 32 rfl (by omega) (by omega) n i (by omega) hi, BitVec.getLsbD_ushiftRight]
      by_cases e : n + i < 32
      · have : ¬ (32 - n ≤ i ∧ i < 32) := by omega
        rw [if_pos e, hb _ e, decide_eq_false this, Bool.or_false]
      · have : (32 - n ≤ i ∧ i < 32) := by omega
        rw [if_neg e, decide_eq_true this, Bool.or_true]
  · have h32' : 32 ≤ i := by omega
    simp [h32, h32']
theorem lo_shr (x : W) (n : Nat) : lo32 (lo32 x >>> n) = lo32 x >>> n := by
  apply BitVec.eq_of_getLsbD_eq; intro i hi
  rw [lo32_bit _ i hi, BitVec.getLsbD_ushiftRight]
  by_cases h : i < 32
  · simp [h]
  · by_cases h2 : n + i < 64
    · rw [lo32_bit _ _ h2]; simp [h]; omega
    · rw [BitVec.getLsbD_of_ge _ _ (by omega)]; simp
end Go.Proofs.Ytkljnpdojmcipaa
