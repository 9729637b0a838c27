/- Plain: what operations make of numbers is among what they make of ranges: products. -/
import Derived.Test.YtmdcopmgkhjfnaaSm5
namespace Go.Proofs.Ytmdcopmgkhjfnaa
open Go
theorem low_half (x : W) : (x &&& 4294967295#64).toNat = x.toNat % 4294967296 := by
  rw [BitVec.toNat_and]; exact Nat.and_two_pow_sub_one_eq_mod x.toNat 32
theorem high_half (x : W) : (x >>> (32#64).toNat).toNat = x.toNat / 4294967296 := by
  rw [BitVec.toNat_ushiftRight, show (32#64).toNat = 32 from rfl, Nat.shiftRight_eq_div_pow]
theorem mul64_zero {x y : W} (h : (mul64F x y).1 = 0#64) : qn x * qn y < 18446744073709551616 := by
  have hx := x.isLt; have hy := y.isLt
  have h2 := congrArg BitVec.toNat h
  unfold mul64F at h2
  simp only [BitVec.toNat_add, BitVec.toNat_mul, low_half, high_half] at h2
  obtain ⟨x1, e1⟩ : ∃ x1, x1 = x.toNat / 4294967296 := ⟨_, rfl⟩
  obtain ⟨x0, e2⟩ : ∃ x0, x0 = x.toNat % 4294967296 := ⟨_, rfl⟩
  obtain ⟨y1, e3⟩ : ∃ y1, y1 = y.toNat / 4294967296 := ⟨_, rfl⟩
  obtain ⟨y0, e4⟩ : ∃ y0, y0 = y.toNat % 4294967296 := ⟨_, rfl⟩
  rw [← e1, ← e2, ← e3, ← e4] at h2
  have b1 : x1 ≤ 4294967295 := by omega
  have b2 : x0 ≤ 4294967295 := by omega
  have b3 : y1 ≤ 4294967295 := by omega
  have b4 : y0 ≤ 4294967295 := by omega
  have m1 := Nat.mul_le_mul b1 b3; have m2 := Nat.mul_le_mul b1 b4; have m3 := Nat.mul_le_mul b2 b3; have m4 := Nat.mul_le_mul b2 b4
  have ex : x.toNat = 4294967296 * x1 + x0 := by omega
  have ey : y.toNat = 4294967296 * y1 + y0 := by omega
  have ep : x.toNat * y.toNat = 18446744073709551616 * (x1 * y1) + 4294967296 * (x1 * y0) + 4294967296 * (x0 * y1) + x0 * y0 := by
    rw [ex, ey, Nat.add_mul, Nat.mul_add, Nat.mul_add, Nat.mul_mul_mul_comm, Nat.mul_assoc 4294967296 x1 y0, Nat.mul_left_comm x0 4294967296 y1]
    omega
  generalize x1 * y1 = p at *
  generalize x1 * y0 = q at *
  generalize x0 * y1 = r at *
  generalize x0 * y0 = s at *
  have : x.toNat * y.toNat < 18446744073709551616 := by
    rw [ep]
    simp only [BitVec.toNat_ofNat] at h2
    omega
  have e : qn x * qn y = ((x.toNat * y.toNat : Nat) : Int) := by unfold qn; exact (Int.natCast_mul _ _).symm
  rw [e]
  generalize x.toNat * y.toNat = n at *
  omega
theorem sn_min4 (p q r t : W) : sn (sMin4 p q r t) ≤ sn p ∧ sn (sMin4 p q r t) ≤ sn q ∧ sn (sMin4 p q r t) ≤ sn r ∧ sn (sMin4 p q r t) ≤ sn t := by
  unfold sMin4
  have h1 := sn_sMin p q; have h2 := sn_sMin (sMin p q) r; have h3 := sn_sMin (sMin (sMin p q) r) t
  split at h1 <;> split at h2 <;> split at h3 <;> omega
theorem sn_max4 (p q r t : W) : sn p ≤ sn (sMax4 p q r t) ∧ sn q ≤ sn (sMax4 p q r t) ∧ sn r ≤ sn (sMax4 p q r t) ∧ sn t ≤ sn (sMax4 p q r t) := by
  unfold sMax4
  have h1 := sn_sMax p q; have h2 := sn_sMax (sMax p q) r; have h3 := sn_sMax (sMax (sMax p q) r) t
  split at h1 <;> split at h2 <;> split at h3 <;> omega
theorem mul_between {a b c d x y : Int} (h1 : a ≤ x) (h2 : x ≤ b) (h3 : c ≤ y) (h4 : y ≤ d) : (a * c ≤ x * y ∨ a * d ≤ x * y ∨ b * c ≤ x * y ∨ b * d ≤ x * y) ∧ (x * y ≤ a * c ∨ x * y ≤ a * d ∨ x * y ≤ b * c ∨ x * y ≤ b * d) := by
  have L : ∀ u : Int, (u * c ≤ u * y ∧ u * y ≤ u * d) ∨ (u * d ≤ u * y ∧ u * y ≤ u * c) := fun u => by
    by_cases hu : 0 ≤ u
    · left; exact ⟨Int.mul_le_mul_of_nonneg_left h3 hu, Int.mul_le_mul_of_nonneg_left h4 hu⟩
    · right; exact ⟨Int.mul_le_mul_of_nonpos_left (by omega) h4, Int.mul_le_mul_of_nonpos_left (by omega) h3⟩
  have A := L a; have B := L b
  by_cases hy : 0 ≤ y
  · have k1 := Int.mul_le_mul_of_nonneg_right h1 hy; have k2 := Int.mul_le_mul_of_nonneg_right h2 hy
    omega
  · have k1 := Int.mul_le_mul_of_nonpos_right h1 (show y ≤ 0 by omega); have k2 := Int.mul_le_mul_of_nonpos_right h2 (show y ≤ 0 by omega)
    omega
theorem sn_mulW {x y : W} (h : -4611686018427387904 ≤ sn x * sn y ∧ sn x * sn y ≤ 4611686018427387904) : sn (x * y) = sn x * sn y := by
  have e : x * y = BitVec.ofInt 64 (sn x * sn y) := by rw [BitVec.ofInt_mul, ofInt_sn, ofInt_sn]
  rw [e, sn_ofInt]; split <;> omega
theorem short_iff {a : Rn} (h : shortF a = true) : -2147483648 ≤ sn a.sl ∧ sn a.sh ≤ 2147483647 := by
  unfold shortF at h
  cases h1 : BitVec.sle (BitVec.ofInt 64 (-2147483648)) a.sl
  · rw [h1] at h; cases h
  · rw [h1, cond_true] at h
    rw [sle_sn, decide_eq_true_eq] at h h1
    rw [show sn (BitVec.ofInt 64 (-2147483648)) = -2147483648 by decide] at h1
    rw [show sn 2147483647#64 = 2147483647 by decide] at h
    exact ⟨h1, h⟩
theorem mul_small {p q : Int} (h1 : -2147483648 ≤ p) (h2 : p ≤ 2147483647) (h3 : -2147483648 ≤ q) (h4 : q ≤ 2147483647) : -4611686018427387904 ≤ p * q ∧ p * q ≤ 4611686018427387904 := by
  have h := mul_between h1 h2 h3 h4
  omega
theorem mul_in {a b : Rn} {x y : W} (ha : In a x) (hb : In b y) : In (mulR a b) (x * y) := by
  have o := obR_in (mul_has ha.b hb.b)
  have h1 := ha.lo; have h2 := ha.hi; have k1 := hb.lo; have k2 := hb.hi
  have b1 := qn_lo a.lo; have b2 := qn_lo b.lo; have b3 := qn_lo x; have b4 := qn_lo y
  have U : (mul64F a.hi b.hi).1 = 0#64 → qn (a.lo * b.lo) ≤ qn (x * y) ∧ qn (x * y) ≤ qn (mul64F a.hi b.hi).2 := by
    intro hz
    have hm := mul64_zero hz
    have m1 : qn a.lo * qn b.lo ≤ qn x * qn y := Int.mul_le_mul h1 k1 b2 b3
    have m2 : qn x * qn y ≤ qn a.hi * qn b.hi := Int.mul_le_mul h2 k2 b4 (by omega)
    have m0 : 0 ≤ qn a.lo * qn b.lo := Int.mul_nonneg b1 b2
    have q : ∀ u v : W, 0 ≤ qn u * qn v → qn u * qn v < 18446744073709551616 → qn (u * v) = qn u * qn v := fun u v g1 g2 => by
      have : qn (u * v) = (qn u * qn v) % 18446744073709551616 := by
        unfold qn
        rw [BitVec.toNat_mul, ← Int.natCast_mul]
        generalize u.toNat * v.toNat = n
        omega
      rw [this]; omega
    have e2 : (mul64F a.hi b.hi).2 = a.hi * b.hi := rfl
    rw [e2, q _ _ m0 (by omega), q _ _ (by omega) (by omega), q _ _ (by omega) hm]
    exact ⟨m1, m2⟩
  have S : shortF a = true → shortF b = true → sn (sMin4 (a.sl * b.sl) (a.sl * b.sh) (a.sh * b.sl) (a.sh * b.sh)) ≤ sn (x * y) ∧ sn (x * y) ≤ sn (sMax4 (a.sl * b.sl) (a.sl * b.sh) (a.sh * b.sl) (a.sh * b.sh)) := by
    intro g1 g2
    obtain ⟨s1, s2⟩ := short_iff g1; obtain ⟨t1, t2⟩ := short_iff g2
    have c1 := ha.sl; have c2 := ha.sh; have d1 := hb.sl; have d2 := hb.sh
    have m := mul_between c1 c2 d1 d2
    have n := sn_min4 (a.sl * b.sl) (a.sl * b.sh) (a.sh * b.sl) (a.sh * b.sh)
    have o := sn_max4 (a.sl * b.sl) (a.sl * b.sh) (a.sh * b.sl) (a.sh * b.sh)
    have e : sn (x * y) = sn x * sn y := sn_mulW (mul_small (by omega) (by omega) (by omega) (by omega))
    have e1 : sn (a.sl * b.sl) = sn a.sl * sn b.sl := sn_mulW (mul_small (by omega) (by omega) (by omega) (by omega))
    have e2 : sn (a.sl * b.sh) = sn a.sl * sn b.sh := sn_mulW (mul_small (by omega) (by omega) (by omega) (by omega))
    have e3 : sn (a.sh * b.sl) = sn a.sh * sn b.sl := sn_mulW (mul_small (by omega) (by omega) (by omega) (by omega))
    have e4 : sn (a.sh * b.sh) = sn a.sh * sn b.sh := sn_mulW (mul_small (by omega) (by omega) (by omega) (by omega))
    rw [e1, e2, e3, e4] at n o
    rw [e]
    omega
  unfold mulR
  cases hz : ((mul64F a.hi b.hi).1 == 0#64) <;> cases g1 : shortF a <;> cases g2 : shortF b <;> simp only [cond_true, cond_false]
  · exact o
  · exact o
  · exact o
  · exact ⟨o.b, o.lo, o.hi, (S g1 g2).1, (S g1 g2).2⟩
  · exact ⟨o.b, (U (beq_iff_eq.1 hz)).1, (U (beq_iff_eq.1 hz)).2, o.sl, o.sh⟩
  · exact ⟨o.b, (U (beq_iff_eq.1 hz)).1, (U (beq_iff_eq.1 hz)).2, o.sl, o.sh⟩
  · exact ⟨o.b, (U (beq_iff_eq.1 hz)).1, (U (beq_iff_eq.1 hz)).2, o.sl, o.sh⟩
  · exact ⟨o.b, (U (beq_iff_eq.1 hz)).1, (U (beq_iff_eq.1 hz)).2, (S g1 g2).1, (S g1 g2).2⟩
end Go.Proofs.Ytmdcopmgkhjfnaa
