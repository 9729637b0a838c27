/- Plain: what operations make of numbers is among what they make of ranges: shifts. -/
import Derived.Test.YtmdcopmgkhjfnaaSm6
namespace Go.Proofs.Ytmdcopmgkhjfnaa
open Go
theorem tw_sn (n : W) : (tw (sn n)).toNat = n.toNat % 64 := by
  rw [tw_nat]; unfold tn
  have := qs n
  unfold qn at this
  omega
theorem qn_shl (x : W) (k : Nat) : qn (x <<< k) = (qn x * 2 ^ k) % 18446744073709551616 := by
  unfold qn
  rw [BitVec.toNat_shiftLeft, Nat.shiftLeft_eq]
  have e : ((x.toNat : Int) * 2 ^ k) = ((x.toNat * 2 ^ k : Nat) : Int) := by rw [Int.natCast_mul]; norm_cast
  rw [e]
  generalize x.toNat * 2 ^ k = n
  omega
theorem qn_shr (x : W) (k : Nat) : qn (x >>> k) = qn x / 2 ^ k := by
  unfold qn
  rw [BitVec.toNat_ushiftRight, Nat.shiftRight_eq_div_pow]
  norm_cast
theorem sn_sshr (x : W) (k : Nat) : sn (x.sshiftRight k) = sn x / 2 ^ k := by
  unfold sn; rw [BitVec.toInt_sshiftRight, Int.shiftRight_eq_div_pow]; norm_cast
theorem sn_shl {x : W} {k : Nat} (hk : k < 64) (h1 : -9223372036854775808 ≤ sn x * 2 ^ k) (h2 : sn x * 2 ^ k < 9223372036854775808) : sn (x <<< k) = sn x * 2 ^ k := by
  have e := shl_sn x k
  rw [Nat.min_eq_left (by omega), wrap_s, sn_ofInt] at e
  generalize sn x * 2 ^ k = z at *
  rw [← e]; split <;> omega
theorem sn_shl_mod (x : W) {k : Nat} (hk : k < 64) : ∃ j : Int, sn (x <<< k) = sn x * 2 ^ k + 18446744073709551616 * j := by
  have e := shl_sn x k
  rw [Nat.min_eq_left (by omega), wrap_s, sn_ofInt] at e
  generalize sn x * 2 ^ k = z at *
  rw [← e]
  split
  · exact ⟨-(z / 18446744073709551616), by omega⟩
  · exact ⟨-(z / 18446744073709551616) - 1, by omega⟩
theorem back_u {h : W} {k : Nat} (e : ((h <<< k) >>> k == h) = true) : qn h * 2 ^ k < 18446744073709551616 := by
  rw [beq_iff_eq] at e
  have e1 := congrArg qn e
  rw [qn_shr, qn_shl] at e1
  have p := p2 k
  have h1 := Int.ediv_mul_le (qn h * 2 ^ k % 18446744073709551616) (show (2 : Int) ^ k ≠ 0 by omega)
  rw [e1] at h1
  have h2 : qn h * 2 ^ k % 18446744073709551616 < 18446744073709551616 := Int.emod_lt_of_pos _ (by decide)
  omega
theorem back_s {h : W} {k : Nat} (hk : k < 64) (e : (BitVec.sshiftRight (h <<< k) k == h) = true) : sn (h <<< k) = sn h * 2 ^ k := by
  rw [beq_iff_eq] at e
  have e1 := congrArg sn e
  rw [sn_sshr] at e1
  have p := p2 k
  have pk : (2 : Int) ^ k ≤ 9223372036854775808 := by
    have := Nat.pow_le_pow_right (show 0 < 2 by decide) (show k ≤ 63 by omega)
    have h63 : (2 : Nat) ^ 63 = 9223372036854775808 := by decide
    rw [h63] at this
    have h2 : (2 : Int) ^ k = ((2 ^ k : Nat) : Int) := by norm_cast
    rw [h2]; exact Int.ofNat_le.2 this
  have h1 := Int.ediv_mul_le (sn (h <<< k)) (show (2 : Int) ^ k ≠ 0 by omega)
  have h2 := Int.lt_ediv_add_one_mul_self (sn (h <<< k)) p
  rw [e1] at h1 h2
  obtain ⟨j, hj⟩ := sn_shl_mod h hk
  rw [Int.add_mul, Int.one_mul] at h2
  generalize sn h * 2 ^ k = z at *
  omega
theorem mul_mono {a b : Int} (h : a ≤ b) (k : Nat) : a * 2 ^ k ≤ b * 2 ^ k := Int.mul_le_mul_of_nonneg_right h (Int.le_of_lt (p2 k))
theorem shUp_in {a : Rn} {x n : W} (h : In a x) (hn : n.toNat < 64) : In (shUpR a n) (x <<< n.toNat) := by
  have et : (tw (sn n)).toNat = n.toNat := by rw [tw_sn]; omega
  have o := obR_in (left_has h.b (tw (sn n)).toNat)
  rw [et] at o
  unfold shUpR
  rw [et]
  obtain ⟨k, ek⟩ : ∃ k, k = n.toNat := ⟨_, rfl⟩
  rw [← ek] at hn o ⊢
  have U : ((a.hi <<< k) >>> k == a.hi) = true → qn (a.lo <<< k) ≤ qn (x <<< k) ∧ qn (x <<< k) ≤ qn (a.hi <<< k) := fun e => by
    have hh := back_u e
    have m1 := mul_mono h.lo k; have m2 := mul_mono h.hi k
    have m0 : 0 ≤ qn a.lo * 2 ^ k := Int.mul_nonneg (qn_lo _) (Int.le_of_lt (p2 k))
    rw [qn_shl, qn_shl, qn_shl, Int.emod_eq_of_lt (by omega) (by omega), Int.emod_eq_of_lt (by omega) (by omega), Int.emod_eq_of_lt (by omega) hh]
    exact ⟨m1, m2⟩
  have S : (BitVec.sshiftRight (a.sl <<< k) k == a.sl) = true → (BitVec.sshiftRight (a.sh <<< k) k == a.sh) = true → sn (a.sl <<< k) ≤ sn (x <<< k) ∧ sn (x <<< k) ≤ sn (a.sh <<< k) := fun e f => by
    have e1 := back_s hn e; have f1 := back_s hn f
    have m1 := mul_mono h.sl k; have m2 := mul_mono h.sh k
    have b1 := sn_bnd (a.sl <<< k); have b2 := sn_bnd (a.sh <<< k)
    rw [e1] at b1 ⊢
    rw [f1] at b2 ⊢
    rw [sn_shl hn (by omega) (by omega)]
    exact ⟨m1, m2⟩
  cases hu : ((a.hi <<< k) >>> k == a.hi) <;> cases h1 : (BitVec.sshiftRight (a.sl <<< k) k == a.sl) <;> cases h2 : (BitVec.sshiftRight (a.sh <<< k) k == a.sh) <;> simp only [cond_true, cond_false]
  · exact o
  · exact o
  · exact o
  · exact ⟨o.b, o.lo, o.hi, (S h1 h2).1, (S h1 h2).2⟩
  · exact ⟨o.b, (U hu).1, (U hu).2, o.sl, o.sh⟩
  · exact ⟨o.b, (U hu).1, (U hu).2, o.sl, o.sh⟩
  · exact ⟨o.b, (U hu).1, (U hu).2, o.sl, o.sh⟩
  · exact ⟨o.b, (U hu).1, (U hu).2, (S h1 h2).1, (S h1 h2).2⟩
theorem zero_of {n : W} (h : (n == 0#64) = true) : n.toNat = 0 := by rw [beq_iff_eq.1 h]; rfl
theorem sh6_in {a : Rn} {x n : W} (h : In a x) (hn : n.toNat < 64) : In (shByR6 a n) (x <<< n.toNat) := by
  unfold shByR6
  cases hz : (n == 0#64) <;> simp only [cond_true, cond_false]
  · exact shUp_in h hn
  · rw [zero_of hz, BitVec.shiftLeft_zero]; exact h
theorem sh7_in {a : Rn} {x n : W} (h : In a x) (hn : n.toNat < 64) : In (shByR7 a n) (x >>> n.toNat) := by
  unfold shByR7
  cases hz : (n == 0#64) <;> simp only [cond_true, cond_false]
  · have et : (tw (sn n)).toNat = n.toNat := by rw [tw_sn]; omega
    have o := obR_in (down_has h.b (tw (sn n)).toNat)
    rw [et] at o ⊢
    refine ⟨o.b, ?_, ?_, o.sl, o.sh⟩
    · show qn (a.lo >>> n.toNat) ≤ _
      rw [qn_shr, qn_shr]; exact Int.ediv_le_ediv (p2 _) h.lo
    · show _ ≤ qn (a.hi >>> n.toNat)
      rw [qn_shr, qn_shr]; exact Int.ediv_le_ediv (p2 _) h.hi
  · rw [zero_of hz, BitVec.ushiftRight_zero]; exact h
theorem sshr_has {a : Nm} {x : W} (h : tHas a x = true) (k : Nat) : tHas ⟨a.v.sshiftRight k, a.m.sshiftRight k⟩ (x.sshiftRight k) = true := by
  rw [has_iff] at h ⊢
  intro i hi
  have h63 := h 63 (by decide)
  simp only [BitVec.getLsbD_sshiftRight, BitVec.msb_eq_getLsbD_last]
  have h64 : ¬ 64 ≤ i := by omega
  by_cases hk : k + i < 64
  · simp only [h64, hk, decide_false, Bool.not_false, Bool.true_and, if_true]
    exact h (k + i) hk
  · simp only [h64, hk, decide_false, Bool.not_false, Bool.true_and, if_false]
    exact h63
theorem sh12_in {a : Rn} {x n : W} (h : In a x) : In (shByR12 a n) (x.sshiftRight n.toNat) := by
  unfold shByR12
  cases hz : (n == 0#64) <;> simp only [cond_true, cond_false]
  · have o := obR_in (sshr_has h.b n.toNat)
    refine ⟨o.b, o.lo, o.hi, ?_, ?_⟩
    · show sn (a.sl.sshiftRight n.toNat) ≤ _
      rw [sn_sshr, sn_sshr]; exact Int.ediv_le_ediv (p2 _) h.sl
    · show _ ≤ sn (a.sh.sshiftRight n.toNat)
      rw [sn_sshr, sn_sshr]; exact Int.ediv_le_ediv (p2 _) h.sh
  · rw [zero_of hz, BitVec.sshiftRight_zero]; exact h
end Go.Proofs.Ytmdcopmgkhjfnaa
