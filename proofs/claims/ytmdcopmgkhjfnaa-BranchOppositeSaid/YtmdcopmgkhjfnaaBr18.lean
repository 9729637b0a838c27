/- Plain: what comparisons tell of two ranges keeps their numbers. -/
import Derived.Test.YtmdcopmgkhjfnaaBr4
import Derived.Test.YtmdcopmgkhjfnaaSm1
namespace Go.Proofs.Ytmdcopmgkhjfnaa
theorem qnAdd {x n : W} (h : qn x + qn n < 18446744073709551616) : qn (x + n) = qn x + qn n := by
  unfold qn at h ⊢
  rw [BitVec.toNat_add, Nat.mod_eq_of_lt (by omega)]; omega
theorem qnSub {x n : W} (h : qn n ≤ qn x) : qn (x - n) = qn x - qn n := by
  have := x.isLt
  have := n.isLt
  unfold qn at h ⊢
  rw [BitVec.toNat_sub]; omega
theorem snAdd {x n : W} (h1 : -9223372036854775808 ≤ sn x + sn n) (h2 : sn x + sn n < 9223372036854775808) : sn (x + n) = sn x + sn n := by
  have a := qs x
  have b := qs n
  have c := qs (x + n)
  have e : qn (x + n) = (qn x + qn n) % 18446744073709551616 := by unfold qn; rw [BitVec.toNat_add]; omega
  omega
theorem snSub {x n : W} (h1 : -9223372036854775808 ≤ sn x - sn n) (h2 : sn x - sn n < 9223372036854775808) : sn (x - n) = sn x - sn n := by
  have a := qs x
  have b := qs n
  have c := qs (x - n)
  have e : qn (x - n) = (qn x - qn n) % 18446744073709551616 := by
    have := n.isLt
    unfold qn; rw [BitVec.toNat_sub]; omega
  omega
theorem over_in {a b : Rn} {n x y : W} (ha : In a x) (hb : In b y) (h : qn y + qn n ≤ qn x) : (overF a b n).2.2 = true ∧ In (overF a b n).1 x ∧ In (overF a b n).2.1 y := by
  obtain ⟨a0, a1, a2, a3, a4⟩ := ha
  obtain ⟨b0, b1, b2, b3, b4⟩ := hb
  have x1 := qn_hi x
  have x2 := qn_hi n
  have x3 := qn_lo n
  have x4 := qn_lo y
  have e0 : qn (18446744073709551615#64) = 18446744073709551615 := rfl
  have e1 : qn (18446744073709551615#64 - n) = 18446744073709551615 - qn n := by rw [qnSub (by omega), e0]
  have c1 : BitVec.ult (18446744073709551615#64 - n) b.lo = false := by rw [ult_qn, decide_eq_false_iff_not]; omega
  have c2 : BitVec.ult a.hi n = false := by rw [ult_qn, decide_eq_false_iff_not]; omega
  have s1 := qnAdd (x := b.lo) (n := n) (by omega)
  have s2 := qnSub (x := a.hi) (n := n) (by omega)
  unfold overF
  rw [c1, c2, cond_false, cond_false]
  refine ⟨rfl, ⟨a0, ?_, a2, a3, a4⟩, ⟨b0, b1, ?_, b3, b4⟩⟩
  · show qn (uMax a.lo (b.lo + n)) ≤ qn x
    rw [qn_uMax]; split <;> omega
  · show qn y ≤ qn (uMin b.hi (a.hi - n))
    rw [qn_uMin]; split <;> omega
theorem overS_in {a b : Rn} {n x y : W} (hn : 0 ≤ sn n) (ha : In a x) (hb : In b y) (h : sn y + sn n ≤ sn x) : (overSF a b n).2.2 = true ∧ In (overSF a b n).1 x ∧ In (overSF a b n).2.1 y := by
  obtain ⟨a0, a1, a2, a3, a4⟩ := ha
  obtain ⟨b0, b1, b2, b3, b4⟩ := hb
  have x1 := sn_hi x
  have x2 := sn_hi n
  have x3 := sn_lo y
  have x4 := sn_lo b.sl
  have x5 := sn_hi a.sh
  have e0 : sn (9223372036854775807#64) = 9223372036854775807 := rfl
  have e0' : sn (BitVec.ofInt 64 (-9223372036854775808)) = -9223372036854775808 := rfl
  have e1 : sn (9223372036854775807#64 - n) = 9223372036854775807 - sn n := by
    rw [snSub (by rw [e0]; clear e0 e0'; omega) (by rw [e0]; clear e0 e0'; omega), e0]
  have e2 : sn (BitVec.ofInt 64 (-9223372036854775808) + n) = -9223372036854775808 + sn n := by rw [snAdd (by rw [e0']; clear e0 e0' e1; omega) (by rw [e0']; clear e0 e0' e1; omega), e0']
  have c1 : BitVec.slt (9223372036854775807#64 - n) b.sl = false := by rw [slt_sn, e1, decide_eq_false_iff_not]; clear e0 e0' e1 e2; omega
  have c2 : BitVec.slt a.sh (BitVec.ofInt 64 (-9223372036854775808) + n) = false := by rw [slt_sn, e2, decide_eq_false_iff_not]; clear e0 e0' e1 e2 c1; omega
  clear e0 e0' e1 e2
  have s1 := snAdd (x := b.sl) (n := n) (by clear c1 c2; omega) (by clear c1 c2; omega)
  have s2 := snSub (x := a.sh) (n := n) (by clear c1 c2 s1; omega) (by clear c1 c2 s1; omega)
  unfold overSF
  rw [c1, c2, cond_false, cond_false]
  clear c1 c2
  refine ⟨rfl, ⟨a0, a1, a2, ?_, a4⟩, ⟨b0, b1, b2, b3, ?_⟩⟩
  · show sn (sMax a.sl (b.sl + n)) ≤ sn x
    rw [sn_sMax]; split <;> omega
  · show sn y ≤ sn (sMin b.sh (a.sh - n))
    rw [sn_sMin]; split <;> omega
theorem same_in {a b : Rn} {x : W} (ha : In a x) (hb : In b x) : (sameF a b).2.2 = true ∧ In (sameF a b).1 x ∧ In (sameF a b).2.1 x := by
  obtain ⟨a0, a1, a2, a3, a4⟩ := ha
  obtain ⟨b0, b1, b2, b3, b4⟩ := hb
  obtain ⟨m1, m2⟩ := meet_has a0 b0
  have H : In ⟨meetN a.b b.b, uMax a.lo b.lo, uMin a.hi b.hi, sMax a.sl b.sl, sMin a.sh b.sh⟩ x := by
    refine ⟨m2, ?_, ?_, ?_, ?_⟩
    · show qn (uMax a.lo b.lo) ≤ qn x
      rw [qn_uMax]; split <;> omega
    · show qn x ≤ qn (uMin a.hi b.hi)
      rw [qn_uMin]; split <;> omega
    · show sn (sMax a.sl b.sl) ≤ sn x
      rw [sn_sMax]; split <;> omega
    · show sn x ≤ sn (sMin a.sh b.sh)
      rw [sn_sMin]; split <;> omega
  unfold sameF bothF
  rw [m1]
  exact ⟨rfl, H, H⟩
end Go.Proofs.Ytmdcopmgkhjfnaa
