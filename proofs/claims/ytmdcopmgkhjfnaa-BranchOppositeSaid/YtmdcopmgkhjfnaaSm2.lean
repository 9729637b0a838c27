/- Plain: ranges of one number alone: what is settled, the lower bytes and operations of them. -/
import Derived.Test.YtmdcopmgkhjfnaaSm1
import Derived.Test.YtmdcopmgkhjfnaaSe6
namespace Go.Proofs.Ytmdcopmgkhjfnaa
open Go
theorem uMax_self (x : W) : uMax x x = x := by unfold uMax; split <;> rfl
theorem uMin_self (x : W) : uMin x x = x := by unfold uMin; split <;> rfl
theorem sMax_self (x : W) : sMax x x = x := by unfold sMax; split <;> rfl
theorem sMin_self (x : W) : sMin x x = x := by unfold sMin; split <;> rfl
theorem sMax_le {p q : W} (h : sn p ≤ sn q) : sMax p q = q := by
  apply sn_inj; rw [sn_sMax]; split <;> omega
theorem sMin_ge {p q : W} (h : sn q ≤ sn p) : sMin p q = q := by
  apply sn_inj; rw [sn_sMin]; split <;> omega
theorem alike_self (x : W) : sAlike x x = tConst x := by
  have e : lowM x x = 0#64 := by
    unfold lowM
    rw [BitVec.xor_self]
    decide
  unfold sAlike
  rw [e]
  unfold tConst
  congr 1
  rw [BitVec.not_zero, BitVec.and_allOnes]
theorem meet_one (x : W) : meetB (tConst x) (tConst x) = true ∧ meetN (tConst x) (tConst x) = tConst x := by
  obtain ⟨h1, h2⟩ := meet_has (const_has x) (const_has x)
  refine ⟨h1, ?_⟩
  rw [meetN_val (has_rgt (const_has x)) (has_rgt (const_has x)) h1]
  apply Nm.ext'
  · exact BitVec.or_self
  · exact BitVec.and_self
theorem settle_one {y sl sh : W} (h1 : sn sl ≤ sn y) (h2 : sn y ≤ sn sh) : settleF ⟨tConst y, y, y, sl, sh⟩ = (cR y, true) := by
  have e1 : sT1 ⟨tConst y, y, y, sl, sh⟩ = ⟨tConst y, y, y, sl, sh⟩ := by
    unfold sT1 tConst
    simp only [BitVec.or_zero, uMax_self, uMin_self]
  have e2 : sT2 ⟨tConst y, y, y, sl, sh⟩ = cR y := by
    unfold sT2 cR
    have : BitVec.sle y y = true := by rw [sle_sn, decide_eq_true_eq]; omega
    simp only [this, cond_true, sMax_le h1, sMin_ge h2]
  have e3 : sT3 (cR y) = cR y := by
    unfold sT3 cR
    cases (BitVec.sle 0#64 y || BitVec.slt y 0#64)
    · rfl
    · simp only [cond_true, uMax_self, uMin_self]
  have e4 : sT4 (cR y) = (cR y, true) := by
    obtain ⟨m1, m2⟩ := meet_one y
    unfold sT4 cR
    have g1 : BitVec.ult y y = false := by rw [ult_qn, decide_eq_false_iff_not]; omega
    have g2 : BitVec.slt y y = false := by rw [slt_sn, decide_eq_false_iff_not]; omega
    simp only [alike_self, m1, m2, g1, g2]
    rfl
  unfold settleF
  rw [tRight_iff.2 (has_rgt (const_has y)), cond_true, e1, e2, e3, e4]
theorem settle_cR (x : W) : settleF (cR x) = (cR x, true) := settle_one (Int.le_refl _) (Int.le_refl _)
theorem tight_cR (x : W) : tightR (cR x) = cR x := by unfold tightR; rw [settle_cR]; rfl
theorem and_lo32 (x : W) : x &&& 4294967295#64 = lo32 x := by
  apply BitVec.eq_of_toNat_eq
  unfold lo32
  rw [BitVec.toNat_and, BitVec.toNat_umod]
  exact Nat.and_two_pow_sub_one_eq_mod x.toNat 32
theorem cut_lo32 (x : W) : tCut x 4 = lo32 x := by
  have h := qn_cut x 4
  have e := qn_lo32 x
  apply qn_inj
  rw [h, e]
  rfl
theorem low_const (x : W) : tLow (tConst x) 4 = tConst (lo32 x) := by
  unfold tLow tConst
  congr 1
  exact cut_lo32 x
theorem lowR4_cR (x : W) : lowR4 (cR x) = cR (lo32 x) := by
  unfold lowR4
  rw [settle_cR]
  have e : ((cR x).lo &&& ~~~4294967295#64 == (cR x).hi &&& ~~~4294967295#64) = true := by
    show (x &&& ~~~4294967295#64 == x &&& ~~~4294967295#64) = true
    simp
  rw [e, cond_true]
  have e2 : (⟨(obR (tLow (cR x).b 4)).b, (cR x).lo &&& 4294967295#64, (cR x).hi &&& 4294967295#64, (obR (tLow (cR x).b 4)).sl, (obR (tLow (cR x).b 4)).sh⟩ : Rn) = ⟨tConst (lo32 x), lo32 x, lo32 x, (obR tAny).sl, (obR tAny).sh⟩ := by
    rw [show (cR x).lo = x from rfl, show (cR x).hi = x from rfl, show (cR x).b = tConst x from rfl, low_const, and_lo32]
    rfl
  rw [e2]
  unfold tightR
  have hb := any_in (lo32 x)
  rw [settle_one hb.sl hb.sh]; rfl
theorem lo32_lo32 (x : W) : lo32 (lo32 x) = lo32 x := by
  apply qn_inj; rw [qn_lo32, qn_lo32]; omega
theorem evS_lo (op : Int) (x y : W) : evS op (lo32 x) (lo32 y) = evS op x y := by
  unfold evS; simp only [lo32_lo32]
end Go.Proofs.Ytmdcopmgkhjfnaa
