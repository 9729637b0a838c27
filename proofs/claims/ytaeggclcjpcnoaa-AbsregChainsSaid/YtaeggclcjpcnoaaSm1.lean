/- Plain: a number that is in a range stays in what is settled, and what is settled is within the range. Nothing of the program. -/
import Derived.Test.YtaeggclcjpcnoaaSc12
import Derived.Test.YtaeggclcjpcnoaaNrr
namespace Go.Proofs.Ytaeggclcjpcnoaa
open Go
theorem ule_qn (p q : W) : p.ule q = decide (qn p ≤ qn q) := by unfold BitVec.ule qn; simp
theorem sle_sn (p q : W) : p.sle q = decide (sn p ≤ sn q) := rfl
theorem slt_sn (p q : W) : p.slt q = decide (sn p < sn q) := rfl
theorem qn_uMax (p q : W) : qn (uMax p q) = if qn p < qn q then qn q else qn p := by
  unfold uMax; rw [ult_qn]; by_cases h : qn p < qn q <;> simp [h]
theorem qn_uMin (p q : W) : qn (uMin p q) = if qn q < qn p then qn q else qn p := by
  unfold uMin; rw [ult_qn]; by_cases h : qn q < qn p <;> simp [h]
theorem sn_sMax (p q : W) : sn (sMax p q) = if sn p < sn q then sn q else sn p := by
  unfold sMax; rw [slt_sn]; by_cases h : sn p < sn q <;> simp [h]
theorem sn_sMin (p q : W) : sn (sMin p q) = if sn q < sn p then sn q else sn p := by
  unfold sMin; rw [slt_sn]; by_cases h : sn q < sn p <;> simp [h]
/-- A number is one of a range. -/
structure In (r : Rn) (x : W) : Prop where
  b : tHas r.b x = true
  lo : qn r.lo ≤ qn x
  hi : qn x ≤ qn r.hi
  sl : sn r.sl ≤ sn x
  sh : sn x ≤ sn r.sh
theorem in_iff {r : Rn} {x : W} : sHas r x = true ↔ In r x := by
  unfold sHas
  simp only [Bool.and_eq_true, ule_qn, sle_sn, decide_eq_true_eq]
  exact ⟨fun ⟨a, b, c, d, e⟩ => ⟨a, b, c, d, e⟩, fun h => ⟨h.b, h.lo, h.hi, h.sl, h.sh⟩⟩
theorem In.has {r : Rn} {x : W} (h : In r x) : sHas r x = true := in_iff.2 h
theorem sub_qn {x y : W} (h : Sub x y) : qn x ≤ qn y := by
  have e : x = x &&& y := by
    apply BitVec.eq_of_getLsbD_eq; intro i hi
    rw [BitVec.getLsbD_and]
    cases hx : x.getLsbD i
    · rfl
    · rw [h i hx]; rfl
  have : x.toNat ≤ y.toNat := by
    rw [e, BitVec.toNat_and]; exact Nat.and_le_right
  unfold qn; omega
theorem has_lo {n : Nm} {x : W} (h : tHas n x = true) : qn n.v ≤ qn x := sub_qn (has_sub h).1
theorem has_hi {n : Nm} {x : W} (h : tHas n x = true) : qn x ≤ qn (n.v ||| n.m) := sub_qn (has_sub h).2
theorem sT1_in {r : Rn} {x : W} (h : In r x) : In (sT1 r) x := by
  have h1 := has_lo h.b; have h2 := has_hi h.b
  refine ⟨h.b, ?_, ?_, h.sl, h.sh⟩
  · show qn (uMax r.lo r.b.v) ≤ qn x
    rw [qn_uMax]; have := h.lo; split <;> assumption
  · show qn x ≤ qn (uMin r.hi (r.b.v ||| r.b.m))
    rw [qn_uMin]; have := h.hi; split <;> assumption
theorem qs (x : W) : (sn x = qn x ∧ 0 ≤ qn x ∧ qn x < 9223372036854775808) ∨ (sn x = qn x - 18446744073709551616 ∧ 9223372036854775808 ≤ qn x ∧ qn x < 18446744073709551616) := by
  have h1 := qn_lo x; have h2 := qn_hi x
  rw [sn_def]; split <;> omega
theorem sT2_in {r : Rn} {x : W} (h : In r x) : In (sT2 r) x := by
  unfold sT2
  cases hc : BitVec.sle r.lo r.hi
  · exact h
  · simp only [cond_true]
    rw [sle_sn, decide_eq_true_eq] at hc
    have h1 := h.lo; have h2 := h.hi; have h3 := h.sl; have h4 := h.sh
    have a1 := qs r.lo; have a2 := qs r.hi; have a3 := qs x
    refine ⟨h.b, h.lo, h.hi, ?_, ?_⟩
    · show sn (sMax r.sl r.lo) ≤ sn x
      rw [sn_sMax]; split <;> omega
    · show sn x ≤ sn (sMin r.sh r.hi)
      rw [sn_sMin]; split <;> omega
theorem sn_zero : sn 0#64 = 0 := by decide
theorem sT3_in {r : Rn} {x : W} (h : In r x) : In (sT3 r) x := by
  unfold sT3
  cases hc : (BitVec.sle 0#64 r.sl || BitVec.slt r.sh 0#64)
  · exact h
  · simp only [cond_true]
    rw [Bool.or_eq_true, sle_sn, slt_sn, decide_eq_true_eq, decide_eq_true_eq, sn_zero] at hc
    have h1 := h.lo; have h2 := h.hi; have h3 := h.sl; have h4 := h.sh
    have a1 := qs r.sl; have a2 := qs r.sh; have a3 := qs x
    have b1 := qn_lo r.sl; have b2 := qn_hi r.sl; have b3 := qn_lo r.sh; have b4 := qn_hi r.sh
    refine ⟨h.b, ?_, ?_, h.sl, h.sh⟩
    · show qn (uMax r.lo r.sl) ≤ qn x
      rw [qn_uMax]; split <;> omega
    · show qn x ≤ qn (uMin r.hi r.sh)
      rw [qn_uMin]; split <;> omega
theorem lt_blen (n : Nat) : n < 2 ^ blen n := by
  unfold blen
  split
  · rename_i h; subst h; decide
  · exact Nat.lt_log2_self
theorem xor_div {a b n : Nat} (h : a ^^^ b < 2 ^ n) : a / 2 ^ n = b / 2 ^ n := by
  apply Nat.eq_of_testBit_eq; intro i
  rw [Nat.testBit_div_two_pow, Nat.testBit_div_two_pow]
  have h1 : (a ^^^ b).testBit (i + n) = false := Nat.testBit_lt_two_pow (Nat.lt_of_lt_of_le h (Nat.pow_le_pow_right (by decide) (by omega)))
  rw [Nat.testBit_xor] at h1
  cases ha : a.testBit (i + n) <;> cases hb : b.testBit (i + n) <;> simp_all
theorem lowM_bit (x y : W) (i : Nat) (hi : i < 64) : (lowM x y).getLsbD i = decide (i < blen (x ^^^ y).toNat) := by
  have h64 := blen_64 (x ^^^ y)
  unfold lowM
  rw [BitVec.getLsbD_ushiftRight, BitVec.getLsbD_allOnes]
  congr 1
  rw [eq_iff_iff]
  omega
theorem alike_has {l h x : W} (h1 : qn l ≤ qn x) (h2 : qn x ≤ qn h) : tHas (sAlike l h) x = true := by
  rw [has_iff]
  intro i hi
  have hd : l.toNat / 2 ^ blen (l ^^^ h).toNat = x.toNat / 2 ^ blen (l ^^^ h).toNat := by
    have e := xor_div (a := l.toNat) (b := h.toNat) (n := blen (l ^^^ h).toNat) (by rw [← BitVec.toNat_xor]; exact lt_blen _)
    have g1 : l.toNat / 2 ^ blen (l ^^^ h).toNat ≤ x.toNat / 2 ^ blen (l ^^^ h).toNat := Nat.div_le_div_right (by unfold qn at h1; omega)
    have g2 : x.toNat / 2 ^ blen (l ^^^ h).toNat ≤ h.toNat / 2 ^ blen (l ^^^ h).toNat := Nat.div_le_div_right (by unfold qn at h2; omega)
    omega
  unfold sAlike
  simp only [BitVec.getLsbD_and, BitVec.getLsbD_not, hi, decide_true, Bool.true_and, lowM_bit l h i hi]
  by_cases hb : i < blen (l ^^^ h).toNat
  · simp only [hb, decide_true, Bool.not_true, Bool.and_false]
  · simp only [hb, decide_false, Bool.not_false, Bool.and_true]
    have e := congrArg (fun z => Nat.testBit z (i - blen (l ^^^ h).toNat)) hd
    simp only [Nat.testBit_div_two_pow] at e
    rw [show i - blen (l ^^^ h).toNat + blen (l ^^^ h).toNat = i by omega] at e
    exact e
theorem alike_rgt (l h : W) : Rgt (sAlike l h) := rightN_rgt ⟨l, lowM l h⟩
theorem meet_has {a b : Nm} {x : W} (ha : tHas a x = true) (hb : tHas b x = true) : meetB a b = true ∧ tHas (meetN a b) x = true := by
  have ra := has_rgt ha; have rb := has_rgt hb
  have hz : apartW a b = 0#64 := by
    apply BitVec.eq_of_getLsbD_eq; intro i hi
    have g1 := has_iff.1 ha i hi; have g2 := has_iff.1 hb i hi
    unfold apartW
    simp only [BitVec.getLsbD_and, BitVec.getLsbD_xor, BitVec.getLsbD_not, BitVec.getLsbD_or, hi, decide_true, Bool.true_and, BitVec.getLsbD_zero, g1, g2]
    cases x.getLsbD i <;> cases a.m.getLsbD i <;> cases b.m.getLsbD i <;> rfl
  have hB : meetB a b = true := by
    rw [meetB_ref ra rb]
    have := apart_iff ra rb
    rw [hz] at this
    cases hh : rMeetB a b
    · rw [hh] at this; simp at this
    · rfl
  refine ⟨hB, ?_⟩
  rw [meetN_val ra rb hB, has_iff]
  intro i hi
  have g1 := has_iff.1 ha i hi; have g2 := has_iff.1 hb i hi
  simp only [BitVec.getLsbD_and, BitVec.getLsbD_or, g1, g2]
  cases x.getLsbD i <;> cases a.m.getLsbD i <;> cases b.m.getLsbD i <;> rfl
theorem sT4_in {r : Rn} {x : W} (h : In r x) : (sT4 r).2 = true ∧ In (sT4 r).1 x := by
  obtain ⟨m1, m2⟩ := meet_has h.b (alike_has h.lo h.hi)
  have h1 := h.lo; have h2 := h.hi; have h3 := h.sl; have h4 := h.sh
  have e1 : BitVec.ult r.hi r.lo = false := by rw [ult_qn, decide_eq_false_iff_not]; omega
  have e2 : BitVec.slt r.sh r.sl = false := by rw [slt_sn, decide_eq_false_iff_not]; omega
  unfold sT4
  rw [m1, e1, e2]
  exact ⟨rfl, ⟨m2, h1, h2, h3, h4⟩⟩
/-- What is settled has all numbers that the range has. -/
theorem settle_in {r : Rn} {x : W} (h : In r x) : (settleF r).2 = true ∧ In (settleF r).1 x := by
  unfold settleF
  rw [tRight_iff.2 (has_rgt h.b), cond_true]
  exact sT4_in (sT3_in (sT2_in (sT1_in h)))
theorem tight_in {r : Rn} {x : W} (h : In r x) : In (tightR r) x := by
  unfold tightR
  rw [(settle_in h).1, cond_true]; exact (settle_in h).2
theorem cR_in (x : W) : In (cR x) x := ⟨const_has x, by show qn x ≤ qn x; omega, by show qn x ≤ qn x; omega, by show sn x ≤ sn x; omega, by show sn x ≤ sn x; omega⟩
theorem in_cR {x y : W} (h : In (cR x) y) : y = x := has_const h.b
theorem obR_in {n : Nm} {x : W} (h : tHas n x = true) : In (obR n) x := by
  have a := qs x; have b := qn_lo x; have c := qn_hi x
  refine ⟨h, ?_, ?_, ?_, ?_⟩
  · show qn 0#64 ≤ qn x
    rw [show qn 0#64 = 0 by decide]; omega
  · show qn x ≤ qn (BitVec.allOnes 64)
    rw [show qn (BitVec.allOnes 64) = 18446744073709551615 by decide]; omega
  · show sn (BitVec.ofInt 64 (-9223372036854775808)) ≤ sn x
    rw [show sn (BitVec.ofInt 64 (-9223372036854775808)) = -9223372036854775808 by decide]; omega
  · show sn x ≤ sn (BitVec.ofInt 64 9223372036854775807)
    rw [show sn (BitVec.ofInt 64 9223372036854775807) = 9223372036854775807 by decide]; omega
theorem any_in (x : W) : In (obR tAny) x := obR_in (any_has x)
theorem join_in_l {a b : Rn} {x : W} (h : In a x) (hb : Rgt b.b) : In (joinR a b) x := by
  have h1 := h.lo; have h2 := h.hi; have h3 := h.sl; have h4 := h.sh
  refine ⟨join_has_l h.b hb, ?_, ?_, ?_, ?_⟩
  · show qn (uMin a.lo b.lo) ≤ _
    rw [qn_uMin]; split <;> omega
  · show _ ≤ qn (uMax a.hi b.hi)
    rw [qn_uMax]; split <;> omega
  · show sn (sMin a.sl b.sl) ≤ _
    rw [sn_sMin]; split <;> omega
  · show _ ≤ sn (sMax a.sh b.sh)
    rw [sn_sMax]; split <;> omega
theorem join_in_r {a b : Rn} {x : W} (h : In b x) (ha : Rgt a.b) : In (joinR a b) x := by
  have h1 := h.lo; have h2 := h.hi; have h3 := h.sl; have h4 := h.sh
  refine ⟨join_has_r h.b ha, ?_, ?_, ?_, ?_⟩
  · show qn (uMin a.lo b.lo) ≤ _
    rw [qn_uMin]; split <;> omega
  · show _ ≤ qn (uMax a.hi b.hi)
    rw [qn_uMax]; split <;> omega
  · show sn (sMin a.sl b.sl) ≤ _
    rw [sn_sMin]; split <;> omega
  · show _ ≤ sn (sMax a.sh b.sh)
    rw [sn_sMax]; split <;> omega
theorem within_in {a b : Rn} {x : W} (h : sWithin a b = true) (ha : In a x) (hb : Rgt b.b) : In b x := by
  unfold sWithin at h
  simp only [Bool.and_eq_true, ule_qn, sle_sn, decide_eq_true_eq] at h
  obtain ⟨g0, g1, g2, g3, g4⟩ := h
  have h1 := ha.lo; have h2 := ha.hi; have h3 := ha.sl; have h4 := ha.sh
  refine ⟨?_, by omega, by omega, by omega, by omega⟩
  have w := (within_iff (has_rgt ha.b) hb).1 g0
  rw [has_iff]; intro i hi
  have g := has_iff.1 ha.b i hi
  obtain ⟨w1, w2⟩ := w i hi
  cases hm : b.b.m.getLsbD i
  · have hma : a.b.m.getLsbD i = false := by
      cases hh : a.b.m.getLsbD i
      · rfl
      · rw [w1 hh] at hm; cases hm
    rw [← w2 hm, g, hma]
  · have := hb.bit i
    cases hv : b.b.v.getLsbD i
    · simp
    · exact absurd ⟨hv, hm⟩ this
theorem within_self {n : Nm} (h : Rgt n) : tWithin n n = true := (within_iff h h).2 fun i hi => ⟨fun x => x, fun _ => rfl⟩
theorem sWithin_self {a : Rn} (h : Rgt a.b) : sWithin a a = true := by
  unfold sWithin
  simp only [Bool.and_eq_true, ule_qn, sle_sn, decide_eq_true_eq]
  exact ⟨within_self h, by omega, by omega, by omega, by omega⟩
theorem sWithin_any (a : Rn) : sWithin a (obR tAny) = true := by
  unfold sWithin
  simp only [Bool.and_eq_true, ule_qn, sle_sn, decide_eq_true_eq]
  have e1 := qn_lo a.lo; have e2 := qn_hi a.hi; have e3 := qs a.sl; have e4 := qs a.sh
  have e5 := qn_lo a.sl; have e6 := qn_hi a.sh; have e7 := qn_hi a.sl; have e8 := qn_lo a.sh
  refine ⟨within_any a.b, ?_, ?_, ?_, ?_⟩
  · show qn 0#64 ≤ _
    rw [show qn 0#64 = 0 by decide]; omega
  · show _ ≤ qn (BitVec.allOnes 64)
    rw [show qn (BitVec.allOnes 64) = 18446744073709551615 by decide]; omega
  · show sn (BitVec.ofInt 64 (-9223372036854775808)) ≤ _
    rw [show sn (BitVec.ofInt 64 (-9223372036854775808)) = -9223372036854775808 by decide]; omega
  · show _ ≤ sn (BitVec.ofInt 64 9223372036854775807)
    rw [show sn (BitVec.ofInt 64 9223372036854775807) = 9223372036854775807 by decide]; omega
end Go.Proofs.Ytaeggclcjpcnoaa
