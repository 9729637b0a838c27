/- Plain: what operations make of numbers is among what they make of ranges: sums, differences, quotients, rests. -/
import Derived.Test.YtmdcopmgkhjfnaaSm2
import Derived.Test.YtmdcopmgkhjfnaaSe9
import Derived.Test.YtmdcopmgkhjfnaaSlo
namespace Go.Proofs.Ytmdcopmgkhjfnaa
open Go
theorem qn_subW (p q : W) : qn (p - q) = (qn p - qn q) % 18446744073709551616 := by
  have h1 := p.isLt; have h2 := q.isLt
  unfold qn; rw [BitVec.toNat_sub]; omega
theorem addO_zero {p f : W} (h : (addO p f != 0#64) = false) : qn (p + f) = qn p + qn f := by
  have e : addO p f = 0#64 := by simpa using h
  unfold addO at e
  split at e
  · rename_i hl; rw [qn_addW]; unfold qn; omega
  · cases e
theorem upFrom_in {r : Rn} {x l p f : W} (h : In r x) (hd : qn (x - l) ≤ qn p + qn f) : In (upFrom r l p f) x := by
  have h1 := h.lo; have h2 := h.hi; have h3 := h.sl; have h4 := h.sh
  have a1 := qn_lo l; have a2 := qn_hi l; have a3 := qn_lo x; have a4 := qn_hi x
  have s1 := qs l; have s2 := qs x
  unfold upFrom
  cases hc : (addO p f != 0#64)
  · have ew := addO_zero hc
    rw [← ew] at hd
    clear ew hc
    generalize p + f = v at *
    have b1 := qn_lo v; have b2 := qn_hi v
    have em := qn_addW l v
    have ex := qn_subW x l
    have s3 := qs (l + v)
    have U : BitVec.ule l (l + v) = true → qn l ≤ qn x ∧ qn x ≤ qn (l + v) := by
      intro hu
      rw [ule_qn, decide_eq_true_eq] at hu
      omega
    have S : BitVec.sle l (l + v) = true → sn l ≤ sn x ∧ sn x ≤ sn (l + v) := by
      intro hu
      rw [sle_sn, decide_eq_true_eq] at hu
      omega
    simp only [cond_false]
    cases hu : BitVec.ule l (l + v) <;> cases hs : BitVec.sle l (l + v) <;> simp only [cond_true, cond_false]
    · exact h
    · obtain ⟨g1, g2⟩ := S hs
      refine ⟨h.b, h.lo, h.hi, ?_, ?_⟩
      · show sn (sMax r.sl l) ≤ _
        rw [sn_sMax]; split <;> omega
      · show _ ≤ sn (sMin r.sh (l + v))
        rw [sn_sMin]; split <;> omega
    · obtain ⟨g1, g2⟩ := U hu
      refine ⟨h.b, ?_, ?_, h.sl, h.sh⟩
      · show qn (uMax r.lo l) ≤ _
        rw [qn_uMax]; split <;> omega
      · show _ ≤ qn (uMin r.hi (l + v))
        rw [qn_uMin]; split <;> omega
    · obtain ⟨g1, g2⟩ := U hu
      obtain ⟨g3, g4⟩ := S hs
      refine ⟨h.b, ?_, ?_, ?_, ?_⟩
      · show qn (uMax r.lo l) ≤ _
        rw [qn_uMax]; split <;> omega
      · show _ ≤ qn (uMin r.hi (l + v))
        rw [qn_uMin]; split <;> omega
      · show sn (sMax r.sl l) ≤ _
        rw [sn_sMax]; split <;> omega
      · show _ ≤ sn (sMin r.sh (l + v))
        rw [sn_sMin]; split <;> omega
  · exact h
theorem added_in {a b : Rn} {x y : W} (ha : In a x) (hb : In b y) : In (addedR a b) (x + y) := by
  unfold addedR
  have h1 := ha.lo; have h2 := ha.hi; have h3 := ha.sl; have h4 := ha.sh
  have k1 := hb.lo; have k2 := hb.hi; have k3 := hb.sl; have k4 := hb.sh
  refine upFrom_in (upFrom_in (obR_in (add_has ha.b hb.b)) ?_) ?_
  · have e1 := qn_subW (x + y) (a.lo + b.lo); have e2 := qn_addW x y; have e3 := qn_addW a.lo b.lo
    have e4 := qn_subW a.hi a.lo; have e5 := qn_subW b.hi b.lo
    have b1 := qn_lo a.lo; have b2 := qn_hi a.hi; have b3 := qn_lo b.lo; have b4 := qn_hi b.hi
    omega
  · have e1 := qn_subW (x + y) (a.sl + b.sl); have e2 := qn_addW x y; have e3 := qn_addW a.sl b.sl
    have e4 := qn_subW a.sh a.sl; have e5 := qn_subW b.sh b.sl
    have s1 := qs a.sl; have s2 := qs a.sh; have s3 := qs b.sl; have s4 := qs b.sh; have s5 := qs x; have s6 := qs y
    omega
theorem subbed_in {a b : Rn} {x y : W} (ha : In a x) (hb : In b y) : In (subR a b) (x - y) := by
  unfold subR
  have h1 := ha.lo; have h2 := ha.hi; have h3 := ha.sl; have h4 := ha.sh
  have k1 := hb.lo; have k2 := hb.hi; have k3 := hb.sl; have k4 := hb.sh
  refine upFrom_in (upFrom_in (obR_in (sub_has ha.b hb.b)) ?_) ?_
  · have e1 := qn_subW (x - y) (a.lo - b.hi); have e2 := qn_subW x y; have e3 := qn_subW a.lo b.hi
    have e4 := qn_subW a.hi a.lo; have e5 := qn_subW b.hi b.lo
    have b1 := qn_lo a.lo; have b2 := qn_hi a.hi; have b3 := qn_lo b.lo; have b4 := qn_hi b.hi
    omega
  · have e1 := qn_subW (x - y) (a.sl - b.sh); have e2 := qn_subW x y; have e3 := qn_subW a.sl b.sh
    have e4 := qn_subW a.sh a.sl; have e5 := qn_subW b.sh b.sl
    have s1 := qs a.sl; have s2 := qs a.sh; have s3 := qs b.sl; have s4 := qs b.sh; have s5 := qs x; have s6 := qs y
    omega
theorem qn_div (p q : W) : qn (p / q) = qn p / qn q := by unfold qn; rw [BitVec.toNat_udiv]; rfl
theorem qn_mod (p q : W) : qn (p % q) = qn p % qn q := by unfold qn; rw [BitVec.toNat_umod]; rfl
theorem in_hi {r : Rn} {x : W} (h : In (obR tAny) x) (hl : qn r.lo ≤ qn x) (hh : qn x ≤ qn r.hi) (e : r.b = tAny) (e1 : r.sl = (obR tAny).sl) (e2 : r.sh = (obR tAny).sh) : In r x :=
  ⟨by rw [e]; exact h.b, hl, hh, by rw [e1]; exact h.sl, by rw [e2]; exact h.sh⟩
theorem div_le {a c b d : Int} (h0 : 0 ≤ a) (h1 : a ≤ c) (hd : 0 < d) (h2 : d ≤ b) : a / b ≤ c / d := by
  have e1 : a / b ≤ a / d := by
    have hb : 0 < b := by omega
    have q0 : 0 ≤ a / b := Int.ediv_nonneg h0 (by omega)
    refine (Int.le_ediv_iff_mul_le hd).2 ?_
    have := Int.ediv_mul_le a (show b ≠ 0 by omega)
    have : a / b * d ≤ a / b * b := Int.mul_le_mul_of_nonneg_left h2 q0
    omega
  exact Int.le_trans e1 (Int.ediv_le_ediv hd h1)
theorem div_in {a b : Rn} {x y : W} (ha : In a x) (hb : In b y) : In (divR a b) (x / y) := by
  have h1 := ha.lo; have h2 := ha.hi
  have k1 := hb.lo; have k2 := hb.hi
  have b0 := qn_lo a.lo; have b1 := qn_lo x; have b2 := qn_lo y; have b3 := qn_lo b.lo; have b4 := qn_lo b.hi
  unfold divR
  cases hc : (b.hi == 0#64)
  · have hn : qn b.hi ≠ 0 := fun e => by
      have : b.hi = 0#64 := qn_inj (e.trans (by decide))
      rw [this] at hc; cases hc
    have hm : qn (uMax b.lo 1#64) = if qn b.lo < 1 then 1 else qn b.lo := by
      rw [qn_uMax, show qn 1#64 = 1 by decide]
    have up : qn (x / y) ≤ qn (a.hi / uMax b.lo 1#64) := by
      rw [qn_div, qn_div, hm]
      by_cases hy : qn y = 0
      · rw [hy, Int.ediv_zero]
        refine Int.ediv_nonneg (by omega) ?_
        split <;> omega
      · refine div_le b1 h2 ?_ ?_
        · split <;> omega
        · split <;> omega
    have any := any_in (x / y)
    simp only [cond_false]
    cases hu : BitVec.ult 0#64 b.lo
    · refine in_hi any any.lo up rfl rfl rfl
    · rw [ult_qn, decide_eq_true_eq, show qn 0#64 = 0 by decide] at hu
      refine in_hi any ?_ up rfl rfl rfl
      show qn (a.lo / b.hi) ≤ _
      rw [qn_div, qn_div]
      exact div_le b0 h1 (by omega) k2
  · have e : y = 0#64 := by
      rw [beq_iff_eq] at hc
      rw [hc, show qn 0#64 = 0 by decide] at k2
      exact qn_inj (by rw [show qn 0#64 = 0 by decide]; omega)
    rw [e, BitVec.udiv_zero]
    exact cR_in 0#64
theorem rest_in {a b : Rn} {x y : W} (ha : In a x) (hb : In b y) : In (restR a b) (x % y) := by
  have h1 := ha.lo; have h2 := ha.hi
  have k1 := hb.lo; have k2 := hb.hi
  have b1 := qn_lo x; have b2 := qn_lo y; have b3 := qn_lo b.lo; have b4 := qn_lo b.hi; have b5 := qn_hi b.hi
  have any := any_in (x % y)
  have le : qn (x % y) ≤ qn x := by
    rw [qn_mod]
    by_cases hy : qn y = 0
    · rw [hy, Int.emod_zero]; omega
    · have := Int.emod_add_mul_ediv (qn x) (qn y)
      have h0 : 0 ≤ qn y * (qn x / qn y) := Int.mul_nonneg b2 (Int.ediv_nonneg b1 b2)
      omega
  unfold restR
  cases hc : BitVec.ult a.hi b.lo
  · simp only [cond_false]
    cases hz : (b.hi == 0#64)
    · have hn : qn b.hi ≠ 0 := fun e => by
        have : b.hi = 0#64 := qn_inj (e.trans (by decide))
        rw [this] at hz; cases hz
      simp only [cond_false]
      cases hu : BitVec.ult 0#64 b.lo
      · exact in_hi any any.lo (by show qn (x % y) ≤ qn a.hi; omega) rfl rfl rfl
      · rw [ult_qn, decide_eq_true_eq, show qn 0#64 = 0 by decide] at hu
        have lt : qn (x % y) < qn y := by rw [qn_mod]; exact Int.emod_lt_of_pos _ (by omega)
        have e1 : qn (b.hi - 1#64) = qn b.hi - 1 := by rw [qn_subW, show qn 1#64 = 1 by decide]; omega
        refine in_hi any any.lo ?_ rfl rfl rfl
        show qn (x % y) ≤ qn (uMin a.hi (b.hi - 1#64))
        rw [qn_uMin, e1]; split <;> omega
    · have e : y = 0#64 := by
        rw [beq_iff_eq] at hz
        rw [hz, show qn 0#64 = 0 by decide] at k2
        exact qn_inj (by rw [show qn 0#64 = 0 by decide]; omega)
      rw [e, BitVec.umod_zero]; exact ha
  · rw [ult_qn, decide_eq_true_eq] at hc
    have e : x % y = x := qn_inj (by rw [qn_mod]; exact Int.emod_eq_of_lt b1 (by omega))
    simp only [cond_true]
    rw [e]; exact ha
end Go.Proofs.Ytmdcopmgkhjfnaa
