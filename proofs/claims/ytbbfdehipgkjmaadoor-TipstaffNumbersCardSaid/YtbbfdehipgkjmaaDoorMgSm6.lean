/- Plain: what operations make of numbers is among what they make of ranges: sums, differences, quotients, rests. Plain: what operations make of numbers is among what they make of ranges: bits, one by one; products. Plain: what operations make of numbers is among what they make of ranges: products. -/
import Derived.Test.YtbbfdehipgkjmaaDoorMgSm2
import Derived.Test.YtbbfdehipgkjmaaDoorSe9
import Derived.Test.YtbbfdehipgkjmaaDoorMgYv
namespace Go.Proofs.YtbbfdehipgkjmaaDoor
open Go
theorem qn_subW (p q : W) : qn (p - q) = (qn p - qn q) % 18446744073709551616 := by
  have h1 := p.isLt; have h2 := q.isLt
  unfold qn; rw [BitVec.toNat_sub]; omega
theorem addO_zero {p f : W} (h : (addO p f != 0#64) = false) : qn (p + f) = qn p + qn f := by
  have e : addO p f = 0#64 := by simpa using h
  unfold addO at e
  split at e
  · rename_i hl; rw [qn_addW]; unfold qn; omega
  · cases e
theorem upFrom_in {r : Rn} {x l p f : W} (h : In r x) (hd : qn (x - l) ≤ qn p + qn f) : In (upFrom r l p f) x := by
  have h1 := h.lo; have h2 := h.hi; have h3 := h.sl; have h4 := h.sh
  have a1 := qn_lo l; have a2 := qn_hi l; have a3 := qn_lo x; have a4 := qn_hi x
  have s1 := qs l; have s2 := qs x
  unfold upFrom
  cases hc : (addO p f != 0#64)
  · have ew := addO_zero hc
    rw [← ew] at hd
    clear ew hc
    generalize p + f = v at *
    have b1 := qn_lo v; have b2 := qn_hi v
    have em := qn_addW l v
    have ex := qn_subW x l
    have s3 := qs (l + v)
    have U : BitVec.ule l (l + v) = true → qn l ≤ qn x ∧ qn x ≤ qn (l + v) := by
      intro hu
      rw [ule_qn, decide_eq_true_eq] at hu
      omega
    have S : BitVec.sle l (l + v) = true → sn l ≤ sn x ∧ sn x ≤ sn (l + v) := by
      intro hu
      rw [sle_sn, decide_eq_true_eq] at hu
      omega
    simp only [cond_false]
    cases hu : BitVec.ule l (l + v) <;> cases hs : BitVec.sle l (l + v) <;> simp only [cond_true, cond_false]
    · exact h
    · obtain ⟨g1, g2⟩ := S hs
      refine ⟨h.b, h.lo, h.hi, ?_, ?_⟩
      · show sn (sMax r.sl l) ≤ _
        rw [sn_sMax]; split <;> omega
      · show _ ≤ sn (sMin r.sh (l + v))
        rw [sn_sMin]; split <;> omega
    · obtain ⟨g1, g2⟩ := U hu
      refine ⟨h.b, ?_, ?_, h.sl, h.sh⟩
      · show qn (uMax r.lo l) ≤ _
        rw [qn_uMax]; split <;> omega
      · show _ ≤ qn (uMin r.hi (l + v))
        rw [qn_uMin]; split <;> omega
    · obtain ⟨g1, g2⟩ := U hu
      obtain ⟨g3, g4⟩ := S hs
      refine ⟨h.b, ?_, ?_, ?_, ?_⟩
      · show qn (uMax r.lo l) ≤ _
        rw [qn_uMax]; split <;> omega
      · show _ ≤ qn (uMin r.hi (l + v))
        rw [qn_uMin]; split <;> omega
      · show sn (sMax r.sl l) ≤ _
        rw [sn_sMax]; split <;> omega
      · show _ ≤ sn (sMin r.sh (l + v))
        rw [sn_sMin]; split <;> omega
  · exact h
theorem added_in {a b : Rn} {x y : W} (ha : In a x) (hb : In b y) : In (addedR a b) (x + y) := by
  unfold addedR
  have h1 := ha.lo; have h2 := ha.hi; have h3 := ha.sl; have h4 := ha.sh
  have k1 := hb.lo; have k2 := hb.hi; have k3 := hb.sl; have k4 := hb.sh
  refine upFrom_in (upFrom_in (obR_in (add_has ha.b hb.b)) ?_) ?_
  · have e1 := qn_subW (x + y) (a.lo + b.lo); have e2 := qn_addW x y; have e3 := qn_addW a.lo b.lo
    have e4 := qn_subW a.hi a.lo; have e5 := qn_subW b.hi b.lo
    have b1 := qn_lo a.lo; have b2 := qn_hi a.hi; have b3 := qn_lo b.lo; have b4 := qn_hi b.hi
    omega
  · have e1 := qn_subW (x + y) (a.sl + b.sl); have e2 := qn_addW x y; have e3 := qn_addW a.sl b.sl
    have e4 := qn_subW a.sh a.sl; have e5 := qn_subW b.sh b.sl
    have s1 := qs a.sl; have s2 := qs a.sh; have s3 := qs b.sl; have s4 := qs b.sh; have s5 := qs x; have s6 := qs y
    omega
theorem subbed_in {a b : Rn} {x y : W} (ha : In a x) (hb : In b y) : In (subR a b) (x - y) := by
  unfold subR
  have h1 := ha.lo; have h2 := ha.hi; have h3 := ha.sl; have h4 := ha.sh
  have k1 := hb.lo; have k2 := hb.hi; have k3 := hb.sl; have k4 := hb.sh
  refine upFrom_in (upFrom_in (obR_in (sub_has ha.b hb.b)) ?_) ?_
  · have e1 := qn_subW (x - y) (a.lo - b.hi); have e2 := qn_subW x y; have e3 := qn_subW a.lo b.hi
    have e4 := qn_subW a.hi a.lo; have e5 := qn_subW b.hi b.lo
    have b1 := qn_lo a.lo; have b2 := qn_hi a.hi; have b3 := qn_lo b.lo; have b4 := qn_hi b.hi
    omega
  · have e1 := qn_subW (x - y) (a.sl - b.sh); have e2 := qn_subW x y; have e3 := qn_subW a.sl b.sh
    have e4 := qn_subW a.sh a.sl; have e5 := qn_subW b.sh b.sl
    have s1 := qs a.sl; have s2 := qs a.sh; have s3 := qs b.sl; have s4 := qs b.sh; have s5 := qs x; have s6 := qs y
    omega
theorem qn_mod (p q : W) : qn (p % q) = qn p % qn q := by unfold qn; rw [BitVec.toNat_umod]; rfl
end Go.Proofs.YtbbfdehipgkjmaaDoor
namespace Go.Proofs.YtbbfdehipgkjmaaDoor
open Go
theorem p2 (m : Nat) : (0 : Int) < 2 ^ m := by have := Nat.two_pow_pos m; exact_mod_cast this
/-- A number that needs so many bits ahead of its sign at most. -/
def Fits (m : Nat) (z : W) : Prop := -(2 ^ m) ≤ sn z ∧ sn z < 2 ^ m
theorem Fits.mono {m k : Nat} {z : W} (h : Fits m z) (hk : m ≤ k) : Fits k z := by
  have e : (2 : Int) ^ m ≤ 2 ^ k := by
    have := Nat.pow_le_pow_right (show 0 < 2 by decide) hk
    exact_mod_cast this
  exact ⟨by have := h.1; omega, by have := h.2; omega⟩
theorem Fits.between {m : Nat} {l x h : W} (hl : Fits m l) (hh : Fits m h) (h1 : sn l ≤ sn x) (h2 : sn x ≤ sn h) : Fits m x :=
  ⟨Int.le_trans hl.1 h1, Int.lt_of_le_of_lt h2 hh.2⟩
theorem Fits.lt {m : Nat} {z : W} (h : qn z < 2 ^ m) (h0 : sn z = qn z) : Fits m z := by
  have := qn_lo z
  have p := p2 m
  exact ⟨by omega, by omega⟩
theorem need_fits (z : W) : Fits (needF z) z ∧ needF z ≤ 63 := by
  have e63 : (63#64).toNat = 63 := rfl
  have hq := qs z
  have h63 : ∀ v : W, qn v < 9223372036854775808 → blen v.toNat ≤ 63 := fun v hv => blen_le (n := v.toNat) (m := 63) (by unfold qn at hv; omega)
  rcases hq with ⟨e, h0, h1⟩ | ⟨e, h0, h1⟩
  · have hs : BitVec.sshiftRight z (63#64).toNat = 0#64 := by
      apply sn_inj
      unfold sn
      rw [e63, BitVec.toInt_sshiftRight, Int.shiftRight_eq_div_pow]
      have : z.toInt = qn z := e
      rw [this]
      show qn z / 9223372036854775808 = 0
      omega
    have ev : z ^^^ BitVec.sshiftRight z (63#64).toNat = z := by rw [hs, BitVec.xor_zero]
    unfold needF
    rw [ev]
    refine ⟨Fits.lt ?_ e, h63 z h1⟩
    have := lt_blen z.toNat
    unfold qn; exact_mod_cast this
  · have hs : BitVec.sshiftRight z (63#64).toNat = BitVec.allOnes 64 := by
      apply sn_inj
      unfold sn
      rw [e63, BitVec.toInt_sshiftRight, Int.shiftRight_eq_div_pow]
      have e2 : z.toInt = qn z - 18446744073709551616 := e
      rw [e2]
      show (qn z - 18446744073709551616) / 9223372036854775808 = -1
      omega
    have ev : z ^^^ BitVec.sshiftRight z (63#64).toNat = ~~~z := by rw [hs, BitVec.xor_allOnes]
    have en : qn (~~~z) = 18446744073709551615 - qn z := by
      have := z.isLt
      unfold qn; rw [BitVec.toNat_not]; omega
    unfold needF
    rw [ev]
    have hb := lt_blen (~~~z).toNat
    have hb2 : qn (~~~z) < 2 ^ blen (~~~z).toNat := by unfold qn; exact_mod_cast hb
    have p : (0 : Int) < 2 ^ blen (~~~z).toNat := by omega
    exact ⟨⟨by omega, by omega⟩, h63 _ (by omega)⟩
theorem fits_shift {m : Nat} {z : W} : Fits m z ↔ z.sshiftRight m = 0#64 ∨ z.sshiftRight m = BitVec.allOnes 64 := by
  have p := p2 m
  have e : sn (z.sshiftRight m) = sn z / 2 ^ m := by
    unfold sn; rw [BitVec.toInt_sshiftRight, Int.shiftRight_eq_div_pow]; norm_cast
  constructor
  · intro ⟨h1, h2⟩
    by_cases h0 : 0 ≤ sn z
    · left; apply sn_inj; rw [e, sn_zero]; exact Int.ediv_eq_zero_of_lt h0 h2
    · right; apply sn_inj
      rw [e, show sn (BitVec.allOnes 64) = -1 by decide]
      refine (Int.ediv_eq_iff_of_pos p).2 ⟨by omega, by omega⟩
  · intro h
    have hd : sn z / 2 ^ m = 0 ∨ sn z / 2 ^ m = -1 := by
      rcases h with h | h
      · left; rw [← e, h]; decide
      · right; rw [← e, h]; decide
    rcases hd with h | h <;> have g := (Int.ediv_eq_iff_of_pos p).1 h <;> exact ⟨by omega, by omega⟩
theorem sshr_and (x y : W) (m : Nat) : (x &&& y).sshiftRight m = x.sshiftRight m &&& y.sshiftRight m := by
  apply BitVec.eq_of_getLsbD_eq; intro i hi
  simp only [BitVec.getLsbD_sshiftRight, BitVec.getLsbD_and, BitVec.msb_and, hi]
  have h64 : ¬ 64 ≤ i := by omega
  by_cases h : m + i < 64 <;> simp [h, h64]
theorem sshr_or (x y : W) (m : Nat) : (x ||| y).sshiftRight m = x.sshiftRight m ||| y.sshiftRight m := by
  apply BitVec.eq_of_getLsbD_eq; intro i hi
  simp only [BitVec.getLsbD_sshiftRight, BitVec.getLsbD_or, BitVec.msb_or, hi]
  have h64 : ¬ 64 ≤ i := by omega
  by_cases h : m + i < 64 <;> simp [h, h64]
theorem sshr_xor (x y : W) (m : Nat) : (x ^^^ y).sshiftRight m = x.sshiftRight m ^^^ y.sshiftRight m := by
  apply BitVec.eq_of_getLsbD_eq; intro i hi
  simp only [BitVec.getLsbD_sshiftRight, BitVec.getLsbD_xor, BitVec.msb_xor, hi]
  have h64 : ¬ 64 ≤ i := by omega
  by_cases h : m + i < 64 <;> simp [h, h64]
theorem Fits.and {m : Nat} {x y : W} (hx : Fits m x) (hy : Fits m y) : Fits m (x &&& y) := by
  rw [fits_shift] at *
  rw [sshr_and]
  rcases hx with e | e <;> rcases hy with f | f <;> rw [e, f] <;> decide
theorem Fits.or {m : Nat} {x y : W} (hx : Fits m x) (hy : Fits m y) : Fits m (x ||| y) := by
  rw [fits_shift] at *
  rw [sshr_or]
  rcases hx with e | e <;> rcases hy with f | f <;> rw [e, f] <;> decide
theorem Fits.xor {m : Nat} {x y : W} (hx : Fits m x) (hy : Fits m y) : Fits m (x ^^^ y) := by
  rw [fits_shift] at *
  rw [sshr_xor]
  rcases hx with e | e <;> rcases hy with f | f <;> rw [e, f] <;> decide
theorem ends_all : ∀ m : Fin 64, sn (BitVec.allOnes 64 <<< m.val) = -(2 ^ m.val) ∧ sn (~~~(BitVec.allOnes 64 <<< m.val)) = 2 ^ m.val - 1 := by decide +kernel
theorem bit_in {n : Nm} {a b : Rn} {x y z : W} (ha : In a x) (hb : In b y) (hz : tHas n z = true) (hf : ∀ m, Fits m x → Fits m y → Fits m z) : In (bitR n a b) z := by
  obtain ⟨f1, g1⟩ := need_fits a.sl; obtain ⟨f2, g2⟩ := need_fits a.sh; obtain ⟨f3, g3⟩ := need_fits b.sl; obtain ⟨f4, g4⟩ := need_fits b.sh
  unfold bitR
  obtain ⟨m, em⟩ : ∃ m, m = kMax4 (needF a.sl) (needF a.sh) (needF b.sl) (needF b.sh) := ⟨_, rfl⟩
  rw [← em]
  have l1 : needF a.sl ≤ m ∧ needF a.sh ≤ m ∧ needF b.sl ≤ m ∧ needF b.sh ≤ m ∧ m ≤ 63 := by rw [em]; unfold kMax4; omega
  have fx := (f1.mono l1.1).between (f2.mono l1.2.1) ha.sl ha.sh
  have fy := (f3.mono l1.2.2.1).between (f4.mono l1.2.2.2.1) hb.sl hb.sh
  have fz := hf m fx fy
  have ee := ends_all ⟨m, by omega⟩
  have ho := obR_in hz
  refine ⟨ho.b, ho.lo, ho.hi, ?_, ?_⟩
  · show sn (BitVec.allOnes 64 <<< m) ≤ _
    rw [ee.1]; exact fz.1
  · show _ ≤ sn (~~~(BitVec.allOnes 64 <<< m))
    rw [ee.2]; have := fz.2; show sn z ≤ 2 ^ m - 1; omega
end Go.Proofs.YtbbfdehipgkjmaaDoor
namespace Go.Proofs.YtbbfdehipgkjmaaDoor
open Go
end Go.Proofs.YtbbfdehipgkjmaaDoor
