/- Plain: what operations make of numbers is among what they make of ranges: bits, one by one; products. -/
import Derived.Test.YtmdcopmgkhjfnaaSm4
namespace Go.Proofs.Ytmdcopmgkhjfnaa
open Go
theorem p2 (m : Nat) : (0 : Int) < 2 ^ m := by have := Nat.two_pow_pos m; exact_mod_cast this
/-- A number that needs so many bits ahead of its sign at most. -/
def Fits (m : Nat) (z : W) : Prop := -(2 ^ m) ≤ sn z ∧ sn z < 2 ^ m
theorem Fits.mono {m k : Nat} {z : W} (h : Fits m z) (hk : m ≤ k) : Fits k z := by
  have e : (2 : Int) ^ m ≤ 2 ^ k := by
    have := Nat.pow_le_pow_right (show 0 < 2 by decide) hk
    exact_mod_cast this
  exact ⟨by have := h.1; omega, by have := h.2; omega⟩
theorem Fits.between {m : Nat} {l x h : W} (hl : Fits m l) (hh : Fits m h) (h1 : sn l ≤ sn x) (h2 : sn x ≤ sn h) : Fits m x :=
  ⟨Int.le_trans hl.1 h1, Int.lt_of_le_of_lt h2 hh.2⟩
theorem Fits.lt {m : Nat} {z : W} (h : qn z < 2 ^ m) (h0 : sn z = qn z) : Fits m z := by
  have := qn_lo z
  have p := p2 m
  exact ⟨by omega, by omega⟩
theorem need_fits (z : W) : Fits (needF z) z ∧ needF z ≤ 63 := by
  have e63 : (63#64).toNat = 63 := rfl
  have hq := qs z
  have h63 : ∀ v : W, qn v < 9223372036854775808 → blen v.toNat ≤ 63 := fun v hv => blen_le (n := v.toNat) (m := 63) (by unfold qn at hv; omega)
  rcases hq with ⟨e, h0, h1⟩ | ⟨e, h0, h1⟩
  · have hs : BitVec.sshiftRight z (63#64).toNat = 0#64 := by
      apply sn_inj
      unfold sn
      rw [e63, BitVec.toInt_sshiftRight, Int.shiftRight_eq_div_pow]
      have : z.toInt = qn z := e
      rw [this]
      show qn z / 9223372036854775808 = 0
      omega
    have ev : z ^^^ BitVec.sshiftRight z (63#64).toNat = z := by rw [hs, BitVec.xor_zero]
    unfold needF
    rw [ev]
    refine ⟨Fits.lt ?_ e, h63 z h1⟩
    have := lt_blen z.toNat
    unfold qn; exact_mod_cast this
  · have hs : BitVec.sshiftRight z (63#64).toNat = BitVec.allOnes 64 := by
      apply sn_inj
      unfold sn
      rw [e63, BitVec.toInt_sshiftRight, Int.shiftRight_eq_div_pow]
      have e2 : z.toInt = qn z - 18446744073709551616 := e
      rw [e2]
      show (qn z - 18446744073709551616) / 9223372036854775808 = -1
      omega
    have ev : z ^^^ BitVec.sshiftRight z (63#64).toNat = ~~~z := by rw [hs, BitVec.xor_allOnes]
    have en : qn (~~~z) = 18446744073709551615 - qn z := by
      have := z.isLt
      unfold qn; rw [BitVec.toNat_not]; omega
    unfold needF
    rw [ev]
    have hb := lt_blen (~~~z).toNat
    have hb2 : qn (~~~z) < 2 ^ blen (~~~z).toNat := by unfold qn; exact_mod_cast hb
    have p : (0 : Int) < 2 ^ blen (~~~z).toNat := by omega
    exact ⟨⟨by omega, by omega⟩, h63 _ (by omega)⟩
theorem fits_shift {m : Nat} {z : W} : Fits m z ↔ z.sshiftRight m = 0#64 ∨ z.sshiftRight m = BitVec.allOnes 64 := by
  have p := p2 m
  have e : sn (z.sshiftRight m) = sn z / 2 ^ m := by
    unfold sn; rw [BitVec.toInt_sshiftRight, Int.shiftRight_eq_div_pow]; norm_cast
  constructor
  · intro ⟨h1, h2⟩
    by_cases h0 : 0 ≤ sn z
    · left; apply sn_inj; rw [e, sn_zero]; exact Int.ediv_eq_zero_of_lt h0 h2
    · right; apply sn_inj
      rw [e, show sn (BitVec.allOnes 64) = -1 by decide]
      refine (Int.ediv_eq_iff_of_pos p).2 ⟨by omega, by omega⟩
  · intro h
    have hd : sn z / 2 ^ m = 0 ∨ sn z / 2 ^ m = -1 := by
      rcases h with h | h
      · left; rw [← e, h]; decide
      · right; rw [← e, h]; decide
    rcases hd with h | h <;> have g := (Int.ediv_eq_iff_of_pos p).1 h <;> exact ⟨by omega, by omega⟩
theorem sshr_and (x y : W) (m : Nat) : (x &&& y).sshiftRight m = x.sshiftRight m &&& y.sshiftRight m := by
  apply BitVec.eq_of_getLsbD_eq; intro i hi
  simp only [BitVec.getLsbD_sshiftRight, BitVec.getLsbD_and, BitVec.msb_and, hi]
  have h64 : ¬ 64 ≤ i := by omega
  by_cases h : m + i < 64 <;> simp [h, h64]
theorem sshr_or (x y : W) (m : Nat) : (x ||| y).sshiftRight m = x.sshiftRight m ||| y.sshiftRight m := by
  apply BitVec.eq_of_getLsbD_eq; intro i hi
  simp only [BitVec.getLsbD_sshiftRight, BitVec.getLsbD_or, BitVec.msb_or, hi]
  have h64 : ¬ 64 ≤ i := by omega
  by_cases h : m + i < 64 <;> simp [h, h64]
theorem sshr_xor (x y : W) (m : Nat) : (x ^^^ y).sshiftRight m = x.sshiftRight m ^^^ y.sshiftRight m := by
  apply BitVec.eq_of_getLsbD_eq; intro i hi
  simp only [BitVec.getLsbD_sshiftRight, BitVec.getLsbD_xor, BitVec.msb_xor, hi]
  have h64 : ¬ 64 ≤ i := by omega
  by_cases h : m + i < 64 <;> simp [h, h64]
theorem Fits.and {m : Nat} {x y : W} (hx : Fits m x) (hy : Fits m y) : Fits m (x &&& y) := by
  rw [fits_shift] at *
  rw [sshr_and]
  rcases hx with e | e <;> rcases hy with f | f <;> rw [e, f] <;> decide
theorem Fits.or {m : Nat} {x y : W} (hx : Fits m x) (hy : Fits m y) : Fits m (x ||| y) := by
  rw [fits_shift] at *
  rw [sshr_or]
  rcases hx with e | e <;> rcases hy with f | f <;> rw [e, f] <;> decide
theorem Fits.xor {m : Nat} {x y : W} (hx : Fits m x) (hy : Fits m y) : Fits m (x ^^^ y) := by
  rw [fits_shift] at *
  rw [sshr_xor]
  rcases hx with e | e <;> rcases hy with f | f <;> rw [e, f] <;> decide
theorem ends_all : ∀ m : Fin 64, sn (BitVec.allOnes 64 <<< m.val) = -(2 ^ m.val) ∧ sn (~~~(BitVec.allOnes 64 <<< m.val)) = 2 ^ m.val - 1 := by decide +kernel
theorem bit_in {n : Nm} {a b : Rn} {x y z : W} (ha : In a x) (hb : In b y) (hz : tHas n z = true) (hf : ∀ m, Fits m x → Fits m y → Fits m z) : In (bitR n a b) z := by
  obtain ⟨f1, g1⟩ := need_fits a.sl; obtain ⟨f2, g2⟩ := need_fits a.sh; obtain ⟨f3, g3⟩ := need_fits b.sl; obtain ⟨f4, g4⟩ := need_fits b.sh
  unfold bitR
  obtain ⟨m, em⟩ : ∃ m, m = kMax4 (needF a.sl) (needF a.sh) (needF b.sl) (needF b.sh) := ⟨_, rfl⟩
  rw [← em]
  have l1 : needF a.sl ≤ m ∧ needF a.sh ≤ m ∧ needF b.sl ≤ m ∧ needF b.sh ≤ m ∧ m ≤ 63 := by rw [em]; unfold kMax4; omega
  have fx := (f1.mono l1.1).between (f2.mono l1.2.1) ha.sl ha.sh
  have fy := (f3.mono l1.2.2.1).between (f4.mono l1.2.2.2.1) hb.sl hb.sh
  have fz := hf m fx fy
  have ee := ends_all ⟨m, by omega⟩
  have ho := obR_in hz
  refine ⟨ho.b, ho.lo, ho.hi, ?_, ?_⟩
  · show sn (BitVec.allOnes 64 <<< m) ≤ _
    rw [ee.1]; exact fz.1
  · show _ ≤ sn (~~~(BitVec.allOnes 64 <<< m))
    rw [ee.2]; have := fz.2; show sn z ≤ 2 ^ m - 1; omega
end Go.Proofs.Ytmdcopmgkhjfnaa
