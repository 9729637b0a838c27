/- Bytes among words; the lowest byte of a range. -/
import Derived.Test.YtafgiiimippfcaaSm9
import Derived.Test.YtafgiiimippfcaaSe6b
namespace Go.Proofs.Ytafgiiimippfcaa
open Go Go.RowKit
theorem undY : Try.prog.underlying 5 = some (.int .u8) := by kernel_rfl
/-- A byte, by a word that is small. -/
def Yv (x : W) : Value := .int .u8 (qn x)
section
variable {P : Program} {a : Act} {o : Oper}
theorem run_yu {src dst : TypeId} {x : Operand} (ho : o.op = .convert src dst x) {k : IntKind} {p : W} (hs : P.underlying src = some (.int k)) (hd : P.underlying dst = some (.int .u64)) (hx : a.eval x = Yv p) (w : World) : (execOp a.eval o).run P w = .ok (.value (Q p)) w := by
  rw [run_conv ho hs hd hx w, wrap_u, ofInt_qn]; rfl
end
theorem wrap_y (z : Int) : IntKind.u8.wrap z = z % 256 := by simp [IntKind.wrap, IntKind.signed, IntKind.bits]
section
variable {P : Program} (T : TypeId)
theorem bin_yand (p q : W) (hq : q.toNat < 256) (hp : p.toNat < 256) : BinRun P .and T (Yv p) (Yv q) (Yv (p &&& q)) := binRun_of fun w => by
  have e : IntKind.u8.wrap (((BitVec.ofInt 8 (qn p) &&& BitVec.ofInt 8 (qn q)).toNat : Nat) : Int) = qn (p &&& q) := by
    rw [wrap_y]
    unfold qn
    rw [BitVec.toNat_and, BitVec.toNat_and, BitVec.toNat_ofInt, BitVec.toNat_ofInt]
    have e1 : ((p.toNat : Int) % ((2 ^ 8 : Nat) : Int)).toNat = p.toNat := by omega
    have e2 : ((q.toNat : Int) % ((2 ^ 8 : Nat) : Int)).toNat = q.toNat := by omega
    rw [e1, e2]
    have : p.toNat &&& q.toNat ≤ p.toNat := Nat.and_le_left
    omega
  unfold Yv
  rw [← e]; rfl
theorem bin_yrem (p q : W) (hq : q ≠ 0#64) (hp : p.toNat < 256) : BinRun P .rem T (Yv p) (Yv q) (Yv (p % q)) := binRun_of fun w => by
  show (Op.intDiv .rem .u8 (qn p) (qn q)).run P w = _
  have h0 : ¬ qn q = 0 := fun h => hq (qn_inj (h.trans (by rfl)))
  have e : (qn p).tmod (qn q) = qn (p % q) := by
    rw [Int.tmod_eq_emod_of_nonneg (qn_lo p)]
    unfold qn; rw [BitVec.toNat_umod]; rfl
  unfold Op.intDiv Yv
  rw [if_neg h0, ← e]; rfl
end
theorem byte_parts (z : W) : qn (z &&& 255#64) = qn z % (256 : Nat) ∧ qn (z &&& ~~~255#64) = qn z / (256 : Nat) * (256 : Nat) := by
  have h1 : qn (z &&& 255#64) = qn z % 256 := by
    have : (z &&& 255#64).toNat = z.toNat % 256 := by rw [BitVec.toNat_and]; exact Nat.and_two_pow_sub_one_eq_mod z.toNat 8
    unfold qn; rw [this]; omega
  have h2 : (z &&& 255#64) + (z &&& ~~~255#64) = z := by
    rw [BitVec.add_eq_or_of_and_eq_zero]
    · apply BitVec.eq_of_getLsbD_eq; intro i hi
      simp only [BitVec.getLsbD_or, BitVec.getLsbD_and, BitVec.getLsbD_not, hi, decide_true, Bool.true_and]
      cases z.getLsbD i <;> cases BitVec.getLsbD 255#64 i <;> rfl
    · apply BitVec.eq_of_getLsbD_eq; intro i hi
      simp only [BitVec.getLsbD_and, BitVec.getLsbD_not, hi, decide_true, Bool.true_and, BitVec.getLsbD_zero]
      cases z.getLsbD i <;> cases BitVec.getLsbD 255#64 i <;> rfl
  have h3 := congrArg qn h2
  rw [qn_addW, h1] at h3
  have b1 := qn_lo z; have b2 := qn_hi z; have b3 := qn_lo (z &&& ~~~255#64); have b4 := qn_hi (z &&& ~~~255#64)
  have b5 : qn (z &&& ~~~255#64) ≤ qn z := sub_qn (fun i hi => by rw [BitVec.getLsbD_and] at hi; revert hi; cases z.getLsbD i <;> simp)
  refine ⟨h1, ?_⟩
  omega
theorem cut_byte (x : W) : tCut x 1 = x &&& 255#64 := by
  apply qn_inj; rw [qn_cut x 1, (byte_parts x).1]; rfl
theorem lowR1_in {a : Rn} {x : W} (h : In a x) : In (lowR1 a) (x &&& 255#64) := by
  obtain ⟨_, hs⟩ := settle_in h
  have hb := low_has hs.b 1
  rw [cut_byte] at hb
  have o := obR_in hb
  unfold lowR1
  cases e : ((settleF a).1.lo &&& ~~~255#64 == (settleF a).1.hi &&& ~~~255#64) <;> simp only [cond_true, cond_false]
  · exact tight_in o
  · have g := low_between byte_parts (by decide) e hs.lo hs.hi
    exact tight_in ⟨o.b, g.1, g.2, o.sl, o.sh⟩
theorem byte_same {x : W} (h : x.toNat < 256) : x &&& 255#64 = x := by
  apply qn_inj; rw [(byte_parts x).1]; unfold qn; omega
theorem byte_in {x : W} (h : x.toNat < 256) : In (lowR1 (obR tAny)) x := by
  have := lowR1_in (any_in x)
  rwa [byte_same h] at this
end Go.Proofs.Ytafgiiimippfcaa
