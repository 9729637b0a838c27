/- Shifts and lower bytes are the document's. Plain: the lower bytes of a range have those of its numbers. Bytes among words; the lowest byte of a range. -/
import Derived.Test.YtbbfdehipgkjmaaDoorNrr
import Derived.Test.YtbbfdehipgkjmaaDoorMgSm2
import Derived.Test.YtbbfdehipgkjmaaDoorSe6b
namespace Go.Proofs.YtbbfdehipgkjmaaDoor
open Go Go.RowKit
theorem bit_cut (x : W) (z : Int) (i : Nat) (hi : i < 64) : (tCut x z).getLsbD i = (decide (i < cutB z) && x.getLsbD i) := by
  unfold tCut
  rw [BitVec.getLsbD_ofNat, Nat.testBit_mod_two_pow]
  simp only [hi, decide_true, Bool.true_and]
  rfl
end Go.Proofs.YtbbfdehipgkjmaaDoor
namespace Go.Proofs.YtbbfdehipgkjmaaDoor
open Go
theorem qn_addW (p q : W) : qn (p + q) = (qn p + qn q) % 18446744073709551616 := by unfold qn; rw [BitVec.toNat_add]; omega
theorem low_has {n : Nm} {x : W} (h : tHas n x = true) (z : Int) : tHas (tLow n z) (tCut x z) = true := by
  rw [has_iff] at h ⊢
  intro i hi
  unfold tLow
  simp only [bit_cut _ _ _ hi, h i hi]
  by_cases hz : i < cutB z <;> simp [hz]
theorem low_between {m : W} {n : Nat} (hn : ∀ z : W, qn (z &&& m) = qn z % n ∧ qn (z &&& ~~~m) = qn z / n * n) (h0 : 0 < n) {l h x : W} (e : (l &&& ~~~m == h &&& ~~~m) = true) (h1 : qn l ≤ qn x) (h2 : qn x ≤ qn h) : qn (l &&& m) ≤ qn (x &&& m) ∧ qn (x &&& m) ≤ qn (h &&& m) := by
  have e1 := congrArg qn (beq_iff_eq.1 e)
  rw [(hn l).2, (hn h).2] at e1
  rw [(hn l).1, (hn h).1, (hn x).1]
  have p : (0 : Int) < n := by omega
  have d1 := Int.emod_add_mul_ediv (qn l) n; have d2 := Int.emod_add_mul_ediv (qn h) n; have d3 := Int.emod_add_mul_ediv (qn x) n
  have g1 := Int.ediv_le_ediv p h1; have g2 := Int.ediv_le_ediv p h2
  have e2 : qn l / n = qn h / n := by
    have := Int.eq_of_mul_eq_mul_right (show (n : Int) ≠ 0 by omega) e1
    exact this
  have e3 : qn x / n = qn l / n := by omega
  rw [e3] at d3
  rw [← e2] at d2
  generalize (n : Int) * (qn l / n) = z at *
  omega
theorem half_parts (z : W) : qn (z &&& 4294967295#64) = qn z % (4294967296 : Nat) ∧ qn (z &&& ~~~4294967295#64) = qn z / (4294967296 : Nat) * (4294967296 : Nat) := by
  have h1 : qn (z &&& 4294967295#64) = qn z % 4294967296 := by rw [and_lo32, qn_lo32]
  have h2 : (z &&& 4294967295#64) + (z &&& ~~~4294967295#64) = z := by
    rw [BitVec.add_eq_or_of_and_eq_zero]
    · apply BitVec.eq_of_getLsbD_eq; intro i hi
      simp only [BitVec.getLsbD_or, BitVec.getLsbD_and, BitVec.getLsbD_not, hi, decide_true, Bool.true_and]
      cases z.getLsbD i <;> cases BitVec.getLsbD 4294967295#64 i <;> rfl
    · apply BitVec.eq_of_getLsbD_eq; intro i hi
      simp only [BitVec.getLsbD_and, BitVec.getLsbD_not, hi, decide_true, Bool.true_and, BitVec.getLsbD_zero]
      cases z.getLsbD i <;> cases BitVec.getLsbD 4294967295#64 i <;> rfl
  have h3 := congrArg qn h2
  rw [qn_addW, h1] at h3
  have b1 := qn_lo z; have b2 := qn_hi z; have b3 := qn_lo (z &&& ~~~4294967295#64); have b4 := qn_hi (z &&& ~~~4294967295#64)
  have b5 : qn (z &&& ~~~4294967295#64) ≤ qn z := sub_qn (fun i hi => by rw [BitVec.getLsbD_and] at hi; revert hi; cases z.getLsbD i <;> simp)
  refine ⟨h1, ?_⟩
  omega
theorem lowR4_in {a : Rn} {x : W} (h : In a x) : In (lowR4 a) (lo32 x) := by
  obtain ⟨_, hs⟩ := settle_in h
  have hb := low_has hs.b 4
  rw [cut_lo32] at hb
  have o := obR_in hb
  unfold lowR4
  cases e : ((settleF a).1.lo &&& ~~~4294967295#64 == (settleF a).1.hi &&& ~~~4294967295#64) <;> simp only [cond_true, cond_false]
  · exact tight_in o
  · have g := low_between half_parts (by decide) e hs.lo hs.hi
    rw [and_lo32 x] at g
    exact tight_in ⟨o.b, g.1, g.2, o.sl, o.sh⟩
theorem byte_parts (z : W) : qn (z &&& 255#64) = qn z % (256 : Nat) ∧ qn (z &&& ~~~255#64) = qn z / (256 : Nat) * (256 : Nat) := by
  have h1 : qn (z &&& 255#64) = qn z % 256 := by
    have : (z &&& 255#64).toNat = z.toNat % 256 := by rw [BitVec.toNat_and]; exact Nat.and_two_pow_sub_one_eq_mod z.toNat 8
    unfold qn; rw [this]; omega
  have h2 : (z &&& 255#64) + (z &&& ~~~255#64) = z := by
    rw [BitVec.add_eq_or_of_and_eq_zero]
    · apply BitVec.eq_of_getLsbD_eq; intro i hi
      simp only [BitVec.getLsbD_or, BitVec.getLsbD_and, BitVec.getLsbD_not, hi, decide_true, Bool.true_and]
      cases z.getLsbD i <;> cases BitVec.getLsbD 255#64 i <;> rfl
    · apply BitVec.eq_of_getLsbD_eq; intro i hi
      simp only [BitVec.getLsbD_and, BitVec.getLsbD_not, hi, decide_true, Bool.true_and, BitVec.getLsbD_zero]
      cases z.getLsbD i <;> cases BitVec.getLsbD 255#64 i <;> rfl
  have h3 := congrArg qn h2
  rw [qn_addW, h1] at h3
  have b1 := qn_lo z; have b2 := qn_hi z; have b3 := qn_lo (z &&& ~~~255#64); have b4 := qn_hi (z &&& ~~~255#64)
  have b5 : qn (z &&& ~~~255#64) ≤ qn z := sub_qn (fun i hi => by rw [BitVec.getLsbD_and] at hi; revert hi; cases z.getLsbD i <;> simp)
  refine ⟨h1, ?_⟩
  omega
theorem cut_byte (x : W) : tCut x 1 = x &&& 255#64 := by
  apply qn_inj; rw [qn_cut x 1, (byte_parts x).1]; rfl
theorem lowR1_in {a : Rn} {x : W} (h : In a x) : In (lowR1 a) (x &&& 255#64) := by
  obtain ⟨_, hs⟩ := settle_in h
  have hb := low_has hs.b 1
  rw [cut_byte] at hb
  have o := obR_in hb
  unfold lowR1
  cases e : ((settleF a).1.lo &&& ~~~255#64 == (settleF a).1.hi &&& ~~~255#64) <;> simp only [cond_true, cond_false]
  · exact tight_in o
  · have g := low_between byte_parts (by decide) e hs.lo hs.hi
    exact tight_in ⟨o.b, g.1, g.2, o.sl, o.sh⟩
end Go.Proofs.YtbbfdehipgkjmaaDoor
namespace Go.Proofs.YtbbfdehipgkjmaaDoor
open Go Go.RowKit
theorem undY : Tryd.prog.underlying 5 = some (.int .u8) := by kernel_rfl
/-- A byte, by a word that is small. -/
def Yv (x : W) : Value := .int .u8 (qn x)
section
variable {P : Program} {a : Act} {o : Oper}
theorem run_yu {src dst : TypeId} {x : Operand} (ho : o.op = .convert src dst x) {k : IntKind} {p : W} (hs : P.underlying src = some (.int k)) (hd : P.underlying dst = some (.int .u64)) (hx : a.eval x = Yv p) (w : World) : (execOp a.eval o).run P w = .ok (.value (Q p)) w := by
  rw [run_conv ho hs hd hx w, wrap_u, ofInt_qn]; rfl
end
theorem wrap_y (z : Int) : IntKind.u8.wrap z = z % 256 := by simp [IntKind.wrap, IntKind.signed, IntKind.bits]
section
variable {P : Program} (T : TypeId)
theorem bin_yand (p q : W) (hq : q.toNat < 256) (hp : p.toNat < 256) : BinRun P .and T (Yv p) (Yv q) (Yv (p &&& q)) := binRun_of fun w => by
  have e : IntKind.u8.wrap (((BitVec.ofInt 8 (qn p) &&& BitVec.ofInt 8 (qn q)).toNat : Nat) : Int) = qn (p &&& q) := by
    rw [wrap_y]
    unfold qn
    rw [BitVec.toNat_and, BitVec.toNat_and, BitVec.toNat_ofInt, BitVec.toNat_ofInt]
    have e1 : ((p.toNat : Int) % ((2 ^ 8 : Nat) : Int)).toNat = p.toNat := by omega
    have e2 : ((q.toNat : Int) % ((2 ^ 8 : Nat) : Int)).toNat = q.toNat := by omega
    rw [e1, e2]
    have : p.toNat &&& q.toNat ≤ p.toNat := Nat.and_le_left
    omega
  unfold Yv
  rw [← e]; rfl
end
theorem byte_same {x : W} (h : x.toNat < 256) : x &&& 255#64 = x := by
  apply qn_inj; rw [(byte_parts x).1]; unfold qn; omega
theorem byte_in {x : W} (h : x.toNat < 256) : In (lowR1 (obR tAny)) x := by
  have := lowR1_in (any_in x)
  rwa [byte_same h] at this
end Go.Proofs.YtbbfdehipgkjmaaDoor
