/- Plain: what an operation makes of numbers is one of what Do makes of ranges. -/
import Derived.Test.YtmdcopmgkhjfnaaSm8
import Derived.Test.YtmdcopmgkhjfnaaSlo
namespace Go.Proofs.Ytmdcopmgkhjfnaa
open Go
theorem or_in {a b : Rn} {x y : W} (ha : In a x) (hb : In b y) : In (orR a b) (x ||| y) := by
  have o := bit_in ha hb (or_has ha.b hb.b) (fun m hx hy => hx.or hy)
  have g1 : qn x ≤ qn (x ||| y) := sub_qn (fun i hi => by rw [BitVec.getLsbD_or, hi, Bool.true_or])
  have g2 : qn y ≤ qn (x ||| y) := sub_qn (fun i hi => by rw [BitVec.getLsbD_or, hi, Bool.or_true])
  have h1 := ha.lo; have h2 := hb.lo
  unfold orR
  refine ⟨o.b, ?_, o.hi, o.sl, o.sh⟩
  show qn (uMax a.lo b.lo) ≤ _
  rw [qn_uMax]; split <;> omega
theorem and_in {a b : Rn} {x y : W} (ha : In a x) (hb : In b y) : In (andR a b) (x &&& y) := by
  have o := bit_in ha hb (and_has ha.b hb.b) (fun m hx hy => hx.and hy)
  have g1 : qn (x &&& y) ≤ qn x := sub_qn (fun i hi => by rw [BitVec.getLsbD_and, Bool.and_eq_true] at hi; exact hi.1)
  have g2 : qn (x &&& y) ≤ qn y := sub_qn (fun i hi => by rw [BitVec.getLsbD_and, Bool.and_eq_true] at hi; exact hi.2)
  have h1 := ha.hi; have h2 := hb.hi
  unfold andR
  refine ⟨o.b, o.lo, ?_, o.sl, o.sh⟩
  show _ ≤ qn (uMin a.hi b.hi)
  rw [qn_uMin]; split <;> omega
theorem xor_in {a b : Rn} {x y : W} (ha : In a x) (hb : In b y) : In (bitR (tXor a.b b.b) a b) (x ^^^ y) := bit_in ha hb (xor_has ha.b hb.b) (fun m hx hy => hx.xor hy)
theorem neg_in {a : Rn} {x : W} (ha : In a x) : In (subR (cR 0#64) a) (-x) := by
  have := subbed_in (cR_in 0#64) ha
  rwa [BitVec.zero_sub] at this
theorem reck_long {a b : Rn} {x y : W} (ha : In a x) (hb : In b y) (op : Int) (h0 : 0 ≤ op) (h1 : op < 13) : In (reckF op true a b) (evL op x y) := by
  rcases (show op = 0 ∨ op = 1 ∨ op = 2 ∨ op = 3 ∨ op = 4 ∨ op = 5 ∨ op = 6 ∨ op = 7 ∨ op = 8 ∨ op = 9 ∨ op = 10 ∨ op = 11 ∨ op = 12 by omega) with rfl | rfl | rfl | rfl | rfl | rfl | rfl | rfl | rfl | rfl | rfl | rfl | rfl
  · exact added_in ha hb
  · exact subbed_in ha hb
  · exact mul_in ha hb
  · exact div_in ha hb
  · exact or_in ha hb
  · exact and_in ha hb
  · exact shRl_in (ev := fun x k => x <<< k) (fun n hn => sh6_in ha hn) hb
  · exact shRl_in (ev := fun x k => x >>> k) (fun n hn => sh7_in ha hn) hb
  · exact neg_in ha
  · exact rest_in ha hb
  · exact xor_in ha hb
  · exact hb
  · exact shRl_in (ev := fun x k => x.sshiftRight k) (fun n hn => sh12_in ha) hb
theorem lo_of_shr (x : W) (k : Nat) : lo32 (lo32 x >>> k) = lo32 x >>> k := by
  apply qn_inj
  rw [qn_lo32, qn_shr]
  have h := lo32_lt x; have h0 := qn_lo (lo32 x)
  refine Int.emod_eq_of_lt (Int.ediv_nonneg h0 (Int.le_of_lt (p2 k))) ?_
  have : qn (lo32 x) / 2 ^ k ≤ qn (lo32 x) := Int.ediv_le_self _ h0
  omega
theorem sshr_half (x : W) (k : Nat) (hk : k < 32) : lo32 ((x <<< 32).sshiftRight (k + 32)) = BitVec.setWidth 64 (BitVec.sshiftRight (s32 x) k) := by
  apply BitVec.eq_of_getLsbD_eq; intro i hi
  rw [← and_lo32]
  have hm : BitVec.getLsbD 4294967295#64 i = decide (i < 32) := by
    have : ∀ i : Fin 64, BitVec.getLsbD 4294967295#64 i.val = decide (i.val < 32) := by decide
    exact this ⟨i, hi⟩
  rw [BitVec.getLsbD_and, hm]
  by_cases h32 : i < 32
  · simp only [h32, decide_true, Bool.and_true]
    rw [BitVec.getLsbD_sshiftRight, BitVec.getLsbD_setWidth, BitVec.getLsbD_sshiftRight]
    have a1 : ¬ 64 ≤ i := by omega
    have a2 : ¬ 32 ≤ i := by omega
    simp only [a1, a2, decide_false, Bool.not_false, Bool.true_and, hi, decide_true]
    by_cases h : k + i < 32
    · rw [if_pos (by omega), if_pos h, BitVec.getLsbD_shiftLeft]
      unfold s32
      rw [BitVec.getLsbD_setWidth]
      have b1 : k + 32 + i < 64 := by omega
      have b2 : ¬ k + 32 + i < 32 := by omega
      rw [show k + 32 + i - 32 = k + i by omega]
      simp only [b1, b2, h, decide_true, decide_false, Bool.not_false, Bool.true_and]
    · rw [if_neg (by omega), if_neg h, BitVec.msb_eq_getLsbD_last, BitVec.msb_eq_getLsbD_last, BitVec.getLsbD_shiftLeft]
      unfold s32
      rw [BitVec.getLsbD_setWidth]
      simp
  · simp only [h32, decide_false, Bool.and_false]
    symm
    rw [BitVec.getLsbD_setWidth]
    have : BitVec.getLsbD (BitVec.sshiftRight (s32 x) k) i = false := BitVec.getLsbD_of_ge _ _ (by omega)
    rw [this, Bool.and_false]
theorem reck_short {a b : Rn} {x y : W} (ha : In a (lo32 x)) (hb : In b (lo32 y)) (op : Int) (h0 : 0 ≤ op) (h1 : op < 13) : ∃ z, In (reckF op false a b) z ∧ lo32 z = evS op x y := by
  have hk : (lo32 y % 32#64).toNat < 32 := h_lt32 (lo32 y)
  rcases (show op = 0 ∨ op = 1 ∨ op = 2 ∨ op = 3 ∨ op = 4 ∨ op = 5 ∨ op = 6 ∨ op = 7 ∨ op = 8 ∨ op = 9 ∨ op = 10 ∨ op = 11 ∨ op = 12 by omega) with rfl | rfl | rfl | rfl | rfl | rfl | rfl | rfl | rfl | rfl | rfl | rfl | rfl
  · exact ⟨_, added_in ha hb, rfl⟩
  · exact ⟨_, subbed_in ha hb, rfl⟩
  · exact ⟨_, mul_in ha hb, rfl⟩
  · exact ⟨_, div_in ha hb, rfl⟩
  · exact ⟨_, or_in ha hb, rfl⟩
  · exact ⟨_, and_in ha hb, rfl⟩
  · exact ⟨_, shRs_in (ev := fun x k => x <<< k) (fun n hn => sh6_in ha hn) hb, rfl⟩
  · refine ⟨_, shRs_in (ev := fun x k => x >>> k) (fun n hn => sh7_in ha hn) hb, ?_⟩
    exact lo_of_shr x _
  · exact ⟨_, neg_in ha, rfl⟩
  · exact ⟨_, rest_in ha hb, rfl⟩
  · exact ⟨_, xor_in ha hb, rfl⟩
  · exact ⟨_, hb, rfl⟩
  · refine ⟨_, shR12s_in ha hb, ?_⟩
    exact sshr_half (lo32 x) _ hk
theorem one_of {a : Rn} {x : W} (h : In a x) (e : (a.lo == a.hi) = true) : x = a.lo := by
  have e1 := congrArg qn (beq_iff_eq.1 e)
  have h1 := h.lo; have h2 := h.hi
  exact qn_inj (by omega)
/-- What an operation makes of numbers is one of what it makes of ranges. -/
theorem doR_in {a b : Rn} {x y : W} (ha : In a x) (hb : In b y) (op : Int) (l : Bool) (h0 : 0 ≤ op) (h1 : op < 13) : In (doR op l a b) (evF op l x y) := by
  cases l
  · show In (do_f op a b) (evS op x y)
    obtain ⟨_, sa⟩ := settle_in (lowR4_in ha); obtain ⟨_, sb⟩ := settle_in (lowR4_in hb)
    obtain ⟨z, hz, ez⟩ := reck_short sa sb op h0 h1
    have hlow := lowR4_in hz
    rw [ez] at hlow
    unfold do_f
    cases e1 : ((settleF (lowR4 a)).1.lo == (settleF (lowR4 a)).1.hi) <;> cases e2 : ((settleF (lowR4 b)).1.lo == (settleF (lowR4 b)).1.hi) <;> simp only [cond_true, cond_false]
    · exact hlow
    · exact hlow
    · exact hlow
    · rw [← one_of sa e1, ← one_of sb e2]
      show In (cR (evS op (lo32 x) (lo32 y))) _
      rw [evS_lo]; exact cR_in _
  · show In (do_t op a b) (evL op x y)
    obtain ⟨_, sa⟩ := settle_in ha; obtain ⟨_, sb⟩ := settle_in hb
    have hr := tight_in (reck_long sa sb op h0 h1)
    unfold do_t
    cases e1 : ((settleF a).1.lo == (settleF a).1.hi) <;> cases e2 : ((settleF b).1.lo == (settleF b).1.hi) <;> simp only [cond_true, cond_false]
    · exact hr
    · exact hr
    · exact hr
    · rw [← one_of sa e1, ← one_of sb e2]; exact cR_in _
end Go.Proofs.Ytmdcopmgkhjfnaa
