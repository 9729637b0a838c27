/- Plain: a number that is in a range stays in what is settled, and what is settled is within the range. Nothing of the program. Laws of ranges' operations: shifts with a sign by whatever count, '^', sums with what is carried, the least and the greatest of four; two ranges and a bool told. -/
import Derived.Test.YtbbfdehipgkjmaaDoorSc12
import Derived.Test.YtbbfdehipgkjmaaDoorNrr
import Derived.Laws.Externs
import Derived.OrdersHeld
namespace Go.Proofs.YtbbfdehipgkjmaaDoor
open Go
theorem ule_qn (p q : W) : p.ule q = decide (qn p ≤ qn q) := by unfold BitVec.ule qn; simp
theorem sle_sn (p q : W) : p.sle q = decide (sn p ≤ sn q) := rfl
theorem slt_sn (p q : W) : p.slt q = decide (sn p < sn q) := rfl
theorem qn_uMax (p q : W) : qn (uMax p q) = if qn p < qn q then qn q else qn p := by
  unfold uMax; rw [ult_qn]; by_cases h : qn p < qn q <;> simp [h]
theorem qn_uMin (p q : W) : qn (uMin p q) = if qn q < qn p then qn q else qn p := by
  unfold uMin; rw [ult_qn]; by_cases h : qn q < qn p <;> simp [h]
theorem sn_sMax (p q : W) : sn (sMax p q) = if sn p < sn q then sn q else sn p := by
  unfold sMax; rw [slt_sn]; by_cases h : sn p < sn q <;> simp [h]
theorem sn_sMin (p q : W) : sn (sMin p q) = if sn q < sn p then sn q else sn p := by
  unfold sMin; rw [slt_sn]; by_cases h : sn q < sn p <;> simp [h]
/-- A number is one of a range. -/
structure In (r : Rn) (x : W) : Prop where
  b : tHas r.b x = true
  lo : qn r.lo ≤ qn x
  hi : qn x ≤ qn r.hi
  sl : sn r.sl ≤ sn x
  sh : sn x ≤ sn r.sh
theorem in_iff {r : Rn} {x : W} : sHas r x = true ↔ In r x := by
  unfold sHas
  simp only [Bool.and_eq_true, ule_qn, sle_sn, decide_eq_true_eq]
  exact ⟨fun ⟨a, b, c, d, e⟩ => ⟨a, b, c, d, e⟩, fun h => ⟨h.b, h.lo, h.hi, h.sl, h.sh⟩⟩
theorem In.has {r : Rn} {x : W} (h : In r x) : sHas r x = true := in_iff.2 h
theorem sub_qn {x y : W} (h : Sub x y) : qn x ≤ qn y := by
  have e : x = x &&& y := by
    apply BitVec.eq_of_getLsbD_eq; intro i hi
    rw [BitVec.getLsbD_and]
    cases hx : x.getLsbD i
    · rfl
    · rw [h i hx]; rfl
  have : x.toNat ≤ y.toNat := by
    rw [e, BitVec.toNat_and]; exact Nat.and_le_right
  unfold qn; omega
theorem has_lo {n : Nm} {x : W} (h : tHas n x = true) : qn n.v ≤ qn x := sub_qn (has_sub h).1
theorem has_hi {n : Nm} {x : W} (h : tHas n x = true) : qn x ≤ qn (n.v ||| n.m) := sub_qn (has_sub h).2
theorem sT1_in {r : Rn} {x : W} (h : In r x) : In (sT1 r) x := by
  have h1 := has_lo h.b; have h2 := has_hi h.b
  refine ⟨h.b, ?_, ?_, h.sl, h.sh⟩
  · show qn (uMax r.lo r.b.v) ≤ qn x
    rw [qn_uMax]; have := h.lo; split <;> assumption
  · show qn x ≤ qn (uMin r.hi (r.b.v ||| r.b.m))
    rw [qn_uMin]; have := h.hi; split <;> assumption
theorem qs (x : W) : (sn x = qn x ∧ 0 ≤ qn x ∧ qn x < 9223372036854775808) ∨ (sn x = qn x - 18446744073709551616 ∧ 9223372036854775808 ≤ qn x ∧ qn x < 18446744073709551616) := by
  have h1 := qn_lo x; have h2 := qn_hi x
  rw [sn_def]; split <;> omega
theorem sT2_in {r : Rn} {x : W} (h : In r x) : In (sT2 r) x := by
  unfold sT2
  cases hc : BitVec.sle r.lo r.hi
  · exact h
  · simp only [cond_true]
    rw [sle_sn, decide_eq_true_eq] at hc
    have h1 := h.lo; have h2 := h.hi; have h3 := h.sl; have h4 := h.sh
    have a1 := qs r.lo; have a2 := qs r.hi; have a3 := qs x
    refine ⟨h.b, h.lo, h.hi, ?_, ?_⟩
    · show sn (sMax r.sl r.lo) ≤ sn x
      rw [sn_sMax]; split <;> omega
    · show sn x ≤ sn (sMin r.sh r.hi)
      rw [sn_sMin]; split <;> omega
theorem sn_zero : sn 0#64 = 0 := by decide
theorem sT3_in {r : Rn} {x : W} (h : In r x) : In (sT3 r) x := by
  unfold sT3
  cases hc : (BitVec.sle 0#64 r.sl || BitVec.slt r.sh 0#64)
  · exact h
  · simp only [cond_true]
    rw [Bool.or_eq_true, sle_sn, slt_sn, decide_eq_true_eq, decide_eq_true_eq, sn_zero] at hc
    have h1 := h.lo; have h2 := h.hi; have h3 := h.sl; have h4 := h.sh
    have a1 := qs r.sl; have a2 := qs r.sh; have a3 := qs x
    have b1 := qn_lo r.sl; have b2 := qn_hi r.sl; have b3 := qn_lo r.sh; have b4 := qn_hi r.sh
    refine ⟨h.b, ?_, ?_, h.sl, h.sh⟩
    · show qn (uMax r.lo r.sl) ≤ qn x
      rw [qn_uMax]; split <;> omega
    · show qn x ≤ qn (uMin r.hi r.sh)
      rw [qn_uMin]; split <;> omega
theorem lt_blen (n : Nat) : n < 2 ^ blen n := by
  unfold blen
  split
  · rename_i h; subst h; decide
  · exact Nat.lt_log2_self
theorem xor_div {a b n : Nat} (h : a ^^^ b < 2 ^ n) : a / 2 ^ n = b / 2 ^ n := by
  apply Nat.eq_of_testBit_eq; intro i
  rw [Nat.testBit_div_two_pow, Nat.testBit_div_two_pow]
  have h1 : (a ^^^ b).testBit (i + n) = false := Nat.testBit_lt_two_pow (Nat.lt_of_lt_of_le h (Nat.pow_le_pow_right (by decide) (by omega)))
  rw [Nat.testBit_xor] at h1
  cases ha : a.testBit (i + n) <;> cases hb : b.testBit (i + n) <;> simp_all
theorem lowM_bit (x y : W) (i : Nat) (hi : i < 64) : (lowM x y).getLsbD i = decide (i < blen (x ^^^ y).toNat) := by
  have h64 := blen_64 (x ^^^ y)
  unfold lowM
  rw [BitVec.getLsbD_ushiftRight, BitVec.getLsbD_allOnes]
  congr 1
  rw [eq_iff_iff]
  omega
theorem alike_has {l h x : W} (h1 : qn l ≤ qn x) (h2 : qn x ≤ qn h) : tHas (sAlike l h) x = true := by
  rw [has_iff]
  intro i hi
  have hd : l.toNat / 2 ^ blen (l ^^^ h).toNat = x.toNat / 2 ^ blen (l ^^^ h).toNat := by
    have e := xor_div (a := l.toNat) (b := h.toNat) (n := blen (l ^^^ h).toNat) (by rw [← BitVec.toNat_xor]; exact lt_blen _)
    have g1 : l.toNat / 2 ^ blen (l ^^^ h).toNat ≤ x.toNat / 2 ^ blen (l ^^^ h).toNat := Nat.div_le_div_right (by unfold qn at h1; omega)
    have g2 : x.toNat / 2 ^ blen (l ^^^ h).toNat ≤ h.toNat / 2 ^ blen (l ^^^ h).toNat := Nat.div_le_div_right (by unfold qn at h2; omega)
    omega
  unfold sAlike
  simp only [BitVec.getLsbD_and, BitVec.getLsbD_not, hi, decide_true, Bool.true_and, lowM_bit l h i hi]
  by_cases hb : i < blen (l ^^^ h).toNat
  · simp only [hb, decide_true, Bool.not_true, Bool.and_false]
  · simp only [hb, decide_false, Bool.not_false, Bool.and_true]
    have e := congrArg (fun z => Nat.testBit z (i - blen (l ^^^ h).toNat)) hd
    simp only [Nat.testBit_div_two_pow] at e
    rw [show i - blen (l ^^^ h).toNat + blen (l ^^^ h).toNat = i by omega] at e
    exact e
theorem alike_rgt (l h : W) : Rgt (sAlike l h) := rightN_rgt ⟨l, lowM l h⟩
theorem meet_has {a b : Nm} {x : W} (ha : tHas a x = true) (hb : tHas b x = true) : meetB a b = true ∧ tHas (meetN a b) x = true := by
  have ra := has_rgt ha; have rb := has_rgt hb
  have hz : apartW a b = 0#64 := by
    apply BitVec.eq_of_getLsbD_eq; intro i hi
    have g1 := has_iff.1 ha i hi; have g2 := has_iff.1 hb i hi
    unfold apartW
    simp only [BitVec.getLsbD_and, BitVec.getLsbD_xor, BitVec.getLsbD_not, BitVec.getLsbD_or, hi, decide_true, Bool.true_and, BitVec.getLsbD_zero, g1, g2]
    cases x.getLsbD i <;> cases a.m.getLsbD i <;> cases b.m.getLsbD i <;> rfl
  have hB : meetB a b = true := by
    rw [meetB_ref ra rb]
    have := apart_iff ra rb
    rw [hz] at this
    cases hh : rMeetB a b
    · rw [hh] at this; simp at this
    · rfl
  refine ⟨hB, ?_⟩
  rw [meetN_val ra rb hB, has_iff]
  intro i hi
  have g1 := has_iff.1 ha i hi; have g2 := has_iff.1 hb i hi
  simp only [BitVec.getLsbD_and, BitVec.getLsbD_or, g1, g2]
  cases x.getLsbD i <;> cases a.m.getLsbD i <;> cases b.m.getLsbD i <;> rfl
theorem sT4_in {r : Rn} {x : W} (h : In r x) : (sT4 r).2 = true ∧ In (sT4 r).1 x := by
  obtain ⟨m1, m2⟩ := meet_has h.b (alike_has h.lo h.hi)
  have h1 := h.lo; have h2 := h.hi; have h3 := h.sl; have h4 := h.sh
  have e1 : BitVec.ult r.hi r.lo = false := by rw [ult_qn, decide_eq_false_iff_not]; omega
  have e2 : BitVec.slt r.sh r.sl = false := by rw [slt_sn, decide_eq_false_iff_not]; omega
  unfold sT4
  rw [m1, e1, e2]
  exact ⟨rfl, ⟨m2, h1, h2, h3, h4⟩⟩
/-- What is settled has all numbers that the range has. -/
theorem settle_in {r : Rn} {x : W} (h : In r x) : (settleF r).2 = true ∧ In (settleF r).1 x := by
  unfold settleF
  rw [tRight_iff.2 (has_rgt h.b), cond_true]
  exact sT4_in (sT3_in (sT2_in (sT1_in h)))
theorem tight_in {r : Rn} {x : W} (h : In r x) : In (tightR r) x := by
  unfold tightR
  rw [(settle_in h).1, cond_true]; exact (settle_in h).2
theorem cR_in (x : W) : In (cR x) x := ⟨const_has x, by show qn x ≤ qn x; omega, by show qn x ≤ qn x; omega, by show sn x ≤ sn x; omega, by show sn x ≤ sn x; omega⟩
theorem obR_in {n : Nm} {x : W} (h : tHas n x = true) : In (obR n) x := by
  have a := qs x; have b := qn_lo x; have c := qn_hi x
  refine ⟨h, ?_, ?_, ?_, ?_⟩
  · show qn 0#64 ≤ qn x
    rw [show qn 0#64 = 0 by decide]; omega
  · show qn x ≤ qn (BitVec.allOnes 64)
    rw [show qn (BitVec.allOnes 64) = 18446744073709551615 by decide]; omega
  · show sn (BitVec.ofInt 64 (-9223372036854775808)) ≤ sn x
    rw [show sn (BitVec.ofInt 64 (-9223372036854775808)) = -9223372036854775808 by decide]; omega
  · show sn x ≤ sn (BitVec.ofInt 64 9223372036854775807)
    rw [show sn (BitVec.ofInt 64 9223372036854775807) = 9223372036854775807 by decide]; omega
theorem any_in (x : W) : In (obR tAny) x := obR_in (any_has x)
theorem join_in_l {a b : Rn} {x : W} (h : In a x) (hb : Rgt b.b) : In (joinR a b) x := by
  have h1 := h.lo; have h2 := h.hi; have h3 := h.sl; have h4 := h.sh
  refine ⟨join_has_l h.b hb, ?_, ?_, ?_, ?_⟩
  · show qn (uMin a.lo b.lo) ≤ _
    rw [qn_uMin]; split <;> omega
  · show _ ≤ qn (uMax a.hi b.hi)
    rw [qn_uMax]; split <;> omega
  · show sn (sMin a.sl b.sl) ≤ _
    rw [sn_sMin]; split <;> omega
  · show _ ≤ sn (sMax a.sh b.sh)
    rw [sn_sMax]; split <;> omega
theorem join_in_r {a b : Rn} {x : W} (h : In b x) (ha : Rgt a.b) : In (joinR a b) x := by
  have h1 := h.lo; have h2 := h.hi; have h3 := h.sl; have h4 := h.sh
  refine ⟨join_has_r h.b ha, ?_, ?_, ?_, ?_⟩
  · show qn (uMin a.lo b.lo) ≤ _
    rw [qn_uMin]; split <;> omega
  · show _ ≤ qn (uMax a.hi b.hi)
    rw [qn_uMax]; split <;> omega
  · show sn (sMin a.sl b.sl) ≤ _
    rw [sn_sMin]; split <;> omega
  · show _ ≤ sn (sMax a.sh b.sh)
    rw [sn_sMax]; split <;> omega
theorem within_self {n : Nm} (h : Rgt n) : tWithin n n = true := (within_iff h h).2 fun i hi => ⟨fun x => x, fun _ => rfl⟩
end Go.Proofs.YtbbfdehipgkjmaaDoor
namespace Go.Proofs.YtbbfdehipgkjmaaDoor
open Go Go.RowKit
theorem fdiv_min (z : Int) (h1 : -9223372036854775808 ≤ z) (h2 : z < 9223372036854775808) (n : Nat) : z.fdiv (2 ^ (min n 64)) = z >>> n := by
  by_cases h : n ≤ 64
  · rw [Nat.min_eq_left h, fdiv_pow]
  · rw [Nat.min_eq_right (by omega), fdiv_pow]
    have e : ∀ m : Nat, 64 ≤ m → z >>> m = if 0 ≤ z then 0 else -1 := fun m hm => by
      rw [Int.shiftRight_eq_div_pow]
      have hp : (9223372036854775808 : Int) < ((2 ^ m : Nat) : Int) := by
        have : 2 ^ 64 ≤ 2 ^ m := Nat.pow_le_pow_right (by decide) hm
        omega
      split
      · exact Int.ediv_eq_zero_of_lt (by assumption) (by omega)
      · rename_i hz
        refine Int.ediv_eq_iff_of_pos (by omega) |>.2 ⟨by omega, by omega⟩
    rw [e 64 (by omega), e n (by omega)]
section
variable {P : Program} (T : TypeId)
theorem sn_bnd (p : W) : -9223372036854775808 ≤ sn p ∧ sn p < 9223372036854775808 := by
  have h1 := qn_lo p; have h2 := qn_hi p
  rw [sn_def]; split <;> omega
theorem bin_sshrg (p q : W) : BinRun P .shr T (S p) (Q q) (S (p.sshiftRight q.toNat)) := binRun_of fun w => by
  show (Op.shift .shr .i64 (sn p) .u64 (qn q)).run P w = _
  have h1 := qn_lo q
  have e : (sn p).fdiv (2 ^ (min (qn q).toNat 64)) = sn (p.sshiftRight q.toNat) := by
    have e1 : (qn q).toNat = q.toNat := rfl
    rw [e1, fdiv_min _ (sn_bnd p).1 (sn_bnd p).2]
    unfold sn; rw [BitVec.toInt_sshiftRight]
  unfold Op.shift S
  rw [if_neg (by omega), ← e]; rfl
theorem shl_sn (p : W) (n : Nat) : IntKind.i64.wrap (sn p * 2 ^ (min n 64)) = sn (p <<< n) := by
  rw [wrap_s]
  congr 1
  apply BitVec.eq_of_toNat_eq
  have e1 : sn p % 18446744073709551616 = qn p := by
    have h1 := qn_lo p; have h2 := qn_hi p
    rw [sn_def]; split <;> omega
  have e2 : (sn p * 2 ^ (min n 64)) % 18446744073709551616 = (qn p * 2 ^ (min n 64)) % 18446744073709551616 := by
    rw [Int.mul_emod, e1, ← Int.emod_eq_of_lt (qn_lo p) (qn_hi p), ← Int.mul_emod, Int.emod_eq_of_lt (qn_lo p) (qn_hi p)]
  have e3 := shl_qn p n
  rw [wrap_u] at e3
  have e4 := congrArg qn (qn_inj e3)
  rw [qn_ofInt] at e4
  rw [← e2] at e4
  have e5 := qn_ofInt (sn p * 2 ^ (min n 64))
  have : qn (BitVec.ofInt 64 (sn p * 2 ^ min n 64)) = qn (p <<< n) := by rw [e5, e4]
  unfold qn at this
  omega
theorem bin_sshl (p q : W) : BinRun P .shl T (S p) (Q q) (S (p <<< q.toNat)) := binRun_of fun w => by
  show (Op.shift .shl .i64 (sn p) .u64 (qn q)).run P w = _
  have h1 := qn_lo q
  have e1 : (qn q).toNat = q.toNat := rfl
  unfold Op.shift S
  rw [if_neg (by omega), ← shl_sn p q.toNat]; rfl
theorem bin_sshlK (p : W) (n : Nat) : BinRun P .shl T (S p) (.int .i64 (n : Int)) (S (p <<< n)) := binRun_of fun w => by
  show (Op.shift .shl .i64 (sn p) .i64 (n : Int)).run P w = _
  unfold Op.shift S
  rw [if_neg (by omega), ← shl_sn p n]; rfl
theorem sn_xor (p q : W) : IntKind.i64.wrap (qn (p ^^^ q)) = sn (p ^^^ q) := by rw [wrap_s, ofInt_qn]
theorem bits_sxor (p q : W) (w : World) : (Op.intBits .xor .i64 (sn p) (sn q)).run P w = .ok (S (p ^^^ q)) w := by
  have e : IntKind.i64.wrap (((BitVec.ofInt 64 (sn p) ^^^ BitVec.ofInt 64 (sn q)).toNat : Nat) : Int) = sn (p ^^^ q) := by
    rw [ofInt_sn, ofInt_sn]; exact sn_xor p q
  unfold S
  rw [← e]; rfl
theorem bin_sxor (p q : W) : BinRun P .xor T (S p) (S q) (S (p ^^^ q)) := binRun_of fun w => bits_sxor p q w
end
section
variable {P : Program} {a : Act} {o : Oper} {w : World} {x y z u : Operand} {T ty : TypeId}
theorem run_snot {p : W} (ho : o.op = .unOp .xor T x) (hx : a.eval x = S p) (w : World) : (execOp a.eval o).run P w = .ok (.value (S (~~~p))) w := by
  have e := bits_sxor (P := P) (BitVec.allOnes 64) p w
  rw [show BitVec.allOnes 64 ^^^ p = ~~~p from BitVec.allOnes_xor, show sn (BitVec.allOnes 64) = -1 by decide] at e
  unfold execOp
  simp only [ho, hx]
  unfold S
  simp only [Op.unary, Sem.run_bind, IntKind.signed, if_true]
  rw [e]
  rfl
/-- What is carried out of a sum. -/
def addO (p q : W) : W := if p.toNat + q.toNat < 18446744073709551616 then 0#64 else 1#64
theorem add64_run (p q : W) (w : World) : (callFunc 79 #[Q p, Q q, .int .u64 0]).run Tryd.prog w = .ok (.value (.tuple #[Q (p + q), Q (addO p q)])) w := by
  have h1 := qn_lo p; have h2 := qn_hi p; have h3 := qn_lo q; have h4 := qn_hi q
  have e1 : (qn p + qn q + 0) % 18446744073709551616 = qn (p + q) := by unfold qn; rw [BitVec.toNat_add]; omega
  have e2 : (qn p + qn q + 0) / 18446744073709551616 = qn (addO p q) := by
    unfold addO
    split
    · rename_i h; rw [show qn 0#64 = 0 by decide]; unfold qn at *; omega
    · rename_i h; rw [show qn 1#64 = 1 by decide]; unfold qn at *; omega
  unfold Q
  rw [run_callFunc_extern Tryd.func79 (by kernel_rfl) (by kernel_rfl) (by kernel_rfl) (e := add64Entry) (by kernel_rfl), run_add64 (qn p) (qn q) 0 h1 h3 (by omega) (by omega), e1, e2]
  rfl
theorem run_add64Q {p q : W} {ts : Array TypeId} (ho : o.op = .call { callee := .value (.func 79), args := #[x, y, .const (.int .u64 0)], argTypes := ts }) (hx : a.eval x = Q p) (hy : a.eval y = Q q) (w : World) : (execOp a.eval o).run Tryd.prog w = .ok (.value (.tuple #[Q (p + q), Q (addO p q)])) w := by
  have h := add64_run p q w
  have hm : (#[x, y, .const (.int .u64 0)] : Array Operand).map a.eval = #[Q p, Q q, .int .u64 0] := by
    simp only [List.map_toArray, List.map_cons, List.map_nil, hx, hy]; rfl
  unfold execOp
  simp only [ho, resolve, invoke, hm, Act.eval, Deferred.ofValue, Sem.run_bind, Sem.run_pure, Result.andThen_ok]
  exact h
def sMin4 (p q r t : W) : W := sMin (sMin (sMin p q) r) t
def sMax4 (p q r t : W) : W := sMax (sMax (sMax p q) r) t
theorem run_max4I {k : IntKind} {l m n j : Int} (ho : o.op = .call { callee := .builtin .max, args := #[x, y, z, u], argTypes := #[T, T, T, T] }) (hx : a.eval x = .int k l) (hy : a.eval y = .int k m) (hz : a.eval z = .int k n) (hu : a.eval u = .int k j) :
    (execOp a.eval o).run P w = .ok (.value (.int k (let s := if m > l then m else l; let s := if n > s then n else s; if j > s then j else s))) w := by
  have hrun : (Builtin.max_ #[T, T, T, T] o.type #[.int k l, .int k m, .int k n, .int k j]).run P w = .ok (.int k (let s := if m > l then m else l; let s := if n > s then n else s; if j > s then j else s)) w := by
    simp [Builtin.max_, Builtin.max2]
  simp [execOp, ho, resolve, invoke, builtin, hx, hy, hz, hu, hrun, Result.andThen]
def kMax4 (p q r t : Nat) : Nat := max (max (max p q) r) t
theorem run_max4K {p q r t : Nat} (ho : o.op = .call { callee := .builtin .max, args := #[x, y, z, u], argTypes := #[T, T, T, T] }) (hx : a.eval x = .int .i64 (p : Int)) (hy : a.eval y = .int .i64 (q : Int)) (hz : a.eval z = .int .i64 (r : Int)) (hu : a.eval u = .int .i64 (t : Int)) (w : World) : (execOp a.eval o).run P w = .ok (.value (.int .i64 (kMax4 p q r t : Int))) w := by
  rw [run_max4I ho hx hy hz hu]
  have h : ∀ m n : Nat, (if (n : Int) > (m : Int) then (n : Int) else (m : Int)) = ((max m n : Nat) : Int) := fun m n => by split <;> omega
  simp only [h]; rfl
end
section
variable {P : Program} {ops : Array Oper} {Q : Exit → Act → World → Prop} {md : Region.Mode} {S : World → Prop}
/-- An operation that reads is taken first; where it writes is told. -/
theorem held_take {i : Nat} {oi : Oper} {v : Value} {d : Option Tmp} {fuel : Nat} {listed : Array Bool} {a : Act} {w : World} (hi : ops[i]? = some oi) (hd : oi.dst = d)
    (hs : Region.noSelect ops = true) (hf : Region.free md ops listed i = true) (hr : (Region.ready md ops listed).contains i = true)
    (hQ : ∀ c a w, Q (.panic c) (a.put d v) w → Q (.panic c) a w) (hy : YieldsIf P ops S oi v a) (hS : S w)
    (h : wpAnyH P md ops Q S fuel (listed.setIfInBounds i true) (a.put d v) w) : wpAnyH P md ops Q S (fuel + 1) listed a w := by
  subst hd
  exact wpAnyH_take hi hs hf hr hQ hy hS h
theorem wpl_setN {rest : List Oper} {o : Oper} {a : Act} {w : World} (hg : o.guard = none) (hd : o.dst = none) (ty : TypeId) (x y : Operand) (ho : o.op = .store ty x y) (b k : Nat) (hx : a.eval x = .pointer (some ⟨b, k, none⟩)) (v : Value) (hy : a.eval y = v)
    (hi : (P.info? ty).map (·.size) = some 1) (hv : v.cells = #[v]) (h1 : v.oneCell' = true) (T n : Nat) (f : Nat → Value) (hh : Has w b T n f) (hk : k < n)
    (h : ∀ w1, Touch b w w1 → Has w1 b T n (upd f k v) → wpList P ops Q rest a w1) : wpList P ops Q (o :: rest) a w := by
  refine wpl_set hg ty x y ho b k hx v hy hi hv h1 T n f hh hk fun w1 t h' => ?_
  rw [hd]
  exact h w1 t h'
end
theorem post_rrb {fn : Func} {R : Ending → World → Prop} {p q u : Tmp} {T T2 : TypeId} {a : Act} {w : World} (hr : fn.results = #[.cell p T, .cell q T2, .tmp u]) (b c : Nat) (hp : a.tmps.getD p undef = .pointer (some ⟨b, 0, none⟩)) (hq : a.tmps.getD q undef = .pointer (some ⟨c, 0, none⟩))
    {r s : Rn} (hh : Has w b T 6 (rC r)) (hk : Has w c T2 6 (rC s)) (hu : ∃ d, Tryd.prog.underlying T = some d ∧ d.isRow = true) (hu2 : ∃ d, Tryd.prog.underlying T2 = some d ∧ d.isRow = true) (hi : (Tryd.prog.info? T).map (·.size) = some 6) (hi2 : (Tryd.prog.info? T2).map (·.size) = some 6) {x : Value} (hx : a.tmps.getD u undef = x)
    (hdef : a.defers = []) (hR : R (.returned (.tuple #[rV r, rV s, x])) w) : bodyPost Tryd.prog fn R .ret a w := by
  obtain ⟨d, h1, h2⟩ := hu
  obtain ⟨d2, g1, g2⟩ := hu2
  refine bodyPost_ret (v := .tuple #[rV r, rV s, x]) ?_ hdef hR
  have hld := run_loadVar_row (P := Tryd.prog) w b T T (cellsOf (rC r) 6) (0, 0) d hh h1 (by cases d <;> simp_all) (by rw [hi, size_cellsOf])
  have hld2 := run_loadVar_row (P := Tryd.prog) w c T2 T2 (cellsOf (rC s) 6) (0, 0) d2 hk g1 (by cases d2 <;> simp_all) (by rw [hi2, size_cellsOf])
  have hres : (results fn a.tmps).run Tryd.prog w = ((asAddr (a.tmps.getD p undef)).run Tryd.prog w).andThen fun a1 w1 => ((loadVar T a1).run Tryd.prog w1).andThen fun v w2 => ((asAddr (a.tmps.getD q undef)).run Tryd.prog w2).andThen fun a3 w3 => ((loadVar T2 a3).run Tryd.prog w3).andThen fun v4 w4 => .ok (.tuple #[v, v4, a.tmps.getD u undef]) w4 := by
    simp only [results, hr]
    simp [Sem.run_bind, Result.andThen]
  rw [hres, hp, hq, hx]
  simp [asAddr, hld, hld2, rV]
end Go.Proofs.YtbbfdehipgkjmaaDoor
