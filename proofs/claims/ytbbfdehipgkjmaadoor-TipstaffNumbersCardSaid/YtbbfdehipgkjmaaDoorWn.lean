/- Words of 64 bits, with and without a sign, as the walk spells them; laws of operations on them. Nothing of the program. Plain: numbers of which some bits are known (layer 13), by words of 64 bits; what is made of them, and what the document tells, bit by bit. Nothing of the program. Plain: sums, differences and products of numbers of which some bits are known: by what is carried. Nothing of the program. Plain: what does not hang on the order, and what is less known of one leaves no more known of both. Nothing of the program. -/
import Derived.Test.YtbbfdehipgkjmaaDoorBase
import Derived.Laws.BitsAllLaws
namespace Go.Proofs.YtbbfdehipgkjmaaDoor
open Go Go.RowKit
abbrev W := BitVec 64
def qn (x : W) : Int := (x.toNat : Int)
def sn (x : W) : Int := x.toInt
theorem qn_lo (x : W) : 0 ≤ qn x := by unfold qn; omega
theorem qn_hi (x : W) : qn x < 18446744073709551616 := by unfold qn; have := x.isLt; omega
theorem qn_inj {x y : W} (h : qn x = qn y) : x = y := by unfold qn at h; exact BitVec.eq_of_toNat_eq (by omega)
theorem sn_inj {x y : W} (h : sn x = sn y) : x = y := BitVec.eq_of_toInt_eq h
theorem sn_def (x : W) : sn x = if qn x < 9223372036854775808 then qn x else qn x - 18446744073709551616 := by
  unfold sn qn
  rw [BitVec.toInt_eq_toNat_cond]
  have := x.isLt
  split <;> split <;> omega
theorem sn_lo (x : W) : -9223372036854775808 ≤ sn x := by rw [sn_def]; have := qn_lo x; have := qn_hi x; split <;> omega
theorem sn_hi (x : W) : sn x < 9223372036854775808 := by rw [sn_def]; have := qn_lo x; have := qn_hi x; split <;> omega
theorem qn_ofInt (x : Int) : qn (BitVec.ofInt 64 x) = x % 18446744073709551616 := by
  unfold qn; rw [BitVec.toNat_ofInt]; omega
theorem sn_ofInt (x : Int) : sn (BitVec.ofInt 64 x) = if x % 18446744073709551616 < 9223372036854775808 then x % 18446744073709551616 else x % 18446744073709551616 - 18446744073709551616 := by
  rw [sn_def, qn_ofInt]
theorem wrap_u (x : Int) : IntKind.u64.wrap x = qn (BitVec.ofInt 64 x) := by
  rw [qn_ofInt]; simp [IntKind.wrap, IntKind.signed, IntKind.bits]
theorem wrap_s (x : Int) : IntKind.i64.wrap x = sn (BitVec.ofInt 64 x) := by
  rw [sn_ofInt]
  have e : IntKind.i64.wrap x = if 9223372036854775808 ≤ x % 18446744073709551616 then x % 18446744073709551616 - 18446744073709551616 else x % 18446744073709551616 := by
    simp [IntKind.wrap, IntKind.signed, IntKind.bits]
  rw [e]
  split <;> split <;> omega
theorem ofInt_qn (x : W) : BitVec.ofInt 64 (qn x) = x := by
  apply qn_inj; rw [qn_ofInt]; have := qn_lo x; have := qn_hi x; omega
theorem ofInt_sn (x : W) : BitVec.ofInt 64 (sn x) = x := BitVec.ofInt_toInt
def Q (x : W) : Value := .int .u64 (qn x)
def S (x : W) : Value := .int .i64 (sn x)
/-- What a binary operation of two values runs to, in whatever world. -/
def BinRun (P : Program) (op : BinOp) (T : TypeId) (u v r : Value) : Prop :=
  ∀ (ρ : Operand → Value) (o : Oper) (x y : Operand) (ty : TypeId) (w : World), o.op = .binOp op T x y ty → ρ x = u → ρ y = v → (execOp ρ o).run P w = .ok (.value r) w
theorem binRun_of {P : Program} {op : BinOp} {T : TypeId} {k k2 : IntKind} {a b : Int} {r : Value} (h : ∀ w, (binOp op T (.int k a) (.int k2 b)).run P w = .ok r w) : BinRun P op T (.int k a) (.int k2 b) r := by
  intro ρ o x y ty w ho hx hy
  unfold execOp
  simp only [ho, hx, hy, Sem.run_bind, h]
  have : (eqGuard op T x y (.int k a) (.int k2 b)).run P w = .ok () w := by
    unfold eqGuard
    cases op <;> rfl
  simp only [this, Result.andThen_ok, h, Sem.run_pure]
section
variable {P : Program} (T : TypeId) (p q : W)
theorem bin_add : BinRun P .add T (Q p) (Q q) (Q (p + q)) := binRun_of fun w => by
  show (Op.intArith .add .u64 (qn p) (qn q)).run P w = _
  have e : IntKind.u64.wrap (qn p + qn q) = qn (p + q) := by rw [wrap_u, BitVec.ofInt_add, ofInt_qn, ofInt_qn]
  unfold Q; rw [← e]; rfl
theorem bin_sub : BinRun P .sub T (Q p) (Q q) (Q (p - q)) := binRun_of fun w => by
  show (Op.intArith .sub .u64 (qn p) (qn q)).run P w = _
  have e : IntKind.u64.wrap (qn p - qn q) = qn (p - q) := by
    rw [wrap_u]; congr 1; rw [show qn p - qn q = qn p + -(qn q) from by omega, BitVec.ofInt_add, BitVec.ofInt_neg, ofInt_qn, ofInt_qn, BitVec.sub_eq_add_neg]
  unfold Q; rw [← e]; rfl
theorem bin_mul : BinRun P .mul T (Q p) (Q q) (Q (p * q)) := binRun_of fun w => by
  show (Op.intArith .mul .u64 (qn p) (qn q)).run P w = _
  have e : IntKind.u64.wrap (qn p * qn q) = qn (p * q) := by rw [wrap_u, BitVec.ofInt_mul, ofInt_qn, ofInt_qn]
  unfold Q; rw [← e]; rfl
theorem bin_and : BinRun P .and T (Q p) (Q q) (Q (p &&& q)) := binRun_of fun w => by
  have e : bits .and .u64 (qn p) (qn q) = qn (p &&& q) := by unfold qn; rw [BitVec.toNat_and]; exact u64_and_nat _ _ p.isLt q.isLt
  unfold Q; rw [← e]; rfl
theorem bin_or : BinRun P .or T (Q p) (Q q) (Q (p ||| q)) := binRun_of fun w => by
  have e : bits .or .u64 (qn p) (qn q) = qn (p ||| q) := by unfold qn; rw [BitVec.toNat_or]; exact u64_or_nat _ _ p.isLt q.isLt
  unfold Q; rw [← e]; rfl
theorem bin_xor : BinRun P .xor T (Q p) (Q q) (Q (p ^^^ q)) := binRun_of fun w => by
  have e : bits .xor .u64 (qn p) (qn q) = qn (p ^^^ q) := by unfold qn; rw [BitVec.toNat_xor]; exact u64_xor_nat _ _ p.isLt q.isLt
  unfold Q; rw [← e]; rfl
theorem bin_andn : BinRun P .andNot T (Q p) (Q q) (Q (p &&& ~~~q)) := binRun_of fun w => by
  have e : bits .andNot .u64 (qn p) (qn q) = qn (p &&& ~~~q) := by unfold qn; rw [BitVec.toNat_and, BitVec.toNat_not]; exact u64_andNot_nat _ _ p.isLt q.isLt
  unfold Q; rw [← e]; rfl
theorem qn_beq : (qn p == qn q) = (p == q) := by
  rw [Bool.eq_iff_iff, beq_iff_eq, beq_iff_eq]; exact ⟨qn_inj, fun h => by rw [h]⟩
theorem sn_beq : (sn p == sn q) = (p == q) := by
  rw [Bool.eq_iff_iff, beq_iff_eq, beq_iff_eq]; exact ⟨sn_inj, fun h => by rw [h]⟩
theorem bin_eql : BinRun P .eql T (Q p) (Q q) (.bool (p == q)) := binRun_of fun w => by
  rw [← qn_beq]; rfl
theorem bin_neq : BinRun P .neq T (Q p) (Q q) (.bool (p != q)) := binRun_of fun w => by
  rw [bne, ← qn_beq]; rfl
theorem bin_lss : BinRun P .lss T (Q p) (Q q) (.bool (p.ult q)) := binRun_of fun w => by
  have e : p.ult q = decide (qn p < qn q) := by unfold BitVec.ult qn; simp
  rw [e]; rfl
theorem bin_leq : BinRun P .leq T (Q p) (Q q) (.bool (p.ule q)) := binRun_of fun w => by
  have e : p.ule q = decide (qn p ≤ qn q) := by unfold BitVec.ule qn; simp
  rw [e]; rfl
theorem bin_gtr : BinRun P .gtr T (Q p) (Q q) (.bool (q.ult p)) := binRun_of fun w => by
  have e : q.ult p = decide (qn p > qn q) := by unfold BitVec.ult qn; simp
  rw [e]; rfl
theorem bin_geq : BinRun P .geq T (Q p) (Q q) (.bool (q.ule p)) := binRun_of fun w => by
  have e : q.ule p = decide (qn p ≥ qn q) := by unfold BitVec.ule qn; simp
  rw [e]; rfl
theorem bin_sadd : BinRun P .add T (S p) (S q) (S (p + q)) := binRun_of fun w => by
  show (Op.intArith .add .i64 (sn p) (sn q)).run P w = _
  have e : IntKind.i64.wrap (sn p + sn q) = sn (p + q) := by rw [wrap_s, BitVec.ofInt_add, ofInt_sn, ofInt_sn]
  unfold S; rw [← e]; rfl
theorem bin_ssub : BinRun P .sub T (S p) (S q) (S (p - q)) := binRun_of fun w => by
  show (Op.intArith .sub .i64 (sn p) (sn q)).run P w = _
  have e : IntKind.i64.wrap (sn p - sn q) = sn (p - q) := by
    rw [wrap_s]; congr 1; rw [show sn p - sn q = sn p + -(sn q) from by omega, BitVec.ofInt_add, BitVec.ofInt_neg, ofInt_sn, ofInt_sn, BitVec.sub_eq_add_neg]
  unfold S; rw [← e]; rfl
theorem bin_seql : BinRun P .eql T (S p) (S q) (.bool (p == q)) := binRun_of fun w => by
  rw [← sn_beq]; rfl
theorem bin_slss : BinRun P .lss T (S p) (S q) (.bool (p.slt q)) := binRun_of fun w => by
  have e : p.slt q = decide (sn p < sn q) := rfl
  rw [e]; rfl
theorem bin_sleq : BinRun P .leq T (S p) (S q) (.bool (p.sle q)) := binRun_of fun w => by
  have e : p.sle q = decide (sn p ≤ sn q) := rfl
  rw [e]; rfl
theorem bin_sgtr : BinRun P .gtr T (S p) (S q) (.bool (q.slt p)) := binRun_of fun w => by
  have e : q.slt p = decide (sn p > sn q) := rfl
  rw [e]; rfl
theorem bin_sgeq : BinRun P .geq T (S p) (S q) (.bool (q.sle p)) := binRun_of fun w => by
  have e : q.sle p = decide (sn p ≥ sn q) := rfl
  rw [e]; rfl
/-- Shifts, by a count that isn't below nought. -/
theorem shl_qn (n : Nat) : IntKind.u64.wrap (qn p * 2 ^ (min n 64)) = qn (p <<< n) := by
  rw [wrap_u]
  congr 1
  apply BitVec.eq_of_toNat_eq
  rw [BitVec.toNat_shiftLeft, Nat.shiftLeft_eq, BitVec.toNat_ofInt]
  unfold qn
  by_cases h : n ≤ 64
  · rw [Nat.min_eq_left h]; norm_cast
  · rw [Nat.min_eq_right (by omega)]
    obtain ⟨d, rfl⟩ : ∃ d, n = 64 + d := ⟨n - 64, by omega⟩
    rw [Nat.pow_add, ← Nat.mul_assoc, Nat.mul_right_comm]
    have h1 : ((p.toNat : Int) * 2 ^ 64 % ((2 ^ 64 : Nat) : Int)) = 0 := by omega
    have h2 : p.toNat * 2 ^ d * 2 ^ 64 % 2 ^ 64 = 0 := by omega
    omega
theorem shr_qn (n : Nat) : (qn p).fdiv (2 ^ (min n 64)) = qn (p >>> n) := by
  have e : (qn p).fdiv (2 ^ (min n 64)) = qn p / 2 ^ (min n 64) := Int.fdiv_eq_ediv_of_nonneg _ (by exact_mod_cast Nat.zero_le (2 ^ (min n 64)))
  rw [e]
  unfold qn
  rw [BitVec.toNat_ushiftRight, Nat.shiftRight_eq_div_pow]
  by_cases h : n ≤ 64
  · rw [Nat.min_eq_left h]; norm_cast
  · rw [Nat.min_eq_right (by omega)]
    have h1 : p.toNat / 2 ^ n = 0 := Nat.div_eq_of_lt (Nat.lt_of_lt_of_le p.isLt (Nat.pow_le_pow_right (by omega) (by omega)))
    have := p.isLt
    rw [h1]; omega
theorem bin_shl (n : Nat) : BinRun P .shl T (Q p) (.int .i64 (n : Int)) (Q (p <<< n)) := binRun_of fun w => by
  show (Op.shift .shl .u64 (qn p) .i64 (n : Int)).run P w = _
  unfold Op.shift Q
  rw [if_neg (by omega), ← shl_qn p n]; rfl
theorem bin_shr (n : Nat) : BinRun P .shr T (Q p) (.int .i64 (n : Int)) (Q (p >>> n)) := binRun_of fun w => by
  show (Op.shift .shr .u64 (qn p) .i64 (n : Int)).run P w = _
  unfold Op.shift Q
  rw [if_neg (by omega), ← shr_qn p n]; rfl
theorem bin_shlu : BinRun P .shl T (Q p) (Q q) (Q (p <<< q.toNat)) := binRun_of fun w => by
  show (Op.shift .shl .u64 (qn p) .u64 (qn q)).run P w = _
  have := qn_lo q
  unfold Op.shift Q
  rw [if_neg (by omega), ← shl_qn p q.toNat]; rfl
theorem bin_shru : BinRun P .shr T (Q p) (Q q) (Q (p >>> q.toNat)) := binRun_of fun w => by
  show (Op.shift .shr .u64 (qn p) .u64 (qn q)).run P w = _
  have := qn_lo q
  unfold Op.shift Q
  rw [if_neg (by omega), ← shr_qn p q.toNat]; rfl
end
section laws
variable {P : Program} {ops : Array Oper} {rest : List Oper} {o : Oper} {a : Act} {w : World} {R : Exit → Act → World → Prop}
theorem wpl_b (hgd : o.guard = none) {op : BinOp} {T ty : TypeId} {x y : Operand} (ho : o.op = .binOp op T x y ty) {u v r : Value} (hb : BinRun P op T u v r) (hx : a.eval x = u) (hy : a.eval y = v)
    (h : wpList P ops R rest (a.put o.dst r) w) : wpList P ops R (o :: rest) a w :=
  wpl_run hgd r w (hb _ o x y ty w ho hx hy) h
end laws
end Go.Proofs.YtbbfdehipgkjmaaDoor
namespace Go.Proofs.YtbbfdehipgkjmaaDoor
open Go
structure Nm where
  v : W
  m : W
namespace Nm
theorem ext' {a b : Nm} (h1 : a.v = b.v) (h2 : a.m = b.m) : a = b := by
  obtain ⟨v, m⟩ := a; obtain ⟨v', m'⟩ := b
  subst h1; subst h2; rfl
end Nm
def rightN (a : Nm) : Nm := ⟨a.v &&& ~~~a.m, a.m⟩
def tConst (x : W) : Nm := ⟨x, 0#64⟩
def tAny : Nm := ⟨0#64, BitVec.allOnes 64⟩
def tRight (a : Nm) : Bool := a.v &&& a.m == 0#64
def tHas (a : Nm) (x : W) : Bool := x &&& ~~~a.m == a.v
def tWithin (a b : Nm) : Bool := !tRight a || (a.m &&& ~~~b.m == 0#64 && tHas b a.v)
def tKnown (x u : W) : Nm := ⟨x &&& ~~~u, u⟩
def tAdd (a b : Nm) : Nm := tKnown (a.v + b.v) (a.m ||| b.m ||| ((a.v + b.v) ^^^ (a.v + b.v + a.m + b.m)))
def tSub (a b : Nm) : Nm := tKnown (a.v - b.v) (a.m ||| b.m ||| ((a.v - b.v - b.m) ^^^ (a.v - b.v + a.m)))
def tAnd (a b : Nm) : Nm := ⟨a.v &&& b.v, (a.v ||| a.m) &&& (b.v ||| b.m) &&& ~~~(a.v &&& b.v)⟩
def tOr (a b : Nm) : Nm := ⟨a.v ||| b.v, (a.m ||| b.m) &&& ~~~(a.v ||| b.v)⟩
def tXor (a b : Nm) : Nm := tKnown (a.v ^^^ b.v) (a.m ||| b.m)
def tLeft (a : Nm) (k : Nat) : Nm := ⟨a.v <<< k, a.m <<< k⟩
def tDown (a : Nm) (k : Nat) : Nm := ⟨a.v >>> k, a.m >>> k⟩
def tJoin (a b : Nm) : Nm := tKnown a.v (a.m ||| b.m ||| (a.v ^^^ b.v))
def tMeet (a b : Nm) : Nm × Bool := if !tRight a || !tRight b || (a.v ^^^ b.v) &&& ~~~(a.m ||| b.m) != 0#64 then (⟨0#64, 0#64⟩, false) else (⟨a.v ||| b.v, a.m &&& b.m⟩, true)
/-- One round of the product. -/
def tMulStep (a b p : Nm) (n : Nat) : Nm :=
  if a.m &&& (1#64 <<< n) != 0#64 then tJoin p (tAdd p (tLeft b n)) else if a.v &&& (1#64 <<< n) != 0#64 then tAdd p (tLeft b n) else p
def tMulN (a b : Nm) : Nat → Nm
  | 0 => tConst 0#64
  | n + 1 => tMulStep a b (tMulN a b n) n
def tMul (a b : Nm) : Nm := tMulN a b 64
/-- The document's bits: may it be 0, may it be 1? -/
def rBits (a : Nm) (i : Nat) : Bool × Bool := if a.m.getLsbD i then (true, true) else (!a.v.getLsbD i, a.v.getLsbD i)
def rSet (o : Nm) (i : Nat) (y : Bool × Bool) : Nm := if y.1 && y.2 then ⟨o.v, o.m ||| 1#64 <<< i⟩ else if y.2 then ⟨o.v ||| 1#64 <<< i, o.m⟩ else o
def rN (y : Nat → Bool × Bool) : Nat → Nm
  | 0 => ⟨0#64, 0#64⟩
  | n + 1 => rSet (rN y n) n (y n)
def Rgt (a : Nm) : Prop := a.v &&& a.m = 0#64
theorem Rgt.bit {a : Nm} (h : Rgt a) (i : Nat) : ¬ (a.v.getLsbD i = true ∧ a.m.getLsbD i = true) := by
  intro ⟨h1, h2⟩
  have := congrArg (fun z => z.getLsbD i) h
  simp [h1, h2] at this
theorem rgt_of {a : Nm} (h : ∀ i, i < 64 → ¬ (a.v.getLsbD i = true ∧ a.m.getLsbD i = true)) : Rgt a := by
  apply BitVec.eq_of_getLsbD_eq; intro i hi
  have := h i hi
  rw [BitVec.getLsbD_and]
  cases h1 : a.v.getLsbD i <;> cases h2 : a.m.getLsbD i <;> simp_all
theorem tRight_iff {a : Nm} : tRight a = true ↔ Rgt a := by unfold tRight Rgt; exact beq_iff_eq
theorem rightN_rgt (a : Nm) : Rgt (rightN a) := rgt_of fun i hi => by
  unfold rightN
  simp only [BitVec.getLsbD_and, BitVec.getLsbD_not, hi, decide_true, Bool.true_and]
  cases a.m.getLsbD i <;> simp
theorem known_rgt (x u : W) : Rgt (tKnown x u) := rightN_rgt ⟨x, u⟩
theorem has_iff {a : Nm} {x : W} : tHas a x = true ↔ ∀ i, i < 64 → a.v.getLsbD i = (x.getLsbD i && !a.m.getLsbD i) := by
  unfold tHas
  rw [beq_iff_eq]
  constructor
  · intro h i hi
    rw [← h]; simp [hi]
  · intro h
    apply BitVec.eq_of_getLsbD_eq; intro i hi
    rw [h i hi]; simp [hi]
theorem has_known {x y u : W} : tHas (tKnown y u) x = true ↔ ∀ i, i < 64 → u.getLsbD i = false → x.getLsbD i = y.getLsbD i := by
  rw [has_iff]
  unfold tKnown
  constructor
  · intro h i hi hu
    have := h i hi
    simp only [BitVec.getLsbD_and, BitVec.getLsbD_not, hi, hu, decide_true, Bool.true_and, Bool.not_false, Bool.and_true] at this
    exact this.symm
  · intro h i hi
    cases hu : u.getLsbD i
    · simp only [BitVec.getLsbD_and, BitVec.getLsbD_not, hi, hu, decide_true, Bool.true_and, Bool.not_false, Bool.and_true]; exact (h i hi hu).symm
    · simp only [BitVec.getLsbD_and, BitVec.getLsbD_not, hi, hu, decide_true, Bool.true_and, Bool.not_true, Bool.and_false]
end Go.Proofs.YtbbfdehipgkjmaaDoor
namespace Go.Proofs.YtbbfdehipgkjmaaDoor
open Go
/-- Bit by bit, no more. -/
def Sub (x y : W) : Prop := ∀ i, x.getLsbD i = true → y.getLsbD i = true
theorem carry_mono {x y x' y' : W} {c c' : Bool} (hx : Sub x x') (hy : Sub y y') (hc : c = true → c' = true) : ∀ i, BitVec.carry i x y c = true → BitVec.carry i x' y' c' = true
  | 0, h => by
    rw [BitVec.carry_zero] at h ⊢; exact hc h
  | i + 1, h => by
    rw [BitVec.carry_succ] at h ⊢
    have h1 := carry_mono hx hy hc i
    have h2 := hx i
    have h3 := hy i
    generalize BitVec.carry i x y c = k at *
    generalize BitVec.carry i x' y' c' = k' at *
    generalize x.getLsbD i = e at *
    generalize x'.getLsbD i = e' at *
    generalize y.getLsbD i = f at *
    generalize y'.getLsbD i = f' at *
    revert h h1 h2 h3
    cases e <;> cases f <;> cases k <;> cases e' <;> cases f' <;> cases k' <;> decide
theorem bit_add (x y : W) (i : Nat) (hi : i < 64) : (x + y).getLsbD i = (x.getLsbD i ^^ (y.getLsbD i ^^ BitVec.carry i x y false)) := BitVec.getLsbD_add hi x y
theorem sub_as (x y : W) : x - y = x + ~~~y + BitVec.setWidth 64 (BitVec.ofBool true) := by
  rw [BitVec.sub_eq_add_neg, BitVec.neg_eq_not_add, ← BitVec.add_assoc]; rfl
theorem bit_sub (x y : W) (i : Nat) (hi : i < 64) : (x - y).getLsbD i = (x.getLsbD i ^^ (!y.getLsbD i ^^ BitVec.carry i x (~~~y) true)) := by
  rw [sub_as, BitVec.getLsbD_add_add_bool hi, BitVec.getLsbD_not]; simp [hi]
def hiN (a : Nm) : W := a.v ||| a.m
theorem Rgt.sum {a : Nm} (h : Rgt a) : a.v + a.m = hiN a := BitVec.add_eq_or_of_and_eq_zero _ _ h
theorem greatest_eq {a b : Nm} (ha : Rgt a) (hb : Rgt b) : a.v + b.v + a.m + b.m = hiN a + hiN b := by
  rw [← ha.sum, ← hb.sum]; ac_rfl
theorem sub_hi (a : Nm) : Sub a.v (hiN a) := fun i h => by unfold hiN; simp [h]
theorem not_sub {x y : W} (h : Sub x y) : Sub (~~~y) (~~~x) := fun i hi => by
  have := h i
  rw [BitVec.getLsbD_not] at hi ⊢
  simp only [Bool.and_eq_true, decide_eq_true_eq, Bool.not_eq_true'] at hi ⊢
  refine ⟨hi.1, ?_⟩
  cases hx : x.getLsbD i
  · rfl
  · rw [this hx] at hi; exact absurd hi.2 (by simp)
theorem sless_eq {a b : Nm} (hb : Rgt b) : a.v - b.v - b.m = a.v - hiN b := by
  rw [← hb.sum, BitVec.sub_sub]
theorem smore_eq {a b : Nm} (ha : Rgt a) : a.v - b.v + a.m = hiN a - b.v := by
  rw [← ha.sum]; simp only [BitVec.sub_eq_add_neg]; ac_rfl
/-- A number of known bits lies between. -/
theorem has_sub {a : Nm} {x : W} (h : tHas a x = true) : Sub a.v x ∧ Sub x (hiN a) := by
  rw [has_iff] at h
  constructor
  · intro i hv
    have hi : i < 64 := by
      apply Decidable.byContradiction; intro hc
      rw [BitVec.getLsbD_of_ge _ _ (by omega)] at hv; cases hv
    have := h i hi
    rw [hv] at this
    cases hx : x.getLsbD i
    · rw [hx] at this; cases this
    · rfl
  · intro i hx
    have hi : i < 64 := by
      apply Decidable.byContradiction; intro hc
      rw [BitVec.getLsbD_of_ge _ _ (by omega)] at hx; cases hx
    have := h i hi
    rw [hx] at this
    unfold hiN
    cases hm : a.m.getLsbD i <;> simp [hm, this]
theorem has_bit {a : Nm} {x : W} (h : tHas a x = true) (i : Nat) (hi : i < 64) (hm : a.m.getLsbD i = false) : x.getLsbD i = a.v.getLsbD i := by
  have := has_iff.1 h i hi
  rw [hm] at this; simp at this; exact this.symm
theorem has_rgt {a : Nm} {x : W} (h : tHas a x = true) : Rgt a := rgt_of fun i hi ⟨h1, h2⟩ => by
  have := has_iff.1 h i hi
  rw [h1, h2] at this; simp at this
theorem add_has {a b : Nm} {x y : W} (hx : tHas a x = true) (hy : tHas b y = true) : tHas (tAdd a b) (x + y) = true := by
  unfold tAdd
  rw [has_known, greatest_eq (has_rgt hx) (has_rgt hy)]
  intro i hi hu
  simp only [BitVec.getLsbD_or, BitVec.getLsbD_xor, bit_add _ _ i hi, Bool.or_eq_false_iff] at hu ⊢
  obtain ⟨⟨h1, h2⟩, h3⟩ := hu
  rw [has_bit hx i hi h1, has_bit hy i hi h2]
  have e1 : (hiN a).getLsbD i = a.v.getLsbD i := by unfold hiN; simp [h1]
  have e2 : (hiN b).getLsbD i = b.v.getLsbD i := by unfold hiN; simp [h2]
  rw [e1, e2] at h3
  have m1 := carry_mono (has_sub hx).1 (has_sub hy).1 (c := false) (c' := false) (fun h => h) i
  have m2 := carry_mono (has_sub hx).2 (has_sub hy).2 (c := false) (c' := false) (fun h => h) i
  generalize BitVec.carry i a.v b.v false = k1 at *
  generalize BitVec.carry i x y false = k2 at *
  generalize BitVec.carry i (hiN a) (hiN b) false = k3 at *
  generalize a.v.getLsbD i = p at *
  generalize b.v.getLsbD i = q at *
  clear e1 e2 h1 h2 hx hy hi
  revert h3 m1 m2
  cases p <;> cases q <;> cases k1 <;> cases k2 <;> cases k3 <;> decide
theorem sub_has {a b : Nm} {x y : W} (hx : tHas a x = true) (hy : tHas b y = true) : tHas (tSub a b) (x - y) = true := by
  unfold tSub
  rw [has_known, sless_eq (has_rgt hy), smore_eq (has_rgt hx)]
  intro i hi hu
  simp only [BitVec.getLsbD_or, BitVec.getLsbD_xor, bit_sub _ _ i hi, Bool.or_eq_false_iff] at hu ⊢
  obtain ⟨⟨h1, h2⟩, h3⟩ := hu
  rw [has_bit hx i hi h1, has_bit hy i hi h2]
  have e1 : (hiN a).getLsbD i = a.v.getLsbD i := by unfold hiN; simp [h1]
  have e2 : (hiN b).getLsbD i = b.v.getLsbD i := by unfold hiN; simp [h2]
  rw [e1, e2] at h3
  have m1 := carry_mono (has_sub hx).1 (not_sub (has_sub hy).2) (c := true) (c' := true) (fun h => h) i
  have m2 := carry_mono (has_sub hx).2 (not_sub (has_sub hy).1) (c := true) (c' := true) (fun h => h) i
  have n1 := carry_mono (x := a.v) (x' := a.v) (fun _ h => h) (not_sub (sub_hi b)) (c := true) (c' := true) (fun h => h) i
  have n2 := carry_mono (sub_hi a) (y := ~~~b.v) (y' := ~~~b.v) (fun _ h => h) (c := true) (c' := true) (fun h => h) i
  generalize BitVec.carry i a.v (~~~(hiN b)) true = k1 at *
  generalize BitVec.carry i x (~~~y) true = k2 at *
  generalize BitVec.carry i (hiN a) (~~~b.v) true = k3 at *
  generalize BitVec.carry i a.v (~~~b.v) true = k4 at *
  generalize a.v.getLsbD i = p at *
  generalize b.v.getLsbD i = q at *
  clear e1 e2 h1 h2 hx hy hi
  revert h3 m1 m2 n1 n2
  cases p <;> cases q <;> cases k1 <;> cases k2 <;> cases k3 <;> cases k4 <;> decide
theorem and_has {a b : Nm} {x y : W} (hx : tHas a x = true) (hy : tHas b y = true) : tHas (tAnd a b) (x &&& y) = true := by
  rw [has_iff] at *
  intro i hi
  have h1 := hx i hi
  have h2 := hy i hi
  unfold tAnd
  simp only [BitVec.getLsbD_and, BitVec.getLsbD_or, BitVec.getLsbD_not, hi, decide_true, Bool.true_and]
  rw [h1, h2]
  cases x.getLsbD i <;> cases y.getLsbD i <;> cases a.m.getLsbD i <;> cases b.m.getLsbD i <;> rfl
theorem join_has_l {a b : Nm} {x : W} (hx : tHas a x = true) (hb : Rgt b) : tHas (tJoin a b) x = true := by
  rw [has_iff] at *
  intro i hi
  have h1 := hx i hi
  have h2 := hb.bit i
  unfold tJoin tKnown
  simp only [BitVec.getLsbD_and, BitVec.getLsbD_or, BitVec.getLsbD_xor, BitVec.getLsbD_not, hi, decide_true, Bool.true_and]
  rw [h1]
  cases x.getLsbD i <;> cases a.m.getLsbD i <;> cases b.m.getLsbD i <;> cases b.v.getLsbD i <;> rfl
theorem join_has_r {a b : Nm} {x : W} (hx : tHas b x = true) (ha : Rgt a) : tHas (tJoin a b) x = true := by
  rw [has_iff] at *
  intro i hi
  have h1 := hx i hi
  have h2 := ha.bit i
  unfold tJoin tKnown
  simp only [BitVec.getLsbD_and, BitVec.getLsbD_or, BitVec.getLsbD_xor, BitVec.getLsbD_not, hi, decide_true, Bool.true_and]
  rw [h1]
  revert h2
  cases x.getLsbD i <;> cases a.m.getLsbD i <;> cases b.m.getLsbD i <;> cases a.v.getLsbD i <;> decide
theorem left_has {a : Nm} {x : W} (hx : tHas a x = true) (k : Nat) : tHas (tLeft a k) (x <<< k) = true := by
  rw [has_iff] at *
  intro i hi
  unfold tLeft
  simp only [BitVec.getLsbD_shiftLeft, hi, decide_true, Bool.true_and]
  by_cases h : i < k
  · simp [h]
  · simp only [h, decide_false, Bool.not_false, Bool.true_and]
    exact hx (i - k) (by omega)
theorem const_has (x : W) : tHas (tConst x) x = true := by rw [has_iff]; intro i hi; simp [tConst]
theorem any_has (x : W) : tHas tAny x = true := by rw [has_iff]; intro i hi; simp only [tAny, BitVec.getLsbD_zero, BitVec.getLsbD_allOnes, hi, decide_true, Bool.not_true, Bool.and_false]
end Go.Proofs.YtbbfdehipgkjmaaDoor
namespace Go.Proofs.YtbbfdehipgkjmaaDoor
open Go
theorem within_bits {A B : Nm} (hB : Rgt B) (h : ∀ i, i < 64 → (A.m.getLsbD i = true → B.m.getLsbD i = true) ∧ (B.m.getLsbD i = false → A.v.getLsbD i = B.v.getLsbD i)) : tWithin A B = true := by
  have h1 : A.m &&& ~~~B.m = 0#64 := by
    apply BitVec.eq_of_getLsbD_eq; intro i hi
    have := (h i hi).1
    simp only [BitVec.getLsbD_and, BitVec.getLsbD_not, hi, decide_true, Bool.true_and, BitVec.getLsbD_zero]
    revert this
    cases A.m.getLsbD i <;> cases B.m.getLsbD i <;> simp
  have h2 : tHas B A.v = true := by
    rw [has_iff]; intro i hi
    have h3 := (h i hi).2
    have h4 := hB.bit i
    revert h3 h4
    cases A.v.getLsbD i <;> cases B.v.getLsbD i <;> cases B.m.getLsbD i <;> simp
  unfold tWithin
  rw [h1, h2]; simp
end Go.Proofs.YtbbfdehipgkjmaaDoor
