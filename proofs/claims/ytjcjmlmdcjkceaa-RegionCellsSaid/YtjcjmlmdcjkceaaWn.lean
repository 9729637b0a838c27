/- Words of 64 bits, with and without a sign, as the walk spells them; laws of operations on them. Nothing of the program. Plain: numbers of which some bits are known (layer 13), by words of 64 bits; what is made of them, and what the document tells, bit by bit. Nothing of the program. Plain: sums, differences and products of numbers of which some bits are known: by what is carried. Nothing of the program. Plain: what does not hang on the order, and what is less known of one leaves no more known of both. Nothing of the program. -/
import Derived.Test.YtjcjmlmdcjkceaaBase
import Derived.Laws.BitsAllLaws
namespace Go.Proofs.Ytjcjmlmdcjkceaa
open Go Go.RowKit
abbrev W := BitVec 64
def qn (x : W) : Int := (x.toNat : Int)
def sn (x : W) : Int := x.toInt
theorem qn_lo (x : W) : 0 ≤ qn x := by unfold qn; omega
theorem qn_hi (x : W) : qn x < 18446744073709551616 := by unfold qn; have := x.isLt; omega
theorem qn_inj {x y : W} (h : qn x = qn y) : x = y := by unfold qn at h; exact BitVec.eq_of_toNat_eq (by omega)
theorem sn_def (x : W) : sn x = if qn x < 9223372036854775808 then qn x else qn x - 18446744073709551616 := by
  unfold sn qn
  rw [BitVec.toInt_eq_toNat_cond]
  have := x.isLt
  split <;> split <;> omega
theorem sn_lo (x : W) : -9223372036854775808 ≤ sn x := by rw [sn_def]; have := qn_lo x; have := qn_hi x; split <;> omega
theorem sn_hi (x : W) : sn x < 9223372036854775808 := by rw [sn_def]; have := qn_lo x; have := qn_hi x; split <;> omega
theorem qn_ofInt (x : Int) : qn (BitVec.ofInt 64 x) = x % 18446744073709551616 := by
  unfold qn; rw [BitVec.toNat_ofInt]; omega
theorem sn_ofInt (x : Int) : sn (BitVec.ofInt 64 x) = if x % 18446744073709551616 < 9223372036854775808 then x % 18446744073709551616 else x % 18446744073709551616 - 18446744073709551616 := by
  rw [sn_def, qn_ofInt]
theorem wrap_u (x : Int) : IntKind.u64.wrap x = qn (BitVec.ofInt 64 x) := by
  rw [qn_ofInt]; simp [IntKind.wrap, IntKind.signed, IntKind.bits]
theorem wrap_s (x : Int) : IntKind.i64.wrap x = sn (BitVec.ofInt 64 x) := by
  rw [sn_ofInt]
  have e : IntKind.i64.wrap x = if 9223372036854775808 ≤ x % 18446744073709551616 then x % 18446744073709551616 - 18446744073709551616 else x % 18446744073709551616 := by
    simp [IntKind.wrap, IntKind.signed, IntKind.bits]
  rw [e]
  split <;> split <;> omega
theorem ofInt_qn (x : W) : BitVec.ofInt 64 (qn x) = x := by
  apply qn_inj; rw [qn_ofInt]; have := qn_lo x; have := qn_hi x; omega
def Q (x : W) : Value := .int .u64 (qn x)
def S (x : W) : Value := .int .i64 (sn x)
/-- What a binary operation of two values runs to, in whatever world. -/
def BinRun (P : Program) (op : BinOp) (T : TypeId) (u v r : Value) : Prop :=
  ∀ (ρ : Operand → Value) (o : Oper) (x y : Operand) (ty : TypeId) (w : World), o.op = .binOp op T x y ty → ρ x = u → ρ y = v → (execOp ρ o).run P w = .ok (.value r) w
theorem binRun_of {P : Program} {op : BinOp} {T : TypeId} {k k2 : IntKind} {a b : Int} {r : Value} (h : ∀ w, (binOp op T (.int k a) (.int k2 b)).run P w = .ok r w) : BinRun P op T (.int k a) (.int k2 b) r := by
  intro ρ o x y ty w ho hx hy
  unfold execOp
  simp only [ho, hx, hy, Sem.run_bind, h]
  have : (eqGuard op T x y (.int k a) (.int k2 b)).run P w = .ok () w := by
    unfold eqGuard
    cases op <;> rfl
  simp only [this, Result.andThen_ok, h, Sem.run_pure]
section
variable {P : Program} (T : TypeId) (p q : W)
theorem bin_or : BinRun P .or T (Q p) (Q q) (Q (p ||| q)) := binRun_of fun w => by
  have e : bits .or .u64 (qn p) (qn q) = qn (p ||| q) := by unfold qn; rw [BitVec.toNat_or]; exact u64_or_nat _ _ p.isLt q.isLt
  unfold Q; rw [← e]; rfl
theorem qn_beq : (qn p == qn q) = (p == q) := by
  rw [Bool.eq_iff_iff, beq_iff_eq, beq_iff_eq]; exact ⟨qn_inj, fun h => by rw [h]⟩
/-- Shifts, by a count that isn't below nought. -/
theorem shl_qn (n : Nat) : IntKind.u64.wrap (qn p * 2 ^ (min n 64)) = qn (p <<< n) := by
  rw [wrap_u]
  congr 1
  apply BitVec.eq_of_toNat_eq
  rw [BitVec.toNat_shiftLeft, Nat.shiftLeft_eq, BitVec.toNat_ofInt]
  unfold qn
  by_cases h : n ≤ 64
  · rw [Nat.min_eq_left h]; norm_cast
  · rw [Nat.min_eq_right (by omega)]
    obtain ⟨d, rfl⟩ : ∃ d, n = 64 + d := ⟨n - 64, by omega⟩
    rw [Nat.pow_add, ← Nat.mul_assoc, Nat.mul_right_comm]
    have h1 : ((p.toNat : Int) * 2 ^ 64 % ((2 ^ 64 : Nat) : Int)) = 0 := by omega
    have h2 : p.toNat * 2 ^ d * 2 ^ 64 % 2 ^ 64 = 0 := by omega
    omega
theorem shr_qn (n : Nat) : (qn p).fdiv (2 ^ (min n 64)) = qn (p >>> n) := by
  have e : (qn p).fdiv (2 ^ (min n 64)) = qn p / 2 ^ (min n 64) := Int.fdiv_eq_ediv_of_nonneg _ (by exact_mod_cast Nat.zero_le (2 ^ (min n 64)))
  rw [e]
  unfold qn
  rw [BitVec.toNat_ushiftRight, Nat.shiftRight_eq_div_pow]
  by_cases h : n ≤ 64
  · rw [Nat.min_eq_left h]; norm_cast
  · rw [Nat.min_eq_right (by omega)]
    have h1 : p.toNat / 2 ^ n = 0 := Nat.div_eq_of_lt (Nat.lt_of_lt_of_le p.isLt (Nat.pow_le_pow_right (by omega) (by omega)))
    have := p.isLt
    rw [h1]; omega
theorem bin_shl (n : Nat) : BinRun P .shl T (Q p) (.int .i64 (n : Int)) (Q (p <<< n)) := binRun_of fun w => by
  show (Op.shift .shl .u64 (qn p) .i64 (n : Int)).run P w = _
  unfold Op.shift Q
  rw [if_neg (by omega), ← shl_qn p n]; rfl
theorem bin_shr (n : Nat) : BinRun P .shr T (Q p) (.int .i64 (n : Int)) (Q (p >>> n)) := binRun_of fun w => by
  show (Op.shift .shr .u64 (qn p) .i64 (n : Int)).run P w = _
  unfold Op.shift Q
  rw [if_neg (by omega), ← shr_qn p n]; rfl
theorem bin_shlu : BinRun P .shl T (Q p) (Q q) (Q (p <<< q.toNat)) := binRun_of fun w => by
  show (Op.shift .shl .u64 (qn p) .u64 (qn q)).run P w = _
  have := qn_lo q
  unfold Op.shift Q
  rw [if_neg (by omega), ← shl_qn p q.toNat]; rfl
end
section laws
variable {P : Program} {ops : Array Oper} {rest : List Oper} {o : Oper} {a : Act} {w : World} {R : Exit → Act → World → Prop}
theorem wpl_b (hgd : o.guard = none) {op : BinOp} {T ty : TypeId} {x y : Operand} (ho : o.op = .binOp op T x y ty) {u v r : Value} (hb : BinRun P op T u v r) (hx : a.eval x = u) (hy : a.eval y = v)
    (h : wpList P ops R rest (a.put o.dst r) w) : wpList P ops R (o :: rest) a w :=
  wpl_run hgd r w (hb _ o x y ty w ho hx hy) h
end laws
end Go.Proofs.Ytjcjmlmdcjkceaa
namespace Go.Proofs.Ytjcjmlmdcjkceaa
open Go
structure Nm where
  v : W
  m : W
namespace Nm
def beq (a b : Nm) : Bool := a.v == b.v && a.m == b.m
theorem ext' {a b : Nm} (h1 : a.v = b.v) (h2 : a.m = b.m) : a = b := by
  obtain ⟨v, m⟩ := a; obtain ⟨v', m'⟩ := b
  subst h1; subst h2; rfl
end Nm
end Go.Proofs.Ytjcjmlmdcjkceaa
namespace Go.Proofs.Ytjcjmlmdcjkceaa
open Go
end Go.Proofs.Ytjcjmlmdcjkceaa
namespace Go.Proofs.Ytjcjmlmdcjkceaa
open Go
end Go.Proofs.Ytjcjmlmdcjkceaa
