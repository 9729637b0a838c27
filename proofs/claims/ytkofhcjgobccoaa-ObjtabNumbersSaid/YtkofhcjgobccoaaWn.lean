/- Words of 64 bits, with and without a sign, as the walk spells them; laws of operations on them. Nothing of the program. Plain: numbers of which some bits are known (layer 13), by words of 64 bits; what is made of them, and what the document tells, bit by bit. Nothing of the program. Plain: sums, differences and products of numbers of which some bits are known: by what is carried. Nothing of the program. Plain: what does not hang on the order, and what is less known of one leaves no more known of both. Nothing of the program. -/
import Derived.Test.YtkofhcjgobccoaaBase
import Derived.Laws.BitsAllLaws
namespace Go.Proofs.Ytkofhcjgobccoaa
open Go Go.RowKit
abbrev W := BitVec 64
def qn (x : W) : Int := (x.toNat : Int)
def sn (x : W) : Int := x.toInt
theorem qn_lo (x : W) : 0 ≤ qn x := by unfold qn; omega
theorem qn_hi (x : W) : qn x < 18446744073709551616 := by unfold qn; have := x.isLt; omega
theorem qn_inj {x y : W} (h : qn x = qn y) : x = y := by unfold qn at h; exact BitVec.eq_of_toNat_eq (by omega)
theorem sn_def (x : W) : sn x = if qn x < 9223372036854775808 then qn x else qn x - 18446744073709551616 := by
  unfold sn qn
  rw [BitVec.toInt_eq_toNat_cond]
  have := x.isLt
  split <;> split <;> omega
theorem qn_ofInt (x : Int) : qn (BitVec.ofInt 64 x) = x % 18446744073709551616 := by
  unfold qn; rw [BitVec.toNat_ofInt]; omega
theorem sn_ofInt (x : Int) : sn (BitVec.ofInt 64 x) = if x % 18446744073709551616 < 9223372036854775808 then x % 18446744073709551616 else x % 18446744073709551616 - 18446744073709551616 := by
  rw [sn_def, qn_ofInt]
theorem wrap_u (x : Int) : IntKind.u64.wrap x = qn (BitVec.ofInt 64 x) := by
  rw [qn_ofInt]; simp [IntKind.wrap, IntKind.signed, IntKind.bits]
theorem wrap_s (x : Int) : IntKind.i64.wrap x = sn (BitVec.ofInt 64 x) := by
  rw [sn_ofInt]
  have e : IntKind.i64.wrap x = if 9223372036854775808 ≤ x % 18446744073709551616 then x % 18446744073709551616 - 18446744073709551616 else x % 18446744073709551616 := by
    simp [IntKind.wrap, IntKind.signed, IntKind.bits]
  rw [e]
  split <;> split <;> omega
theorem ofInt_qn (x : W) : BitVec.ofInt 64 (qn x) = x := by
  apply qn_inj; rw [qn_ofInt]; have := qn_lo x; have := qn_hi x; omega
def Q (x : W) : Value := .int .u64 (qn x)
def S (x : W) : Value := .int .i64 (sn x)
/-- What a binary operation of two values runs to, in whatever world. -/
def BinRun (P : Program) (op : BinOp) (T : TypeId) (u v r : Value) : Prop :=
  ∀ (ρ : Operand → Value) (o : Oper) (x y : Operand) (ty : TypeId) (w : World), o.op = .binOp op T x y ty → ρ x = u → ρ y = v → (execOp ρ o).run P w = .ok (.value r) w
theorem binRun_of {P : Program} {op : BinOp} {T : TypeId} {k k2 : IntKind} {a b : Int} {r : Value} (h : ∀ w, (binOp op T (.int k a) (.int k2 b)).run P w = .ok r w) : BinRun P op T (.int k a) (.int k2 b) r := by
  intro ρ o x y ty w ho hx hy
  unfold execOp
  simp only [ho, hx, hy, Sem.run_bind, h]
  have : (eqGuard op T x y (.int k a) (.int k2 b)).run P w = .ok () w := by
    unfold eqGuard
    cases op <;> rfl
  simp only [this, Result.andThen_ok, h, Sem.run_pure]
section
variable {P : Program} (T : TypeId) (p q : W)
end
section laws
variable {P : Program} {ops : Array Oper} {rest : List Oper} {o : Oper} {a : Act} {w : World} {R : Exit → Act → World → Prop}
theorem wpl_b (hgd : o.guard = none) {op : BinOp} {T ty : TypeId} {x y : Operand} (ho : o.op = .binOp op T x y ty) {u v r : Value} (hb : BinRun P op T u v r) (hx : a.eval x = u) (hy : a.eval y = v)
    (h : wpList P ops R rest (a.put o.dst r) w) : wpList P ops R (o :: rest) a w :=
  wpl_run hgd r w (hb _ o x y ty w ho hx hy) h
end laws
end Go.Proofs.Ytkofhcjgobccoaa
namespace Go.Proofs.Ytkofhcjgobccoaa
open Go
structure Nm where
  v : W
  m : W
namespace Nm
end Nm
end Go.Proofs.Ytkofhcjgobccoaa
namespace Go.Proofs.Ytkofhcjgobccoaa
open Go
end Go.Proofs.Ytkofhcjgobccoaa
namespace Go.Proofs.Ytkofhcjgobccoaa
open Go
end Go.Proofs.Ytkofhcjgobccoaa
