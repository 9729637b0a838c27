/- Words of 32 bits beside those of 64; shifts with a sign; less than nought. -/
import Derived.Test.YtkljnpdojmcipaaNme
namespace Go.Proofs.Ytkljnpdojmcipaa
open Go Go.RowKit
theorem undU32 : Try.prog.underlying 57 = some (.int .u32) := by kernel_rfl
theorem undI32 : Try.prog.underlying 21 = some (.int .i32) := by kernel_rfl
theorem undI64 : Try.prog.underlying 2 = some (.int .i64) := by kernel_rfl
/-- The lower half. -/
def lo32 (x : W) : W := x % 4294967296#64
theorem qn_lo32 (x : W) : qn (lo32 x) = qn x % 4294967296 := by
  unfold qn lo32; rw [BitVec.toNat_umod]; rfl
theorem lo32_lt (x : W) : qn (lo32 x) < 4294967296 := by rw [qn_lo32]; have := qn_lo x; omega
/-- A word of 32 bits, by one of 64 that is small. -/
def Hv (x : W) : Value := .int .u32 (qn x)
theorem wrap_h (z : Int) : IntKind.u32.wrap z = qn (lo32 (BitVec.ofInt 64 z)) := by
  rw [qn_lo32, qn_ofInt]
  have : IntKind.u32.wrap z = z % 4294967296 := by simp [IntKind.wrap, IntKind.signed, IntKind.bits]
  rw [this]; omega
section
variable {P : Program} {a : Act} {o : Oper}
theorem run_uh {src dst : TypeId} {x : Operand} (ho : o.op = .convert src dst x) {k : IntKind} {p : W} (hs : P.underlying src = some (.int k)) (hd : P.underlying dst = some (.int .u32)) (hx : a.eval x = Q p) (w : World) : (execOp a.eval o).run P w = .ok (.value (Hv (lo32 p))) w := by
  rw [run_conv ho hs hd hx w, wrap_h, ofInt_qn]; rfl
theorem run_hu {src dst : TypeId} {x : Operand} (ho : o.op = .convert src dst x) {k : IntKind} {p : W} (hs : P.underlying src = some (.int k)) (hd : P.underlying dst = some (.int .u64)) (hx : a.eval x = Hv p) (w : World) : (execOp a.eval o).run P w = .ok (.value (Q p)) w := by
  rw [run_conv ho hs hd hx w, wrap_u, ofInt_qn]; rfl
theorem run_neg {T : TypeId} {x : Operand} (ho : o.op = .unOp .neg T x) {p : W} (hx : a.eval x = Q p) (w : World) : (execOp a.eval o).run P w = .ok (.value (Q (-p))) w := by
  have e : IntKind.u64.wrap (0 - qn p) = qn (-p) := by rw [show 0 - qn p = -(qn p) from by omega, wrap_u, BitVec.ofInt_neg, ofInt_qn]
  unfold execOp
  simp only [ho, hx]
  unfold Q
  rw [← e]
  simp only [Op.unary, Sem.run_bind]
  rfl
end
section
variable {P : Program} (T : TypeId) (p q : W)
theorem bin_hrem (hq : q ≠ 0#64) : BinRun P .rem T (Hv p) (Hv q) (Hv (p % q)) := binRun_of fun w => by
  show (Op.intDiv .rem .u32 (qn p) (qn q)).run P w = _
  have h0 : ¬ qn q = 0 := fun h => hq (qn_inj (h.trans (by rfl)))
  have e : (qn p).tmod (qn q) = qn (p % q) := by
    rw [Int.tmod_eq_emod_of_nonneg (qn_lo p)]
    unfold qn; rw [BitVec.toNat_umod]; rfl
  unfold Op.intDiv Hv
  rw [if_neg h0, ← e]; rfl
theorem bin_hshl (hq : q.toNat < 32) : BinRun P .shl T (Hv p) (Hv q) (Hv (lo32 (p <<< q.toNat))) := binRun_of fun w => by
  show (Op.shift .shl .u32 (qn p) .u32 (qn q)).run P w = _
  have h1 := qn_lo q
  have e : IntKind.u32.wrap (qn p * 2 ^ (min (qn q).toNat 32)) = qn (lo32 (p <<< q.toNat)) := by
    have e1 : (qn q).toNat = q.toNat := rfl
    rw [wrap_h, e1, Nat.min_eq_left (by omega)]
    congr 2
    have := shl_qn p q.toNat
    rw [Nat.min_eq_left (by omega), wrap_u] at this
    exact qn_inj this
  unfold Op.shift Hv
  rw [if_neg (by omega), ← e]; rfl
theorem bin_hshr (hq : q.toNat < 32) : BinRun P .shr T (Hv p) (Hv q) (Hv (p >>> q.toNat)) := binRun_of fun w => by
  show (Op.shift .shr .u32 (qn p) .u32 (qn q)).run P w = _
  have h1 := qn_lo q
  have e : (qn p).fdiv (2 ^ (min (qn q).toNat 32)) = qn (p >>> q.toNat) := by
    have e1 : (qn q).toNat = q.toNat := rfl
    have := shr_qn p q.toNat
    rw [Nat.min_eq_left (by omega)] at this
    rw [e1, Nat.min_eq_left (by omega)]; exact this
  unfold Op.shift Hv
  rw [if_neg (by omega), ← e]; rfl
theorem fdiv_pow (z : Int) (n : Nat) : z.fdiv (2 ^ n) = z >>> n := by
  rw [Int.shiftRight_eq_div_pow, Int.fdiv_eq_ediv_of_nonneg _ (by exact_mod_cast Nat.zero_le (2 ^ n))]
  norm_cast
theorem bin_sshr (hq : q.toNat < 64) : BinRun P .shr T (S p) (Q q) (S (p.sshiftRight q.toNat)) := binRun_of fun w => by
  show (Op.shift .shr .i64 (sn p) .u64 (qn q)).run P w = _
  have h1 := qn_lo q
  have e : (sn p).fdiv (2 ^ (min (qn q).toNat 64)) = sn (p.sshiftRight q.toNat) := by
    have e1 : (qn q).toNat = q.toNat := rfl
    rw [e1, Nat.min_eq_left (by omega), fdiv_pow]
    unfold sn; rw [BitVec.toInt_sshiftRight]
  unfold Op.shift S
  rw [if_neg (by omega), ← e]; rfl
/-- 32 bits, with a sign. -/
def s32 (x : W) : BitVec 32 := x.setWidth 32
def Jv (y : BitVec 32) : Value := .int .i32 y.toInt
theorem wrap_j (z : Int) : IntKind.i32.wrap z = (BitVec.ofInt 32 z).toInt := by
  rw [BitVec.toInt_ofInt]
  have e : IntKind.i32.wrap z = if 2147483648 ≤ z % 4294967296 then z % 4294967296 - 4294967296 else z % 4294967296 := by
    simp [IntKind.wrap, IntKind.signed, IntKind.bits]
  rw [e, Int.bmod_def]
  rw [show ((2 ^ 32 : Nat) : Int) = 4294967296 from rfl, show ((4294967296 : Int) + 1) / 2 = 2147483648 from by decide]
  split <;> split <;> omega
end
theorem toNat_s32 (x : W) : (s32 (lo32 x)).toNat = (lo32 x).toNat := by
  unfold s32
  rw [BitVec.toNat_setWidth]
  have := lo32_lt x
  unfold qn at this
  omega
section
variable {P : Program} {a : Act} {o : Oper}
theorem run_hj {src dst : TypeId} {x : Operand} (ho : o.op = .convert src dst x) {k : IntKind} {p : W} (hs : P.underlying src = some (.int k)) (hd : P.underlying dst = some (.int .i32)) (hx : a.eval x = Hv p) (w : World) : (execOp a.eval o).run P w = .ok (.value (Jv (s32 p))) w := by
  rw [run_conv ho hs hd hx w, wrap_j]
  have e : BitVec.ofInt 32 (qn p) = s32 p := by
    apply BitVec.eq_of_toNat_eq
    unfold s32 qn
    rw [BitVec.toNat_ofInt, BitVec.toNat_setWidth]
    omega
  rw [e]; rfl
theorem run_jh {src dst : TypeId} {x : Operand} (ho : o.op = .convert src dst x) {k : IntKind} {p : BitVec 32} (hs : P.underlying src = some (.int k)) (hd : P.underlying dst = some (.int .u32)) (hx : a.eval x = Jv p) (w : World) : (execOp a.eval o).run P w = .ok (.value (Hv (p.setWidth 64))) w := by
  rw [run_conv ho hs hd hx w]
  have e : IntKind.u32.wrap p.toInt = qn (p.setWidth 64) := by
    have e1 : IntKind.u32.wrap p.toInt = p.toInt % 4294967296 := by simp [IntKind.wrap, IntKind.signed, IntKind.bits]
    rw [e1]
    unfold qn
    rw [BitVec.toNat_setWidth, BitVec.toInt_eq_toNat_cond]
    have := p.isLt
    split <;> omega
  rw [e]; rfl
end
theorem bin_jshr {P : Program} (T : TypeId) (p : BitVec 32) (q : W) (hq : q.toNat < 32) : BinRun P .shr T (Jv p) (Hv q) (Jv (p.sshiftRight q.toNat)) := binRun_of fun w => by
  show (Op.shift .shr .i32 p.toInt .u32 (qn q)).run P w = _
  have h1 := qn_lo q
  have e : (p.toInt).fdiv (2 ^ (min (qn q).toNat 32)) = (p.sshiftRight q.toNat).toInt := by
    have e1 : (qn q).toNat = q.toNat := rfl
    rw [e1, Nat.min_eq_left (by omega), fdiv_pow, BitVec.toInt_sshiftRight]
  unfold Op.shift Jv
  rw [if_neg (by omega), ← e]; rfl
theorem h_lt32 (y : W) : (y % 32#64).toNat < 32 := by rw [BitVec.toNat_umod]; exact Nat.mod_lt _ (by decide)
end Go.Proofs.Ytkljnpdojmcipaa
