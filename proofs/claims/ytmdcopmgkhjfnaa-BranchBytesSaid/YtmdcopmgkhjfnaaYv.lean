/- Bytes among words; the lowest byte of a range. -/
import Derived.Test.YtmdcopmgkhjfnaaSlo
namespace Go.Proofs.Ytmdcopmgkhjfnaa
open Go Go.RowKit
theorem undY : Try.prog.underlying 5 = some (.int .u8) := by kernel_rfl
/-- A byte, by a word that is small. -/
def Yv (x : W) : Value := .int .u8 (qn x)
section
variable {P : Program} {a : Act} {o : Oper}
theorem run_yu {src dst : TypeId} {x : Operand} (ho : o.op = .convert src dst x) {k : IntKind} {p : W} (hs : P.underlying src = some (.int k)) (hd : P.underlying dst = some (.int .u64)) (hx : a.eval x = Yv p) (w : World) : (execOp a.eval o).run P w = .ok (.value (Q p)) w := by
  rw [run_conv ho hs hd hx w, wrap_u, ofInt_qn]; rfl
end
theorem wrap_y (z : Int) : IntKind.u8.wrap z = z % 256 := by simp [IntKind.wrap, IntKind.signed, IntKind.bits]
section
variable {P : Program} (T : TypeId)
theorem bin_yand (p q : W) (hq : q.toNat < 256) (hp : p.toNat < 256) : BinRun P .and T (Yv p) (Yv q) (Yv (p &&& q)) := binRun_of fun w => by
  have e : IntKind.u8.wrap (((BitVec.ofInt 8 (qn p) &&& BitVec.ofInt 8 (qn q)).toNat : Nat) : Int) = qn (p &&& q) := by
    rw [wrap_y]
    unfold qn
    rw [BitVec.toNat_and, BitVec.toNat_and, BitVec.toNat_ofInt, BitVec.toNat_ofInt]
    have e1 : ((p.toNat : Int) % ((2 ^ 8 : Nat) : Int)).toNat = p.toNat := by omega
    have e2 : ((q.toNat : Int) % ((2 ^ 8 : Nat) : Int)).toNat = q.toNat := by omega
    rw [e1, e2]
    have : p.toNat &&& q.toNat ≤ p.toNat := Nat.and_le_left
    omega
  unfold Yv
  rw [← e]; rfl
theorem bin_yrem (p q : W) (hq : q ≠ 0#64) (hp : p.toNat < 256) : BinRun P .rem T (Yv p) (Yv q) (Yv (p % q)) := binRun_of fun w => by
  show (Op.intDiv .rem .u8 (qn p) (qn q)).run P w = _
  have h0 : ¬ qn q = 0 := fun h => hq (qn_inj (h.trans (by rfl)))
  have e : (qn p).tmod (qn q) = qn (p % q) := by
    rw [Int.tmod_eq_emod_of_nonneg (qn_lo p)]
    unfold qn; rw [BitVec.toNat_umod]; rfl
  unfold Op.intDiv Yv
  rw [if_neg h0, ← e]; rfl
end
theorem byte_same {x : W} (h : x.toNat < 256) : x &&& 255#64 = x := by
  apply qn_inj; rw [(byte_parts x).1]; unfold qn; omega
theorem byte_in {x : W} (h : x.toNat < 256) : In (lowR1 (obR tAny)) x := by
  have := lowR1_in (any_in x)
  rwa [byte_same h] at this
theorem bin_yneq0 {P : Program} (T : TypeId) (p : W) : BinRun P .neq T (Yv p) (.int .u8 0) (.bool (p != 0#64)) := by
  intro ρ o x y ty w ho hx hy
  have e : (qn p != 0) = (p != 0#64) := by
    rw [Bool.eq_iff_iff, bne_iff_ne, bne_iff_ne]
    constructor
    · intro h e; subst e; exact h rfl
    · intro h e; exact h (qn_inj e)
  unfold execOp
  rw [← e]
  unfold Yv at hx
  simp only [ho, hx, hy]
  go_simp
theorem and_y {x y : W} (h : x.toNat < 256) : (x &&& y).toNat < 256 := by
  rw [BitVec.toNat_and]; exact Nat.lt_of_le_of_lt Nat.and_le_left h
end Go.Proofs.Ytmdcopmgkhjfnaa
