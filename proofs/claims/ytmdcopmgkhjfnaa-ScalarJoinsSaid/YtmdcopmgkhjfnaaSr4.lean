/- Plain: the lower bytes, and what is settled, by what is told. -/
import Derived.Test.YtmdcopmgkhjfnaaSr3
import Derived.Test.YtmdcopmgkhjfnaaSlo
namespace Go.Proofs.Ytmdcopmgkhjfnaa
open Go Go.RowKit
theorem nar_lo {s r : Rn} (h : Nar s r) : BitVec.ult s.lo r.lo = false := by rw [ult_qn, decide_eq_false_iff_not]; have := h.lo; omega
theorem nar_hi {s r : Rn} (h : Nar s r) : BitVec.ult r.hi s.hi = false := by rw [ult_qn, decide_eq_false_iff_not]; have := h.hi; omega
theorem nar_sl {s r : Rn} (h : Nar s r) : BitVec.slt s.sl r.sl = false := by rw [slt_sn, decide_eq_false_iff_not]; have := h.sl; omega
theorem nar_sh {s r : Rn} (h : Nar s r) : BitVec.slt r.sh s.sh = false := by rw [slt_sn, decide_eq_false_iff_not]; have := h.sh; omega
theorem low_1 {a : Rn} {x : W} (h : In a x) : sHas (lowR1 a) (x % (1#64 <<< 8)) = true := by
 have e : x % (1#64 <<< 8) = x &&& 255#64 := by
  apply qn_inj; rw [(byte_parts x).1]; unfold qn; rw [BitVec.toNat_umod]; rfl
 rw [e]; exact (lowR1_in h).has
theorem low_2 {a : Rn} {x : W} (h : In a x) : sHas (lowR2 a) (x % (1#64 <<< 16)) = true := by
 have e : x % (1#64 <<< 16) = x &&& 65535#64 := by
  apply qn_inj; rw [(word_parts x).1]; unfold qn; rw [BitVec.toNat_umod]; rfl
 rw [e]; exact (lowR2_in h).has
theorem low_4 {a : Rn} {x : W} (h : In a x) : sHas (lowR4 a) (x % (1#64 <<< 32)) = true := (lowR4_in h).has
end Go.Proofs.Ytmdcopmgkhjfnaa
