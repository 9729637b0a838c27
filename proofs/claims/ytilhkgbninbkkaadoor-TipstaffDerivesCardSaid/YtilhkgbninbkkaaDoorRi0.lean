/- Plain: rights as four rows of bits and two signs. Nothing of the program. -/
import Derived.Test.YtilhkgbninbkkaaDoorOb0
import Derived.Laws.BitsAllLaws
namespace Go.Proofs.YtilhkgbninbkkaaDoor
open Go
/-- Rights: bits of commands, programs, maps, helpers; privileged, signed. -/
structure Rg where
  c : BitVec 16
  p : BitVec 16
  m : BitVec 16
  h : BitVec 16
  v : Bool
  s : Bool
def Rg.beq (a b : Rg) : Bool := a.c == b.c && a.p == b.p && a.m == b.m && a.h == b.h && a.v == b.v && a.s == b.s
theorem Rg.beq_iff (a b : Rg) : a.beq b = true ↔ a = b := by
  obtain ⟨a1, a2, a3, a4, a5, a6⟩ := a
  obtain ⟨b1, b2, b3, b4, b5, b6⟩ := b
  simp only [Rg.beq, Bool.and_eq_true, beq_iff_eq, Rg.mk.injEq]
  constructor
  · rintro ⟨⟨⟨⟨⟨h1, h2⟩, h3⟩, h4⟩, h5⟩, h6⟩; exact ⟨h1, h2, h3, h4, h5, h6⟩
  · rintro ⟨h1, h2, h3, h4, h5, h6⟩; exact ⟨⟨⟨⟨⟨h1, h2⟩, h3⟩, h4⟩, h5⟩, h6⟩
def u6 (x : BitVec 16) : Int := (x.toNat : Int)
theorem u6_lo (x : BitVec 16) : 0 ≤ u6 x := by unfold u6; omega
theorem u6_hi (x : BitVec 16) : u6 x < 65536 := by unfold u6; have := x.isLt; omega
theorem u6_inj {x y : BitVec 16} (h : u6 x = u6 y) : x = y := by unfold u6 at h; exact BitVec.eq_of_toNat_eq (by omega)
def Wd (x : BitVec 16) : Value := .int .u16 (u6 x)
theorem and_u6 (a b : BitVec 16) : bits .and .u16 (u6 a) (u6 b) = u6 (a &&& b) := by
  unfold u6; rw [BitVec.toNat_and]; exact u16_and_nat _ _ a.isLt b.isLt
theorem andNot_u6 (a b : BitVec 16) : bits .andNot .u16 (u6 a) (u6 b) = u6 (a &&& ~~~b) := by
  unfold u6; rw [BitVec.toNat_and, BitVec.toNat_not]
  have := u16_andNot_nat _ _ a.isLt b.isLt
  exact this
theorem u6_beq (a b : BitVec 16) : (u6 a == u6 b) = (a == b) := by
  rw [Bool.eq_iff_iff, beq_iff_eq, beq_iff_eq]; exact ⟨u6_inj, fun h => by rw [h]⟩
theorem u6_zero (a : BitVec 16) : (u6 a == 0) = (a == 0#16) := by
  have := u6_beq a 0#16
  exact this
/-- The cells. -/
def rgC (r : Rg) : Nat → Value := fun j => if j = 0 then Wd r.c else if j = 1 then Wd r.p else if j = 2 then Wd r.m else if j = 3 then Wd r.h else if j = 4 then .bool r.v else .bool r.s
def rgV (r : Rg) : Value := .agg (cellsOf (rgC r) 6)
theorem rgC_one (r : Rg) (j : Nat) : (rgC r j).oneCell' = true := by
  unfold rgC Wd
  repeat' split
  all_goals rfl
def rgAll : Rg := ⟨255#16, 15#16, 63#16, 255#16, true, false⟩
def rgNone : Rg := ⟨0#16, 0#16, 0#16, 0#16, false, false⟩
def rWithin (a b : Rg) : Bool := a.c &&& ~~~b.c == 0#16 && a.p &&& ~~~b.p == 0#16 && a.m &&& ~~~b.m == 0#16 && a.h &&& ~~~b.h == 0#16 && (b.v || !a.v) && (a.s || !b.s)
def rCommon (a b : Rg) : Rg := ⟨a.c &&& b.c, a.p &&& b.p, a.m &&& b.m, a.h &&& b.h, a.v && b.v, a.s || b.s⟩
theorem sub_iff (a b : BitVec 16) : a &&& ~~~b = 0#16 ↔ a &&& b = a := by
  constructor
  · intro h
    apply BitVec.eq_of_getLsbD_eq
    intro i hi
    have := congrArg (fun x => x.getLsbD i) h
    simp only [BitVec.getLsbD_and, BitVec.getLsbD_not, hi, decide_true, Bool.true_and, BitVec.getLsbD_zero] at this ⊢
    cases h1 : a.getLsbD i <;> cases h2 : b.getLsbD i <;> simp_all
  · intro h
    apply BitVec.eq_of_getLsbD_eq
    intro i hi
    have := congrArg (fun x => x.getLsbD i) h
    simp only [BitVec.getLsbD_and, BitVec.getLsbD_not, hi, decide_true, Bool.true_and, BitVec.getLsbD_zero] at this ⊢
    cases h1 : a.getLsbD i <;> cases h2 : b.getLsbD i <;> simp_all
theorem sub_beq (a b : BitVec 16) : (a &&& ~~~b == 0#16) = (a &&& b == a) := by
  rw [Bool.eq_iff_iff, beq_iff_eq, beq_iff_eq]; exact sub_iff a b
theorem within_iff' (a b : Rg) : rWithin a b = true ↔ rCommon a b = a := by
  obtain ⟨a1, a2, a3, a4, a5, a6⟩ := a
  obtain ⟨b1, b2, b3, b4, b5, b6⟩ := b
  simp only [rWithin, rCommon, sub_beq, Bool.and_eq_true, beq_iff_eq, Rg.mk.injEq]
  have e5 : (b5 || !a5) = true ↔ (a5 && b5) = a5 := by cases a5 <;> cases b5 <;> simp
  have e6 : (a6 || !b6) = true ↔ (a6 || b6) = a6 := by cases a6 <;> cases b6 <;> simp
  rw [e5, e6]
  constructor
  · rintro ⟨⟨⟨⟨⟨h1, h2⟩, h3⟩, h4⟩, h5⟩, h6⟩; exact ⟨h1, h2, h3, h4, h5, h6⟩
  · rintro ⟨h1, h2, h3, h4, h5, h6⟩; exact ⟨⟨⟨⟨⟨h1, h2⟩, h3⟩, h4⟩, h5⟩, h6⟩
theorem common_assoc (a b c : Rg) : rCommon (rCommon a b) c = rCommon a (rCommon b c) := by
  simp only [rCommon, Rg.mk.injEq, Bool.and_assoc, Bool.or_assoc, BitVec.and_assoc, and_self]
theorem common_self (a : Rg) : rCommon a a = a := by
  obtain ⟨a1, a2, a3, a4, a5, a6⟩ := a
  simp [rCommon]
theorem within_common_r (a b : Rg) : rWithin (rCommon a b) b = true := (within_iff' _ _).2 (by rw [common_assoc, common_self])
theorem within_trans {a b c : Rg} (h1 : rWithin a b = true) (h2 : rWithin b c = true) : rWithin a c = true := by
  rw [within_iff'] at h1 h2 ⊢
  rw [← h1, common_assoc, h2]
end Go.Proofs.YtilhkgbninbkkaaDoor
