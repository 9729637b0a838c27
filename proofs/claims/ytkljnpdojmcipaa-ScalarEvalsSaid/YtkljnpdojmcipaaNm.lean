/- Plain: numbers of which some bits are known (layer 13), by words of 64 bits; what is made of them, and what the document tells, bit by bit. Nothing of the program. -/
import Derived.Test.YtkljnpdojmcipaaWd
namespace Go.Proofs.Ytkljnpdojmcipaa
open Go
structure Nm where
  v : W
  m : W
namespace Nm
def beq (a b : Nm) : Bool := a.v == b.v && a.m == b.m
theorem beq_iff {a b : Nm} : a.beq b = true ↔ a = b := by
  obtain ⟨v, m⟩ := a; obtain ⟨v', m'⟩ := b
  simp [beq]
theorem ext' {a b : Nm} (h1 : a.v = b.v) (h2 : a.m = b.m) : a = b := by
  obtain ⟨v, m⟩ := a; obtain ⟨v', m'⟩ := b
  subst h1; subst h2; rfl
end Nm
def rightN (a : Nm) : Nm := ⟨a.v &&& ~~~a.m, a.m⟩
def tConst (x : W) : Nm := ⟨x, 0#64⟩
def tAny : Nm := ⟨0#64, BitVec.allOnes 64⟩
def tRight (a : Nm) : Bool := a.v &&& a.m == 0#64
def tHas (a : Nm) (x : W) : Bool := x &&& ~~~a.m == a.v
def tWithin (a b : Nm) : Bool := !tRight a || (a.m &&& ~~~b.m == 0#64 && tHas b a.v)
def tKnown (x u : W) : Nm := ⟨x &&& ~~~u, u⟩
def tAdd (a b : Nm) : Nm := tKnown (a.v + b.v) (a.m ||| b.m ||| ((a.v + b.v) ^^^ (a.v + b.v + a.m + b.m)))
def tSub (a b : Nm) : Nm := tKnown (a.v - b.v) (a.m ||| b.m ||| ((a.v - b.v - b.m) ^^^ (a.v - b.v + a.m)))
def tAnd (a b : Nm) : Nm := ⟨a.v &&& b.v, (a.v ||| a.m) &&& (b.v ||| b.m) &&& ~~~(a.v &&& b.v)⟩
def tOr (a b : Nm) : Nm := ⟨a.v ||| b.v, (a.m ||| b.m) &&& ~~~(a.v ||| b.v)⟩
def tXor (a b : Nm) : Nm := tKnown (a.v ^^^ b.v) (a.m ||| b.m)
def tLeft (a : Nm) (k : Nat) : Nm := ⟨a.v <<< k, a.m <<< k⟩
def tDown (a : Nm) (k : Nat) : Nm := ⟨a.v >>> k, a.m >>> k⟩
def tJoin (a b : Nm) : Nm := tKnown a.v (a.m ||| b.m ||| (a.v ^^^ b.v))
def tMeet (a b : Nm) : Nm × Bool := if !tRight a || !tRight b || (a.v ^^^ b.v) &&& ~~~(a.m ||| b.m) != 0#64 then (⟨0#64, 0#64⟩, false) else (⟨a.v ||| b.v, a.m &&& b.m⟩, true)
def cutW (x : W) (n : Nat) : W := x &&& (BitVec.allOnes 64 >>> (64 - n))
/-- One round of the product. -/
def tMulStep (a b p : Nm) (n : Nat) : Nm :=
  if a.m &&& (1#64 <<< n) != 0#64 then tJoin p (tAdd p (tLeft b n)) else if a.v &&& (1#64 <<< n) != 0#64 then tAdd p (tLeft b n) else p
def tMulN (a b : Nm) : Nat → Nm
  | 0 => tConst 0#64
  | n + 1 => tMulStep a b (tMulN a b n) n
def tMul (a b : Nm) : Nm := tMulN a b 64
/-- The document's bits: may it be 0, may it be 1? -/
def rBits (a : Nm) (i : Nat) : Bool × Bool := if a.m.getLsbD i then (true, true) else (!a.v.getLsbD i, a.v.getLsbD i)
def rSet (o : Nm) (i : Nat) (y : Bool × Bool) : Nm := if y.1 && y.2 then ⟨o.v, o.m ||| 1#64 <<< i⟩ else if y.2 then ⟨o.v ||| 1#64 <<< i, o.m⟩ else o
def rN (y : Nat → Bool × Bool) : Nat → Nm
  | 0 => ⟨0#64, 0#64⟩
  | n + 1 => rSet (rN y n) n (y n)
theorem bit_shl (n i : Nat) (hi : i < 64) : (1#64 <<< n).getLsbD i = decide (i = n) := by
  rw [BitVec.getLsbD_shiftLeft]
  by_cases h : i < n
  · simp [h, show ¬ i = n from by omega]
  · by_cases e : i = n
    · subst e; simp [hi]
    · have : i - n ≠ 0 := by omega
      simp [h, e, hi, BitVec.getLsbD_one, this]
theorem bit_and (x : W) (n : Nat) (hn : n < 64) : (x &&& (1#64 <<< n) != 0#64) = x.getLsbD n := by
  rw [Bool.eq_iff_iff, bne_iff_ne]
  constructor
  · intro h
    apply Decidable.byContradiction
    intro hc
    apply h
    apply BitVec.eq_of_getLsbD_eq
    intro i hi
    rw [BitVec.getLsbD_and, bit_shl n i hi]
    by_cases e : i = n
    · subst e; simp at hc; simp [hc]
    · simp [e]
  · intro h e
    have := congrArg (fun z => z.getLsbD n) e
    simp [bit_shl n n hn, h] at this
theorem rN_bits (y : Nat → Bool × Bool) : ∀ (n i : Nat), n ≤ 64 → i < 64 → (rN y n).v.getLsbD i = (decide (i < n) && (y i).2 && !(y i).1) ∧ (rN y n).m.getLsbD i = (decide (i < n) && (y i).1 && (y i).2)
  | 0, i, _, _ => by simp [rN]
  | n + 1, i, hn, hi => by
    obtain ⟨h1, h2⟩ := rN_bits y n i (by omega) hi
    unfold rN rSet
    by_cases e : i = n
    · subst e
      cases p : (y i).1 <;> cases q : (y i).2 <;> simp_all [bit_shl]
    · have e' : decide (i < n + 1) = decide (i < n) := by
        by_cases h : i < n
        · simp [h]; omega
        · simp [h]; omega
      rw [e', ← h1, ← h2]
      cases p : (y n).1 <;> cases q : (y n).2 <;> simp only [Bool.and_self, Bool.false_and, Bool.true_and, Bool.and_true, Bool.and_false, if_true, Bool.false_eq_true, if_false, BitVec.getLsbD_or, bit_shl n i hi, e, decide_false, Bool.or_false, and_self]
/-- What the document tells is what is told, bit by bit. -/
theorem rN_eq {y : Nat → Bool × Bool} {a : Nm} (h : ∀ i, i < 64 → a.v.getLsbD i = ((y i).2 && !(y i).1) ∧ a.m.getLsbD i = ((y i).1 && (y i).2)) : a = rN y 64 := by
  apply Nm.ext'
  · apply BitVec.eq_of_getLsbD_eq; intro i hi
    rw [(rN_bits y 64 i (by omega) hi).1, (h i hi).1]; simp [hi]
  · apply BitVec.eq_of_getLsbD_eq; intro i hi
    rw [(rN_bits y 64 i (by omega) hi).2, (h i hi).2]; simp [hi]
def Rgt (a : Nm) : Prop := a.v &&& a.m = 0#64
theorem Rgt.bit {a : Nm} (h : Rgt a) (i : Nat) : ¬ (a.v.getLsbD i = true ∧ a.m.getLsbD i = true) := by
  intro ⟨h1, h2⟩
  have := congrArg (fun z => z.getLsbD i) h
  simp [h1, h2] at this
theorem rgt_of {a : Nm} (h : ∀ i, i < 64 → ¬ (a.v.getLsbD i = true ∧ a.m.getLsbD i = true)) : Rgt a := by
  apply BitVec.eq_of_getLsbD_eq; intro i hi
  have := h i hi
  rw [BitVec.getLsbD_and]
  cases h1 : a.v.getLsbD i <;> cases h2 : a.m.getLsbD i <;> simp_all
theorem tRight_iff {a : Nm} : tRight a = true ↔ Rgt a := by unfold tRight Rgt; exact beq_iff_eq
theorem rightN_rgt (a : Nm) : Rgt (rightN a) := rgt_of fun i hi => by
  unfold rightN
  simp only [BitVec.getLsbD_and, BitVec.getLsbD_not, hi, decide_true, Bool.true_and]
  cases a.m.getLsbD i <;> simp
theorem known_rgt (x u : W) : Rgt (tKnown x u) := rightN_rgt ⟨x, u⟩
theorem has_iff {a : Nm} {x : W} : tHas a x = true ↔ ∀ i, i < 64 → a.v.getLsbD i = (x.getLsbD i && !a.m.getLsbD i) := by
  unfold tHas
  rw [beq_iff_eq]
  constructor
  · intro h i hi
    rw [← h]; simp [hi]
  · intro h
    apply BitVec.eq_of_getLsbD_eq; intro i hi
    rw [h i hi]; simp [hi]
theorem has_known {x y u : W} : tHas (tKnown y u) x = true ↔ ∀ i, i < 64 → u.getLsbD i = false → x.getLsbD i = y.getLsbD i := by
  rw [has_iff]
  unfold tKnown
  constructor
  · intro h i hi hu
    have := h i hi
    simp only [BitVec.getLsbD_and, BitVec.getLsbD_not, hi, hu, decide_true, Bool.true_and, Bool.not_false, Bool.and_true] at this
    exact this.symm
  · intro h i hi
    cases hu : u.getLsbD i
    · simp only [BitVec.getLsbD_and, BitVec.getLsbD_not, hi, hu, decide_true, Bool.true_and, Bool.not_false, Bool.and_true]; exact (h i hi hu).symm
    · simp only [BitVec.getLsbD_and, BitVec.getLsbD_not, hi, hu, decide_true, Bool.true_and, Bool.not_true, Bool.and_false]
end Go.Proofs.Ytkljnpdojmcipaa
