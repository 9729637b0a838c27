/- Plain: sums, differences and products of numbers of which some bits are known: by what is carried. Nothing of the program. -/
import Derived.Test.YtkljnpdojmcipaaNm
namespace Go.Proofs.Ytkljnpdojmcipaa
open Go
/-- Bit by bit, no more. -/
def Sub (x y : W) : Prop := ∀ i, x.getLsbD i = true → y.getLsbD i = true
theorem carry_mono {x y x' y' : W} {c c' : Bool} (hx : Sub x x') (hy : Sub y y') (hc : c = true → c' = true) : ∀ i, BitVec.carry i x y c = true → BitVec.carry i x' y' c' = true
  | 0, h => by
    rw [BitVec.carry_zero] at h ⊢; exact hc h
  | i + 1, h => by
    rw [BitVec.carry_succ] at h ⊢
    have h1 := carry_mono hx hy hc i
    have h2 := hx i
    have h3 := hy i
    generalize BitVec.carry i x y c = k at *
    generalize BitVec.carry i x' y' c' = k' at *
    generalize x.getLsbD i = e at *
    generalize x'.getLsbD i = e' at *
    generalize y.getLsbD i = f at *
    generalize y'.getLsbD i = f' at *
    revert h h1 h2 h3
    cases e <;> cases f <;> cases k <;> cases e' <;> cases f' <;> cases k' <;> decide
theorem bit_add (x y : W) (i : Nat) (hi : i < 64) : (x + y).getLsbD i = (x.getLsbD i ^^ (y.getLsbD i ^^ BitVec.carry i x y false)) := BitVec.getLsbD_add hi x y
theorem sub_as (x y : W) : x - y = x + ~~~y + BitVec.setWidth 64 (BitVec.ofBool true) := by
  rw [BitVec.sub_eq_add_neg, BitVec.neg_eq_not_add, ← BitVec.add_assoc]; rfl
theorem bit_sub (x y : W) (i : Nat) (hi : i < 64) : (x - y).getLsbD i = (x.getLsbD i ^^ (!y.getLsbD i ^^ BitVec.carry i x (~~~y) true)) := by
  rw [sub_as, BitVec.getLsbD_add_add_bool hi, BitVec.getLsbD_not]; simp [hi]
def hiN (a : Nm) : W := a.v ||| a.m
theorem Rgt.sum {a : Nm} (h : Rgt a) : a.v + a.m = hiN a := BitVec.add_eq_or_of_and_eq_zero _ _ h
theorem greatest_eq {a b : Nm} (ha : Rgt a) (hb : Rgt b) : a.v + b.v + a.m + b.m = hiN a + hiN b := by
  rw [← ha.sum, ← hb.sum]; ac_rfl
theorem sub_hi (a : Nm) : Sub a.v (hiN a) := fun i h => by unfold hiN; simp [h]
theorem not_sub {x y : W} (h : Sub x y) : Sub (~~~y) (~~~x) := fun i hi => by
  have := h i
  rw [BitVec.getLsbD_not] at hi ⊢
  simp only [Bool.and_eq_true, decide_eq_true_eq, Bool.not_eq_true'] at hi ⊢
  refine ⟨hi.1, ?_⟩
  cases hx : x.getLsbD i
  · rfl
  · rw [this hx] at hi; exact absurd hi.2 (by simp)
theorem sless_eq {a b : Nm} (hb : Rgt b) : a.v - b.v - b.m = a.v - hiN b := by
  rw [← hb.sum, BitVec.sub_sub]
theorem smore_eq {a b : Nm} (ha : Rgt a) : a.v - b.v + a.m = hiN a - b.v := by
  rw [← ha.sum]; simp only [BitVec.sub_eq_add_neg]; ac_rfl
/-- One of the document's eight: of p, q and what is carried. -/
def sumOne (minus : Bool) (x y c : Bool × Bool) (k : Nat) (s : (Bool × Bool) × (Bool × Bool)) : (Bool × Bool) × (Bool × Bool) :=
  let p := k / 4
  let q := k / 2 % 2
  let r := k % 2
  if !(if p = 0 then x.1 else x.2) || !(if q = 0 then y.1 else y.2) || !(if r = 0 then c.1 else c.2) then s
  else
    let n := if minus then (p + 4 - q - r) % 2 else (p + q + r) % 2
    let e := if minus then min (q + r - p) 1 else (p + q + r) / 2
    ((if n = 0 then (true, s.1.2) else (s.1.1, true)), (if e = 0 then (true, s.2.2) else (s.2.1, true)))
def sumN (minus : Bool) (x y c : Bool × Bool) : Nat → (Bool × Bool) × (Bool × Bool)
  | 0 => ((false, false), (false, false))
  | k + 1 => sumOne minus x y c k (sumN minus x y c k)
def carN (minus : Bool) (a b : Nm) : Nat → Bool × Bool
  | 0 => (true, false)
  | i + 1 => (sumN minus (rBits a i) (rBits b i) (carN minus a b i) 8).2
def rSum (a b : Nm) (minus : Bool) : Nm := rN (fun i => (sumN minus (rBits a i) (rBits b i) (carN minus a b i) 8).1) 64
theorem sum_step : ∀ av am bv bm cl ch : Bool, ¬ (av = true ∧ am = true) → ¬ (bv = true ∧ bm = true) → (cl = true → ch = true) →
    (sumN false (if am then (true, true) else (!av, av)) (if bm then (true, true) else (!bv, bv)) (!cl, ch) 8).2 = (!Bool.atLeastTwo av bv cl, Bool.atLeastTwo (av || am) (bv || bm) ch) ∧
    ((sumN false (if am then (true, true) else (!av, av)) (if bm then (true, true) else (!bv, bv)) (!cl, ch) 8).1.1 && (sumN false (if am then (true, true) else (!av, av)) (if bm then (true, true) else (!bv, bv)) (!cl, ch) 8).1.2) =
      (am || bm || ((av ^^ (bv ^^ cl)) ^^ ((av || am) ^^ ((bv || bm) ^^ ch)))) ∧
    ((sumN false (if am then (true, true) else (!av, av)) (if bm then (true, true) else (!bv, bv)) (!cl, ch) 8).1.2 && !(sumN false (if am then (true, true) else (!av, av)) (if bm then (true, true) else (!bv, bv)) (!cl, ch) 8).1.1) =
      ((av ^^ (bv ^^ cl)) && !(am || bm || ((av ^^ (bv ^^ cl)) ^^ ((av || am) ^^ ((bv || bm) ^^ ch))))) := by decide +kernel
theorem dif_step : ∀ av am bv bm kl km kh : Bool, ¬ (av = true ∧ am = true) → ¬ (bv = true ∧ bm = true) → (kl = true → km = true) → (km = true → kh = true) →
    (sumN true (if am then (true, true) else (!av, av)) (if bm then (true, true) else (!bv, bv)) (kh, !kl) 8).2 = (Bool.atLeastTwo (av || am) (!bv) kh, !Bool.atLeastTwo av (!(bv || bm)) kl) ∧
    ((sumN true (if am then (true, true) else (!av, av)) (if bm then (true, true) else (!bv, bv)) (kh, !kl) 8).1.1 && (sumN true (if am then (true, true) else (!av, av)) (if bm then (true, true) else (!bv, bv)) (kh, !kl) 8).1.2) =
      (am || bm || ((av ^^ (!(bv || bm) ^^ kl)) ^^ ((av || am) ^^ (!bv ^^ kh)))) ∧
    ((sumN true (if am then (true, true) else (!av, av)) (if bm then (true, true) else (!bv, bv)) (kh, !kl) 8).1.2 && !(sumN true (if am then (true, true) else (!av, av)) (if bm then (true, true) else (!bv, bv)) (kh, !kl) 8).1.1) =
      ((av ^^ (!bv ^^ km)) && !(am || bm || ((av ^^ (!(bv || bm) ^^ kl)) ^^ ((av || am) ^^ (!bv ^^ kh))))) := by decide +kernel
theorem car_sum {a b : Nm} (ha : Rgt a) (hb : Rgt b) : ∀ i, carN false a b i = (!BitVec.carry i a.v b.v false, BitVec.carry i (hiN a) (hiN b) false)
  | 0 => by simp [carN, BitVec.carry_zero]
  | i + 1 => by
    show (sumN false (rBits a i) (rBits b i) (carN false a b i) 8).2 = _
    rw [car_sum ha hb i, BitVec.carry_succ, BitVec.carry_succ]
    have := sum_step (a.v.getLsbD i) (a.m.getLsbD i) (b.v.getLsbD i) (b.m.getLsbD i) (BitVec.carry i a.v b.v false) (BitVec.carry i (hiN a) (hiN b) false) (ha.bit i) (hb.bit i) (carry_mono (sub_hi a) (sub_hi b) (fun h => h) i)
    unfold rBits
    rw [this.1]
    simp [hiN]
theorem add_ref {a b : Nm} (ha : Rgt a) (hb : Rgt b) : tAdd a b = rSum a b false := by
  refine rN_eq fun i hi => ?_
  have := sum_step (a.v.getLsbD i) (a.m.getLsbD i) (b.v.getLsbD i) (b.m.getLsbD i) (BitVec.carry i a.v b.v false) (BitVec.carry i (hiN a) (hiN b) false) (ha.bit i) (hb.bit i) (carry_mono (sub_hi a) (sub_hi b) (fun h => h) i)
  rw [car_sum ha hb i]
  unfold rBits
  rw [this.2.1, this.2.2]
  unfold tAdd tKnown
  rw [greatest_eq ha hb]
  simp only [BitVec.getLsbD_and, BitVec.getLsbD_or, BitVec.getLsbD_xor, BitVec.getLsbD_not, hi, decide_true, Bool.true_and, bit_add _ _ i hi]
  simp [hiN]
theorem car_dif {a b : Nm} (ha : Rgt a) (hb : Rgt b) : ∀ i, i ≤ 64 → carN true a b i = (BitVec.carry i (hiN a) (~~~b.v) true, !BitVec.carry i a.v (~~~(hiN b)) true)
  | 0, _ => by simp [carN, BitVec.carry_zero]
  | i + 1, hi => by
    show (sumN true (rBits a i) (rBits b i) (carN true a b i) 8).2 = _
    rw [car_dif ha hb i (by omega), BitVec.carry_succ, BitVec.carry_succ]
    have := dif_step (a.v.getLsbD i) (a.m.getLsbD i) (b.v.getLsbD i) (b.m.getLsbD i) (BitVec.carry i a.v (~~~(hiN b)) true) (BitVec.carry i a.v (~~~b.v) true) (BitVec.carry i (hiN a) (~~~b.v) true) (ha.bit i) (hb.bit i)
      (carry_mono (fun _ h => h) (not_sub (sub_hi b)) (fun h => h) i) (carry_mono (sub_hi a) (fun _ h => h) (fun h => h) i)
    unfold rBits
    rw [this.1]
    simp [hiN, show i < 64 from by omega]
theorem sub_ref {a b : Nm} (ha : Rgt a) (hb : Rgt b) : tSub a b = rSum a b true := by
  refine rN_eq fun i hi => ?_
  have := dif_step (a.v.getLsbD i) (a.m.getLsbD i) (b.v.getLsbD i) (b.m.getLsbD i) (BitVec.carry i a.v (~~~(hiN b)) true) (BitVec.carry i a.v (~~~b.v) true) (BitVec.carry i (hiN a) (~~~b.v) true) (ha.bit i) (hb.bit i)
      (carry_mono (fun _ h => h) (not_sub (sub_hi b)) (fun h => h) i) (carry_mono (sub_hi a) (fun _ h => h) (fun h => h) i)
  rw [car_dif ha hb i (by omega)]
  unfold rBits
  rw [this.2.1, this.2.2]
  unfold tSub tKnown
  rw [sless_eq hb, smore_eq ha]
  simp only [BitVec.getLsbD_and, BitVec.getLsbD_or, BitVec.getLsbD_xor, BitVec.getLsbD_not, hi, decide_true, Bool.true_and, bit_sub _ _ i hi]
  simp [hiN]
/-- A number of known bits lies between. -/
theorem has_sub {a : Nm} {x : W} (h : tHas a x = true) : Sub a.v x ∧ Sub x (hiN a) := by
  rw [has_iff] at h
  constructor
  · intro i hv
    have hi : i < 64 := by
      apply Decidable.byContradiction; intro hc
      rw [BitVec.getLsbD_of_ge _ _ (by omega)] at hv; cases hv
    have := h i hi
    rw [hv] at this
    cases hx : x.getLsbD i
    · rw [hx] at this; cases this
    · rfl
  · intro i hx
    have hi : i < 64 := by
      apply Decidable.byContradiction; intro hc
      rw [BitVec.getLsbD_of_ge _ _ (by omega)] at hx; cases hx
    have := h i hi
    rw [hx] at this
    unfold hiN
    cases hm : a.m.getLsbD i <;> simp [hm, this]
theorem has_bit {a : Nm} {x : W} (h : tHas a x = true) (i : Nat) (hi : i < 64) (hm : a.m.getLsbD i = false) : x.getLsbD i = a.v.getLsbD i := by
  have := has_iff.1 h i hi
  rw [hm] at this; simp at this; exact this.symm
theorem has_rgt {a : Nm} {x : W} (h : tHas a x = true) : Rgt a := rgt_of fun i hi ⟨h1, h2⟩ => by
  have := has_iff.1 h i hi
  rw [h1, h2] at this; simp at this
theorem add_has {a b : Nm} {x y : W} (hx : tHas a x = true) (hy : tHas b y = true) : tHas (tAdd a b) (x + y) = true := by
  unfold tAdd
  rw [has_known, greatest_eq (has_rgt hx) (has_rgt hy)]
  intro i hi hu
  simp only [BitVec.getLsbD_or, BitVec.getLsbD_xor, bit_add _ _ i hi, Bool.or_eq_false_iff] at hu ⊢
  obtain ⟨⟨h1, h2⟩, h3⟩ := hu
  rw [has_bit hx i hi h1, has_bit hy i hi h2]
  have e1 : (hiN a).getLsbD i = a.v.getLsbD i := by unfold hiN; simp [h1]
  have e2 : (hiN b).getLsbD i = b.v.getLsbD i := by unfold hiN; simp [h2]
  rw [e1, e2] at h3
  have m1 := carry_mono (has_sub hx).1 (has_sub hy).1 (c := false) (c' := false) (fun h => h) i
  have m2 := carry_mono (has_sub hx).2 (has_sub hy).2 (c := false) (c' := false) (fun h => h) i
  generalize BitVec.carry i a.v b.v false = k1 at *
  generalize BitVec.carry i x y false = k2 at *
  generalize BitVec.carry i (hiN a) (hiN b) false = k3 at *
  generalize a.v.getLsbD i = p at *
  generalize b.v.getLsbD i = q at *
  clear e1 e2 h1 h2 hx hy hi
  revert h3 m1 m2
  cases p <;> cases q <;> cases k1 <;> cases k2 <;> cases k3 <;> decide
theorem sub_has {a b : Nm} {x y : W} (hx : tHas a x = true) (hy : tHas b y = true) : tHas (tSub a b) (x - y) = true := by
  unfold tSub
  rw [has_known, sless_eq (has_rgt hy), smore_eq (has_rgt hx)]
  intro i hi hu
  simp only [BitVec.getLsbD_or, BitVec.getLsbD_xor, bit_sub _ _ i hi, Bool.or_eq_false_iff] at hu ⊢
  obtain ⟨⟨h1, h2⟩, h3⟩ := hu
  rw [has_bit hx i hi h1, has_bit hy i hi h2]
  have e1 : (hiN a).getLsbD i = a.v.getLsbD i := by unfold hiN; simp [h1]
  have e2 : (hiN b).getLsbD i = b.v.getLsbD i := by unfold hiN; simp [h2]
  rw [e1, e2] at h3
  have m1 := carry_mono (has_sub hx).1 (not_sub (has_sub hy).2) (c := true) (c' := true) (fun h => h) i
  have m2 := carry_mono (has_sub hx).2 (not_sub (has_sub hy).1) (c := true) (c' := true) (fun h => h) i
  have n1 := carry_mono (x := a.v) (x' := a.v) (fun _ h => h) (not_sub (sub_hi b)) (c := true) (c' := true) (fun h => h) i
  have n2 := carry_mono (sub_hi a) (y := ~~~b.v) (y' := ~~~b.v) (fun _ h => h) (c := true) (c' := true) (fun h => h) i
  generalize BitVec.carry i a.v (~~~(hiN b)) true = k1 at *
  generalize BitVec.carry i x (~~~y) true = k2 at *
  generalize BitVec.carry i (hiN a) (~~~b.v) true = k3 at *
  generalize BitVec.carry i a.v (~~~b.v) true = k4 at *
  generalize a.v.getLsbD i = p at *
  generalize b.v.getLsbD i = q at *
  clear e1 e2 h1 h2 hx hy hi
  revert h3 m1 m2 n1 n2
  cases p <;> cases q <;> cases k1 <;> cases k2 <;> cases k3 <;> cases k4 <;> decide
theorem and_has {a b : Nm} {x y : W} (hx : tHas a x = true) (hy : tHas b y = true) : tHas (tAnd a b) (x &&& y) = true := by
  rw [has_iff] at *
  intro i hi
  have h1 := hx i hi
  have h2 := hy i hi
  unfold tAnd
  simp only [BitVec.getLsbD_and, BitVec.getLsbD_or, BitVec.getLsbD_not, hi, decide_true, Bool.true_and]
  rw [h1, h2]
  cases x.getLsbD i <;> cases y.getLsbD i <;> cases a.m.getLsbD i <;> cases b.m.getLsbD i <;> rfl
theorem or_has {a b : Nm} {x y : W} (hx : tHas a x = true) (hy : tHas b y = true) : tHas (tOr a b) (x ||| y) = true := by
  rw [has_iff] at *
  intro i hi
  have h1 := hx i hi
  have h2 := hy i hi
  unfold tOr
  simp only [BitVec.getLsbD_and, BitVec.getLsbD_or, BitVec.getLsbD_not, hi, decide_true, Bool.true_and]
  rw [h1, h2]
  cases x.getLsbD i <;> cases y.getLsbD i <;> cases a.m.getLsbD i <;> cases b.m.getLsbD i <;> rfl
theorem xor_has {a b : Nm} {x y : W} (hx : tHas a x = true) (hy : tHas b y = true) : tHas (tXor a b) (x ^^^ y) = true := by
  rw [has_iff] at *
  intro i hi
  have h1 := hx i hi
  have h2 := hy i hi
  unfold tXor tKnown
  simp only [BitVec.getLsbD_and, BitVec.getLsbD_or, BitVec.getLsbD_xor, BitVec.getLsbD_not, hi, decide_true, Bool.true_and]
  rw [h1, h2]
  cases x.getLsbD i <;> cases y.getLsbD i <;> cases a.m.getLsbD i <;> cases b.m.getLsbD i <;> rfl
theorem join_has_l {a b : Nm} {x : W} (hx : tHas a x = true) (hb : Rgt b) : tHas (tJoin a b) x = true := by
  rw [has_iff] at *
  intro i hi
  have h1 := hx i hi
  have h2 := hb.bit i
  unfold tJoin tKnown
  simp only [BitVec.getLsbD_and, BitVec.getLsbD_or, BitVec.getLsbD_xor, BitVec.getLsbD_not, hi, decide_true, Bool.true_and]
  rw [h1]
  cases x.getLsbD i <;> cases a.m.getLsbD i <;> cases b.m.getLsbD i <;> cases b.v.getLsbD i <;> rfl
theorem join_has_r {a b : Nm} {x : W} (hx : tHas b x = true) (ha : Rgt a) : tHas (tJoin a b) x = true := by
  rw [has_iff] at *
  intro i hi
  have h1 := hx i hi
  have h2 := ha.bit i
  unfold tJoin tKnown
  simp only [BitVec.getLsbD_and, BitVec.getLsbD_or, BitVec.getLsbD_xor, BitVec.getLsbD_not, hi, decide_true, Bool.true_and]
  rw [h1]
  revert h2
  cases x.getLsbD i <;> cases a.m.getLsbD i <;> cases b.m.getLsbD i <;> cases a.v.getLsbD i <;> decide
theorem left_has {a : Nm} {x : W} (hx : tHas a x = true) (k : Nat) : tHas (tLeft a k) (x <<< k) = true := by
  rw [has_iff] at *
  intro i hi
  unfold tLeft
  simp only [BitVec.getLsbD_shiftLeft, hi, decide_true, Bool.true_and]
  by_cases h : i < k
  · simp [h]
  · simp only [h, decide_false, Bool.not_false, Bool.true_and]
    exact hx (i - k) (by omega)
theorem down_has {a : Nm} {x : W} (hx : tHas a x = true) (k : Nat) : tHas (tDown a k) (x >>> k) = true := by
  rw [has_iff] at *
  intro i hi
  unfold tDown
  simp only [BitVec.getLsbD_ushiftRight]
  by_cases h : k + i < 64
  · exact hx (k + i) h
  · rw [BitVec.getLsbD_of_ge a.v _ (by omega), BitVec.getLsbD_of_ge x _ (by omega)]; rfl
theorem const_has (x : W) : tHas (tConst x) x = true := by rw [has_iff]; intro i hi; simp [tConst]
theorem has_const {x y : W} (h : tHas (tConst x) y = true) : y = x := by
  apply BitVec.eq_of_getLsbD_eq; intro i hi
  have := has_iff.1 h i hi
  simp [tConst] at this; exact this.symm
theorem any_has (x : W) : tHas tAny x = true := by rw [has_iff]; intro i hi; simp only [tAny, BitVec.getLsbD_zero, BitVec.getLsbD_allOnes, hi, decide_true, Bool.not_true, Bool.and_false]
theorem left_rgt {a : Nm} (h : Rgt a) (k : Nat) : Rgt (tLeft a k) := by
  refine rgt_of fun i hi => ?_
  unfold tLeft
  simp only [BitVec.getLsbD_shiftLeft, hi, decide_true, Bool.true_and]
  by_cases e : i < k
  · simp [e]
  · have := h.bit (i - k)
    simpa [e] using this
theorem mulStep_has {a b p : Nm} {x y z : W} (n : Nat) (hn : n < 64) (hx : tHas a x = true) (hy : tHas b y = true) (hz : tHas p z = true) : tHas (tMulStep a b p n) (z + (if x.getLsbD n then y <<< n else 0#64)) = true := by
  unfold tMulStep
  have h1 := add_has hz (left_has hy n)
  rw [bit_and _ n hn, bit_and _ n hn]
  have hb := has_iff.1 hx n hn
  cases hm : a.m.getLsbD n
  · rw [hm] at hb
    simp only [Bool.not_false, Bool.and_true] at hb
    rw [hb]
    cases hxn : x.getLsbD n
    · simpa using hz
    · simpa using h1
  · cases hxn : x.getLsbD n
    · simpa using join_has_l hz (has_rgt h1)
    · simpa using join_has_r h1 (has_rgt hz)
/-- The lower bits. -/
def lowN (x : W) (n : Nat) : W := BitVec.ofNat 64 (x.toNat % 2 ^ n)
theorem lowN_succ (x y : W) (n : Nat) : lowN x (n + 1) * y = lowN x n * y + (if x.getLsbD n then y <<< n else 0#64) := by
  unfold lowN
  have e : x.toNat % 2 ^ (n + 1) = x.toNat % 2 ^ n + (if x.getLsbD n then 2 ^ n else 0) := by
    rw [Nat.mod_pow_succ]
    have hb : x.getLsbD n = decide (x.toNat / 2 ^ n % 2 = 1) := Nat.testBit_eq_decide_div_mod_eq
    simp only [hb, decide_eq_true_eq]
    rcases Nat.mod_two_eq_zero_or_one (x.toNat / 2 ^ n) with h | h <;> simp [h]
  rw [e]
  cases hb : x.getLsbD n
  · simp
  · simp only [if_true]
    apply BitVec.eq_of_toNat_eq
    simp only [BitVec.toNat_mul, BitVec.toNat_ofNat, BitVec.toNat_add, BitVec.toNat_shiftLeft, Nat.shiftLeft_eq]
    rw [Nat.mod_mul_mod, ← Nat.add_mod, Nat.mod_eq_of_lt (Nat.lt_of_le_of_lt (Nat.mod_le _ _) x.isLt), Nat.add_mul, Nat.mul_comm (2 ^ n)]
theorem mulN_has {a b : Nm} {x y : W} (hx : tHas a x = true) (hy : tHas b y = true) : ∀ n, n ≤ 64 → tHas (tMulN a b n) (lowN x n * y) = true
  | 0, _ => by
    have e : lowN x 0 * y = 0#64 := by unfold lowN; simp [Nat.mod_one]
    rw [e]; exact const_has _
  | n + 1, h => by
    rw [lowN_succ]
    exact mulStep_has n (by omega) hx hy (mulN_has hx hy n (by omega))
theorem mul_has {a b : Nm} {x y : W} (hx : tHas a x = true) (hy : tHas b y = true) : tHas (tMul a b) (x * y) = true := by
  have := mulN_has hx hy 64 (by omega)
  have e : lowN x 64 = x := by unfold lowN; rw [Nat.mod_eq_of_lt x.isLt]; simp
  rw [e] at this; exact this
theorem step_rgt {a b p : Nm} (hp : Rgt p) (n : Nat) : Rgt (tMulStep a b p n) := by
  unfold tMulStep
  split
  · exact known_rgt _ _
  · split
    · exact known_rgt _ _
    · exact hp
theorem mulN_rgt (a b : Nm) : ∀ n, Rgt (tMulN a b n)
  | 0 => by unfold Rgt tMulN tConst; simp
  | n + 1 => step_rgt (mulN_rgt a b n) n
theorem add_const (x y : W) : tAdd (tConst x) (tConst y) = tConst (x + y) := by
  unfold tAdd tConst tKnown; simp only [BitVec.or_self, BitVec.add_zero, BitVec.xor_self, BitVec.not_zero, BitVec.and_allOnes]
theorem mulN_const (x y : W) : ∀ n, n ≤ 64 → (tMulN (tConst x) (tConst y) n).m = 0#64
  | 0, _ => rfl
  | n + 1, h => by
    have h1 := mulN_const x y n (by omega)
    unfold tMulN tMulStep
    have e : ¬ ((tConst x).m &&& (1#64 <<< n) != 0#64) = true := by simp [tConst]
    rw [if_neg e]
    split
    · have : tMulN (tConst x) (tConst y) n = tConst (tMulN (tConst x) (tConst y) n).v := Nm.ext' rfl h1
      rw [this, show tLeft (tConst y) n = tConst (y <<< n) from by unfold tLeft tConst; simp, add_const]; rfl
    · exact h1
theorem mul_const (x y : W) : tMul (tConst x) (tConst y) = tConst (x * y) := by
  have h1 := mul_has (const_has x) (const_has y)
  have h2 : tMul (tConst x) (tConst y) = tConst (tMul (tConst x) (tConst y)).v := Nm.ext' rfl (mulN_const x y 64 (by omega))
  rw [h2] at h1 ⊢
  rw [has_const h1]
end Go.Proofs.Ytkljnpdojmcipaa
