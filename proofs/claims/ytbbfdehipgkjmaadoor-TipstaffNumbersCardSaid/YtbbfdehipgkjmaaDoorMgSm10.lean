/- Plain: what near tells is in the range; of one number alone it is that. Plain: the least number of some bits from one on. Plain: next is the least number of a range from one on; near keeps all numbers. Plain: what comparisons tell of two ranges keeps their numbers. Plain: what is settled is within the range. Nothing of the program. -/
import Derived.Test.YtbbfdehipgkjmaaDoorBr3
import Derived.Test.YtbbfdehipgkjmaaDoorMgSe0
import Derived.Test.YtbbfdehipgkjmaaDoorMgBr0
import Derived.Test.YtbbfdehipgkjmaaDoorBr4
namespace Go.Proofs.YtbbfdehipgkjmaaDoor
theorem stepN_sound {r : Rn} {s : W} {e : W × Bool} (he : e.2 = true → sHas r e.1 = true) (h : (stepN r s e).2 = true) : sHas r (stepN r s e).1 = true := by
  unfold stepN at h ⊢
  cases h1 : (nobF r.b s).2
  · rw [h1, cond_false] at h
    rw [cond_false]; exact he h
  · rw [h1, cond_true] at h
    rw [cond_true]
    cases h2 : sHas r (nobF r.b s).1
    · rw [h2, cond_false] at h
      rw [cond_false]; exact he h
    · rw [cond_true]; exact h2
theorem nxt_sound {r : Rn} {f : W} (h : (nxtF r f).2 = true) : sHas r (nxtF r f).1 = true := by
  unfold nxtF nxtR at h ⊢
  exact stepN_sound (stepN_sound (fun h => absurd h (by simp))) h
/-- A range that is near is the settled one, or one number of it alone. -/
theorem near_spec {a : Rn} (h : (nearF a).2 = true) : (settleF a).2 = true ∧ ((nearF a).1 = (settleF a).1 ∨ ∃ x, (nearF a).1 = cR x ∧ sHas (settleF a).1 x = true) := by
  unfold nearF at h ⊢
  cases h0 : (settleF a).2
  · rw [h0, cond_false] at h; cases h
  rw [h0, cond_true] at h
  refine ⟨rfl, ?_⟩
  rw [cond_true]
  cases h1 : (nxtF (settleF a).1 0#64).2
  · rw [h1, cond_false] at h; cases h
  rw [cond_true]
  have s1 := nxt_sound h1
  cases (nxtF (settleF a).1 ((nxtF (settleF a).1 0#64).1 + 1#64)).2
  · rw [cond_false]; exact Or.inr ⟨_, rfl, s1⟩
  rw [cond_true]
  cases ((nxtF (settleF a).1 ((nxtF (settleF a).1 0#64).1 + 1#64)).1 == (nxtF (settleF a).1 0#64).1)
  · rw [cond_false]; exact Or.inl rfl
  · rw [cond_true]; exact Or.inr ⟨_, rfl, s1⟩
end Go.Proofs.YtbbfdehipgkjmaaDoor
namespace Go.Proofs.YtbbfdehipgkjmaaDoor
theorem low_bit : ∀ k i : Fin 64, (1#64 <<< k.val - 1#64).getLsbD i.val = decide (i.val < k.val) := by decide +kernel
theorem one_bit : ∀ k i : Fin 64, (1#64 <<< k.val).getLsbD i.val = decide (i.val = k.val) := by decide +kernel
theorem nobX_bit (a : Nm) (f : W) {k i : Nat} (hk : k < 64) (hi : i < 64) : (nobX a f k).getLsbD i = if i < k then a.v.getLsbD i else if i = k then true else f.getLsbD i := by
  have e1 := low_bit ⟨k, hk⟩ ⟨i, hi⟩
  have e2 := one_bit ⟨k, hk⟩ ⟨i, hi⟩
  simp only at e1 e2
  unfold nobX
  rw [BitVec.getLsbD_or, BitVec.getLsbD_or, BitVec.getLsbD_and, BitVec.getLsbD_and, BitVec.getLsbD_not, e1, e2]
  by_cases h1 : i < k
  · have h2 : ¬ i = k := by omega
    simp [h1, h2]
  · by_cases h2 : i = k
    · simp [h2]
    · simp [h1, h2, hi]
theorem lt_of_bit {x y : W} {k : Nat} (hx : x.getLsbD k = false) (hy : y.getLsbD k = true) (h : ∀ i, k < i → x.getLsbD i = y.getLsbD i) : x.toNat < y.toNat := by
  have e : x.toNat / 2 ^ (k + 1) = y.toNat / 2 ^ (k + 1) := Nat.eq_of_testBit_eq fun i => by
    rw [Nat.testBit_div_two_pow, Nat.testBit_div_two_pow]
    exact h _ (by omega)
  have hx' : x.toNat.testBit k = false := hx
  have hy' : y.toNat.testBit k = true := hy
  rw [Nat.testBit_eq_decide_div_mod_eq, decide_eq_false_iff_not] at hx'
  rw [Nat.testBit_eq_decide_div_mod_eq, decide_eq_true_eq] at hy'
  rw [Nat.pow_succ, ← Nat.div_div_eq_div_mul, ← Nat.div_div_eq_div_mul] at e
  apply Nat.lt_of_not_le
  intro hle
  have := Nat.div_le_div_right (c := 2 ^ k) hle
  omega
theorem differ {f z : W} (h : f.toNat < z.toNat) : ∃ k, k < 64 ∧ f.getLsbD k = false ∧ z.getLsbD k = true ∧ ∀ i, k < i → f.getLsbD i = z.getLsbD i := by
  have H : ∀ n, n ≤ 64 → (∀ i, n ≤ i → f.getLsbD i = z.getLsbD i) → ∃ k, k < 64 ∧ f.getLsbD k = false ∧ z.getLsbD k = true ∧ ∀ i, k < i → f.getLsbD i = z.getLsbD i := by
    intro n
    induction n with
    | zero =>
      intro _ hh
      have e : f = z := BitVec.eq_of_getLsbD_eq fun i _ => hh i (Nat.zero_le i)
      rw [e] at h; exact absurd h (Nat.lt_irrefl _)
    | succ n ih =>
      intro hn hh
      cases hf : f.getLsbD n <;> cases hz : z.getLsbD n
      · exact ih (by omega) fun i hi => by
          by_cases e : i = n
          · rw [e, hf, hz]
          · exact hh i (by omega)
      · exact ⟨n, by omega, hf, hz, fun i hi => hh i (by omega)⟩
      · have := lt_of_bit hz hf fun i hi => (hh i (by omega)).symm
        omega
      · exact ih (by omega) fun i hi => by
          by_cases e : i = n
          · rw [e, hf, hz]
          · exact hh i (by omega)
  exact H 64 (Nat.le_refl _) fun i hi => by rw [BitVec.getLsbD_of_ge _ _ hi, BitVec.getLsbD_of_ge _ _ hi]
theorem and_bit (f : W) {k : Nat} (hk : k < 64) : (f &&& 1#64 <<< k == 0#64) = !f.getLsbD k := by
  have e2 : ∀ i, i < 64 → (1#64 <<< k).getLsbD i = decide (i = k) := fun i hi => one_bit ⟨k, hk⟩ ⟨i, hi⟩
  cases h : f.getLsbD k
  · rw [Bool.not_false, beq_iff_eq]
    apply BitVec.eq_of_getLsbD_eq
    intro i hi
    rw [BitVec.getLsbD_and, e2 i hi, BitVec.getLsbD_zero]
    by_cases e : i = k
    · rw [e, h]; rfl
    · simp [e]
  · rw [Bool.not_true, beq_eq_false_iff_ne]
    intro e
    have : (f &&& 1#64 <<< k).getLsbD k = true := by rw [BitVec.getLsbD_and, h, e2 k hk]; simp
    rw [e, BitVec.getLsbD_zero] at this; cases this
theorem hs_bit {a : Nm} {z : W} (h : tHas a z = true) {i : Nat} (hi : i < 64) : a.v.getLsbD i = (z.getLsbD i && !a.m.getLsbD i) := by
  have e : z &&& ~~~a.m = a.v := by unfold tHas at h; exact beq_iff_eq.1 h
  rw [← e, BitVec.getLsbD_and, BitVec.getLsbD_not]; simp [hi]
theorem has_of_bit {a : Nm} {z : W} (h : ∀ i, i < 64 → a.v.getLsbD i = (z.getLsbD i && !a.m.getLsbD i)) : tHas a z = true := by
  unfold tHas
  rw [beq_iff_eq]
  apply BitVec.eq_of_getLsbD_eq
  intro i hi
  rw [h i hi, BitVec.getLsbD_and, BitVec.getLsbD_not]; simp [hi]
section
variable {a : Nm} {f z : W} {q : Nat} (hq : q < 64) (hf : f.getLsbD q = false) (hz : z.getLsbD q = true) (hh : ∀ i, q < i → f.getLsbD i = z.getLsbD i) (ha : tHas a z = true)
include hq hz hh ha
theorem nobX_has : tHas a (nobX a f q) = true := has_of_bit fun i hi => by
  have e := hs_bit ha hi
  rw [nobX_bit a f hq hi]
  split
  · rw [e]; cases z.getLsbD i <;> cases a.m.getLsbD i <;> rfl
  · split
    · rename_i h; rw [e, h, hz]
    · rw [e, hh i (by omega)]
theorem nobX_le : (nobX a f q).toNat ≤ z.toNat := by
  have e : nobX a f q = nobX a f q &&& z := by
    apply BitVec.eq_of_getLsbD_eq
    intro i hi
    have e := hs_bit ha hi
    rw [BitVec.getLsbD_and, nobX_bit a f hq hi]
    split
    · rw [e]; cases z.getLsbD i <;> cases a.m.getLsbD i <;> rfl
    · split
      · rename_i h; rw [h, hz]; rfl
      · rw [hh i (by omega)]; cases z.getLsbD i <;> rfl
  rw [e, BitVec.toNat_and]
  exact Nat.and_le_right
include hf
omit ha in
theorem nobX_lt {k : Nat} (hk : k < q) : (nobX a f k).toNat < z.toNat := by
  refine lt_of_bit (k := q) ?_ hz ?_
  · rw [nobX_bit a f (by omega) hq, if_neg (by omega), if_neg (by omega)]; exact hf
  · intro i hi
    by_cases h : i < 64
    · rw [nobX_bit a f (by omega) h, if_neg (by omega), if_neg (by omega)]; exact hh i hi
    · rw [BitVec.getLsbD_of_ge _ _ (by omega), BitVec.getLsbD_of_ge _ _ (by omega)]
theorem nobR_least : ∀ n k, n + k = 64 → k ≤ q → (nobR a f n k).2 = true ∧ (nobR a f n k).1.toNat ≤ z.toNat
  | 0, k, h, hk => by omega
  | n + 1, k, h, hk => by
    have IH := fun (hk' : k + 1 ≤ q) => nobR_least n (k + 1) (by omega) hk'
    unfold nobR
    rw [and_bit f (show k < 64 by omega)]
    cases h1 : f.getLsbD k
    · rw [Bool.not_false, cond_true]
      cases h2 : tHas a (nobX a f k)
      · rw [cond_false]
        refine IH ?_
        by_cases e : k = q
        · rw [e, nobX_has hq hz hh ha] at h2; cases h2
        · omega
      · rw [cond_true]
        refine ⟨rfl, ?_⟩
        by_cases e : k = q
        · rw [e]; exact nobX_le hq hz hh ha
        · exact Nat.le_of_lt (nobX_lt hq hf hz hh (by omega))
    · rw [Bool.not_true, cond_false]
      refine IH ?_
      by_cases e : k = q
      · rw [e, hf] at h1; cases h1
      · omega
end
theorem nobX_gt {a : Nm} {f : W} {k : Nat} (hk : k < 64) (hf : f.getLsbD k = false) : f.toNat < (nobX a f k).toNat := by
  refine lt_of_bit (k := k) hf ?_ ?_
  · rw [nobX_bit a f hk hk, if_neg (by omega), if_pos rfl]
  · intro i hi
    by_cases h : i < 64
    · rw [nobX_bit a f hk h, if_neg (by omega), if_neg (by omega)]
    · rw [BitVec.getLsbD_of_ge _ _ (by omega), BitVec.getLsbD_of_ge _ _ (by omega)]
theorem nobR_gt {a : Nm} {f : W} : ∀ n k, n + k = 64 → (nobR a f n k).2 = true → f.toNat < (nobR a f n k).1.toNat ∧ tHas a (nobR a f n k).1 = true
  | 0, k, h, h2 => by unfold nobR at h2; cases h2
  | n + 1, k, h, h2 => by
    have IH := nobR_gt n (k + 1) (by omega) (a := a) (f := f)
    unfold nobR at h2 ⊢
    rw [and_bit f (show k < 64 by omega)] at h2 ⊢
    cases h1 : f.getLsbD k
    · rw [h1, Bool.not_false, cond_true] at h2
      rw [Bool.not_false, cond_true]
      cases h3 : tHas a (nobX a f k)
      · rw [h3, cond_false] at h2; rw [cond_false]; exact IH h2
      · rw [cond_true]; exact ⟨nobX_gt (by omega) h1, h3⟩
    · rw [h1, Bool.not_true, cond_false] at h2; rw [Bool.not_true, cond_false]; exact IH h2
/-- The least number of these bits from f on. -/
theorem nob_least {a : Nm} {f z : W} (hz : f.toNat ≤ z.toNat) (ha : tHas a z = true) : (nobF a f).2 = true ∧ (nobF a f).1.toNat ≤ z.toNat := by
  unfold nobF
  cases h : tHas a f
  · rw [cond_false]
    have hne : f.toNat ≠ z.toNat := fun e => by
      rw [BitVec.eq_of_toNat_eq e, ha] at h; cases h
    obtain ⟨q, hq, hf, hz', hh⟩ := differ (show f.toNat < z.toNat by omega)
    exact nobR_least hq hf hz' hh ha 64 0 rfl (Nat.zero_le _)
  · rw [cond_true]; exact ⟨rfl, hz⟩
theorem nob_ge {a : Nm} {f : W} (h : (nobF a f).2 = true) : f.toNat ≤ (nobF a f).1.toNat ∧ tHas a (nobF a f).1 = true := by
  unfold nobF at h ⊢
  cases h1 : tHas a f
  · rw [h1, cond_false] at h
    rw [cond_false]
    obtain ⟨g1, g2⟩ := nobR_gt 64 0 rfl h
    exact ⟨Nat.le_of_lt g1, g2⟩
  · rw [cond_true]; exact ⟨Nat.le_refl _, h1⟩
end Go.Proofs.YtbbfdehipgkjmaaDoor
namespace Go.Proofs.YtbbfdehipgkjmaaDoor
theorem nob_leastq {a : Nm} {f z : W} (hz : qn f ≤ qn z) (ha : tHas a z = true) : (nobF a f).2 = true ∧ qn (nobF a f).1 ≤ qn z ∧ qn f ≤ qn (nobF a f).1 ∧ tHas a (nobF a f).1 = true := by
  obtain ⟨h1, h2⟩ := nob_least (a := a) (f := f) (z := z) (by unfold qn at hz; omega) ha
  obtain ⟨h3, h4⟩ := nob_ge h1
  exact ⟨h1, by unfold qn; omega, by unfold qn; omega, h4⟩
theorem nxt_least {r : Rn} {f z : W} (hf : qn f ≤ qn z) (h : In r z) : (nxtF r f).2 = true ∧ qn (nxtF r f).1 ≤ qn z ∧ qn f ≤ qn (nxtF r f).1 := by
  obtain ⟨hb, hlo, hhi, hsl, hsh⟩ := h
  have p0 := qn_uMax f r.lo
  have q0 := qn_uMax (uMax f r.lo) r.sl
  unfold nxtF nxtR
  generalize uMax (uMax f r.lo) r.sl = q at q0
  generalize uMax f r.lo = p at p0 q0
  have hp : qn p ≤ qn z := by rw [p0]; split <;> omega
  have pf : qn f ≤ qn p := by rw [p0]; split <;> omega
  have pl : qn r.lo ≤ qn p := by rw [p0]; split <;> omega
  obtain ⟨a1, a2, a3, a4⟩ := nob_leastq hp hb
  unfold stepN
  rw [a1, cond_true]
  cases hs : sHas r (nobF r.b p).1
  · rw [cond_false]
    have hn : ¬ (sn r.sl ≤ sn (nobF r.b p).1 ∧ sn (nobF r.b p).1 ≤ sn r.sh) := fun e => by
      rw [in_iff.2 ⟨a4, by omega, by omega, e.1, e.2⟩] at hs; cases hs
    have k1 := qs (nobF r.b p).1
    have k2 := qs z
    have k3 := qs r.sl
    have hq : qn q ≤ qn z := by
      rw [q0]; split
      · omega
      · omega
    have qp : qn p ≤ qn q := by rw [q0]; split <;> omega
    have ql : qn r.sl ≤ qn q := by rw [q0]; split <;> omega
    obtain ⟨b1, b2, b3, b4⟩ := nob_leastq hq hb
    have k4 := qs (nobF r.b q).1
    have hs2 : sHas r (nobF r.b q).1 = true := in_iff.2 ⟨b4, by omega, by omega, by omega, by omega⟩
    rw [b1, cond_true, hs2, cond_true]
    exact ⟨rfl, b2, by show qn f ≤ qn (nobF r.b q).1; omega⟩
  · rw [cond_true]; exact ⟨rfl, a2, by show qn f ≤ qn (nobF r.b p).1; omega⟩
theorem qn_succ {x z : W} (h : qn x < qn z) : qn (x + 1#64) = qn x + 1 := by
  have hz := z.isLt
  unfold qn at h ⊢
  rw [BitVec.toNat_add, show (1#64).toNat = 1 from rfl, Nat.mod_eq_of_lt (by omega)]
  omega
/-- What is near a range has all its numbers. -/
theorem near_in {a : Rn} {x : W} (h : In a x) : (nearF a).2 = true ∧ In (nearF a).1 x := by
  obtain ⟨hs, hi⟩ := settle_in h
  have h0 : qn (0#64) ≤ qn x := by unfold qn; exact Int.ofNat_le.2 (Nat.zero_le _)
  obtain ⟨n1, n2, _⟩ := nxt_least h0 hi
  unfold nearF
  rw [hs, cond_true, n1, cond_true]
  generalize (nxtF (settleF a).1 0#64).1 = y at n2
  by_cases e : x = y
  · subst e
    cases (nxtF (settleF a).1 (x + 1#64)).2
    · rw [cond_false]; exact ⟨rfl, cR_in x⟩
    · rw [cond_true]
      cases ((nxtF (settleF a).1 (x + 1#64)).1 == x)
      · rw [cond_false]; exact ⟨rfl, hi⟩
      · rw [cond_true]; exact ⟨rfl, cR_in x⟩
  · have hlt : qn y < qn x := by
      have : qn x ≠ qn y := fun g => e (qn_inj g)
      omega
    have hy := qn_succ hlt
    obtain ⟨m1, _, m3⟩ := nxt_least (f := y + 1#64) (by omega) hi
    have ne : ((nxtF (settleF a).1 (y + 1#64)).1 == y) = false := beq_eq_false_iff_ne.2 fun g => by rw [g] at m3; omega
    rw [m1, cond_true, ne, cond_false]
    exact ⟨rfl, hi⟩
end Go.Proofs.YtbbfdehipgkjmaaDoor
namespace Go.Proofs.YtbbfdehipgkjmaaDoor
theorem qnAdd {x n : W} (h : qn x + qn n < 18446744073709551616) : qn (x + n) = qn x + qn n := by
  unfold qn at h ⊢
  rw [BitVec.toNat_add, Nat.mod_eq_of_lt (by omega)]; omega
theorem qnSub {x n : W} (h : qn n ≤ qn x) : qn (x - n) = qn x - qn n := by
  have := x.isLt
  have := n.isLt
  unfold qn at h ⊢
  rw [BitVec.toNat_sub]; omega
theorem snAdd {x n : W} (h1 : -9223372036854775808 ≤ sn x + sn n) (h2 : sn x + sn n < 9223372036854775808) : sn (x + n) = sn x + sn n := by
  have a := qs x
  have b := qs n
  have c := qs (x + n)
  have e : qn (x + n) = (qn x + qn n) % 18446744073709551616 := by unfold qn; rw [BitVec.toNat_add]; omega
  omega
theorem snSub {x n : W} (h1 : -9223372036854775808 ≤ sn x - sn n) (h2 : sn x - sn n < 9223372036854775808) : sn (x - n) = sn x - sn n := by
  have a := qs x
  have b := qs n
  have c := qs (x - n)
  have e : qn (x - n) = (qn x - qn n) % 18446744073709551616 := by
    have := n.isLt
    unfold qn; rw [BitVec.toNat_sub]; omega
  omega
theorem over_in {a b : Rn} {n x y : W} (ha : In a x) (hb : In b y) (h : qn y + qn n ≤ qn x) : (overF a b n).2.2 = true ∧ In (overF a b n).1 x ∧ In (overF a b n).2.1 y := by
  obtain ⟨a0, a1, a2, a3, a4⟩ := ha
  obtain ⟨b0, b1, b2, b3, b4⟩ := hb
  have x1 := qn_hi x
  have x2 := qn_hi n
  have x3 := qn_lo n
  have x4 := qn_lo y
  have e0 : qn (18446744073709551615#64) = 18446744073709551615 := rfl
  have e1 : qn (18446744073709551615#64 - n) = 18446744073709551615 - qn n := by rw [qnSub (by omega), e0]
  have c1 : BitVec.ult (18446744073709551615#64 - n) b.lo = false := by rw [ult_qn, decide_eq_false_iff_not]; omega
  have c2 : BitVec.ult a.hi n = false := by rw [ult_qn, decide_eq_false_iff_not]; omega
  have s1 := qnAdd (x := b.lo) (n := n) (by omega)
  have s2 := qnSub (x := a.hi) (n := n) (by omega)
  unfold overF
  rw [c1, c2, cond_false, cond_false]
  refine ⟨rfl, ⟨a0, ?_, a2, a3, a4⟩, ⟨b0, b1, ?_, b3, b4⟩⟩
  · show qn (uMax a.lo (b.lo + n)) ≤ qn x
    rw [qn_uMax]; split <;> omega
  · show qn y ≤ qn (uMin b.hi (a.hi - n))
    rw [qn_uMin]; split <;> omega
theorem overS_in {a b : Rn} {n x y : W} (hn : 0 ≤ sn n) (ha : In a x) (hb : In b y) (h : sn y + sn n ≤ sn x) : (overSF a b n).2.2 = true ∧ In (overSF a b n).1 x ∧ In (overSF a b n).2.1 y := by
  obtain ⟨a0, a1, a2, a3, a4⟩ := ha
  obtain ⟨b0, b1, b2, b3, b4⟩ := hb
  have x1 := sn_hi x
  have x2 := sn_hi n
  have x3 := sn_lo y
  have x4 := sn_lo b.sl
  have x5 := sn_hi a.sh
  have e0 : sn (9223372036854775807#64) = 9223372036854775807 := rfl
  have e0' : sn (BitVec.ofInt 64 (-9223372036854775808)) = -9223372036854775808 := rfl
  have e1 : sn (9223372036854775807#64 - n) = 9223372036854775807 - sn n := by
    rw [snSub (by rw [e0]; clear e0 e0'; omega) (by rw [e0]; clear e0 e0'; omega), e0]
  have e2 : sn (BitVec.ofInt 64 (-9223372036854775808) + n) = -9223372036854775808 + sn n := by rw [snAdd (by rw [e0']; clear e0 e0' e1; omega) (by rw [e0']; clear e0 e0' e1; omega), e0']
  have c1 : BitVec.slt (9223372036854775807#64 - n) b.sl = false := by rw [slt_sn, e1, decide_eq_false_iff_not]; clear e0 e0' e1 e2; omega
  have c2 : BitVec.slt a.sh (BitVec.ofInt 64 (-9223372036854775808) + n) = false := by rw [slt_sn, e2, decide_eq_false_iff_not]; clear e0 e0' e1 e2 c1; omega
  clear e0 e0' e1 e2
  have s1 := snAdd (x := b.sl) (n := n) (by clear c1 c2; omega) (by clear c1 c2; omega)
  have s2 := snSub (x := a.sh) (n := n) (by clear c1 c2 s1; omega) (by clear c1 c2 s1; omega)
  unfold overSF
  rw [c1, c2, cond_false, cond_false]
  clear c1 c2
  refine ⟨rfl, ⟨a0, a1, a2, ?_, a4⟩, ⟨b0, b1, b2, b3, ?_⟩⟩
  · show sn (sMax a.sl (b.sl + n)) ≤ sn x
    rw [sn_sMax]; split <;> omega
  · show sn y ≤ sn (sMin b.sh (a.sh - n))
    rw [sn_sMin]; split <;> omega
theorem same_in {a b : Rn} {x : W} (ha : In a x) (hb : In b x) : (sameF a b).2.2 = true ∧ In (sameF a b).1 x ∧ In (sameF a b).2.1 x := by
  obtain ⟨a0, a1, a2, a3, a4⟩ := ha
  obtain ⟨b0, b1, b2, b3, b4⟩ := hb
  obtain ⟨m1, m2⟩ := meet_has a0 b0
  have H : In ⟨meetN a.b b.b, uMax a.lo b.lo, uMin a.hi b.hi, sMax a.sl b.sl, sMin a.sh b.sh⟩ x := by
    refine ⟨m2, ?_, ?_, ?_, ?_⟩
    · show qn (uMax a.lo b.lo) ≤ qn x
      rw [qn_uMax]; split <;> omega
    · show qn x ≤ qn (uMin a.hi b.hi)
      rw [qn_uMin]; split <;> omega
    · show sn (sMax a.sl b.sl) ≤ sn x
      rw [sn_sMax]; split <;> omega
    · show sn x ≤ sn (sMin a.sh b.sh)
      rw [sn_sMin]; split <;> omega
  unfold sameF bothF
  rw [m1]
  exact ⟨rfl, H, H⟩
end Go.Proofs.YtbbfdehipgkjmaaDoor
namespace Go.Proofs.YtbbfdehipgkjmaaDoor
open Go
/-- A range's bounds and bits lie within another one's. -/
structure Nar (s r : Rn) : Prop where
  b : tWithin s.b r.b = true
  lo : qn r.lo ≤ qn s.lo
  hi : qn s.hi ≤ qn r.hi
  sl : sn r.sl ≤ sn s.sl
  sh : sn s.sh ≤ sn r.sh
theorem nar_iff {s r : Rn} : sWithin s r = true ↔ Nar s r := by
  unfold sWithin
  simp only [Bool.and_eq_true, ule_qn, sle_sn, decide_eq_true_eq]
  exact ⟨fun ⟨a, b, c, d, e⟩ => ⟨a, b, c, d, e⟩, fun h => ⟨h.b, h.lo, h.hi, h.sl, h.sh⟩⟩
theorem Nar.refl {r : Rn} (h : Rgt r.b) : Nar r r := ⟨within_self h, by omega, by omega, by omega, by omega⟩
theorem within_trans {a b c : Nm} (hb : Rgt b) (hc : Rgt c) (h1 : tWithin a b = true) (h2 : tWithin b c = true) : tWithin a c = true := by
  cases ha : tRight a
  · unfold tWithin; rw [ha]; rfl
  · have ha' := tRight_iff.1 ha
    have w1 := (within_iff ha' hb).1 h1
    have w2 := (within_iff hb hc).1 h2
    refine (within_iff ha' hc).2 fun i hi => ⟨fun m => (w2 i hi).1 ((w1 i hi).1 m), fun m => ?_⟩
    have mb : b.m.getLsbD i = false := by
      cases hh : b.m.getLsbD i
      · rfl
      · rw [(w2 i hi).1 hh] at m; cases m
    rw [(w1 i hi).2 mb, (w2 i hi).2 m]
theorem Nar.trans {a b c : Rn} (h1 : Nar a b) (h2 : Nar b c) (hb : Rgt b.b) (hc : Rgt c.b) : Nar a c :=
  have a1 := h1.lo; have a2 := h1.hi; have a3 := h1.sl; have a4 := h1.sh
  have b1 := h2.lo; have b2 := h2.hi; have b3 := h2.sl; have b4 := h2.sh
  ⟨within_trans hb hc h1.b h2.b, by omega, by omega, by omega, by omega⟩
theorem sT1_nar {r : Rn} (h : Rgt r.b) : Nar (sT1 r) r := by
  refine ⟨within_self h, ?_, ?_, Int.le_refl _, Int.le_refl _⟩
  · show qn r.lo ≤ qn (uMax r.lo r.b.v)
    rw [qn_uMax]; split <;> omega
  · show qn (uMin r.hi (r.b.v ||| r.b.m)) ≤ qn r.hi
    rw [qn_uMin]; split <;> omega
theorem sT2_nar {r : Rn} (h : Rgt r.b) : Nar (sT2 r) r := by
  unfold sT2
  cases BitVec.sle r.lo r.hi
  · exact Nar.refl h
  · simp only [cond_true]
    refine ⟨within_self h, Int.le_refl _, Int.le_refl _, ?_, ?_⟩
    · show sn r.sl ≤ sn (sMax r.sl r.lo)
      rw [sn_sMax]; split <;> omega
    · show sn (sMin r.sh r.hi) ≤ sn r.sh
      rw [sn_sMin]; split <;> omega
theorem sT3_nar {r : Rn} (h : Rgt r.b) : Nar (sT3 r) r := by
  unfold sT3
  cases (BitVec.sle 0#64 r.sl || BitVec.slt r.sh 0#64)
  · exact Nar.refl h
  · simp only [cond_true]
    refine ⟨within_self h, ?_, ?_, Int.le_refl _, Int.le_refl _⟩
    · show qn r.lo ≤ qn (uMax r.lo r.sl)
      rw [qn_uMax]; split <;> omega
    · show qn (uMin r.hi r.sh) ≤ qn r.hi
      rw [qn_uMin]; split <;> omega
theorem sT2_b (r : Rn) : (sT2 r).b = r.b := by unfold sT2; cases BitVec.sle r.lo r.hi <;> rfl
theorem sT3_b (r : Rn) : (sT3 r).b = r.b := by unfold sT3; cases (BitVec.sle 0#64 r.sl || BitVec.slt r.sh 0#64) <;> rfl
theorem sT4_nar {r : Rn} (h : Rgt r.b) (h2 : (sT4 r).2 = true) : Nar (sT4 r).1 r ∧ Rgt (sT4 r).1.b ∧ qn (sT4 r).1.lo ≤ qn (sT4 r).1.hi ∧ sn (sT4 r).1.sl ≤ sn (sT4 r).1.sh := by
  unfold sT4 at h2 ⊢
  cases hm : meetB r.b (sAlike r.lo r.hi)
  · rw [hm] at h2; cases h2
  cases h3 : BitVec.ult r.hi r.lo
  · cases h4 : BitVec.slt r.sh r.sl
    · rw [ult_qn, decide_eq_false_iff_not] at h3
      rw [slt_sn, decide_eq_false_iff_not] at h4
      exact ⟨⟨within_meet_l h (alike_rgt _ _) hm, Int.le_refl _, Int.le_refl _, Int.le_refl _, Int.le_refl _⟩, meet_rgt h (alike_rgt _ _) hm, by show qn r.lo ≤ qn r.hi; omega, by show sn r.sl ≤ sn r.sh; omega⟩
    · rw [hm, h3, h4] at h2; cases h2
  · rw [hm, h3] at h2; cases h2
/-- What is settled is within the range; its bounds don't cross. -/
theorem settle_nar {r : Rn} (h : (settleF r).2 = true) : Nar (settleF r).1 r ∧ Rgt (settleF r).1.b ∧ Rgt r.b ∧ qn (settleF r).1.lo ≤ qn (settleF r).1.hi ∧ sn (settleF r).1.sl ≤ sn (settleF r).1.sh := by
  unfold settleF at h ⊢
  cases hr : tRight r.b
  · rw [hr] at h; cases h
  have R := tRight_iff.1 hr
  rw [hr, cond_true] at h
  rw [cond_true]
  have b1 : Rgt (sT1 r).b := R
  have b2 : Rgt (sT2 (sT1 r)).b := by rw [sT2_b]; exact R
  have b3 : Rgt (sT3 (sT2 (sT1 r))).b := by rw [sT3_b, sT2_b]; exact R
  obtain ⟨n4, r4, o1, o2⟩ := sT4_nar b3 h
  exact ⟨((n4.trans (sT3_nar b2) b3 b2).trans (sT2_nar b1) b2 b1).trans (sT1_nar R) b1 R, r4, R, o1, o2⟩
end Go.Proofs.YtbbfdehipgkjmaaDoor
