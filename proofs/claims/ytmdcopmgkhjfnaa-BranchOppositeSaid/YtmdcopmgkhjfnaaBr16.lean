/- Plain: the least number of some bits from one on. -/
import Derived.Test.YtmdcopmgkhjfnaaBr1
namespace Go.Proofs.Ytmdcopmgkhjfnaa
theorem low_bit : ∀ k i : Fin 64, (1#64 <<< k.val - 1#64).getLsbD i.val = decide (i.val < k.val) := by decide +kernel
theorem one_bit : ∀ k i : Fin 64, (1#64 <<< k.val).getLsbD i.val = decide (i.val = k.val) := by decide +kernel
theorem nobX_bit (a : Nm) (f : W) {k i : Nat} (hk : k < 64) (hi : i < 64) : (nobX a f k).getLsbD i = if i < k then a.v.getLsbD i else if i = k then true else f.getLsbD i := by
  have e1 := low_bit ⟨k, hk⟩ ⟨i, hi⟩
  have e2 := one_bit ⟨k, hk⟩ ⟨i, hi⟩
  simp only at e1 e2
  unfold nobX
  rw [BitVec.getLsbD_or, BitVec.getLsbD_or, BitVec.getLsbD_and, BitVec.getLsbD_and, BitVec.getLsbD_not, e1, e2]
  by_cases h1 : i < k
  · have h2 : ¬ i = k := by omega
    simp [h1, h2]
  · by_cases h2 : i = k
    · simp [h2]
    · simp [h1, h2, hi]
theorem lt_of_bit {x y : W} {k : Nat} (hx : x.getLsbD k = false) (hy : y.getLsbD k = true) (h : ∀ i, k < i → x.getLsbD i = y.getLsbD i) : x.toNat < y.toNat := by
  have e : x.toNat / 2 ^ (k + 1) = y.toNat / 2 ^ (k + 1) := Nat.eq_of_testBit_eq fun i => by
    rw [Nat.testBit_div_two_pow, Nat.testBit_div_two_pow]
    exact h _ (by omega)
  have hx' : x.toNat.testBit k = false := hx
  have hy' : y.toNat.testBit k = true := hy
  rw [Nat.testBit_eq_decide_div_mod_eq, decide_eq_false_iff_not] at hx'
  rw [Nat.testBit_eq_decide_div_mod_eq, decide_eq_true_eq] at hy'
  rw [Nat.pow_succ, ← Nat.div_div_eq_div_mul, ← Nat.div_div_eq_div_mul] at e
  apply Nat.lt_of_not_le
  intro hle
  have := Nat.div_le_div_right (c := 2 ^ k) hle
  omega
theorem differ {f z : W} (h : f.toNat < z.toNat) : ∃ k, k < 64 ∧ f.getLsbD k = false ∧ z.getLsbD k = true ∧ ∀ i, k < i → f.getLsbD i = z.getLsbD i := by
  have H : ∀ n, n ≤ 64 → (∀ i, n ≤ i → f.getLsbD i = z.getLsbD i) → ∃ k, k < 64 ∧ f.getLsbD k = false ∧ z.getLsbD k = true ∧ ∀ i, k < i → f.getLsbD i = z.getLsbD i := by
    intro n
    induction n with
    | zero =>
      intro _ hh
      have e : f = z := BitVec.eq_of_getLsbD_eq fun i _ => hh i (Nat.zero_le i)
      rw [e] at h; exact absurd h (Nat.lt_irrefl _)
    | succ n ih =>
      intro hn hh
      cases hf : f.getLsbD n <;> cases hz : z.getLsbD n
      · exact ih (by omega) fun i hi => by
          by_cases e : i = n
          · rw [e, hf, hz]
          · exact hh i (by omega)
      · exact ⟨n, by omega, hf, hz, fun i hi => hh i (by omega)⟩
      · have := lt_of_bit hz hf fun i hi => (hh i (by omega)).symm
        omega
      · exact ih (by omega) fun i hi => by
          by_cases e : i = n
          · rw [e, hf, hz]
          · exact hh i (by omega)
  exact H 64 (Nat.le_refl _) fun i hi => by rw [BitVec.getLsbD_of_ge _ _ hi, BitVec.getLsbD_of_ge _ _ hi]
theorem and_bit (f : W) {k : Nat} (hk : k < 64) : (f &&& 1#64 <<< k == 0#64) = !f.getLsbD k := by
  have e2 : ∀ i, i < 64 → (1#64 <<< k).getLsbD i = decide (i = k) := fun i hi => one_bit ⟨k, hk⟩ ⟨i, hi⟩
  cases h : f.getLsbD k
  · rw [Bool.not_false, beq_iff_eq]
    apply BitVec.eq_of_getLsbD_eq
    intro i hi
    rw [BitVec.getLsbD_and, e2 i hi, BitVec.getLsbD_zero]
    by_cases e : i = k
    · rw [e, h]; rfl
    · simp [e]
  · rw [Bool.not_true, beq_eq_false_iff_ne]
    intro e
    have : (f &&& 1#64 <<< k).getLsbD k = true := by rw [BitVec.getLsbD_and, h, e2 k hk]; simp
    rw [e, BitVec.getLsbD_zero] at this; cases this
theorem hs_bit {a : Nm} {z : W} (h : tHas a z = true) {i : Nat} (hi : i < 64) : a.v.getLsbD i = (z.getLsbD i && !a.m.getLsbD i) := by
  have e : z &&& ~~~a.m = a.v := by unfold tHas at h; exact beq_iff_eq.1 h
  rw [← e, BitVec.getLsbD_and, BitVec.getLsbD_not]; simp [hi]
theorem has_of_bit {a : Nm} {z : W} (h : ∀ i, i < 64 → a.v.getLsbD i = (z.getLsbD i && !a.m.getLsbD i)) : tHas a z = true := by
  unfold tHas
  rw [beq_iff_eq]
  apply BitVec.eq_of_getLsbD_eq
  intro i hi
  rw [h i hi, BitVec.getLsbD_and, BitVec.getLsbD_not]; simp [hi]
section
variable {a : Nm} {f z : W} {q : Nat} (hq : q < 64) (hf : f.getLsbD q = false) (hz : z.getLsbD q = true) (hh : ∀ i, q < i → f.getLsbD i = z.getLsbD i) (ha : tHas a z = true)
include hq hz hh ha
theorem nobX_has : tHas a (nobX a f q) = true := has_of_bit fun i hi => by
  have e := hs_bit ha hi
  rw [nobX_bit a f hq hi]
  split
  · rw [e]; cases z.getLsbD i <;> cases a.m.getLsbD i <;> rfl
  · split
    · rename_i h; rw [e, h, hz]
    · rw [e, hh i (by omega)]
theorem nobX_le : (nobX a f q).toNat ≤ z.toNat := by
  have e : nobX a f q = nobX a f q &&& z := by
    apply BitVec.eq_of_getLsbD_eq
    intro i hi
    have e := hs_bit ha hi
    rw [BitVec.getLsbD_and, nobX_bit a f hq hi]
    split
    · rw [e]; cases z.getLsbD i <;> cases a.m.getLsbD i <;> rfl
    · split
      · rename_i h; rw [h, hz]; rfl
      · rw [hh i (by omega)]; cases z.getLsbD i <;> rfl
  rw [e, BitVec.toNat_and]
  exact Nat.and_le_right
include hf
omit ha in
theorem nobX_lt {k : Nat} (hk : k < q) : (nobX a f k).toNat < z.toNat := by
  refine lt_of_bit (k := q) ?_ hz ?_
  · rw [nobX_bit a f (by omega) hq, if_neg (by omega), if_neg (by omega)]; exact hf
  · intro i hi
    by_cases h : i < 64
    · rw [nobX_bit a f (by omega) h, if_neg (by omega), if_neg (by omega)]; exact hh i hi
    · rw [BitVec.getLsbD_of_ge _ _ (by omega), BitVec.getLsbD_of_ge _ _ (by omega)]
theorem nobR_least : ∀ n k, n + k = 64 → k ≤ q → (nobR a f n k).2 = true ∧ (nobR a f n k).1.toNat ≤ z.toNat
  | 0, k, h, hk => by omega
  | n + 1, k, h, hk => by
    have IH := fun (hk' : k + 1 ≤ q) => nobR_least n (k + 1) (by omega) hk'
    unfold nobR
    rw [and_bit f (show k < 64 by omega)]
    cases h1 : f.getLsbD k
    · rw [Bool.not_false, cond_true]
      cases h2 : tHas a (nobX a f k)
      · rw [cond_false]
        refine IH ?_
        by_cases e : k = q
        · rw [e, nobX_has hq hz hh ha] at h2; cases h2
        · omega
      · rw [cond_true]
        refine ⟨rfl, ?_⟩
        by_cases e : k = q
        · rw [e]; exact nobX_le hq hz hh ha
        · exact Nat.le_of_lt (nobX_lt hq hf hz hh (by omega))
    · rw [Bool.not_true, cond_false]
      refine IH ?_
      by_cases e : k = q
      · rw [e, hf] at h1; cases h1
      · omega
end
theorem nobX_gt {a : Nm} {f : W} {k : Nat} (hk : k < 64) (hf : f.getLsbD k = false) : f.toNat < (nobX a f k).toNat := by
  refine lt_of_bit (k := k) hf ?_ ?_
  · rw [nobX_bit a f hk hk, if_neg (by omega), if_pos rfl]
  · intro i hi
    by_cases h : i < 64
    · rw [nobX_bit a f hk h, if_neg (by omega), if_neg (by omega)]
    · rw [BitVec.getLsbD_of_ge _ _ (by omega), BitVec.getLsbD_of_ge _ _ (by omega)]
theorem nobR_gt {a : Nm} {f : W} : ∀ n k, n + k = 64 → (nobR a f n k).2 = true → f.toNat < (nobR a f n k).1.toNat ∧ tHas a (nobR a f n k).1 = true
  | 0, k, h, h2 => by unfold nobR at h2; cases h2
  | n + 1, k, h, h2 => by
    have IH := nobR_gt n (k + 1) (by omega) (a := a) (f := f)
    unfold nobR at h2 ⊢
    rw [and_bit f (show k < 64 by omega)] at h2 ⊢
    cases h1 : f.getLsbD k
    · rw [h1, Bool.not_false, cond_true] at h2
      rw [Bool.not_false, cond_true]
      cases h3 : tHas a (nobX a f k)
      · rw [h3, cond_false] at h2; rw [cond_false]; exact IH h2
      · rw [cond_true]; exact ⟨nobX_gt (by omega) h1, h3⟩
    · rw [h1, Bool.not_true, cond_false] at h2; rw [Bool.not_true, cond_false]; exact IH h2
/-- The least number of these bits from f on. -/
theorem nob_least {a : Nm} {f z : W} (hz : f.toNat ≤ z.toNat) (ha : tHas a z = true) : (nobF a f).2 = true ∧ (nobF a f).1.toNat ≤ z.toNat := by
  unfold nobF
  cases h : tHas a f
  · rw [cond_false]
    have hne : f.toNat ≠ z.toNat := fun e => by
      rw [BitVec.eq_of_toNat_eq e, ha] at h; cases h
    obtain ⟨q, hq, hf, hz', hh⟩ := differ (show f.toNat < z.toNat by omega)
    exact nobR_least hq hf hz' hh ha 64 0 rfl (Nat.zero_le _)
  · rw [cond_true]; exact ⟨rfl, hz⟩
theorem nob_ge {a : Nm} {f : W} (h : (nobF a f).2 = true) : f.toNat ≤ (nobF a f).1.toNat ∧ tHas a (nobF a f).1 = true := by
  unfold nobF at h ⊢
  cases h1 : tHas a f
  · rw [h1, cond_false] at h
    rw [cond_false]
    obtain ⟨g1, g2⟩ := nobR_gt 64 0 rfl h
    exact ⟨Nat.le_of_lt g1, g2⟩
  · rw [cond_true]; exact ⟨Nat.le_refl _, h1⟩
end Go.Proofs.Ytmdcopmgkhjfnaa
