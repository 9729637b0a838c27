/- Plain: what operations make of numbers is among what they make of ranges: shifts. Plain: what an operation makes of numbers is one of what it makes of ranges. Plain: what an operation makes of numbers is one of what Do makes of ranges. -/
import Derived.Test.YtbbfdehipgkjmaaDoorMgSm6
import Derived.Test.YtbbfdehipgkjmaaDoorMgYv
namespace Go.Proofs.YtbbfdehipgkjmaaDoor
open Go
theorem tw_sn (n : W) : (tw (sn n)).toNat = n.toNat % 64 := by
  rw [tw_nat]; unfold tn
  have := qs n
  unfold qn at this
  omega
theorem qn_shl (x : W) (k : Nat) : qn (x <<< k) = (qn x * 2 ^ k) % 18446744073709551616 := by
  unfold qn
  rw [BitVec.toNat_shiftLeft, Nat.shiftLeft_eq]
  have e : ((x.toNat : Int) * 2 ^ k) = ((x.toNat * 2 ^ k : Nat) : Int) := by rw [Int.natCast_mul]; norm_cast
  rw [e]
  generalize x.toNat * 2 ^ k = n
  omega
theorem qn_shr (x : W) (k : Nat) : qn (x >>> k) = qn x / 2 ^ k := by
  unfold qn
  rw [BitVec.toNat_ushiftRight, Nat.shiftRight_eq_div_pow]
  norm_cast
theorem sn_sshr (x : W) (k : Nat) : sn (x.sshiftRight k) = sn x / 2 ^ k := by
  unfold sn; rw [BitVec.toInt_sshiftRight, Int.shiftRight_eq_div_pow]; norm_cast
theorem sn_shl {x : W} {k : Nat} (hk : k < 64) (h1 : -9223372036854775808 ≤ sn x * 2 ^ k) (h2 : sn x * 2 ^ k < 9223372036854775808) : sn (x <<< k) = sn x * 2 ^ k := by
  have e := shl_sn x k
  rw [Nat.min_eq_left (by omega), wrap_s, sn_ofInt] at e
  generalize sn x * 2 ^ k = z at *
  rw [← e]; split <;> omega
theorem sn_shl_mod (x : W) {k : Nat} (hk : k < 64) : ∃ j : Int, sn (x <<< k) = sn x * 2 ^ k + 18446744073709551616 * j := by
  have e := shl_sn x k
  rw [Nat.min_eq_left (by omega), wrap_s, sn_ofInt] at e
  generalize sn x * 2 ^ k = z at *
  rw [← e]
  split
  · exact ⟨-(z / 18446744073709551616), by omega⟩
  · exact ⟨-(z / 18446744073709551616) - 1, by omega⟩
theorem back_u {h : W} {k : Nat} (e : ((h <<< k) >>> k == h) = true) : qn h * 2 ^ k < 18446744073709551616 := by
  rw [beq_iff_eq] at e
  have e1 := congrArg qn e
  rw [qn_shr, qn_shl] at e1
  have p := p2 k
  have h1 := Int.ediv_mul_le (qn h * 2 ^ k % 18446744073709551616) (show (2 : Int) ^ k ≠ 0 by omega)
  rw [e1] at h1
  have h2 : qn h * 2 ^ k % 18446744073709551616 < 18446744073709551616 := Int.emod_lt_of_pos _ (by decide)
  omega
theorem back_s {h : W} {k : Nat} (hk : k < 64) (e : (BitVec.sshiftRight (h <<< k) k == h) = true) : sn (h <<< k) = sn h * 2 ^ k := by
  rw [beq_iff_eq] at e
  have e1 := congrArg sn e
  rw [sn_sshr] at e1
  have p := p2 k
  have pk : (2 : Int) ^ k ≤ 9223372036854775808 := by
    have := Nat.pow_le_pow_right (show 0 < 2 by decide) (show k ≤ 63 by omega)
    have h63 : (2 : Nat) ^ 63 = 9223372036854775808 := by decide
    rw [h63] at this
    have h2 : (2 : Int) ^ k = ((2 ^ k : Nat) : Int) := by norm_cast
    rw [h2]; exact Int.ofNat_le.2 this
  have h1 := Int.ediv_mul_le (sn (h <<< k)) (show (2 : Int) ^ k ≠ 0 by omega)
  have h2 := Int.lt_ediv_add_one_mul_self (sn (h <<< k)) p
  rw [e1] at h1 h2
  obtain ⟨j, hj⟩ := sn_shl_mod h hk
  rw [Int.add_mul, Int.one_mul] at h2
  generalize sn h * 2 ^ k = z at *
  omega
theorem mul_mono {a b : Int} (h : a ≤ b) (k : Nat) : a * 2 ^ k ≤ b * 2 ^ k := Int.mul_le_mul_of_nonneg_right h (Int.le_of_lt (p2 k))
theorem shUp_in {a : Rn} {x n : W} (h : In a x) (hn : n.toNat < 64) : In (shUpR a n) (x <<< n.toNat) := by
  have et : (tw (sn n)).toNat = n.toNat := by rw [tw_sn]; omega
  have o := obR_in (left_has h.b (tw (sn n)).toNat)
  rw [et] at o
  unfold shUpR
  rw [et]
  obtain ⟨k, ek⟩ : ∃ k, k = n.toNat := ⟨_, rfl⟩
  rw [← ek] at hn o ⊢
  have U : ((a.hi <<< k) >>> k == a.hi) = true → qn (a.lo <<< k) ≤ qn (x <<< k) ∧ qn (x <<< k) ≤ qn (a.hi <<< k) := fun e => by
    have hh := back_u e
    have m1 := mul_mono h.lo k; have m2 := mul_mono h.hi k
    have m0 : 0 ≤ qn a.lo * 2 ^ k := Int.mul_nonneg (qn_lo _) (Int.le_of_lt (p2 k))
    rw [qn_shl, qn_shl, qn_shl, Int.emod_eq_of_lt (by omega) (by omega), Int.emod_eq_of_lt (by omega) (by omega), Int.emod_eq_of_lt (by omega) hh]
    exact ⟨m1, m2⟩
  have S : (BitVec.sshiftRight (a.sl <<< k) k == a.sl) = true → (BitVec.sshiftRight (a.sh <<< k) k == a.sh) = true → sn (a.sl <<< k) ≤ sn (x <<< k) ∧ sn (x <<< k) ≤ sn (a.sh <<< k) := fun e f => by
    have e1 := back_s hn e; have f1 := back_s hn f
    have m1 := mul_mono h.sl k; have m2 := mul_mono h.sh k
    have b1 := sn_bnd (a.sl <<< k); have b2 := sn_bnd (a.sh <<< k)
    rw [e1] at b1 ⊢
    rw [f1] at b2 ⊢
    rw [sn_shl hn (by omega) (by omega)]
    exact ⟨m1, m2⟩
  cases hu : ((a.hi <<< k) >>> k == a.hi) <;> cases h1 : (BitVec.sshiftRight (a.sl <<< k) k == a.sl) <;> cases h2 : (BitVec.sshiftRight (a.sh <<< k) k == a.sh) <;> simp only [cond_true, cond_false]
  · exact o
  · exact o
  · exact o
  · exact ⟨o.b, o.lo, o.hi, (S h1 h2).1, (S h1 h2).2⟩
  · exact ⟨o.b, (U hu).1, (U hu).2, o.sl, o.sh⟩
  · exact ⟨o.b, (U hu).1, (U hu).2, o.sl, o.sh⟩
  · exact ⟨o.b, (U hu).1, (U hu).2, o.sl, o.sh⟩
  · exact ⟨o.b, (U hu).1, (U hu).2, (S h1 h2).1, (S h1 h2).2⟩
theorem zero_of {n : W} (h : (n == 0#64) = true) : n.toNat = 0 := by rw [beq_iff_eq.1 h]; rfl
theorem sh6_in {a : Rn} {x n : W} (h : In a x) (hn : n.toNat < 64) : In (shByR6 a n) (x <<< n.toNat) := by
  unfold shByR6
  cases hz : (n == 0#64) <;> simp only [cond_true, cond_false]
  · exact shUp_in h hn
  · rw [zero_of hz, BitVec.shiftLeft_zero]; exact h
end Go.Proofs.YtbbfdehipgkjmaaDoor
namespace Go.Proofs.YtbbfdehipgkjmaaDoor
open Go
theorem shL_mem (f : W → Rn) (c d : W → Bool) : ∀ n k, k < n → c (kw k) = true → d (kw k) = true → f (kw k) ∈ shL f c d n
  | 0, k, h, _, _ => absurd h (by omega)
  | n + 1, k, h, hc, hd => by
    unfold shL
    by_cases e : k = n
    · subst e
      rw [hc, hd]
      simp only [cond_true, List.mem_append, List.mem_singleton, or_true]
    · have ih := shL_mem f c d n k (by omega) hc hd
      cases c (kw n) <;> cases d (kw n) <;> simp only [cond_true, cond_false, List.mem_append] <;> first | exact ih | exact .inl ih
theorem shL_all {P : Rn → Prop} (f : W → Rn) (c d : W → Bool) : ∀ n, (∀ k, k < n → P (f (kw k))) → ∀ r ∈ shL f c d n, P r
  | 0, _, r, hr => by cases hr
  | n + 1, h, r, hr => by
    have ih := shL_all f c d n (fun k hk => h k (by omega))
    unfold shL at hr
    cases hc : c (kw n) <;> cases hd : d (kw n) <;> rw [hc] at hr <;> (try rw [hd] at hr) <;> simp only [cond_true, cond_false, List.mem_append, List.mem_singleton] at hr <;> first | exact ih r hr | (rcases hr with hr | rfl; exact ih r hr; exact h n (by omega))
theorem joinN_rgt (l : List Rn) : ∀ n, Rgt (joinN l n).b
  | 0 => by show Rgt zeroN; unfold Rgt zeroN; decide
  | n + 1 => known_rgt _ _
theorem joinN_in {l : List Rn} {x : W} (hr : ∀ r ∈ l, Rgt r.b) : ∀ n k, n ≤ l.length → k < n → In (l.getD k zeroR) x → In (joinN l n) x
  | 0, k, _, h, _ => absurd h (by omega)
  | n + 1, k, hl, h, hx => by
    have g : ∀ j, j < l.length → Rgt (l.getD j zeroR).b := fun j hj => by
      rw [List.getD_eq_getElem?_getD, List.getElem?_eq_getElem hj]
      exact hr _ (List.getElem_mem hj)
    show In (joinR (if n = 0 then l.getD 0 zeroR else joinN l n) (l.getD n zeroR)) x
    by_cases e : k = n
    · subst e
      refine join_in_r hx ?_
      split
      · exact g 0 (by omega)
      · exact joinN_rgt l k
    · have h0 : ¬ n = 0 := by omega
      rw [if_neg h0]
      exact join_in_l (joinN_in hr n k (by omega) (by omega) hx) (g n (by omega))
theorem joinN_mem {l : List Rn} {x : W} {r : Rn} (hr : ∀ r ∈ l, Rgt r.b) (hm : r ∈ l) (hx : In r x) : In (joinN l l.length) x := by
  obtain ⟨k, hk, e⟩ := List.getElem_of_mem hm
  refine joinN_in hr l.length k (Nat.le_refl _) hk ?_
  rw [List.getD_eq_getElem?_getD, List.getElem?_eq_getElem hk]
  show In l[k] x
  rw [e]; exact hx
theorem shift_in {f : W → Rn} {g : Nat → W} {b : Rn} {y : W} (m p : W) (n : Nat) (hn : (n = 64 ∧ m = 64#64 ∧ p = 63#64) ∨ (n = 32 ∧ m = 32#64 ∧ p = 31#64)) (hb : In b y) (hf : ∀ k, k < n → In (f (kw k)) (g k)) :
    In (joinN (shL f (fun w => BitVec.ule ((w - b.lo) % m) (b.hi - b.lo)) (fun w => tHas (tAnd b.b (tConst p)) w) n) (shL f (fun w => BitVec.ule ((w - b.lo) % m) (b.hi - b.lo)) (fun w => tHas (tAnd b.b (tConst p)) w) n).length) (g (y % m).toNat) := by
  have hy := qn_lo y
  have hk : (y % m).toNat < n ∧ kw (y % m).toNat = y % m ∧ y &&& p = y % m := by
    rcases hn with ⟨rfl, rfl, rfl⟩ | ⟨rfl, rfl, rfl⟩
    · have e : (y % 64#64).toNat = y.toNat % 64 := by rw [BitVec.toNat_umod]; rfl
      refine ⟨by omega, ?_, ?_⟩
      · apply BitVec.eq_of_toNat_eq; unfold kw; rw [BitVec.toNat_ofNat, e]; omega
      · apply BitVec.eq_of_toNat_eq; rw [e, BitVec.toNat_and]; exact Nat.and_two_pow_sub_one_eq_mod y.toNat 6
    · have e : (y % 32#64).toNat = y.toNat % 32 := by rw [BitVec.toNat_umod]; rfl
      refine ⟨by omega, ?_, ?_⟩
      · apply BitVec.eq_of_toNat_eq; unfold kw; rw [BitVec.toNat_ofNat, e]; omega
      · apply BitVec.eq_of_toNat_eq; rw [e, BitVec.toNat_and]; exact Nat.and_two_pow_sub_one_eq_mod y.toNat 5
  obtain ⟨hlt, hkw, hand⟩ := hk
  have hm := hf _ hlt
  refine joinN_mem (r := f (kw (y % m).toNat)) ?_ (shL_mem f _ _ n _ hlt ?_ ?_) hm
  · exact shL_all f _ _ n (P := fun r => Rgt r.b) (fun k hk => has_rgt (hf k hk).b)
  · show BitVec.ule ((kw (y % m).toNat - b.lo) % m) (b.hi - b.lo) = true
    rw [hkw, ule_qn, decide_eq_true_eq, qn_mod, qn_subW, qn_subW, qn_mod]
    have h1 := hb.lo; have h2 := hb.hi; have h3 := qn_lo b.lo; have h4 := qn_hi b.hi; have h5 := qn_hi y
    rcases hn with ⟨_, rfl, _⟩ | ⟨_, rfl, _⟩
    · rw [show qn 64#64 = 64 by decide]; omega
    · rw [show qn 32#64 = 32 by decide]; omega
  · show tHas (tAnd b.b (tConst p)) (kw (y % m).toNat) = true
    rw [hkw, ← hand]
    exact and_has hb.b (const_has p)
theorem kw_toNat {k : Nat} (h : k < 64) : (kw k).toNat = k := by unfold kw; rw [BitVec.toNat_ofNat]; omega
theorem shRl_in {sh : Rn → W → Rn} {ev : W → Nat → W} {a b : Rn} {x y : W} (hs : ∀ n : W, n.toNat < 64 → In (sh a n) (ev x n.toNat)) (hb : In b y) : In (shRl sh a b) (ev x (y % 64#64).toNat) :=
  shift_in (f := fun n => tightR (sh a n)) (g := ev x) 64#64 63#64 64 (.inl ⟨rfl, rfl, rfl⟩) hb (fun k hk => by
    have := tight_in (hs (kw k) (by rw [kw_toNat hk]; exact hk))
    rwa [kw_toNat hk] at this)
end Go.Proofs.YtbbfdehipgkjmaaDoor
namespace Go.Proofs.YtbbfdehipgkjmaaDoor
open Go
theorem and_in {a b : Rn} {x y : W} (ha : In a x) (hb : In b y) : In (andR a b) (x &&& y) := by
  have o := bit_in ha hb (and_has ha.b hb.b) (fun m hx hy => hx.and hy)
  have g1 : qn (x &&& y) ≤ qn x := sub_qn (fun i hi => by rw [BitVec.getLsbD_and, Bool.and_eq_true] at hi; exact hi.1)
  have g2 : qn (x &&& y) ≤ qn y := sub_qn (fun i hi => by rw [BitVec.getLsbD_and, Bool.and_eq_true] at hi; exact hi.2)
  have h1 := ha.hi; have h2 := hb.hi
  unfold andR
  refine ⟨o.b, o.lo, ?_, o.sl, o.sh⟩
  show _ ≤ qn (uMin a.hi b.hi)
  rw [qn_uMin]; split <;> omega
theorem one_of {a : Rn} {x : W} (h : In a x) (e : (a.lo == a.hi) = true) : x = a.lo := by
  have e1 := congrArg qn (beq_iff_eq.1 e)
  have h1 := h.lo; have h2 := h.hi
  exact qn_inj (by omega)
end Go.Proofs.YtbbfdehipgkjmaaDoor
