/- Plain: what an operation makes of numbers is one of what it makes of ranges. -/
import Derived.Test.YtmdcopmgkhjfnaaSm7
import Derived.Test.YtmdcopmgkhjfnaaNss
namespace Go.Proofs.Ytmdcopmgkhjfnaa
open Go
theorem shL_mem (f : W → Rn) (c d : W → Bool) : ∀ n k, k < n → c (kw k) = true → d (kw k) = true → f (kw k) ∈ shL f c d n
  | 0, k, h, _, _ => absurd h (by omega)
  | n + 1, k, h, hc, hd => by
    unfold shL
    by_cases e : k = n
    · subst e
      rw [hc, hd]
      simp only [cond_true, List.mem_append, List.mem_singleton, or_true]
    · have ih := shL_mem f c d n k (by omega) hc hd
      cases c (kw n) <;> cases d (kw n) <;> simp only [cond_true, cond_false, List.mem_append] <;> first | exact ih | exact .inl ih
theorem shL_all {P : Rn → Prop} (f : W → Rn) (c d : W → Bool) : ∀ n, (∀ k, k < n → P (f (kw k))) → ∀ r ∈ shL f c d n, P r
  | 0, _, r, hr => by cases hr
  | n + 1, h, r, hr => by
    have ih := shL_all f c d n (fun k hk => h k (by omega))
    unfold shL at hr
    cases hc : c (kw n) <;> cases hd : d (kw n) <;> rw [hc] at hr <;> (try rw [hd] at hr) <;> simp only [cond_true, cond_false, List.mem_append, List.mem_singleton] at hr <;> first | exact ih r hr | (rcases hr with hr | rfl; exact ih r hr; exact h n (by omega))
theorem joinN_rgt (l : List Rn) : ∀ n, Rgt (joinN l n).b
  | 0 => by show Rgt zeroN; unfold Rgt zeroN; decide
  | n + 1 => known_rgt _ _
theorem joinN_in {l : List Rn} {x : W} (hr : ∀ r ∈ l, Rgt r.b) : ∀ n k, n ≤ l.length → k < n → In (l.getD k zeroR) x → In (joinN l n) x
  | 0, k, _, h, _ => absurd h (by omega)
  | n + 1, k, hl, h, hx => by
    have g : ∀ j, j < l.length → Rgt (l.getD j zeroR).b := fun j hj => by
      rw [List.getD_eq_getElem?_getD, List.getElem?_eq_getElem hj]
      exact hr _ (List.getElem_mem hj)
    show In (joinR (if n = 0 then l.getD 0 zeroR else joinN l n) (l.getD n zeroR)) x
    by_cases e : k = n
    · subst e
      refine join_in_r hx ?_
      split
      · exact g 0 (by omega)
      · exact joinN_rgt l k
    · have h0 : ¬ n = 0 := by omega
      rw [if_neg h0]
      exact join_in_l (joinN_in hr n k (by omega) (by omega) hx) (g n (by omega))
theorem joinN_mem {l : List Rn} {x : W} {r : Rn} (hr : ∀ r ∈ l, Rgt r.b) (hm : r ∈ l) (hx : In r x) : In (joinN l l.length) x := by
  obtain ⟨k, hk, e⟩ := List.getElem_of_mem hm
  refine joinN_in hr l.length k (Nat.le_refl _) hk ?_
  rw [List.getD_eq_getElem?_getD, List.getElem?_eq_getElem hk]
  show In l[k] x
  rw [e]; exact hx
theorem kw_qn {k : Nat} (h : k < 64) : qn (kw k) = k := by unfold qn kw; rw [BitVec.toNat_ofNat]; omega
theorem shift_in {f : W → Rn} {g : Nat → W} {b : Rn} {y : W} (m p : W) (n : Nat) (hn : (n = 64 ∧ m = 64#64 ∧ p = 63#64) ∨ (n = 32 ∧ m = 32#64 ∧ p = 31#64)) (hb : In b y) (hf : ∀ k, k < n → In (f (kw k)) (g k)) :
    In (joinN (shL f (fun w => BitVec.ule ((w - b.lo) % m) (b.hi - b.lo)) (fun w => tHas (tAnd b.b (tConst p)) w) n) (shL f (fun w => BitVec.ule ((w - b.lo) % m) (b.hi - b.lo)) (fun w => tHas (tAnd b.b (tConst p)) w) n).length) (g (y % m).toNat) := by
  have hy := qn_lo y
  have hk : (y % m).toNat < n ∧ kw (y % m).toNat = y % m ∧ y &&& p = y % m := by
    rcases hn with ⟨rfl, rfl, rfl⟩ | ⟨rfl, rfl, rfl⟩
    · have e : (y % 64#64).toNat = y.toNat % 64 := by rw [BitVec.toNat_umod]; rfl
      refine ⟨by omega, ?_, ?_⟩
      · apply BitVec.eq_of_toNat_eq; unfold kw; rw [BitVec.toNat_ofNat, e]; omega
      · apply BitVec.eq_of_toNat_eq; rw [e, BitVec.toNat_and]; exact Nat.and_two_pow_sub_one_eq_mod y.toNat 6
    · have e : (y % 32#64).toNat = y.toNat % 32 := by rw [BitVec.toNat_umod]; rfl
      refine ⟨by omega, ?_, ?_⟩
      · apply BitVec.eq_of_toNat_eq; unfold kw; rw [BitVec.toNat_ofNat, e]; omega
      · apply BitVec.eq_of_toNat_eq; rw [e, BitVec.toNat_and]; exact Nat.and_two_pow_sub_one_eq_mod y.toNat 5
  obtain ⟨hlt, hkw, hand⟩ := hk
  have hm := hf _ hlt
  refine joinN_mem (r := f (kw (y % m).toNat)) ?_ (shL_mem f _ _ n _ hlt ?_ ?_) hm
  · exact shL_all f _ _ n (P := fun r => Rgt r.b) (fun k hk => has_rgt (hf k hk).b)
  · show BitVec.ule ((kw (y % m).toNat - b.lo) % m) (b.hi - b.lo) = true
    rw [hkw, ule_qn, decide_eq_true_eq, qn_mod, qn_subW, qn_subW, qn_mod]
    have h1 := hb.lo; have h2 := hb.hi; have h3 := qn_lo b.lo; have h4 := qn_hi b.hi; have h5 := qn_hi y
    rcases hn with ⟨_, rfl, _⟩ | ⟨_, rfl, _⟩
    · rw [show qn 64#64 = 64 by decide]; omega
    · rw [show qn 32#64 = 32 by decide]; omega
  · show tHas (tAnd b.b (tConst p)) (kw (y % m).toNat) = true
    rw [hkw, ← hand]
    exact and_has hb.b (const_has p)
theorem kw_toNat {k : Nat} (h : k < 64) : (kw k).toNat = k := by unfold kw; rw [BitVec.toNat_ofNat]; omega
theorem shRl_in {sh : Rn → W → Rn} {ev : W → Nat → W} {a b : Rn} {x y : W} (hs : ∀ n : W, n.toNat < 64 → In (sh a n) (ev x n.toNat)) (hb : In b y) : In (shRl sh a b) (ev x (y % 64#64).toNat) :=
  shift_in (f := fun n => tightR (sh a n)) (g := ev x) 64#64 63#64 64 (.inl ⟨rfl, rfl, rfl⟩) hb (fun k hk => by
    have := tight_in (hs (kw k) (by rw [kw_toNat hk]; exact hk))
    rwa [kw_toNat hk] at this)
theorem shRs_in {sh : Rn → W → Rn} {ev : W → Nat → W} {a b : Rn} {x y : W} (hs : ∀ n : W, n.toNat < 64 → In (sh a n) (ev x n.toNat)) (hb : In b y) : In (shRs sh a b) (ev x (y % 32#64).toNat) :=
  shift_in (f := fun n => tightR (sh a n)) (g := ev x) 32#64 31#64 32 (.inr ⟨rfl, rfl, rfl⟩) hb (fun k hk => by
    have h64 : k < 64 := by omega
    have := tight_in (hs (kw k) (by rw [kw_toNat h64]; exact h64))
    rwa [kw_toNat h64] at this)
theorem shR12s_in {a b : Rn} {x y : W} (ha : In a x) (hb : In b y) : In (shR12s a b) ((x <<< 32).sshiftRight ((y % 32#64).toNat + 32)) :=
  shift_in (f := fun n => tightR (shByR12 (tightR (shUpR a 32#64)) (n + 32#64))) (g := fun k => (x <<< 32).sshiftRight (k + 32)) 32#64 31#64 32 (.inr ⟨rfl, rfl, rfl⟩) hb (fun k hk => by
    have h1 := tight_in (shUp_in (n := 32#64) ha (by decide))
    have h2 := tight_in (sh12_in (n := kw k + 32#64) h1)
    have e : (kw k + 32#64).toNat = k + 32 := by rw [BitVec.toNat_add, kw_toNat (by omega)]; show (k + 32) % 2 ^ 64 = _; omega
    rw [e] at h2
    exact h2)
end Go.Proofs.Ytmdcopmgkhjfnaa
