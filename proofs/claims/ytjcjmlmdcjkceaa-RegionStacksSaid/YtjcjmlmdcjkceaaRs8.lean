/- RegionStacks: how the program's stack and the document's stand to each other. -/
import Derived.Test.YtjcjmlmdcjkceaaRs5
import Derived.Test.YtjcjmlmdcjkceaaRs7
namespace Go.Proofs.Ytjcjmlmdcjkceaa
open Go Go.RowKit
def sml (x : W) : Prop := ∀ i, 8 ≤ i → x.getLsbD i = false
theorem sml_255 (y : W) : sml (y &&& 255#64) := fun i hi => by rw [bit_255, decide_eq_false (by omega), Bool.and_false]
theorem sml_0 : sml 0#64 := fun i _ => by simp
theorem sml_id {x : W} (h : sml x) : x &&& 255#64 = x := by
  apply BitVec.eq_of_getLsbD_eq
  intro i _
  rw [bit_255]
  by_cases e : i < 8
  · rw [decide_eq_true e, Bool.and_true]
  · rw [h i (by omega), Bool.false_and]
/-- Both stacks have the same. -/
structure Inv (m : Me) (s : Rk) (L : Nat) : Prop where
  a : ∀ j, j < 64 → m.Wr j = (s.t j == 1)
  b : ∀ j, j < 64 → s.t j = 1 → m.B j = s.n j
  c : ∀ q, q < 8 → s.k q = 0 → m.K q = zeroV
  d : ∀ q, q < 8 → 0 < s.k q → s.k q ≤ L ∧ m.K q = vv (s.k q - 1)
  e : ∀ j, j < 64 → s.k (j / 8) ≠ 0 → s.t j ≠ 1
  s : ∀ j, sml (s.n j)
theorem inv_0 : Inv (newM X0) zeroK 0 := ⟨fun _ _ => rfl, fun _ _ h => absurd h (by show ¬ (0 : Int) = 1; decide), fun _ _ _ => rfl, fun _ _ h => absurd h (by show ¬ 0 < 0; omega), fun _ _ h => absurd rfl h, fun _ => sml_0⟩
theorem Inv.more {m : Me} {s : Rk} {L : Nat} (h : Inv m s L) : Inv m s (L + 1) := ⟨h.a, h.b, h.c, fun q hq h0 => ⟨Nat.le_succ_of_le (h.d q hq h0).1, (h.d q hq h0).2⟩, h.e, h.s⟩
theorem svR_t (s : Rk) (f k : Nat) (x : W) (v j : Nat) : (svR s f k x v).t j = if f ≤ j ∧ j < f + k then whatF v else if tch f k (j / 8) ∧ s.k (j / 8) ≠ 0 then 0 else s.t j := rfl
theorem svR_n (s : Rk) (f k : Nat) (x : W) (v j : Nat) : (svR s f k x v).n j = if f ≤ j ∧ j < f + k then (x >>> (8 * (j - f))) &&& 255#64 else if tch f k (j / 8) ∧ s.k (j / 8) ≠ 0 then 0#64 else s.n j := rfl
theorem svR_k (s : Rk) (f k : Nat) (x : W) (v q : Nat) : (svR s f k x v).k q = if 0 < v ∧ q = f / 8 then v else if tch f k q then 0 else s.k q := rfl
theorem tch_in {f k j : Nat} (h : f ≤ j ∧ j < f + k) : tch f k (j / 8) := ⟨by omega, by omega, by omega⟩
theorem svR_s {s : Rk} (h : ∀ j, sml (s.n j)) (f k : Nat) (x : W) (v j : Nat) : sml ((svR s f k x v).n j) := by
  rw [svR_n]
  split
  · exact sml_255 _
  split
  · exact sml_0
  · exact h j
theorem Inv.num {m : Me} {s : Rk} {L : Nat} (h : Inv m s L) (f k : Nat) (x : W) (hf : f + k ≤ 64) : Inv (byM (wrM m f k) f k x) (svR s f k x 0) L := by
  refine ⟨fun j hj => ?_, fun j hj ht => ?_, fun q hq hk => ?_, fun q hq hk => ?_, fun j hj hk => ?_, svR_s h.s f k x 0⟩
  · rw [svR_t]
    show (if f ≤ j ∧ j < f + k then true else m.Wr j) = _
    by_cases e : f ≤ j ∧ j < f + k
    · rw [if_pos e, if_pos e]; rfl
    · rw [if_neg e, if_neg e, h.a j hj]
      by_cases e2 : tch f k (j / 8) ∧ s.k (j / 8) ≠ 0
      · rw [if_pos e2, beq_false_of_ne (h.e j hj e2.2)]; rfl
      · rw [if_neg e2]
  · rw [svR_t] at ht
    rw [svR_n]
    show (if f ≤ j ∧ j < f + k then (x >>> (8 * (j - f))) &&& 255#64 else m.B j) = _
    by_cases e : f ≤ j ∧ j < f + k
    · rw [if_pos e, if_pos e]
    · rw [if_neg e] at ht
      rw [if_neg e, if_neg e]
      by_cases e2 : tch f k (j / 8) ∧ s.k (j / 8) ≠ 0
      · rw [if_pos e2] at ht; exact absurd ht (by decide)
      · rw [if_neg e2] at ht; rw [if_neg e2]; exact h.b j hj ht
  · rw [svR_k, if_neg (fun h => absurd h.1 (by omega))] at hk
    show (if tch f k q then zeroV else m.K q) = zeroV
    by_cases e : tch f k q
    · rw [if_pos e]
    · rw [if_neg e] at hk; rw [if_neg e]; exact h.c q hq hk
  · rw [svR_k, if_neg (fun h => absurd h.1 (by omega))] at hk ⊢
    show _ ∧ (if tch f k q then zeroV else m.K q) = _
    by_cases e : tch f k q
    · rw [if_pos e] at hk; exact absurd hk (by omega)
    · rw [if_neg e] at hk ⊢; rw [if_neg e]; exact h.d q hq hk
  · rw [svR_k, if_neg (fun h => absurd h.1 (by omega))] at hk
    by_cases e : tch f k (j / 8)
    · rw [if_pos e] at hk; exact absurd rfl hk
    · rw [if_neg e] at hk
      rw [svR_t, if_neg (fun h2 => e (tch_in h2)), if_neg (fun h2 => e h2.1)]
      exact h.e j hj hk
theorem Inv.val {m : Me} {s : Rk} {L : Nat} (h : Inv m s L) (f : Nat) (x : W) (hf : f + 8 ≤ 64) (h8 : f % 8 = 0) : Inv (kpM m f (vv L)) (svR s f 8 x (L + 1)) (L + 1) := by
  have ew : whatF (L + 1) = 2 := if_pos (by omega)
  have key : ∀ q, tch f 8 q → q = f / 8 := fun q hq => by unfold tch at hq; omega
  refine ⟨fun j hj => ?_, fun j hj ht => ?_, fun q hq hk => ?_, fun q hq hk => ?_, fun j hj hk => ?_, svR_s h.s f 8 x (L + 1)⟩
  · rw [svR_t, ew]
    show (if f ≤ j ∧ j < f + 8 then false else m.Wr j) = _
    by_cases e : f ≤ j ∧ j < f + 8
    · rw [if_pos e, if_pos e]; rfl
    · rw [if_neg e, if_neg e, h.a j hj, if_neg (fun h2 => by have := key _ h2.1; omega)]
  · rw [svR_t, ew] at ht
    rw [svR_n]
    by_cases e : f ≤ j ∧ j < f + 8
    · rw [if_pos e] at ht; exact absurd ht (by decide)
    · have e2 : ¬ (tch f 8 (j / 8) ∧ s.k (j / 8) ≠ 0) := fun h2 => by have := key _ h2.1; omega
      rw [if_neg e, if_neg e2] at ht
      rw [if_neg e, if_neg e2]; exact h.b j hj ht
  · rw [svR_k] at hk
    show (if q = f / 8 then vv L else m.K q) = zeroV
    by_cases e : q = f / 8
    · rw [if_pos ⟨by omega, e⟩] at hk; exact absurd hk (by omega)
    · rw [if_neg (fun h2 => e h2.2), if_neg (fun h2 => e (key q h2))] at hk
      rw [if_neg e]; exact h.c q hq hk
  · rw [svR_k] at hk ⊢
    show _ ∧ (if q = f / 8 then vv L else m.K q) = _
    by_cases e : q = f / 8
    · rw [if_pos ⟨by omega, e⟩]; rw [if_pos e]; exact ⟨Nat.le_refl _, rfl⟩
    · rw [if_neg (fun h2 => e h2.2), if_neg (fun h2 => e (key q h2))] at hk ⊢
      rw [if_neg e]; exact ⟨Nat.le_succ_of_le (h.d q hq hk).1, (h.d q hq hk).2⟩
  · rw [svR_k] at hk
    by_cases e : j / 8 = f / 8
    · rw [svR_t, if_pos (by omega), ew]; decide
    · rw [if_neg (fun h2 => e h2.2), if_neg (fun h2 => e (key _ h2))] at hk
      rw [svR_t, if_neg (by omega), if_neg (fun h2 => e (key _ h2.1))]
      exact h.e j hj hk
theorem me_ext {a b : Me} (h1 : a.X = b.X) (h2 : a.B = b.B) (h3 : a.Wr = b.Wr) (h4 : a.K = b.K) (h5 : a.mp = b.mp) : a = b := by
  obtain ⟨a1, a2, a3, a4, a5⟩ := a
  obtain ⟨b1, b2, b3, b4, b5⟩ := b
  simp only at h1 h2 h3 h4 h5
  rw [h1, h2, h3, h4, h5]
theorem fi_step (m : Me) (f n : Nat) (D : Nat → W) (h : sml (D n)) : byM (wrM (fiM m f n D) (f + n) 1) (f + n) 1 (D n) = fiM m f (n + 1) D := by
  refine me_ext rfl ?_ ?_ ?_ rfl
  · funext j
    show (if f + n ≤ j ∧ j < f + n + 1 then (D n >>> (8 * (j - (f + n)))) &&& 255#64 else if f ≤ j ∧ j < f + n then D (j - f) else m.B j) = if f ≤ j ∧ j < f + (n + 1) then D (j - f) else m.B j
    by_cases e : f + n ≤ j ∧ j < f + n + 1
    · obtain rfl : j = f + n := by omega
      rw [if_pos e, if_pos (by omega), Nat.sub_self, Nat.mul_zero, BitVec.ushiftRight_zero, sml_id h, Nat.add_sub_cancel_left]
    · rw [if_neg e]
      by_cases e2 : f ≤ j ∧ j < f + n
      · rw [if_pos e2, if_pos (by omega)]
      · rw [if_neg e2, if_neg (by omega)]
  · funext j
    show (if f + n ≤ j ∧ j < f + n + 1 then true else if f ≤ j ∧ j < f + n then true else m.Wr j) = if f ≤ j ∧ j < f + (n + 1) then true else m.Wr j
    by_cases e : f + n ≤ j ∧ j < f + n + 1
    · rw [if_pos e, if_pos (by omega)]
    · rw [if_neg e]
      by_cases e2 : f ≤ j ∧ j < f + n
      · rw [if_pos e2, if_pos (by omega)]
      · rw [if_neg e2, if_neg (by omega)]
  · funext q
    show (if 0 < 1 ∧ f + n < 8 * q + 8 ∧ 8 * q < f + n + 1 then zeroV else if 0 < n ∧ f < 8 * q + 8 ∧ 8 * q < f + n then zeroV else m.K q) = if 0 < n + 1 ∧ f < 8 * q + 8 ∧ 8 * q < f + (n + 1) then zeroV else m.K q
    by_cases e : 0 < 1 ∧ f + n < 8 * q + 8 ∧ 8 * q < f + n + 1
    · rw [if_pos e, if_pos (by omega)]
    · rw [if_neg e]
      by_cases e2 : 0 < n ∧ f < 8 * q + 8 ∧ 8 * q < f + n
      · rw [if_pos e2, if_pos (by omega)]
      · rw [if_neg e2, if_neg (by omega)]
theorem fi_zero (m : Me) (f : Nat) (D : Nat → W) : fiM m f 0 D = m := by
  have e : fiM m f 0 D = wrM m f 0 := by
    unfold fiM wrM
    congr 1
    funext j; rw [if_neg (by omega)]
  rw [e, wrM_zero]
theorem Inv.fill {m : Me} {s : Rk} {L f n : Nat} {D : Nat → W} (h : Inv (fiM m f n D) s L) (hf : f + (n + 1) ≤ 64) (hD : sml (D n)) : Inv (fiM m f (n + 1) D) (svR s (f + n) 1 (D n) 0) L := by
  rw [← fi_step m f n D hD]; exact h.num (f + n) 1 (D n) (by omega)
theorem Inv.all {m : Me} {s : Rk} {L : Nat} (h : Inv m s L) (f k : Nat) (hf : f + k ≤ 64) : allT (fun j => m.Wr (f + j)) k = allT (fun j => s.t (f + j) == 1) k := by
  rw [Bool.eq_iff_iff, allT_iff, allT_iff]
  constructor
  · intro g i hi; rw [← h.a (f + i) (by omega)]; exact g i hi
  · intro g i hi; rw [h.a (f + i) (by omega)]; exact g i hi
theorem Inv.bytes {m : Me} {s : Rk} {L : Nat} (h : Inv m s L) (f k : Nat) (hf : f + k ≤ 64) (ha : allT (fun j => s.t (f + j) == 1) k = true) (j : Nat) (hj : j < k) : m.B (f + j) = s.n (f + j) :=
  h.b (f + j) (by omega) (beq_iff_eq.1 ((allT_iff _ _).1 ha j hj))
theorem vv_tag (k : Nat) : ((vv k).tag != 0) = true := by rw [bne_iff_ne]; show ¬ ((2 + k % 3 : Nat) : Int) = 0; omega
/-- What both tell of a Load. -/
theorem Inv.load {m : Me} {s : Rk} {L : Nat} (h : Inv m s L) (A off : Int) (f k : Nat) (hk8 : k ≤ 8) (hin : inB A off (-64) 64 = true) (hf : at0 A off (-64) = f) (hfk : f + k ≤ 64) (hk0 : 0 < k) :
    ldS m A off k = (if (ldR s f k).2.2 = true then (if 0 < (ldR s f k).2.1 then (vv ((ldR s f k).2.1 - 1), 0) else (⟨1, (ldR s f k).1, 0, none⟩, 0)) else (zeroV, 14)) ∧ (ldR s f k).2.1 ≤ L := by
  have f8 : f / 8 < 8 := by omega
  have eS : ldS m A off k = ldF m true true (wordB f k) ((m.K (f / 8)).tag != 0) (allT (fun j => s.t (f + j) == 1) k) f k := by
    unfold ldS; rw [hin, hf, decide_eq_true hfk, h.all f k hfk]
  rw [eS]
  have num : ¬ (wordB f k = true ∧ 0 < s.k (f / 8)) → (wordB f k && ((m.K (f / 8)).tag != 0)) = false →
      ldF m true true (wordB f k) ((m.K (f / 8)).tag != 0) (allT (fun j => s.t (f + j) == 1) k) f k = (if (ldR s f k).2.2 = true then (if 0 < (ldR s f k).2.1 then (vv ((ldR s f k).2.1 - 1), 0) else (⟨1, (ldR s f k).1, 0, none⟩, 0)) else (zeroV, 14)) ∧ (ldR s f k).2.1 ≤ L := by
    intro h1 h2
    unfold ldF
    rw [h2]
    cases ha : allT (fun j => s.t (f + j) == 1) k
    · have e : ldR s f k = (0#64, 0, false) := by unfold ldR; rw [if_neg h1, ha]; rfl
      rw [e]; exact ⟨rfl, Nat.zero_le _⟩
    · have e : ldR s f k = (accF (fun j => s.n (f + j)) k k, 0, true) := by unfold ldR; rw [if_neg h1, ha]; rfl
      rw [e, numF_congr (fun j hj => h.bytes f k hfk ha j hj), acc_num _ k (fun j _ => h.s (f + j))]
      exact ⟨rfl, Nat.zero_le _⟩
  by_cases hw : wordB f k = true
  · by_cases h0 : 0 < s.k (f / 8)
    · obtain ⟨d1, d2⟩ := h.d (f / 8) f8 h0
      have e : ldR s f k = (0#64, s.k (f / 8), true) := by unfold ldR; exact if_pos ⟨hw, h0⟩
      rw [e, hw, d2, vv_tag]
      refine ⟨?_, d1⟩
      show (m.K (f / 8), (0 : Int)) = if 0 < s.k (f / 8) then (vv (s.k (f / 8) - 1), 0) else _
      rw [if_pos h0, d2]
    · exact num (fun x => h0 x.2) (by rw [h.c (f / 8) f8 (by omega)]; exact Bool.and_false _)
  · exact num (fun x => hw x.1) (by rw [show wordB f k = false by simpa using hw]; rfl)
end Go.Proofs.Ytjcjmlmdcjkceaa
