/- Sum and Joined of digest. -/
import Derived.Test.YtjbmeedfipggdaaDoorDig3
namespace Go.Proofs.YtjbmeedfipggdaaDoor
open Go Go.RowKit Sha
/-- Bytes that lie in a row from a place on. -/
def Bytes (w : World) (p : Option Addr) (n : Nat) (D : Nat → BitVec 8) : Prop :=
  0 < n → ∃ bb off, p = some ⟨bb, off, none⟩ ∧ ∀ j, j < n → w.cell? ⟨bb, off + j, none⟩ = some (By (D j))
theorem Bytes.src {w w1 : World} {p : Option Addr} {n N R : Nat} {D : Nat → BitVec 8} (h : Bytes w p n D) (hN : Sz w N) (hb : Below N w w1) (hR : N ≤ R) : Src w1 R p n D := fun h0 => by
  obtain ⟨bb, off, e, hc⟩ := h h0
  have hbb : bb < N := by
    have := World.block_lt_of_cell? w _ (hc 0 h0)
    have e : w.heap.size = N := hN
    simp only at this
    omega
  exact ⟨bb, off, e, by omega, fun j hj => by rw [hb.cell (p := ⟨bb, off + j, none⟩) hbb]; exact hc j hj⟩
theorem Bytes.below {w w1 : World} {p : Option Addr} {n N : Nat} {D : Nat → BitVec 8} (h : Bytes w p n D) (hN : Sz w N) (hb : Below N w w1) : Bytes w1 p n D := fun h0 => by
  obtain ⟨bb, off, e, _, hc⟩ := h.src hN hb (Nat.le_refl N) h0
  exact ⟨bb, off, e, hc⟩
/-- What Sum tells of n bytes. -/
def shaD (D : Nat → BitVec 8) (n : Nat) : Nat → BitVec 8 := sumByte (feed run0 D n) n
theorem run0_f : run0.f < 64 := by decide
set_option maxRecDepth 100000 in
theorem Sum_any (p : Option Addr) (n cap : Nat) (D : Nat → BitVec 8) (w : World) (N : Nat) (hN : Sz w N) (hT : Tabs w) (hcap : n ≤ cap) (hn : n ≤ 900000) (hD : Bytes w p n D) :
    Calls Tryd.prog 18 #[.slice p n cap] w fun e w' => e = .returned (.agg (cellsOf (fun j => By (shaD D n j)) 32)) ∧ Below N w w' := by
  have hTN := hT.ltN hN
  go_enter Tryd.func18, Tryd.ntmps18
  go_wp2_with (first
    | (refine wpl_alloc rfl 52 rfl 32 _ zer23 N hN ?_; intro w1 hN1 hb1 h1)
    | (go_at_call 22; refine (begin_any _ (N + 1) hN1 (hT.below hb1 hTN)).mono ?_; rintro e w2 ⟨rfl, hb2⟩; obtain ⟨M, hM⟩ := sz_some w2; have hNM := below_sz hb2 hN1 hM)
    | (refine wpl_alloc rfl 63 rfl 74 _ zer81 M hM ?_; intro w3 hN3 hb3 h3)
    | (refine wpl_store rfl 63 (.tmp 3) (.tmp 4) rfl M 74 _ rfl rfl 63 _ h3 inf81 (one_rc _ _) ?_; intro w4 ht4 h4; have hb4 : Below N w w4 := ht4.below ((hb1.trans (hb2.mono (by omega))).trans (hb3.mono (by omega))) (by omega); have hs4 := hD.src hN hb4 (R := M) (by omega))
    | (go_at_call 23; refine (take_any M run0 0 n cap p D _ (hT.below hb4 hTN) (by omega) run0_f h4 (by omega) hcap hs4).mono ?_; rintro e w5 ⟨rfl, hm5, h5⟩; have hN4 := ht4.sz hN3; have hb5 := hm5.below hb4 (by omega) (by have e : w4.heap.size = M + 1 := hN4; omega))
    | (go_at_call 24; refine (end_any M (feed run0 D n) (0 + n) _ (hT.below hb5 hTN) (by omega) (feed_f _ _ run0_f n) h5 (by omega)).mono ?_; rintro e w6 ⟨rfl, hm6⟩; have h6 := ((((h1.below hb2 (by omega)).below hb3 (by omega)).touch ht4 (by omega)).mod hm5 (by omega)).mod hm6 (by omega); have hb6 := hm6.below hb5 (by omega) (by have := hm5.size; have e : w4.heap.size = M + 1 := hN4; omega))
    | (refine wpl_store rfl 52 (.tmp 2) (.tmp 7) rfl N 32 _ rfl rfl 52 _ h6 inf23 (fun _ _ => rfl) ?_; intro w7 ht7 h7)
    | fail)
  refine post_cell Tryd.results18 N rfl h7 _ und23 rfl inf23 rfl ⟨?_, ht7.below hb6 (Nat.le_refl N)⟩
  rfl
/-- A text among several: where its slice leads, its bytes. -/
structure Part where
  q : Option Addr
  n : Nat
  cap : Nat
  D : Nat → BitVec 8
/-- Texts that lie in a row from a place on. -/
def Parts (w : World) (p : Option Addr) (n : Nat) (S : Nat → Part) : Prop :=
  0 < n → ∃ bb off, p = some ⟨bb, off, none⟩ ∧ ∀ j, j < n → w.cell? ⟨bb, off + j, none⟩ = some (.slice (S j).q (S j).n (S j).cap) ∧ (S j).n ≤ (S j).cap ∧ Bytes w (S j).q (S j).n (S j).D
def joinR (S : Nat → Part) : Nat → Run
  | 0 => run0
  | k + 1 => feed (feed (joinR S k) (be8 (S k).n) 8) (S k).D (S k).n
def joinL (S : Nat → Part) : Nat → Nat
  | 0 => 0
  | k + 1 => joinL S k + 8 + (S k).n
theorem joinL_mono (S : Nat → Part) (k : Nat) : ∀ n, k ≤ n → joinL S k ≤ joinL S n
  | 0, h => by obtain rfl : k = 0 := by omega
               exact Nat.le_refl _
  | n + 1, h => by
    by_cases e : k = n + 1
    · rw [e]; exact Nat.le_refl _
    · have := joinL_mono S k n (by omega)
      simp only [joinL]; omega
theorem joinR_f (S : Nat → Part) : ∀ k, (joinR S k).f < 64
  | 0 => run0_f
  | k + 1 => feed_f _ _ (feed_f _ _ (joinR_f S k) 8) _
/-- What Joined tells. -/
def joinD (S : Nat → Part) (n : Nat) : Nat → BitVec 8 := sumByte (joinR S n) (joinL S n)
end Go.Proofs.YtjbmeedfipggdaaDoor
