/- Sum and Joined of digest. -/
import Derived.Test.YtilhkgbninbkkaaDoorDig3
namespace Go.Proofs.YtilhkgbninbkkaaDoor
open Go Go.RowKit Sha
/-- Bytes that lie in a row from a place on. -/
def Bytes (w : World) (p : Option Addr) (n : Nat) (D : Nat → BitVec 8) : Prop :=
  0 < n → ∃ bb off, p = some ⟨bb, off, none⟩ ∧ ∀ j, j < n → w.cell? ⟨bb, off + j, none⟩ = some (By (D j))
theorem Bytes.src {w w1 : World} {p : Option Addr} {n N R : Nat} {D : Nat → BitVec 8} (h : Bytes w p n D) (hN : Sz w N) (hb : Below N w w1) (hR : N ≤ R) : Src w1 R p n D := fun h0 => by
  obtain ⟨bb, off, e, hc⟩ := h h0
  have hbb : bb < N := by
    have := World.block_lt_of_cell? w _ (hc 0 h0)
    have e : w.heap.size = N := hN
    simp only at this
    omega
  exact ⟨bb, off, e, by omega, fun j hj => by rw [hb.cell (p := ⟨bb, off + j, none⟩) hbb]; exact hc j hj⟩
theorem Bytes.below {w w1 : World} {p : Option Addr} {n N : Nat} {D : Nat → BitVec 8} (h : Bytes w p n D) (hN : Sz w N) (hb : Below N w w1) : Bytes w1 p n D := fun h0 => by
  obtain ⟨bb, off, e, _, hc⟩ := h.src hN hb (Nat.le_refl N) h0
  exact ⟨bb, off, e, hc⟩
/-- What Sum tells of n bytes. -/
def shaD (D : Nat → BitVec 8) (n : Nat) : Nat → BitVec 8 := sumByte (feed run0 D n) n
theorem run0_f : run0.f < 64 := by decide
set_option maxRecDepth 100000 in
theorem Sum_any (p : Option Addr) (n cap : Nat) (D : Nat → BitVec 8) (w : World) (N : Nat) (hN : Sz w N) (hT : Tabs w) (hcap : n ≤ cap) (hn : n ≤ 900000) (hD : Bytes w p n D) :
    Calls Tryd.prog 63 #[.slice p n cap] w fun e w' => e = .returned (.agg (cellsOf (fun j => By (shaD D n j)) 32)) ∧ Below N w w' := by
  have hTN := hT.ltN hN
  go_enter Tryd.func63, Tryd.ntmps63
  go_wp2_with (first
    | (refine wpl_alloc rfl 103 rfl 32 _ zer23 N hN ?_; intro w1 hN1 hb1 h1)
    | (go_at_call 74; refine (begin_any _ (N + 1) hN1 (hT.below hb1 hTN)).mono ?_; rintro e w2 ⟨rfl, hb2⟩; obtain ⟨M, hM⟩ := sz_some w2; have hNM := below_sz hb2 hN1 hM)
    | (refine wpl_alloc rfl 121 rfl 74 _ zer81 M hM ?_; intro w3 hN3 hb3 h3)
    | (refine wpl_store rfl 121 (.tmp 3) (.tmp 4) rfl M 74 _ rfl rfl 121 _ h3 inf81 (one_rc _ _) ?_; intro w4 ht4 h4; have hb4 : Below N w w4 := ht4.below ((hb1.trans (hb2.mono (by omega))).trans (hb3.mono (by omega))) (by omega); have hs4 := hD.src hN hb4 (R := M) (by omega))
    | (go_at_call 75; refine (take_any M run0 0 n cap p D _ (hT.below hb4 hTN) (by omega) run0_f h4 (by omega) hcap hs4).mono ?_; rintro e w5 ⟨rfl, hm5, h5⟩; have hN4 := ht4.sz hN3; have hb5 := hm5.below hb4 (by omega) (by have e : w4.heap.size = M + 1 := hN4; omega))
    | (go_at_call 76; refine (end_any M (feed run0 D n) (0 + n) _ (hT.below hb5 hTN) (by omega) (feed_f _ _ run0_f n) h5 (by omega)).mono ?_; rintro e w6 ⟨rfl, hm6⟩; have h6 := ((((h1.below hb2 (by omega)).below hb3 (by omega)).touch ht4 (by omega)).mod hm5 (by omega)).mod hm6 (by omega); have hb6 := hm6.below hb5 (by omega) (by have := hm5.size; have e : w4.heap.size = M + 1 := hN4; omega))
    | (refine wpl_store rfl 103 (.tmp 2) (.tmp 7) rfl N 32 _ rfl rfl 103 _ h6 inf23 (fun _ _ => rfl) ?_; intro w7 ht7 h7)
    | fail)
  refine post_cell Tryd.results63 N rfl h7 _ und23 rfl inf23 rfl ⟨?_, ht7.below hb6 (Nat.le_refl N)⟩
  rfl
end Go.Proofs.YtilhkgbninbkkaaDoor
