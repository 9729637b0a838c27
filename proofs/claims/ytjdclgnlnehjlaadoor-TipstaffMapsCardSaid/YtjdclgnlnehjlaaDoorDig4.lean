/- Sum and Joined of digest. -/
import Derived.Test.YtjdclgnlnehjlaaDoorDig3
namespace Go.Proofs.YtjdclgnlnehjlaaDoor
open Go Go.RowKit Sha
/-- Bytes that lie in a row from a place on. -/
def Bytes (w : World) (p : Option Addr) (n : Nat) (D : Nat → BitVec 8) : Prop :=
  0 < n → ∃ bb off, p = some ⟨bb, off, none⟩ ∧ ∀ j, j < n → w.cell? ⟨bb, off + j, none⟩ = some (By (D j))
theorem Bytes.src {w w1 : World} {p : Option Addr} {n N R : Nat} {D : Nat → BitVec 8} (h : Bytes w p n D) (hN : Sz w N) (hb : Below N w w1) (hR : N ≤ R) : Src w1 R p n D := fun h0 => by
  obtain ⟨bb, off, e, hc⟩ := h h0
  have hbb : bb < N := by
    have := World.block_lt_of_cell? w _ (hc 0 h0)
    have e : w.heap.size = N := hN
    simp only at this
    omega
  exact ⟨bb, off, e, by omega, fun j hj => by rw [hb.cell (p := ⟨bb, off + j, none⟩) hbb]; exact hc j hj⟩
theorem Bytes.below {w w1 : World} {p : Option Addr} {n N : Nat} {D : Nat → BitVec 8} (h : Bytes w p n D) (hN : Sz w N) (hb : Below N w w1) : Bytes w1 p n D := fun h0 => by
  obtain ⟨bb, off, e, _, hc⟩ := h.src hN hb (Nat.le_refl N) h0
  exact ⟨bb, off, e, hc⟩
/-- What Sum tells of n bytes. -/
def shaD (D : Nat → BitVec 8) (n : Nat) : Nat → BitVec 8 := sumByte (feed run0 D n) n
theorem run0_f : run0.f < 64 := by decide
set_option maxRecDepth 100000 in
theorem Sum_any (p : Option Addr) (n cap : Nat) (D : Nat → BitVec 8) (w : World) (N : Nat) (hN : Sz w N) (hT : Tabs w) (hcap : n ≤ cap) (hn : n ≤ 900000) (hD : Bytes w p n D) :
    Calls Tryd.prog 47 #[.slice p n cap] w fun e w' => e = .returned (.agg (cellsOf (fun j => By (shaD D n j)) 32)) ∧ Below N w w' := by
  have hTN := hT.ltN hN
  go_enter Tryd.func47, Tryd.ntmps47
  go_wp2_with (first
    | (refine wpl_alloc rfl 40 rfl 32 _ zer23 N hN ?_; intro w1 hN1 hb1 h1)
    | (go_at_call 63; refine (begin_any _ (N + 1) hN1 (hT.below hb1 hTN)).mono ?_; rintro e w2 ⟨rfl, hb2⟩; obtain ⟨M, hM⟩ := sz_some w2; have hNM := below_sz hb2 hN1 hM)
    | (refine wpl_alloc rfl 112 rfl 74 _ zer81 M hM ?_; intro w3 hN3 hb3 h3)
    | (refine wpl_store rfl 112 (.tmp 3) (.tmp 4) rfl M 74 _ rfl rfl 112 _ h3 inf81 (one_rc _ _) ?_; intro w4 ht4 h4; have hb4 : Below N w w4 := ht4.below ((hb1.trans (hb2.mono (by omega))).trans (hb3.mono (by omega))) (by omega); have hs4 := hD.src hN hb4 (R := M) (by omega))
    | (go_at_call 65; refine (take_any M run0 0 n cap p D _ (hT.below hb4 hTN) (by omega) run0_f h4 (by omega) hcap hs4).mono ?_; rintro e w5 ⟨rfl, hm5, h5⟩; have hN4 := ht4.sz hN3; have hb5 := hm5.below hb4 (by omega) (by have e : w4.heap.size = M + 1 := hN4; omega))
    | (go_at_call 66; refine (end_any M (feed run0 D n) (0 + n) _ (hT.below hb5 hTN) (by omega) (feed_f _ _ run0_f n) h5 (by omega)).mono ?_; rintro e w6 ⟨rfl, hm6⟩; have h6 := ((((h1.below hb2 (by omega)).below hb3 (by omega)).touch ht4 (by omega)).mod hm5 (by omega)).mod hm6 (by omega); have hb6 := hm6.below hb5 (by omega) (by have := hm5.size; have e : w4.heap.size = M + 1 := hN4; omega))
    | (refine wpl_store rfl 40 (.tmp 2) (.tmp 7) rfl N 32 _ rfl rfl 40 _ h6 inf23 (fun _ _ => rfl) ?_; intro w7 ht7 h7)
    | fail)
  refine post_cell Tryd.results47 N rfl h7 _ und23 rfl inf23 rfl ⟨?_, ht7.below hb6 (Nat.le_refl N)⟩
  rfl
/-- A text among several: where its slice leads, its bytes. -/
structure Part where
  q : Option Addr
  n : Nat
  cap : Nat
  D : Nat → BitVec 8
/-- Texts that lie in a row from a place on. -/
def Parts (w : World) (p : Option Addr) (n : Nat) (S : Nat → Part) : Prop :=
  0 < n → ∃ bb off, p = some ⟨bb, off, none⟩ ∧ ∀ j, j < n → w.cell? ⟨bb, off + j, none⟩ = some (.slice (S j).q (S j).n (S j).cap) ∧ (S j).n ≤ (S j).cap ∧ Bytes w (S j).q (S j).n (S j).D
def joinDg (S : Nat → Part) : Nat → Run
  | 0 => run0
  | k + 1 => feed (feed (joinDg S k) (be8 (S k).n) 8) (S k).D (S k).n
def joinL (S : Nat → Part) : Nat → Nat
  | 0 => 0
  | k + 1 => joinL S k + 8 + (S k).n
theorem joinL_mono (S : Nat → Part) (k : Nat) : ∀ n, k ≤ n → joinL S k ≤ joinL S n
  | 0, h => by obtain rfl : k = 0 := by omega
               exact Nat.le_refl _
  | n + 1, h => by
    by_cases e : k = n + 1
    · rw [e]; exact Nat.le_refl _
    · have := joinL_mono S k n (by omega)
      simp only [joinL]; omega
theorem joinR_f (S : Nat → Part) : ∀ k, (joinDg S k).f < 64
  | 0 => run0_f
  | k + 1 => feed_f _ _ (feed_f _ _ (joinR_f S k) 8) _
/-- What Joined tells. -/
def joinD (S : Nat → Part) (n : Nat) : Nat → BitVec 8 := sumByte (joinDg S n) (joinL S n)
set_option maxRecDepth 100000 in
theorem JoinedDg_any (p : Option Addr) (n cap : Nat) (S : Nat → Part) (w : World) (N : Nat) (hN : Sz w N) (hT : Tabs w) (hn : joinL S n ≤ 900000) (hS : Parts w p n S) :
    Calls Tryd.prog 36 #[.slice p n cap] w fun e w' => e = .returned (.agg (cellsOf (fun j => By (joinD S n j)) 32)) ∧ Below N w w' := by
  have hTN := hT.ltN hN
  have hnn : n ≤ 900000 := by
    have : ∀ k, k ≤ joinL S k := fun k => by
      induction k with
      | zero => exact Nat.zero_le _
      | succ k ih => simp only [joinL]; omega
    have := this n
    omega
  go_enter Tryd.func36, Tryd.ntmps36
  go_wp2_with (first
    | (refine wpl_alloc rfl 40 rfl 32 _ zer23 N hN ?_; intro w1 hN1 hb1 h1)
    | (go_at_call 63; refine (begin_any _ (N + 1) hN1 (hT.below hb1 hTN)).mono ?_; rintro e w2 ⟨rfl, hb2⟩; obtain ⟨M, hM⟩ := sz_some w2; have hNM := below_sz hb2 hN1 hM)
    | (refine wpl_alloc rfl 112 rfl 74 _ zer81 M hM ?_; intro w3 hN3 hb3 h3)
    | (refine wpl_store rfl 112 (.tmp 3) (.tmp 6) rfl M 74 _ rfl rfl 112 _ h3 inf81 (one_rc _ _) ?_; intro w4 ht4 h4)
    | fail)
  have hb4 : Below N w w4 := ht4.below ((hb1.trans (hb2.mono (by omega))).trans (hb3.mono (by omega))) (by omega)
  have q1 := ((h1.below hb2 (by omega)).below hb3 (by omega)).touch ht4 (by omega)
  go_loopw [9] (fun i wr => ∃ k : Nat, k ≤ n ∧ i = .int .i64 k ∧ Has wr M 112 74 (rc (joinDg S k) ((joinL S k : Nat) : Int)) ∧ Has wr N 40 32 (fun _ => By 0) ∧ Below N w wr)
    (fun i _ => n - (intOf i).toNat)
  case atStart => exact ⟨0, by omega, rfl, h4, q1, hb4⟩
  case round =>
    clear h4 q1 hb4
    obtain ⟨k, hk, rfl, q, q1, qb⟩ := hrel
    by_cases hlt : k < n
    · obtain ⟨bb, off, rfl, hc⟩ := hS (by omega)
      obtain ⟨hc1, hc2, hc3⟩ := hc k hlt
      have hbb : bb < N := by
        have := World.block_lt_of_cell? w _ hc1
        have e : w.heap.size = N := hN
        simp only at this
        omega
      have d1 : wr.cell? ⟨bb, off + k, none⟩ = some (.slice (S k).q (S k).n (S k).cap) := by rw [qb.cell (p := ⟨bb, off + k, none⟩) hbb]; exact hc1
      have hL1 : joinL S (k + 1) ≤ 900000 := Nat.le_trans (joinL_mono S (k + 1) n (by omega)) hn
      have hL2 : joinL S k + 8 + (S k).n ≤ 900000 := hL1
      have hMr := q.lt
      clear hc hL1
      go_wp2_with (first
        | (go_at_call 64; refine (takeNumber_any M (joinDg S k) (joinL S k) (S k).n _ (hT.below qb hTN) (by omega) (joinR_f S k) q (by omega)).mono ?_; rintro e w5 ⟨rfl, hm5, h5⟩; have hb5 := hm5.below qb (by omega) (by omega); have hs5 := hc3.src hN hb5 (R := M) (by omega); have hM5 := h5.lt)
        | (go_at_call 65; refine (take_any M _ (joinL S k + 8) (S k).n (S k).cap _ (S k).D _ (hT.below hb5 hTN) (by omega) (feed_f _ _ (joinR_f S k) 8) h5 (by omega) hc2 hs5).mono ?_; rintro e w6 ⟨rfl, hm6, h6⟩; have hb6 := hm6.below hb5 (by omega) (by omega))
        | fail)
      exact ⟨⟨k + 1, by omega, by go_num, h6, (q1.mod hm5 (by omega)).mod hm6 (by omega), hb6⟩, by simp [intOf]; omega⟩
    · obtain rfl : n = k := by omega
      have hMr := q.lt
      go_wp2_with (first
        | (go_at_call 66; refine (end_any M (joinDg S n) (joinL S n) _ (hT.below qb hTN) (by omega) (joinR_f S n) q (by omega)).mono ?_; rintro e w6 ⟨rfl, hm6⟩; have h6 := q1.mod hm6 (by omega); have hb6 := hm6.below qb (by omega) (by omega))
        | (refine wpl_store rfl 40 (.tmp 2) (.tmp 20) rfl N 32 _ rfl rfl 40 _ h6 inf23 (fun _ _ => rfl) ?_; intro w7 ht7 h7)
        | fail)
      exact post_cell Tryd.results36 N rfl h7 _ und23 rfl inf23 rfl ⟨rfl, ht7.below hb6 (Nat.le_refl N)⟩
end Go.Proofs.YtjdclgnlnehjlaaDoor
