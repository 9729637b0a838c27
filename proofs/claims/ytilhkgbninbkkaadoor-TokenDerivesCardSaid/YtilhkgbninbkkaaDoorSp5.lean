/- Contracts of the document's own tree (layer 10): DocMake; of space: Up, Len, and all calls of no tree. -/
import Derived.Test.YtilhkgbninbkkaaDoorSp4
namespace Go.Proofs.YtilhkgbninbkkaaDoor
open Go Go.RowKit
set_option maxRecDepth 100000 in
theorem DocMake_no (b c cp : Nat) (p : Option Addr) (f : Nat → Nat) (up : Int) (he : makeErr f c up ≠ 0) (w : World) (N : Nat) (hN : Sz w N) (hT : RTr w b c p cp f) :
    Calls Tryd.prog 39 #[.pointer (some ⟨b, 0, none⟩), .int .i64 up] w fun e w' => e = .returned (.tuple #[.int .i64 0, .int .i64 (makeErr f c up)]) ∧ Below N w w' := by
  have HF := Has_any b c cp p f up w hT
  unfold makeErr at he ⊢
  have c8 := hT.c8
  cases hb : isIn c up
  · rw [hb] at HF
    rw [if_neg (by decide)]
    clear he
    go_enter Tryd.func39, Tryd.ntmps39
    go_wp2_with (first
      | (go_at_call 44; refine HF.mono ?_; rintro e w1 ⟨rfl, rfl⟩)
      | fail)
    go_ret2
    exact ⟨rfl, Below.refl _ _⟩
  · rw [hb] at HF
    rw [hb, if_pos rfl] at he
    rw [if_pos rfl]
    obtain ⟨k, rfl, hk⟩ := isIn_get hb
    rw [depth_nat hk] at he ⊢
    have HP := fun w hN hT => RPath_in b c cp p f k hk w N hN hT
    have hp := ups_pos f k
    obtain ⟨L, hL⟩ : ∃ L, L = (ups f k).length := ⟨_, rfl⟩
    rw [← hL] at HP he hp ⊢
    clear hL
    by_cases h4 : 4 ≤ L - 1
    · rw [if_pos h4]
      clear he
      have t1 : (4 : Int) < (L : Int) := by omega
      go_enter Tryd.func39, Tryd.ntmps39
      go_wp2_with (first
        | (go_at_call 44; refine HF.mono ?_; rintro e w1 ⟨rfl, rfl⟩)
        | (go_at_call 59; refine (HP _ hN hT).mono ?_; rintro e w2 ⟨g, cap, rfl, hg, hO, hb2⟩)
        | fail)
      go_ret2
      exact ⟨rfl, hb2⟩
    · rw [if_neg h4] at he ⊢
      by_cases h8 : 8 ≤ c
      · rw [if_pos h8]
        clear he
        have t1 : ¬ (4 : Int) < (L : Int) := by omega
        obtain rfl : c = 8 := by omega
        go_enter Tryd.func39, Tryd.ntmps39
        go_wp2_with (first
          | (go_at_call 44; refine HF.mono ?_; rintro e w1 ⟨rfl, rfl⟩)
          | (go_at_call 59; refine (HP _ hN hT).mono ?_; rintro e w2 ⟨g, cap, rfl, hg, hO, hb2⟩; have c1 := (hT.below hN hb2).cell)
          | fail)
        go_ret2
        exact ⟨rfl, hb2⟩
      · rw [if_neg h8] at he
        exact absurd rfl he
set_option maxRecDepth 100000 in
theorem DocMake_ok (b c cp : Nat) (p : Option Addr) (f : Nat → Nat) (up : Nat) (hu : up < c) (h4 : (ups f up).length ≤ 4) (h8 : c < 8) (w : World) (N : Nat) (hN : Sz w N) (hT : RTr w b c p cp f) :
    Calls Tryd.prog 39 #[.pointer (some ⟨b, 0, none⟩), .int .i64 (up : Int)] w fun e w' => e = .returned (.tuple #[.int .i64 (c : Int), .int .i64 0]) ∧ Turn (fun k => k = b ∨ blk p = some k) w w' ∧ ∃ p' cp', RTr w' b (c + 1) p' cp' (addU f c up) ∧ (blk p' = blk p ∨ ∀ k, blk p' = some k → N ≤ k) := by
  have HF := Has_any b c cp p f up w hT
  rw [isIn_nat hu] at HF
  have HP := fun w hN hT => RPath_in b c cp p f up hu w N hN hT
  obtain ⟨L, hL⟩ : ∃ L, L = (ups f up).length := ⟨_, rfl⟩
  rw [← hL] at HP h4
  have t1 : ¬ (4 : Int) < (L : Int) := by omega
  have t2 : ¬ (8 : Int) ≤ (c : Int) := by omega
  have t3 : (c : Int) < 8 := by omega
  have t0 : (0 : Int) ≤ (c : Int) := by omega
  have c1' := hT.c1
  clear hL
  go_enter Tryd.func39, Tryd.ntmps39
  go_wp2_with (first
    | (go_at_call 44; refine HF.mono ?_; rintro e w1 ⟨rfl, rfl⟩)
    | (go_at_call 59; refine (HP _ hN hT).mono ?_; rintro e w2 ⟨g, cap, rfl, hg, hO, hb2⟩; obtain ⟨M, hM⟩ := sz_some w2; have hNM := below_sz hb2 hN hM; have T2 := hT.below hN hb2; have c2 := T2.cell)
    | (refine wpl_app rfl (.tmp 25) (.tmp 27) 51 rfl 3 undInts oneInt p c cp rfl (fun j => In (f j : Nat)) (T2.r.alloc _) (some ⟨M, 0, none⟩) 1 1 (by rw [← show w2.heap.size = M from hM]; rfl) (fun _ => .int .i64 (up : Int)) (cells_new_one w2 _ _ M hM) (fun _ _ => rfl) (by omega) ?_; intro p1 cap1 w4 o4 g4 k4 n4; have hlo : ∀ k, blk p = some k → k < M := fun k hk => by have := T2.lo k hk; rwa [show w2.heap.size = M from hM] at this)
    | (refine wpl_set rfl 51 (.tmp 30) (.tmp 28) rfl b 0 rfl (.slice p1 (c + 1) cap1) rfl (by kernel_rfl) rfl rfl 99 1 (fun _ => .slice p c cp) ((T2.h.alloc _).grew g4 (fun e => T2.ne e.symm)) (by omega) ?_; intro w5 t5 h5; have c5 : w5.cell? ⟨b, 0, none⟩ = some (.slice p1 (c + 1) cap1) := h5.cell (j := 0) (by omega))
    | fail)
  go_ret2
  have z4 : (w2.alloc (.cells #[.int .i64 (up : Int)] 3)).heap.size = M + 1 := sz_alloc hM _
  have b3 : Below M w2 (w2.alloc (.cells #[.int .i64 (up : Int)] 3)) := below_new w2 _ M hM
  have hbM := T2.h.ltN hM
  refine ⟨?_, ?_, p1, cap1, ⟨?_, ?_, ?_, by omega, by omega, dec_add hT.dec hu⟩, ?_⟩
  · have e1 : ((c + 1 : Nat) : Int) - 1 = (c : Int) := by omega
    first | rfl | (rw [e1]; rfl) | (simp; done) | (simp [e1]; rfl)
  · have A : Turn (fun k => k = b ∨ blk p = some k) w1 w2 := turn_below hN hb2 _
    have B : Turn (fun k => k = b ∨ blk p = some k) w2 (w2.alloc (.cells #[.int .i64 (up : Int)] 3)) := turn_alloc _ _ _
    have C := g4.turn
    have D := t5.turn
    exact ((A.trans B (fun j h _ => h)).trans C (fun j h _ => .inr h)).trans D (fun j h _ => .inl h)
  · exact h5.congr (fun j hj => by
      obtain rfl : j = 0 := by omega
      rfl)
  · refine (o4.touch t5 ?_).congr (fun j hj => ?_)
    · intro g hg e
      subst e
      rcases k4 with k4 | k4
      · rw [hg] at k4; exact T2.ne k4.symm
      · rw [hg, z4] at k4
        simp at k4
        omega
    · show cat (fun j => In (f j : Nat)) c (fun _ => .int .i64 (up : Int)) j = In (addU f c up j : Nat)
      unfold cat addU
      by_cases e : j < c
      · rw [if_pos e, if_neg (by omega)]
      · obtain rfl : j = c := by omega
        rw [if_neg e, if_pos rfl]; rfl
  · rcases k4 with k4 | k4
    · rw [k4]; exact T2.ne
    · rw [k4, z4]
      intro e
      simp at e
      omega
  · rcases k4 with k4 | k4
    · exact .inl k4
    · refine .inr (fun k hk => ?_)
      rw [k4, z4] at hk
      simp at hk
      omega
set_option maxRecDepth 100000 in
theorem Depth_nil (n : Int) (w : World) : Calls Tryd.prog 53 #[.pointer none, .int .i64 n] w fun e w' => e = .returned (.tuple #[.int .i64 0, .int .i64 22]) ∧ w' = w := by
  go_enter Tryd.func53, Tryd.ntmps53
  go_wp2_with (first
    | (go_at_call 71; refine (find_nil n _).mono ?_; rintro e w1 ⟨rfl, rfl⟩)
    | fail)
  go_ret2
  exact ⟨rfl, rfl⟩
end Go.Proofs.YtilhkgbninbkkaaDoor
