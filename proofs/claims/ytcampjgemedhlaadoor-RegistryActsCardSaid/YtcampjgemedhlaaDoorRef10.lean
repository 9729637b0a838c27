/- Sum and Joined of the document's answer for layer 1: they tell what digest's tell. -/
import Derived.Test.YtcampjgemedhlaaDoorRefS
import Derived.Test.YtcampjgemedhlaaDoorLaw1
namespace Go.Proofs.YtcampjgemedhlaaDoor
open Go Go.RowKit Sha
theorem blocks_said (D : Nat → BitVec 8) (n : Nat) (j : Nat) : wordByte (Hb (padB D n ((n + 72) / 64)) ((n + 72) / 64)) j = shaD D n j := by
  have h := closed_blocks D n ((n + 72) / 64) rfl
  show _ = wordByte (closed (feed run0 D n) n).H j
  rw [← h]; rfl
set_option maxRecDepth 100000 in
theorem RootsSum_any (p : Option Addr) (n cap : Nat) (D : Nat → BitVec 8) (w : World) (N : Nat) (hN : Sz w N) (hcap : n ≤ cap) (hn : n ≤ 900000) (hD : Bytes w p n D) :
    Calls Tryd.prog 49 #[.agg (cellsOf rtC 72), .slice p n cap] w fun e w' => e = .returned (.agg (cellsOf (fun j => By (shaD D n j)) 32)) ∧ Below N w w' := by
  go_enter Tryd.func49, Tryd.ntmps49
  go_wp2_with (first
    | (refine wpl_box rfl 39 (.tmp 0) rfl 72 _ rfl N hN ?_; intro w1 hN1 hb1 h1)
    | (refine wpl_alloc rfl 23 rfl 32 _ zer23 (N + 1) hN1 ?_; intro w2 hN2 hb2 h2; have h12 := h1.below hb2 (by omega); have hD2 := (hD.below hN hb1).below hN1 hb2)
    | (refine wpl_load_part rfl 36 (.tmp 6) rfl N 0 rfl 39 72 _ h12 64 (by omega) (fun j => U (Kc j)) (fun j hj => by unfold rtC rtK; rw [Nat.zero_add, if_pos hj, if_pos hj]) _ und36 rfl inf36 ?_)
    | (refine wpl_load_part rfl 37 (.tmp 8) rfl N 64 rfl 39 72 _ h12 8 (by omega) (fun j => U (Hc j)) (fun j hj => by unfold rtC rtK; rw [if_neg (by omega), if_pos (by omega), Nat.add_sub_cancel_left]) _ und37 rfl inf37 ?_)
    | (go_at_call 61; refine (sum_any p n cap D w2 (N + 1 + 1) hN2 hcap hn hD2 _ rfl).mono ?_; rintro e w3 ⟨rfl, hb3⟩)
    | (refine wpl_store rfl 23 (.tmp 4) (.tmp 10) rfl (N + 1) 32 _ rfl rfl 23 _ (h2.below hb3 (by omega)) inf23 (fun _ _ => rfl) ?_; intro w4 ht4 h4)
    | fail)
  exact post_cell Tryd.results49 (N + 1) rfl h4 _ und23 rfl inf23 rfl ⟨congrArg (fun f => Ending.returned (.agg (cellsOf f 32))) (funext fun j => congrArg By (blocks_said D n j)), ht4.below ((hb1.trans (hb2.mono (by omega))).trans (hb3.mono (by omega))) (by omega)⟩
set_option maxRecDepth 100000 in
theorem RefSum_any (p : Option Addr) (n cap : Nat) (D : Nat → BitVec 8) (w : World) (N : Nat) (hN : Sz w N) (hcap : n ≤ cap) (hn : n ≤ 900000) (hD : Bytes w p n D) :
    Calls Tryd.prog 19 #[.slice p n cap] w fun e w' => e = .returned (.agg (cellsOf (fun j => By (shaD D n j)) 32)) ∧ Below N w w' := by
  go_enter Tryd.func19, Tryd.ntmps19
  go_wp2_with (first
    | (refine wpl_alloc rfl 23 rfl 32 _ zer23 N hN ?_; intro w1 hN1 hb1 h1)
    | (go_at_call 24; refine (Make_any w1 (N + 1) hN1).mono ?_; rintro e w2 ⟨rfl, hb2⟩; obtain ⟨M, hM⟩ := sz_some w2; have hNM := below_sz hb2 hN1 hM; have hD2 := (hD.below hN hb1).below hN1 hb2)
    | (go_at_call 49; refine (RootsSum_any p n cap D w2 M hM hcap hn hD2).mono ?_; rintro e w3 ⟨rfl, hb3⟩)
    | (refine wpl_store rfl 23 (.tmp 2) (.tmp 5) rfl N 32 _ rfl rfl 23 _ ((h1.below hb2 (by omega)).below hb3 (by omega)) inf23 (fun _ _ => rfl) ?_; intro w4 ht4 h4)
    | fail)
  exact post_cell Tryd.results19 N rfl h4 _ und23 rfl inf23 rfl ⟨rfl, ht4.below ((hb1.trans (hb2.mono (by omega))).trans (hb3.mono (by omega))) (by omega)⟩
theorem be8_num (n s : Nat) (h : s ≤ 7) : (n : Int) / 2 ^ (8 * (7 - s)) % 256 = v8 (be8 n s) := by
  rw [v8_be8, show 8 * (7 - s) = 56 - 8 * s from by omega]
theorem flat_lo (S : Nat → Part) (k j : Nat) (h : j < joinL S k) : flat S (k + 1) j = flat S k j := by simp only [flat]; rw [if_pos h]
theorem flat_mid (S : Nat → Part) (k x : Nat) (h : x < 8) : flat S (k + 1) (joinL S k + x) = be8 (S k).n x := by simp only [flat]; rw [if_neg (by omega), if_pos (by omega), Nat.add_sub_cancel_left]
theorem flat_hi (S : Nat → Part) (k j : Nat) (h : joinL S k + 8 ≤ j) : flat S (k + 1) j = (S k).D (j - (joinL S k + 8)) := by simp only [flat]; rw [if_neg (by omega), if_neg (by omega), Nat.sub_sub]
set_option maxRecDepth 100000 in
set_option maxHeartbeats 1000000 in
theorem RefJoined_any (p : Option Addr) (n cap : Nat) (S : Nat → Part) (w : World) (N : Nat) (hN : Sz w N) (hn : joinL S n ≤ 900000) (hS : Parts w p n S) :
    Calls Tryd.prog 23 #[.slice p n cap] w fun e w' => e = .returned (.agg (cellsOf (fun j => By (joinD S n j)) 32)) ∧ Below N w w' := by
  have hnn : n ≤ 900000 := by
    have : ∀ k, k ≤ joinL S k := fun k => by
      induction k with
      | zero => exact Nat.zero_le _
      | succ k ih => simp only [joinL]; omega
    have := this n
    omega
  go_enter Tryd.func23, Tryd.ntmps23
  go_wp2_with (first
    | (refine wpl_alloc rfl 23 rfl 32 _ zer23 N hN ?_; intro w1 hN1 hb1 h1)
    | fail)
  go_loopw [3, 4] (fun al i wr => ∃ (k ca : Nat) (pa : Option Addr), k ≤ n ∧ i = .int .i64 k ∧ al = .slice pa (joinL S k) ca ∧ Own wr 5 pa (joinL S k) ca (fun j => By (flat S k j)) ∧ Has wr N 23 32 (fun _ => By 0) ∧ Below N w wr ∧ (∀ g, blk pa = some g → N + 1 ≤ g))
    (fun _ i _ => n - (intOf i).toNat)
  case atStart => exact ⟨0, 0, none, by omega, rfl, rfl, Own.nil _ _ _, h1, hb1, fun g hg => (by cases hg)⟩
  case round =>
    clear h1 hb1
    obtain ⟨k, ca, pa, hk, rfl, rfl, ha, h1, qb, hpa⟩ := hrel
    by_cases hlt : k < n
    · obtain ⟨bb, off, rfl, hc⟩ := hS (by omega)
      obtain ⟨hc1, hc2, hc3⟩ := hc k hlt
      have hbb : bb < N := by
        have := World.block_lt_of_cell? w _ hc1
        have e : w.heap.size = N := hN
        simp only at this
        omega
      have hJ : joinL S (k + 1) = joinL S k + 8 + (S k).n := rfl
      have hL1 : joinL S k + 8 + (S k).n ≤ 900000 := Nat.le_trans (joinL_mono S (k + 1) n (by omega)) hn
      clear hc
      obtain ⟨L, eL⟩ : ∃ L, L = joinL S k := ⟨_, rfl⟩
      have HL := hid eL
      rw [← eL] at hL1 ha ⊢
      have HJ := hid (hJ.trans (by rw [← eL]))
      clear hJ
      have ha' : Own wr 5 pa L ca (fun j => By (flat S (k + 1) j)) := ha.congr (fun j hj => by rw [flat_lo S k j (by rw [← eL]; exact hj)])
      clear ha eL
      go_wp2_with fail
      go_loopw [3, 5] (fun al i wr => ∃ (x ca : Nat) (pa : Option Addr), x ≤ 8 ∧ i = .int .i64 (7 - (x : Int)) ∧ al = .slice pa (L + x) ca ∧ Own wr 5 pa (L + x) ca (fun j => By (flat S (k + 1) j)) ∧ Has wr N 23 32 (fun _ => By 0) ∧ Below N w wr ∧ (∀ g, blk pa = some g → N + 1 ≤ g))
        (fun _ i _ => (intOf i + 1).toNat)
      case atStart => exact ⟨0, ca, pa, by omega, rfl, rfl, ha', h1, qb, hpa⟩
      case round =>
        clear ha' h1 qb hpa
        obtain ⟨x, ca, pa, hx, rfl, rfl, ha, h1, qb, hpa⟩ := hrel
        have d1 : wr.cell? ⟨bb, off + k, none⟩ = some (.slice (S k).q (S k).n (S k).cap) := by rw [qb.cell (p := ⟨bb, off + k, none⟩) hbb]; exact hc1
        have hNs : N + 1 ≤ wr.heap.size := h1.lt
        by_cases hlx : x < 8
        · have e2 : IntKind.u64.wrap ((S k).n : Int) = ((S k).n : Int) := IntWalk.u64_in _ (by omega)
          have e3 : IntKind.i64.wrap (8 * (7 - (x : Int))) = 8 * (7 - (x : Int)) := IntWalk.i64_in _ (by omega)
          have e4 : (0 : Int) ≤ 8 * (7 - (x : Int)) := by omega
          have hkn : (k : Int) < (n : Int) := by omega
          go_wp2_with (first
            | (refine wpl_app rfl (.tmp 16) (.tmp 27) 22 rfl 5 und22 one5 pa (L + x) ca rfl _ (ha.alloc _) _ 1 1 rfl (fun _ => By (be8 (S k).n x)) (own_byte _ (be8 (S k).n x) (be8_num _ x (by omega)) _) (fun _ _ => rfl) (by omega) ?_; intro p7 c7 w7 o7 g7 k7 n7)
            | fail)
          have b7 := g7.below (qb.alloc (by omega) _) (Nat.le_trans (by omega) (size_le_alloc wr _)) (fun g hg => by have := hpa g hg; omega)
          refine ⟨⟨x + 1, c7, p7, by omega, congrArg (Value.int .i64) (by omega), rfl, o7.congr fun j hj => ?_, (h1.alloc _).grew g7 (fun e => by have := hpa N e.symm; omega), b7, ge_step hpa k7 (Nat.le_trans hNs (size_le_alloc wr _))⟩, by simp [intOf]; omega⟩
          simp only [cat]
          by_cases e : j < L + x
          · rw [if_pos e]
          · rw [if_neg e, show j = joinL S k + x from by rw [← HL.out]; omega, flat_mid S k x hlx]
        · obtain rfl : x = 8 := by omega
          have hkn : (k : Int) < (n : Int) := by omega
          go_wp2_with (first
            | (refine wpl_app rfl (.tmp 29) (.tmp 33) 22 rfl 5 und22 one5 pa (L + 8) ca rfl _ ha (S k).q (S k).n (S k).cap rfl (fun j => By ((S k).D j)) (cells_bytes hc3 hN qb (Nat.le_refl _)) (fun _ _ => rfl) (by omega) ?_; intro p7 c7 w7 o7 g7 k7 n7)
            | fail)
          have b7 := g7.below qb (by omega) (fun g hg => by have := hpa g hg; omega)
          refine ⟨⟨k + 1, c7, p7, by omega, by go_num, by rw [HJ.out], ?_, h1.grew g7 (fun e => by have := hpa N e.symm; omega), b7, ge_step hpa k7 hNs⟩, by simp [intOf]; omega⟩
          rw [HJ.out]
          refine o7.congr fun j hj => ?_
          simp only [cat]
          by_cases e : j < L + 8
          · rw [if_pos e]
          · rw [if_neg e, flat_hi S k j (by rw [← HL.out]; omega), ← HL.out]
    · obtain rfl : k = n := by omega
      obtain ⟨M, hM⟩ := sz_some wr
      have hNM := h1.ltN hM
      go_wp2_with (first
        | (go_at_call 19; refine (RefSum_any pa (joinL S k) ca (flat S k) wr M hM ha.le hn (fun h0 => by obtain ⟨g, e, hc⟩ := ha.cell h0; exact ⟨g, 0, e, hc⟩)).mono ?_; rintro e w3 ⟨rfl, hb3⟩)
        | (refine wpl_store rfl 23 (.tmp 2) (.tmp 36) rfl N 32 _ rfl rfl 23 _ (h1.below hb3 hNM) inf23 (fun _ _ => rfl) ?_; intro w4 ht4 h4)
        | fail)
      exact post_cell Tryd.results23 N rfl h4 _ und23 rfl inf23 rfl ⟨by rw [joinD_flat], ht4.below (qb.trans (hb3.mono (by omega))) (by omega)⟩
end Go.Proofs.YtcampjgemedhlaaDoor
