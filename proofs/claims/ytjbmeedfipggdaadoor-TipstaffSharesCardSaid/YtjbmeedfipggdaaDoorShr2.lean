/- The walk of TipstaffShares. -/
import Derived.Test.YtjbmeedfipggdaaDoorShr1
import Derived.Test.YtjbmeedfipggdaaDoorStd
import Derived.Test.YtjbmeedfipggdaaDoorAts2
namespace Go.Proofs.YtjbmeedfipggdaaDoor
open Go Go.RowKit Sha
theorem inf2i : (Tryd.prog.info? 22).map (·.size) = some 2 := by kernel_rfl
set_option maxRecDepth 100000 in
set_option maxHeartbeats 2000000 in
theorem law_shares (Zn : Nat → Int) (p : Option Addr) (m cap : Nat) (B : Nat → Bool) (w : World) (N : Nat) (hN : Sz w N) (hT : Tabs w) (hZ : Lies w p m (fun j => .bool (B j))) :
    Calls Tryd.prog 3 #[.agg (cellsOf (fun j => .int .i64 (Zn j)) 2), .slice p m cap] w fun e w' => e = .returned (.bool true) ∧ Below N w w' := by
  have hTN := hT.ltN hN
  obtain ⟨x, hx, ex⟩ := rest (Zn 0) 8 (by omega) (by omega)
  obtain ⟨y, hy, ey⟩ := rest (Zn 1) 8 (by omega) (by omega)
  rw [show ((8 : Nat) : Int) = 8 from rfl] at ex ey
  have Ex := hid ex
  have Ey := hid ey
  clear ex ey
  go_enter Tryd.func3, Tryd.ntmps3
  go_wp2_with (first
    | (refine wpl_box rfl 22 (.tmp 0) rfl 2 _ rfl N hN ?_; intro w1 hN1 hb1 h1)
    | (go_at_call 4; refine (ONewS_any 2 (by omega) (by omega) w1 (N + 1) hN1 (fun _ => ⟨0, 0, xS⟩)).mono ?_; rintro e w2 ⟨rfl, hb2, O2, hN2⟩)
    | fail)
  refine (FNew_any 8 (by omega) (by omega) w2 (N + 2) hN2).mono ?_
  rintro e w3 ⟨rfl, hb3, A3, hN3⟩
  have O3 := O2.below hN2 hb3
  have q3 : Below N w w3 := (hb1.trans (hb2.mono (by omega))).trans (hb3.mono (by omega))
  have h3 := (h1.below hb2 (by omega)).below hb3 (by omega)
  clear O2 hb1 hb2 hb3 hN1 hN2 h1
  go_wp2_with fail
  refine (FNew_any 8 (by omega) (by omega) w3 (N + 4) hN3).mono ?_
  rintro e w4 ⟨rfl, hb4, B4, hN4⟩
  have O4 := O3.below hN3 hb4
  have A4 := A3.below hN3 hb4
  have q4 := q3.trans (hb4.mono (by omega))
  have h4 := h3.below hb4 (by omega)
  clear O3 A3 q3 h3 hb4 hN3
  go_wp2_with fail
  refine (OMakeS_ok (N + 1) 2 0 none 0 0 _ xS (by omega) (by omega) (by omega) (by omega) w4 (N + 6) hN4 O4).mono ?_
  rintro e w5 ⟨p5, cap5, rfl, T5, hp5, O5⟩
  have hp5' : ∀ g, blk p5 = some g → N + 6 ≤ g := fun g hg => by
    rcases hp5 g hg with h | h
    · cases h
    · exact h
  have nS : ∀ k, k ≠ N + 1 → ¬ (k = N + 1 ∨ blk none = some k) := fun k hk e => by
    rcases e with e | e
    · exact hk e
    · cases e
  have S5 : S3 w N 0 0 1 1 w5 := ⟨p5, cap5, O5.congr (fun k hk => by obtain rfl : k = 0 := by omega
                                                                     rfl), hp5', ⟨A4.h.turn T5 (nS _ (by omega)), (A4.r.turn T5 (nS _ (by omega))).congr (fun j _ => rfl), A4.ne⟩, ⟨B4.h.turn T5 (nS _ (by omega)), (B4.r.turn T5 (nS _ (by omega))).congr (fun j _ => rfl), B4.ne⟩,
    T5.below q4 (fun j hj => by rcases hj with rfl | hj; omega; cases hj) (by have e : w4.heap.size = N + 6 := hN4; omega)⟩
  have h5 := h4.turn T5 (nS _ (by omega))
  clear O5 T5 hp5 hp5' nS A4 B4 O4 q4 h4 hN4
  obtain ⟨M5, hM5⟩ := sz_some w5
  have l5 := below_sz S5.bel hN hM5
  go_wp2_with (first
    | (go_at_call 7; refine (stands_any w5 M5 hM5 (hT.below S5.bel hTN)).mono ?_; rintro e w6 ⟨rfl, hb6⟩; have S6 := S5.below hN hM5 hb6; have h6 := h5.below hb6 (h5.ltN hM5); obtain ⟨M6, hM6⟩ := sz_some w6; clear S5 h5 hb6 hM5)
    | (go_at_call 8; refine (topens_any w6 M6 hM6).mono ?_; rintro e w7 ⟨rfl, hb7⟩; have S7 := S6.below hN hM6 hb7; have h7 := h6.below hb7 (h6.ltN hM6); clear S6 h6 hb7 hM6)
    | fail)
  obtain ⟨M7, hM7⟩ := sz_some w7
  have l7 := below_sz S7.bel hN hM7
  have z0 : w7.cell? ⟨N, 0, none⟩ = some (.int .i64 (Zn 0)) := h7.cell (by omega)
  have z1 : w7.cell? ⟨N, 1, none⟩ = some (.int .i64 (Zn 1)) := h7.cell (by omega)
  have hl0 : ∀ x : Later M7 w7, (Instr.loadAt 3 (.pointer (some ⟨N, 0, none⟩))).run Tryd.prog x.w' = .ok (.int .i64 (Zn 0)) x.w' := fun x => by
    have c := Later.cell hM7 z0 x
    go_simp
  have hl1 : ∀ x : Later M7 w7, (Instr.loadAt 3 (.pointer (some ⟨N, 1, none⟩))).run Tryd.prog x.w' = .ok (.int .i64 (Zn 1)) x.w' := fun x => by
    have c := Later.cell hM7 z1 x
    go_simp
  clear z0 z1
  refine wp_region_later M7 (by kernel_rfl) (by kernel_rfl) ?_
  repeat first
    | (refine later_val (fun x => ld_one 3 (.tmp 65) rfl ⟨N, 0, none⟩ rfl _ (hl0 x)) (by rfl) ?_; simp only [Act.put, List.setIfInBounds_toArray, List.set_cons_succ, List.set_cons_zero])
    | (refine later_val (fun x => ld_one 3 (.tmp 71) rfl ⟨N, 1, none⟩ rfl _ (hl1 x)) (by rfl) ?_; simp only [Act.put, List.setIfInBounds_toArray, List.set_cons_succ, List.set_cons_zero])
    | go_big_quiet_step (fail)
  refine wpQuiet_nil ?_
  rintro w8 ⟨x8, e8⟩
  have hb8 := x8.b
  rw [← e8] at hb8
  have S8 := S7.below hN hM7 hb8
  clear e8 x8 hl0 hl1 S7 h7 hb8
  rw [Ex.out, Ey.out, show wrap64 (1 + (x : Int)) = ((x + 1 : Nat) : Int) from by rw [IntWalk.wrap64_in _ (by omega)]; omega]
  obtain ⟨K, hK⟩ : ∃ K, K = x + 1 := ⟨_, rfl⟩
  rw [← hK]
  have K1 : 1 ≤ K := by omega
  have K2 : K ≤ 8 := by omega
  have Y2 : y ≤ 7 := by omega
  have k1 : (1 : Int) ≤ (K : Int) := by omega
  have k2 : (K : Int) ≤ 8 := by omega
  have y1 : (0 : Int) ≤ (y : Int) := by omega
  have y2 : (y : Int) ≤ 7 := by omega
  clear hK hx hy Ex Ey hT hTN l5 l7 hM7
  go_wp2_with fail
  go_loopw [15] (fun i wr => ∃ j : Nat, j ≤ K + y ∧ i = .int .i64 j ∧ S3 w N (min j K) (j - K) 1 ((max 1 j : Nat) : Int) wr) (fun i _ => K + y - (intOf i).toNat)
  case atStart => exact ⟨0, by omega, rfl, by rw [Nat.zero_min, Nat.zero_sub]; exact S8⟩
  case round =>
    clear S8
    obtain ⟨j, hj, rfl, S⟩ := hrel
    by_cases hlt : j < K + y
    · have hl1 : (j : Int) < (K : Int) + (y : Int) := by omega
      have j0 : (0 : Int) ≤ (j : Int) := by omega
      have j2 : (j : Int) ≤ 15 := by omega
      by_cases hz : j = 0
      · subst hz
        rw [Nat.zero_min, Nat.zero_sub] at S
        have hge : ¬ ((K : Int) ≤ ((0 : Nat) : Int)) := by omega
        have hgt : ¬ ((0 : Int) < ((0 : Nat) : Int)) := by omega
        go_wp2_with (first
          | (go_at_call 10; refine (S3.openA hN S (by omega)).mono ?_; rintro e w9 ⟨rfl, S9⟩)
          | fail)
        exact ⟨⟨1, by omega, by go_num, by rw [Nat.min_eq_left (by omega), show 1 - K = 0 by omega]; exact S9⟩, by simp [intOf]; omega⟩
      · rw [Nat.max_eq_right (by omega)] at S
        have hgt : (0 : Int) < (j : Int) := by omega
        by_cases hk : j < K
        · rw [Nat.min_eq_left (by omega), show j - K = 0 by omega] at S
          have hge : ¬ ((K : Int) ≤ (j : Int)) := by omega
          go_wp2_with (first
            | (go_at_call 9; refine (S3.hold hN S j0 (by omega)).mono ?_; rintro e w9 ⟨rfl, S9⟩)
            | (go_at_call 10; refine (S3.openA hN S9 (by omega)).mono ?_; rintro e w10 ⟨rfl, S10⟩)
            | fail)
          exact ⟨⟨j + 1, by omega, by go_num, by rw [Nat.min_eq_left (by omega), show j + 1 - K = 0 by omega, Nat.max_eq_right (by omega)]; exact S10⟩, by simp [intOf]; omega⟩
        · rw [Nat.min_eq_right (by omega)] at S
          have hge : (K : Int) ≤ (j : Int) := by omega
          go_wp2_with (first
            | (go_at_call 9; refine (S3.hold hN S j0 (by omega)).mono ?_; rintro e w9 ⟨rfl, S9⟩)
            | (go_at_call 10; refine (S3.openB hN S9 (by omega)).mono ?_; rintro e w10 ⟨rfl, S10⟩)
            | fail)
          exact ⟨⟨j + 1, by omega, by go_num, by rw [Nat.min_eq_right (by omega), show j + 1 - K = j - K + 1 by omega, Nat.max_eq_right (by omega)]; exact S10⟩, by simp [intOf]; omega⟩
    · obtain rfl : j = K + y := by omega
      rw [Nat.min_eq_right (by omega), show K + y - K = y by omega, Nat.max_eq_right (by omega)] at S
      have hl1 : ¬ (((K + y : Nat) : Int) < (K : Int) + (y : Int)) := by omega
      go_wp2_with fail
      go_loopw [19] (fun i wr => ∃ j na nb : Nat, j + na + nb = K + y ∧ na ≤ K ∧ nb ≤ y ∧ i = .int .i64 j ∧ S3 w N na nb (if na + nb = 0 then 0 else 1) ((K : Int) + (y : Int) - (j : Int)) wr) (fun i _ => K + y - (intOf i).toNat)
      case atStart => exact ⟨0, K, y, by omega, by omega, by omega, rfl, by rw [if_neg (by omega)]; rw [show (K : Int) + (y : Int) - ((0 : Nat) : Int) = ((K + y : Nat) : Int) by omega]; exact S⟩
      case round =>
        clear S
        obtain ⟨j, na, nb, hjs, hna, hnb, rfl, S⟩ := hrel
        by_cases hlt : j < K + y
        · have hl2 : (j : Int) < (K : Int) + (y : Int) := by omega
          have j0 : (0 : Int) ≤ (j : Int) := by omega
          have j2 : (j : Int) ≤ 15 := by omega
          rw [if_neg (by omega)] at S
          have hjs1 : j + na + nb ≤ K + y := by omega
          have hjs2 : K + y ≤ j + na + nb := by omega
          clear hjs
          by_cases hn0 : na = 0
          · subst hn0
            obtain ⟨nb, rfl⟩ : ∃ k, nb = k + 1 := ⟨nb - 1, by omega⟩
            go_wp2_with fail
            refine (S3.usedA hN S (by omega)).mono ?_
            rintro e wa ⟨qa, ca, rfl, Sa, _, _⟩
            go_wp2_with fail
            refine (S3.usedB hN Sa (by omega)).mono ?_
            rintro e wb ⟨qwb, cwb, rfl, Swb, bwb, cellswb⟩
            obtain ⟨g, rfl, hg, cg⟩ := cellswb nb (by omega)
            go_wp2_with fail
            refine (S3.heldc hN Swb).mono ?_
            rintro e wh ⟨rfl, Sh, bh⟩
            have ch : wh.cell? ⟨g, nb, none⟩ = some (.int .i64 (nb : Int)) := by rw [bh.cell (p := ⟨g, nb, none⟩) hg]; exact cg
            clear cg hg bh cellswb Swb
            go_wp2_with fail
            refine (S3.closeB hN Sh (by omega)).mono ?_
            rintro e wc ⟨rfl, Sc⟩
            clear Sh ch
            by_cases hla : j + 1 < K + y
            · have hq : ((j : Int) == (K : Int) + (y : Int) - 1) = false := by rw [beq_eq_false_iff_ne]; omega
              go_wp2_with fail
              refine (S3.dropMore hN Sc (by omega) (by omega)).mono ?_
              rintro e wd ⟨rfl, Sd⟩
              go_wp2_with fail
              exact ⟨⟨j + 1, 0, nb, by omega, by omega, by omega, by go_num, by rw [if_neg (by omega), show (K : Int) + (y : Int) - ((j + 1 : Nat) : Int) = (K : Int) + (y : Int) - (j : Int) - 1 by omega]; exact Sd⟩, by simp [intOf]; omega⟩
            · have hq : ((j : Int) == (K : Int) + (y : Int) - 1) = true := by rw [beq_iff_eq]; omega
              go_wp2_with fail
              refine (S3.dropLast hN Sc (by omega)).mono ?_
              rintro e wd ⟨rfl, Sd⟩
              go_wp2_with fail
              exact ⟨⟨j + 1, 0, nb, by omega, by omega, by omega, by go_num, by rw [if_pos (by omega), show (K : Int) + (y : Int) - ((j + 1 : Nat) : Int) = (K : Int) + (y : Int) - (j : Int) - 1 by omega]; exact Sd⟩, by simp [intOf]; omega⟩
          · obtain ⟨na, rfl⟩ : ∃ k, na = k + 1 := ⟨na - 1, by omega⟩
            have hz1 : (((na + 1 : Nat) : Int) == 0) = false := by rw [beq_eq_false_iff_ne]; omega
            have hz2 : ((na : Int) + 1 == 0) = false := by rw [beq_eq_false_iff_ne]; omega
            have n0 : (0 : Int) ≤ (na : Int) := by omega
            have n8 : (na : Int) ≤ 8 := by omega
            clear hn0
            by_cases hm : j < m
            · have hm1 : (j : Int) < (m : Int) := by omega
              cases hB : B j
              · go_wp2_with fail
                refine (S3.usedA hN S (by omega)).mono ?_
                rintro e wa ⟨qa, ca, rfl, Sa, ba, cellsA⟩
                obtain ⟨bb, off, rfl, hc⟩ := (hZ.below hN Sa.bel) (by omega)
                have cB : wa.cell? ⟨bb, off + j, none⟩ = some (.bool false) := (hc j hm).trans (by show some (Value.bool (B j)) = _; rw [hB])
                clear hc hB S
                obtain ⟨g, rfl, hg, cg⟩ := cellsA na (by omega)
                go_wp2_with fail
                refine (S3.heldc hN Sa).mono ?_
                rintro e wh ⟨rfl, Sh, bh⟩
                have ch : wh.cell? ⟨g, na, none⟩ = some (.int .i64 (na : Int)) := by rw [bh.cell (p := ⟨g, na, none⟩) hg]; exact cg
                clear cg hg bh cellsA Sa
                go_wp2_with fail
                refine (S3.closeA hN Sh (by omega)).mono ?_
                rintro e wc ⟨rfl, Sc⟩
                clear Sh ch
                by_cases hla : j + 1 < K + y
                · have hq : ((j : Int) == (K : Int) + (y : Int) - 1) = false := by rw [beq_eq_false_iff_ne]; omega
                  go_wp2_with fail
                  refine (S3.dropMore hN Sc (by omega) (by omega)).mono ?_
                  rintro e wd ⟨rfl, Sd⟩
                  go_wp2_with fail
                  exact ⟨⟨j + 1, na, nb, by omega, by omega, by omega, by go_num, by rw [if_neg (by omega), show (K : Int) + (y : Int) - ((j + 1 : Nat) : Int) = (K : Int) + (y : Int) - (j : Int) - 1 by omega]; exact Sd⟩, by simp [intOf]; omega⟩
                · have hq : ((j : Int) == (K : Int) + (y : Int) - 1) = true := by rw [beq_iff_eq]; omega
                  go_wp2_with fail
                  refine (S3.dropLast hN Sc (by omega)).mono ?_
                  rintro e wd ⟨rfl, Sd⟩
                  go_wp2_with fail
                  exact ⟨⟨j + 1, na, nb, by omega, by omega, by omega, by go_num, by rw [if_pos (by omega), show (K : Int) + (y : Int) - ((j + 1 : Nat) : Int) = (K : Int) + (y : Int) - (j : Int) - 1 by omega]; exact Sd⟩, by simp [intOf]; omega⟩
              · by_cases hb0 : nb = 0
                · subst hb0
                  go_wp2_with fail
                  refine (S3.usedA hN S (by omega)).mono ?_
                  rintro e wa ⟨qa, ca, rfl, Sa, ba, cellsA⟩
                  obtain ⟨bb, off, rfl, hc⟩ := (hZ.below hN Sa.bel) (by omega)
                  have cB : wa.cell? ⟨bb, off + j, none⟩ = some (.bool true) := (hc j hm).trans (by show some (Value.bool (B j)) = _; rw [hB])
                  clear hc hB S
                  go_wp2_with fail
                  refine (S3.usedB hN Sa (by omega)).mono ?_
                  rintro e wb ⟨qwb, cwb, rfl, Swb, bwb, cellswb⟩
                  have cellsX : ∀ j, j < na + 1 → ∃ g, qa = some ⟨g, 0, none⟩ ∧ g < wb.heap.size ∧ wb.cell? ⟨g, j, none⟩ = some (.int .i64 (j : Int)) := fun j hj => by
                    obtain ⟨g, e1, e2, e3⟩ := cellsA j hj
                    exact ⟨g, e1, Nat.lt_of_lt_of_le e2 bwb.size, by rw [bwb.cell (p := ⟨g, j, none⟩) e2]; exact e3⟩
                  clear cellsA cellswb cB bwb ba Sa
                  obtain ⟨g, rfl, hg, cg⟩ := cellsX na (by omega)
                  go_wp2_with fail
                  refine (S3.heldc hN Swb).mono ?_
                  rintro e wh ⟨rfl, Sh, bh⟩
                  have ch : wh.cell? ⟨g, na, none⟩ = some (.int .i64 (na : Int)) := by rw [bh.cell (p := ⟨g, na, none⟩) hg]; exact cg
                  clear cg hg bh cellsX Swb
                  go_wp2_with fail
                  refine (S3.closeA hN Sh (by omega)).mono ?_
                  rintro e wc ⟨rfl, Sc⟩
                  clear Sh ch
                  by_cases hla : j + 1 < K + y
                  · have hq : ((j : Int) == (K : Int) + (y : Int) - 1) = false := by rw [beq_eq_false_iff_ne]; omega
                    go_wp2_with fail
                    refine (S3.dropMore hN Sc (by omega) (by omega)).mono ?_
                    rintro e wd ⟨rfl, Sd⟩
                    go_wp2_with fail
                    exact ⟨⟨j + 1, na, 0, by omega, by omega, by omega, by go_num, by rw [if_neg (by omega), show (K : Int) + (y : Int) - ((j + 1 : Nat) : Int) = (K : Int) + (y : Int) - (j : Int) - 1 by omega]; exact Sd⟩, by simp [intOf]; omega⟩
                  · have hq : ((j : Int) == (K : Int) + (y : Int) - 1) = true := by rw [beq_iff_eq]; omega
                    go_wp2_with fail
                    refine (S3.dropLast hN Sc (by omega)).mono ?_
                    rintro e wd ⟨rfl, Sd⟩
                    go_wp2_with fail
                    exact ⟨⟨j + 1, na, 0, by omega, by omega, by omega, by go_num, by rw [if_pos (by omega), show (K : Int) + (y : Int) - ((j + 1 : Nat) : Int) = (K : Int) + (y : Int) - (j : Int) - 1 by omega]; exact Sd⟩, by simp [intOf]; omega⟩
                · obtain ⟨nb, rfl⟩ : ∃ k, nb = k + 1 := ⟨nb - 1, by omega⟩
                  go_wp2_with fail
                  refine (S3.usedA hN S (by omega)).mono ?_
                  rintro e wa ⟨qa, ca, rfl, Sa, ba, cellsA⟩
                  obtain ⟨bb, off, rfl, hc⟩ := (hZ.below hN Sa.bel) (by omega)
                  have cB : wa.cell? ⟨bb, off + j, none⟩ = some (.bool true) := (hc j hm).trans (by show some (Value.bool (B j)) = _; rw [hB])
                  clear hc hB S cellsA hb0
                  go_wp2_with fail
                  refine (S3.usedB hN Sa (by omega)).mono ?_
                  rintro e wb ⟨qwb, cwb, rfl, Swb, bwb, cellswb⟩
                  clear cellswb cB bwb ba Sa
                  go_wp2_with fail
                  refine (S3.usedB hN Swb (by omega)).mono ?_
                  rintro e wx ⟨qwx, cwx, rfl, Swx, bwx, cellswx⟩
                  obtain ⟨g, rfl, hg, cg⟩ := cellswx nb (by omega)
                  go_wp2_with fail
                  refine (S3.heldc hN Swx).mono ?_
                  rintro e wh ⟨rfl, Sh, bh⟩
                  have ch : wh.cell? ⟨g, nb, none⟩ = some (.int .i64 (nb : Int)) := by rw [bh.cell (p := ⟨g, nb, none⟩) hg]; exact cg
                  clear cg hg bh cellswx Swx
                  go_wp2_with fail
                  refine (S3.closeB hN Sh (by omega)).mono ?_
                  rintro e wc ⟨rfl, Sc⟩
                  clear Sh ch
                  by_cases hla : j + 1 < K + y
                  · have hq : ((j : Int) == (K : Int) + (y : Int) - 1) = false := by rw [beq_eq_false_iff_ne]; omega
                    go_wp2_with fail
                    refine (S3.dropMore hN Sc (by omega) (by omega)).mono ?_
                    rintro e wd ⟨rfl, Sd⟩
                    go_wp2_with fail
                    exact ⟨⟨j + 1, na + 1, nb, by omega, by omega, by omega, by go_num, by rw [if_neg (by omega), show (K : Int) + (y : Int) - ((j + 1 : Nat) : Int) = (K : Int) + (y : Int) - (j : Int) - 1 by omega]; exact Sd⟩, by simp [intOf]; omega⟩
                  · have hq : ((j : Int) == (K : Int) + (y : Int) - 1) = true := by rw [beq_iff_eq]; omega
                    go_wp2_with fail
                    refine (S3.dropLast hN Sc (by omega)).mono ?_
                    rintro e wd ⟨rfl, Sd⟩
                    go_wp2_with fail
                    exact ⟨⟨j + 1, na + 1, nb, by omega, by omega, by omega, by go_num, by rw [if_pos (by omega), show (K : Int) + (y : Int) - ((j + 1 : Nat) : Int) = (K : Int) + (y : Int) - (j : Int) - 1 by omega]; exact Sd⟩, by simp [intOf]; omega⟩
            · have hm1 : ¬ ((j : Int) < (m : Int)) := by omega
              go_wp2_with fail
              refine (S3.usedA hN S (by omega)).mono ?_
              rintro e wa ⟨qa, ca, rfl, Sa, ba, cellsA⟩
              clear S
              obtain ⟨g, rfl, hg, cg⟩ := cellsA na (by omega)
              go_wp2_with fail
              refine (S3.heldc hN Sa).mono ?_
              rintro e wh ⟨rfl, Sh, bh⟩
              have ch : wh.cell? ⟨g, na, none⟩ = some (.int .i64 (na : Int)) := by rw [bh.cell (p := ⟨g, na, none⟩) hg]; exact cg
              clear cg hg bh cellsA Sa
              go_wp2_with fail
              refine (S3.closeA hN Sh (by omega)).mono ?_
              rintro e wc ⟨rfl, Sc⟩
              clear Sh ch
              by_cases hla : j + 1 < K + y
              · have hq : ((j : Int) == (K : Int) + (y : Int) - 1) = false := by rw [beq_eq_false_iff_ne]; omega
                go_wp2_with fail
                refine (S3.dropMore hN Sc (by omega) (by omega)).mono ?_
                rintro e wd ⟨rfl, Sd⟩
                go_wp2_with fail
                exact ⟨⟨j + 1, na, nb, by omega, by omega, by omega, by go_num, by rw [if_neg (by omega), show (K : Int) + (y : Int) - ((j + 1 : Nat) : Int) = (K : Int) + (y : Int) - (j : Int) - 1 by omega]; exact Sd⟩, by simp [intOf]; omega⟩
              · have hq : ((j : Int) == (K : Int) + (y : Int) - 1) = true := by rw [beq_iff_eq]; omega
                go_wp2_with fail
                refine (S3.dropLast hN Sc (by omega)).mono ?_
                rintro e wd ⟨rfl, Sd⟩
                go_wp2_with fail
                exact ⟨⟨j + 1, na, nb, by omega, by omega, by omega, by go_num, by rw [if_pos (by omega), show (K : Int) + (y : Int) - ((j + 1 : Nat) : Int) = (K : Int) + (y : Int) - (j : Int) - 1 by omega]; exact Sd⟩, by simp [intOf]; omega⟩
        · obtain rfl : na = 0 := by omega
          obtain rfl : nb = 0 := by omega
          obtain rfl : j = K + y := by omega
          rw [if_pos rfl] at S
          have hl2 : ¬ (((K + y : Nat) : Int) < (K : Int) + (y : Int)) := by omega
          clear hjs
          go_wp2_with fail
          refine (S3.live hN S).mono ?_
          rintro e w1 ⟨q, c, rfl, S1⟩
          go_wp2_with fail
          refine (S3.freeA hN S1).mono ?_
          rintro e w2 ⟨rfl, S2⟩
          go_wp2_with fail
          refine (S3.freeB hN S2).mono ?_
          rintro e w3 ⟨rfl, S3'⟩
          go_wp2_with fail
          go_ret
          exact ⟨rfl, S3'.bel⟩
end Go.Proofs.YtjbmeedfipggdaaDoor
