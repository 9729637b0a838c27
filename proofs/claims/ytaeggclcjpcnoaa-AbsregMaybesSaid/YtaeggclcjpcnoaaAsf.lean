/- States: Settle. -/
import Derived.Test.YtaeggclcjpcnoaaAse
namespace Go.Proofs.Ytaeggclcjpcnoaa
open Go Go.RowKit
set_option maxRecDepth 100000 in
set_option maxHeartbeats 8000000 in
theorem SettleS_any (s : St) (x : Int) (c : Bool) (w : World) (N : Nat) (hN : Sz w N) : Calls Try.prog 52 #[stV s, .int .i64 x, .bool c] w fun e w' => e = .returned (stV (setlS s x c)) ∧ Below N w w' := by
  unfold stV
  obtain ⟨z, ez⟩ : ∃ z, z = setlS s x c := ⟨_, rfl⟩
  rw [← ez]
  have EZ := hid ez
  clear ez
  go_enter Try.func52, Try.ntmps52
  go_wp2_with (first
    | (refine wpl_box rfl 76 (.tmp 0) rfl 273 _ rfl N hN ?_; intro w1 hN1 hb1 h1)
    | (refine wpl_alloc rfl 76 rfl 273 (stC zeroS) zeSt (N + 1) hN1 ?_; intro w2 hN2 hb2 h2; replace h1 := h1.below hb2 (by omega); replace hb2 := hb1.trans (hb2.mono (by omega)); clear hb1 hN1)
    | (refine wpl_load_part rfl 72 (.tmp 11) rfl N 0 rfl 76 273 _ h1 121 (by omega) (fun j => stC s (0 + j)) (fun j _ => rfl) _ und11.choose_spec.1 und11.choose_spec.2 sz11 ?_)
    | fail)
  go_loopw [7, 8, 13] (fun x7 x8 x13 wr => ∃ q : Nat, q ≤ 11 ∧ x13 = .int .i64 q ∧ Has wr N 76 273 (stC (stl1 s x c q)) ∧ Has wr (N + 1) 76 273 (stC zeroS) ∧ Below N w wr) (fun _ _ x13 _ => 11 - (intOf x13).toNat)
  case atStart => exact ⟨0, by omega, rfl, by rw [stl1_zero]; exact h1, h2, hb2⟩
  case round =>
    clear h1 h2 hb2 hN2
    obtain ⟨q, hq, rfl, h1, h2, hb⟩ := hrel
    obtain ⟨M, hM⟩ := sz_some wr
    have ltA := h1.ltN hM
    have ltB := h2.ltN hM
    have lNM := below_sz hb hN hM
    by_cases hlt : q < 11
    · have t1 : decide ((q : Int) < 11) = true := by simp; omega
      have j1 : (0 : Int) ≤ (q : Int) := by omega
      have j2 : (q : Int) < 11 := by omega
      go_upto_region 4 with (first
        | (refine wpl_run rfl (.agg (cellsOf (arC (s.R q)) 11)) _ (run_indexV rfl rfl rfl (idx_R s q hlt) _) ?_)
        | (refine wpl_alloc rfl 71 rfl 11 (arC zeroA) zeAr M hM ?_; intro w3 hM3 hb3 h3; replace h1 := h1.below hb3 (by omega); replace h2 := h2.below hb3 (by omega); replace hb := hb.trans (hb3.mono (by omega)); clear hM)
        | (refine wpl_store rfl 71 (.tmp 8) (.tmp 16) rfl M 11 (arC (s.R q)) rfl rfl 71 _ h3 szAr (fun j _ => arC_one _ j) ?_; intro w4 t4 h4; have hM4 := t4.sz hM3; replace h1 := h1.touch t4 (by omega); replace h2 := h2.touch t4 (by omega); replace hb := t4.below hb (by omega); clear hM3)
        | fail)
      cases hm : isMayb (s.R q) x
      · have HM := hid hm
        clear hm
        go_wp2_with (first
          | (refine wpl_load rfl 71 (.tmp 8) rfl M rfl 71 11 _ h4 _ undAr.choose_spec.1 undAr.choose_spec.2 szAr ?_)
          | (go_at_call 82; refine (IsMaybe_any (s.R q) x _ (M + 1) hM4).mono ?_; rintro e w5 ⟨rfl, hb5⟩; rw [HM.out]; replace h1 := h1.below hb5 (by omega); replace h2 := h2.below hb5 (by omega); replace hb := hb.trans (hb5.mono (by omega)))
          | fail)
        exact ⟨⟨q + 1, by omega, by go_num, by rw [stl1_no s x c q HM.out]; exact h1, h2, hb⟩, by simp [intOf]; omega⟩
      · have HM := hid hm
        clear hm
        go_wp2_with (first
          | (refine wpl_load rfl 71 (.tmp 8) rfl M rfl 71 11 _ h4 _ undAr.choose_spec.1 undAr.choose_spec.2 szAr ?_)
          | (go_at_call 82; refine (IsMaybe_any (s.R q) x _ (M + 1) hM4).mono ?_; rintro e w5 ⟨rfl, hb5⟩; rw [HM.out]; obtain ⟨M5, hM5⟩ := sz_some w5; have l5 := below_sz hb5 hM4 hM5; replace h1 := h1.below hb5 (by omega); replace h2 := h2.below hb5 (by omega); replace h4 := h4.below hb5 (by omega); replace hb := hb.trans (hb5.mono (by omega)); clear hM4)
          | (go_at_call 83; refine (Settled_any (s.R q) c _ M5 hM5).mono ?_; rintro e w6 ⟨rfl, hb6⟩; replace h1 := h1.below hb6 (by omega); replace h2 := h2.below hb6 (by omega); replace hb := hb.trans (hb6.mono (by omega)))
          | (refine wpl_store_part rfl 71 (.tmp 25) (.tmp 23) rfl N (q * 11) rfl 11 (arC (settlA (s.R q) c)) rfl 76 273 _ h1 (by omega) szAr (fun j _ => arC_one _ j) ?_; intro w7 t7 h7; replace h2 := h2.touch t7 (by omega); replace hb := t7.below hb (by omega); replace h7 := h7.congr (g := stC ((stl1 s x c q).setR q (settlA (s.R q) c))) (fun j _ => by rw [Nat.mul_comm q 11]; exact lay_R _ hlt _ j))
          | fail)
        exact ⟨⟨q + 1, by omega, by go_num, by rw [← stl1_yes s x c q HM.out]; exact h7, h2, hb⟩, by simp [intOf]; omega⟩
    · obtain rfl : q = 11 := by omega
      obtain ⟨s1, es1⟩ : ∃ y, y = stl1 s x c 11 := ⟨_, rfl⟩
      rw [← es1] at h1
      have ES := hid es1
      clear es1
      go_wp2_with (first
        | (refine wpl_load_part rfl 74 (.tmp 27) rfl N 185 rfl 76 273 _ h1 88 (by omega) (fun j => stC s1 (185 + j)) (fun j _ => rfl) _ und8.choose_spec.1 und8.choose_spec.2 sz8 ?_)
        | fail)
      go_loopw [9, 10, 29] (fun x9 x10 x29 wr => ∃ q : Nat, q ≤ 8 ∧ x29 = .int .i64 q ∧ Has wr N 76 273 (stC (stl2 s1 x c q)) ∧ Has wr (N + 1) 76 273 (stC zeroS) ∧ Below N w wr) (fun _ _ x29 _ => 8 - (intOf x29).toNat)
      case atStart => exact ⟨0, by omega, rfl, by rw [stl2_zero]; exact h1, h2, hb⟩
      case round =>
        clear h1 h2 hb hM ltA ltB lNM
        obtain ⟨q, hq, rfl, h1, h2, hb⟩ := hrel
        obtain ⟨M, hM⟩ := sz_some wr
        have ltA := h1.ltN hM
        have ltB := h2.ltN hM
        have lNM := below_sz hb hN hM
        by_cases hlt : q < 8
        · have t1 : decide ((q : Int) < 8) = true := by simp; omega
          have j1 : (0 : Int) ≤ (q : Int) := by omega
          have j2 : (q : Int) < 8 := by omega
          go_upto_region 10 with (first
            | (refine wpl_run rfl (.agg (cellsOf (arC (s1.K q)) 11)) _ (run_indexV rfl rfl rfl (idx_K s1 q hlt) _) ?_)
            | (refine wpl_alloc rfl 71 rfl 11 (arC zeroA) zeAr M hM ?_; intro w3 hM3 hb3 h3; replace h1 := h1.below hb3 (by omega); replace h2 := h2.below hb3 (by omega); replace hb := hb.trans (hb3.mono (by omega)); clear hM)
            | (refine wpl_store rfl 71 (.tmp 10) (.tmp 32) rfl M 11 (arC (s1.K q)) rfl rfl 71 _ h3 szAr (fun j _ => arC_one _ j) ?_; intro w4 t4 h4; have hM4 := t4.sz hM3; replace h1 := h1.touch t4 (by omega); replace h2 := h2.touch t4 (by omega); replace hb := t4.below hb (by omega); clear hM3)
            | fail)
          cases hm : isMayb (s1.K q) x
          · have HM := hid hm
            clear hm
            go_wp2_with (first
              | (refine wpl_load rfl 71 (.tmp 10) rfl M rfl 71 11 _ h4 _ undAr.choose_spec.1 undAr.choose_spec.2 szAr ?_)
              | (go_at_call 82; refine (IsMaybe_any (s1.K q) x _ (M + 1) hM4).mono ?_; rintro e w5 ⟨rfl, hb5⟩; rw [HM.out]; replace h1 := h1.below hb5 (by omega); replace h2 := h2.below hb5 (by omega); replace hb := hb.trans (hb5.mono (by omega)))
              | fail)
            exact ⟨⟨q + 1, by omega, by go_num, by rw [stl2_no s1 x c q HM.out]; exact h1, h2, hb⟩, by simp [intOf]; omega⟩
          · have HM := hid hm
            clear hm
            go_upto_region 12 with (first
              | (refine wpl_load rfl 71 (.tmp 10) rfl M rfl 71 11 _ h4 _ undAr.choose_spec.1 undAr.choose_spec.2 szAr ?_)
              | (go_at_call 82; refine (IsMaybe_any (s1.K q) x _ (M + 1) hM4).mono ?_; rintro e w5 ⟨rfl, hb5⟩; rw [HM.out]; obtain ⟨M5, hM5⟩ := sz_some w5; have l5 := below_sz hb5 hM4 hM5; replace h1 := h1.below hb5 (by omega); replace h2 := h2.below hb5 (by omega); replace h4 := h4.below hb5 (by omega); replace hb := hb.trans (hb5.mono (by omega)); clear hM4)
              | (go_at_call 83; refine (Settled_any (s1.K q) c _ M5 hM5).mono ?_; rintro e w6 ⟨rfl, hb6⟩; replace h1 := h1.below hb6 (by omega); replace h2 := h2.below hb6 (by omega); replace hb := hb.trans (hb6.mono (by omega)))
              | (refine wpl_store_part rfl 71 (.tmp 41) (.tmp 39) rfl N (185 + q * 11) rfl 11 (arC (settlA (s1.K q) c)) rfl 76 273 _ h1 (by omega) szAr (fun j _ => arC_one _ j) ?_; intro w7 t7 h7; replace h2 := h2.touch t7 (by omega); replace hb := t7.below hb (by omega); replace h7 := h7.congr (g := stC ((stl2 s1 x c q).setK q (settlA (s1.K q) c))) (fun j _ => by rw [Nat.mul_comm q 11]; exact lay_K _ hlt _ j))
              | fail)
            cases c
            · go_wp2_with (first
                | (go_at_call 84; refine (SetBytes_any N q hlt true _ _ h7).mono ?_; rintro e w8 ⟨rfl, t8, h8⟩; replace h2 := h2.touch t8 (by omega); replace hb := t8.below hb (by omega))
                | fail)
              exact ⟨⟨q + 1, by omega, by go_num, by rw [← stl2_f s1 x q HM.out]; exact h8, h2, hb⟩, by simp [intOf]; omega⟩
            · go_wp2_with fail
              exact ⟨⟨q + 1, by omega, by go_num, by rw [← stl2_t s1 x q HM.out]; exact h7, h2, hb⟩, by simp [intOf]; omega⟩
        · obtain rfl : q = 8 := by omega
          have e2 : z = stl2 s1 x c 8 := by rw [EZ.out, ES.out]; rfl
          rw [← e2] at h1
          clear e2
          go_wp2_with (first
            | (refine wpl_load rfl 76 (.tmp 3) rfl N rfl 76 273 _ h1 _ undSt.choose_spec.1 undSt.choose_spec.2 szSt ?_)
            | (refine wpl_store rfl 76 (.tmp 6) (.tmp 47) rfl (N + 1) 273 (stC z) rfl rfl 76 _ h2 szSt (fun j _ => stC_one _ j) ?_; intro w9 t9 h9; replace hb := t9.below hb (by omega))
            | fail)
          exact post_cell rfl (N + 1) rfl h9 _ undSt.choose_spec.1 undSt.choose_spec.2 szSt rfl ⟨rfl, hb⟩
end Go.Proofs.Ytaeggclcjpcnoaa
