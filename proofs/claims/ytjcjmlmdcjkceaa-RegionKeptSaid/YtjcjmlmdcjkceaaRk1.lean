/- RegionKept: its walk. -/
import Derived.Test.YtjcjmlmdcjkceaaRk0
namespace Go.Proofs.Ytjcjmlmdcjkceaa
open Go Go.RowKit
theorem undIs2 : Try.prog.underlying 73 = some (.slice 3) := by kernel_rfl
set_option maxRecDepth 100000 in
set_option maxHeartbeats 32000000 in
theorem law_rkept (pr : Option Addr) (nr cr : Nat) (Z : Nat → Int) (z2 : Int) (w : World) (N : Nat) (hN : Sz w N) (hrow : Ats w pr nr (fun j => .int .i64 (Z j))) : Calls Try.prog 6 #[.slice pr nr cr, .int .i64 z2] w fun e w' => e = .returned (.bool true) ∧ Below N w w' := by
  have hN' := hN
  obtain ⟨r8, er8⟩ : ∃ r, rm z2 8 = r := ⟨_, rfl⟩
  have hr8 : r8 < 8 := by rw [← er8]; exact rm_lt z2 8 (by omega)
  have ER8 := hid er8
  clear er8
  go_enter Try.func6, Try.ntmps6
  go_upto_region 2 with (first
    | (refine wpl_run rfl (.agg (cellsOf (xC X0) 32)) _ (run_bd 41 #[] rfl (cellsOf (xC X0) 32) (by kernel_rfl) _) ?_)
    | (go_at_call 14; refine (New_nil X0 _ N hN').mono ?_; rintro e w1 ⟨b, rfl, lb, lo, hh⟩; rw [mK_new] at hh; obtain ⟨M1, hM1⟩ := sz_some w1; have lM1 := hh.ltN hM1; clear hN')
    | fail)
  go_upto_region 6 with (first
    | (refine wpl_run rfl (.agg (cellsOf (vlC S0) 4)) _ (run_bd 26 #[(0, .const (.int .i64 3))] rfl (cellsOf (vlC S0) 4) (by kernel_rfl) _) ?_)
    | (refine wpl_alloc rfl 26 rfl 4 (vlC zeroV) zeVl (M1) hM1 ?_; intro w11 hM11 hb11 h6; replace hh := hh.below hb11 (by omega); replace lo := lo.trans (hb11.mono (by omega)); clear hM1 hb11)
    | (refine wpl_store rfl 26 (.tmp 6) (.tmp 20) rfl (M1) 4 (vlC S0) rfl rfl 26 _ h6 szVl (fun j _ => vlC_one _ j) ?_; intro w12 t12 k12; replace hh := hh.touch t12 (by omega); replace lo := t12.below lo (by omega); have hM12 := t12.sz hM11; clear h6 t12 hM11; have h6 := k12; clear k12)
    | (refine wpl_alloc rfl 74 rfl 32 (keC K0) zeKr (M1 + 1) hM12 ?_; intro w13 hM13 hb13 h7; replace hh := hh.below hb13 (by omega); replace h6 := h6.below hb13 (by omega); replace lo := lo.trans (hb13.mono (by omega)); clear hM12 hb13)
    | (go_at_call 10; refine (saves_any _ (M1 + 1 + 1) hM13).mono ?_; rintro e w14 ⟨rfl, hb14⟩; obtain ⟨M14, hM14⟩ := sz_some w14; have l14 := below_sz hb14 hM13 hM14; replace hh := hh.below hb14 (by omega); replace h6 := h6.below hb14 (by omega); replace h7 := h7.below hb14 (by omega); replace lo := lo.trans (hb14.mono (by omega)); clear hM13 hb14)
    | fail)
  go_wp2_with fail
  go_loopw [8, 9] (fun x8 x9 wr => ∃ (i : Nat) (K : Nat → Vl), i ≤ nr ∧ i ≤ 12 ∧ x8 = .int .i64 ((i : Nat) : Int) ∧ okK K ∧ Has wr b 83 193 (meC (mK K)) ∧ Has wr M1 26 4 (vlC S0) ∧ Has wr (M1 + 1) 74 32 (keC K) ∧ Below N w wr) (fun x8 _ _ => 12 - (intOf x8).toNat)
  case atStart => exact ⟨0, K0, by omega, by omega, rfl, fun _ => .inl rfl, hh, h6, h7, lo⟩
  case round =>
    clear hh h6 h7 lo hM14
    obtain ⟨i, K, hi, hi2, rfl, hK, hh, h6, h7, lo⟩ := hrel
    obtain ⟨M, hM⟩ := sz_some wr
    have lbM := hh.ltN hM
    have l7M := h7.ltN hM
    have lNM := below_sz lo hN hM
    have HK := hid hK
    clear hK
    by_cases hlt : i < nr ∧ i < 12
    · have t1 : decide (((i : Nat) : Int) < ((nr : Nat) : Int)) = true := decide_eq_true (by omega)
      have t2 : decide (((i : Nat) : Int) < 12) = true := decide_eq_true (by omega)
      obtain ⟨bb, off, rfl, hcl⟩ := (hrow.below hN lo) (by omega)
      have ci : wr.cell? ⟨bb, off + i, none⟩ = some (.int .i64 (Z i)) := hcl i hlt.1
      clear hcl
      obtain ⟨k, ek⟩ : ∃ k, rm (Z i) 7 = k := ⟨_, rfl⟩
      have hk7 : k < 7 := by rw [← ek]; exact rm_lt (Z i) 7 (by omega)
      have EK := hid ek
      clear ek
      have SV := hid (sv_k K k i (by omega))
      go_upto_region 11 with (first
        | (refine wpl_run rfl (.int .i64 ((nr : Nat) : Int)) _ (run_lenS (x := .tmp 24) (T := 73) undIs2 rfl rfl _) ?_)
        | (refine wpl_run rfl (.pointer (some ⟨bb, off + i, none⟩)) _ (run_ixL 73 3 undIs2 szI1 (.tmp 33) (.tmp 34) rfl rfl rfl (k := i) hlt.1 _) ?_)
        | (refine wpl_run rfl (Q (BitVec.ofInt 64 (Z i))) _ (run_iu (x := .tmp 36) (z := Z i) rfl undInt und64 rfl _) ?_)
        | (refine wpl_b rfl rfl (bin_rem _ (BitVec.ofInt 64 (Z i)) 7#64 (by decide)) rfl rfl ?_)
        | (refine wpl_run rfl (.int .i64 ((rm (Z i) 7 : Nat) : Int)) _ (run_rm (x := .tmp 38) rfl und64 undInt (z := Z i) (m := 7) (by omega) rfl _) ?_; rw [EK.out])
        | (refine wpl_run rfl (Q (BitVec.ofInt 64 ((i : Nat) : Int))) _ (run_iu (x := .tmp 41) (z := ((i : Nat) : Int)) rfl undInt und64 rfl _) ?_)
        | (refine wpl_run rfl (.agg (cellsOf (vlC (V2 i)) 4)) _ (run_bd 26 #[(0, .const (.int .i64 2)), (1, .tmp 42)] rfl (cellsOf (vlC (V2 i)) 4) (by kernel_rfl) _) ?_)
        | (refine wpl_run rfl (.pointer (some ⟨M1 + 1, 0 + k * 4, none⟩)) _ (run_iaK (x := .tmp 7) (y := .tmp 40) rfl (b := M1 + 1) (off := 0) (k := k) rfl rfl undK szVl (by omega)) ?_)
        | (refine wpl_store_part rfl 26 (.tmp 44) (.tmp 43) rfl (M1 + 1) (0 + k * 4) rfl 4 (vlC (V2 i)) rfl 74 32 _ h7 (by omega) szVl (fun j _ => vlC_one _ j) ?_; intro w30 t30 k30; replace k30 := k30.congr (fun j _ => lay_ke _ k _ j); replace hh := hh.touch t30 (by omega); replace h6 := h6.touch t30 (by omega); replace lo := t30.below lo (by omega); replace hM := t30.sz hM; clear h7 t30 ci; have h7 := k30; clear k30)
        | fail)
      refine wp_region_later_tail M 8 (by kernel_rfl) (by kernel_rfl) ?_
      simp only [List.take_succ_cons, List.take_zero, List.drop_succ_cons, List.drop_zero]
      try simp only [pA]
      go_big_quiet_step (fail)
      refine later_row hM 26 (.tmp 6) rfl M1 rfl 26 4 _ h6 undVl szVl (by rfl) ?_; simp only [pA]
      go_big_quiet_step (fail)
      refine later_val (fun q => run_mul8 (x := .const (.int .i64 8)) (y := .tmp 47) (q := k) rfl rfl rfl (by omega) _) (by rfl) ?_; simp only [pA]
      refine later_val (fun q => subN (x := .tmp 48) (y := .const (.int .i64 64)) (p := ((8 * k : Nat) : Int)) rfl rfl rfl (wrap_z _ (by omega) (by omega)) _) (by rfl) ?_; simp only [pA]
      go_big_quiet_step (fail)
      refine later_val (fun q => run_iaK (x := .tmp 7) (y := .tmp 50) rfl (b := M1 + 1) (off := 0) (k := k) rfl rfl undK szVl (by omega)) (by rfl) ?_; simp only [pA]
      refine later_val (fun q => run_rwP 26 (.tmp 51) rfl (M1 + 1) (0 + k * 4) rfl 74 32 _ (Later.has hM h7 q) 4 (by omega) (vlC (V2 i)) (fun j hj => by rw [keC_at _ k j hj]; unfold updK; rw [if_pos rfl]) undVl szVl) (by rfl) ?_; simp only [pA]
      refine wpQuiet_nil (laterE hM ?_)
      intro w31 M31 hb31 hM31 l31
      replace hh := hh.below hb31 (by omega)
      replace h6 := h6.below hb31 (by omega)
      replace h7 := h7.below hb31 (by omega)
      replace lo := lo.trans (hb31.mono (by omega))
      clear hb31 hM
      go_wp2_with (first
        | (go_at_call 11; refine (Save_stack b S0 (V2 i) rfl (V2_ok i) (mK K) (((8 * k : Nat) : Int) - 64) 8 (.inr (.inr (.inr rfl))) (by omega) _ (M31) hM31 hh).mono ?_; rintro e w15 ⟨he, g15, k15⟩; rw [SV.out] at he k15; subst he; have sz15 := hM31; replace h6 := h6.grew g15 (by simp; omega); replace h7 := h7.grew g15 (by simp; omega); replace lo := g15.below lo (by unfold Sz at sz15; omega) (fun g hg => by simp at hg; omega); obtain ⟨M15, hM15⟩ := sz_some w15; have l15 : M31 ≤ M15 := (by have q1 := hM15; have q2 := g15.size; unfold Sz at q1 sz15; omega); clear hh g15 hM31 sz15; have hh := k15; clear k15)
        | fail)
      exact ⟨⟨i + 1, updK K k (V2 i), by omega, by omega, by go_num, okK_upd HK.out k i, hh, h6, h7, lo⟩, by simp [intOf]; omega⟩
    · have SL := hid (sv_l K r8 hr8)
      have hend : (decide (((i : Nat) : Int) < ((nr : Nat) : Int)) && decide (((i : Nat) : Int) < 12)) = false := by
        rcases (show ¬ i < nr ∨ ¬ i < 12 by omega) with h | h
        · rw [decide_eq_false (by omega), Bool.false_and]
        · rw [show decide (((i : Nat) : Int) < 12) = false from decide_eq_false (by omega), Bool.and_false]
      obtain ⟨c1, e1⟩ : ∃ c, decide (((i : Nat) : Int) < ((nr : Nat) : Int)) = c := ⟨_, rfl⟩
      obtain ⟨c2, e2⟩ : ∃ c, decide (((i : Nat) : Int) < 12) = c := ⟨_, rfl⟩
      rw [e1, e2] at hend
      have E1 := hid e1
      have E2 := hid e2
      have HE := hid hend
      clear e1 e2 hend hlt hi hi2
      go_upto_region 7 with fail
      go_cut [30] (fun v wx => v = (Value.bool false) ∧ wx = wr)
      case first =>
        go_wp2_with (first
          | (refine wpl_run rfl (.int .i64 ((nr : Nat) : Int)) _ (run_lenS (x := .tmp 24) (T := 73) undIs2 rfl rfl _) ?_)
          | (refine wpl_run rfl (.bool c1) _ (run_lssI (x := .tmp 23) (y := .tmp 25) rfl rfl rfl E1.out _) ?_; cases c1)
          | (refine wpl_want (by rfl) ?_; refine wpl_run rfl (.bool c2) _ (run_lssI (x := .tmp 28) (y := .const (.int .i64 12)) rfl rfl rfl E2.out _) ?_; obtain rfl : c2 = false := (by have h := HE.out; simpa using h))
          | fail)
        all_goals (go_meet; exact ⟨rfl, rfl⟩)
      case rest =>
        obtain ⟨rfl, ewc⟩ := hcut
        replace hh : Has wc b 83 193 (meC (mK K)) := by rw [ewc]; exact hh
        replace h6 : Has wc M1 26 4 (vlC S0) := by rw [ewc]; exact h6
        replace h7 : Has wc (M1 + 1) 74 32 (keC K) := by rw [ewc]; exact h7
        replace lo : Below N w wc := by rw [ewc]; exact lo
        replace hM : Sz wc M := by rw [ewc]; exact hM
        clear ewc
        go_upto_region 16 with (first
          | (refine wpl_run rfl (Q (BitVec.ofInt 64 z2)) _ (run_iu (x := .tmp 55) (z := z2) rfl undInt und64 rfl _) ?_)
          | (refine wpl_b rfl rfl (bin_rem _ (BitVec.ofInt 64 z2) 8#64 (by decide)) rfl rfl ?_)
          | (refine wpl_run rfl (.int .i64 ((rm z2 8 : Nat) : Int)) _ (run_rm (x := .tmp 57) rfl und64 undI64 (z := z2) (m := 8) (by omega) rfl _) ?_; rw [ER8.out])
          | (refine wpl_run rfl (.int .i64 ((r8 : Int) - 8)) _ (subN (x := .tmp 58) (y := .const (.int .i64 8)) (p := ((r8 : Nat) : Int)) rfl rfl rfl (wrap_z _ (by omega) (by omega)) _) ?_)
          | (refine wpl_load rfl 26 (.tmp 6) rfl (M1) rfl 26 4 _ h6 _ undVl.choose_spec.1 undVl.choose_spec.2 szVl ?_)
          | (refine wpl_run rfl (.agg (cellsOf (vlC (Vn 1#64)) 4)) _ (run_bd 26 #[(0, .const (.int .i64 1)), (1, .const (.int .u64 1))] rfl (cellsOf (vlC (Vn 1#64)) 4) (by kernel_rfl) _) ?_)
          | (go_at_call 11; refine (Save_stack b S0 (Vn 1#64) rfl (Vn_ok _) (mK K) ((r8 : Int) - 8) 1 (.inl rfl) (by omega) _ (M) hM hh).mono ?_; rintro e w16 ⟨he, g16, k16⟩; rw [SL.out] at he k16; subst he; have sz16 := hM; replace h6 := h6.grew g16 (by simp; omega); replace h7 := h7.grew g16 (by simp; omega); replace lo := g16.below lo (by unfold Sz at sz16; omega) (fun g hg => by simp at hg; omega); obtain ⟨M16, hM16⟩ := sz_some w16; have l16 : M ≤ M16 := (by have q1 := hM16; have q2 := g16.size; unfold Sz at q1 sz16; omega); clear hh g16 hM sz16; have hh := k16; clear k16)
          | fail)
        go_wp2_with fail
        go_loopw [11, 12, 13, 14, 15] (fun x11 x12 x13 x14 x15 wr => ∃ k : Nat, k ≤ 7 ∧ x11 = .int .i64 ((k : Nat) : Int) ∧ Has wr b 83 193 (meC (mL K (56 + r8))) ∧ Has wr M1 26 4 (vlC S0) ∧ Has wr (M1 + 1) 74 32 (keC K) ∧ Below N w wr) (fun x11 _ _ _ _ _ => 7 - (intOf x11).toNat)
        case atStart => exact ⟨0, by omega, rfl, hh, h6, h7, lo⟩
        case round =>
          clear hh h6 h7 lo hM16
          obtain ⟨k, hk, rfl, hh, h6, h7, lo⟩ := hrel
          obtain ⟨Mr, hMr⟩ := sz_some wr
          have lbM2 := hh.ltN hMr
          have l7M2 := h7.ltN hMr
          have lNM2 := below_sz lo hN hMr
          by_cases hlt : k < 7
          · have t1 : decide ((k : Int) < 7) = true := by simp; omega
            obtain ⟨bt, ebt⟩ : ∃ c, ((K k).tag != 0) = c := ⟨_, rfl⟩
            have l8 := ld_k8 K r8 k hlt
            rw [ebt] at l8
            have L8 := hid l8
            have L4 := hid (ld_k4 K r8 k hlt)
            have BT := hid ebt
            have KC := hid (okK_c HK.out k)
            clear l8 ebt
            obtain ⟨vx, evx⟩ : ∃ x, (if bt = true then (K k, (0 : Int)) else (zeroV, 14)) = x := ⟨_, rfl⟩
            rw [evx] at L8
            have VX := hid evx
            clear evx
            go_upto_region 21 with (first
              | (refine wpl_load rfl 26 (.tmp 6) rfl (M1) rfl 26 4 _ h6 _ undVl.choose_spec.1 undVl.choose_spec.2 szVl ?_)
              | (refine wpl_run rfl (.int .i64 ((8 * k : Nat) : Int)) _ (run_mul8 (x := .const (.int .i64 8)) (y := .tmp 73) (q := k) rfl rfl rfl (by omega) _) ?_)
              | (refine wpl_run rfl (.int .i64 (((8 * k : Nat) : Int) - 64)) _ (subN (x := .tmp 74) (y := .const (.int .i64 64)) (p := ((8 * k : Nat) : Int)) rfl rfl rfl (wrap_z _ (by omega) (by omega)) _) ?_)
              | (refine wpl_run rfl (.int .i64 ((8 * k : Nat) : Int)) _ (run_mul8 (x := .const (.int .i64 8)) (y := .tmp 82) (q := k) rfl rfl rfl (by omega) _) ?_)
              | (refine wpl_run rfl (.int .i64 (((8 * k : Nat) : Int) - 64)) _ (subN (x := .tmp 83) (y := .const (.int .i64 64)) (p := ((8 * k : Nat) : Int)) rfl rfl rfl (wrap_z _ (by omega) (by omega)) _) ?_)
              | (go_at_call 8; refine (Load_stack b S0 rfl (mL K (56 + r8)) (((8 * k : Nat) : Int) - 64) 8 (.inr (.inr (.inr rfl))) (by omega) _ (Mr) hMr hh).mono ?_; rintro e w17 ⟨he, hb17⟩; rw [L8.out] at he; subst he; obtain ⟨M17, hM17⟩ := sz_some w17; have l17 := below_sz hb17 hMr hM17; replace hh := hh.below hb17 (by omega); replace h6 := h6.below hb17 (by omega); replace h7 := h7.below hb17 (by omega); replace lo := lo.trans (hb17.mono (by omega)); clear hMr hb17)
              | (refine wpl_alloc rfl 26 rfl 4 (vlC zeroV) zeVl (M17) hM17 ?_; intro w18 hM18 hb18 h12; replace hh := hh.below hb18 (by omega); replace h6 := h6.below hb18 (by omega); replace h7 := h7.below hb18 (by omega); replace lo := lo.trans (hb18.mono (by omega)); clear hM17 hb18)
              | (refine wpl_store rfl 26 (.tmp 12) (.tmp 77) rfl (M17) 4 (vlC vx.1) rfl rfl 26 _ h12 szVl (fun j _ => vlC_one _ j) ?_; intro w19 t19 k19; replace hh := hh.touch t19 (by omega); replace h6 := h6.touch t19 (by omega); replace h7 := h7.touch t19 (by omega); replace lo := t19.below lo (by omega); have hM19 := t19.sz hM18; clear h12 t19 hM18; have h12 := k19; clear k19)
              | (go_at_call 8; refine (Load_stack b S0 rfl (mL K (56 + r8)) (((8 * k : Nat) : Int) - 64) 4 (.inr (.inr (.inl rfl))) (by omega) _ (M17 + 1) hM19 hh).mono ?_; rintro e w20 ⟨he, hb20⟩; rw [L4.out] at he; subst he; obtain ⟨M20, hM20⟩ := sz_some w20; have l20 := below_sz hb20 hM19 hM20; replace hh := hh.below hb20 (by omega); replace h6 := h6.below hb20 (by omega); replace h7 := h7.below hb20 (by omega); replace h12 := h12.below hb20 (by omega); replace lo := lo.trans (hb20.mono (by omega)); clear hM19 hb20)
              | (refine wpl_alloc rfl 26 rfl 4 (vlC zeroV) zeVl (M20) hM20 ?_; intro w21 hM21 hb21 h14; replace hh := hh.below hb21 (by omega); replace h6 := h6.below hb21 (by omega); replace h7 := h7.below hb21 (by omega); replace h12 := h12.below hb21 (by omega); replace lo := lo.trans (hb21.mono (by omega)); clear hM20 hb21)
              | (refine wpl_store rfl 26 (.tmp 14) (.tmp 86) rfl (M20) 4 (vlC zeroV) rfl rfl 26 _ h14 szVl (fun j _ => vlC_one _ j) ?_; intro w22 t22 k22; replace hh := hh.touch t22 (by omega); replace h6 := h6.touch t22 (by omega); replace h7 := h7.touch t22 (by omega); replace h12 := h12.touch t22 (by omega); replace lo := t22.below lo (by omega); have hM22 := t22.sz hM21; clear h14 t22 hM21; have h14 := k22; clear k22)
              | fail)
            have ck : w22.cell? ⟨M1 + 1, k * 4, none⟩ = some (.int .i64 (K k).tag) := by rw [show k * 4 = 0 + k * 4 + 0 by omega]; exact (h7.cell (j := 0 + k * 4 + 0) (by omega)).trans (congrArg some (keC_at K k 0 (by omega)))
            cases bt
            · have ev : vx = (zeroV, 14) := VX.out.symm
              subst ev
              refine wp_region_later (M20 + 1) (by kernel_rfl) (by kernel_rfl) ?_
              try simp only [pA]
              go_big_quiet_step (fail)
              go_big_quiet_step (fail)
              go_big_quiet_step (fail)
              refine later_val (fun q => run_iaK (x := .tmp 7) (y := .tmp 90) rfl (b := M1 + 1) (off := 0) (k := k) rfl rfl undK szVl (by omega)) (by rfl) ?_; simp only [pA]
              go_big_quiet_step (fail)
              refine later_c1 hM22 3 (.tmp 92) rfl rfl undInt rfl ck (by rfl) ?_; simp only [pA]
              refine later_val (v := .bool false) (fun q => run_neqI (x := .tmp 93) (y := .const (.int .i64 0)) rfl rfl rfl (q := 0) BT.out _) (by rfl) ?_; simp only [pA]
              go_big_quiet_step (fail)
              go_big_quiet_step (fail)
              go_big_quiet_step (fail)
              go_big_quiet_step (fail)
              go_big_quiet_step (fail)
              go_big_quiet_step (fail)
              go_big_quiet_step (fail)
              go_big_quiet_step (fail)
              go_big_quiet_step (fail)
              go_big_quiet_step (fail)
              go_big_quiet_step (fail)
              go_big_quiet_step (fail)
              go_big_quiet_step (fail)
              go_big_quiet_step (fail)
              go_big_quiet_step (fail)
              go_big_quiet_step (fail)
              refine wpQuiet_nil (laterE hM22 ?_)
              intro x50 M50 hb50 hM50 l50
              replace hh := hh.below hb50 (by omega)
              replace h6 := h6.below hb50 (by omega)
              replace h7 := h7.below hb50 (by omega)
              replace lo := lo.trans (hb50.mono (by omega))
              clear hb50 hM22 ck h12 h14
              go_wp2_with fail
              exact ⟨⟨k + 1, by omega, by go_num, hh, h6, h7, lo⟩, by simp [intOf]; omega⟩
            · have ev : vx = (K k, 0) := VX.out.symm
              subst ev
              refine wp_region_later (M20 + 1) (by kernel_rfl) (by kernel_rfl) ?_
              try simp only [pA]
              go_big_quiet_step (fail)
              go_big_quiet_step (fail)
              go_big_quiet_step (fail)
              refine later_val (fun q => run_iaK (x := .tmp 7) (y := .tmp 90) rfl (b := M1 + 1) (off := 0) (k := k) rfl rfl undK szVl (by omega)) (by rfl) ?_; simp only [pA]
              go_big_quiet_step (fail)
              refine later_c1 hM22 3 (.tmp 92) rfl rfl undInt rfl ck (by rfl) ?_; simp only [pA]
              refine later_val (v := .bool true) (fun q => run_neqI (x := .tmp 93) (y := .const (.int .i64 0)) rfl rfl rfl (q := 0) BT.out _) (by rfl) ?_; simp only [pA]
              go_big_quiet_step (fail)
              go_big_quiet_step (fail)
              go_big_quiet_step (fail)
              go_big_quiet_step (fail)
              go_big_quiet_step (fail)
              refine later_row hM22 26 (.tmp 12) rfl (M17) rfl 26 4 _ h12 undVl szVl (by rfl) ?_; simp only [pA]
              go_big_quiet_step (fail)
              refine later_val (fun q => run_iaK (x := .tmp 7) (y := .tmp 101) rfl (b := M1 + 1) (off := 0) (k := k) rfl rfl undK szVl (by omega)) (by rfl) ?_; simp only [pA]
              refine later_val (fun q => run_rwP 26 (.tmp 102) rfl (M1 + 1) (0 + k * 4) rfl 74 32 _ (Later.has hM22 h7 q) 4 (by omega) (vlC (K k)) (fun j hj => keC_at K k j hj) undVl szVl) (by rfl) ?_; simp only [pA]
              refine later_val (v := .bool false) (fun q => run_neq_op 26 26 (.tmp 100) (.tmp 103) rfl _ _ rfl rfl true (by kernel_rfl) (run_eqV_t rfl KC.out q.w')) (by rfl) ?_; simp only [pA]
              go_big_quiet_step (fail)
              go_big_quiet_step (fail)
              go_big_quiet_step (fail)
              go_big_quiet_step (fail)
              go_big_quiet_step (fail)
              go_big_quiet_step (fail)
              refine wpQuiet_nil (laterE hM22 ?_)
              intro x50 M50 hb50 hM50 l50
              replace hh := hh.below hb50 (by omega)
              replace h6 := h6.below hb50 (by omega)
              replace h7 := h7.below hb50 (by omega)
              replace lo := lo.trans (hb50.mono (by omega))
              clear hb50 hM22 ck h12 h14
              go_wp2_with fail
              exact ⟨⟨k + 1, by omega, by go_num, hh, h6, h7, lo⟩, by simp [intOf]; omega⟩
          · have t1 : decide ((k : Int) < 7) = false := by simp; omega
            obtain ⟨vl, ell⟩ := ld_l K r8 hr8
            have LL := hid ell
            clear ell
            go_wp2_with (first
              | (refine wpl_load rfl 26 (.tmp 6) rfl (M1) rfl 26 4 _ h6 _ undVl.choose_spec.1 undVl.choose_spec.2 szVl ?_)
              | (go_at_call 8; refine (Load_stack b S0 rfl (mL K (56 + r8)) ((r8 : Int) - 8) 1 (.inl rfl) (by omega) _ (Mr) hMr hh).mono ?_; rintro e w23 ⟨he, hb23⟩; rw [LL.out] at he; subst he; obtain ⟨M23, hM23⟩ := sz_some w23; have l23 := below_sz hb23 hMr hM23; replace hh := hh.below hb23 (by omega); replace h6 := h6.below hb23 (by omega); replace h7 := h7.below hb23 (by omega); replace lo := lo.trans (hb23.mono (by omega)); clear hMr hb23)
              | (refine wpl_alloc rfl 26 rfl 4 (vlC zeroV) zeVl (M23) hM23 ?_; intro w24 hM24 hb24 h16; replace hh := hh.below hb24 (by omega); replace h6 := h6.below hb24 (by omega); replace h7 := h7.below hb24 (by omega); replace lo := lo.trans (hb24.mono (by omega)); clear hM23 hb24)
              | (refine wpl_store rfl 26 (.tmp 16) (.tmp 116) rfl (M23) 4 (vlC vl) rfl rfl 26 _ h16 szVl (fun j _ => vlC_one _ j) ?_; intro w25 t25 k25; replace hh := hh.touch t25 (by omega); replace h6 := h6.touch t25 (by omega); replace h7 := h7.touch t25 (by omega); replace lo := t25.below lo (by omega); have hM25 := t25.sz hM24; clear h16 t25 hM24; have h16 := k25; clear k25)
              | fail)
            go_ret
            exact ⟨rfl, lo⟩
end Go.Proofs.Ytjcjmlmdcjkceaa
