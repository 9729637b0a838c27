/- RegionStacks: its walk. -/
import Derived.Test.YtjcjmlmdcjkceaaRu1
import Derived.Test.YtjcjmlmdcjkceaaRu2
namespace Go.Proofs.Ytjcjmlmdcjkceaa
open Go Go.RowKit
set_option maxRecDepth 100000 in
set_option maxHeartbeats 64000000 in
theorem law_rst (pr : Option Addr) (nr cr : Nat) (Z : Nat → AxR) (w : World) (N : Nat) (hN : Sz w N) (hrow : RowA w pr nr Z) (hZ : ∀ k, k < nr → okX w (Z k)) : Calls Try.prog 3 #[.slice pr nr cr] w fun e w' => e = .returned (.bool true) ∧ Below N w w' := by
  have hN' := hN
  have lo := Below.refl N w
  have HZ := hid hZ
  clear hZ
  go_enter Try.func3, Try.ntmps3
  go_upto_region 3 with (first
    | (go_at_call 7; refine (None_any _).mono ?_; rintro e u ⟨rfl, hu⟩; have hu2 := hu.symm; subst hu2; clear hu; try simp only [pA])
    | (go_at_call 8; refine (Load_nil zeroV 0 1 _ (N) hN').mono ?_; rintro e w11 ⟨rfl, hb11⟩; obtain ⟨M11, hM11⟩ := sz_some w11; have l11 := below_sz hb11 hN' hM11; replace lo := lo.trans (hb11.mono (by omega)); clear hN' hb11; try simp only [pA])
    | (go_at_call 9; refine (Bytes_nil zeroV 0 _ (M11 + 1) hM13).mono ?_; rintro e w14 ⟨rfl, hb14⟩; obtain ⟨M14, hM14⟩ := sz_some w14; have l14 := below_sz hb14 hM13 hM14; replace lo := lo.trans (hb14.mono (by omega)); clear hM13 hb14; try simp only [pA])
    | ((with_reducible show wpList _ _ _ (_ :: _) _ _); first
      | (refine wpl_run rfl (.agg (cellsOf (vlC zeroV) 4)) _ (run_bd 26 #[] rfl (cellsOf (vlC zeroV) 4) (by kernel_rfl) _) ?_; try simp only [pA])
      | (refine wpl_alloc rfl 26 rfl 4 (vlC zeroV) zeVl (M11) hM11 ?_; intro w12 hM12 hb12 h3; replace lo := lo.trans (hb12.mono (by omega)); clear hM11 hb12; try simp only [pA])
      | (refine wpl_store rfl 26 (.tmp 3) (.tmp 38) rfl (M11) 4 (vlC zeroV) rfl rfl 26 _ h3 szVl (fun j _ => vlC_one _ j) ?_; intro w13 t13 k13; replace lo := t13.below lo (by omega); have hM13 := t13.sz hM12; clear h3 t13 hM12; have h3 := k13; clear k13; try simp only [pA]))
    | fail)
  clear h3
  go_upto_region 5 with (first
    | (go_at_call 10; refine (saves_any _ (M14) hM14).mono ?_; rintro e w15 ⟨rfl, hb15⟩; obtain ⟨M15, hM15⟩ := sz_some w15; have l15 := below_sz hb15 hM14 hM15; replace lo := lo.trans (hb15.mono (by omega)); clear hM14 hb15; try simp only [pA])
    | (go_at_call 7; refine (None_any _).mono ?_; rintro e u ⟨rfl, hu⟩; have hu2 := hu.symm; subst hu2; clear hu; try simp only [pA])
    | (go_at_call 11; refine (Save_nil zeroV zeroV 0 1 _ (M15) hM15).mono ?_; rintro e w16 ⟨rfl, hb16⟩; obtain ⟨M16, hM16⟩ := sz_some w16; have l16 := below_sz hb16 hM15 hM16; replace lo := lo.trans (hb16.mono (by omega)); clear hM15 hb16; try simp only [pA])
    | (go_at_call 12; refine (Fill_nil zeroV (.slice none 0 0) _ (M16) hM16).mono ?_; rintro e w17 ⟨rfl, hb17⟩; obtain ⟨M17, hM17⟩ := sz_some w17; have l17 := below_sz hb17 hM16 hM17; replace lo := lo.trans (hb17.mono (by omega)); clear hM16 hb17; try simp only [pA])
    | (go_at_call 13; refine (Map_nil 0 _).mono ?_; rintro e u ⟨rfl, hu⟩; have hu2 := hu.symm; subst hu2; clear hu; try simp only [pA])
    | ((with_reducible show wpList _ _ _ (_ :: _) _ _); first
      | (refine wpl_wantN ?_ ?_; rotate_left; (refine wpl_run rfl (.agg (cellsOf (vlC zeroV) 4)) _ (run_bd 26 #[] rfl (cellsOf (vlC zeroV) 4) (by kernel_rfl) _) ?_); rotate_left; rfl; try simp only [pA]))
    | fail)
  go_upto_region 6 with (first
    | (go_at_call 14; refine (New_nil X0 _ (M17) hM17).mono ?_; rintro e w18 ⟨b, rfl, lb, hb18, hh⟩; obtain ⟨M18, hM18⟩ := sz_some w18; have lM18 := hh.ltN hM18; replace lo := lo.trans (hb18.mono (by omega)); clear hb18 hM17; try simp only [pA])
    | ((with_reducible show wpList _ _ _ (_ :: _) _ _); first
      | (refine wpl_run rfl (.agg (cellsOf (xC X0) 32)) _ (run_bd 41 #[] rfl (cellsOf (xC X0) 32) (by kernel_rfl) _) ?_; try simp only [pA])
      | (refine wpl_run rfl (.agg (cellsOf (rkC zeroK) 136)) _ (run_bd 48 #[] rfl (cellsOf (rkC zeroK) 136) (by kernel_rfl) _) ?_; try simp only [pA])
      | (refine wpl_box rfl 48 (.tmp 76) rfl 136 _ rfl M18 hM18 ?_; intro w19 hM19 hb19 hs; replace hh := hh.below hb19 (by omega); replace lo := lo.trans (hb19.mono (by omega)); clear hb19 hM18; try simp only [pA]))
    | fail)
  go_wp2_with fail
  go_loopw [9, 10, 11, 12, 13, 14, 15, 16, 17, 18, 19, 20, 21, 22, 23, 24, 25, 26, 27, 28, 29, 30, 31, 32, 33] (fun x9 x10 x11 x12 x13 x14 x15 x16 x17 x18 x19 x20 x21 x22 x23 x24 x25 x26 x27 x28 x29 x30 x31 x32 x33 wr => ∃ (i : Nat) (m : Me) (s : Rk) (L : Nat) (pk : Option Addr) (ck : Nat), i ≤ nr ∧ i ≤ 60 ∧ L ≤ i ∧ x10 = .int .i64 ((i : Nat) : Int) ∧ x9 = .slice pk L ck ∧ Has wr b 83 193 (meC m) ∧ Has wr M18 48 136 (rkC s) ∧ Inv m s L ∧ OwnK wr 26 4 pk L ck keF ∧ (∀ g, blk pk = some g → g ≠ b ∧ g ≠ M18 ∧ N ≤ g) ∧ Below N w wr) (fun _ x10 _ _ _ _ _ _ _ _ _ _ _ _ _ _ _ _ _ _ _ _ _ _ _ _ => 60 - (intOf x10).toNat)
  case atStart => exact ⟨0, newM X0, zeroK, 0, none, 0, by omega, by omega, by omega, rfl, rfl, hh, hs, inv_0, .inl ⟨rfl, rfl, rfl⟩, (fun g h => by simp [blk] at h), lo⟩
  case round =>
    as_aux_lemma =>
      clear hh hs lo hM19
      obtain ⟨i, m, s, L, pk, ck, hi, hi2, hL, rfl, rfl, hh, hs, hI, hk, hpk, lo⟩ := hrel
      obtain ⟨M, hM⟩ := sz_some wr
      have lbM := hh.ltN hM
      have lsM := hs.ltN hM
      have lNM := below_sz lo hN hM
      have HI := hid hI
      have HPK := hid (show ∀ g, blk pk = some g → g ≠ b ∧ g ≠ M18 ∧ N ≤ g ∧ g < M from fun g hg => ⟨(hpk g hg).1, (hpk g hg).2.1, (hpk g hg).2.2, by have e := hM; unfold Sz at e; have := hk.lt g hg; omega⟩)
      clear hI hpk
      by_cases hlt : i < nr ∧ i < 60
      · as_aux_lemma =>
          have t1 : decide (((i : Nat) : Int) < ((nr : Nat) : Int)) = true := decide_eq_true (by omega)
          have t2 : decide (((i : Nat) : Int) < 60) = true := decide_eq_true (by omega)
          obtain ⟨bb, ob, rfl, hcl⟩ := (hrow.below hN lo) (by omega)
          replace hcl := hcl i hlt.1
          have hz := HZ.out i hlt.1
          have zn := nF_b hz.n
          have zo := tmod80 (Z i).off
          have zn2 := hz.n
          have zc := hz.c
          clear hz
          go_upto_region 11 with (first
            | ((with_reducible show wpList _ _ _ (_ :: _) _ _); first
              | (refine wpl_run rfl (.int .i64 ((nr : Nat) : Int)) _ (run_lenS (x := .tmp 79) (T := 22) undAcs rfl rfl _) ?_; try simp only [pA])
              | (refine wpl_run rfl (.pointer (some ⟨bb, ob + i * 6, none⟩)) _ (run_ixK6 22 51 6 undAcs szAc (.tmp 88) (.tmp 89) rfl rfl rfl (k := i) hlt.1 _) ?_; try simp only [pA])
              | (refine wpl_load_cells rfl 51 (.tmp 90) rfl bb (ob + i * 6) rfl 6 (acC (Z i)) hcl _ undAc.choose_spec.1 undAc.choose_spec.2 szAc ?_; try simp only [pA])
              | (refine wpl_alloc rfl 51 rfl 6 (acC zeroX) zeAc (M) hM ?_; intro w20 hM20 hb20 h11; replace hh := hh.below hb20 (by omega); replace hs := hs.below hb20 (by omega); replace lo := lo.trans (hb20.mono (by omega)); replace hk := hk.below hb20 (by have eM := hM; unfold Sz at eM; omega); clear hcl; clear hM hb20; try simp only [pA])
              | (refine wpl_store rfl 51 (.tmp 11) (.tmp 91) rfl (M) 6 (acC (Z i)) rfl rfl 51 _ h11 szAc (fun j _ => acC_one _ j) ?_; intro w21 t21 k21; replace hh := hh.touch t21 (by omega); replace hs := hs.touch t21 (by omega); replace hk := hk.touch t21 (fun g hg => by have := HPK.out g hg; omega); replace lo := t21.below lo (by omega); have hM21 := t21.sz hM20; clear h11 t21 hM20; have h11 := k21; clear k21; try simp only [pA]))
            | fail)
          obtain ⟨z, ez⟩ : ∃ z, z = Z i := ⟨_, rfl⟩
          rw [← ez] at h11 zn zo zn2 zc
          have EZ := hid ez
          clear ez
          have q0 : w21.cell? ⟨M, 0, none⟩ = some (.int .i64 z.wh) := h11.cell (j := 0) (by omega)
          have q1 : w21.cell? ⟨M, 1, none⟩ = some (.int .i64 z.n) := h11.cell (j := 1) (by omega)
          have q2 : w21.cell? ⟨M, 2, none⟩ = some (.int .i64 z.off) := h11.cell (j := 2) (by omega)
          have q3 : w21.cell? ⟨M, 3, none⟩ = some (.int .i64 z.sz) := h11.cell (j := 3) (by omega)
          as_aux_lemma =>
            go_upto_region 12 with (first
              | ((with_reducible show wpList _ _ _ (_ :: _) _ _); first
                | (refine wpl_run rfl (.int .i64 (z.n.tmod 70)) _ (run_remZ (x := .tmp 93) (y := .const (.int .i64 70)) (q := 70) rfl rfl rfl (by omega) _) ?_; try simp only [pA]))
              | fail)
            go_upto_if 98 with (first
              | ((with_reducible show wpList _ _ _ (_ :: _) _ _); first
                | (refine wpl_run rfl (.int .i64 (z.n.tmod 50)) _ (run_remZ (x := .tmp 96) (y := .const (.int .i64 50)) (q := 50) rfl rfl rfl (by omega) _) ?_; try simp only [pA])
                | (refine wpl_run rfl (.bool (z.n.tmod 50 == 49)) _ (run_eqlI (x := .tmp 97) (y := .const (.int .i64 49)) rfl rfl rfl (q := 49) rfl _) ?_; try simp only [pA]))
              | fail)
            try simp only [Act.put, List.setIfInBounds_toArray, List.set_cons_succ, List.set_cons_zero]
            go_cut [12] (fun v wx => v = (Value.int .i64 (nF z.n)) ∧ wx = w21)
            case first =>
              by_cases h49 : z.n.tmod 50 = 49
              · have hb : (z.n.tmod 50 == 49) = true := beq_iff_eq.2 h49
                have HN : Hid (z.n = nF z.n) := hid (if_pos h49).symm
                clear h49
                go_wp2_with fail
                go_meet
                exact ⟨congrArg (Value.int .i64) HN.out, rfl⟩
              · have hb : (z.n.tmod 50 == 49) = false := beq_false_of_ne h49
                have HN : Hid (z.n.tmod 70 = nF z.n) := hid (if_neg h49).symm
                clear h49
                go_wp2_with fail
                go_meet
                exact ⟨congrArg (Value.int .i64) HN.out, rfl⟩
            case rest =>
              as_aux_lemma =>
                obtain ⟨rfl, ewc⟩ := hcut
                replace hh : Has wc b 83 193 (meC m) := by rw [ewc]; exact hh
                replace hs : Has wc M18 48 136 (rkC s) := by rw [ewc]; exact hs
                replace hk : OwnK wc 26 4 pk L ck keF := by rw [ewc]; exact hk
                replace lo : Below N w wc := by rw [ewc]; exact lo
                replace h11 : Has wc M 51 6 (acC z) := by rw [ewc]; exact h11
                replace q0 : wc.cell? ⟨M, 0, none⟩ = some (.int .i64 z.wh) := by rw [ewc]; exact q0
                replace q2 : wc.cell? ⟨M, 2, none⟩ = some (.int .i64 z.off) := by rw [ewc]; exact q2
                replace q3 : wc.cell? ⟨M, 3, none⟩ = some (.int .i64 z.sz) := by rw [ewc]; exact q3
                replace hM21 : Sz wc (M + 1) := by rw [ewc]; exact hM21
                clear ewc q1
                obtain ⟨n, en⟩ : ∃ n, nF z.n = n := ⟨_, rfl⟩
                obtain ⟨o, eo⟩ : ∃ o, z.off.tmod 80 = o := ⟨_, rfl⟩
                obtain ⟨k, ek⟩ : ∃ k, k6 z.sz = k := ⟨_, rfl⟩
                obtain ⟨c5, ec⟩ : ∃ c, rm z.wh 5 = c := ⟨_, rfl⟩
                have hsz := k6_ok z.sz
                rw [en] at zn
                rw [eo] at zo
                rw [ek] at hsz
                have hc5 : c5 < 5 := by rw [← ec]; exact rm_lt _ 5 (by omega)
                have hk8 : k ≤ 8 ∧ 0 < k := by rcases hsz with rfl | rfl | rfl | rfl <;> omega
                rw [en]
                have HK := hid hsz
                have EN := hid en
                have EO := hid eo
                have EK := hid ek
                have EC := hid ec
                clear en eo ek ec hsz
                as_aux_lemma =>
                  go_upto_block 2 with (first
                    | (go_at_call 15; refine (Size_any z.sz _ (M + 1 + 1) hM23).mono ?_; rintro e w24 ⟨rfl, hb24⟩; obtain ⟨M24, hM24⟩ := sz_some w24; have l24 := below_sz hb24 hM23 hM24; replace hh := hh.below hb24 (by omega); replace hs := hs.below hb24 (by omega); replace h11 := h11.below hb24 (by omega); replace h14 := h14.below hb24 (by omega); replace lo := lo.trans (hb24.mono (by omega)); rw [EK.out]; replace hk := hk.below hb24 (by have eM := hM23; unfold Sz at eM; omega); replace q0 := keep_c hb24 hM23 q0; replace q2 := keep_c hb24 hM23 q2; replace q3 := keep_c hb24 hM23 q3; clear hM23 hb24; try simp only [pA])
                    | (go_at_call 16; refine (Place_any n o k (by omega) (by omega) _).mono ?_; rintro e u ⟨rfl, hu⟩; have hu2 := hu.symm; subst hu2; clear hu; try simp only [pA])
                    | ((with_reducible show wpList _ _ _ (_ :: _) _ _); first
                      | (refine wpl_run rfl (.int .i64 o) _ (by rw [← EO.out]; exact run_remZ (x := .tmp 102) (y := .const (.int .i64 80)) (q := 80) rfl rfl rfl (by omega) _) ?_; try simp only [pA])
                      | (refine wpl_run rfl (Q (BitVec.ofInt 64 n)) _ (run_iu (x := .tmp 104) (z := n) rfl undI64 und64 rfl _) ?_; try simp only [pA])
                      | (refine wpl_run rfl (.agg (cellsOf (vlC (Sv n)) 4)) _ (run_bd 26 #[(0, .const (.int .i64 3)), (1, .tmp 105)] rfl (cellsOf (vlC (Sv n)) 4) (by kernel_rfl) _) ?_; try simp only [pA])
                      | (refine wpl_alloc rfl 26 rfl 4 (vlC zeroV) zeVl (M + 1) hM21 ?_; intro w22 hM22 hb22 h14; replace hh := hh.below hb22 (by omega); replace hs := hs.below hb22 (by omega); replace h11 := h11.below hb22 (by omega); replace lo := lo.trans (hb22.mono (by omega)); replace hk := hk.below hb22 (by have eM := hM21; unfold Sz at eM; omega); replace q0 := keep_c hb22 hM21 q0; replace q2 := keep_c hb22 hM21 q2; replace q3 := keep_c hb22 hM21 q3; clear hM21 hb22; try simp only [pA])
                      | (refine wpl_store rfl 26 (.tmp 14) (.tmp 106) rfl (M + 1) 4 (vlC (Sv n)) rfl rfl 26 _ h14 szVl (fun j _ => vlC_one _ j) ?_; intro w23 t23 k23; replace hh := hh.touch t23 (by omega); replace hs := hs.touch t23 (by omega); replace h11 := h11.touch t23 (by omega); replace hk := hk.touch t23 (fun g hg => by have := HPK.out g hg; omega); replace q0 := t23.cell q0 (by simp only; omega); replace q2 := t23.cell q2 (by simp only; omega); replace q3 := t23.cell q3 (by simp only; omega); replace lo := t23.below lo (by omega); have hM23 := t23.sz hM22; clear h14 t23 hM22; have h14 := k23; clear k23; try simp only [pA])
                      | (refine wpl_run rfl (Q (BitVec.ofInt 64 z.wh)) _ (run_iu (x := .tmp 115) (z := z.wh) rfl undInt und64 rfl _) ?_; try simp only [pA])
                      | (refine wpl_b rfl rfl (bin_rem _ (BitVec.ofInt 64 z.wh) 5#64 (by decide)) rfl rfl ?_; try simp only [pA])
                      | (refine wpl_run rfl (.int .i64 ((rm z.wh 5 : Nat) : Int)) _ (run_rm (x := .tmp 117) rfl und64 undInt (z := z.wh) (m := 5) (by omega) rfl _) ?_; rw [EC.out]; try simp only [pA]))
                    | fail)
                  clear q0 q2 q3
                  try simp only [Act.put, List.setIfInBounds_toArray, List.set_cons_succ, List.set_cons_zero]
                  have hfn : sn (Sv n).n = n := sn_of n zn.1 zn.2
                  have HFN := hid hfn
                  clear hfn
                  have hin : (inB n o (-64) 64 = true ∧ at0 n o (-64) + k ≤ 64) ∨ ¬ (inB n o (-64) 64 = true ∧ at0 n o (-64) + k ≤ 64) := Decidable.em _
                  rcases (show c5 = 0 ∨ c5 = 1 ∨ c5 = 2 ∨ c5 = 3 ∨ c5 = 4 by omega) with rfl | rfl | rfl | rfl | rfl
                  · rcases hin with hin | hin
                    · as_aux_lemma =>
                        go_upto_region 20 with fail
                        refine wp_region_inn (fun u => Has u (M + 1) 26 4 (vlC (Sv n)) ∧ Has u M 51 6 (acC z)) ⟨h14.drew, h11.drew⟩ (by kernel_rfl) ?_
                        have hne := inn_ne (I := (fun u => Has u (M + 1) 26 4 (vlC (Sv n)) ∧ Has u M 51 6 (acC z))) ⟨h14, h11⟩
                        refine anyI_reads [0, 1, 2, 3, 4, 5, 6, 9, 10, 11, 12, 13] _ _ _ ⟨h14.drew, h11.drew⟩ (by kernel_rfl) (fun _ _ _ d _ h => by cases d <;> exact h) ?_
                        simp only [pickO, List.map_cons, List.map_nil, List.getElem?_toArray, List.getElem?_cons_succ, List.getElem?_cons_zero, Option.getD_some, Act.put, List.setIfInBounds_toArray, List.set_cons_succ, List.set_cons_zero]
                        go_big_quiet_step (fail)
                        refine inn_val (fun x => run_ld 26 (.tmp 14) rfl (M + 1) rfl 26 4 _ x.h.1 _ undVl.choose_spec.1 undVl.choose_spec.2 szVl) (by rfl) ?_; simp only [Act.put, List.setIfInBounds_toArray, List.set_cons_succ, List.set_cons_zero]
                        go_big_quiet_step (fail)
                        go_big_quiet_step (fail)
                        go_big_quiet_step (fail)
                        refine inn_val (fun x => run_c1 23 (.tmp 125) rfl ⟨M, 4, none⟩ rfl und64 rfl (x.h.2.cell (j := 4) (by omega))) (by rfl) ?_; simp only [Act.put, List.setIfInBounds_toArray, List.set_cons_succ, List.set_cons_zero]
                        refine inn_val (fun x => run_bd 26 #[(0, .const (.int .i64 1)), (1, .tmp 126)] rfl (cellsOf (vlC (Vn z.x)) 4) (by kernel_rfl) _) (by rfl) ?_; simp only [Act.put, List.setIfInBounds_toArray, List.set_cons_succ, List.set_cons_zero]
                        go_big_quiet_step (fail)
                        go_big_quiet_step (fail)
                        go_big_quiet_step (fail)
                        go_big_quiet_step (fail)
                        refine inn_val (fun x => run_c1 23 (.tmp 133) rfl ⟨M, 4, none⟩ rfl und64 rfl (x.h.2.cell (j := 4) (by omega))) (by rfl) ?_; simp only [Act.put, List.setIfInBounds_toArray, List.set_cons_succ, List.set_cons_zero]
                        refine wpQuiet_nil ?_
                        clear hne
                        obtain ⟨v0, ev⟩ : ∃ x, x = w24.drew := ⟨_, rfl⟩
                        replace lo := below_drewN lo 1
                        replace hh : Has v0 b 83 193 (meC m) := by rw [ev]; exact hh
                        replace hs : Has v0 M18 48 136 (rkC s) := by rw [ev]; exact hs
                        replace hk : OwnK v0 26 4 pk L ck keF := by rw [ev]; exact hk
                        replace lo : Below N w v0 := by rw [ev]; exact lo
                        replace h11 : Has v0 M 51 6 (acC z) := by rw [ev]; exact h11
                        replace h14 : Has v0 (M + 1) 26 4 (vlC (Sv n)) := by rw [ev]; exact h14
                        have hV0 : Sz v0 (M24) := by rw [ev]; exact hM24
                        rw [← ev]
                        clear ev hM24
                        obtain ⟨f, ef⟩ : ∃ f, at0 n o (-64) = f := ⟨_, rfl⟩
                        have hfk : f + k ≤ 64 := by rw [← ef]; exact hin.2
                        have esv : svS m (sn (Sv n).n) o k (Vn z.x) = (byM (wrM m f k) f k z.x, 0) := by
                          rw [HFN.out]; unfold svS; rw [ef, if_pos ⟨hin.1, hfk⟩, if_pos (show (Vn z.x).tag = 1 from rfl)]; rfl
                        have epl : plF n o k = ((f : Nat) : Int) := by rw [plF_ok (by omega), if_pos hin, ef]
                        rw [epl]
                        have ESV := hid esv
                        clear esv epl
                        refine anyI_part [7] _ _ _ _ (by kernel_rfl) ?_
                        simp only [List.filterMap_cons, List.filterMap_nil, List.getElem?_toArray, List.getElem?_cons_succ, List.getElem?_cons_zero]
                        change wpList _ _ _ [_] _ _
                        go_wp2_with fail
                        go_at_call 11
                        refine (Save_stack b (Sv n) (Vn z.x) rfl (Vn_ok _) m o k HK.out (by omega) _ (M24) hV0 hh).mono ?_
                        rintro e w25 ⟨he, g25, k25⟩
                        rw [ESV.out] at he k25
                        subst he
                        have sz25 := hV0
                        unfold Sz at sz25
                        replace hs := hs.grew g25 (by simp; omega)
                        replace h11 := h11.grew g25 (by simp; omega)
                        replace h14 := h14.grew g25 (by simp; omega)
                        replace hk := hk.grew g25 (.inr (by intro h; have := HPK.out _ h; omega))
                        replace lo := g25.below lo (by omega) (fun g hg => by simp at hg; omega)
                        obtain ⟨M25, hM25⟩ := sz_some w25
                        have l25 : M24 ≤ M25 := (by have q1 := hM25; have q2 := g25.size; unfold Sz at q1; omega)
                        clear hh g25 hV0 sz25
                        have hh := k25
                        clear k25
                        dsimp only
                        go_step
                        refine ⟨⟨h14, h11⟩, ?_⟩
                        change anyI _ _ _ _ _ _ _ _ _
                        try simp only [Act.put, List.setIfInBounds_toArray, List.set_cons_succ, List.set_cons_zero, List.getElem_toArray, List.getElem_cons_succ, List.getElem_cons_zero]
                        have hne := inn_ne (I := (fun u => Has u (M + 1) 26 4 (vlC (Sv n)) ∧ Has u M 51 6 (acC z))) ⟨h14, h11⟩
                        refine anyI_reads [8] _ _ _ ⟨h14, h11⟩ (by kernel_rfl) (fun _ _ _ d _ h => by cases d <;> exact h) ?_
                        simp only [pickO, List.map_cons, List.map_nil, List.getElem?_toArray, List.getElem?_cons_succ, List.getElem?_cons_zero, Option.getD_some, Act.put, List.setIfInBounds_toArray, List.set_cons_succ, List.set_cons_zero]
                        go_big_quiet_step (fail)
                        refine wpQuiet_nil ?_
                        clear hne
                        refine anyI_part [14, 15] _ _ _ _ (by kernel_rfl) ?_
                        simp only [List.filterMap_cons, List.filterMap_nil, List.getElem?_toArray, List.getElem?_cons_succ, List.getElem?_cons_zero]
                        change wpList _ _ _ [_] _ _
                        go_wp2_with fail
                        go_at_call 17
                        refine (RSave_num M18 s f k z.x hfk (by omega) (by omega) _ (M25) hM25 hs).mono ?_
                        rintro e w26 ⟨he, g26, k26⟩
                        subst he
                        have sz26 := hM25
                        unfold Sz at sz26
                        replace hh := hh.grew g26 (by simp; omega)
                        replace h11 := h11.grew g26 (by simp; omega)
                        replace h14 := h14.grew g26 (by simp; omega)
                        replace hk := hk.grew g26 (.inr (by intro h; have := HPK.out _ h; omega))
                        replace lo := g26.below lo (by omega) (fun g hg => by simp at hg; omega)
                        obtain ⟨M26, hM26⟩ := sz_some w26
                        have l26 : M25 ≤ M26 := (by have q1 := hM26; have q2 := g26.size; unfold Sz at q1; omega)
                        clear hs g26 hM25 sz26
                        have hs := k26
                        clear k26
                        dsimp only
                        go_step
                        refine ⟨⟨h14, h11⟩, ?_⟩
                        change wpList _ _ _ [_] _ _
                        go_wp2_with fail
                        refine ⟨⟨h14, h11⟩, ?_⟩
                        change anyI _ _ _ _ _ _ _ _ _
                        try simp only [Act.put, List.setIfInBounds_toArray, List.set_cons_succ, List.set_cons_zero, List.getElem_toArray, List.getElem_cons_succ, List.getElem_cons_zero]
                        refine anyI_done (by kernel_rfl) ?_
                        try simp only [Act.put, List.setIfInBounds_toArray, List.set_cons_succ, List.set_cons_zero, List.getElem_toArray, List.getElem_cons_succ, List.getElem_cons_zero]
                        go_wp2_with fail
                        exact ⟨⟨i + 1, byM (wrM m f k) f k z.x, svR s f k z.x 0, L, pk, ck, by omega, by omega, by omega, by go_num, rfl, hh, hs, HI.out.num f k z.x hfk, hk, fun g hg => ⟨(HPK.out g hg).1, (HPK.out g hg).2.1, (HPK.out g hg).2.2.1⟩, lo⟩, by simp [intOf]; omega⟩
                    · as_aux_lemma =>
                        go_upto_region 20 with fail
                        refine wp_region_inn (fun u => Has u (M + 1) 26 4 (vlC (Sv n)) ∧ Has u M 51 6 (acC z)) ⟨h14.drew, h11.drew⟩ (by kernel_rfl) ?_
                        have hne := inn_ne (I := (fun u => Has u (M + 1) 26 4 (vlC (Sv n)) ∧ Has u M 51 6 (acC z))) ⟨h14, h11⟩
                        refine anyI_reads [0, 1, 2, 3, 4, 5, 6, 9, 10, 11, 12, 13] _ _ _ ⟨h14.drew, h11.drew⟩ (by kernel_rfl) (fun _ _ _ d _ h => by cases d <;> exact h) ?_
                        simp only [pickO, List.map_cons, List.map_nil, List.getElem?_toArray, List.getElem?_cons_succ, List.getElem?_cons_zero, Option.getD_some, Act.put, List.setIfInBounds_toArray, List.set_cons_succ, List.set_cons_zero]
                        go_big_quiet_step (fail)
                        refine inn_val (fun x => run_ld 26 (.tmp 14) rfl (M + 1) rfl 26 4 _ x.h.1 _ undVl.choose_spec.1 undVl.choose_spec.2 szVl) (by rfl) ?_; simp only [Act.put, List.setIfInBounds_toArray, List.set_cons_succ, List.set_cons_zero]
                        go_big_quiet_step (fail)
                        go_big_quiet_step (fail)
                        go_big_quiet_step (fail)
                        refine inn_val (fun x => run_c1 23 (.tmp 125) rfl ⟨M, 4, none⟩ rfl und64 rfl (x.h.2.cell (j := 4) (by omega))) (by rfl) ?_; simp only [Act.put, List.setIfInBounds_toArray, List.set_cons_succ, List.set_cons_zero]
                        refine inn_val (fun x => run_bd 26 #[(0, .const (.int .i64 1)), (1, .tmp 126)] rfl (cellsOf (vlC (Vn z.x)) 4) (by kernel_rfl) _) (by rfl) ?_; simp only [Act.put, List.setIfInBounds_toArray, List.set_cons_succ, List.set_cons_zero]
                        go_big_quiet_step (fail)
                        go_big_quiet_step (fail)
                        go_big_quiet_step (fail)
                        go_big_quiet_step (fail)
                        refine inn_val (fun x => run_c1 23 (.tmp 133) rfl ⟨M, 4, none⟩ rfl und64 rfl (x.h.2.cell (j := 4) (by omega))) (by rfl) ?_; simp only [Act.put, List.setIfInBounds_toArray, List.set_cons_succ, List.set_cons_zero]
                        refine wpQuiet_nil ?_
                        clear hne
                        obtain ⟨v0, ev⟩ : ∃ x, x = w24.drew := ⟨_, rfl⟩
                        replace lo := below_drewN lo 1
                        replace hh : Has v0 b 83 193 (meC m) := by rw [ev]; exact hh
                        replace hs : Has v0 M18 48 136 (rkC s) := by rw [ev]; exact hs
                        replace hk : OwnK v0 26 4 pk L ck keF := by rw [ev]; exact hk
                        replace lo : Below N w v0 := by rw [ev]; exact lo
                        replace h11 : Has v0 M 51 6 (acC z) := by rw [ev]; exact h11
                        replace h14 : Has v0 (M + 1) 26 4 (vlC (Sv n)) := by rw [ev]; exact h14
                        have hV0 : Sz v0 (M24) := by rw [ev]; exact hM24
                        rw [← ev]
                        clear ev hM24
                        have esv : svS m (sn (Sv n).n) o k (Vn z.x) = (m, 14) := by rw [HFN.out]; unfold svS; exact if_neg hin
                        have epl : plF n o k = -1 := by rw [plF_ok (by omega), if_neg hin]
                        rw [epl]
                        have ESV := hid esv
                        clear esv epl
                        refine anyI_part [7] _ _ _ _ (by kernel_rfl) ?_
                        simp only [List.filterMap_cons, List.filterMap_nil, List.getElem?_toArray, List.getElem?_cons_succ, List.getElem?_cons_zero]
                        change wpList _ _ _ [_] _ _
                        go_wp2_with fail
                        go_at_call 11
                        refine (Save_stack b (Sv n) (Vn z.x) rfl (Vn_ok _) m o k HK.out (by omega) _ (M24) hV0 hh).mono ?_
                        rintro e w27 ⟨he, g27, k27⟩
                        rw [ESV.out] at he k27
                        subst he
                        have sz27 := hV0
                        unfold Sz at sz27
                        replace hs := hs.grew g27 (by simp; omega)
                        replace h11 := h11.grew g27 (by simp; omega)
                        replace h14 := h14.grew g27 (by simp; omega)
                        replace hk := hk.grew g27 (.inr (by intro h; have := HPK.out _ h; omega))
                        replace lo := g27.below lo (by omega) (fun g hg => by simp at hg; omega)
                        obtain ⟨M27, hM27⟩ := sz_some w27
                        have l27 : M24 ≤ M27 := (by have q1 := hM27; have q2 := g27.size; unfold Sz at q1; omega)
                        clear hh g27 hV0 sz27
                        have hh := k27
                        clear k27
                        dsimp only
                        go_step
                        refine ⟨⟨h14, h11⟩, ?_⟩
                        change anyI _ _ _ _ _ _ _ _ _
                        try simp only [Act.put, List.setIfInBounds_toArray, List.set_cons_succ, List.set_cons_zero, List.getElem_toArray, List.getElem_cons_succ, List.getElem_cons_zero]
                        have hne := inn_ne (I := (fun u => Has u (M + 1) 26 4 (vlC (Sv n)) ∧ Has u M 51 6 (acC z))) ⟨h14, h11⟩
                        refine anyI_reads [8] _ _ _ ⟨h14, h11⟩ (by kernel_rfl) (fun _ _ _ d _ h => by cases d <;> exact h) ?_
                        simp only [pickO, List.map_cons, List.map_nil, List.getElem?_toArray, List.getElem?_cons_succ, List.getElem?_cons_zero, Option.getD_some, Act.put, List.setIfInBounds_toArray, List.set_cons_succ, List.set_cons_zero]
                        go_big_quiet_step (fail)
                        refine wpQuiet_nil ?_
                        clear hne
                        refine anyI_part [14, 15] _ _ _ _ (by kernel_rfl) ?_
                        simp only [List.filterMap_cons, List.filterMap_nil, List.getElem?_toArray, List.getElem?_cons_succ, List.getElem?_cons_zero]
                        change wpList _ _ _ [_] _ _
                        go_wp2_with fail
                        go_at_call 17
                        refine (RSave_neg M18 (-1) _ 0 z.x (by omega) _).mono ?_
                        rintro e u ⟨rfl, hu⟩
                        have hu2 := hu.symm
                        subst hu2
                        clear hu
                        dsimp only
                        go_step
                        refine ⟨⟨h14, h11⟩, ?_⟩
                        change wpList _ _ _ [_] _ _
                        go_wp2_with fail
                        refine ⟨⟨h14, h11⟩, ?_⟩
                        change anyI _ _ _ _ _ _ _ _ _
                        try simp only [Act.put, List.setIfInBounds_toArray, List.set_cons_succ, List.set_cons_zero, List.getElem_toArray, List.getElem_cons_succ, List.getElem_cons_zero]
                        refine anyI_done (by kernel_rfl) ?_
                        try simp only [Act.put, List.setIfInBounds_toArray, List.set_cons_succ, List.set_cons_zero, List.getElem_toArray, List.getElem_cons_succ, List.getElem_cons_zero]
                        go_wp2_with fail
                        exact ⟨⟨i + 1, m, s, L, pk, ck, by omega, by omega, by omega, by go_num, rfl, hh, hs, HI.out, hk, fun g hg => ⟨(HPK.out g hg).1, (HPK.out g hg).2.1, (HPK.out g hg).2.2.1⟩, lo⟩, by simp [intOf]; omega⟩
                  · rcases hin with hin | hin
                    · cases hw : wordB (at0 n o (-64)) k
                      · as_aux_lemma =>
                          go_upto_region 25 with (first
                            | (go_at_call 18; refine (Value_any L _ (M24) hM24).mono ?_; rintro e w28 ⟨rfl, hb28⟩; obtain ⟨M28, hM28⟩ := sz_some w28; have l28 := below_sz hb28 hM24 hM28; replace hh := hh.below hb28 (by omega); replace hs := hs.below hb28 (by omega); replace h11 := h11.below hb28 (by omega); replace h14 := h14.below hb28 (by omega); replace lo := lo.trans (hb28.mono (by omega)); replace hk := hk.below hb28 (by have eM := hM24; unfold Sz at eM; omega); clear hM24 hb28; try simp only [pA])
                            | ((with_reducible show wpList _ _ _ (_ :: _) _ _); first
                              | (refine wpl_run rfl (.int .i64 ((L : Nat) : Int)) _ (run_lenS (x := .tmp 139) (T := 49) undVs rfl rfl _) ?_; try simp only [pA])
                              | (refine wpl_alloc rfl 26 rfl 4 (vlC zeroV) zeVl (M28) hM28 ?_; intro w29 hM29 hb29 h17; replace hh := hh.below hb29 (by omega); replace hs := hs.below hb29 (by omega); replace h11 := h11.below hb29 (by omega); replace h14 := h14.below hb29 (by omega); replace lo := lo.trans (hb29.mono (by omega)); replace hk := hk.below hb29 (by have eM := hM28; unfold Sz at eM; omega); clear hM28 hb29; try simp only [pA])
                              | (refine wpl_store rfl 26 (.tmp 17) (.tmp 141) rfl (M28) 4 (vlC (vv L)) rfl rfl 26 _ h17 szVl (fun j _ => vlC_one _ j) ?_; intro w30 t30 k30; replace hh := hh.touch t30 (by omega); replace hs := hs.touch t30 (by omega); replace h11 := h11.touch t30 (by omega); replace h14 := h14.touch t30 (by omega); replace hk := hk.touch t30 (fun g hg => by have := HPK.out g hg; omega); replace lo := t30.below lo (by omega); have hM30 := t30.sz hM29; clear h17 t30 hM29; have h17 := k30; clear k30; try simp only [pA])
                              | (refine wpl_load rfl 26 (.tmp 17) rfl (M28) rfl 26 4 _ h17 _ undVl.choose_spec.1 undVl.choose_spec.2 szVl ?_; try simp only [pA])
                              | (refine wpl_bsV rfl (.tmp 143) rfl (vv L) rfl (M28 + 1) hM30 ?_; intro w31 hM31 hb31 hv31; replace hh := hh.below hb31 (by omega); replace hs := hs.below hb31 (by omega); replace h11 := h11.below hb31 (by omega); replace h14 := h14.below hb31 (by omega); replace h17 := h17.below hb31 (by omega); replace lo := lo.trans (hb31.mono (by omega)); replace hk := hk.below hb31 (by have eM := hM30; unfold Sz at eM; omega); clear hM30 hb31; try simp only [pA])
                              | (refine wpl_appK rfl (.tmp 142) (.tmp 144) 49 rfl 26 4 (by omega) undVs kV pk L ck rfl _ hk (some ⟨M28 + 1, 0, none⟩) 1 1 rfl (vlC (vv L)) (fun _ => ⟨⟨M28 + 1, 0, none⟩, rfl, fun j hj => by rw [Addr.add_mid]; exact (hv31.cell (j := 0 + j) (by omega)).trans (congrArg some (by rw [Nat.zero_add]))⟩) (fun j _ => vlC_one _ j) (by omega) ?_; intro p2 c2 w32 k2 g2 hp2 hq2; have eM := hM31; unfold Sz at eM; replace hh := hh.grew g2 (by intro e; have := HPK.out _ e.symm; omega); replace hs := hs.grew g2 (by intro e; have := HPK.out _ e.symm; omega); replace h11 := h11.grew g2 (by intro e; have := HPK.out _ e.symm; omega); replace h14 := h14.grew g2 (by intro e; have := HPK.out _ e.symm; omega); replace h17 := h17.grew g2 (by intro e; have := HPK.out _ e.symm; omega); replace lo := g2.below lo (by omega) (fun g hg => (HPK.out g hg).2.2.1); have P2 : ∀ g, blk p2 = some g → g ≠ b ∧ g ≠ M18 ∧ N ≤ g := (by intro g hg; rcases hp2 with e | e; rw [e] at hg; exact ⟨(HPK.out g hg).1, (HPK.out g hg).2.1, (HPK.out g hg).2.2.1⟩; rw [e, eM] at hg; simp at hg; omega); have HP2 := hid P2; obtain ⟨M32, hM32⟩ := sz_some w32; have l32 : M28 + 1 + 1 ≤ M32 := (by have q1 := hM32; have q2 := g2.size; unfold Sz at q1; omega); clear hk hv31 g2 hp2 hq2 P2 eM hM31; have hk := k2.congr (fun j hj => keF_cat L j hj); clear k2; try simp only [pA]))
                            | fail)
                          obtain ⟨f, ef⟩ : ∃ f, at0 n o (-64) = f := ⟨_, rfl⟩
                          rw [ef] at hw hin
                          have esv : svS m (sn (Sv n).n) o k (vv L) = (m, 14) := by
                            rw [HFN.out]; unfold svS; rw [ef, if_pos hin, if_neg (show ¬ (vv L).tag = 1 by show ¬ ((2 + L % 3 : Nat) : Int) = 1; omega), hw]; rfl
                          have epl : plF n o k = ((f : Nat) : Int) := by rw [plF_ok (by omega), ef, if_pos hin]
                          rw [epl]
                          have ESV := hid esv
                          clear esv epl
                          go_wp2_with (first
                            | (go_at_call 11; refine (Save_stack b (Sv n) (vv L) rfl ⟨by show (1 : Int) ≤ ((2 + L % 3 : Nat) : Int); omega, by show ((2 + L % 3 : Nat) : Int) ≤ 5; omega⟩ m o k HK.out (by omega) _ (M32) hM32 hh).mono ?_; rintro e w33 ⟨he, g33, k33⟩; rw [ESV.out] at he k33; subst he; have sz33 := hM32; unfold Sz at sz33; replace hs := hs.grew g33 (by simp; omega); replace h11 := h11.grew g33 (by simp; omega); replace h14 := h14.grew g33 (by simp; omega); replace h17 := h17.grew g33 (by simp; omega); replace hk := hk.grew g33 (.inr (by intro h; have := HP2.out _ h; omega)); replace lo := g33.below lo (by omega) (fun g hg => by simp at hg; omega); obtain ⟨M33, hM33⟩ := sz_some w33; have l33 : M32 ≤ M33 := (by have q1 := hM33; have q2 := g33.size; unfold Sz at q1; omega); clear hh g33 hM32 sz33; have hh := k33; clear k33; try simp only [pA])
                            | (go_at_call 17; refine (RSave_no M18 f k (L + 1) 0#64 (by omega) hw _).mono ?_; rintro e u ⟨rfl, hu⟩; have hu2 := hu.symm; subst hu2; clear hu; try simp only [pA])
                            | ((with_reducible show wpList _ _ _ (_ :: _) _ _); first
                              | (refine wpl_load rfl 26 (.tmp 14) rfl (M + 1) rfl 26 4 _ h14 _ undVl.choose_spec.1 undVl.choose_spec.2 szVl ?_; try simp only [pA])
                              | (refine wpl_load rfl 26 (.tmp 17) rfl (M28) rfl 26 4 _ h17 _ undVl.choose_spec.1 undVl.choose_spec.2 szVl ?_; try simp only [pA])
                              | (refine wpl_run rfl (.int .i64 ((L + 1 : Nat) : Int)) _ (run_lenS (x := .tmp 156) (T := 49) undVs rfl rfl _) ?_; try simp only [pA]))
                            | fail)
                          exact ⟨⟨i + 1, m, s, L + 1, p2, c2, by omega, by omega, by omega, by go_num, rfl, hh, hs, HI.out.more, hk, HP2.out, lo⟩, by simp [intOf]; omega⟩
                      · as_aux_lemma =>
                          go_upto_region 25 with (first
                            | (go_at_call 18; refine (Value_any L _ (M24) hM24).mono ?_; rintro e w34 ⟨rfl, hb34⟩; obtain ⟨M34, hM34⟩ := sz_some w34; have l34 := below_sz hb34 hM24 hM34; replace hh := hh.below hb34 (by omega); replace hs := hs.below hb34 (by omega); replace h11 := h11.below hb34 (by omega); replace h14 := h14.below hb34 (by omega); replace lo := lo.trans (hb34.mono (by omega)); replace hk := hk.below hb34 (by have eM := hM24; unfold Sz at eM; omega); clear hM24 hb34; try simp only [pA])
                            | ((with_reducible show wpList _ _ _ (_ :: _) _ _); first
                              | (refine wpl_run rfl (.int .i64 ((L : Nat) : Int)) _ (run_lenS (x := .tmp 139) (T := 49) undVs rfl rfl _) ?_; try simp only [pA])
                              | (refine wpl_alloc rfl 26 rfl 4 (vlC zeroV) zeVl (M34) hM34 ?_; intro w35 hM35 hb35 h17; replace hh := hh.below hb35 (by omega); replace hs := hs.below hb35 (by omega); replace h11 := h11.below hb35 (by omega); replace h14 := h14.below hb35 (by omega); replace lo := lo.trans (hb35.mono (by omega)); replace hk := hk.below hb35 (by have eM := hM34; unfold Sz at eM; omega); clear hM34 hb35; try simp only [pA])
                              | (refine wpl_store rfl 26 (.tmp 17) (.tmp 141) rfl (M34) 4 (vlC (vv L)) rfl rfl 26 _ h17 szVl (fun j _ => vlC_one _ j) ?_; intro w36 t36 k36; replace hh := hh.touch t36 (by omega); replace hs := hs.touch t36 (by omega); replace h11 := h11.touch t36 (by omega); replace h14 := h14.touch t36 (by omega); replace hk := hk.touch t36 (fun g hg => by have := HPK.out g hg; omega); replace lo := t36.below lo (by omega); have hM36 := t36.sz hM35; clear h17 t36 hM35; have h17 := k36; clear k36; try simp only [pA])
                              | (refine wpl_load rfl 26 (.tmp 17) rfl (M34) rfl 26 4 _ h17 _ undVl.choose_spec.1 undVl.choose_spec.2 szVl ?_; try simp only [pA])
                              | (refine wpl_bsV rfl (.tmp 143) rfl (vv L) rfl (M34 + 1) hM36 ?_; intro w37 hM37 hb37 hv37; replace hh := hh.below hb37 (by omega); replace hs := hs.below hb37 (by omega); replace h11 := h11.below hb37 (by omega); replace h14 := h14.below hb37 (by omega); replace h17 := h17.below hb37 (by omega); replace lo := lo.trans (hb37.mono (by omega)); replace hk := hk.below hb37 (by have eM := hM36; unfold Sz at eM; omega); clear hM36 hb37; try simp only [pA])
                              | (refine wpl_appK rfl (.tmp 142) (.tmp 144) 49 rfl 26 4 (by omega) undVs kV pk L ck rfl _ hk (some ⟨M34 + 1, 0, none⟩) 1 1 rfl (vlC (vv L)) (fun _ => ⟨⟨M34 + 1, 0, none⟩, rfl, fun j hj => by rw [Addr.add_mid]; exact (hv37.cell (j := 0 + j) (by omega)).trans (congrArg some (by rw [Nat.zero_add]))⟩) (fun j _ => vlC_one _ j) (by omega) ?_; intro p2 c2 w38 k2 g2 hp2 hq2; have eM := hM37; unfold Sz at eM; replace hh := hh.grew g2 (by intro e; have := HPK.out _ e.symm; omega); replace hs := hs.grew g2 (by intro e; have := HPK.out _ e.symm; omega); replace h11 := h11.grew g2 (by intro e; have := HPK.out _ e.symm; omega); replace h14 := h14.grew g2 (by intro e; have := HPK.out _ e.symm; omega); replace h17 := h17.grew g2 (by intro e; have := HPK.out _ e.symm; omega); replace lo := g2.below lo (by omega) (fun g hg => (HPK.out g hg).2.2.1); have P2 : ∀ g, blk p2 = some g → g ≠ b ∧ g ≠ M18 ∧ N ≤ g := (by intro g hg; rcases hp2 with e | e; rw [e] at hg; exact ⟨(HPK.out g hg).1, (HPK.out g hg).2.1, (HPK.out g hg).2.2.1⟩; rw [e, eM] at hg; simp at hg; omega); have HP2 := hid P2; obtain ⟨M38, hM38⟩ := sz_some w38; have l38 : M34 + 1 + 1 ≤ M38 := (by have q1 := hM38; have q2 := g2.size; unfold Sz at q1; omega); clear hk hv37 g2 hp2 hq2 P2 eM hM37; have hk := k2.congr (fun j hj => keF_cat L j hj); clear k2; try simp only [pA]))
                            | fail)
                          obtain ⟨f, ef⟩ : ∃ f, at0 n o (-64) = f := ⟨_, rfl⟩
                          rw [ef] at hw hin
                          obtain ⟨rfl, hw8⟩ : k = 8 ∧ f % 8 = 0 := by unfold wordB at hw; rw [Bool.and_eq_true, beq_iff_eq, beq_iff_eq] at hw; exact hw
                          have hfk : f + 8 ≤ 64 := hin.2
                          have esv : svS m (sn (Sv n).n) o 8 (vv L) = (kpM m f (vv L), 0) := by
                            rw [HFN.out]; unfold svS; rw [ef, if_pos ⟨hin.1, hfk⟩, if_neg (show ¬ (vv L).tag = 1 by show ¬ ((2 + L % 3 : Nat) : Int) = 1; omega), if_pos hw]
                          have epl : plF n o 8 = ((f : Nat) : Int) := by rw [plF_ok (by omega), ef, if_pos hin]
                          rw [epl]
                          have ESV := hid esv
                          clear esv epl
                          go_wp2_with (first
                            | (go_at_call 11; refine (Save_stack b (Sv n) (vv L) rfl ⟨by show (1 : Int) ≤ ((2 + L % 3 : Nat) : Int); omega, by show ((2 + L % 3 : Nat) : Int) ≤ 5; omega⟩ m o 8 HK.out (by omega) _ (M38) hM38 hh).mono ?_; rintro e w39 ⟨he, g39, k39⟩; rw [ESV.out] at he k39; subst he; have sz39 := hM38; unfold Sz at sz39; replace hs := hs.grew g39 (by simp; omega); replace h11 := h11.grew g39 (by simp; omega); replace h14 := h14.grew g39 (by simp; omega); replace h17 := h17.grew g39 (by simp; omega); replace hk := hk.grew g39 (.inr (by intro h; have := HP2.out _ h; omega)); replace lo := g39.below lo (by omega) (fun g hg => by simp at hg; omega); obtain ⟨M39, hM39⟩ := sz_some w39; have l39 : M38 ≤ M39 := (by have q1 := hM39; have q2 := g39.size; unfold Sz at q1; omega); clear hh g39 hM38 sz39; have hh := k39; clear k39; try simp only [pA])
                            | (go_at_call 17; refine (RSave_val M18 s f (L + 1) 0#64 (by omega) hw8 hfk _ (M39) hM39 hs).mono ?_; rintro e w40 ⟨he, g40, k40⟩; subst he; have sz40 := hM39; unfold Sz at sz40; replace hh := hh.grew g40 (by simp; omega); replace h11 := h11.grew g40 (by simp; omega); replace h14 := h14.grew g40 (by simp; omega); replace h17 := h17.grew g40 (by simp; omega); replace hk := hk.grew g40 (.inr (by intro h; have := HP2.out _ h; omega)); replace lo := g40.below lo (by omega) (fun g hg => by simp at hg; omega); obtain ⟨M40, hM40⟩ := sz_some w40; have l40 : M39 ≤ M40 := (by have q1 := hM40; have q2 := g40.size; unfold Sz at q1; omega); clear hs g40 hM39 sz40; have hs := k40; clear k40; try simp only [pA])
                            | ((with_reducible show wpList _ _ _ (_ :: _) _ _); first
                              | (refine wpl_load rfl 26 (.tmp 14) rfl (M + 1) rfl 26 4 _ h14 _ undVl.choose_spec.1 undVl.choose_spec.2 szVl ?_; try simp only [pA])
                              | (refine wpl_load rfl 26 (.tmp 17) rfl (M34) rfl 26 4 _ h17 _ undVl.choose_spec.1 undVl.choose_spec.2 szVl ?_; try simp only [pA])
                              | (refine wpl_run rfl (.int .i64 ((L + 1 : Nat) : Int)) _ (run_lenS (x := .tmp 156) (T := 49) undVs rfl rfl _) ?_; try simp only [pA]))
                            | fail)
                          exact ⟨⟨i + 1, kpM m f (vv L), svR s f 8 0#64 (L + 1), L + 1, p2, c2, by omega, by omega, by omega, by go_num, rfl, hh, hs, HI.out.val f 0#64 hfk hw8, hk, HP2.out, lo⟩, by simp [intOf]; omega⟩
                    · as_aux_lemma =>
                        go_upto_region 25 with (first
                          | (go_at_call 18; refine (Value_any L _ (M24) hM24).mono ?_; rintro e w41 ⟨rfl, hb41⟩; obtain ⟨M41, hM41⟩ := sz_some w41; have l41 := below_sz hb41 hM24 hM41; replace hh := hh.below hb41 (by omega); replace hs := hs.below hb41 (by omega); replace h11 := h11.below hb41 (by omega); replace h14 := h14.below hb41 (by omega); replace lo := lo.trans (hb41.mono (by omega)); replace hk := hk.below hb41 (by have eM := hM24; unfold Sz at eM; omega); clear hM24 hb41; try simp only [pA])
                          | ((with_reducible show wpList _ _ _ (_ :: _) _ _); first
                            | (refine wpl_run rfl (.int .i64 ((L : Nat) : Int)) _ (run_lenS (x := .tmp 139) (T := 49) undVs rfl rfl _) ?_; try simp only [pA])
                            | (refine wpl_alloc rfl 26 rfl 4 (vlC zeroV) zeVl (M41) hM41 ?_; intro w42 hM42 hb42 h17; replace hh := hh.below hb42 (by omega); replace hs := hs.below hb42 (by omega); replace h11 := h11.below hb42 (by omega); replace h14 := h14.below hb42 (by omega); replace lo := lo.trans (hb42.mono (by omega)); replace hk := hk.below hb42 (by have eM := hM41; unfold Sz at eM; omega); clear hM41 hb42; try simp only [pA])
                            | (refine wpl_store rfl 26 (.tmp 17) (.tmp 141) rfl (M41) 4 (vlC (vv L)) rfl rfl 26 _ h17 szVl (fun j _ => vlC_one _ j) ?_; intro w43 t43 k43; replace hh := hh.touch t43 (by omega); replace hs := hs.touch t43 (by omega); replace h11 := h11.touch t43 (by omega); replace h14 := h14.touch t43 (by omega); replace hk := hk.touch t43 (fun g hg => by have := HPK.out g hg; omega); replace lo := t43.below lo (by omega); have hM43 := t43.sz hM42; clear h17 t43 hM42; have h17 := k43; clear k43; try simp only [pA])
                            | (refine wpl_load rfl 26 (.tmp 17) rfl (M41) rfl 26 4 _ h17 _ undVl.choose_spec.1 undVl.choose_spec.2 szVl ?_; try simp only [pA])
                            | (refine wpl_bsV rfl (.tmp 143) rfl (vv L) rfl (M41 + 1) hM43 ?_; intro w44 hM44 hb44 hv44; replace hh := hh.below hb44 (by omega); replace hs := hs.below hb44 (by omega); replace h11 := h11.below hb44 (by omega); replace h14 := h14.below hb44 (by omega); replace h17 := h17.below hb44 (by omega); replace lo := lo.trans (hb44.mono (by omega)); replace hk := hk.below hb44 (by have eM := hM43; unfold Sz at eM; omega); clear hM43 hb44; try simp only [pA])
                            | (refine wpl_appK rfl (.tmp 142) (.tmp 144) 49 rfl 26 4 (by omega) undVs kV pk L ck rfl _ hk (some ⟨M41 + 1, 0, none⟩) 1 1 rfl (vlC (vv L)) (fun _ => ⟨⟨M41 + 1, 0, none⟩, rfl, fun j hj => by rw [Addr.add_mid]; exact (hv44.cell (j := 0 + j) (by omega)).trans (congrArg some (by rw [Nat.zero_add]))⟩) (fun j _ => vlC_one _ j) (by omega) ?_; intro p2 c2 w45 k2 g2 hp2 hq2; have eM := hM44; unfold Sz at eM; replace hh := hh.grew g2 (by intro e; have := HPK.out _ e.symm; omega); replace hs := hs.grew g2 (by intro e; have := HPK.out _ e.symm; omega); replace h11 := h11.grew g2 (by intro e; have := HPK.out _ e.symm; omega); replace h14 := h14.grew g2 (by intro e; have := HPK.out _ e.symm; omega); replace h17 := h17.grew g2 (by intro e; have := HPK.out _ e.symm; omega); replace lo := g2.below lo (by omega) (fun g hg => (HPK.out g hg).2.2.1); have P2 : ∀ g, blk p2 = some g → g ≠ b ∧ g ≠ M18 ∧ N ≤ g := (by intro g hg; rcases hp2 with e | e; rw [e] at hg; exact ⟨(HPK.out g hg).1, (HPK.out g hg).2.1, (HPK.out g hg).2.2.1⟩; rw [e, eM] at hg; simp at hg; omega); have HP2 := hid P2; obtain ⟨M45, hM45⟩ := sz_some w45; have l45 : M41 + 1 + 1 ≤ M45 := (by have q1 := hM45; have q2 := g2.size; unfold Sz at q1; omega); clear hk hv44 g2 hp2 hq2 P2 eM hM44; have hk := k2.congr (fun j hj => keF_cat L j hj); clear k2; try simp only [pA]))
                          | fail)
                        have esv : svS m (sn (Sv n).n) o k (vv L) = (m, 14) := by rw [HFN.out]; unfold svS; exact if_neg hin
                        have epl : plF n o k = -1 := by rw [plF_ok (by omega), if_neg hin]
                        rw [epl]
                        have ESV := hid esv
                        clear esv epl
                        go_wp2_with (first
                          | (go_at_call 11; refine (Save_stack b (Sv n) (vv L) rfl ⟨by show (1 : Int) ≤ ((2 + L % 3 : Nat) : Int); omega, by show ((2 + L % 3 : Nat) : Int) ≤ 5; omega⟩ m o k HK.out (by omega) _ (M45) hM45 hh).mono ?_; rintro e w46 ⟨he, g46, k46⟩; rw [ESV.out] at he k46; subst he; have sz46 := hM45; unfold Sz at sz46; replace hs := hs.grew g46 (by simp; omega); replace h11 := h11.grew g46 (by simp; omega); replace h14 := h14.grew g46 (by simp; omega); replace h17 := h17.grew g46 (by simp; omega); replace hk := hk.grew g46 (.inr (by intro h; have := HP2.out _ h; omega)); replace lo := g46.below lo (by omega) (fun g hg => by simp at hg; omega); obtain ⟨M46, hM46⟩ := sz_some w46; have l46 : M45 ≤ M46 := (by have q1 := hM46; have q2 := g46.size; unfold Sz at q1; omega); clear hh g46 hM45 sz46; have hh := k46; clear k46; try simp only [pA])
                          | (go_at_call 17; refine (RSave_neg M18 (-1) _ _ 0#64 (by omega) _).mono ?_; rintro e u ⟨rfl, hu⟩; have hu2 := hu.symm; subst hu2; clear hu; try simp only [pA])
                          | ((with_reducible show wpList _ _ _ (_ :: _) _ _); first
                            | (refine wpl_load rfl 26 (.tmp 14) rfl (M + 1) rfl 26 4 _ h14 _ undVl.choose_spec.1 undVl.choose_spec.2 szVl ?_; try simp only [pA])
                            | (refine wpl_load rfl 26 (.tmp 17) rfl (M41) rfl 26 4 _ h17 _ undVl.choose_spec.1 undVl.choose_spec.2 szVl ?_; try simp only [pA])
                            | (refine wpl_run rfl (.int .i64 ((L + 1 : Nat) : Int)) _ (run_lenS (x := .tmp 156) (T := 49) undVs rfl rfl _) ?_; try simp only [pA]))
                          | fail)
                        exact ⟨⟨i + 1, m, s, L + 1, p2, c2, by omega, by omega, by omega, by go_num, rfl, hh, hs, HI.out.more, hk, HP2.out, lo⟩, by simp [intOf]; omega⟩
                  · rcases hin with hin | hin
                    · obtain ⟨f, ef⟩ : ∃ f, at0 n o (-64) = f := ⟨_, rfl⟩
                      rw [ef] at hin
                      have hfk : f + k ≤ 64 := hin.2
                      have epl : plF n o k = ((f : Nat) : Int) := by rw [plF_ok (by omega), ef, if_pos hin]
                      obtain ⟨r, er⟩ : ∃ r, ldR s f k = r := ⟨_, rfl⟩
                      obtain ⟨lx, lq, lb⟩ := r
                      have hld := HI.out.load n o f k hk8.1 hin.1 ef hfk hk8.2
                      rw [er] at hld
                      have ER := hid er
                      clear er
                      cases lb
                      · as_aux_lemma =>
                          have esv : ldS m (sn (Sv n).n) o k = (zeroV, 14) := by rw [HFN.out]; exact hld.1.trans (if_neg Bool.false_ne_true)
                          rw [epl]
                          have ESV := hid esv
                          clear esv epl hld
                          go_upto_region 32 with (first
                            | (go_at_call 8; refine (Load_stack b (Sv n) rfl m o k HK.out (by omega) _ (M24) hM24 hh).mono ?_; rintro e w47 ⟨he, hb47⟩; rw [ESV.out] at he; subst he; obtain ⟨M47, hM47⟩ := sz_some w47; have l47 := below_sz hb47 hM24 hM47; replace hh := hh.below hb47 (by omega); replace hs := hs.below hb47 (by omega); replace h11 := h11.below hb47 (by omega); replace h14 := h14.below hb47 (by omega); replace lo := lo.trans (hb47.mono (by omega)); replace hk := hk.below hb47 (by have eM := hM24; unfold Sz at eM; omega); clear hM24 hb47; try simp only [pA])
                            | (go_at_call 19; refine (RLoad_in M18 s f k hfk hk8.2 (by omega) _ (M47 + 1) hM49 hs).mono ?_; rintro e w50 ⟨he, hb50⟩; rw [ER.out] at he; subst he; obtain ⟨M50, hM50⟩ := sz_some w50; have l50 := below_sz hb50 hM49 hM50; replace hh := hh.below hb50 (by omega); replace hs := hs.below hb50 (by omega); replace h11 := h11.below hb50 (by omega); replace h14 := h14.below hb50 (by omega); replace h18 := h18.below hb50 (by omega); replace lo := lo.trans (hb50.mono (by omega)); replace hk := hk.below hb50 (by have eM := hM49; unfold Sz at eM; omega); clear hM49 hb50; try simp only [pA])
                            | ((with_reducible show wpList _ _ _ (_ :: _) _ _); first
                              | (refine wpl_load rfl 26 (.tmp 14) rfl (M + 1) rfl 26 4 _ h14 _ undVl.choose_spec.1 undVl.choose_spec.2 szVl ?_; try simp only [pA])
                              | (refine wpl_alloc rfl 26 rfl 4 (vlC zeroV) zeVl (M47) hM47 ?_; intro w48 hM48 hb48 h18; replace hh := hh.below hb48 (by omega); replace hs := hs.below hb48 (by omega); replace h11 := h11.below hb48 (by omega); replace h14 := h14.below hb48 (by omega); replace lo := lo.trans (hb48.mono (by omega)); replace hk := hk.below hb48 (by have eM := hM47; unfold Sz at eM; omega); clear hM47 hb48; try simp only [pA])
                              | (refine wpl_store rfl 26 (.tmp 18) (.tmp 168) rfl (M47) 4 (vlC zeroV) rfl rfl 26 _ h18 szVl (fun j _ => vlC_one _ j) ?_; intro w49 t49 k49; replace hh := hh.touch t49 (by omega); replace hs := hs.touch t49 (by omega); replace h11 := h11.touch t49 (by omega); replace h14 := h14.touch t49 (by omega); replace hk := hk.touch t49 (fun g hg => by have := HPK.out g hg; omega); replace lo := t49.below lo (by omega); have hM49 := t49.sz hM48; clear h18 t49 hM48; have h18 := k49; clear k49; try simp only [pA])
                              | (refine wpl_want ?_ ?_; rotate_left; (refine wpl_load rfl 26 (.tmp 18) rfl (M47) rfl 26 4 _ h18 _ undVl.choose_spec.1 undVl.choose_spec.2 szVl ?_); rotate_left; rfl; try simp only [pA])
                              | (refine wpl_wantN ?_ ?_; rotate_left; (refine wpl_run rfl (.agg (cellsOf (vlC zeroV) 4)) _ (run_bd 26 #[] rfl (cellsOf (vlC zeroV) 4) (by kernel_rfl) _) ?_); rotate_left; rfl; try simp only [pA])
                              | (refine wpl_want ?_ ?_; rotate_left; (refine wpl_run rfl (.bool false) _ (run_neq_op 26 26 (.tmp 189) (.tmp 190) rfl _ _ rfl rfl true (by kernel_rfl) (run_eqV_t rfl rfl _)) ?_); rotate_left; rfl; try simp only [pA]))
                            | fail)
                          refine wp_region_later (M50) (by kernel_rfl) (by kernel_rfl) ?_
                          try simp only [pA]
                          go_big_quiet_step (fail)
                          go_big_quiet_step (fail)
                          go_big_quiet_step (fail)
                          go_big_quiet_step (fail)
                          go_big_quiet_step (fail)
                          go_big_quiet_step (fail)
                          go_big_quiet_step (fail)
                          go_big_quiet_step (fail)
                          go_big_quiet_step (fail)
                          go_big_quiet_step (fail)
                          go_big_quiet_step (fail)
                          go_big_quiet_step (fail)
                          go_big_quiet_step (fail)
                          go_big_quiet_step (fail)
                          go_big_quiet_step (fail)
                          go_big_quiet_step (fail)
                          go_big_quiet_step (fail)
                          go_big_quiet_step (fail)
                          go_big_quiet_step (fail)
                          go_big_quiet_step (fail)
                          go_big_quiet_step (fail)
                          go_big_quiet_step (fail)
                          go_big_quiet_step (fail)
                          go_big_quiet_step (fail)
                          go_big_quiet_step (fail)
                          go_big_quiet_step (fail)
                          go_big_quiet_step (fail)
                          refine wpQuiet_nil (laterE hM50 ?_)
                          intro x950 M950 hb950 hM950 l950
                          have eM := hM50
                          unfold Sz at eM
                          replace hh := hh.below hb950 (by omega)
                          replace hs := hs.below hb950 (by omega)
                          replace hk := hk.below hb950 (by omega)
                          replace lo := lo.trans (hb950.mono (by omega))
                          clear hb950 hM50 eM h11 h14 h18
                          go_wp2_with fail
                          exact ⟨⟨i + 1, m, s, L, pk, ck, by omega, by omega, by omega, by go_num, rfl, hh, hs, HI.out, hk, fun g hg => ⟨(HPK.out g hg).1, (HPK.out g hg).2.1, (HPK.out g hg).2.2.1⟩, lo⟩, by simp [intOf]; omega⟩
                      · by_cases h0 : 0 < lq
                        · as_aux_lemma =>
                            obtain ⟨q, rfl⟩ : ∃ q, lq = q + 1 := ⟨lq - 1, by omega⟩
                            have hq : q < L := hld.2
                            have esv : ldS m (sn (Sv n).n) o k = (vv q, 0) := by rw [HFN.out]; exact hld.1.trans ((if_pos rfl).trans (if_pos h0))
                            rw [epl]
                            have ESV := hid esv
                            clear esv epl hld
                            go_upto_region 32 with (first
                              | go_guarded
                              | (go_at_call 8; refine (Load_stack b (Sv n) rfl m o k HK.out (by omega) _ (M24) hM24 hh).mono ?_; rintro e w51 ⟨he, hb51⟩; rw [ESV.out] at he; subst he; obtain ⟨M51, hM51⟩ := sz_some w51; have l51 := below_sz hb51 hM24 hM51; replace hh := hh.below hb51 (by omega); replace hs := hs.below hb51 (by omega); replace h11 := h11.below hb51 (by omega); replace h14 := h14.below hb51 (by omega); replace lo := lo.trans (hb51.mono (by omega)); replace hk := hk.below hb51 (by have eM := hM24; unfold Sz at eM; omega); clear hM24 hb51; try simp only [pA])
                              | (go_at_call 19; refine (RLoad_in M18 s f k hfk hk8.2 (by omega) _ (M51 + 1) hM53 hs).mono ?_; rintro e w54 ⟨he, hb54⟩; rw [ER.out] at he; subst he; obtain ⟨M54, hM54⟩ := sz_some w54; have l54 := below_sz hb54 hM53 hM54; replace hh := hh.below hb54 (by omega); replace hs := hs.below hb54 (by omega); replace h11 := h11.below hb54 (by omega); replace h14 := h14.below hb54 (by omega); replace h18 := h18.below hb54 (by omega); replace lo := lo.trans (hb54.mono (by omega)); replace hk := hk.below hb54 (by have eM := hM53; unfold Sz at eM; omega); clear hM53 hb54; try simp only [pA])
                              | ((with_reducible show wpList _ _ _ (_ :: _) _ _); first
                                | (refine wpl_load rfl 26 (.tmp 14) rfl (M + 1) rfl 26 4 _ h14 _ undVl.choose_spec.1 undVl.choose_spec.2 szVl ?_; try simp only [pA])
                                | (refine wpl_alloc rfl 26 rfl 4 (vlC zeroV) zeVl (M51) hM51 ?_; intro w52 hM52 hb52 h18; replace hh := hh.below hb52 (by omega); replace hs := hs.below hb52 (by omega); replace h11 := h11.below hb52 (by omega); replace h14 := h14.below hb52 (by omega); replace lo := lo.trans (hb52.mono (by omega)); replace hk := hk.below hb52 (by have eM := hM51; unfold Sz at eM; omega); clear hM51 hb52; try simp only [pA])
                                | (refine wpl_store rfl 26 (.tmp 18) (.tmp 168) rfl (M51) 4 (vlC (vv q)) rfl rfl 26 _ h18 szVl (fun j _ => vlC_one _ j) ?_; intro w53 t53 k53; replace hh := hh.touch t53 (by omega); replace hs := hs.touch t53 (by omega); replace h11 := h11.touch t53 (by omega); replace h14 := h14.touch t53 (by omega); replace hk := hk.touch t53 (fun g hg => by have := HPK.out g hg; omega); replace lo := t53.below lo (by omega); have hM53 := t53.sz hM52; clear h18 t53 hM52; have h18 := k53; clear k53; try simp only [pA]))
                              | fail)
                            obtain ⟨g, epk, hke⟩ := ke_cell hk hq
                            have EPK : Hid (Value.slice pk L ck = Value.slice (some ⟨g, 0, none⟩) L ck) := hid (congrArg (fun q => Value.slice q L ck) epk)
                            clear epk
                            have tq : decide ((0 : Int) < ((q + 1 : Nat) : Int)) = true := decide_eq_true (by omega)
                            have tq0 : (((q + 1 : Nat) : Int) == 0) = false := beq_false_of_ne (by omega)
                            have TQ := hid tq
                            have TQ0 := hid tq0
                            clear tq tq0
                            refine wp_region_later (M54) (by kernel_rfl) (by kernel_rfl) ?_
                            try simp only [pA]
                            go_big_quiet_step (fail)
                            go_big_quiet_step (fail)
                            go_big_quiet_step (fail)
                            refine later_val (v := .bool true) (fun x => run_gtrI (x := .tmp 197) (y := .const (.int .i64 0)) rfl rfl rfl TQ.out _) (by rfl) ?_; try simp only [pA]
                            go_big_quiet_step (fail)
                            go_big_quiet_step (fail)
                            refine later_row hM54 26 (.tmp 18) rfl (M51) rfl 26 4 _ h18 undVl szVl (by rfl) ?_; try simp only [pA]
                            go_big_quiet_step (fail)
                            go_big_quiet_step (fail)
                            refine later_val (v := .int .i64 ((q : Nat) : Int)) (fun x => subN (x := .tmp 203) (y := .const (.int .i64 1)) (p := ((q + 1 : Nat) : Int)) rfl rfl rfl (by rw [show ((q + 1 : Nat) : Int) - 1 = ((q : Nat) : Int) by omega]; exact wrap_z _ (by omega) (by omega)) _) (by rfl) ?_; try simp only [pA]
                            refine later_val (v := .pointer (some ⟨g, 0 + q * 4, none⟩)) (fun x => run_ixK6 49 26 4 undVs szVl (.tmp 202) (.tmp 204) rfl (by exact EPK.out) rfl (k := q) hq _) (by rfl) ?_; try simp only [pA]
                            refine later_val (v := .agg (cellsOf (vlC (vv q)) 4)) (fun x => run_ldC 26 (.tmp 205) rfl g (0 + q * 4) rfl 4 (vlC (vv q)) (fun j hj => Later.cell hM54 (hke j hj) x) undVl szVl) (by rfl) ?_; try simp only [pA]
                            refine later_val (v := .bool false) (fun x => run_neq_op 26 26 (.tmp 201) (.tmp 206) rfl _ _ rfl rfl true (by kernel_rfl) (run_eqV_t rfl rfl x.w')) (by rfl) ?_; try simp only [pA]
                            go_big_quiet_step (fail)
                            go_big_quiet_step (fail)
                            go_big_quiet_step (fail)
                            go_big_quiet_step (fail)
                            go_big_quiet_step (fail)
                            refine later_val (v := .bool false) (fun x => run_eqlI (x := .tmp 212) (y := .const (.int .i64 0)) rfl rfl rfl TQ0.out _) (by rfl) ?_; try simp only [pA]
                            go_big_quiet_step (fail)
                            go_big_quiet_step (fail)
                            go_big_quiet_step (fail)
                            go_big_quiet_step (fail)
                            go_big_quiet_step (fail)
                            go_big_quiet_step (fail)
                            go_big_quiet_step (fail)
                            go_big_quiet_step (fail)
                            refine wpQuiet_nil (laterE hM54 ?_)
                            intro x950 M950 hb950 hM950 l950
                            have eM := hM54
                            unfold Sz at eM
                            replace hh := hh.below hb950 (by omega)
                            replace hs := hs.below hb950 (by omega)
                            replace hk := hk.below hb950 (by omega)
                            replace lo := lo.trans (hb950.mono (by omega))
                            clear hb950 hM54 eM h11 h14 h18 hke
                            go_wp2_with fail
                            exact ⟨⟨i + 1, m, s, L, pk, ck, by omega, by omega, by omega, by go_num, rfl, hh, hs, HI.out, hk, fun g hg => ⟨(HPK.out g hg).1, (HPK.out g hg).2.1, (HPK.out g hg).2.2.1⟩, lo⟩, by simp [intOf]; omega⟩
                        · as_aux_lemma =>
                            obtain rfl : lq = 0 := by omega
                            have esv : ldS m (sn (Sv n).n) o k = (Vn lx, 0) := by rw [HFN.out]; exact hld.1.trans ((if_pos rfl).trans (if_neg h0))
                            rw [epl]
                            have ESV := hid esv
                            clear esv epl hld
                            go_upto_region 32 with (first
                              | go_guarded
                              | (go_at_call 8; refine (Load_stack b (Sv n) rfl m o k HK.out (by omega) _ (M24) hM24 hh).mono ?_; rintro e w55 ⟨he, hb55⟩; rw [ESV.out] at he; subst he; obtain ⟨M55, hM55⟩ := sz_some w55; have l55 := below_sz hb55 hM24 hM55; replace hh := hh.below hb55 (by omega); replace hs := hs.below hb55 (by omega); replace h11 := h11.below hb55 (by omega); replace h14 := h14.below hb55 (by omega); replace lo := lo.trans (hb55.mono (by omega)); replace hk := hk.below hb55 (by have eM := hM24; unfold Sz at eM; omega); clear hM24 hb55; try simp only [pA])
                              | (go_at_call 19; refine (RLoad_in M18 s f k hfk hk8.2 (by omega) _ (M55 + 1) hM57 hs).mono ?_; rintro e w58 ⟨he, hb58⟩; rw [ER.out] at he; subst he; obtain ⟨M58, hM58⟩ := sz_some w58; have l58 := below_sz hb58 hM57 hM58; replace hh := hh.below hb58 (by omega); replace hs := hs.below hb58 (by omega); replace h11 := h11.below hb58 (by omega); replace h14 := h14.below hb58 (by omega); replace h18 := h18.below hb58 (by omega); replace lo := lo.trans (hb58.mono (by omega)); replace hk := hk.below hb58 (by have eM := hM57; unfold Sz at eM; omega); clear hM57 hb58; try simp only [pA])
                              | ((with_reducible show wpList _ _ _ (_ :: _) _ _); first
                                | (refine wpl_load rfl 26 (.tmp 14) rfl (M + 1) rfl 26 4 _ h14 _ undVl.choose_spec.1 undVl.choose_spec.2 szVl ?_; try simp only [pA])
                                | (refine wpl_alloc rfl 26 rfl 4 (vlC zeroV) zeVl (M55) hM55 ?_; intro w56 hM56 hb56 h18; replace hh := hh.below hb56 (by omega); replace hs := hs.below hb56 (by omega); replace h11 := h11.below hb56 (by omega); replace h14 := h14.below hb56 (by omega); replace lo := lo.trans (hb56.mono (by omega)); replace hk := hk.below hb56 (by have eM := hM55; unfold Sz at eM; omega); clear hM55 hb56; try simp only [pA])
                                | (refine wpl_store rfl 26 (.tmp 18) (.tmp 168) rfl (M55) 4 (vlC (Vn lx)) rfl rfl 26 _ h18 szVl (fun j _ => vlC_one _ j) ?_; intro w57 t57 k57; replace hh := hh.touch t57 (by omega); replace hs := hs.touch t57 (by omega); replace h11 := h11.touch t57 (by omega); replace h14 := h14.touch t57 (by omega); replace hk := hk.touch t57 (fun g hg => by have := HPK.out g hg; omega); replace lo := t57.below lo (by omega); have hM57 := t57.sz hM56; clear h18 t57 hM56; have h18 := k57; clear k57; try simp only [pA]))
                              | fail)
                            refine wp_region_later (M58) (by kernel_rfl) (by kernel_rfl) ?_
                            try simp only [pA]
                            go_big_quiet_step (fail)
                            go_big_quiet_step (fail)
                            go_big_quiet_step (fail)
                            go_big_quiet_step (fail)
                            go_big_quiet_step (fail)
                            go_big_quiet_step (fail)
                            go_big_quiet_step (fail)
                            go_big_quiet_step (fail)
                            go_big_quiet_step (fail)
                            go_big_quiet_step (fail)
                            go_big_quiet_step (fail)
                            go_big_quiet_step (fail)
                            go_big_quiet_step (fail)
                            go_big_quiet_step (fail)
                            go_big_quiet_step (fail)
                            go_big_quiet_step (fail)
                            go_big_quiet_step (fail)
                            go_big_quiet_step (fail)
                            go_big_quiet_step (fail)
                            go_big_quiet_step (fail)
                            go_big_quiet_step (fail)
                            refine later_row hM58 26 (.tmp 18) rfl (M55) rfl 26 4 _ h18 undVl szVl (by rfl) ?_; try simp only [pA]
                            go_big_quiet_step (fail)
                            refine later_val (v := .agg (cellsOf (vlC (Vn lx)) 4)) (fun x => run_bd 26 #[(0, .const (.int .i64 1)), (1, .tmp 217)] rfl (cellsOf (vlC (Vn lx)) 4) (by kernel_rfl) _) (by rfl) ?_; try simp only [pA]
                            refine later_val (v := .bool false) (fun x => run_neq_op 26 26 (.tmp 216) (.tmp 218) rfl _ _ rfl rfl true (by kernel_rfl) (run_eqV_t rfl rfl x.w')) (by rfl) ?_; try simp only [pA]
                            go_big_quiet_step (fail)
                            go_big_quiet_step (fail)
                            refine wpQuiet_nil (laterE hM58 ?_)
                            intro x950 M950 hb950 hM950 l950
                            have eM := hM58
                            unfold Sz at eM
                            replace hh := hh.below hb950 (by omega)
                            replace hs := hs.below hb950 (by omega)
                            replace hk := hk.below hb950 (by omega)
                            replace lo := lo.trans (hb950.mono (by omega))
                            clear hb950 hM58 eM h11 h14 h18
                            go_wp2_with fail
                            exact ⟨⟨i + 1, m, s, L, pk, ck, by omega, by omega, by omega, by go_num, rfl, hh, hs, HI.out, hk, fun g hg => ⟨(HPK.out g hg).1, (HPK.out g hg).2.1, (HPK.out g hg).2.2.1⟩, lo⟩, by simp [intOf]; omega⟩
                    · as_aux_lemma =>
                        have esv : ldS m (sn (Sv n).n) o k = (zeroV, 14) := by rw [HFN.out]; exact ld_out hin
                        have epl : plF n o k = -1 := by rw [plF_ok (by omega), if_neg hin]
                        rw [epl]
                        have ESV := hid esv
                        clear esv epl
                        go_upto_region 32 with (first
                          | (go_at_call 8; refine (Load_stack b (Sv n) rfl m o k HK.out (by omega) _ (M24) hM24 hh).mono ?_; rintro e w59 ⟨he, hb59⟩; rw [ESV.out] at he; subst he; obtain ⟨M59, hM59⟩ := sz_some w59; have l59 := below_sz hb59 hM24 hM59; replace hh := hh.below hb59 (by omega); replace hs := hs.below hb59 (by omega); replace h11 := h11.below hb59 (by omega); replace h14 := h14.below hb59 (by omega); replace lo := lo.trans (hb59.mono (by omega)); replace hk := hk.below hb59 (by have eM := hM24; unfold Sz at eM; omega); clear hM24 hb59; try simp only [pA])
                          | (go_at_call 19; refine (RLoad_neg M18 (-1) _ (by omega) _).mono ?_; rintro e u ⟨rfl, hu⟩; have hu2 := hu.symm; subst hu2; clear hu; try simp only [pA])
                          | ((with_reducible show wpList _ _ _ (_ :: _) _ _); first
                            | (refine wpl_load rfl 26 (.tmp 14) rfl (M + 1) rfl 26 4 _ h14 _ undVl.choose_spec.1 undVl.choose_spec.2 szVl ?_; try simp only [pA])
                            | (refine wpl_alloc rfl 26 rfl 4 (vlC zeroV) zeVl (M59) hM59 ?_; intro w60 hM60 hb60 h18; replace hh := hh.below hb60 (by omega); replace hs := hs.below hb60 (by omega); replace h11 := h11.below hb60 (by omega); replace h14 := h14.below hb60 (by omega); replace lo := lo.trans (hb60.mono (by omega)); replace hk := hk.below hb60 (by have eM := hM59; unfold Sz at eM; omega); clear hM59 hb60; try simp only [pA])
                            | (refine wpl_store rfl 26 (.tmp 18) (.tmp 168) rfl (M59) 4 (vlC zeroV) rfl rfl 26 _ h18 szVl (fun j _ => vlC_one _ j) ?_; intro w61 t61 k61; replace hh := hh.touch t61 (by omega); replace hs := hs.touch t61 (by omega); replace h11 := h11.touch t61 (by omega); replace h14 := h14.touch t61 (by omega); replace hk := hk.touch t61 (fun g hg => by have := HPK.out g hg; omega); replace lo := t61.below lo (by omega); have hM61 := t61.sz hM60; clear h18 t61 hM60; have h18 := k61; clear k61; try simp only [pA])
                            | (refine wpl_want ?_ ?_; rotate_left; (refine wpl_load rfl 26 (.tmp 18) rfl (M59) rfl 26 4 _ h18 _ undVl.choose_spec.1 undVl.choose_spec.2 szVl ?_); rotate_left; rfl; try simp only [pA])
                            | (refine wpl_wantN ?_ ?_; rotate_left; (refine wpl_run rfl (.agg (cellsOf (vlC zeroV) 4)) _ (run_bd 26 #[] rfl (cellsOf (vlC zeroV) 4) (by kernel_rfl) _) ?_); rotate_left; rfl; try simp only [pA])
                            | (refine wpl_want ?_ ?_; rotate_left; (refine wpl_run rfl (.bool false) _ (run_neq_op 26 26 (.tmp 189) (.tmp 190) rfl _ _ rfl rfl true (by kernel_rfl) (run_eqV_t rfl rfl _)) ?_); rotate_left; rfl; try simp only [pA]))
                          | fail)
                        refine wp_region_later (M59 + 1) (by kernel_rfl) (by kernel_rfl) ?_
                        try simp only [pA]
                        go_big_quiet_step (fail)
                        go_big_quiet_step (fail)
                        go_big_quiet_step (fail)
                        go_big_quiet_step (fail)
                        go_big_quiet_step (fail)
                        go_big_quiet_step (fail)
                        go_big_quiet_step (fail)
                        go_big_quiet_step (fail)
                        go_big_quiet_step (fail)
                        go_big_quiet_step (fail)
                        go_big_quiet_step (fail)
                        go_big_quiet_step (fail)
                        go_big_quiet_step (fail)
                        go_big_quiet_step (fail)
                        go_big_quiet_step (fail)
                        go_big_quiet_step (fail)
                        go_big_quiet_step (fail)
                        go_big_quiet_step (fail)
                        go_big_quiet_step (fail)
                        go_big_quiet_step (fail)
                        go_big_quiet_step (fail)
                        go_big_quiet_step (fail)
                        go_big_quiet_step (fail)
                        go_big_quiet_step (fail)
                        go_big_quiet_step (fail)
                        go_big_quiet_step (fail)
                        go_big_quiet_step (fail)
                        refine wpQuiet_nil (laterE hM61 ?_)
                        intro x950 M950 hb950 hM950 l950
                        have eM := hM61
                        unfold Sz at eM
                        replace hh := hh.below hb950 (by omega)
                        replace hs := hs.below hb950 (by omega)
                        replace hk := hk.below hb950 (by omega)
                        replace lo := lo.trans (hb950.mono (by omega))
                        clear hb950 hM61 eM h11 h14 h18
                        go_wp2_with fail
                        exact ⟨⟨i + 1, m, s, L, pk, ck, by omega, by omega, by omega, by go_num, rfl, hh, hs, HI.out, hk, fun g hg => ⟨(HPK.out g hg).1, (HPK.out g hg).2.1, (HPK.out g hg).2.2.1⟩, lo⟩, by simp [intOf]; omega⟩
                  · clear hin
                    obtain ⟨c, ecc⟩ : ∃ c, rm z.sz 70 = c := ⟨_, rfl⟩
                    have hc70 : c < 70 := by rw [← ecc]; exact rm_lt _ 70 (by omega)
                    have ECC := hid ecc
                    clear ecc
                    have h3 : (inB n 0 (-64) 64 = true ∧ at0 n 0 (-64) + c ≤ 64) ∨ ¬ (inB n 0 (-64) 64 = true ∧ at0 n 0 (-64) + c ≤ 64) := Decidable.em _
                    rcases h3 with h3 | h3
                    · obtain ⟨f, ef⟩ : ∃ f, at0 n 0 (-64) = f := ⟨_, rfl⟩
                      have epl : plF n 0 c = ((f : Nat) : Int) := plF_1 h3 ef
                      rw [ef] at h3
                      have hfk : f + c ≤ 64 := h3.2
                      have hib : inB (sn (Sv n).n) 0 (-64) 64 = true := by rw [HFN.out]; exact h3.1
                      have hat : at0 (sn (Sv n).n) 0 (-64) = f := by rw [HFN.out]; exact ef
                      cases ha : allT (fun j => s.t (f + j) == 1) c
                      · as_aux_lemma =>
                          have EPL := hid epl
                          clear epl
                          have hau : allT (fun j => m.Wr (f + j)) c = false := (HI.out.all f c hfk).trans ha
                          have q3 : w24.cell? ⟨M, 3, none⟩ = some (.int .i64 z.sz) := h11.cell (j := 3) (by omega)
                          go_wp2_with (first
                            | (go_at_call 9; refine (Bytes_un b (Sv n) rfl m c f (by omega) hib hat hfk hau _ (M24) hM24 hh).mono ?_; rintro e w62 ⟨rfl, hb62⟩; obtain ⟨M62, hM62⟩ := sz_some w62; have l62 := below_sz hb62 hM24 hM62; replace hh := hh.below hb62 (by omega); replace hs := hs.below hb62 (by omega); replace h11 := h11.below hb62 (by omega); replace h14 := h14.below hb62 (by omega); replace lo := lo.trans (hb62.mono (by omega)); replace hk := hk.below hb62 (by have eM := hM24; unfold Sz at eM; omega); clear hM24 hb62; try simp only [pA])
                            | (go_at_call 16; refine (Place_any n 0 c (by omega) (by omega) _).mono ?_; rintro e u ⟨rfl, hu⟩; have hu2 := hu.symm; subst hu2; clear hu; rw [EPL.out]; try simp only [pA])
                            | ((with_reducible show wpList _ _ _ (_ :: _) _ _); first
                              | (refine wpl_run rfl (Q (BitVec.ofInt 64 z.sz)) _ (run_iu (x := .tmp 225) (z := z.sz) rfl undInt und64 rfl _) ?_; try simp only [pA])
                              | (refine wpl_b rfl rfl (bin_rem _ (BitVec.ofInt 64 z.sz) 70#64 (by decide)) rfl rfl ?_; try simp only [pA])
                              | (refine wpl_run rfl (.int .i64 ((rm z.sz 70 : Nat) : Int)) _ (run_rm (x := .tmp 227) rfl und64 undInt (z := z.sz) (m := 70) (by omega) rfl _) ?_; rw [ECC.out]; try simp only [pA])
                              | (refine wpl_load rfl 26 (.tmp 14) rfl (M + 1) rfl 26 4 _ h14 _ undVl.choose_spec.1 undVl.choose_spec.2 szVl ?_; try simp only [pA])
                              | (refine wpl_run rfl (.bool true) _ (run_geqI (x := .tmp 239) (y := .const (.int .i64 0)) rfl rfl rfl (decide_eq_true (by omega)) _) ?_; try simp only [pA])
                              | (refine wpl_want ?_ ?_; rotate_left; (refine wpl_run rfl (.bool true) _ (run_leqI (x := .tmp 242) (y := .const (.int .i64 64)) rfl rfl rfl (decide_eq_true (by omega)) _) ?_); rotate_left; rfl; try simp only [pA]))
                            | fail)
                          clear h11 h14 q3
                          have szW := hM62
                          clear szW hM62
                          go_loopw [27, 28] (fun x27 x28 wr => ∃ (j : Nat) (R : Bool), j ≤ c ∧ x28 = .int .i64 ((j : Nat) : Int) ∧ x27 = .bool R ∧ (R = true → ∀ i, i < j → s.t (f + i) = 1) ∧ Has wr b 83 193 (meC m) ∧ Has wr M18 48 136 (rkC s) ∧ OwnK wr 26 4 pk L ck keF ∧ Below N w wr) (fun _ x28 _ => c - (intOf x28).toNat)
                          case atStart => exact ⟨0, true, by omega, rfl, rfl, fun _ i hi => by omega, hh, hs, hk, lo⟩
                          case round =>
                            clear hh hs hk lo
                            obtain ⟨j, R, hj, rfl, rfl, hR, hh, hs, hk, lo⟩ := hrel
                            have HR := hid hR
                            clear hR
                            cases R
                            · obtain ⟨d, ed⟩ : ∃ d, decide (((j : Nat) : Int) < ((c : Nat) : Int)) = d := ⟨_, rfl⟩
                              have ED := hid ed
                              clear ed
                              go_upto_region 40 with fail
                              go_cut [250] (fun v wx => v = (Value.bool false) ∧ wx = wr)
                              case first =>
                                go_wp2_with (first
                                  | ((with_reducible show wpList _ _ _ (_ :: _) _ _); first
                                    | (refine wpl_run rfl (.bool d) _ (run_lssI (x := .tmp 245) (y := .tmp 246) rfl rfl rfl ED.out _) ?_; cases d; try simp only [pA]))
                                  | fail)
                                all_goals (go_meet; exact ⟨rfl, rfl⟩)
                              case rest =>
                                obtain ⟨rfl, ewc⟩ := hcut
                                subst ewc
                                go_wp2_with fail
                                go_loopw [29] (fun x29 wr => x29 = .int .i64 0 ∧ Has wr b 83 193 (meC m) ∧ Has wr M18 48 136 (rkC s) ∧ OwnK wr 26 4 pk L ck keF ∧ Below N w wr) (fun _ _ => 0)
                                case atStart => exact ⟨rfl, hh, hs, hk, lo⟩
                                case round =>
                                  clear hh hs hk lo
                                  obtain ⟨rfl, hh, hs, hk, lo⟩ := hrel
                                  obtain ⟨d, ed⟩ : ∃ d, decide ((0 : Int) < ((c : Nat) : Int)) = d := ⟨_, rfl⟩
                                  have ED := hid ed
                                  clear ed
                                  go_upto_region 46 with fail
                                  go_cut [272] (fun v wx => v = (Value.bool false) ∧ wx = wr)
                                  case first =>
                                    go_wp2_with (first
                                      | ((with_reducible show wpList _ _ _ (_ :: _) _ _); first
                                        | (refine wpl_run rfl (.bool d) _ (run_lssI (x := .tmp 267) (y := .tmp 268) rfl rfl rfl ED.out _) ?_; cases d; try simp only [pA]))
                                      | fail)
                                    all_goals (go_meet; exact ⟨rfl, rfl⟩)
                                  case rest =>
                                    obtain ⟨rfl, ewc⟩ := hcut
                                    subst ewc
                                    go_wp2_with fail
                                    exact ⟨⟨i + 1, m, s, L, pk, ck, by omega, by omega, by omega, by go_num, rfl, hh, hs, HI.out, hk, fun g hg => ⟨(HPK.out g hg).1, (HPK.out g hg).2.1, (HPK.out g hg).2.2.1⟩, lo⟩, by simp [intOf]; omega⟩
                            · by_cases hlt : j < c
                              · have t1 : decide (((j : Nat) : Int) < ((c : Nat) : Int)) = true := decide_eq_true (by omega)
                                have ct : wr.cell? ⟨M18, (f + j) * 2, none⟩ = some (.int .i64 (s.t (f + j))) := by rw [← rkC_t s (by omega)]; exact hs.cell (j := (f + j) * 2) (by omega)
                                obtain ⟨e1, he1⟩ : ∃ e, (s.t (f + j) == 1) = e := ⟨_, rfl⟩
                                have HE := hid he1
                                clear he1
                                go_wp2_with (first
                                  | ((with_reducible show wpList _ _ _ (_ :: _) _ _); first
                                    | (refine wpl_run rfl (.int .i64 ((f + j : Nat) : Int)) _ (run_addN (x := .tmp 254) (y := .tmp 255) (p := f) (q := j) rfl rfl rfl (by omega) _) ?_; try simp only [pA])
                                    | (refine wpl_run rfl (.pointer (some ⟨M18, (f + j) * 2, none⟩)) _ (by rw [← Nat.zero_add ((f + j) * 2)]; exact run_iaK (x := .tmp 258) (y := .tmp 256) rfl (b := M18) (off := 0) (k := f + j) rfl rfl undRB szBy (by omega)) ?_; try simp only [pA])
                                    | (refine wpl_run rfl (.bool e1) _ (run_eqlI (x := .tmp 261) (y := .const (.int .i64 1)) rfl rfl rfl (q := 1) HE.out _) ?_; try simp only [pA]))
                                  | fail)
                                exact ⟨⟨j + 1, e1, by omega, by go_num, rfl, (fun he i hi => by rcases Nat.lt_succ_iff_lt_or_eq.1 hi with h9 | h9; exact HR.out rfl i h9; rw [h9]; exact beq_iff_eq.1 (HE.out.trans he)), hh, hs, hk, lo⟩, by simp [intOf]; omega⟩
                              · exfalso
                                obtain rfl : c = j := by omega
                                have h9 := (allT_iff (fun j => s.t (f + j) == 1) c).2 (fun i hi => beq_iff_eq.2 (HR.out rfl i hi))
                                rw [ha] at h9
                                exact Bool.false_ne_true h9
                      · as_aux_lemma =>
                          have EPL := hid epl
                          clear epl
                          have hau : allT (fun j => m.Wr (f + j)) c = true := (HI.out.all f c hfk).trans ha
                          have q3 : w24.cell? ⟨M, 3, none⟩ = some (.int .i64 z.sz) := h11.cell (j := 3) (by omega)
                          go_wp2_with (first
                            | (go_at_call 9; refine (Bytes_ok b (Sv n) rfl m c f (by omega) hib hat hfk hau _ (M24) hM24 hh).mono ?_; rintro e w63 ⟨⟨p3, c3, rfl, hp3⟩, hb63⟩; obtain ⟨M63, hM63⟩ := sz_some w63; have l63 := below_sz hb63 hM24 hM63; replace hh := hh.below hb63 (by omega); replace hs := hs.below hb63 (by omega); replace h11 := h11.below hb63 (by omega); replace h14 := h14.below hb63 (by omega); replace lo := lo.trans (hb63.mono (by omega)); replace hk := hk.below hb63 (by have eM := hM24; unfold Sz at eM; omega); clear hM24 hb63; try simp only [pA])
                            | (go_at_call 16; refine (Place_any n 0 c (by omega) (by omega) _).mono ?_; rintro e u ⟨rfl, hu⟩; have hu2 := hu.symm; subst hu2; clear hu; rw [EPL.out]; try simp only [pA])
                            | ((with_reducible show wpList _ _ _ (_ :: _) _ _); first
                              | (refine wpl_run rfl (Q (BitVec.ofInt 64 z.sz)) _ (run_iu (x := .tmp 225) (z := z.sz) rfl undInt und64 rfl _) ?_; try simp only [pA])
                              | (refine wpl_b rfl rfl (bin_rem _ (BitVec.ofInt 64 z.sz) 70#64 (by decide)) rfl rfl ?_; try simp only [pA])
                              | (refine wpl_run rfl (.int .i64 ((rm z.sz 70 : Nat) : Int)) _ (run_rm (x := .tmp 227) rfl und64 undInt (z := z.sz) (m := 70) (by omega) rfl _) ?_; rw [ECC.out]; try simp only [pA])
                              | (refine wpl_load rfl 26 (.tmp 14) rfl (M + 1) rfl 26 4 _ h14 _ undVl.choose_spec.1 undVl.choose_spec.2 szVl ?_; try simp only [pA])
                              | (refine wpl_run rfl (.bool true) _ (run_geqI (x := .tmp 239) (y := .const (.int .i64 0)) rfl rfl rfl (decide_eq_true (by omega)) _) ?_; try simp only [pA])
                              | (refine wpl_want ?_ ?_; rotate_left; (refine wpl_run rfl (.bool true) _ (run_leqI (x := .tmp 242) (y := .const (.int .i64 64)) rfl rfl rfl (decide_eq_true (by omega)) _) ?_); rotate_left; rfl; try simp only [pA]))
                            | fail)
                          clear h11 h14 q3
                          have szW := hM63
                          clear szW hM63
                          go_loopw [27, 28] (fun x27 x28 wr => ∃ (j : Nat) (R : Bool), j ≤ c ∧ x28 = .int .i64 ((j : Nat) : Int) ∧ x27 = .bool R ∧ R = true ∧ Own wr 5 p3 c c3 (fun i => Yv (m.B (f + i))) ∧ Has wr b 83 193 (meC m) ∧ Has wr M18 48 136 (rkC s) ∧ OwnK wr 26 4 pk L ck keF ∧ Below N w wr) (fun _ x28 _ => c - (intOf x28).toNat)
                          case atStart => exact ⟨0, true, by omega, rfl, rfl, rfl, hp3, hh, hs, hk, lo⟩
                          case round =>
                            clear hh hs hk lo hp3
                            obtain ⟨j, R, hj, rfl, rfl, hR, hp3, hh, hs, hk, lo⟩ := hrel
                            subst hR
                            by_cases hlt : j < c
                            · have t1 : decide (((j : Nat) : Int) < ((c : Nat) : Int)) = true := decide_eq_true (by omega)
                              have ct : wr.cell? ⟨M18, (f + j) * 2, none⟩ = some (.int .i64 (s.t (f + j))) := by rw [← rkC_t s (by omega)]; exact hs.cell (j := (f + j) * 2) (by omega)
                              obtain ⟨e1, he1⟩ : ∃ e, (s.t (f + j) == 1) = e := ⟨_, rfl⟩
                              have HE := hid he1
                              clear he1
                              go_wp2_with (first
                                | ((with_reducible show wpList _ _ _ (_ :: _) _ _); first
                                  | (refine wpl_run rfl (.int .i64 ((f + j : Nat) : Int)) _ (run_addN (x := .tmp 254) (y := .tmp 255) (p := f) (q := j) rfl rfl rfl (by omega) _) ?_; try simp only [pA])
                                  | (refine wpl_run rfl (.pointer (some ⟨M18, (f + j) * 2, none⟩)) _ (by rw [← Nat.zero_add ((f + j) * 2)]; exact run_iaK (x := .tmp 258) (y := .tmp 256) rfl (b := M18) (off := 0) (k := f + j) rfl rfl undRB szBy (by omega)) ?_; try simp only [pA])
                                  | (refine wpl_run rfl (.bool e1) _ (run_eqlI (x := .tmp 261) (y := .const (.int .i64 1)) rfl rfl rfl (q := 1) HE.out _) ?_; try simp only [pA]))
                                | fail)
                              exact ⟨⟨j + 1, e1, by omega, by go_num, rfl, HE.out.symm.trans ((allT_iff _ _).1 ha j hlt), hp3, hh, hs, hk, lo⟩, by simp [intOf]; omega⟩
                            · obtain rfl : c = j := by omega
                              have t1 : decide (((c : Nat) : Int) < ((c : Nat) : Int)) = false := decide_eq_false (by omega)
                              go_wp2_with fail
                              go_loopw [29] (fun x29 wr => ∃ j : Nat, j ≤ c ∧ x29 = .int .i64 ((j : Nat) : Int) ∧ Own wr 5 p3 c c3 (fun i => Yv (m.B (f + i))) ∧ Has wr b 83 193 (meC m) ∧ Has wr M18 48 136 (rkC s) ∧ OwnK wr 26 4 pk L ck keF ∧ Below N w wr) (fun x29 _ => c - (intOf x29).toNat)
                              case atStart => exact ⟨0, by omega, rfl, hp3, hh, hs, hk, lo⟩
                              case round =>
                                clear hh hs hk lo hp3 t1
                                obtain ⟨j, hj, rfl, hp3, hh, hs, hk, lo⟩ := hrel
                                by_cases hlt : j < c
                                · obtain ⟨Mr, hMr⟩ := sz_some wr
                                  have lbMr := hh.ltN hMr
                                  have lsMr := hs.ltN hMr
                                  have lNMr := below_sz lo hN hMr
                                  have t1 : decide (((j : Nat) : Int) < ((c : Nat) : Int)) = true := decide_eq_true (by omega)
                                  obtain ⟨g, ep3, hgc⟩ := hp3.cell (by omega)
                                  have EP3 : Hid (Value.slice p3 c c3 = Value.slice (some ⟨g, 0, none⟩) c c3) := hid (congrArg (fun q => Value.slice q c c3) ep3)
                                  clear ep3
                                  have ct : wr.cell? ⟨g, 0 + j, none⟩ = some (Yv (m.B (f + j))) := hgc j hlt
                                  have cn : wr.cell? ⟨M18, (f + j) * 2 + 1, none⟩ = some (Yv (s.n (f + j))) := by rw [← rkC_n s (by omega)]; exact hs.cell (j := (f + j) * 2 + 1) (by omega)
                                  rw [HI.out.bytes f c hfk ha j hlt] at ct
                                  obtain ⟨y, ey⟩ : ∃ y, s.n (f + j) = y := ⟨_, rfl⟩
                                  rw [ey] at ct cn
                                  clear hgc ey
                                  go_upto_region 48 with fail
                                  refine wp_region_later (Mr) (by kernel_rfl) (by kernel_rfl) ?_
                                  try simp only [pA]
                                  go_big_quiet_step (fail)
                                  go_big_quiet_step (fail)
                                  refine later_val (v := .pointer (some ⟨g, 0 + j, none⟩)) (fun x => run_ixY 32 5 undSY szY1 (.tmp 275) (.tmp 276) rfl (by exact EP3.out) rfl (k := j) hlt _) (by rfl) ?_; try simp only [pA]
                                  refine later_c1 hMr 5 (.tmp 277) rfl rfl undY rfl ct (by rfl) ?_; try simp only [pA]
                                  go_big_quiet_step (fail)
                                  go_big_quiet_step (fail)
                                  go_big_quiet_step (fail)
                                  refine later_val (v := .int .i64 ((f + j : Nat) : Int)) (fun x => run_addN (x := .tmp 280) (y := .tmp 281) (p := f) (q := j) rfl rfl rfl (by omega) _) (by rfl) ?_; try simp only [pA]
                                  go_big_quiet_step (fail)
                                  go_big_quiet_step (fail)
                                  refine later_val (v := .pointer (some ⟨M18, (f + j) * 2, none⟩)) (fun x => by rw [← Nat.zero_add ((f + j) * 2)]; exact run_iaK (x := .tmp 284) (y := .tmp 282) rfl (b := M18) (off := 0) (k := f + j) rfl rfl undRB szBy (by omega)) (by rfl) ?_; try simp only [pA]
                                  go_big_quiet_step (fail)
                                  refine later_c1 hMr 5 (.tmp 286) rfl rfl undY rfl cn (by rfl) ?_; try simp only [pA]
                                  refine later_b rfl (bin_yneq _ y) rfl rfl (by rfl) ?_; try simp only [pA]
                                  refine wpQuiet_nil (laterE hMr ?_)
                                  intro x960 M960 hb960 hM960 l960
                                  have eM := hMr
                                  unfold Sz at eM
                                  replace hh := hh.below hb960 (by omega)
                                  replace hs := hs.below hb960 (by omega)
                                  replace hk := hk.below hb960 (by omega)
                                  replace hp3 := hp3.below hb960 (by omega)
                                  replace lo := lo.trans (hb960.mono (by omega))
                                  clear hb960 hMr eM ct cn
                                  go_wp2_with fail
                                  exact ⟨⟨j + 1, by omega, by go_num, hp3, hh, hs, hk, lo⟩, by simp [intOf]; omega⟩
                                · obtain rfl : c = j := by omega
                                  have t1 : decide (((c : Nat) : Int) < ((c : Nat) : Int)) = false := decide_eq_false (by omega)
                                  go_wp2_with fail
                                  exact ⟨⟨i + 1, m, s, L, pk, ck, by omega, by omega, by omega, by go_num, rfl, hh, hs, HI.out, hk, fun g hg => ⟨(HPK.out g hg).1, (HPK.out g hg).2.1, (HPK.out g hg).2.2.1⟩, lo⟩, by simp [intOf]; omega⟩
                    · as_aux_lemma =>
                        have epl : plF n 0 c = -1 := plF_0 h3
                        have EPL := hid epl
                        clear epl
                        have q3 : w24.cell? ⟨M, 3, none⟩ = some (.int .i64 z.sz) := h11.cell (j := 3) (by omega)
                        go_wp2_with (first
                          | (go_at_call 9; refine (Bytes_no b (Sv n) rfl m c n HFN.out h3 _ (M24) hM24 hh).mono ?_; rintro e w64 ⟨rfl, hb64⟩; obtain ⟨M64, hM64⟩ := sz_some w64; have l64 := below_sz hb64 hM24 hM64; replace hh := hh.below hb64 (by omega); replace hs := hs.below hb64 (by omega); replace h11 := h11.below hb64 (by omega); replace h14 := h14.below hb64 (by omega); replace lo := lo.trans (hb64.mono (by omega)); replace hk := hk.below hb64 (by have eM := hM24; unfold Sz at eM; omega); clear hM24 hb64; try simp only [pA])
                          | (go_at_call 16; refine (Place_any n 0 c (by omega) (by omega) _).mono ?_; rintro e u ⟨rfl, hu⟩; have hu2 := hu.symm; subst hu2; clear hu; rw [EPL.out]; try simp only [pA])
                          | ((with_reducible show wpList _ _ _ (_ :: _) _ _); first
                            | (refine wpl_run rfl (Q (BitVec.ofInt 64 z.sz)) _ (run_iu (x := .tmp 225) (z := z.sz) rfl undInt und64 rfl _) ?_; try simp only [pA])
                            | (refine wpl_b rfl rfl (bin_rem _ (BitVec.ofInt 64 z.sz) 70#64 (by decide)) rfl rfl ?_; try simp only [pA])
                            | (refine wpl_run rfl (.int .i64 ((rm z.sz 70 : Nat) : Int)) _ (run_rm (x := .tmp 227) rfl und64 undInt (z := z.sz) (m := 70) (by omega) rfl _) ?_; rw [ECC.out]; try simp only [pA])
                            | (refine wpl_load rfl 26 (.tmp 14) rfl (M + 1) rfl 26 4 _ h14 _ undVl.choose_spec.1 undVl.choose_spec.2 szVl ?_; try simp only [pA])
                            | (refine wpl_run rfl (.bool false) _ (run_geqI (x := .tmp 239) (y := .const (.int .i64 0)) rfl rfl rfl (by decide) _) ?_; try simp only [pA]))
                          | fail)
                        clear h11 h14 q3
                        have szW := hM64
                        clear szW hM64
                        go_loopw [27, 28] (fun x27 x28 wr => ∃ (j : Nat) (R : Bool), j ≤ c ∧ x28 = .int .i64 ((j : Nat) : Int) ∧ x27 = .bool R ∧ R = false ∧ Has wr b 83 193 (meC m) ∧ Has wr M18 48 136 (rkC s) ∧ OwnK wr 26 4 pk L ck keF ∧ Below N w wr) (fun _ x28 _ => c - (intOf x28).toNat)
                        case atStart => exact ⟨0, false, by omega, rfl, rfl, rfl, hh, hs, hk, lo⟩
                        case round =>
                          clear hh hs hk lo
                          obtain ⟨j, R, hj, rfl, rfl, hR, hh, hs, hk, lo⟩ := hrel
                          subst hR
                          obtain ⟨d, ed⟩ : ∃ d, decide (((j : Nat) : Int) < ((c : Nat) : Int)) = d := ⟨_, rfl⟩
                          have ED := hid ed
                          clear ed
                          go_upto_region 40 with fail
                          go_cut [250] (fun v wx => v = (Value.bool false) ∧ wx = wr)
                          case first =>
                            go_wp2_with (first
                              | ((with_reducible show wpList _ _ _ (_ :: _) _ _); first
                                | (refine wpl_run rfl (.bool d) _ (run_lssI (x := .tmp 245) (y := .tmp 246) rfl rfl rfl ED.out _) ?_; cases d; try simp only [pA]))
                              | fail)
                            all_goals (go_meet; exact ⟨rfl, rfl⟩)
                          case rest =>
                            obtain ⟨rfl, ewc⟩ := hcut
                            subst ewc
                            go_wp2_with fail
                            go_loopw [29] (fun x29 wr => x29 = .int .i64 0 ∧ Has wr b 83 193 (meC m) ∧ Has wr M18 48 136 (rkC s) ∧ OwnK wr 26 4 pk L ck keF ∧ Below N w wr) (fun _ _ => 0)
                            case atStart => exact ⟨rfl, hh, hs, hk, lo⟩
                            case round =>
                              clear hh hs hk lo
                              obtain ⟨rfl, hh, hs, hk, lo⟩ := hrel
                              obtain ⟨d, ed⟩ : ∃ d, decide ((0 : Int) < ((c : Nat) : Int)) = d := ⟨_, rfl⟩
                              have ED := hid ed
                              clear ed
                              go_upto_region 46 with fail
                              go_cut [272] (fun v wx => v = (Value.bool false) ∧ wx = wr)
                              case first =>
                                go_wp2_with (first
                                  | ((with_reducible show wpList _ _ _ (_ :: _) _ _); first
                                    | (refine wpl_run rfl (.bool d) _ (run_lssI (x := .tmp 267) (y := .tmp 268) rfl rfl rfl ED.out _) ?_; cases d; try simp only [pA]))
                                  | fail)
                                all_goals (go_meet; exact ⟨rfl, rfl⟩)
                              case rest =>
                                obtain ⟨rfl, ewc⟩ := hcut
                                subst ewc
                                go_wp2_with fail
                                exact ⟨⟨i + 1, m, s, L, pk, ck, by omega, by omega, by omega, by go_num, rfl, hh, hs, HI.out, hk, fun g hg => ⟨(HPK.out g hg).1, (HPK.out g hg).2.1, (HPK.out g hg).2.2.1⟩, lo⟩, by simp [intOf]; omega⟩
                  · clear hin
                    have hzx : okX w z := by rw [EZ.out]; exact HZ.out i hlt.1
                    have hnb := hzx.c
                    obtain ⟨l, ell⟩ : ∃ l, min z.nb 70 = l := ⟨_, rfl⟩
                    have hl70 : l ≤ 70 ∧ l ≤ z.nb := by omega
                    have ELL := hid ell
                    clear ell
                    have hne0 : 0 < l → ∀ g, blk z.pb = some g → g ≠ b := by
                      intro h0 g hg
                      obtain ⟨bb, ob, e, hc⟩ := hzx.a (by omega)
                      have h9 := World.block_lt_of_cell? w _ (hc 0 (by omega))
                      rw [e] at hg
                      have e2 : w.heap.size = N := hN
                      simp [blk] at hg
                      simp only at h9
                      omega
                    have h4 : (inB n 0 (-64) 64 = true ∧ at0 n 0 (-64) + l ≤ 64) ∨ ¬ (inB n 0 (-64) 64 = true ∧ at0 n 0 (-64) + l ≤ 64) := Decidable.em _
                    rcases h4 with h4 | h4
                    · as_aux_lemma =>
                        obtain ⟨f, ef⟩ : ∃ f, at0 n 0 (-64) = f := ⟨_, rfl⟩
                        have epl : plF n 0 l = ((f : Nat) : Int) := plF_1 h4 ef
                        rw [ef] at h4
                        have EPL := hid epl
                        clear epl
                        have q5 : w24.cell? ⟨M, 5, none⟩ = some (.slice z.pb z.nb z.cb) := h11.cell (j := 5) (by omega)
                        obtain ⟨p, ep⟩ : ∃ p, z.pb = p := ⟨_, rfl⟩
                        rw [ep] at q5
                        have EP := hid ep
                        clear ep
                        go_wp2_with (first
                          | (go_at_call 16; refine (Place_any n 0 l (by omega) (by omega) _).mono ?_; rintro e u ⟨rfl, hu⟩; have hu2 := hu.symm; subst hu2; clear hu; rw [EPL.out]; try simp only [pA])
                          | (go_at_call 12; refine (Fill_in b (Sv n) rfl m p l z.cb (by omega) f z.D n HFN.out h4.1 ef h4.2 _ (M24) hM24 hh (by rw [← EP.out]; exact (hzx.a.below hN lo).cut (by omega)) (by rw [← EP.out]; exact hne0)).mono ?_; rintro e w65 ⟨he, g65, k65⟩; subst he; have sz65 := hM24; unfold Sz at sz65; replace hs := hs.grew g65 (by simp; omega); replace h11 := h11.grew g65 (by simp; omega); replace h14 := h14.grew g65 (by simp; omega); replace hk := hk.grew g65 (.inr (by intro h; have := HPK.out _ h; omega)); replace lo := g65.below lo (by omega) (fun g hg => by simp at hg; omega); obtain ⟨M65, hM65⟩ := sz_some w65; have l65 : M24 ≤ M65 := (by have q1 := hM65; have q2 := g65.size; unfold Sz at q1; omega); clear hh g65 hM24 sz65; have hh := k65; clear k65; try simp only [pA])
                          | ((with_reducible show wpList _ _ _ (_ :: _) _ _); first
                            | (refine wpl_run rfl (.int .i64 ((z.nb : Nat) : Int)) _ (run_lenS (x := .tmp 294) (T := 32) undSY rfl rfl _) ?_; try simp only [pA])
                            | (refine wpl_run rfl (.int .i64 ((min z.nb 70 : Nat) : Int)) _ (run_minN (x := .tmp 295) (y := .const (.int .i64 70)) (m := 70) rfl rfl rfl _) ?_; rw [ELL.out]; try simp only [pA])
                            | (refine wpl_run rfl (.slice p l z.cb) _ (run_slTo 32 5 undSY szY1 (.tmp 292) (.tmp 296) rfl rfl rfl (k := l) (by omega) _) ?_; try simp only [pA])
                            | (refine wpl_run rfl (.int .i64 ((l : Nat) : Int)) _ (run_lenS (x := .tmp 299) (T := 32) undSY rfl rfl _) ?_; try simp only [pA])
                            | (refine wpl_want ?_ ?_; rotate_left; (refine wpl_run rfl (.int .i64 ((l : Nat) : Int)) _ (run_lenS (x := .tmp 305) (T := 32) undSY rfl rfl _) ?_); rotate_left; rfl; try simp only [pA])
                            | (refine wpl_run rfl (.bool true) _ (run_geqI (x := .tmp 302) (y := .const (.int .i64 0)) rfl rfl rfl (decide_eq_true (by omega)) _) ?_; try simp only [pA])
                            | (refine wpl_want ?_ ?_; rotate_left; (refine wpl_run rfl (.bool true) _ (run_leqI (x := .tmp 306) (y := .const (.int .i64 64)) rfl rfl rfl (decide_eq_true (by omega)) _) ?_); rotate_left; rfl; try simp only [pA])
                            | (refine wpl_load rfl 26 (.tmp 14) rfl (M + 1) rfl 26 4 _ h14 _ undVl.choose_spec.1 undVl.choose_spec.2 szVl ?_; try simp only [pA]))
                          | fail)
                        clear h11 h14 q5 hM65
                        go_loopw [33] (fun x33 wr => ∃ (j : Nat) (s' : Rk), j ≤ l ∧ x33 = .int .i64 ((j : Nat) : Int) ∧ Inv (fiM m f j z.D) s' L ∧ Has wr b 83 193 (meC (fiM m f l z.D)) ∧ Has wr M18 48 136 (rkC s') ∧ OwnK wr 26 4 pk L ck keF ∧ Below N w wr) (fun x33 _ => l - (intOf x33).toNat)
                        case atStart => exact ⟨0, s, by omega, rfl, by rw [fi_zero]; exact HI.out, hh, hs, hk, lo⟩
                        case round =>
                          clear hh hs hk lo
                          obtain ⟨j, s', hj, rfl, hI2, hh, hs, hk, lo⟩ := hrel
                          have HI2 := hid hI2
                          clear hI2
                          obtain ⟨Mr, hMr⟩ := sz_some wr
                          have lbMr := hh.ltN hMr
                          have lsMr := hs.ltN hMr
                          have lNMr := below_sz lo hN hMr
                          by_cases hlt : j < l
                          · have t1 : decide (((j : Nat) : Int) < ((l : Nat) : Int)) = true := decide_eq_true (by omega)
                            obtain ⟨bb, ob, epb, hcA⟩ := ((hzx.a.below hN lo).cut (show l ≤ z.nb by omega)) (by omega)
                            have EPB : Hid (Value.slice p l z.cb = Value.slice (some ⟨bb, ob, none⟩) l z.cb) := hid (congrArg (fun q => Value.slice q l z.cb) (EP.out.symm.trans epb))
                            replace hcA := hcA j hlt
                            clear epb
                            go_wp2_with (first
                              | (go_at_call 17; refine (RSave_num M18 s' (f + j) 1 (z.D j) (by omega) (by omega) (by omega) _ (Mr) hMr hs).mono ?_; rintro e w66 ⟨he, g66, k66⟩; subst he; have sz66 := hMr; unfold Sz at sz66; replace hh := hh.grew g66 (by simp; omega); replace hk := hk.grew g66 (.inr (by intro h; have := HPK.out _ h; omega)); replace lo := g66.below lo (by omega) (fun g hg => by simp at hg; omega); obtain ⟨M66, hM66⟩ := sz_some w66; have l66 : Mr ≤ M66 := (by have q1 := hM66; have q2 := g66.size; unfold Sz at q1; omega); clear hs g66 hMr sz66; have hs := k66; clear k66; clear hcA; try simp only [pA])
                              | ((with_reducible show wpList _ _ _ (_ :: _) _ _); first
                                | (refine wpl_run rfl (.int .i64 ((l : Nat) : Int)) _ (run_lenS (x := .tmp 317) (T := 32) undSY rfl rfl _) ?_; try simp only [pA])
                                | (refine wpl_run rfl (.int .i64 ((f + j : Nat) : Int)) _ (run_addN (x := .tmp 326) (y := .tmp 327) (p := f) (q := j) rfl rfl rfl (by omega) _) ?_; try simp only [pA])
                                | (refine wpl_run rfl (.pointer (some ⟨bb, ob + j, none⟩)) _ (run_ixY 32 5 undSY szY1 (.tmp 329) (.tmp 330) rfl (by exact EPB.out) rfl (k := j) hlt _) ?_; try simp only [pA])
                                | (refine wpl_run rfl (Yv (z.D j)) _ (run_c1 5 (.tmp 331) rfl ⟨bb, ob + j, none⟩ rfl undY rfl hcA) ?_; try simp only [pA])
                                | (refine wpl_run rfl (Q (z.D j)) _ (run_yu (x := .tmp 332) rfl undY und64 rfl _) ?_; try simp only [pA]))
                              | fail)
                            exact ⟨⟨j + 1, svR s' (f + j) 1 (z.D j) 0, by omega, by go_num, HI2.out.fill (by omega) (hzx.s j), hh, hs, hk, lo⟩, by simp [intOf]; omega⟩
                          · obtain rfl : l = j := by omega
                            have t1 : decide (((l : Nat) : Int) < ((l : Nat) : Int)) = false := decide_eq_false (by omega)
                            go_wp2_with (first
                              | ((with_reducible show wpList _ _ _ (_ :: _) _ _); first
                                | (refine wpl_run rfl (.int .i64 ((l : Nat) : Int)) _ (run_lenS (x := .tmp 317) (T := 32) undSY rfl rfl _) ?_; try simp only [pA]))
                              | fail)
                            exact ⟨⟨i + 1, fiM m f l z.D, s', L, pk, ck, by omega, by omega, by omega, by go_num, rfl, hh, hs, HI2.out, hk, fun g hg => ⟨(HPK.out g hg).1, (HPK.out g hg).2.1, (HPK.out g hg).2.2.1⟩, lo⟩, by simp [intOf]; omega⟩
                    · as_aux_lemma =>
                        have epl : plF n 0 l = -1 := plF_0 h4
                        have EPL := hid epl
                        clear epl
                        have q5 : w24.cell? ⟨M, 5, none⟩ = some (.slice z.pb z.nb z.cb) := h11.cell (j := 5) (by omega)
                        obtain ⟨p, ep⟩ : ∃ p, z.pb = p := ⟨_, rfl⟩
                        rw [ep] at q5
                        have EP := hid ep
                        clear ep
                        go_wp2_with (first
                          | (go_at_call 16; refine (Place_any n 0 l (by omega) (by omega) _).mono ?_; rintro e u ⟨rfl, hu⟩; have hu2 := hu.symm; subst hu2; clear hu; rw [EPL.out]; try simp only [pA])
                          | (go_at_call 12; refine (Fill_no b (Sv n) rfl m p l z.cb (by omega) n HFN.out h4 _ (M24) hM24 hh).mono ?_; rintro e w67 ⟨he, g67, k67⟩; subst he; have sz67 := hM24; unfold Sz at sz67; replace hs := hs.grew g67 (by simp; omega); replace h11 := h11.grew g67 (by simp; omega); replace h14 := h14.grew g67 (by simp; omega); replace hk := hk.grew g67 (.inr (by intro h; have := HPK.out _ h; omega)); replace lo := g67.below lo (by omega) (fun g hg => by simp at hg; omega); obtain ⟨M67, hM67⟩ := sz_some w67; have l67 : M24 ≤ M67 := (by have q1 := hM67; have q2 := g67.size; unfold Sz at q1; omega); clear hh g67 hM24 sz67; have hh := k67; clear k67; try simp only [pA])
                          | ((with_reducible show wpList _ _ _ (_ :: _) _ _); first
                            | (refine wpl_run rfl (.int .i64 ((z.nb : Nat) : Int)) _ (run_lenS (x := .tmp 294) (T := 32) undSY rfl rfl _) ?_; try simp only [pA])
                            | (refine wpl_run rfl (.int .i64 ((min z.nb 70 : Nat) : Int)) _ (run_minN (x := .tmp 295) (y := .const (.int .i64 70)) (m := 70) rfl rfl rfl _) ?_; rw [ELL.out]; try simp only [pA])
                            | (refine wpl_run rfl (.slice p l z.cb) _ (run_slTo 32 5 undSY szY1 (.tmp 292) (.tmp 296) rfl rfl rfl (k := l) (by omega) _) ?_; try simp only [pA])
                            | (refine wpl_run rfl (.int .i64 ((l : Nat) : Int)) _ (run_lenS (x := .tmp 299) (T := 32) undSY rfl rfl _) ?_; try simp only [pA])
                            | (refine wpl_want ?_ ?_; rotate_left; (refine wpl_run rfl (.int .i64 ((l : Nat) : Int)) _ (run_lenS (x := .tmp 305) (T := 32) undSY rfl rfl _) ?_); rotate_left; rfl; try simp only [pA])
                            | (refine wpl_run rfl (.bool false) _ (run_geqI (x := .tmp 302) (y := .const (.int .i64 0)) rfl rfl rfl (by decide) _) ?_; try simp only [pA])
                            | (refine wpl_load rfl 26 (.tmp 14) rfl (M + 1) rfl 26 4 _ h14 _ undVl.choose_spec.1 undVl.choose_spec.2 szVl ?_; try simp only [pA]))
                          | fail)
                        clear h11 h14 q5 hM67
                        go_loopw [33] (fun x33 wr => x33 = .int .i64 0 ∧ Has wr b 83 193 (meC m) ∧ Has wr M18 48 136 (rkC s) ∧ OwnK wr 26 4 pk L ck keF ∧ Below N w wr) (fun _ _ => 0)
                        case atStart => exact ⟨rfl, hh, hs, hk, lo⟩
                        case round =>
                          clear hh hs hk lo
                          obtain ⟨rfl, hh, hs, hk, lo⟩ := hrel
                          obtain ⟨d, ed⟩ : ∃ d, decide ((0 : Int) < ((l : Nat) : Int)) = d := ⟨_, rfl⟩
                          have ED := hid ed
                          clear ed
                          go_upto_region 57 with fail
                          go_cut [322] (fun v wx => v = (Value.bool false) ∧ wx = wr)
                          case first =>
                            go_wp2_with (first
                              | ((with_reducible show wpList _ _ _ (_ :: _) _ _); first
                                | (refine wpl_run rfl (.int .i64 ((l : Nat) : Int)) _ (run_lenS (x := .tmp 317) (T := 32) undSY rfl rfl _) ?_; try simp only [pA])
                                | (refine wpl_run rfl (.bool d) _ (run_lssI (x := .tmp 316) (y := .tmp 318) rfl rfl rfl ED.out _) ?_; cases d; try simp only [pA]))
                              | fail)
                            all_goals (go_meet; exact ⟨rfl, rfl⟩)
                          case rest =>
                            obtain ⟨rfl, ewc⟩ := hcut
                            subst ewc
                            go_wp2_with fail
                            exact ⟨⟨i + 1, m, s, L, pk, ck, by omega, by omega, by omega, by go_num, rfl, hh, hs, HI.out, hk, fun g hg => ⟨(HPK.out g hg).1, (HPK.out g hg).2.1, (HPK.out g hg).2.2.1⟩, lo⟩, by simp [intOf]; omega⟩
      · as_aux_lemma =>
          obtain ⟨c1, e1⟩ : ∃ c, decide (((i : Nat) : Int) < ((nr : Nat) : Int)) = c := ⟨_, rfl⟩
          obtain ⟨c2, e2⟩ : ∃ c, decide (((i : Nat) : Int) < 60) = c := ⟨_, rfl⟩
          have hend : (c1 && c2) = false := by
            rw [← e1, ← e2]
            rcases (show ¬ i < nr ∨ ¬ i < 60 by omega) with h | h
            · rw [decide_eq_false (by omega), Bool.false_and]
            · rw [show decide (((i : Nat) : Int) < 60) = false from decide_eq_false (by omega), Bool.and_false]
          have E1 := hid e1
          have E2 := hid e2
          have HE := hid hend
          clear e1 e2 hend hlt hi hi2
          go_upto_region 8 with fail
          go_cut [85] (fun v wx => v = (Value.bool false) ∧ wx = wr)
          case first =>
            go_wp2_with (first
              | ((with_reducible show wpList _ _ _ (_ :: _) _ _); first
                | (refine wpl_run rfl (.int .i64 ((nr : Nat) : Int)) _ (run_lenS (x := .tmp 79) (T := 22) undAcs rfl rfl _) ?_; try simp only [pA])
                | (refine wpl_run rfl (.bool c1) _ (run_lssI (x := .tmp 78) (y := .tmp 80) rfl rfl rfl E1.out _) ?_; cases c1; try simp only [pA])
                | (refine wpl_want (by rfl) ?_; refine wpl_run rfl (.bool c2) _ (run_lssI (x := .tmp 83) (y := .const (.int .i64 60)) rfl rfl rfl E2.out _) ?_; obtain rfl : c2 = false := (by have h := HE.out; simpa using h); try simp only [pA]))
              | fail)
            all_goals (go_meet; exact ⟨rfl, rfl⟩)
          case rest =>
            obtain ⟨rfl, ewc⟩ := hcut
            subst ewc
            go_wp2_with fail
            go_ret
            exact ⟨rfl, lo⟩
end Go.Proofs.Ytjcjmlmdcjkceaa
