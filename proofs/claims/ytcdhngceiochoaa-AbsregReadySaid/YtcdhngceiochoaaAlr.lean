/- AbsregReady: its walk. -/
import Derived.Test.YtcdhngceiochoaaArm
namespace Go.Proofs.Ytcdhngceiochoaa
open Go Go.RowKit
set_option maxRecDepth 100000 in
set_option maxHeartbeats 8000000 in
theorem law_aready (z0 : Int) (z1 : Int) (s2 : Nat → Int) (w : World) (N : Nat) (hN : Sz w N) : Calls Try.prog 20 #[(Value.int .i64 z0), (Value.int .i64 z1), (Value.agg (cellsOf (iC s2) 2))] w fun e w' => e = .returned (.bool true) ∧ Below N w w' := by
  obtain ⟨k, ek⟩ : ∃ k, rm z0 64 = k := ⟨_, rfl⟩
  have hk : k < 64 := by rw [← ek]; exact rm_lt _ _ (by omega)
  obtain ⟨c, ec⟩ : ∃ c, rm z1 20 = c := ⟨_, rfl⟩
  have hc : c < 20 := by rw [← ec]; exact rm_lt _ _ (by omega)
  obtain ⟨d, ed⟩ : ∃ d, d = c + 1 := ⟨_, rfl⟩
  have ew : wrap64 (1 + (((rm z1 20) : Nat) : Int)) = ((d : Nat) : Int) := by rw [ec, ed]; unfold wrap64; omega
  have hd : 1 ≤ d ∧ d ≤ 20 := by omega
  obtain ⟨a, ea⟩ : ∃ a, rm (s2 0) 64 = a := ⟨_, rfl⟩
  have ha : a < 64 := by rw [← ea]; exact rm_lt _ _ (by omega)
  obtain ⟨m, em⟩ : ∃ m, rm (s2 1) 30 = m := ⟨_, rfl⟩
  have hm : m < 30 := by rw [← em]; exact rm_lt _ _ (by omega)
  obtain ⟨L, eL⟩ : ∃ L, L = if d ≤ 64 - k then d else 64 - k := ⟨_, rfl⟩
  have hL : L ≤ d ∧ k + L ≤ 64 ∧ (L = d ∨ k + L = 64) := by rw [eL]; split <;> omega
  obtain ⟨ql, eq⟩ : ∃ q, q = k + L := ⟨_, rfl⟩
  have el : (if (64 : Int) < wrap64 (((k : Nat) : Int) + ((d : Nat) : Int)) then (64 : Int) else wrap64 (((k : Nat) : Int) + ((d : Nat) : Int))) = ((ql : Nat) : Int) := by
    rw [wrap_id (by omega) (by omega)]; split <;> omega
  have cr : readyF (saveL startS k true L) (wrap64 ((a : Int) - 64)) (m : Int) = (decide (k ≤ a ∧ a + m ≤ k + L) || decide (m = 0)) := ready_said k L a m hL.2.1 ha
  obtain ⟨Z, eZ⟩ : ∃ Z : Nat → St, ∀ j, Z j = saveL startS k true j := ⟨_, fun _ => rfl⟩
  have hst : ∀ w N, Sz w N → Calls Try.prog 42 #[] w fun e w' => e = .returned (stV (Z 0)) ∧ Below N w w' := fun w N hN => by
    rw [eZ]; exact Start_any w N hN
  have hsv : ∀ jq, k + jq < 64 → ∀ w N, Sz w N → Calls Try.prog 45 #[stV (Z jq), .int .i64 (wrap64 (wrap64 (((k : Nat) : Int) + ((jq : Nat) : Int)) - 64)), .int .i64 1, arV (numA (cR 3#64))] w fun e w' => e = .returned (.tuple #[stV (Z (jq + 1)), .bool true]) ∧ Below N w w' := fun jq hjk => by
    rw [eZ, eZ]; exact cs_save (place_lt rfl) (ready_step k jq hjk)
  rw [← eZ] at cr
  clear ed hc eL eZ
  have Ek := hid ek
  have Ec := hid ec
  have Ew := hid ew
  have Ea := hid ea
  have Em := hid em
  have El := hid el
  have Eq := hid eq
  have HD := hid hd
  have HL := hid hL
  have HA := hid ha
  have HK := hid hk
  have hL20 : Hid (L ≤ 20) := hid (by omega)
  have HM := hid hm
  have CR := hid cr
  clear ek ec ew ea em el eq hd hL ha hm cr
  go_enter Try.func20, Try.ntmps20
  go_upto_region 1 with (first
    | (refine wpl_box rfl 28 (.tmp 2) rfl 2 _ rfl (N) hN ?_; intro w1 hN1 hb1 hh1)
    | fail)
  have lo0 : Below N w w1 := hb1
  have k1 := hh1
  clear hh1 hb1
  go_upto_region 1 with fail
  refine wp_region_later1 ((N + 1)) ?_
  try simp only [pA]
  go_big_quiet_step (fail)
  refine later_val (fun q => run_iu (x := (.tmp 17)) rfl undInt und64 rfl q.w') (by rfl) ?_; simp only [pA]
  refine later_b (x := (.tmp 18)) (y := (.const (.int .u64 64))) rfl (bin_rem _ (BitVec.ofInt 64 z0) 64#64 (by decide)) rfl rfl (by rfl) ?_; simp only [pA]
  refine later_val (fun q => run_rm (x := (.tmp 19)) rfl und64 undInt (z := z0) (m := 64) (by omega) rfl q.w') (by rfl) ?_; simp only [pA]
  go_big_quiet_step (fail)
  refine later_val (fun q => run_iu (x := (.tmp 21)) rfl undInt und64 rfl q.w') (by rfl) ?_; simp only [pA]
  refine later_b (x := (.tmp 22)) (y := (.const (.int .u64 20))) rfl (bin_rem _ (BitVec.ofInt 64 z1) 20#64 (by decide)) rfl rfl (by rfl) ?_; simp only [pA]
  refine later_val (fun q => run_rm (x := (.tmp 23)) rfl und64 undInt (z := z1) (m := 20) (by omega) rfl q.w') (by rfl) ?_; simp only [pA]
  refine later_val (fun q => run_addI (x := (.const (.int .i64 1))) (y := (.tmp 24)) rfl rfl rfl (p := 1) (q := (((rm z1 20) : Nat) : Int)) q.w') (by rfl) ?_; simp only [pA]
  iterate 2 (go_big_quiet_step (fail))
  refine wpQuiet_nil (laterE hN1 ?_)
  intro xw2 M3 hbxw2 hM3 lM3
  have k4 := k1.below hbxw2 (by omega)
  have lo5 := lo0.trans (hbxw2.mono (by omega))
  clear k1 lo0 hbxw2
  rw [Ek.out, Ew.out]
  go_upto_region 2 with fail
  refine wp_region_lit ?_
  try simp only [pA]
  change wpList _ _ _ ((_ :: []) ++ (_ :: _ :: [])) _ _
  refine wpList_prefix (C := fun w' => ∃ x : Later M3 xw2, w' = x.w') _ _ _ _ ⟨⟨_, Below.refl _ _⟩, rfl⟩ ?_
  go_big_quiet_step ((go_at_call 42; exact later_of hM3 _ (fun K hK hKN => hst _ K hK)))
  refine wpQuiet_nil (laterE hM3 ?_)
  intro xw6 M7 hbxw6 hM7 lM7
  have k8 := k4.below hbxw6 (by omega)
  have lo9 := lo5.trans (hbxw6.mono (by omega))
  clear k4 lo5 hbxw6
  obtain ⟨b_xw10, eb_xw10⟩ : ∃ b_xw10, b_xw10 = M7 := ⟨_, rfl⟩
  have hzb_xw10 : Sz xw6 b_xw10 := by rw [eb_xw10]; exact hM7
  have lob_xw10 : M7 ≤ b_xw10 := by omega
  have upb_xw10 : b_xw10 ≤ M7 := by omega
  clear eb_xw10
  refine wpl_alloc rfl 76 rfl 273 (stC zeroS) zeSt b_xw10 hzb_xw10 ?_
  intro xw10 hMxw10 hbxw10 hhxw10; simp only [pA]
  have k11 := k8.below hbxw10 (by omega)
  have lo12 := lo9.trans (hbxw10.mono (by omega))
  clear k8 lo9 hbxw10 hzb_xw10
  obtain ⟨M13, eM13⟩ : ∃ M13, M13 = b_xw10 + 1 := ⟨_, rfl⟩
  rw [← eM13] at hMxw10
  have loM13 : b_xw10 + 1 ≤ M13 := by omega
  have upM13 : M13 ≤ b_xw10 + 1 := by omega
  clear eM13
  refine wpl_store rfl 76 (.tmp 9) (.tmp 26) rfl b_xw10 273 (stC (Z 0)) rfl rfl 76 _ hhxw10 szSt (fun j _ => stC_one _ j) ?_
  intro xw14 t15 k16; try simp only [pA]
  have k17 := k11.touch t15 (by omega)
  have lo18 := t15.below lo12 (by omega)
  have h19 := t15.sz hMxw10
  clear hhxw10 k11 lo12 hMxw10 t15
  obtain ⟨M20, hM20⟩ := sz_some xw14
  have lt_21 := k17.ltN hM20
  have lt_22 := k16.ltN hM20
  go_wp2_with fail
  have hd := HD.out
  have hL := HL.out
  go_loopg [10, 11, 12] (L) (fun g x10 x11 x12 wr => ∃ jq : Nat, jq ≤ L ∧ g = L - jq ∧ x10 = .int .i64 (jq : Int) ∧ Has wr N 28 2 (iC s2) ∧ Has wr b_xw10 76 273 (stC (Z jq)) ∧ Below N w wr)
  case atStart => exact ⟨0, by omega, rfl, rfl, k17, k16, lo18⟩
  case round =>
    clear k17 k16 lo18
    obtain ⟨jq, hkjq, rfl, rfl, k23, k24, lo25⟩ := hrel
    obtain ⟨M26, hM26⟩ := sz_some wr
    have lt_27 := k23.ltN hM26
    have lt_28 := k24.ltN hM26
    have jq0 : (0 : Int) ≤ (jq : Int) := by omega
    by_cases hlt : jq < L
    · have hjk : k + jq < 64 := by omega
      have t1 : (decide (((jq : Nat) : Int) < ((d : Nat) : Int))) = true := decide_eq_true (by omega)
      have t2 : (decide ((wrap64 (((k : Nat) : Int) + ((jq : Nat) : Int))) < 64)) = true := by rw [wrap_id (by omega) (by omega)]; exact decide_eq_true (by omega)
      have t3 : (jq : Int) < 64 := by omega
      have T1 := hid t1
      have T2 := hid t2
      clear t1 t2
      go_upto_region 4 with fail
      refine wp_region_later1 (M26) ?_
      try simp only [pA]
      iterate 2 (go_big_quiet_step (fail))
      refine later_val (fun q => run_lssI (x := (.tmp 27)) (y := (.tmp 28)) rfl rfl rfl (p := ((jq : Nat) : Int)) (q := ((d : Nat) : Int)) (r := true) T1.out q.w') (by rfl) ?_; simp only [pA]
      iterate 3 (go_big_quiet_step (fail))
      refine later_val (fun q => run_addI (x := (.tmp 31)) (y := (.tmp 32)) rfl rfl rfl (p := ((k : Nat) : Int)) (q := ((jq : Nat) : Int)) q.w') (by rfl) ?_; simp only [pA]
      refine later_val (fun q => run_lssI (x := (.tmp 33)) (y := (.const (.int .i64 64))) rfl rfl rfl (p := (wrap64 (((k : Nat) : Int) + ((jq : Nat) : Int)))) (q := 64) (r := true) T2.out q.w') (by rfl) ?_; simp only [pA]
      go_big_quiet_step (fail)
      refine wpQuiet_nil (laterE hM26 ?_)
      intro xw29 M30 hbxw29 hM30 lM30
      have k31 := k23.below hbxw29 (by omega)
      have k32 := k24.below hbxw29 (by omega)
      have lo33 := lo25.trans (hbxw29.mono (by omega))
      clear k23 k24 lo25 hbxw29
      go_upto_region 6 with fail
      refine wp_mid (fun ac (zb : Nat) => ((((((((((((ac.put (some 39) (Value.agg (cellsOf (stC (Z jq)) 273))).put (some 40) (Value.int .i64 (k : Int))).put (some 41) (Value.int .i64 (jq : Int))).put (some 42) (Value.int .i64 (wrap64 (((k : Nat) : Int) + ((jq : Nat) : Int))))).put (some 43) (Value.int .i64 (wrap64 ((wrap64 (((k : Nat) : Int) + ((jq : Nat) : Int))) - 64)))).put (some 44) (Value.agg (cellsOf (arC (numA (cR 3#64))) 11))).put (some 45) (Value.tuple #[(Value.agg (cellsOf (stC (Z (jq + 1))) 273)), (Value.bool true)])).put (some 38) (Value.tuple #[(Value.agg (cellsOf (stC (Z (jq + 1))) 273)), (Value.bool true)])).put (some 46) (Value.agg (cellsOf (stC (Z (jq + 1))) 273))).put (some 47) (Value.bool true)).put (some 11) (.pointer (some ⟨zb, 0, none⟩))).put (some 12) (Value.bool true))) (fun zb w' => Has w' zb 76 273 (stC (Z (jq + 1))) ∧ M30 ≤ zb ∧ Has w' N 28 2 (iC s2) ∧ Has w' b_xw10 76 273 (stC (Z jq)) ∧ Below N w w') ?_ ?_
      · refine wp_region_any (by kernel_rfl) ?_
        replace k31 : Has xw29.drew N 28 2 (iC s2) := k31
        replace k32 : Has xw29.drew b_xw10 76 273 (stC (Z jq)) := k32
        replace hM30 : Sz xw29.drew M30 := hM30
        replace lo33 : Below N w xw29.drew := lo33.drew
        change wpAny _ _ _ _ _ _ _ (World.drew _)
        generalize xw29.drew = xw35 at *
        refine wpAny_potL (lt := [9]) (rem := [0, 1, 2, 3, 4, 5, 6, 7, 8, 9, 10]) (FG M30 (fun j => if j = 0 then some (Value.agg (cellsOf (stC (Z jq)) 273)) else if j = 1 then some (Value.int .i64 (k : Int)) else if j = 2 then some (Value.int .i64 (jq : Int)) else if j = 3 then some (Value.int .i64 (wrap64 (((k : Nat) : Int) + ((jq : Nat) : Int)))) else if j = 4 then some (Value.int .i64 (wrap64 ((wrap64 (((k : Nat) : Int) + ((jq : Nat) : Int))) - 64))) else if j = 5 then some (Value.agg (cellsOf (arC (numA (cR 3#64))) 11)) else if j = 6 then some (Value.tuple #[(Value.agg (cellsOf (stC (Z (jq + 1))) 273)), (Value.bool true)]) else if j = 7 then some (Value.tuple #[(Value.agg (cellsOf (stC (Z (jq + 1))) 273)), (Value.bool true)]) else if j = 8 then some (Value.agg (cellsOf (stC (Z (jq + 1))) 273)) else if j = 9 then some (Value.bool true) else none) (fun j => (76, 273, stC zeroS))) (TwoN (fun j => if j = 0 then some (Value.agg (cellsOf (stC (Z jq)) 273)) else if j = 1 then some (Value.int .i64 (k : Int)) else if j = 2 then some (Value.int .i64 (jq : Int)) else if j = 3 then some (Value.int .i64 (wrap64 (((k : Nat) : Int) + ((jq : Nat) : Int)))) else if j = 4 then some (Value.int .i64 (wrap64 ((wrap64 (((k : Nat) : Int) + ((jq : Nat) : Int))) - 64))) else if j = 5 then some (Value.agg (cellsOf (arC (numA (cR 3#64))) 11)) else if j = 6 then some (Value.tuple #[(Value.agg (cellsOf (stC (Z (jq + 1))) 273)), (Value.bool true)]) else if j = 7 then some (Value.tuple #[(Value.agg (cellsOf (stC (Z (jq + 1))) 273)), (Value.bool true)]) else if j = 8 then some (Value.agg (cellsOf (stC (Z (jq + 1))) 273)) else if j = 9 then some (Value.bool true) else none)) (Below M30 xw35) _ _ _ _ (by kernel_rfl) (size_dstG (by kernel_rfl)) (Below.refl _ _) ?_ ?_
        · intro i hi ac wa hI ha hv
          simp only [List.mem_cons, List.not_mem_nil, or_false] at hi
          rcases hi with rfl | rfl | rfl | rfl | rfl | rfl | rfl | rfl | rfl | rfl | rfl
          · exact potg_run rfl rfl (Value.agg (cellsOf (stC (Z jq)) 273)) rfl (run_rw 76 (.tmp 9) rfl b_xw10 (ha 9 (not_dstG (by kernel_rfl))) 76 273 _ (Has.below k32 hI (Has.ltN k32 hM30)) undSt szSt) hM30 hI
          · exact potg_run rfl rfl (Value.int .i64 (k : Int)) rfl (run_mv (x := (.tmp 7)) rfl _ (ha 7 (not_dstG (by kernel_rfl)))) hM30 hI
          · exact potg_run rfl rfl (Value.int .i64 (jq : Int)) rfl (run_mv (x := (.tmp 10)) rfl _ (ha 10 (not_dstG (by kernel_rfl)))) hM30 hI
          · obtain ⟨v1, hv1a, hv1b⟩ := hv 1 (by simp) (by kernel_rfl)
            have ev1 := hv1b.val rfl
            subst ev1
            obtain ⟨v2, hv2a, hv2b⟩ := hv 2 (by simp) (by kernel_rfl)
            have ev2 := hv2b.val rfl
            subst ev2
            exact potg_run rfl rfl (Value.int .i64 (wrap64 (((k : Nat) : Int) + ((jq : Nat) : Int)))) rfl (run_addI (x := (.tmp 40)) (y := (.tmp 41)) rfl (hv1a 40 rfl) (hv2a 41 rfl) (p := ((k : Nat) : Int)) (q := ((jq : Nat) : Int)) wa) hM30 hI
          · obtain ⟨v3, hv3a, hv3b⟩ := hv 3 (by simp) (by kernel_rfl)
            have ev3 := hv3b.val rfl
            subst ev3
            exact potg_run rfl rfl (Value.int .i64 (wrap64 ((wrap64 (((k : Nat) : Int) + ((jq : Nat) : Int))) - 64))) rfl (run_subI (x := (.tmp 42)) (y := (.const (.int .i64 64))) rfl (hv3a 42 rfl) rfl (p := (wrap64 (((k : Nat) : Int) + ((jq : Nat) : Int)))) (q := 64) wa) hM30 hI
          · exact potg_cl rfl rfl 44 _ _ rfl #[(Q 3#64)] (by kernel_rfl) (by kernel_rfl) (Value.agg (cellsOf (arC (numA (cR 3#64))) 11)) (fun K hK => Number_any 3#64 wa K hK) rfl hM30 hI
          · obtain ⟨v0, hv0a, hv0b⟩ := hv 0 (by simp) (by kernel_rfl)
            have ev0 := hv0b.val rfl
            subst ev0
            obtain ⟨v4, hv4a, hv4b⟩ := hv 4 (by simp) (by kernel_rfl)
            have ev4 := hv4b.val rfl
            subst ev4
            obtain ⟨v5, hv5a, hv5b⟩ := hv 5 (by simp) (by kernel_rfl)
            have ev5 := hv5b.val rfl
            subst ev5
            exact potg_cl rfl rfl 45 _ _ rfl #[(Value.agg (cellsOf (stC (Z jq)) 273)), (Value.int .i64 (wrap64 ((wrap64 (((k : Nat) : Int) + ((jq : Nat) : Int))) - 64))), (Value.int .i64 1), (Value.agg (cellsOf (arC (numA (cR 3#64))) 11))] (by simp only [List.map_toArray, List.map_cons, List.map_nil, (show ac.eval (.tmp 39) = (Value.agg (cellsOf (stC (Z jq)) 273)) from (hv0a 39 rfl)), (show ac.eval (.tmp 43) = (Value.int .i64 (wrap64 ((wrap64 (((k : Nat) : Int) + ((jq : Nat) : Int))) - 64))) from (hv4a 43 rfl)), (show ac.eval (.tmp 44) = (Value.agg (cellsOf (arC (numA (cR 3#64))) 11)) from (hv5a 44 rfl))] <;> rfl) (by kernel_rfl) (Value.tuple #[(Value.agg (cellsOf (stC (Z (jq + 1))) 273)), (Value.bool true)]) (fun K hK => hsv jq hjk wa K hK) rfl hM30 hI
          · obtain ⟨v6, hv6a, hv6b⟩ := hv 6 (by simp) (by kernel_rfl)
            have ev6 := hv6b.val rfl
            subst ev6
            exact potg_run rfl rfl (Value.tuple #[(Value.agg (cellsOf (stC (Z (jq + 1))) 273)), (Value.bool true)]) rfl (run_mv (x := (.tmp 45)) rfl _ (hv6a 45 rfl)) hM30 hI
          · obtain ⟨v7, hv7a, hv7b⟩ := hv 7 (by simp) (by kernel_rfl)
            have ev7 := hv7b.val rfl
            subst ev7
            exact potg_run rfl rfl (Value.agg (cellsOf (stC (Z (jq + 1))) 273)) rfl (run_ex (x := (.tmp 38)) rfl _ (hv7a 38 rfl) rfl) hM30 hI
          · obtain ⟨v7, hv7a, hv7b⟩ := hv 7 (by simp) (by kernel_rfl)
            have ev7 := hv7b.val rfl
            subst ev7
            exact potg_run rfl rfl (Value.bool true) rfl (run_ex (x := (.tmp 38)) rfl _ (hv7a 38 rfl) rfl) hM30 hI
          · exact potg_al rfl rfl rfl zeSt rfl rfl hM30 hI
        · intro L vals w5_34_ hb5_34_ hF hG hL
          have l0 := hL 0 (by simp) rfl
          have l1 := hL 1 (by simp) rfl
          have l2 := hL 2 (by simp) rfl
          have l3 := hL 3 (by simp) rfl
          have l4 := hL 4 (by simp) rfl
          have l5 := hL 5 (by simp) rfl
          have l6 := hL 6 (by simp) rfl
          have l7 := hL 7 (by simp) rfl
          have l8 := hL 8 (by simp) rfl
          have l10 := hL 10 (by simp) rfl
          clear hL
          cases c9 : L 9
          · have e_34_0 := (hF 0 (by simp) l0).val rfl
            have e_34_1 := (hF 1 (by simp) l1).val rfl
            have e_34_2 := (hF 2 (by simp) l2).val rfl
            have e_34_3 := (hF 3 (by simp) l3).val rfl
            have e_34_4 := (hF 4 (by simp) l4).val rfl
            have e_34_5 := (hF 5 (by simp) l5).val rfl
            have e_34_6 := (hF 6 (by simp) l6).val rfl
            have e_34_7 := (hF 7 (by simp) l7).val rfl
            have e_34_8 := (hF 8 (by simp) l8).val rfl
            obtain ⟨b_34_10, bl_34_10, e_34_10, h_34_10⟩ := (hF 10 (by simp) l10).al rfl rfl
            clear hF hG
            rw [show left L [0, 1, 2, 3, 4, 5, 6, 7, 8, 9, 10] = 1 from by simp [left, l0, l1, l2, l3, l4, l5, l6, l7, l8, l10, c9]]
            refine wpAny_fuel (n := 3) (by kernel_rfl) ?_
            simp only [marks, puts, l0, l1, l2, l3, l4, l5, l6, l7, l8, l10, c9, if_true, if_false, Bool.false_eq_true, dstOf, List.getElem?_toArray, List.getElem?_cons_succ, List.getElem?_cons_zero, Option.bind_some, Act.put, List.setIfInBounds_toArray, List.set_cons_succ, List.set_cons_zero, e_34_0, e_34_1, e_34_2, e_34_3, e_34_4, e_34_5, e_34_6, e_34_7, e_34_8, e_34_10]
            clear e_34_0 e_34_1 e_34_2 e_34_3 e_34_4 e_34_5 e_34_6 e_34_7 e_34_8 e_34_10 l0 l1 l2 l3 l4 l5 l6 l7 l8 l10 c9
            have k36 := k31.below hb5_34_ (by omega)
            have k37 := k32.below hb5_34_ (by omega)
            have lo38 := lo33.trans (hb5_34_.mono (by omega))
            obtain ⟨M5, hM5⟩ := sz_some w5_34_
            have lM5 := below_sz hb5_34_ hM30 hM5
            clear k31 k32 lo33 hb5_34_
            refine wpAny_of_held (S := fun _ => True) _ _ _ _ ?_
            refine held_take (i := 9) (v := (Value.bool true)) (d := some 47) rfl (by kernel_rfl) (by kernel_rfl) (by kernel_rfl) (by kernel_rfl) (fun _ _ _ h => by cases h.1) (Or.inl ⟨by rfl, fun wq _ => run_ex (x := (.tmp 38)) rfl wq rfl rfl⟩) trivial ?_; simp only [pA]
            refine wpAnyH_all (rs := [11]) (by kernel_rfl) (by simp) ?_
            intro iq hiq; simp only [List.mem_singleton] at hiq; subst hiq
            refine opg_list rfl ?_
            refine wpl_storeN (by rfl) (by kernel_rfl) 76 (.tmp 11) (.tmp 46) rfl b_34_10 273 (stC (Z (jq + 1))) rfl rfl 76 _ h_34_10 szSt (fun j _ => stC_one _ j) ?_
            intro xw39 t40 k41; try simp only [pA]
            have k42 := k36.touch t40 (by omega)
            have k43 := k37.touch t40 (by omega)
            have lo44 := t40.below lo38 (by omega)
            have h45 := t40.sz hM5
            clear h_34_10 k36 k37 lo38 hM5 t40
            refine ⟨trivial, ?_⟩
            refine wpAnyH_all (rs := [12]) (by kernel_rfl) (by simp) ?_
            intro iq hiq; simp only [List.mem_singleton] at hiq; subst hiq
            refine opg_list rfl ?_
            refine wpl_runD rfl (d := some 12) rfl (Value.bool true) (run_as (x := (.tmp 47)) rfl _ rfl) ?_; simp only [pA]
            refine ⟨trivial, ?_⟩
            refine wpAnyH_done (by kernel_rfl) ?_ _
            refine ⟨rfl, b_34_10, (by simp only [pA]), k41, bl_34_10, k42, k43, lo44⟩
          · have e_34_0 := (hF 0 (by simp) l0).val rfl
            have e_34_1 := (hF 1 (by simp) l1).val rfl
            have e_34_2 := (hF 2 (by simp) l2).val rfl
            have e_34_3 := (hF 3 (by simp) l3).val rfl
            have e_34_4 := (hF 4 (by simp) l4).val rfl
            have e_34_5 := (hF 5 (by simp) l5).val rfl
            have e_34_6 := (hF 6 (by simp) l6).val rfl
            have e_34_7 := (hF 7 (by simp) l7).val rfl
            have e_34_8 := (hF 8 (by simp) l8).val rfl
            have e_34_9 := (hF 9 (by simp) c9).val rfl
            obtain ⟨b_34_10, bl_34_10, e_34_10, h_34_10⟩ := (hF 10 (by simp) l10).al rfl rfl
            clear hF hG
            rw [show left L [0, 1, 2, 3, 4, 5, 6, 7, 8, 9, 10] = 0 from by simp [left, l0, l1, l2, l3, l4, l5, l6, l7, l8, l10, c9]]
            refine wpAny_fuel (n := 2) (by kernel_rfl) ?_
            simp only [marks, puts, l0, l1, l2, l3, l4, l5, l6, l7, l8, l10, c9, if_true, if_false, Bool.false_eq_true, dstOf, List.getElem?_toArray, List.getElem?_cons_succ, List.getElem?_cons_zero, Option.bind_some, Act.put, List.setIfInBounds_toArray, List.set_cons_succ, List.set_cons_zero, e_34_0, e_34_1, e_34_2, e_34_3, e_34_4, e_34_5, e_34_6, e_34_7, e_34_8, e_34_9, e_34_10]
            clear e_34_0 e_34_1 e_34_2 e_34_3 e_34_4 e_34_5 e_34_6 e_34_7 e_34_8 e_34_9 e_34_10 l0 l1 l2 l3 l4 l5 l6 l7 l8 l10 c9
            have k36 := k31.below hb5_34_ (by omega)
            have k37 := k32.below hb5_34_ (by omega)
            have lo38 := lo33.trans (hb5_34_.mono (by omega))
            obtain ⟨M5, hM5⟩ := sz_some w5_34_
            have lM5 := below_sz hb5_34_ hM30 hM5
            clear k31 k32 lo33 hb5_34_
            refine wpAny_of_held (S := fun _ => True) _ _ _ _ ?_
            refine wpAnyH_all (rs := [11]) (by kernel_rfl) (by simp) ?_
            intro iq hiq; simp only [List.mem_singleton] at hiq; subst hiq
            refine opg_list rfl ?_
            refine wpl_storeN (by rfl) (by kernel_rfl) 76 (.tmp 11) (.tmp 46) rfl b_34_10 273 (stC (Z (jq + 1))) rfl rfl 76 _ h_34_10 szSt (fun j _ => stC_one _ j) ?_
            intro xw39 t40 k41; try simp only [pA]
            have k42 := k36.touch t40 (by omega)
            have k43 := k37.touch t40 (by omega)
            have lo44 := t40.below lo38 (by omega)
            have h45 := t40.sz hM5
            clear h_34_10 k36 k37 lo38 hM5 t40
            refine ⟨trivial, ?_⟩
            refine wpAnyH_all (rs := [12]) (by kernel_rfl) (by simp) ?_
            intro iq hiq; simp only [List.mem_singleton] at hiq; subst hiq
            refine opg_list rfl ?_
            refine wpl_runD rfl (d := some 12) rfl (Value.bool true) (run_as (x := (.tmp 47)) rfl _ rfl) ?_; simp only [pA]
            refine ⟨trivial, ?_⟩
            refine wpAnyH_done (by kernel_rfl) ?_ _
            refine ⟨rfl, b_34_10, (by simp only [pA]), k41, bl_34_10, k42, k43, lo44⟩
      · clear k31 k32 lo33
        rintro b_34_x0 xw39 ⟨k35, lb_34_x0, k36, k37, lo38⟩
        try dsimp only at *
        try simp only [pA]
        obtain ⟨M40, hM40⟩ := sz_some xw39
        have lt_41 := k36.ltN hM40
        have lt_42 := k37.ltN hM40
        have lt_43 := k35.ltN hM40
        go_upto_region 7 with fail
        refine wp_region_later1 (M40) ?_
        try simp only [pA]
        iterate 2 (go_big_quiet_step (fail))
        refine wpQuiet_nil (laterE hM40 ?_)
        intro xw44 M45 hbxw44 hM45 lM45
        have k46 := k36.below hbxw44 (by omega)
        have k47 := k37.below hbxw44 (by omega)
        have k48 := k35.below hbxw44 (by omega)
        have lo49 := lo38.trans (hbxw44.mono (by omega))
        clear k36 k37 k35 lo38 hbxw44
        go_upto_region 9 with fail
        refine wp_region_lit ?_
        try simp only [pA]
        change wpList _ _ _ ((_ :: []) ++ (_ :: [])) _ _
        refine wpList_prefix (C := fun w' => ∃ x : Later M45 xw44, w' = x.w') _ _ _ _ ⟨⟨_, Below.refl _ _⟩, rfl⟩ ?_
        refine later_row hM45 76 (.tmp 11) rfl (b_34_x0) rfl 76 273 _ k48 undSt szSt (by rfl) ?_; simp only [pA]
        refine wpQuiet_nil (laterE hM45 ?_)
        intro xw50 M51 hbxw50 hM51 lM51
        have k52 := k46.below hbxw50 (by omega)
        have k53 := k47.below hbxw50 (by omega)
        have k54 := k48.below hbxw50 (by omega)
        have lo55 := lo49.trans (hbxw50.mono (by omega))
        clear k46 k47 k48 lo49 hbxw50
        refine wpl_store rfl 76 (.tmp 9) (.tmp 50) rfl b_xw10 273 (stC (Z (jq + 1))) rfl rfl 76 _ k53 szSt (fun j _ => stC_one _ j) ?_
        intro xw56 t57 k58; try simp only [pA]
        have k59 := k52.touch t57 (by omega)
        have k60 := k54.touch t57 (by omega)
        have lo61 := t57.below lo55 (by omega)
        have h62 := t57.sz hM51
        clear k53 k52 k54 lo55 hM51 t57
        obtain ⟨M63, hM63⟩ := sz_some xw56
        have lt_64 := k59.ltN hM63
        have lt_65 := k58.ltN hM63
        have lt_66 := k60.ltN hM63
        go_wp2_with fail
        go_roundg (L - (jq + 1))
        case rel => exact ⟨jq + 1, by omega, rfl, by simp, k59, k58, lo61⟩
        case measure => omega
    · obtain rfl : jq = L := by omega
      by_cases hld : jq = d
      · have t1 : (decide (((jq : Nat) : Int) < ((d : Nat) : Int))) = false := decide_eq_false (by omega)
        have T1 := hid t1
        clear t1 hld
        go_upto_region 4 with fail
        refine wp_region_later1 (M26) ?_
        try simp only [pA]
        iterate 2 (go_big_quiet_step (fail))
        refine later_val (fun q => run_lssI (x := (.tmp 27)) (y := (.tmp 28)) rfl rfl rfl (p := ((jq : Nat) : Int)) (q := ((d : Nat) : Int)) (r := false) T1.out q.w') (by rfl) ?_; simp only [pA]
        iterate 6 (go_big_quiet_step (fail))
        refine wpQuiet_nil (laterE hM26 ?_)
        intro xw29 M30 hbxw29 hM30 lM30
        have k31 := k23.below hbxw29 (by omega)
        have k32 := k24.below hbxw29 (by omega)
        have lo33 := lo25.trans (hbxw29.mono (by omega))
        clear k23 k24 lo25 hbxw29
        go_upto_region 10 with fail
        refine wp_region_later1 (M30) ?_
        try simp only [pA]
        iterate 2 (go_big_quiet_step (fail))
        refine later_val (fun q => run_addI (x := (.tmp 51)) (y := (.tmp 52)) rfl rfl rfl (p := ((k : Nat) : Int)) (q := ((d : Nat) : Int)) q.w') (by rfl) ?_; simp only [pA]
        refine later_val (fun q => run_minI (x := (.tmp 53)) (y := (.const (.int .i64 64))) rfl rfl rfl) (by rfl) ?_; simp only [pA]
        rw [El.out]
        go_big_quiet_step (fail)
        refine wpQuiet_nil (laterE hM30 ?_)
        intro xw34 M35 hbxw34 hM35 lM35
        have k36 := k31.below hbxw34 (by omega)
        have k37 := k32.below hbxw34 (by omega)
        have lo38 := lo33.trans (hbxw34.mono (by omega))
        clear k31 k32 lo33 hbxw34
        go_upto_region 11 with fail
        obtain ⟨c39, c40⟩ := z_cells k36
        refine wp_region_later (M35) (by kernel_rfl) (by kernel_rfl) ?_
        try simp only [pA]
        go_big_quiet_step (fail)
        refine later_c1 hM35 3 (.tmp 55) rfl rfl undInt rfl c39 (by rfl) ?_; simp only [pA]
        refine later_val (fun q => run_iu (x := (.tmp 56)) rfl undInt und64 rfl q.w') (by rfl) ?_; simp only [pA]
        refine later_b (x := (.tmp 57)) (y := (.const (.int .u64 64))) rfl (bin_rem _ (BitVec.ofInt 64 (s2 0)) 64#64 (by decide)) rfl rfl (by rfl) ?_; simp only [pA]
        refine later_val (fun q => run_rm (x := (.tmp 58)) rfl und64 undInt (z := (s2 0)) (m := 64) (by omega) rfl q.w') (by rfl) ?_; simp only [pA]
        go_big_quiet_step (fail)
        refine later_c1 hM35 3 (.tmp 60) rfl rfl undInt rfl c40 (by rfl) ?_; simp only [pA]
        refine later_val (fun q => run_iu (x := (.tmp 61)) rfl undInt und64 rfl q.w') (by rfl) ?_; simp only [pA]
        refine later_b (x := (.tmp 62)) (y := (.const (.int .u64 30))) rfl (bin_rem _ (BitVec.ofInt 64 (s2 1)) 30#64 (by decide)) rfl rfl (by rfl) ?_; simp only [pA]
        refine later_val (fun q => run_rm (x := (.tmp 63)) rfl und64 undInt (z := (s2 1)) (m := 30) (by omega) rfl q.w') (by rfl) ?_; simp only [pA]
        iterate 2 (go_big_quiet_step (fail))
        refine wpQuiet_nil (laterE hM35 ?_)
        intro xw41 M42 hbxw41 hM42 lM42
        have k43 := k36.below hbxw41 (by omega)
        have k44 := k37.below hbxw41 (by omega)
        have lo45 := lo38.trans (hbxw41.mono (by omega))
        clear k36 c39 c40 k37 lo38 hbxw41
        rw [Ea.out, Em.out]
        rcases (ready_facts HA.out HM.out HK.out hL20.out Eq.out CR.out) with ⟨DA, DM, DR⟩ | ⟨DA, DM, DR⟩ | ⟨DA, DB, DM, DR⟩ | ⟨DA, DB, DM, DR⟩ | ⟨DA, DB, DR⟩
        · skip
          go_upto_region 12 with fail
          refine wp_region_later1 (M42) ?_
          try simp only [pA]
          iterate 2 (go_big_quiet_step (fail))
          refine later_val (fun q => run_geqI (x := (.tmp 65)) (y := (.tmp 66)) rfl rfl rfl (p := ((a : Nat) : Int)) (q := ((k : Nat) : Int)) (r := false) DA.out q.w') (by rfl) ?_; simp only [pA]
          iterate 9 (go_big_quiet_step (fail))
          refine later_val (fun q => run_eqlI (x := (.tmp 76)) (y := (.const (.int .i64 0))) rfl rfl rfl (p := ((m : Nat) : Int)) (q := 0) (r := false) DM.out q.w') (by rfl) ?_; simp only [pA]
          iterate 2 (go_big_quiet_step (fail))
          refine wpQuiet_nil (laterE hM42 ?_)
          intro xw46 M47 hbxw46 hM47 lM47
          have k48 := k43.below hbxw46 (by omega)
          have k49 := k44.below hbxw46 (by omega)
          have lo50 := lo45.trans (hbxw46.mono (by omega))
          clear k43 k44 lo45 hbxw46
          go_upto_region 13 with fail
          refine wp_region_later1 (M47) ?_
          try simp only [pA]
          go_big_quiet_step ((go_at_call 43; exact later_of hM47 _ (fun K hK hKN => saves_any  _ K hK)))
          go_big_quiet_step (fail)
          refine later_row hM47 76 (.tmp 9) rfl (b_xw10) rfl 76 273 _ k49 undSt szSt (by rfl) ?_; simp only [pA]
          go_big_quiet_step (fail)
          refine later_val (fun q => run_subI (x := (.tmp 82)) (y := (.const (.int .i64 64))) rfl rfl rfl (p := ((a : Nat) : Int)) (q := 64) q.w') (by rfl) ?_; simp only [pA]
          go_big_quiet_step (fail)
          go_big_quiet_step ((go_at_call 48; exact later_of hM47 _ (fun K hK hKN => ret_is DR.out (Ready_any (Z jq) (wrap64 (((a : Nat) : Int) - 64)) ((m : Nat) : Int) (place_lt (a := (wrap64 (((a : Nat) : Int) - 64))) rfl)) _ K hK)))
          iterate 4 (go_big_quiet_step (fail))
          refine wpQuiet_nil (laterE hM47 ?_)
          intro xw51 M52 hbxw51 hM52 lM52
          have k53 := k48.below hbxw51 (by omega)
          have k54 := k49.below hbxw51 (by omega)
          have lo55 := lo50.trans (hbxw51.mono (by omega))
          clear k48 k49 lo50 hbxw51
          go_wp2_with fail
          go_ret
          exact ⟨rfl, lo55⟩
        · skip
          go_upto_region 12 with fail
          refine wp_region_later1 (M42) ?_
          try simp only [pA]
          iterate 2 (go_big_quiet_step (fail))
          refine later_val (fun q => run_geqI (x := (.tmp 65)) (y := (.tmp 66)) rfl rfl rfl (p := ((a : Nat) : Int)) (q := ((k : Nat) : Int)) (r := false) DA.out q.w') (by rfl) ?_; simp only [pA]
          iterate 9 (go_big_quiet_step (fail))
          refine later_val (fun q => run_eqlI (x := (.tmp 76)) (y := (.const (.int .i64 0))) rfl rfl rfl (p := ((m : Nat) : Int)) (q := 0) (r := true) DM.out q.w') (by rfl) ?_; simp only [pA]
          iterate 2 (go_big_quiet_step (fail))
          refine wpQuiet_nil (laterE hM42 ?_)
          intro xw46 M47 hbxw46 hM47 lM47
          have k48 := k43.below hbxw46 (by omega)
          have k49 := k44.below hbxw46 (by omega)
          have lo50 := lo45.trans (hbxw46.mono (by omega))
          clear k43 k44 lo45 hbxw46
          go_upto_region 13 with fail
          refine wp_region_later1 (M47) ?_
          try simp only [pA]
          go_big_quiet_step ((go_at_call 43; exact later_of hM47 _ (fun K hK hKN => saves_any  _ K hK)))
          go_big_quiet_step (fail)
          refine later_row hM47 76 (.tmp 9) rfl (b_xw10) rfl 76 273 _ k49 undSt szSt (by rfl) ?_; simp only [pA]
          go_big_quiet_step (fail)
          refine later_val (fun q => run_subI (x := (.tmp 82)) (y := (.const (.int .i64 64))) rfl rfl rfl (p := ((a : Nat) : Int)) (q := 64) q.w') (by rfl) ?_; simp only [pA]
          go_big_quiet_step (fail)
          go_big_quiet_step ((go_at_call 48; exact later_of hM47 _ (fun K hK hKN => ret_is DR.out (Ready_any (Z jq) (wrap64 (((a : Nat) : Int) - 64)) ((m : Nat) : Int) (place_lt (a := (wrap64 (((a : Nat) : Int) - 64))) rfl)) _ K hK)))
          iterate 4 (go_big_quiet_step (fail))
          refine wpQuiet_nil (laterE hM47 ?_)
          intro xw51 M52 hbxw51 hM52 lM52
          have k53 := k48.below hbxw51 (by omega)
          have k54 := k49.below hbxw51 (by omega)
          have lo55 := lo50.trans (hbxw51.mono (by omega))
          clear k48 k49 lo50 hbxw51
          go_wp2_with fail
          go_ret
          exact ⟨rfl, lo55⟩
        · skip
          go_upto_region 12 with fail
          refine wp_region_later1 (M42) ?_
          try simp only [pA]
          iterate 2 (go_big_quiet_step (fail))
          refine later_val (fun q => run_geqI (x := (.tmp 65)) (y := (.tmp 66)) rfl rfl rfl (p := ((a : Nat) : Int)) (q := ((k : Nat) : Int)) (r := true) DA.out q.w') (by rfl) ?_; simp only [pA]
          iterate 3 (go_big_quiet_step (fail))
          refine later_val (fun q => run_addI (x := (.tmp 69)) (y := (.tmp 70)) rfl rfl rfl (p := ((a : Nat) : Int)) (q := ((m : Nat) : Int)) q.w') (by rfl) ?_; simp only [pA]
          go_big_quiet_step (fail)
          refine later_val (fun q => run_leqI (x := (.tmp 71)) (y := (.tmp 72)) rfl rfl rfl (p := (wrap64 (((a : Nat) : Int) + ((m : Nat) : Int)))) (q := ((ql : Nat) : Int)) (r := false) DB.out q.w') (by rfl) ?_; simp only [pA]
          iterate 3 (go_big_quiet_step (fail))
          refine later_val (fun q => run_eqlI (x := (.tmp 76)) (y := (.const (.int .i64 0))) rfl rfl rfl (p := ((m : Nat) : Int)) (q := 0) (r := false) DM.out q.w') (by rfl) ?_; simp only [pA]
          iterate 2 (go_big_quiet_step (fail))
          refine wpQuiet_nil (laterE hM42 ?_)
          intro xw46 M47 hbxw46 hM47 lM47
          have k48 := k43.below hbxw46 (by omega)
          have k49 := k44.below hbxw46 (by omega)
          have lo50 := lo45.trans (hbxw46.mono (by omega))
          clear k43 k44 lo45 hbxw46
          go_upto_region 13 with fail
          refine wp_region_later1 (M47) ?_
          try simp only [pA]
          go_big_quiet_step ((go_at_call 43; exact later_of hM47 _ (fun K hK hKN => saves_any  _ K hK)))
          go_big_quiet_step (fail)
          refine later_row hM47 76 (.tmp 9) rfl (b_xw10) rfl 76 273 _ k49 undSt szSt (by rfl) ?_; simp only [pA]
          go_big_quiet_step (fail)
          refine later_val (fun q => run_subI (x := (.tmp 82)) (y := (.const (.int .i64 64))) rfl rfl rfl (p := ((a : Nat) : Int)) (q := 64) q.w') (by rfl) ?_; simp only [pA]
          go_big_quiet_step (fail)
          go_big_quiet_step ((go_at_call 48; exact later_of hM47 _ (fun K hK hKN => ret_is DR.out (Ready_any (Z jq) (wrap64 (((a : Nat) : Int) - 64)) ((m : Nat) : Int) (place_lt (a := (wrap64 (((a : Nat) : Int) - 64))) rfl)) _ K hK)))
          iterate 4 (go_big_quiet_step (fail))
          refine wpQuiet_nil (laterE hM47 ?_)
          intro xw51 M52 hbxw51 hM52 lM52
          have k53 := k48.below hbxw51 (by omega)
          have k54 := k49.below hbxw51 (by omega)
          have lo55 := lo50.trans (hbxw51.mono (by omega))
          clear k48 k49 lo50 hbxw51
          go_wp2_with fail
          go_ret
          exact ⟨rfl, lo55⟩
        · skip
          go_upto_region 12 with fail
          refine wp_region_later1 (M42) ?_
          try simp only [pA]
          iterate 2 (go_big_quiet_step (fail))
          refine later_val (fun q => run_geqI (x := (.tmp 65)) (y := (.tmp 66)) rfl rfl rfl (p := ((a : Nat) : Int)) (q := ((k : Nat) : Int)) (r := true) DA.out q.w') (by rfl) ?_; simp only [pA]
          iterate 3 (go_big_quiet_step (fail))
          refine later_val (fun q => run_addI (x := (.tmp 69)) (y := (.tmp 70)) rfl rfl rfl (p := ((a : Nat) : Int)) (q := ((m : Nat) : Int)) q.w') (by rfl) ?_; simp only [pA]
          go_big_quiet_step (fail)
          refine later_val (fun q => run_leqI (x := (.tmp 71)) (y := (.tmp 72)) rfl rfl rfl (p := (wrap64 (((a : Nat) : Int) + ((m : Nat) : Int)))) (q := ((ql : Nat) : Int)) (r := false) DB.out q.w') (by rfl) ?_; simp only [pA]
          iterate 3 (go_big_quiet_step (fail))
          refine later_val (fun q => run_eqlI (x := (.tmp 76)) (y := (.const (.int .i64 0))) rfl rfl rfl (p := ((m : Nat) : Int)) (q := 0) (r := true) DM.out q.w') (by rfl) ?_; simp only [pA]
          iterate 2 (go_big_quiet_step (fail))
          refine wpQuiet_nil (laterE hM42 ?_)
          intro xw46 M47 hbxw46 hM47 lM47
          have k48 := k43.below hbxw46 (by omega)
          have k49 := k44.below hbxw46 (by omega)
          have lo50 := lo45.trans (hbxw46.mono (by omega))
          clear k43 k44 lo45 hbxw46
          go_upto_region 13 with fail
          refine wp_region_later1 (M47) ?_
          try simp only [pA]
          go_big_quiet_step ((go_at_call 43; exact later_of hM47 _ (fun K hK hKN => saves_any  _ K hK)))
          go_big_quiet_step (fail)
          refine later_row hM47 76 (.tmp 9) rfl (b_xw10) rfl 76 273 _ k49 undSt szSt (by rfl) ?_; simp only [pA]
          go_big_quiet_step (fail)
          refine later_val (fun q => run_subI (x := (.tmp 82)) (y := (.const (.int .i64 64))) rfl rfl rfl (p := ((a : Nat) : Int)) (q := 64) q.w') (by rfl) ?_; simp only [pA]
          go_big_quiet_step (fail)
          go_big_quiet_step ((go_at_call 48; exact later_of hM47 _ (fun K hK hKN => ret_is DR.out (Ready_any (Z jq) (wrap64 (((a : Nat) : Int) - 64)) ((m : Nat) : Int) (place_lt (a := (wrap64 (((a : Nat) : Int) - 64))) rfl)) _ K hK)))
          iterate 4 (go_big_quiet_step (fail))
          refine wpQuiet_nil (laterE hM47 ?_)
          intro xw51 M52 hbxw51 hM52 lM52
          have k53 := k48.below hbxw51 (by omega)
          have k54 := k49.below hbxw51 (by omega)
          have lo55 := lo50.trans (hbxw51.mono (by omega))
          clear k48 k49 lo50 hbxw51
          go_wp2_with fail
          go_ret
          exact ⟨rfl, lo55⟩
        · skip
          go_upto_region 12 with fail
          refine wp_region_later1 (M42) ?_
          try simp only [pA]
          iterate 2 (go_big_quiet_step (fail))
          refine later_val (fun q => run_geqI (x := (.tmp 65)) (y := (.tmp 66)) rfl rfl rfl (p := ((a : Nat) : Int)) (q := ((k : Nat) : Int)) (r := true) DA.out q.w') (by rfl) ?_; simp only [pA]
          iterate 3 (go_big_quiet_step (fail))
          refine later_val (fun q => run_addI (x := (.tmp 69)) (y := (.tmp 70)) rfl rfl rfl (p := ((a : Nat) : Int)) (q := ((m : Nat) : Int)) q.w') (by rfl) ?_; simp only [pA]
          go_big_quiet_step (fail)
          refine later_val (fun q => run_leqI (x := (.tmp 71)) (y := (.tmp 72)) rfl rfl rfl (p := (wrap64 (((a : Nat) : Int) + ((m : Nat) : Int)))) (q := ((ql : Nat) : Int)) (r := true) DB.out q.w') (by rfl) ?_; simp only [pA]
          iterate 6 (go_big_quiet_step (fail))
          refine wpQuiet_nil (laterE hM42 ?_)
          intro xw46 M47 hbxw46 hM47 lM47
          have k48 := k43.below hbxw46 (by omega)
          have k49 := k44.below hbxw46 (by omega)
          have lo50 := lo45.trans (hbxw46.mono (by omega))
          clear k43 k44 lo45 hbxw46
          go_upto_region 13 with fail
          refine wp_region_later1 (M47) ?_
          try simp only [pA]
          go_big_quiet_step ((go_at_call 43; exact later_of hM47 _ (fun K hK hKN => saves_any  _ K hK)))
          go_big_quiet_step (fail)
          refine later_row hM47 76 (.tmp 9) rfl (b_xw10) rfl 76 273 _ k49 undSt szSt (by rfl) ?_; simp only [pA]
          go_big_quiet_step (fail)
          refine later_val (fun q => run_subI (x := (.tmp 82)) (y := (.const (.int .i64 64))) rfl rfl rfl (p := ((a : Nat) : Int)) (q := 64) q.w') (by rfl) ?_; simp only [pA]
          go_big_quiet_step (fail)
          go_big_quiet_step ((go_at_call 48; exact later_of hM47 _ (fun K hK hKN => ret_is DR.out (Ready_any (Z jq) (wrap64 (((a : Nat) : Int) - 64)) ((m : Nat) : Int) (place_lt (a := (wrap64 (((a : Nat) : Int) - 64))) rfl)) _ K hK)))
          iterate 4 (go_big_quiet_step (fail))
          refine wpQuiet_nil (laterE hM47 ?_)
          intro xw51 M52 hbxw51 hM52 lM52
          have k53 := k48.below hbxw51 (by omega)
          have k54 := k49.below hbxw51 (by omega)
          have lo55 := lo50.trans (hbxw51.mono (by omega))
          clear k48 k49 lo50 hbxw51
          go_wp2_with fail
          go_ret
          exact ⟨rfl, lo55⟩
      · have t1 : (decide (((jq : Nat) : Int) < ((d : Nat) : Int))) = true := decide_eq_true (by omega)
        have t2 : (decide ((wrap64 (((k : Nat) : Int) + ((jq : Nat) : Int))) < 64)) = false := by rw [wrap_id (by omega) (by omega)]; exact decide_eq_false (by omega)
        have T1 := hid t1
        have T2 := hid t2
        clear t1 t2 hld
        go_upto_region 4 with fail
        refine wp_region_later1 (M26) ?_
        try simp only [pA]
        iterate 2 (go_big_quiet_step (fail))
        refine later_val (fun q => run_lssI (x := (.tmp 27)) (y := (.tmp 28)) rfl rfl rfl (p := ((jq : Nat) : Int)) (q := ((d : Nat) : Int)) (r := true) T1.out q.w') (by rfl) ?_; simp only [pA]
        iterate 3 (go_big_quiet_step (fail))
        refine later_val (fun q => run_addI (x := (.tmp 31)) (y := (.tmp 32)) rfl rfl rfl (p := ((k : Nat) : Int)) (q := ((jq : Nat) : Int)) q.w') (by rfl) ?_; simp only [pA]
        refine later_val (fun q => run_lssI (x := (.tmp 33)) (y := (.const (.int .i64 64))) rfl rfl rfl (p := (wrap64 (((k : Nat) : Int) + ((jq : Nat) : Int)))) (q := 64) (r := false) T2.out q.w') (by rfl) ?_; simp only [pA]
        go_big_quiet_step (fail)
        refine wpQuiet_nil (laterE hM26 ?_)
        intro xw29 M30 hbxw29 hM30 lM30
        have k31 := k23.below hbxw29 (by omega)
        have k32 := k24.below hbxw29 (by omega)
        have lo33 := lo25.trans (hbxw29.mono (by omega))
        clear k23 k24 lo25 hbxw29
        go_upto_region 10 with fail
        refine wp_region_later1 (M30) ?_
        try simp only [pA]
        iterate 2 (go_big_quiet_step (fail))
        refine later_val (fun q => run_addI (x := (.tmp 51)) (y := (.tmp 52)) rfl rfl rfl (p := ((k : Nat) : Int)) (q := ((d : Nat) : Int)) q.w') (by rfl) ?_; simp only [pA]
        refine later_val (fun q => run_minI (x := (.tmp 53)) (y := (.const (.int .i64 64))) rfl rfl rfl) (by rfl) ?_; simp only [pA]
        rw [El.out]
        go_big_quiet_step (fail)
        refine wpQuiet_nil (laterE hM30 ?_)
        intro xw34 M35 hbxw34 hM35 lM35
        have k36 := k31.below hbxw34 (by omega)
        have k37 := k32.below hbxw34 (by omega)
        have lo38 := lo33.trans (hbxw34.mono (by omega))
        clear k31 k32 lo33 hbxw34
        go_upto_region 11 with fail
        obtain ⟨c39, c40⟩ := z_cells k36
        refine wp_region_later (M35) (by kernel_rfl) (by kernel_rfl) ?_
        try simp only [pA]
        go_big_quiet_step (fail)
        refine later_c1 hM35 3 (.tmp 55) rfl rfl undInt rfl c39 (by rfl) ?_; simp only [pA]
        refine later_val (fun q => run_iu (x := (.tmp 56)) rfl undInt und64 rfl q.w') (by rfl) ?_; simp only [pA]
        refine later_b (x := (.tmp 57)) (y := (.const (.int .u64 64))) rfl (bin_rem _ (BitVec.ofInt 64 (s2 0)) 64#64 (by decide)) rfl rfl (by rfl) ?_; simp only [pA]
        refine later_val (fun q => run_rm (x := (.tmp 58)) rfl und64 undInt (z := (s2 0)) (m := 64) (by omega) rfl q.w') (by rfl) ?_; simp only [pA]
        go_big_quiet_step (fail)
        refine later_c1 hM35 3 (.tmp 60) rfl rfl undInt rfl c40 (by rfl) ?_; simp only [pA]
        refine later_val (fun q => run_iu (x := (.tmp 61)) rfl undInt und64 rfl q.w') (by rfl) ?_; simp only [pA]
        refine later_b (x := (.tmp 62)) (y := (.const (.int .u64 30))) rfl (bin_rem _ (BitVec.ofInt 64 (s2 1)) 30#64 (by decide)) rfl rfl (by rfl) ?_; simp only [pA]
        refine later_val (fun q => run_rm (x := (.tmp 63)) rfl und64 undInt (z := (s2 1)) (m := 30) (by omega) rfl q.w') (by rfl) ?_; simp only [pA]
        iterate 2 (go_big_quiet_step (fail))
        refine wpQuiet_nil (laterE hM35 ?_)
        intro xw41 M42 hbxw41 hM42 lM42
        have k43 := k36.below hbxw41 (by omega)
        have k44 := k37.below hbxw41 (by omega)
        have lo45 := lo38.trans (hbxw41.mono (by omega))
        clear k36 c39 c40 k37 lo38 hbxw41
        rw [Ea.out, Em.out]
        rcases (ready_facts HA.out HM.out HK.out hL20.out Eq.out CR.out) with ⟨DA, DM, DR⟩ | ⟨DA, DM, DR⟩ | ⟨DA, DB, DM, DR⟩ | ⟨DA, DB, DM, DR⟩ | ⟨DA, DB, DR⟩
        · skip
          go_upto_region 12 with fail
          refine wp_region_later1 (M42) ?_
          try simp only [pA]
          iterate 2 (go_big_quiet_step (fail))
          refine later_val (fun q => run_geqI (x := (.tmp 65)) (y := (.tmp 66)) rfl rfl rfl (p := ((a : Nat) : Int)) (q := ((k : Nat) : Int)) (r := false) DA.out q.w') (by rfl) ?_; simp only [pA]
          iterate 9 (go_big_quiet_step (fail))
          refine later_val (fun q => run_eqlI (x := (.tmp 76)) (y := (.const (.int .i64 0))) rfl rfl rfl (p := ((m : Nat) : Int)) (q := 0) (r := false) DM.out q.w') (by rfl) ?_; simp only [pA]
          iterate 2 (go_big_quiet_step (fail))
          refine wpQuiet_nil (laterE hM42 ?_)
          intro xw46 M47 hbxw46 hM47 lM47
          have k48 := k43.below hbxw46 (by omega)
          have k49 := k44.below hbxw46 (by omega)
          have lo50 := lo45.trans (hbxw46.mono (by omega))
          clear k43 k44 lo45 hbxw46
          go_upto_region 13 with fail
          refine wp_region_later1 (M47) ?_
          try simp only [pA]
          go_big_quiet_step ((go_at_call 43; exact later_of hM47 _ (fun K hK hKN => saves_any  _ K hK)))
          go_big_quiet_step (fail)
          refine later_row hM47 76 (.tmp 9) rfl (b_xw10) rfl 76 273 _ k49 undSt szSt (by rfl) ?_; simp only [pA]
          go_big_quiet_step (fail)
          refine later_val (fun q => run_subI (x := (.tmp 82)) (y := (.const (.int .i64 64))) rfl rfl rfl (p := ((a : Nat) : Int)) (q := 64) q.w') (by rfl) ?_; simp only [pA]
          go_big_quiet_step (fail)
          go_big_quiet_step ((go_at_call 48; exact later_of hM47 _ (fun K hK hKN => ret_is DR.out (Ready_any (Z jq) (wrap64 (((a : Nat) : Int) - 64)) ((m : Nat) : Int) (place_lt (a := (wrap64 (((a : Nat) : Int) - 64))) rfl)) _ K hK)))
          iterate 4 (go_big_quiet_step (fail))
          refine wpQuiet_nil (laterE hM47 ?_)
          intro xw51 M52 hbxw51 hM52 lM52
          have k53 := k48.below hbxw51 (by omega)
          have k54 := k49.below hbxw51 (by omega)
          have lo55 := lo50.trans (hbxw51.mono (by omega))
          clear k48 k49 lo50 hbxw51
          go_wp2_with fail
          go_ret
          exact ⟨rfl, lo55⟩
        · skip
          go_upto_region 12 with fail
          refine wp_region_later1 (M42) ?_
          try simp only [pA]
          iterate 2 (go_big_quiet_step (fail))
          refine later_val (fun q => run_geqI (x := (.tmp 65)) (y := (.tmp 66)) rfl rfl rfl (p := ((a : Nat) : Int)) (q := ((k : Nat) : Int)) (r := false) DA.out q.w') (by rfl) ?_; simp only [pA]
          iterate 9 (go_big_quiet_step (fail))
          refine later_val (fun q => run_eqlI (x := (.tmp 76)) (y := (.const (.int .i64 0))) rfl rfl rfl (p := ((m : Nat) : Int)) (q := 0) (r := true) DM.out q.w') (by rfl) ?_; simp only [pA]
          iterate 2 (go_big_quiet_step (fail))
          refine wpQuiet_nil (laterE hM42 ?_)
          intro xw46 M47 hbxw46 hM47 lM47
          have k48 := k43.below hbxw46 (by omega)
          have k49 := k44.below hbxw46 (by omega)
          have lo50 := lo45.trans (hbxw46.mono (by omega))
          clear k43 k44 lo45 hbxw46
          go_upto_region 13 with fail
          refine wp_region_later1 (M47) ?_
          try simp only [pA]
          go_big_quiet_step ((go_at_call 43; exact later_of hM47 _ (fun K hK hKN => saves_any  _ K hK)))
          go_big_quiet_step (fail)
          refine later_row hM47 76 (.tmp 9) rfl (b_xw10) rfl 76 273 _ k49 undSt szSt (by rfl) ?_; simp only [pA]
          go_big_quiet_step (fail)
          refine later_val (fun q => run_subI (x := (.tmp 82)) (y := (.const (.int .i64 64))) rfl rfl rfl (p := ((a : Nat) : Int)) (q := 64) q.w') (by rfl) ?_; simp only [pA]
          go_big_quiet_step (fail)
          go_big_quiet_step ((go_at_call 48; exact later_of hM47 _ (fun K hK hKN => ret_is DR.out (Ready_any (Z jq) (wrap64 (((a : Nat) : Int) - 64)) ((m : Nat) : Int) (place_lt (a := (wrap64 (((a : Nat) : Int) - 64))) rfl)) _ K hK)))
          iterate 4 (go_big_quiet_step (fail))
          refine wpQuiet_nil (laterE hM47 ?_)
          intro xw51 M52 hbxw51 hM52 lM52
          have k53 := k48.below hbxw51 (by omega)
          have k54 := k49.below hbxw51 (by omega)
          have lo55 := lo50.trans (hbxw51.mono (by omega))
          clear k48 k49 lo50 hbxw51
          go_wp2_with fail
          go_ret
          exact ⟨rfl, lo55⟩
        · skip
          go_upto_region 12 with fail
          refine wp_region_later1 (M42) ?_
          try simp only [pA]
          iterate 2 (go_big_quiet_step (fail))
          refine later_val (fun q => run_geqI (x := (.tmp 65)) (y := (.tmp 66)) rfl rfl rfl (p := ((a : Nat) : Int)) (q := ((k : Nat) : Int)) (r := true) DA.out q.w') (by rfl) ?_; simp only [pA]
          iterate 3 (go_big_quiet_step (fail))
          refine later_val (fun q => run_addI (x := (.tmp 69)) (y := (.tmp 70)) rfl rfl rfl (p := ((a : Nat) : Int)) (q := ((m : Nat) : Int)) q.w') (by rfl) ?_; simp only [pA]
          go_big_quiet_step (fail)
          refine later_val (fun q => run_leqI (x := (.tmp 71)) (y := (.tmp 72)) rfl rfl rfl (p := (wrap64 (((a : Nat) : Int) + ((m : Nat) : Int)))) (q := ((ql : Nat) : Int)) (r := false) DB.out q.w') (by rfl) ?_; simp only [pA]
          iterate 3 (go_big_quiet_step (fail))
          refine later_val (fun q => run_eqlI (x := (.tmp 76)) (y := (.const (.int .i64 0))) rfl rfl rfl (p := ((m : Nat) : Int)) (q := 0) (r := false) DM.out q.w') (by rfl) ?_; simp only [pA]
          iterate 2 (go_big_quiet_step (fail))
          refine wpQuiet_nil (laterE hM42 ?_)
          intro xw46 M47 hbxw46 hM47 lM47
          have k48 := k43.below hbxw46 (by omega)
          have k49 := k44.below hbxw46 (by omega)
          have lo50 := lo45.trans (hbxw46.mono (by omega))
          clear k43 k44 lo45 hbxw46
          go_upto_region 13 with fail
          refine wp_region_later1 (M47) ?_
          try simp only [pA]
          go_big_quiet_step ((go_at_call 43; exact later_of hM47 _ (fun K hK hKN => saves_any  _ K hK)))
          go_big_quiet_step (fail)
          refine later_row hM47 76 (.tmp 9) rfl (b_xw10) rfl 76 273 _ k49 undSt szSt (by rfl) ?_; simp only [pA]
          go_big_quiet_step (fail)
          refine later_val (fun q => run_subI (x := (.tmp 82)) (y := (.const (.int .i64 64))) rfl rfl rfl (p := ((a : Nat) : Int)) (q := 64) q.w') (by rfl) ?_; simp only [pA]
          go_big_quiet_step (fail)
          go_big_quiet_step ((go_at_call 48; exact later_of hM47 _ (fun K hK hKN => ret_is DR.out (Ready_any (Z jq) (wrap64 (((a : Nat) : Int) - 64)) ((m : Nat) : Int) (place_lt (a := (wrap64 (((a : Nat) : Int) - 64))) rfl)) _ K hK)))
          iterate 4 (go_big_quiet_step (fail))
          refine wpQuiet_nil (laterE hM47 ?_)
          intro xw51 M52 hbxw51 hM52 lM52
          have k53 := k48.below hbxw51 (by omega)
          have k54 := k49.below hbxw51 (by omega)
          have lo55 := lo50.trans (hbxw51.mono (by omega))
          clear k48 k49 lo50 hbxw51
          go_wp2_with fail
          go_ret
          exact ⟨rfl, lo55⟩
        · skip
          go_upto_region 12 with fail
          refine wp_region_later1 (M42) ?_
          try simp only [pA]
          iterate 2 (go_big_quiet_step (fail))
          refine later_val (fun q => run_geqI (x := (.tmp 65)) (y := (.tmp 66)) rfl rfl rfl (p := ((a : Nat) : Int)) (q := ((k : Nat) : Int)) (r := true) DA.out q.w') (by rfl) ?_; simp only [pA]
          iterate 3 (go_big_quiet_step (fail))
          refine later_val (fun q => run_addI (x := (.tmp 69)) (y := (.tmp 70)) rfl rfl rfl (p := ((a : Nat) : Int)) (q := ((m : Nat) : Int)) q.w') (by rfl) ?_; simp only [pA]
          go_big_quiet_step (fail)
          refine later_val (fun q => run_leqI (x := (.tmp 71)) (y := (.tmp 72)) rfl rfl rfl (p := (wrap64 (((a : Nat) : Int) + ((m : Nat) : Int)))) (q := ((ql : Nat) : Int)) (r := false) DB.out q.w') (by rfl) ?_; simp only [pA]
          iterate 3 (go_big_quiet_step (fail))
          refine later_val (fun q => run_eqlI (x := (.tmp 76)) (y := (.const (.int .i64 0))) rfl rfl rfl (p := ((m : Nat) : Int)) (q := 0) (r := true) DM.out q.w') (by rfl) ?_; simp only [pA]
          iterate 2 (go_big_quiet_step (fail))
          refine wpQuiet_nil (laterE hM42 ?_)
          intro xw46 M47 hbxw46 hM47 lM47
          have k48 := k43.below hbxw46 (by omega)
          have k49 := k44.below hbxw46 (by omega)
          have lo50 := lo45.trans (hbxw46.mono (by omega))
          clear k43 k44 lo45 hbxw46
          go_upto_region 13 with fail
          refine wp_region_later1 (M47) ?_
          try simp only [pA]
          go_big_quiet_step ((go_at_call 43; exact later_of hM47 _ (fun K hK hKN => saves_any  _ K hK)))
          go_big_quiet_step (fail)
          refine later_row hM47 76 (.tmp 9) rfl (b_xw10) rfl 76 273 _ k49 undSt szSt (by rfl) ?_; simp only [pA]
          go_big_quiet_step (fail)
          refine later_val (fun q => run_subI (x := (.tmp 82)) (y := (.const (.int .i64 64))) rfl rfl rfl (p := ((a : Nat) : Int)) (q := 64) q.w') (by rfl) ?_; simp only [pA]
          go_big_quiet_step (fail)
          go_big_quiet_step ((go_at_call 48; exact later_of hM47 _ (fun K hK hKN => ret_is DR.out (Ready_any (Z jq) (wrap64 (((a : Nat) : Int) - 64)) ((m : Nat) : Int) (place_lt (a := (wrap64 (((a : Nat) : Int) - 64))) rfl)) _ K hK)))
          iterate 4 (go_big_quiet_step (fail))
          refine wpQuiet_nil (laterE hM47 ?_)
          intro xw51 M52 hbxw51 hM52 lM52
          have k53 := k48.below hbxw51 (by omega)
          have k54 := k49.below hbxw51 (by omega)
          have lo55 := lo50.trans (hbxw51.mono (by omega))
          clear k48 k49 lo50 hbxw51
          go_wp2_with fail
          go_ret
          exact ⟨rfl, lo55⟩
        · skip
          go_upto_region 12 with fail
          refine wp_region_later1 (M42) ?_
          try simp only [pA]
          iterate 2 (go_big_quiet_step (fail))
          refine later_val (fun q => run_geqI (x := (.tmp 65)) (y := (.tmp 66)) rfl rfl rfl (p := ((a : Nat) : Int)) (q := ((k : Nat) : Int)) (r := true) DA.out q.w') (by rfl) ?_; simp only [pA]
          iterate 3 (go_big_quiet_step (fail))
          refine later_val (fun q => run_addI (x := (.tmp 69)) (y := (.tmp 70)) rfl rfl rfl (p := ((a : Nat) : Int)) (q := ((m : Nat) : Int)) q.w') (by rfl) ?_; simp only [pA]
          go_big_quiet_step (fail)
          refine later_val (fun q => run_leqI (x := (.tmp 71)) (y := (.tmp 72)) rfl rfl rfl (p := (wrap64 (((a : Nat) : Int) + ((m : Nat) : Int)))) (q := ((ql : Nat) : Int)) (r := true) DB.out q.w') (by rfl) ?_; simp only [pA]
          iterate 6 (go_big_quiet_step (fail))
          refine wpQuiet_nil (laterE hM42 ?_)
          intro xw46 M47 hbxw46 hM47 lM47
          have k48 := k43.below hbxw46 (by omega)
          have k49 := k44.below hbxw46 (by omega)
          have lo50 := lo45.trans (hbxw46.mono (by omega))
          clear k43 k44 lo45 hbxw46
          go_upto_region 13 with fail
          refine wp_region_later1 (M47) ?_
          try simp only [pA]
          go_big_quiet_step ((go_at_call 43; exact later_of hM47 _ (fun K hK hKN => saves_any  _ K hK)))
          go_big_quiet_step (fail)
          refine later_row hM47 76 (.tmp 9) rfl (b_xw10) rfl 76 273 _ k49 undSt szSt (by rfl) ?_; simp only [pA]
          go_big_quiet_step (fail)
          refine later_val (fun q => run_subI (x := (.tmp 82)) (y := (.const (.int .i64 64))) rfl rfl rfl (p := ((a : Nat) : Int)) (q := 64) q.w') (by rfl) ?_; simp only [pA]
          go_big_quiet_step (fail)
          go_big_quiet_step ((go_at_call 48; exact later_of hM47 _ (fun K hK hKN => ret_is DR.out (Ready_any (Z jq) (wrap64 (((a : Nat) : Int) - 64)) ((m : Nat) : Int) (place_lt (a := (wrap64 (((a : Nat) : Int) - 64))) rfl)) _ K hK)))
          iterate 4 (go_big_quiet_step (fail))
          refine wpQuiet_nil (laterE hM47 ?_)
          intro xw51 M52 hbxw51 hM52 lM52
          have k53 := k48.below hbxw51 (by omega)
          have k54 := k49.below hbxw51 (by omega)
          have lo55 := lo50.trans (hbxw51.mono (by omega))
          clear k48 k49 lo50 hbxw51
          go_wp2_with fail
          go_ret
          exact ⟨rfl, lo55⟩
end Go.Proofs.Ytcdhngceiochoaa
