/- ScalarDoes: the walk. -/
import Derived.Test.YtmdcopmgkhjfnaaSr3
import Derived.Test.YtmdcopmgkhjfnaaSm9
namespace Go.Proofs.Ytmdcopmgkhjfnaa
open Go Go.RowKit
set_option maxRecDepth 100000 in
set_option maxHeartbeats 8000000 in
theorem law_sdoes (Z0 Z1 : Nat → W) (p0 p1 : Option Addr) (n0 c0 n1 c1 : Nat) (z0 z1 : Int) (u0 u1 : W) (op : Int) (l : Bool) (w : World) (N : Nat) (hN : Sz w N) (hc0 : n0 ≤ c0) (hc1 : n1 ≤ c1) (hw0 : Ats w p0 n0 (fun j => Q (Z0 j))) (hw1 : Ats w p1 n1 (fun j => Q (Z1 j))) : Calls Try.prog 4 #[(Value.agg (cellsOf (caC ⟨p0, n0, c0, p1, n1, c1, z0, z1, u0, u1⟩) 6)), (Value.int .i64 op), (Value.bool l)] w fun e w' => e = .returned (.bool true) ∧ Below N w w' := by
 have F0 := hid (show sHas (csA Z0 n0 5#64 u0) (csX Z0 n0 5#64 z0) = true from (cs_in Z0 n0 5#64 u0 z0).has)
 have F1 := hid (show sHas (csA Z1 n1 3#64 u1) (csX Z1 n1 3#64 z1) = true from (cs_in Z1 n1 3#64 u1 z1).has)
 have F2 := hid (show sHas (doR (rm op 13) l (csA Z0 n0 5#64 u0) (csA Z1 n1 3#64 u1)) (evF (rm op 13) l (csX Z0 n0 5#64 z0) (csX Z1 n1 3#64 z1)) = true from (doR_in (cs_in Z0 n0 5#64 u0 z0) (cs_in Z1 n1 3#64 u1 z1) (rm op 13) l (Int.natCast_nonneg _) (by have := rm_lt op 13 (by decide); omega)).has)
 go_enter Try.func4, Try.ntmps4
 go_upto_region 1 with (first
  | (refine wpl_box rfl 30 (.tmp 0) rfl 6 _ rfl (N) hN ?_; intro w1 hN1 hb1 hh1)
  | fail)
 have lo0 : Below N w w1 := hb1
 have k1 := hh1
 clear hh1 hb1
 go_upto_region 1 with fail
 refine wp_region_lit ?_
 try simp only [pA]
 change wpList _ _ _ ((_ :: _ :: _ :: _ :: _ :: _ :: _ :: []) ++ (_ :: _ :: _ :: _ :: _ :: _ :: [])) _ _
 refine wpList_prefix (C := fun w' => ∃ x : Later (N + 1) w1, w' = x.w') _ _ _ _ ⟨⟨_, Below.refl _ _⟩, rfl⟩ ?_
 refine later_row hN1 30 (.tmp 3) rfl (N) rfl 30 6 _ k1 undCs szCs (by rfl) ?_; simp only [pA]
 go_big_quiet_step ((go_at_call 24; exact later_ofB hN1 _ (fun K hK hbB => Ranges_any Z0 Z1 p0 p1 n0 c0 n1 c1 z0 z1 u0 u1 hc0 hc1 _ K hK ((hw0.below hN lo0).below hN1 hbB) ((hw1.below hN lo0).below hN1 hbB))))
 iterate 5 (go_big_quiet_step (fail))
 refine wpQuiet_nil (laterE hN1 ?_)
 intro xw2 M3 hbxw2 hM3 lM3
 have k4 := k1.below hbxw2 (by omega)
 have lo5 := lo0.trans (hbxw2.mono (by omega))
 clear k1 lo0 hbxw2
 obtain ⟨b_xw6, eb_xw6⟩ : ∃ b_xw6, b_xw6 = M3 := ⟨_, rfl⟩
 have hzb_xw6 : Sz xw2 b_xw6 := by rw [eb_xw6]; exact hM3
 have lob_xw6 : M3 ≤ b_xw6 := by omega
 have upb_xw6 : b_xw6 ≤ M3 := by omega
 clear eb_xw6
 refine wpl_alloc rfl 34 rfl 6 (rC zeroR) zeRU b_xw6 hzb_xw6 ?_
 intro xw6 hMxw6 hbxw6 hhxw6; simp only [pA]
 have k7 := k4.below hbxw6 (by omega)
 have lo8 := lo5.trans (hbxw6.mono (by omega))
 clear k4 lo5 hbxw6 hzb_xw6
 obtain ⟨M9, eM9⟩ : ∃ M9, M9 = b_xw6 + 1 := ⟨_, rfl⟩
 rw [← eM9] at hMxw6
 have loM9 : b_xw6 + 1 ≤ M9 := by omega
 have upM9 : M9 ≤ b_xw6 + 1 := by omega
 clear eM9
 obtain ⟨b_xw10, eb_xw10⟩ : ∃ b_xw10, b_xw10 = M9 := ⟨_, rfl⟩
 have hzb_xw10 : Sz xw6 b_xw10 := by rw [eb_xw10]; exact hMxw6
 have lob_xw10 : M9 ≤ b_xw10 := by omega
 have upb_xw10 : b_xw10 ≤ M9 := by omega
 clear eb_xw10
 refine wpl_alloc rfl 34 rfl 6 (rC zeroR) zeRU b_xw10 hzb_xw10 ?_
 intro xw10 hMxw10 hbxw10 hhxw10; simp only [pA]
 have k11 := k7.below hbxw10 (by omega)
 have k12 := hhxw6.below hbxw10 (by omega)
 have lo13 := lo8.trans (hbxw10.mono (by omega))
 clear k7 hhxw6 lo8 hbxw10 hzb_xw10
 obtain ⟨M14, eM14⟩ : ∃ M14, M14 = b_xw10 + 1 := ⟨_, rfl⟩
 rw [← eM14] at hMxw10
 have loM14 : b_xw10 + 1 ≤ M14 := by omega
 have upM14 : M14 ≤ b_xw10 + 1 := by omega
 clear eM14
 refine wpl_store rfl 34 (.tmp 7) (.tmp 15) rfl b_xw6 6 (rC (csA Z0 n0 5#64 u0)) rfl rfl 34 _ k12 szRU (fun j _ => rC_one _ j) ?_
 intro xw15 t16 k17; try simp only [pA]
 have k18 := k11.touch t16 (by omega)
 have k19 := hhxw10.touch t16 (by omega)
 have lo20 := t16.below lo13 (by omega)
 have h21 := t16.sz hMxw10
 clear k12 k11 hhxw10 lo13 hMxw10 t16
 refine wpl_store rfl 34 (.tmp 8) (.tmp 16) rfl b_xw10 6 (rC (csA Z1 n1 3#64 u1)) rfl rfl 34 _ k19 szRU (fun j _ => rC_one _ j) ?_
 intro xw22 t23 k24; try simp only [pA]
 have k25 := k18.touch t23 (by omega)
 have k26 := k17.touch t23 (by omega)
 have lo27 := t23.below lo20 (by omega)
 have h28 := t23.sz h21
 clear k19 k18 k17 lo20 h21 t23
 refine wpl_run rfl (Q (csX Z0 n0 5#64 z0)) _ (run_as (x := (.tmp 17)) rfl _ rfl) ?_; simp only [pA]
 refine wpl_run rfl (Q (csX Z1 n1 3#64 z1)) _ (run_as (x := (.tmp 18)) rfl _ rfl) ?_; simp only [pA]
 obtain ⟨M29, hM29⟩ := sz_some xw22
 have lt_30 := k25.ltN hM29
 have lt_31 := k26.ltN hM29
 have lt_32 := k24.ltN hM29
 go_upto_region 2 with fail
 refine wp_region_later1 (M29) ?_
 try simp only [pA]
 go_big_quiet_step ((go_at_call 21; exact later_of hM29 _ (fun K hK hKN => evals_any _ K hK)))
 iterate 2 (go_big_quiet_step (fail))
 refine later_row hM29 34 (.tmp 7) rfl (b_xw6) rfl 34 6 _ k26 undRU szRU (by rfl) ?_; simp only [pA]
 go_big_quiet_step ((go_at_call 26; exact later_of hM29 _ (fun K hK hKN => To14_any (csA Z0 n0 5#64 u0) _ K hK)))
 go_big_quiet_step (fail)
 go_big_quiet_step ((go_at_call 25; exact later_of hM29 _ (fun K hK hKN => ret_is F0.out (SHas_any (csA Z0 n0 5#64 u0) (csX Z0 n0 5#64 z0)) _ K hK)))
 iterate 3 (go_big_quiet_step (fail))
 refine later_row hM29 34 (.tmp 8) rfl (b_xw10) rfl 34 6 _ k24 undRU szRU (by rfl) ?_; simp only [pA]
 go_big_quiet_step ((go_at_call 26; exact later_of hM29 _ (fun K hK hKN => To14_any (csA Z1 n1 3#64 u1) _ K hK)))
 go_big_quiet_step (fail)
 go_big_quiet_step ((go_at_call 25; exact later_of hM29 _ (fun K hK hKN => ret_is F1.out (SHas_any (csA Z1 n1 3#64 u1) (csX Z1 n1 3#64 z1)) _ K hK)))
 iterate 2 (go_big_quiet_step (fail))
 refine wpQuiet_nil (laterE hM29 ?_)
 intro xw33 M34 hbxw33 hM34 lM34
 have k35 := k25.below hbxw33 (by omega)
 have k36 := k26.below hbxw33 (by omega)
 have k37 := k24.below hbxw33 (by omega)
 have lo38 := lo27.trans (hbxw33.mono (by omega))
 clear k25 k26 k24 lo27 hbxw33
 go_upto_region 4 with fail
 refine wp_region_later1 (M34) ?_
 try simp only [pA]
 go_big_quiet_step (fail)
 refine later_val (fun q => run_iu (x := (.tmp 35)) rfl undInt und64 rfl q.w') (by rfl) ?_; simp only [pA]
 refine later_b (x := (.tmp 36)) (y := (.const (.int .u64 13))) rfl (bin_rem _ (BitVec.ofInt 64 op) 13#64 (by decide)) rfl rfl (by rfl) ?_; simp only [pA]
 refine later_val (fun q => run_rm (x := (.tmp 37)) rfl und64 undInt (z := op) (m := 13) (by omega) rfl q.w') (by rfl) ?_; simp only [pA]
 go_big_quiet_step (fail)
 refine wpQuiet_nil (laterE hM34 ?_)
 intro xw39 M40 hbxw39 hM40 lM40
 have k41 := k35.below hbxw39 (by omega)
 have k42 := k36.below hbxw39 (by omega)
 have k43 := k37.below hbxw39 (by omega)
 have lo44 := lo38.trans (hbxw39.mono (by omega))
 clear k35 k36 k37 lo38 hbxw39
 go_upto_region 5 with fail
 refine wp_region_later (M40) (by kernel_rfl) (by kernel_rfl) ?_
 try simp only [pA]
 iterate 2 (go_big_quiet_step (fail))
 refine later_row hM40 34 (.tmp 7) rfl (b_xw6) rfl 34 6 _ k42 undRU szRU (by rfl) ?_; simp only [pA]
 go_big_quiet_step ((go_at_call 26; exact later_of hM40 _ (fun K hK hKN => To14_any (csA Z0 n0 5#64 u0) _ K hK)))
 refine later_row hM40 34 (.tmp 8) rfl (b_xw10) rfl 34 6 _ k43 undRU szRU (by rfl) ?_; simp only [pA]
 go_big_quiet_step ((go_at_call 26; exact later_of hM40 _ (fun K hK hKN => To14_any (csA Z1 n1 3#64 u1) _ K hK)))
 go_big_quiet_step ((go_at_call 27; exact later_of hM40 _ (fun K hK hKN => Do_any (rm op 13) l (csA Z0 n0 5#64 u0) (csA Z1 n1 3#64 u1) _ K hK)))
 iterate 4 (go_big_quiet_step (fail))
 go_big_quiet_step ((go_at_call 23; exact later_of hM40 _ (fun K hK hKN => REval_any (rm op 13) l (csX Z0 n0 5#64 z0) (csX Z1 n1 3#64 z1) _ K hK)))
 go_big_quiet_step ((go_at_call 25; exact later_of hM40 _ (fun K hK hKN => ret_is F2.out (SHas_any (doR (rm op 13) l (csA Z0 n0 5#64 u0) (csA Z1 n1 3#64 u1)) (evF (rm op 13) l (csX Z0 n0 5#64 z0) (csX Z1 n1 3#64 z1))) _ K hK)))
 go_big_quiet_step (fail)
 refine wpQuiet_nil (laterE hM40 ?_)
 intro xw45 M46 hbxw45 hM46 lM46
 have k47 := k41.below hbxw45 (by omega)
 have k48 := k42.below hbxw45 (by omega)
 have k49 := k43.below hbxw45 (by omega)
 have lo50 := lo44.trans (hbxw45.mono (by omega))
 clear k41 k42 k43 lo44 hbxw45
 go_wp2_with fail
 go_ret
 exact ⟨rfl, lo50⟩
end Go.Proofs.Ytmdcopmgkhjfnaa
