/- Contracts of ranges: a range, settled if it has a number. -/
import Derived.Test.YtbbfdehipgkjmaaDoorSc10
namespace Go.Proofs.YtbbfdehipgkjmaaDoor
open Go Go.RowKit
/-- a range, settled; one without a number stays -/
def tightR (r : Rn) : Rn := bif (settleF r).2 then (settleF r).1 else r
set_option maxRecDepth 100000 in
set_option maxHeartbeats 4000000 in
theorem Tight_true (r : Rn) (hs : Hid ((settleF r).2 = true)) (w : World) (N : Nat) (hN : Sz w N) : Calls Tryd.prog 16 #[rV r] w fun e w' => e = .returned (rV (settleF r).1) ∧ Below N w w' := by
  have CS := fun w N hN => Settle_any r w N hN
  rw [hs.out] at CS
  obtain ⟨dR, u1, u2⟩ := undR
  unfold rV
  go_enter Tryd.func16, Tryd.ntmps16
  go_upto_region 1 with (first
    | (refine wpl_box rfl 27 (.tmp 0) rfl 6 _ rfl (N) hN ?_; intro w1 hN1 hb1 hh1)
    | (refine wpl_alloc rfl 27 rfl 6 (rC zeroR) zeR (N + 1) hN1 ?_; intro w2 hN2 hb2 hh2)
    | fail)
  have lo0 : Below N w w2 := (hb1.trans (hb2.mono (by omega)))
  have k1 := (hh1.below hb2 (by omega))
  have k2 := hh2
  clear hh1 hb1 hh2 hb2 hN1
  go_upto_region 1 with fail
  refine wp_region_lit ?_
  try simp only [pA]
  refine wpl_run rfl (Value.agg (cellsOf (rC r) 6)) _ (run_rw 27 (.tmp 1) rfl N rfl 27 6 _ k1 undR szR) ?_; simp only [pA]
  refine wpl_cl rfl 13 _ _ rfl #[(Value.agg (cellsOf (rC r) 6))] (by simp only [List.map_toArray, List.map_cons, List.map_nil] <;> rfl) (by kernel_rfl) (Value.tuple #[(Value.agg (cellsOf (rC (settleF r).1) 6)), (Value.bool true)]) (CS w2 (N + 1 + 1) hN2) ?_
  intro xw3 hbxw3; simp only [pA]
  obtain ⟨M4, hM4⟩ := sz_some xw3
  have lM4 := below_sz hbxw3 hN2 hM4
  have k5 := k1.below hbxw3 (by omega)
  have k6 := k2.below hbxw3 (by omega)
  have lo7 := lo0.trans (hbxw3.mono (by omega))
  clear k1 k2 lo0 hbxw3
  refine wpl_run rfl (Value.tuple #[(Value.agg (cellsOf (rC (settleF r).1) 6)), (Value.bool true)]) _ (run_mv (x := (.tmp 7)) rfl _ rfl) ?_; simp only [pA]
  refine wpl_run rfl (Value.agg (cellsOf (rC (settleF r).1) 6)) _ (run_ex (x := (.tmp 5)) rfl _ rfl rfl) ?_; simp only [pA]
  refine wpl_run rfl (Value.bool true) _ (run_ex (x := (.tmp 5)) rfl _ rfl rfl) ?_; simp only [pA]
  obtain ⟨b_xw8, eb_xw8⟩ : ∃ b_xw8, b_xw8 = M4 := ⟨_, rfl⟩
  have hzb_xw8 : Sz xw3 b_xw8 := by rw [eb_xw8]; exact hM4
  have lob_xw8 : M4 ≤ b_xw8 := by omega
  have upb_xw8 : b_xw8 ≤ M4 := by omega
  clear eb_xw8
  refine wpl_alloc rfl 27 rfl 6 (rC zeroR) zeR b_xw8 hzb_xw8 ?_
  intro xw8 hMxw8 hbxw8 hhxw8; simp only [pA]
  have k9 := k5.below hbxw8 (by omega)
  have k10 := k6.below hbxw8 (by omega)
  have lo11 := lo7.trans (hbxw8.mono (by omega))
  clear k5 k6 lo7 hbxw8 hzb_xw8
  obtain ⟨M12, eM12⟩ : ∃ M12, M12 = b_xw8 + 1 := ⟨_, rfl⟩
  rw [← eM12] at hMxw8
  have loM12 : b_xw8 + 1 ≤ M12 := by omega
  have upM12 : M12 ≤ b_xw8 + 1 := by omega
  clear eM12
  refine wpl_store rfl 27 (.tmp 3) (.tmp 8) rfl b_xw8 6 (rC (settleF r).1) rfl rfl 27 _ hhxw8 szR (fun j _ => rC_one _ j) ?_
  intro xw13 t14 k15; simp only [pA]
  have k16 := k9.touch t14 (by omega)
  have k17 := k10.touch t14 (by omega)
  have lo18 := t14.below lo11 (by omega)
  have h19 := t14.sz hMxw8
  clear hhxw8 k9 k10 lo11 hMxw8 t14
  change wpList _ _ _ (_ :: []) _ _
  refine wpList_of_quiet (C := fun w' => ∃ x : Later M12 xw13, w' = x.w') _ _ _ ⟨⟨_, Below.refl _ _⟩, rfl⟩ ?_
  go_big_quiet_step (fail)
  refine wpQuiet_nil (laterE h19 ?_)
  intro xw20 M21 hbxw20 hM21 lM21
  have k22 := k16.below hbxw20 (by omega)
  have k23 := k17.below hbxw20 (by omega)
  have k24 := k15.below hbxw20 (by omega)
  have lo25 := lo18.trans (hbxw20.mono (by omega))
  clear k16 k17 k15 lo18 hbxw20
  go_upto_region 2 with fail
  refine wp_region_later1 (M21) ?_
  try simp only [pA]
  go_big_quiet_step (fail)
  refine wpQuiet_nil (laterE hM21 ?_)
  intro xw26 M27 hbxw26 hM27 lM27
  have k28 := k22.below hbxw26 (by omega)
  have k29 := k23.below hbxw26 (by omega)
  have k30 := k24.below hbxw26 (by omega)
  have lo31 := lo25.trans (hbxw26.mono (by omega))
  clear k22 k23 k24 lo25 hbxw26
  go_upto_region 3 with fail
  refine wp_region_lit ?_
  try simp only [pA]
  refine wpl_run rfl (Value.agg (cellsOf (rC (settleF r).1) 6)) _ (run_rw 27 (.tmp 3) rfl b_xw8 rfl 27 6 _ k30 undR szR) ?_; simp only [pA]
  refine wpl_store rfl 27 (.tmp 2) (.tmp 11) rfl (N + 1) 6 (rC (settleF r).1) rfl rfl 27 _ k29 szR (fun j _ => rC_one _ j) ?_
  intro xw32 t33 k34; simp only [pA]
  have k35 := k28.touch t33 (by omega)
  have k36 := k30.touch t33 (by omega)
  have lo37 := t33.below lo31 (by omega)
  have h38 := t33.sz hM27
  clear k29 k28 k30 lo31 hM27 t33
  go_wp2_with fail
  refine post_r rfl (N + 1) rfl k34 ⟨dR, u1, u2⟩ szR rfl ?_
  exact ⟨rfl, lo37⟩
set_option maxRecDepth 100000 in
set_option maxHeartbeats 4000000 in
theorem Tight_false (r : Rn) (hs : Hid ((settleF r).2 = false)) (w : World) (N : Nat) (hN : Sz w N) : Calls Tryd.prog 16 #[rV r] w fun e w' => e = .returned (rV r) ∧ Below N w w' := by
  have CS := fun w N hN => Settle_any r w N hN
  rw [hs.out] at CS
  obtain ⟨dR, u1, u2⟩ := undR
  unfold rV
  go_enter Tryd.func16, Tryd.ntmps16
  go_upto_region 1 with (first
    | (refine wpl_box rfl 27 (.tmp 0) rfl 6 _ rfl (N) hN ?_; intro w1 hN1 hb1 hh1)
    | (refine wpl_alloc rfl 27 rfl 6 (rC zeroR) zeR (N + 1) hN1 ?_; intro w2 hN2 hb2 hh2)
    | fail)
  have lo0 : Below N w w2 := (hb1.trans (hb2.mono (by omega)))
  have k1 := (hh1.below hb2 (by omega))
  have k2 := hh2
  clear hh1 hb1 hh2 hb2 hN1
  go_upto_region 1 with fail
  refine wp_region_lit ?_
  try simp only [pA]
  refine wpl_run rfl (Value.agg (cellsOf (rC r) 6)) _ (run_rw 27 (.tmp 1) rfl N rfl 27 6 _ k1 undR szR) ?_; simp only [pA]
  refine wpl_cl rfl 13 _ _ rfl #[(Value.agg (cellsOf (rC r) 6))] (by simp only [List.map_toArray, List.map_cons, List.map_nil] <;> rfl) (by kernel_rfl) (Value.tuple #[(Value.agg (cellsOf (rC (settleF r).1) 6)), (Value.bool false)]) (CS w2 (N + 1 + 1) hN2) ?_
  intro xw3 hbxw3; simp only [pA]
  obtain ⟨M4, hM4⟩ := sz_some xw3
  have lM4 := below_sz hbxw3 hN2 hM4
  have k5 := k1.below hbxw3 (by omega)
  have k6 := k2.below hbxw3 (by omega)
  have lo7 := lo0.trans (hbxw3.mono (by omega))
  clear k1 k2 lo0 hbxw3
  refine wpl_run rfl (Value.tuple #[(Value.agg (cellsOf (rC (settleF r).1) 6)), (Value.bool false)]) _ (run_mv (x := (.tmp 7)) rfl _ rfl) ?_; simp only [pA]
  refine wpl_run rfl (Value.agg (cellsOf (rC (settleF r).1) 6)) _ (run_ex (x := (.tmp 5)) rfl _ rfl rfl) ?_; simp only [pA]
  refine wpl_run rfl (Value.bool false) _ (run_ex (x := (.tmp 5)) rfl _ rfl rfl) ?_; simp only [pA]
  obtain ⟨b_xw8, eb_xw8⟩ : ∃ b_xw8, b_xw8 = M4 := ⟨_, rfl⟩
  have hzb_xw8 : Sz xw3 b_xw8 := by rw [eb_xw8]; exact hM4
  have lob_xw8 : M4 ≤ b_xw8 := by omega
  have upb_xw8 : b_xw8 ≤ M4 := by omega
  clear eb_xw8
  refine wpl_alloc rfl 27 rfl 6 (rC zeroR) zeR b_xw8 hzb_xw8 ?_
  intro xw8 hMxw8 hbxw8 hhxw8; simp only [pA]
  have k9 := k5.below hbxw8 (by omega)
  have k10 := k6.below hbxw8 (by omega)
  have lo11 := lo7.trans (hbxw8.mono (by omega))
  clear k5 k6 lo7 hbxw8 hzb_xw8
  obtain ⟨M12, eM12⟩ : ∃ M12, M12 = b_xw8 + 1 := ⟨_, rfl⟩
  rw [← eM12] at hMxw8
  have loM12 : b_xw8 + 1 ≤ M12 := by omega
  have upM12 : M12 ≤ b_xw8 + 1 := by omega
  clear eM12
  refine wpl_store rfl 27 (.tmp 3) (.tmp 8) rfl b_xw8 6 (rC (settleF r).1) rfl rfl 27 _ hhxw8 szR (fun j _ => rC_one _ j) ?_
  intro xw13 t14 k15; simp only [pA]
  have k16 := k9.touch t14 (by omega)
  have k17 := k10.touch t14 (by omega)
  have lo18 := t14.below lo11 (by omega)
  have h19 := t14.sz hMxw8
  clear hhxw8 k9 k10 lo11 hMxw8 t14
  change wpList _ _ _ (_ :: []) _ _
  refine wpList_of_quiet (C := fun w' => ∃ x : Later M12 xw13, w' = x.w') _ _ _ ⟨⟨_, Below.refl _ _⟩, rfl⟩ ?_
  go_big_quiet_step (fail)
  refine wpQuiet_nil (laterE h19 ?_)
  intro xw20 M21 hbxw20 hM21 lM21
  have k22 := k16.below hbxw20 (by omega)
  have k23 := k17.below hbxw20 (by omega)
  have k24 := k15.below hbxw20 (by omega)
  have lo25 := lo18.trans (hbxw20.mono (by omega))
  clear k16 k17 k15 lo18 hbxw20
  go_upto_region 2 with fail
  refine wp_region_later1 (M21) ?_
  try simp only [pA]
  go_big_quiet_step (fail)
  refine wpQuiet_nil (laterE hM21 ?_)
  intro xw26 M27 hbxw26 hM27 lM27
  have k28 := k22.below hbxw26 (by omega)
  have k29 := k23.below hbxw26 (by omega)
  have k30 := k24.below hbxw26 (by omega)
  have lo31 := lo25.trans (hbxw26.mono (by omega))
  clear k22 k23 k24 lo25 hbxw26
  go_upto_region 4 with fail
  refine wp_region_lit ?_
  try simp only [pA]
  refine wpl_run rfl (Value.agg (cellsOf (rC r) 6)) _ (run_rw 27 (.tmp 1) rfl N rfl 27 6 _ k28 undR szR) ?_; simp only [pA]
  refine wpl_store rfl 27 (.tmp 2) (.tmp 12) rfl (N + 1) 6 (rC r) rfl rfl 27 _ k29 szR (fun j _ => rC_one _ j) ?_
  intro xw32 t33 k34; simp only [pA]
  have k35 := k28.touch t33 (by omega)
  have k36 := k30.touch t33 (by omega)
  have lo37 := t33.below lo31 (by omega)
  have h38 := t33.sz hM27
  clear k29 k28 k30 lo31 hM27 t33
  go_wp2_with fail
  refine post_r rfl (N + 1) rfl k34 ⟨dR, u1, u2⟩ szR rfl ?_
  exact ⟨rfl, lo37⟩
theorem Tight_any (r : Rn) (w : World) (N : Nat) (hN : Sz w N) : Calls Tryd.prog 16 #[rV r] w fun e w' => e = .returned (rV (tightR r)) ∧ Below N w w' := by
  rcases Bool.eq_false_or_eq_true ((settleF r).2) with h | h
  · have e : tightR r = (settleF r).1 := by simp only [tightR, h, cond_true]
    rw [e]; exact Tight_true r (hid h) w N hN
  · have e : tightR r = r := by simp only [tightR, h, cond_false]
    rw [e]; exact Tight_false r (hid h) w N hN
end Go.Proofs.YtbbfdehipgkjmaaDoor
