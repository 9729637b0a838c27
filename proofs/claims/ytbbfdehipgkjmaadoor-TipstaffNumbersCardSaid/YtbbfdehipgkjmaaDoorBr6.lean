/- Contracts of what a jump tells: two ranges by what is so. -/
import Derived.Test.YtbbfdehipgkjmaaDoorBr5
namespace Go.Proofs.YtbbfdehipgkjmaaDoor
open Go Go.RowKit
def bnd1 (a : Rn) (b : Rn) : Rn × Rn × Bool :=
  ((sameF a b).1, (sameF a b).2.1, (sameF a b).2.2)
set_option maxRecDepth 100000 in
set_option maxHeartbeats 4000000 in
theorem Bnd_1 (a : Rn) (b : Rn) (w : World) (N : Nat) (hN : Sz w N) : Calls Tryd.prog 33 #[(Value.int .i64 1), rV a, rV b] w fun e w' => e = .returned (.tuple #[rV (bnd1 a b).1, rV (bnd1 a b).2.1, .bool (bnd1 a b).2.2]) ∧ Below N w w' := by
  obtain ⟨rr, er⟩ : ∃ rr, rr = (bnd1 a b) := ⟨_, rfl⟩
  rw [← er]
  have ER := hid er
  clear er
  unfold rV
  go_enter Tryd.func33, Tryd.ntmps33
  go_upto_region 1 with (first
    | (refine wpl_box rfl 27 (.tmp 1) rfl 6 _ rfl (N) hN ?_; intro w1 hN1 hb1 hh1)
    | (refine wpl_box rfl 27 (.tmp 2) rfl 6 _ rfl (N + 1) hN1 ?_; intro w2 hN2 hb2 hh2)
    | (refine wpl_alloc rfl 27 rfl 6 (rC zeroR) zeR (N + 1 + 1) hN2 ?_; intro w3 hN3 hb3 hh3)
    | (refine wpl_alloc rfl 27 rfl 6 (rC zeroR) zeR (N + 1 + 1 + 1) hN3 ?_; intro w4 hN4 hb4 hh4)
    | fail)
  have lo0 : Below N w w4 := (((hb1.trans (hb2.mono (by omega))).trans (hb3.mono (by omega))).trans (hb4.mono (by omega)))
  have k1 := (((hh1.below hb2 (by omega)).below hb3 (by omega)).below hb4 (by omega))
  have k2 := ((hh2.below hb3 (by omega)).below hb4 (by omega))
  have k3 := (hh3.below hb4 (by omega))
  have k4 := hh4
  clear hh1 hb1 hh2 hb2 hh3 hb3 hh4 hb4 hN1 hN2 hN3
  go_upto_region 3 with fail
  refine wp_region_lit ?_
  try simp only [pA]
  change wpList _ _ _ ((_ :: _ :: _ :: _ :: _ :: _ :: []) ++ (_ :: _ :: _ :: [])) _ _
  refine wpList_prefix (C := fun w' => ∃ x : Later (N + 1 + 1 + 1 + 1) w4, w' = x.w') _ _ _ _ ⟨⟨_, Below.refl _ _⟩, rfl⟩ ?_
  refine later_row hN4 27 (.tmp 4) rfl (N) rfl 27 6 _ k1 undR szR (by rfl) ?_; simp only [pA]
  refine later_row hN4 27 (.tmp 5) rfl ((N + 1)) rfl 27 6 _ k2 undR szR (by rfl) ?_; simp only [pA]
  go_big_quiet_step ((go_at_call 54; exact later_of hN4 _ (fun K hK hKN => Same_any a b _ K hK)))
  iterate 3 (go_big_quiet_step (fail))
  refine wpQuiet_nil (laterE hN4 ?_)
  intro xw5 M6 hbxw5 hM6 lM6
  have k7 := k1.below hbxw5 (by omega)
  have k8 := k2.below hbxw5 (by omega)
  have k9 := k3.below hbxw5 (by omega)
  have k10 := k4.below hbxw5 (by omega)
  have lo11 := lo0.trans (hbxw5.mono (by omega))
  clear k1 k2 k3 k4 lo0 hbxw5
  refine wpl_store rfl 27 (.tmp 6) (.tmp 27) rfl (N + 1 + 1) 6 (rC (sameF a b).1) rfl rfl 27 _ k9 szR (fun j _ => rC_one _ j) ?_
  intro xw12 t13 k14; try simp only [pA]
  have k15 := k7.touch t13 (by omega)
  have k16 := k8.touch t13 (by omega)
  have k17 := k10.touch t13 (by omega)
  have lo18 := t13.below lo11 (by omega)
  have h19 := t13.sz hM6
  clear k9 k7 k8 k10 lo11 hM6 t13
  refine wpl_store rfl 27 (.tmp 7) (.tmp 28) rfl (N + 1 + 1 + 1) 6 (rC (sameF a b).2.1) rfl rfl 27 _ k17 szR (fun j _ => rC_one _ j) ?_
  intro xw20 t21 k22; try simp only [pA]
  have k23 := k15.touch t21 (by omega)
  have k24 := k16.touch t21 (by omega)
  have k25 := k14.touch t21 (by omega)
  have lo26 := t21.below lo18 (by omega)
  have h27 := t21.sz h19
  clear k17 k15 k16 k14 lo18 h19 t21
  refine wpl_run rfl (Value.bool (sameF a b).2.2) _ (run_as (x := (.tmp 29)) rfl _ rfl) ?_; simp only [pA]
  obtain ⟨M28, hM28⟩ := sz_some xw20
  have lt_29 := k23.ltN hM28
  have lt_30 := k24.ltN hM28
  have lt_31 := k25.ltN hM28
  have lt_32 := k22.ltN hM28
  go_wp2_with fail
  refine post_rrb rfl (N + 1 + 1) (N + 1 + 1 + 1) rfl rfl k25 k22 undR undR szR szR rfl rfl ?_
  exact ⟨by rw [ER.out]; first | rfl | (simp only [bnd1, bB] <;> rfl), lo26⟩
def bnd2 (a : Rn) (b : Rn) : Rn × Rn × Bool :=
  ((overF a b 1#64).1, (overF a b 1#64).2.1, (overF a b 1#64).2.2)
set_option maxRecDepth 100000 in
set_option maxHeartbeats 4000000 in
theorem Bnd_2 (a : Rn) (b : Rn) (w : World) (N : Nat) (hN : Sz w N) : Calls Tryd.prog 33 #[(Value.int .i64 2), rV a, rV b] w fun e w' => e = .returned (.tuple #[rV (bnd2 a b).1, rV (bnd2 a b).2.1, .bool (bnd2 a b).2.2]) ∧ Below N w w' := by
  obtain ⟨rr, er⟩ : ∃ rr, rr = (bnd2 a b) := ⟨_, rfl⟩
  rw [← er]
  have ER := hid er
  clear er
  unfold rV
  go_enter Tryd.func33, Tryd.ntmps33
  go_upto_region 1 with (first
    | (refine wpl_box rfl 27 (.tmp 1) rfl 6 _ rfl (N) hN ?_; intro w1 hN1 hb1 hh1)
    | (refine wpl_box rfl 27 (.tmp 2) rfl 6 _ rfl (N + 1) hN1 ?_; intro w2 hN2 hb2 hh2)
    | (refine wpl_alloc rfl 27 rfl 6 (rC zeroR) zeR (N + 1 + 1) hN2 ?_; intro w3 hN3 hb3 hh3)
    | (refine wpl_alloc rfl 27 rfl 6 (rC zeroR) zeR (N + 1 + 1 + 1) hN3 ?_; intro w4 hN4 hb4 hh4)
    | fail)
  have lo0 : Below N w w4 := (((hb1.trans (hb2.mono (by omega))).trans (hb3.mono (by omega))).trans (hb4.mono (by omega)))
  have k1 := (((hh1.below hb2 (by omega)).below hb3 (by omega)).below hb4 (by omega))
  have k2 := ((hh2.below hb3 (by omega)).below hb4 (by omega))
  have k3 := (hh3.below hb4 (by omega))
  have k4 := hh4
  clear hh1 hb1 hh2 hb2 hh3 hb3 hh4 hb4 hN1 hN2 hN3
  go_upto_region 5 with fail
  refine wp_region_lit ?_
  try simp only [pA]
  change wpList _ _ _ ((_ :: _ :: _ :: _ :: _ :: _ :: []) ++ (_ :: _ :: _ :: [])) _ _
  refine wpList_prefix (C := fun w' => ∃ x : Later (N + 1 + 1 + 1 + 1) w4, w' = x.w') _ _ _ _ ⟨⟨_, Below.refl _ _⟩, rfl⟩ ?_
  refine later_row hN4 27 (.tmp 4) rfl (N) rfl 27 6 _ k1 undR szR (by rfl) ?_; simp only [pA]
  refine later_row hN4 27 (.tmp 5) rfl ((N + 1)) rfl 27 6 _ k2 undR szR (by rfl) ?_; simp only [pA]
  go_big_quiet_step ((go_at_call 55; exact later_of hN4 _ (fun K hK hKN => Over_any a b 1#64 _ K hK)))
  iterate 3 (go_big_quiet_step (fail))
  refine wpQuiet_nil (laterE hN4 ?_)
  intro xw5 M6 hbxw5 hM6 lM6
  have k7 := k1.below hbxw5 (by omega)
  have k8 := k2.below hbxw5 (by omega)
  have k9 := k3.below hbxw5 (by omega)
  have k10 := k4.below hbxw5 (by omega)
  have lo11 := lo0.trans (hbxw5.mono (by omega))
  clear k1 k2 k3 k4 lo0 hbxw5
  refine wpl_store rfl 27 (.tmp 6) (.tmp 35) rfl (N + 1 + 1) 6 (rC (overF a b 1#64).1) rfl rfl 27 _ k9 szR (fun j _ => rC_one _ j) ?_
  intro xw12 t13 k14; try simp only [pA]
  have k15 := k7.touch t13 (by omega)
  have k16 := k8.touch t13 (by omega)
  have k17 := k10.touch t13 (by omega)
  have lo18 := t13.below lo11 (by omega)
  have h19 := t13.sz hM6
  clear k9 k7 k8 k10 lo11 hM6 t13
  refine wpl_store rfl 27 (.tmp 7) (.tmp 36) rfl (N + 1 + 1 + 1) 6 (rC (overF a b 1#64).2.1) rfl rfl 27 _ k17 szR (fun j _ => rC_one _ j) ?_
  intro xw20 t21 k22; try simp only [pA]
  have k23 := k15.touch t21 (by omega)
  have k24 := k16.touch t21 (by omega)
  have k25 := k14.touch t21 (by omega)
  have lo26 := t21.below lo18 (by omega)
  have h27 := t21.sz h19
  clear k17 k15 k16 k14 lo18 h19 t21
  refine wpl_run rfl (Value.bool (overF a b 1#64).2.2) _ (run_as (x := (.tmp 37)) rfl _ rfl) ?_; simp only [pA]
  obtain ⟨M28, hM28⟩ := sz_some xw20
  have lt_29 := k23.ltN hM28
  have lt_30 := k24.ltN hM28
  have lt_31 := k25.ltN hM28
  have lt_32 := k22.ltN hM28
  go_wp2_with fail
  refine post_rrb rfl (N + 1 + 1) (N + 1 + 1 + 1) rfl rfl k25 k22 undR undR szR szR rfl rfl ?_
  exact ⟨by rw [ER.out]; first | rfl | (simp only [bnd2, bB] <;> rfl), lo26⟩
def bnd3 (a : Rn) (b : Rn) : Rn × Rn × Bool :=
  ((overF a b 0#64).1, (overF a b 0#64).2.1, (overF a b 0#64).2.2)
set_option maxRecDepth 100000 in
set_option maxHeartbeats 4000000 in
theorem Bnd_3 (a : Rn) (b : Rn) (w : World) (N : Nat) (hN : Sz w N) : Calls Tryd.prog 33 #[(Value.int .i64 3), rV a, rV b] w fun e w' => e = .returned (.tuple #[rV (bnd3 a b).1, rV (bnd3 a b).2.1, .bool (bnd3 a b).2.2]) ∧ Below N w w' := by
  obtain ⟨rr, er⟩ : ∃ rr, rr = (bnd3 a b) := ⟨_, rfl⟩
  rw [← er]
  have ER := hid er
  clear er
  unfold rV
  go_enter Tryd.func33, Tryd.ntmps33
  go_upto_region 1 with (first
    | (refine wpl_box rfl 27 (.tmp 1) rfl 6 _ rfl (N) hN ?_; intro w1 hN1 hb1 hh1)
    | (refine wpl_box rfl 27 (.tmp 2) rfl 6 _ rfl (N + 1) hN1 ?_; intro w2 hN2 hb2 hh2)
    | (refine wpl_alloc rfl 27 rfl 6 (rC zeroR) zeR (N + 1 + 1) hN2 ?_; intro w3 hN3 hb3 hh3)
    | (refine wpl_alloc rfl 27 rfl 6 (rC zeroR) zeR (N + 1 + 1 + 1) hN3 ?_; intro w4 hN4 hb4 hh4)
    | fail)
  have lo0 : Below N w w4 := (((hb1.trans (hb2.mono (by omega))).trans (hb3.mono (by omega))).trans (hb4.mono (by omega)))
  have k1 := (((hh1.below hb2 (by omega)).below hb3 (by omega)).below hb4 (by omega))
  have k2 := ((hh2.below hb3 (by omega)).below hb4 (by omega))
  have k3 := (hh3.below hb4 (by omega))
  have k4 := hh4
  clear hh1 hb1 hh2 hb2 hh3 hb3 hh4 hb4 hN1 hN2 hN3
  go_upto_region 7 with fail
  refine wp_region_lit ?_
  try simp only [pA]
  change wpList _ _ _ ((_ :: _ :: _ :: _ :: _ :: _ :: []) ++ (_ :: _ :: _ :: [])) _ _
  refine wpList_prefix (C := fun w' => ∃ x : Later (N + 1 + 1 + 1 + 1) w4, w' = x.w') _ _ _ _ ⟨⟨_, Below.refl _ _⟩, rfl⟩ ?_
  refine later_row hN4 27 (.tmp 4) rfl (N) rfl 27 6 _ k1 undR szR (by rfl) ?_; simp only [pA]
  refine later_row hN4 27 (.tmp 5) rfl ((N + 1)) rfl 27 6 _ k2 undR szR (by rfl) ?_; simp only [pA]
  go_big_quiet_step ((go_at_call 55; exact later_of hN4 _ (fun K hK hKN => Over_any a b 0#64 _ K hK)))
  iterate 3 (go_big_quiet_step (fail))
  refine wpQuiet_nil (laterE hN4 ?_)
  intro xw5 M6 hbxw5 hM6 lM6
  have k7 := k1.below hbxw5 (by omega)
  have k8 := k2.below hbxw5 (by omega)
  have k9 := k3.below hbxw5 (by omega)
  have k10 := k4.below hbxw5 (by omega)
  have lo11 := lo0.trans (hbxw5.mono (by omega))
  clear k1 k2 k3 k4 lo0 hbxw5
  refine wpl_store rfl 27 (.tmp 6) (.tmp 43) rfl (N + 1 + 1) 6 (rC (overF a b 0#64).1) rfl rfl 27 _ k9 szR (fun j _ => rC_one _ j) ?_
  intro xw12 t13 k14; try simp only [pA]
  have k15 := k7.touch t13 (by omega)
  have k16 := k8.touch t13 (by omega)
  have k17 := k10.touch t13 (by omega)
  have lo18 := t13.below lo11 (by omega)
  have h19 := t13.sz hM6
  clear k9 k7 k8 k10 lo11 hM6 t13
  refine wpl_store rfl 27 (.tmp 7) (.tmp 44) rfl (N + 1 + 1 + 1) 6 (rC (overF a b 0#64).2.1) rfl rfl 27 _ k17 szR (fun j _ => rC_one _ j) ?_
  intro xw20 t21 k22; try simp only [pA]
  have k23 := k15.touch t21 (by omega)
  have k24 := k16.touch t21 (by omega)
  have k25 := k14.touch t21 (by omega)
  have lo26 := t21.below lo18 (by omega)
  have h27 := t21.sz h19
  clear k17 k15 k16 k14 lo18 h19 t21
  refine wpl_run rfl (Value.bool (overF a b 0#64).2.2) _ (run_as (x := (.tmp 45)) rfl _ rfl) ?_; simp only [pA]
  obtain ⟨M28, hM28⟩ := sz_some xw20
  have lt_29 := k23.ltN hM28
  have lt_30 := k24.ltN hM28
  have lt_31 := k25.ltN hM28
  have lt_32 := k22.ltN hM28
  go_wp2_with fail
  refine post_rrb rfl (N + 1 + 1) (N + 1 + 1 + 1) rfl rfl k25 k22 undR undR szR szR rfl rfl ?_
  exact ⟨by rw [ER.out]; first | rfl | (simp only [bnd3, bB] <;> rfl), lo26⟩
def bnd10 (a : Rn) (b : Rn) : Rn × Rn × Bool :=
  ((overF b a 1#64).2.1, (overF b a 1#64).1, (overF b a 1#64).2.2)
set_option maxRecDepth 100000 in
set_option maxHeartbeats 4000000 in
theorem Bnd_10 (a : Rn) (b : Rn) (w : World) (N : Nat) (hN : Sz w N) : Calls Tryd.prog 33 #[(Value.int .i64 10), rV a, rV b] w fun e w' => e = .returned (.tuple #[rV (bnd10 a b).1, rV (bnd10 a b).2.1, .bool (bnd10 a b).2.2]) ∧ Below N w w' := by
  obtain ⟨rr, er⟩ : ∃ rr, rr = (bnd10 a b) := ⟨_, rfl⟩
  rw [← er]
  have ER := hid er
  clear er
  unfold rV
  go_enter Tryd.func33, Tryd.ntmps33
  go_upto_region 1 with (first
    | (refine wpl_box rfl 27 (.tmp 1) rfl 6 _ rfl (N) hN ?_; intro w1 hN1 hb1 hh1)
    | (refine wpl_box rfl 27 (.tmp 2) rfl 6 _ rfl (N + 1) hN1 ?_; intro w2 hN2 hb2 hh2)
    | (refine wpl_alloc rfl 27 rfl 6 (rC zeroR) zeR (N + 1 + 1) hN2 ?_; intro w3 hN3 hb3 hh3)
    | (refine wpl_alloc rfl 27 rfl 6 (rC zeroR) zeR (N + 1 + 1 + 1) hN3 ?_; intro w4 hN4 hb4 hh4)
    | fail)
  have lo0 : Below N w w4 := (((hb1.trans (hb2.mono (by omega))).trans (hb3.mono (by omega))).trans (hb4.mono (by omega)))
  have k1 := (((hh1.below hb2 (by omega)).below hb3 (by omega)).below hb4 (by omega))
  have k2 := ((hh2.below hb3 (by omega)).below hb4 (by omega))
  have k3 := (hh3.below hb4 (by omega))
  have k4 := hh4
  clear hh1 hb1 hh2 hb2 hh3 hb3 hh4 hb4 hN1 hN2 hN3
  go_upto_region 9 with fail
  refine wp_region_lit ?_
  try simp only [pA]
  change wpList _ _ _ ((_ :: _ :: _ :: _ :: _ :: _ :: _ :: []) ++ (_ :: _ :: _ :: _ :: _ :: [])) _ _
  refine wpList_prefix (C := fun w' => ∃ x : Later (N + 1 + 1 + 1 + 1) w4, w' = x.w') _ _ _ _ ⟨⟨_, Below.refl _ _⟩, rfl⟩ ?_
  refine later_row hN4 27 (.tmp 5) rfl ((N + 1)) rfl 27 6 _ k2 undR szR (by rfl) ?_; simp only [pA]
  refine later_row hN4 27 (.tmp 4) rfl (N) rfl 27 6 _ k1 undR szR (by rfl) ?_; simp only [pA]
  go_big_quiet_step ((go_at_call 55; exact later_of hN4 _ (fun K hK hKN => Over_any b a 1#64 _ K hK)))
  iterate 4 (go_big_quiet_step (fail))
  refine wpQuiet_nil (laterE hN4 ?_)
  intro xw5 M6 hbxw5 hM6 lM6
  have k7 := k1.below hbxw5 (by omega)
  have k8 := k2.below hbxw5 (by omega)
  have k9 := k3.below hbxw5 (by omega)
  have k10 := k4.below hbxw5 (by omega)
  have lo11 := lo0.trans (hbxw5.mono (by omega))
  clear k1 k2 k3 k4 lo0 hbxw5
  obtain ⟨b_xw12, eb_xw12⟩ : ∃ b_xw12, b_xw12 = M6 := ⟨_, rfl⟩
  have hzb_xw12 : Sz xw5 b_xw12 := by rw [eb_xw12]; exact hM6
  have lob_xw12 : M6 ≤ b_xw12 := by omega
  have upb_xw12 : b_xw12 ≤ M6 := by omega
  clear eb_xw12
  refine wpl_alloc rfl 27 rfl 6 (rC zeroR) zeR b_xw12 hzb_xw12 ?_
  intro xw12 hMxw12 hbxw12 hhxw12; simp only [pA]
  have k13 := k7.below hbxw12 (by omega)
  have k14 := k8.below hbxw12 (by omega)
  have k15 := k9.below hbxw12 (by omega)
  have k16 := k10.below hbxw12 (by omega)
  have lo17 := lo11.trans (hbxw12.mono (by omega))
  clear k7 k8 k9 k10 lo11 hbxw12 hzb_xw12
  obtain ⟨M18, eM18⟩ : ∃ M18, M18 = b_xw12 + 1 := ⟨_, rfl⟩
  rw [← eM18] at hMxw12
  have loM18 : b_xw12 + 1 ≤ M18 := by omega
  have upM18 : M18 ≤ b_xw12 + 1 := by omega
  clear eM18
  obtain ⟨b_xw19, eb_xw19⟩ : ∃ b_xw19, b_xw19 = M18 := ⟨_, rfl⟩
  have hzb_xw19 : Sz xw12 b_xw19 := by rw [eb_xw19]; exact hMxw12
  have lob_xw19 : M18 ≤ b_xw19 := by omega
  have upb_xw19 : b_xw19 ≤ M18 := by omega
  clear eb_xw19
  refine wpl_alloc rfl 27 rfl 6 (rC zeroR) zeR b_xw19 hzb_xw19 ?_
  intro xw19 hMxw19 hbxw19 hhxw19; simp only [pA]
  have k20 := k13.below hbxw19 (by omega)
  have k21 := k14.below hbxw19 (by omega)
  have k22 := k15.below hbxw19 (by omega)
  have k23 := k16.below hbxw19 (by omega)
  have k24 := hhxw12.below hbxw19 (by omega)
  have lo25 := lo17.trans (hbxw19.mono (by omega))
  clear k13 k14 k15 k16 hhxw12 lo17 hbxw19 hzb_xw19
  obtain ⟨M26, eM26⟩ : ∃ M26, M26 = b_xw19 + 1 := ⟨_, rfl⟩
  rw [← eM26] at hMxw19
  have loM26 : b_xw19 + 1 ≤ M26 := by omega
  have upM26 : M26 ≤ b_xw19 + 1 := by omega
  clear eM26
  refine wpl_store rfl 27 (.tmp 9) (.tmp 52) rfl b_xw12 6 (rC (overF b a 1#64).1) rfl rfl 27 _ k24 szR (fun j _ => rC_one _ j) ?_
  intro xw27 t28 k29; try simp only [pA]
  have k30 := k20.touch t28 (by omega)
  have k31 := k21.touch t28 (by omega)
  have k32 := k22.touch t28 (by omega)
  have k33 := k23.touch t28 (by omega)
  have k34 := hhxw19.touch t28 (by omega)
  have lo35 := t28.below lo25 (by omega)
  have h36 := t28.sz hMxw19
  clear k24 k20 k21 k22 k23 hhxw19 lo25 hMxw19 t28
  refine wpl_store rfl 27 (.tmp 10) (.tmp 53) rfl b_xw19 6 (rC (overF b a 1#64).2.1) rfl rfl 27 _ k34 szR (fun j _ => rC_one _ j) ?_
  intro xw37 t38 k39; try simp only [pA]
  have k40 := k30.touch t38 (by omega)
  have k41 := k31.touch t38 (by omega)
  have k42 := k32.touch t38 (by omega)
  have k43 := k33.touch t38 (by omega)
  have k44 := k29.touch t38 (by omega)
  have lo45 := t38.below lo35 (by omega)
  have h46 := t38.sz h36
  clear k34 k30 k31 k32 k33 k29 lo35 h36 t38
  refine wpl_run rfl (Value.bool (overF b a 1#64).2.2) _ (run_as (x := (.tmp 54)) rfl _ rfl) ?_; simp only [pA]
  obtain ⟨M47, hM47⟩ := sz_some xw37
  have lt_48 := k40.ltN hM47
  have lt_49 := k41.ltN hM47
  have lt_50 := k42.ltN hM47
  have lt_51 := k43.ltN hM47
  have lt_52 := k44.ltN hM47
  have lt_53 := k39.ltN hM47
  go_upto_region 10 with fail
  refine wp_region_held (S := fun w' => (Has w' b_xw12 27 6 (rC (overF b a 1#64).1)) ∧ (Has w' b_xw19 27 6 (rC (overF b a 1#64).2.1))) (by kernel_rfl) ?_
  replace k40 : Has xw37.drew N 27 6 (rC a) := k40
  replace k41 : Has xw37.drew (N + 1) 27 6 (rC b) := k41
  replace k42 : Has xw37.drew (N + 1 + 1) 27 6 (rC zeroR) := k42
  replace k43 : Has xw37.drew (N + 1 + 1 + 1) 27 6 (rC zeroR) := k43
  replace k44 : Has xw37.drew b_xw12 27 6 (rC (overF b a 1#64).1) := k44
  replace k39 : Has xw37.drew b_xw19 27 6 (rC (overF b a 1#64).2.1) := k39
  replace hM47 : Sz xw37.drew M47 := hM47
  replace lo45 : Below N w xw37.drew := lo45.drew
  change wpAnyH _ _ _ _ _ _ _ _ (World.drew _)
  generalize xw37.drew = xw54 at *
  refine held_take (i := 0) (v := (Value.agg (cellsOf (rC (overF b a 1#64).2.1) 6))) (d := some 55) rfl (by kernel_rfl) (by kernel_rfl) (by kernel_rfl) (by kernel_rfl) (fun _ _ _ h => h) (Or.inl ⟨by rfl, fun wq ⟨hq0, hq1⟩ => run_rw 27 (.tmp 10) rfl b_xw19 rfl 27 6 _ hq1 undR szR⟩) ⟨k44, k39⟩ ?_; simp only [pA]
  refine held_take (i := 1) (v := (Value.agg (cellsOf (rC (overF b a 1#64).1) 6))) (d := some 56) rfl (by kernel_rfl) (by kernel_rfl) (by kernel_rfl) (by kernel_rfl) (fun _ _ _ h => h) (Or.inl ⟨by rfl, fun wq ⟨hq0, hq1⟩ => run_rw 27 (.tmp 9) rfl b_xw12 rfl 27 6 _ hq0 undR szR⟩) ⟨k44, k39⟩ ?_; simp only [pA]
  refine held_take (i := 2) (v := (Value.bool (overF b a 1#64).2.2)) (d := some 57) rfl (by kernel_rfl) (by kernel_rfl) (by kernel_rfl) (by kernel_rfl) (fun _ _ _ h => h) (Or.inl ⟨by rfl, fun wq ⟨hq0, hq1⟩ => run_mv (x := (.tmp 11)) rfl wq rfl⟩) ⟨k44, k39⟩ ?_; simp only [pA]
  refine wpAnyH_all (rs := [3]) (by kernel_rfl) (by simp) ?_
  intro iq hiq; simp only [List.mem_singleton] at hiq; subst hiq
  refine opg_list rfl ?_
  refine wpl_storeN (by rfl) (by kernel_rfl) 27 (.tmp 6) (.tmp 55) rfl (N + 1 + 1) 6 (rC (overF b a 1#64).2.1) rfl rfl 27 _ k42 szR (fun j _ => rC_one _ j) ?_
  intro xw55 t56 k57; try simp only [pA]
  have k58 := k40.touch t56 (by omega)
  have k59 := k41.touch t56 (by omega)
  have k60 := k43.touch t56 (by omega)
  have k61 := k44.touch t56 (by omega)
  have k62 := k39.touch t56 (by omega)
  have lo63 := t56.below lo45 (by omega)
  have h64 := t56.sz hM47
  clear k42 k40 k41 k43 k44 k39 lo45 hM47 t56
  refine ⟨⟨k61, k62⟩, ?_⟩
  refine wpAnyH_all (rs := [4]) (by kernel_rfl) (by simp) ?_
  intro iq hiq; simp only [List.mem_singleton] at hiq; subst hiq
  refine opg_list rfl ?_
  refine wpl_storeN (by rfl) (by kernel_rfl) 27 (.tmp 7) (.tmp 56) rfl (N + 1 + 1 + 1) 6 (rC (overF b a 1#64).1) rfl rfl 27 _ k60 szR (fun j _ => rC_one _ j) ?_
  intro xw65 t66 k67; try simp only [pA]
  have k68 := k58.touch t66 (by omega)
  have k69 := k59.touch t66 (by omega)
  have k70 := k57.touch t66 (by omega)
  have k71 := k61.touch t66 (by omega)
  have k72 := k62.touch t66 (by omega)
  have lo73 := t66.below lo63 (by omega)
  have h74 := t66.sz h64
  clear k60 k58 k59 k57 k61 k62 lo63 h64 t66
  refine ⟨⟨k71, k72⟩, ?_⟩
  refine held_take (i := 5) (v := (Value.bool (overF b a 1#64).2.2)) (d := some 8) rfl (by kernel_rfl) (by kernel_rfl) (by kernel_rfl) (by kernel_rfl) (fun _ _ _ h => h) (Or.inl ⟨by rfl, fun wq ⟨hq0, hq1⟩ => run_as (x := (.tmp 57)) rfl wq rfl⟩) ⟨k71, k72⟩ ?_; simp only [pA]
  refine wpAnyH_done (by kernel_rfl) ?_ _
  obtain ⟨M75, hM75⟩ := sz_some xw65
  have lt_76 := k68.ltN hM75
  have lt_77 := k69.ltN hM75
  have lt_78 := k70.ltN hM75
  have lt_79 := k67.ltN hM75
  have lt_80 := k71.ltN hM75
  have lt_81 := k72.ltN hM75
  go_wp2_with fail
  refine post_rrb rfl (N + 1 + 1) (N + 1 + 1 + 1) rfl rfl k70 k67 undR undR szR szR rfl rfl ?_
  exact ⟨by rw [ER.out]; first | rfl | (simp only [bnd10, bB] <;> rfl), lo73⟩
def bnd11 (a : Rn) (b : Rn) : Rn × Rn × Bool :=
  ((overF b a 0#64).2.1, (overF b a 0#64).1, (overF b a 0#64).2.2)
set_option maxRecDepth 100000 in
set_option maxHeartbeats 4000000 in
theorem Bnd_11 (a : Rn) (b : Rn) (w : World) (N : Nat) (hN : Sz w N) : Calls Tryd.prog 33 #[(Value.int .i64 11), rV a, rV b] w fun e w' => e = .returned (.tuple #[rV (bnd11 a b).1, rV (bnd11 a b).2.1, .bool (bnd11 a b).2.2]) ∧ Below N w w' := by
  obtain ⟨rr, er⟩ : ∃ rr, rr = (bnd11 a b) := ⟨_, rfl⟩
  rw [← er]
  have ER := hid er
  clear er
  unfold rV
  go_enter Tryd.func33, Tryd.ntmps33
  go_upto_region 1 with (first
    | (refine wpl_box rfl 27 (.tmp 1) rfl 6 _ rfl (N) hN ?_; intro w1 hN1 hb1 hh1)
    | (refine wpl_box rfl 27 (.tmp 2) rfl 6 _ rfl (N + 1) hN1 ?_; intro w2 hN2 hb2 hh2)
    | (refine wpl_alloc rfl 27 rfl 6 (rC zeroR) zeR (N + 1 + 1) hN2 ?_; intro w3 hN3 hb3 hh3)
    | (refine wpl_alloc rfl 27 rfl 6 (rC zeroR) zeR (N + 1 + 1 + 1) hN3 ?_; intro w4 hN4 hb4 hh4)
    | fail)
  have lo0 : Below N w w4 := (((hb1.trans (hb2.mono (by omega))).trans (hb3.mono (by omega))).trans (hb4.mono (by omega)))
  have k1 := (((hh1.below hb2 (by omega)).below hb3 (by omega)).below hb4 (by omega))
  have k2 := ((hh2.below hb3 (by omega)).below hb4 (by omega))
  have k3 := (hh3.below hb4 (by omega))
  have k4 := hh4
  clear hh1 hb1 hh2 hb2 hh3 hb3 hh4 hb4 hN1 hN2 hN3
  go_upto_region 12 with fail
  refine wp_region_lit ?_
  try simp only [pA]
  change wpList _ _ _ ((_ :: _ :: _ :: _ :: _ :: _ :: _ :: []) ++ (_ :: _ :: _ :: _ :: _ :: [])) _ _
  refine wpList_prefix (C := fun w' => ∃ x : Later (N + 1 + 1 + 1 + 1) w4, w' = x.w') _ _ _ _ ⟨⟨_, Below.refl _ _⟩, rfl⟩ ?_
  refine later_row hN4 27 (.tmp 5) rfl ((N + 1)) rfl 27 6 _ k2 undR szR (by rfl) ?_; simp only [pA]
  refine later_row hN4 27 (.tmp 4) rfl (N) rfl 27 6 _ k1 undR szR (by rfl) ?_; simp only [pA]
  go_big_quiet_step ((go_at_call 55; exact later_of hN4 _ (fun K hK hKN => Over_any b a 0#64 _ K hK)))
  iterate 4 (go_big_quiet_step (fail))
  refine wpQuiet_nil (laterE hN4 ?_)
  intro xw5 M6 hbxw5 hM6 lM6
  have k7 := k1.below hbxw5 (by omega)
  have k8 := k2.below hbxw5 (by omega)
  have k9 := k3.below hbxw5 (by omega)
  have k10 := k4.below hbxw5 (by omega)
  have lo11 := lo0.trans (hbxw5.mono (by omega))
  clear k1 k2 k3 k4 lo0 hbxw5
  obtain ⟨b_xw12, eb_xw12⟩ : ∃ b_xw12, b_xw12 = M6 := ⟨_, rfl⟩
  have hzb_xw12 : Sz xw5 b_xw12 := by rw [eb_xw12]; exact hM6
  have lob_xw12 : M6 ≤ b_xw12 := by omega
  have upb_xw12 : b_xw12 ≤ M6 := by omega
  clear eb_xw12
  refine wpl_alloc rfl 27 rfl 6 (rC zeroR) zeR b_xw12 hzb_xw12 ?_
  intro xw12 hMxw12 hbxw12 hhxw12; simp only [pA]
  have k13 := k7.below hbxw12 (by omega)
  have k14 := k8.below hbxw12 (by omega)
  have k15 := k9.below hbxw12 (by omega)
  have k16 := k10.below hbxw12 (by omega)
  have lo17 := lo11.trans (hbxw12.mono (by omega))
  clear k7 k8 k9 k10 lo11 hbxw12 hzb_xw12
  obtain ⟨M18, eM18⟩ : ∃ M18, M18 = b_xw12 + 1 := ⟨_, rfl⟩
  rw [← eM18] at hMxw12
  have loM18 : b_xw12 + 1 ≤ M18 := by omega
  have upM18 : M18 ≤ b_xw12 + 1 := by omega
  clear eM18
  obtain ⟨b_xw19, eb_xw19⟩ : ∃ b_xw19, b_xw19 = M18 := ⟨_, rfl⟩
  have hzb_xw19 : Sz xw12 b_xw19 := by rw [eb_xw19]; exact hMxw12
  have lob_xw19 : M18 ≤ b_xw19 := by omega
  have upb_xw19 : b_xw19 ≤ M18 := by omega
  clear eb_xw19
  refine wpl_alloc rfl 27 rfl 6 (rC zeroR) zeR b_xw19 hzb_xw19 ?_
  intro xw19 hMxw19 hbxw19 hhxw19; simp only [pA]
  have k20 := k13.below hbxw19 (by omega)
  have k21 := k14.below hbxw19 (by omega)
  have k22 := k15.below hbxw19 (by omega)
  have k23 := k16.below hbxw19 (by omega)
  have k24 := hhxw12.below hbxw19 (by omega)
  have lo25 := lo17.trans (hbxw19.mono (by omega))
  clear k13 k14 k15 k16 hhxw12 lo17 hbxw19 hzb_xw19
  obtain ⟨M26, eM26⟩ : ∃ M26, M26 = b_xw19 + 1 := ⟨_, rfl⟩
  rw [← eM26] at hMxw19
  have loM26 : b_xw19 + 1 ≤ M26 := by omega
  have upM26 : M26 ≤ b_xw19 + 1 := by omega
  clear eM26
  refine wpl_store rfl 27 (.tmp 12) (.tmp 64) rfl b_xw12 6 (rC (overF b a 0#64).1) rfl rfl 27 _ k24 szR (fun j _ => rC_one _ j) ?_
  intro xw27 t28 k29; try simp only [pA]
  have k30 := k20.touch t28 (by omega)
  have k31 := k21.touch t28 (by omega)
  have k32 := k22.touch t28 (by omega)
  have k33 := k23.touch t28 (by omega)
  have k34 := hhxw19.touch t28 (by omega)
  have lo35 := t28.below lo25 (by omega)
  have h36 := t28.sz hMxw19
  clear k24 k20 k21 k22 k23 hhxw19 lo25 hMxw19 t28
  refine wpl_store rfl 27 (.tmp 13) (.tmp 65) rfl b_xw19 6 (rC (overF b a 0#64).2.1) rfl rfl 27 _ k34 szR (fun j _ => rC_one _ j) ?_
  intro xw37 t38 k39; try simp only [pA]
  have k40 := k30.touch t38 (by omega)
  have k41 := k31.touch t38 (by omega)
  have k42 := k32.touch t38 (by omega)
  have k43 := k33.touch t38 (by omega)
  have k44 := k29.touch t38 (by omega)
  have lo45 := t38.below lo35 (by omega)
  have h46 := t38.sz h36
  clear k34 k30 k31 k32 k33 k29 lo35 h36 t38
  refine wpl_run rfl (Value.bool (overF b a 0#64).2.2) _ (run_as (x := (.tmp 66)) rfl _ rfl) ?_; simp only [pA]
  obtain ⟨M47, hM47⟩ := sz_some xw37
  have lt_48 := k40.ltN hM47
  have lt_49 := k41.ltN hM47
  have lt_50 := k42.ltN hM47
  have lt_51 := k43.ltN hM47
  have lt_52 := k44.ltN hM47
  have lt_53 := k39.ltN hM47
  go_upto_region 13 with fail
  refine wp_region_held (S := fun w' => (Has w' b_xw12 27 6 (rC (overF b a 0#64).1)) ∧ (Has w' b_xw19 27 6 (rC (overF b a 0#64).2.1))) (by kernel_rfl) ?_
  replace k40 : Has xw37.drew N 27 6 (rC a) := k40
  replace k41 : Has xw37.drew (N + 1) 27 6 (rC b) := k41
  replace k42 : Has xw37.drew (N + 1 + 1) 27 6 (rC zeroR) := k42
  replace k43 : Has xw37.drew (N + 1 + 1 + 1) 27 6 (rC zeroR) := k43
  replace k44 : Has xw37.drew b_xw12 27 6 (rC (overF b a 0#64).1) := k44
  replace k39 : Has xw37.drew b_xw19 27 6 (rC (overF b a 0#64).2.1) := k39
  replace hM47 : Sz xw37.drew M47 := hM47
  replace lo45 : Below N w xw37.drew := lo45.drew
  change wpAnyH _ _ _ _ _ _ _ _ (World.drew _)
  generalize xw37.drew = xw54 at *
  refine held_take (i := 0) (v := (Value.agg (cellsOf (rC (overF b a 0#64).2.1) 6))) (d := some 67) rfl (by kernel_rfl) (by kernel_rfl) (by kernel_rfl) (by kernel_rfl) (fun _ _ _ h => h) (Or.inl ⟨by rfl, fun wq ⟨hq0, hq1⟩ => run_rw 27 (.tmp 13) rfl b_xw19 rfl 27 6 _ hq1 undR szR⟩) ⟨k44, k39⟩ ?_; simp only [pA]
  refine held_take (i := 1) (v := (Value.agg (cellsOf (rC (overF b a 0#64).1) 6))) (d := some 68) rfl (by kernel_rfl) (by kernel_rfl) (by kernel_rfl) (by kernel_rfl) (fun _ _ _ h => h) (Or.inl ⟨by rfl, fun wq ⟨hq0, hq1⟩ => run_rw 27 (.tmp 12) rfl b_xw12 rfl 27 6 _ hq0 undR szR⟩) ⟨k44, k39⟩ ?_; simp only [pA]
  refine held_take (i := 2) (v := (Value.bool (overF b a 0#64).2.2)) (d := some 69) rfl (by kernel_rfl) (by kernel_rfl) (by kernel_rfl) (by kernel_rfl) (fun _ _ _ h => h) (Or.inl ⟨by rfl, fun wq ⟨hq0, hq1⟩ => run_mv (x := (.tmp 14)) rfl wq rfl⟩) ⟨k44, k39⟩ ?_; simp only [pA]
  refine wpAnyH_all (rs := [3]) (by kernel_rfl) (by simp) ?_
  intro iq hiq; simp only [List.mem_singleton] at hiq; subst hiq
  refine opg_list rfl ?_
  refine wpl_storeN (by rfl) (by kernel_rfl) 27 (.tmp 6) (.tmp 67) rfl (N + 1 + 1) 6 (rC (overF b a 0#64).2.1) rfl rfl 27 _ k42 szR (fun j _ => rC_one _ j) ?_
  intro xw55 t56 k57; try simp only [pA]
  have k58 := k40.touch t56 (by omega)
  have k59 := k41.touch t56 (by omega)
  have k60 := k43.touch t56 (by omega)
  have k61 := k44.touch t56 (by omega)
  have k62 := k39.touch t56 (by omega)
  have lo63 := t56.below lo45 (by omega)
  have h64 := t56.sz hM47
  clear k42 k40 k41 k43 k44 k39 lo45 hM47 t56
  refine ⟨⟨k61, k62⟩, ?_⟩
  refine wpAnyH_all (rs := [4]) (by kernel_rfl) (by simp) ?_
  intro iq hiq; simp only [List.mem_singleton] at hiq; subst hiq
  refine opg_list rfl ?_
  refine wpl_storeN (by rfl) (by kernel_rfl) 27 (.tmp 7) (.tmp 68) rfl (N + 1 + 1 + 1) 6 (rC (overF b a 0#64).1) rfl rfl 27 _ k60 szR (fun j _ => rC_one _ j) ?_
  intro xw65 t66 k67; try simp only [pA]
  have k68 := k58.touch t66 (by omega)
  have k69 := k59.touch t66 (by omega)
  have k70 := k57.touch t66 (by omega)
  have k71 := k61.touch t66 (by omega)
  have k72 := k62.touch t66 (by omega)
  have lo73 := t66.below lo63 (by omega)
  have h74 := t66.sz h64
  clear k60 k58 k59 k57 k61 k62 lo63 h64 t66
  refine ⟨⟨k71, k72⟩, ?_⟩
  refine held_take (i := 5) (v := (Value.bool (overF b a 0#64).2.2)) (d := some 8) rfl (by kernel_rfl) (by kernel_rfl) (by kernel_rfl) (by kernel_rfl) (fun _ _ _ h => h) (Or.inl ⟨by rfl, fun wq ⟨hq0, hq1⟩ => run_as (x := (.tmp 69)) rfl wq rfl⟩) ⟨k71, k72⟩ ?_; simp only [pA]
  refine wpAnyH_done (by kernel_rfl) ?_ _
  obtain ⟨M75, hM75⟩ := sz_some xw65
  have lt_76 := k68.ltN hM75
  have lt_77 := k69.ltN hM75
  have lt_78 := k70.ltN hM75
  have lt_79 := k67.ltN hM75
  have lt_80 := k71.ltN hM75
  have lt_81 := k72.ltN hM75
  go_wp2_with fail
  refine post_rrb rfl (N + 1 + 1) (N + 1 + 1 + 1) rfl rfl k70 k67 undR undR szR szR rfl rfl ?_
  exact ⟨by rw [ER.out]; first | rfl | (simp only [bnd11, bB] <;> rfl), lo73⟩
def bnd6 (a : Rn) (b : Rn) : Rn × Rn × Bool :=
  ((overSF a b 1).1, (overSF a b 1).2.1, (overSF a b 1).2.2)
set_option maxRecDepth 100000 in
set_option maxHeartbeats 4000000 in
theorem Bnd_6 (a : Rn) (b : Rn) (w : World) (N : Nat) (hN : Sz w N) : Calls Tryd.prog 33 #[(Value.int .i64 6), rV a, rV b] w fun e w' => e = .returned (.tuple #[rV (bnd6 a b).1, rV (bnd6 a b).2.1, .bool (bnd6 a b).2.2]) ∧ Below N w w' := by
  obtain ⟨rr, er⟩ : ∃ rr, rr = (bnd6 a b) := ⟨_, rfl⟩
  rw [← er]
  have ER := hid er
  clear er
  unfold rV
  go_enter Tryd.func33, Tryd.ntmps33
  go_upto_region 1 with (first
    | (refine wpl_box rfl 27 (.tmp 1) rfl 6 _ rfl (N) hN ?_; intro w1 hN1 hb1 hh1)
    | (refine wpl_box rfl 27 (.tmp 2) rfl 6 _ rfl (N + 1) hN1 ?_; intro w2 hN2 hb2 hh2)
    | (refine wpl_alloc rfl 27 rfl 6 (rC zeroR) zeR (N + 1 + 1) hN2 ?_; intro w3 hN3 hb3 hh3)
    | (refine wpl_alloc rfl 27 rfl 6 (rC zeroR) zeR (N + 1 + 1 + 1) hN3 ?_; intro w4 hN4 hb4 hh4)
    | fail)
  have lo0 : Below N w w4 := (((hb1.trans (hb2.mono (by omega))).trans (hb3.mono (by omega))).trans (hb4.mono (by omega)))
  have k1 := (((hh1.below hb2 (by omega)).below hb3 (by omega)).below hb4 (by omega))
  have k2 := ((hh2.below hb3 (by omega)).below hb4 (by omega))
  have k3 := (hh3.below hb4 (by omega))
  have k4 := hh4
  clear hh1 hb1 hh2 hb2 hh3 hb3 hh4 hb4 hN1 hN2 hN3
  go_upto_region 15 with fail
  refine wp_region_lit ?_
  try simp only [pA]
  change wpList _ _ _ ((_ :: _ :: _ :: _ :: _ :: _ :: []) ++ (_ :: _ :: _ :: [])) _ _
  refine wpList_prefix (C := fun w' => ∃ x : Later (N + 1 + 1 + 1 + 1) w4, w' = x.w') _ _ _ _ ⟨⟨_, Below.refl _ _⟩, rfl⟩ ?_
  refine later_row hN4 27 (.tmp 4) rfl (N) rfl 27 6 _ k1 undR szR (by rfl) ?_; simp only [pA]
  refine later_row hN4 27 (.tmp 5) rfl ((N + 1)) rfl 27 6 _ k2 undR szR (by rfl) ?_; simp only [pA]
  go_big_quiet_step ((go_at_call 56; exact later_of hN4 _ (fun K hK hKN => OverS_any a b 1 _ K hK)))
  iterate 3 (go_big_quiet_step (fail))
  refine wpQuiet_nil (laterE hN4 ?_)
  intro xw5 M6 hbxw5 hM6 lM6
  have k7 := k1.below hbxw5 (by omega)
  have k8 := k2.below hbxw5 (by omega)
  have k9 := k3.below hbxw5 (by omega)
  have k10 := k4.below hbxw5 (by omega)
  have lo11 := lo0.trans (hbxw5.mono (by omega))
  clear k1 k2 k3 k4 lo0 hbxw5
  refine wpl_store rfl 27 (.tmp 6) (.tmp 75) rfl (N + 1 + 1) 6 (rC (overSF a b 1).1) rfl rfl 27 _ k9 szR (fun j _ => rC_one _ j) ?_
  intro xw12 t13 k14; try simp only [pA]
  have k15 := k7.touch t13 (by omega)
  have k16 := k8.touch t13 (by omega)
  have k17 := k10.touch t13 (by omega)
  have lo18 := t13.below lo11 (by omega)
  have h19 := t13.sz hM6
  clear k9 k7 k8 k10 lo11 hM6 t13
  refine wpl_store rfl 27 (.tmp 7) (.tmp 76) rfl (N + 1 + 1 + 1) 6 (rC (overSF a b 1).2.1) rfl rfl 27 _ k17 szR (fun j _ => rC_one _ j) ?_
  intro xw20 t21 k22; try simp only [pA]
  have k23 := k15.touch t21 (by omega)
  have k24 := k16.touch t21 (by omega)
  have k25 := k14.touch t21 (by omega)
  have lo26 := t21.below lo18 (by omega)
  have h27 := t21.sz h19
  clear k17 k15 k16 k14 lo18 h19 t21
  refine wpl_run rfl (Value.bool (overSF a b 1).2.2) _ (run_as (x := (.tmp 77)) rfl _ rfl) ?_; simp only [pA]
  obtain ⟨M28, hM28⟩ := sz_some xw20
  have lt_29 := k23.ltN hM28
  have lt_30 := k24.ltN hM28
  have lt_31 := k25.ltN hM28
  have lt_32 := k22.ltN hM28
  go_wp2_with fail
  refine post_rrb rfl (N + 1 + 1) (N + 1 + 1 + 1) rfl rfl k25 k22 undR undR szR szR rfl rfl ?_
  exact ⟨by rw [ER.out]; first | rfl | (simp only [bnd6, bB] <;> rfl), lo26⟩
def bnd7 (a : Rn) (b : Rn) : Rn × Rn × Bool :=
  ((overSF a b 0).1, (overSF a b 0).2.1, (overSF a b 0).2.2)
set_option maxRecDepth 100000 in
set_option maxHeartbeats 4000000 in
theorem Bnd_7 (a : Rn) (b : Rn) (w : World) (N : Nat) (hN : Sz w N) : Calls Tryd.prog 33 #[(Value.int .i64 7), rV a, rV b] w fun e w' => e = .returned (.tuple #[rV (bnd7 a b).1, rV (bnd7 a b).2.1, .bool (bnd7 a b).2.2]) ∧ Below N w w' := by
  obtain ⟨rr, er⟩ : ∃ rr, rr = (bnd7 a b) := ⟨_, rfl⟩
  rw [← er]
  have ER := hid er
  clear er
  unfold rV
  go_enter Tryd.func33, Tryd.ntmps33
  go_upto_region 1 with (first
    | (refine wpl_box rfl 27 (.tmp 1) rfl 6 _ rfl (N) hN ?_; intro w1 hN1 hb1 hh1)
    | (refine wpl_box rfl 27 (.tmp 2) rfl 6 _ rfl (N + 1) hN1 ?_; intro w2 hN2 hb2 hh2)
    | (refine wpl_alloc rfl 27 rfl 6 (rC zeroR) zeR (N + 1 + 1) hN2 ?_; intro w3 hN3 hb3 hh3)
    | (refine wpl_alloc rfl 27 rfl 6 (rC zeroR) zeR (N + 1 + 1 + 1) hN3 ?_; intro w4 hN4 hb4 hh4)
    | fail)
  have lo0 : Below N w w4 := (((hb1.trans (hb2.mono (by omega))).trans (hb3.mono (by omega))).trans (hb4.mono (by omega)))
  have k1 := (((hh1.below hb2 (by omega)).below hb3 (by omega)).below hb4 (by omega))
  have k2 := ((hh2.below hb3 (by omega)).below hb4 (by omega))
  have k3 := (hh3.below hb4 (by omega))
  have k4 := hh4
  clear hh1 hb1 hh2 hb2 hh3 hb3 hh4 hb4 hN1 hN2 hN3
  go_upto_region 17 with fail
  refine wp_region_lit ?_
  try simp only [pA]
  change wpList _ _ _ ((_ :: _ :: _ :: _ :: _ :: _ :: []) ++ (_ :: _ :: _ :: [])) _ _
  refine wpList_prefix (C := fun w' => ∃ x : Later (N + 1 + 1 + 1 + 1) w4, w' = x.w') _ _ _ _ ⟨⟨_, Below.refl _ _⟩, rfl⟩ ?_
  refine later_row hN4 27 (.tmp 4) rfl (N) rfl 27 6 _ k1 undR szR (by rfl) ?_; simp only [pA]
  refine later_row hN4 27 (.tmp 5) rfl ((N + 1)) rfl 27 6 _ k2 undR szR (by rfl) ?_; simp only [pA]
  go_big_quiet_step ((go_at_call 56; exact later_of hN4 _ (fun K hK hKN => OverS_any a b 0 _ K hK)))
  iterate 3 (go_big_quiet_step (fail))
  refine wpQuiet_nil (laterE hN4 ?_)
  intro xw5 M6 hbxw5 hM6 lM6
  have k7 := k1.below hbxw5 (by omega)
  have k8 := k2.below hbxw5 (by omega)
  have k9 := k3.below hbxw5 (by omega)
  have k10 := k4.below hbxw5 (by omega)
  have lo11 := lo0.trans (hbxw5.mono (by omega))
  clear k1 k2 k3 k4 lo0 hbxw5
  refine wpl_store rfl 27 (.tmp 6) (.tmp 83) rfl (N + 1 + 1) 6 (rC (overSF a b 0).1) rfl rfl 27 _ k9 szR (fun j _ => rC_one _ j) ?_
  intro xw12 t13 k14; try simp only [pA]
  have k15 := k7.touch t13 (by omega)
  have k16 := k8.touch t13 (by omega)
  have k17 := k10.touch t13 (by omega)
  have lo18 := t13.below lo11 (by omega)
  have h19 := t13.sz hM6
  clear k9 k7 k8 k10 lo11 hM6 t13
  refine wpl_store rfl 27 (.tmp 7) (.tmp 84) rfl (N + 1 + 1 + 1) 6 (rC (overSF a b 0).2.1) rfl rfl 27 _ k17 szR (fun j _ => rC_one _ j) ?_
  intro xw20 t21 k22; try simp only [pA]
  have k23 := k15.touch t21 (by omega)
  have k24 := k16.touch t21 (by omega)
  have k25 := k14.touch t21 (by omega)
  have lo26 := t21.below lo18 (by omega)
  have h27 := t21.sz h19
  clear k17 k15 k16 k14 lo18 h19 t21
  refine wpl_run rfl (Value.bool (overSF a b 0).2.2) _ (run_as (x := (.tmp 85)) rfl _ rfl) ?_; simp only [pA]
  obtain ⟨M28, hM28⟩ := sz_some xw20
  have lt_29 := k23.ltN hM28
  have lt_30 := k24.ltN hM28
  have lt_31 := k25.ltN hM28
  have lt_32 := k22.ltN hM28
  go_wp2_with fail
  refine post_rrb rfl (N + 1 + 1) (N + 1 + 1 + 1) rfl rfl k25 k22 undR undR szR szR rfl rfl ?_
  exact ⟨by rw [ER.out]; first | rfl | (simp only [bnd7, bB] <;> rfl), lo26⟩
def bnd12 (a : Rn) (b : Rn) : Rn × Rn × Bool :=
  ((overSF b a 1).2.1, (overSF b a 1).1, (overSF b a 1).2.2)
set_option maxRecDepth 100000 in
set_option maxHeartbeats 4000000 in
theorem Bnd_12 (a : Rn) (b : Rn) (w : World) (N : Nat) (hN : Sz w N) : Calls Tryd.prog 33 #[(Value.int .i64 12), rV a, rV b] w fun e w' => e = .returned (.tuple #[rV (bnd12 a b).1, rV (bnd12 a b).2.1, .bool (bnd12 a b).2.2]) ∧ Below N w w' := by
  obtain ⟨rr, er⟩ : ∃ rr, rr = (bnd12 a b) := ⟨_, rfl⟩
  rw [← er]
  have ER := hid er
  clear er
  unfold rV
  go_enter Tryd.func33, Tryd.ntmps33
  go_upto_region 1 with (first
    | (refine wpl_box rfl 27 (.tmp 1) rfl 6 _ rfl (N) hN ?_; intro w1 hN1 hb1 hh1)
    | (refine wpl_box rfl 27 (.tmp 2) rfl 6 _ rfl (N + 1) hN1 ?_; intro w2 hN2 hb2 hh2)
    | (refine wpl_alloc rfl 27 rfl 6 (rC zeroR) zeR (N + 1 + 1) hN2 ?_; intro w3 hN3 hb3 hh3)
    | (refine wpl_alloc rfl 27 rfl 6 (rC zeroR) zeR (N + 1 + 1 + 1) hN3 ?_; intro w4 hN4 hb4 hh4)
    | fail)
  have lo0 : Below N w w4 := (((hb1.trans (hb2.mono (by omega))).trans (hb3.mono (by omega))).trans (hb4.mono (by omega)))
  have k1 := (((hh1.below hb2 (by omega)).below hb3 (by omega)).below hb4 (by omega))
  have k2 := ((hh2.below hb3 (by omega)).below hb4 (by omega))
  have k3 := (hh3.below hb4 (by omega))
  have k4 := hh4
  clear hh1 hb1 hh2 hb2 hh3 hb3 hh4 hb4 hN1 hN2 hN3
  go_upto_region 19 with fail
  refine wp_region_lit ?_
  try simp only [pA]
  change wpList _ _ _ ((_ :: _ :: _ :: _ :: _ :: _ :: _ :: []) ++ (_ :: _ :: _ :: _ :: _ :: [])) _ _
  refine wpList_prefix (C := fun w' => ∃ x : Later (N + 1 + 1 + 1 + 1) w4, w' = x.w') _ _ _ _ ⟨⟨_, Below.refl _ _⟩, rfl⟩ ?_
  refine later_row hN4 27 (.tmp 5) rfl ((N + 1)) rfl 27 6 _ k2 undR szR (by rfl) ?_; simp only [pA]
  refine later_row hN4 27 (.tmp 4) rfl (N) rfl 27 6 _ k1 undR szR (by rfl) ?_; simp only [pA]
  go_big_quiet_step ((go_at_call 56; exact later_of hN4 _ (fun K hK hKN => OverS_any b a 1 _ K hK)))
  iterate 4 (go_big_quiet_step (fail))
  refine wpQuiet_nil (laterE hN4 ?_)
  intro xw5 M6 hbxw5 hM6 lM6
  have k7 := k1.below hbxw5 (by omega)
  have k8 := k2.below hbxw5 (by omega)
  have k9 := k3.below hbxw5 (by omega)
  have k10 := k4.below hbxw5 (by omega)
  have lo11 := lo0.trans (hbxw5.mono (by omega))
  clear k1 k2 k3 k4 lo0 hbxw5
  obtain ⟨b_xw12, eb_xw12⟩ : ∃ b_xw12, b_xw12 = M6 := ⟨_, rfl⟩
  have hzb_xw12 : Sz xw5 b_xw12 := by rw [eb_xw12]; exact hM6
  have lob_xw12 : M6 ≤ b_xw12 := by omega
  have upb_xw12 : b_xw12 ≤ M6 := by omega
  clear eb_xw12
  refine wpl_alloc rfl 27 rfl 6 (rC zeroR) zeR b_xw12 hzb_xw12 ?_
  intro xw12 hMxw12 hbxw12 hhxw12; simp only [pA]
  have k13 := k7.below hbxw12 (by omega)
  have k14 := k8.below hbxw12 (by omega)
  have k15 := k9.below hbxw12 (by omega)
  have k16 := k10.below hbxw12 (by omega)
  have lo17 := lo11.trans (hbxw12.mono (by omega))
  clear k7 k8 k9 k10 lo11 hbxw12 hzb_xw12
  obtain ⟨M18, eM18⟩ : ∃ M18, M18 = b_xw12 + 1 := ⟨_, rfl⟩
  rw [← eM18] at hMxw12
  have loM18 : b_xw12 + 1 ≤ M18 := by omega
  have upM18 : M18 ≤ b_xw12 + 1 := by omega
  clear eM18
  obtain ⟨b_xw19, eb_xw19⟩ : ∃ b_xw19, b_xw19 = M18 := ⟨_, rfl⟩
  have hzb_xw19 : Sz xw12 b_xw19 := by rw [eb_xw19]; exact hMxw12
  have lob_xw19 : M18 ≤ b_xw19 := by omega
  have upb_xw19 : b_xw19 ≤ M18 := by omega
  clear eb_xw19
  refine wpl_alloc rfl 27 rfl 6 (rC zeroR) zeR b_xw19 hzb_xw19 ?_
  intro xw19 hMxw19 hbxw19 hhxw19; simp only [pA]
  have k20 := k13.below hbxw19 (by omega)
  have k21 := k14.below hbxw19 (by omega)
  have k22 := k15.below hbxw19 (by omega)
  have k23 := k16.below hbxw19 (by omega)
  have k24 := hhxw12.below hbxw19 (by omega)
  have lo25 := lo17.trans (hbxw19.mono (by omega))
  clear k13 k14 k15 k16 hhxw12 lo17 hbxw19 hzb_xw19
  obtain ⟨M26, eM26⟩ : ∃ M26, M26 = b_xw19 + 1 := ⟨_, rfl⟩
  rw [← eM26] at hMxw19
  have loM26 : b_xw19 + 1 ≤ M26 := by omega
  have upM26 : M26 ≤ b_xw19 + 1 := by omega
  clear eM26
  refine wpl_store rfl 27 (.tmp 15) (.tmp 92) rfl b_xw12 6 (rC (overSF b a 1).1) rfl rfl 27 _ k24 szR (fun j _ => rC_one _ j) ?_
  intro xw27 t28 k29; try simp only [pA]
  have k30 := k20.touch t28 (by omega)
  have k31 := k21.touch t28 (by omega)
  have k32 := k22.touch t28 (by omega)
  have k33 := k23.touch t28 (by omega)
  have k34 := hhxw19.touch t28 (by omega)
  have lo35 := t28.below lo25 (by omega)
  have h36 := t28.sz hMxw19
  clear k24 k20 k21 k22 k23 hhxw19 lo25 hMxw19 t28
  refine wpl_store rfl 27 (.tmp 16) (.tmp 93) rfl b_xw19 6 (rC (overSF b a 1).2.1) rfl rfl 27 _ k34 szR (fun j _ => rC_one _ j) ?_
  intro xw37 t38 k39; try simp only [pA]
  have k40 := k30.touch t38 (by omega)
  have k41 := k31.touch t38 (by omega)
  have k42 := k32.touch t38 (by omega)
  have k43 := k33.touch t38 (by omega)
  have k44 := k29.touch t38 (by omega)
  have lo45 := t38.below lo35 (by omega)
  have h46 := t38.sz h36
  clear k34 k30 k31 k32 k33 k29 lo35 h36 t38
  refine wpl_run rfl (Value.bool (overSF b a 1).2.2) _ (run_as (x := (.tmp 94)) rfl _ rfl) ?_; simp only [pA]
  obtain ⟨M47, hM47⟩ := sz_some xw37
  have lt_48 := k40.ltN hM47
  have lt_49 := k41.ltN hM47
  have lt_50 := k42.ltN hM47
  have lt_51 := k43.ltN hM47
  have lt_52 := k44.ltN hM47
  have lt_53 := k39.ltN hM47
  go_upto_region 20 with fail
  refine wp_region_held (S := fun w' => (Has w' b_xw12 27 6 (rC (overSF b a 1).1)) ∧ (Has w' b_xw19 27 6 (rC (overSF b a 1).2.1))) (by kernel_rfl) ?_
  replace k40 : Has xw37.drew N 27 6 (rC a) := k40
  replace k41 : Has xw37.drew (N + 1) 27 6 (rC b) := k41
  replace k42 : Has xw37.drew (N + 1 + 1) 27 6 (rC zeroR) := k42
  replace k43 : Has xw37.drew (N + 1 + 1 + 1) 27 6 (rC zeroR) := k43
  replace k44 : Has xw37.drew b_xw12 27 6 (rC (overSF b a 1).1) := k44
  replace k39 : Has xw37.drew b_xw19 27 6 (rC (overSF b a 1).2.1) := k39
  replace hM47 : Sz xw37.drew M47 := hM47
  replace lo45 : Below N w xw37.drew := lo45.drew
  change wpAnyH _ _ _ _ _ _ _ _ (World.drew _)
  generalize xw37.drew = xw54 at *
  refine held_take (i := 0) (v := (Value.agg (cellsOf (rC (overSF b a 1).2.1) 6))) (d := some 95) rfl (by kernel_rfl) (by kernel_rfl) (by kernel_rfl) (by kernel_rfl) (fun _ _ _ h => h) (Or.inl ⟨by rfl, fun wq ⟨hq0, hq1⟩ => run_rw 27 (.tmp 16) rfl b_xw19 rfl 27 6 _ hq1 undR szR⟩) ⟨k44, k39⟩ ?_; simp only [pA]
  refine held_take (i := 1) (v := (Value.agg (cellsOf (rC (overSF b a 1).1) 6))) (d := some 96) rfl (by kernel_rfl) (by kernel_rfl) (by kernel_rfl) (by kernel_rfl) (fun _ _ _ h => h) (Or.inl ⟨by rfl, fun wq ⟨hq0, hq1⟩ => run_rw 27 (.tmp 15) rfl b_xw12 rfl 27 6 _ hq0 undR szR⟩) ⟨k44, k39⟩ ?_; simp only [pA]
  refine held_take (i := 2) (v := (Value.bool (overSF b a 1).2.2)) (d := some 97) rfl (by kernel_rfl) (by kernel_rfl) (by kernel_rfl) (by kernel_rfl) (fun _ _ _ h => h) (Or.inl ⟨by rfl, fun wq ⟨hq0, hq1⟩ => run_mv (x := (.tmp 17)) rfl wq rfl⟩) ⟨k44, k39⟩ ?_; simp only [pA]
  refine wpAnyH_all (rs := [3]) (by kernel_rfl) (by simp) ?_
  intro iq hiq; simp only [List.mem_singleton] at hiq; subst hiq
  refine opg_list rfl ?_
  refine wpl_storeN (by rfl) (by kernel_rfl) 27 (.tmp 6) (.tmp 95) rfl (N + 1 + 1) 6 (rC (overSF b a 1).2.1) rfl rfl 27 _ k42 szR (fun j _ => rC_one _ j) ?_
  intro xw55 t56 k57; try simp only [pA]
  have k58 := k40.touch t56 (by omega)
  have k59 := k41.touch t56 (by omega)
  have k60 := k43.touch t56 (by omega)
  have k61 := k44.touch t56 (by omega)
  have k62 := k39.touch t56 (by omega)
  have lo63 := t56.below lo45 (by omega)
  have h64 := t56.sz hM47
  clear k42 k40 k41 k43 k44 k39 lo45 hM47 t56
  refine ⟨⟨k61, k62⟩, ?_⟩
  refine wpAnyH_all (rs := [4]) (by kernel_rfl) (by simp) ?_
  intro iq hiq; simp only [List.mem_singleton] at hiq; subst hiq
  refine opg_list rfl ?_
  refine wpl_storeN (by rfl) (by kernel_rfl) 27 (.tmp 7) (.tmp 96) rfl (N + 1 + 1 + 1) 6 (rC (overSF b a 1).1) rfl rfl 27 _ k60 szR (fun j _ => rC_one _ j) ?_
  intro xw65 t66 k67; try simp only [pA]
  have k68 := k58.touch t66 (by omega)
  have k69 := k59.touch t66 (by omega)
  have k70 := k57.touch t66 (by omega)
  have k71 := k61.touch t66 (by omega)
  have k72 := k62.touch t66 (by omega)
  have lo73 := t66.below lo63 (by omega)
  have h74 := t66.sz h64
  clear k60 k58 k59 k57 k61 k62 lo63 h64 t66
  refine ⟨⟨k71, k72⟩, ?_⟩
  refine held_take (i := 5) (v := (Value.bool (overSF b a 1).2.2)) (d := some 8) rfl (by kernel_rfl) (by kernel_rfl) (by kernel_rfl) (by kernel_rfl) (fun _ _ _ h => h) (Or.inl ⟨by rfl, fun wq ⟨hq0, hq1⟩ => run_as (x := (.tmp 97)) rfl wq rfl⟩) ⟨k71, k72⟩ ?_; simp only [pA]
  refine wpAnyH_done (by kernel_rfl) ?_ _
  obtain ⟨M75, hM75⟩ := sz_some xw65
  have lt_76 := k68.ltN hM75
  have lt_77 := k69.ltN hM75
  have lt_78 := k70.ltN hM75
  have lt_79 := k67.ltN hM75
  have lt_80 := k71.ltN hM75
  have lt_81 := k72.ltN hM75
  go_wp2_with fail
  refine post_rrb rfl (N + 1 + 1) (N + 1 + 1 + 1) rfl rfl k70 k67 undR undR szR szR rfl rfl ?_
  exact ⟨by rw [ER.out]; first | rfl | (simp only [bnd12, bB] <;> rfl), lo73⟩
def bnd13 (a : Rn) (b : Rn) : Rn × Rn × Bool :=
  ((overSF b a 0).2.1, (overSF b a 0).1, (overSF b a 0).2.2)
set_option maxRecDepth 100000 in
set_option maxHeartbeats 4000000 in
theorem Bnd_13 (a : Rn) (b : Rn) (w : World) (N : Nat) (hN : Sz w N) : Calls Tryd.prog 33 #[(Value.int .i64 13), rV a, rV b] w fun e w' => e = .returned (.tuple #[rV (bnd13 a b).1, rV (bnd13 a b).2.1, .bool (bnd13 a b).2.2]) ∧ Below N w w' := by
  obtain ⟨rr, er⟩ : ∃ rr, rr = (bnd13 a b) := ⟨_, rfl⟩
  rw [← er]
  have ER := hid er
  clear er
  unfold rV
  go_enter Tryd.func33, Tryd.ntmps33
  go_upto_region 1 with (first
    | (refine wpl_box rfl 27 (.tmp 1) rfl 6 _ rfl (N) hN ?_; intro w1 hN1 hb1 hh1)
    | (refine wpl_box rfl 27 (.tmp 2) rfl 6 _ rfl (N + 1) hN1 ?_; intro w2 hN2 hb2 hh2)
    | (refine wpl_alloc rfl 27 rfl 6 (rC zeroR) zeR (N + 1 + 1) hN2 ?_; intro w3 hN3 hb3 hh3)
    | (refine wpl_alloc rfl 27 rfl 6 (rC zeroR) zeR (N + 1 + 1 + 1) hN3 ?_; intro w4 hN4 hb4 hh4)
    | fail)
  have lo0 : Below N w w4 := (((hb1.trans (hb2.mono (by omega))).trans (hb3.mono (by omega))).trans (hb4.mono (by omega)))
  have k1 := (((hh1.below hb2 (by omega)).below hb3 (by omega)).below hb4 (by omega))
  have k2 := ((hh2.below hb3 (by omega)).below hb4 (by omega))
  have k3 := (hh3.below hb4 (by omega))
  have k4 := hh4
  clear hh1 hb1 hh2 hb2 hh3 hb3 hh4 hb4 hN1 hN2 hN3
  go_upto_region 22 with fail
  refine wp_region_lit ?_
  try simp only [pA]
  change wpList _ _ _ ((_ :: _ :: _ :: _ :: _ :: _ :: _ :: []) ++ (_ :: _ :: _ :: _ :: _ :: [])) _ _
  refine wpList_prefix (C := fun w' => ∃ x : Later (N + 1 + 1 + 1 + 1) w4, w' = x.w') _ _ _ _ ⟨⟨_, Below.refl _ _⟩, rfl⟩ ?_
  refine later_row hN4 27 (.tmp 5) rfl ((N + 1)) rfl 27 6 _ k2 undR szR (by rfl) ?_; simp only [pA]
  refine later_row hN4 27 (.tmp 4) rfl (N) rfl 27 6 _ k1 undR szR (by rfl) ?_; simp only [pA]
  go_big_quiet_step ((go_at_call 56; exact later_of hN4 _ (fun K hK hKN => OverS_any b a 0 _ K hK)))
  iterate 4 (go_big_quiet_step (fail))
  refine wpQuiet_nil (laterE hN4 ?_)
  intro xw5 M6 hbxw5 hM6 lM6
  have k7 := k1.below hbxw5 (by omega)
  have k8 := k2.below hbxw5 (by omega)
  have k9 := k3.below hbxw5 (by omega)
  have k10 := k4.below hbxw5 (by omega)
  have lo11 := lo0.trans (hbxw5.mono (by omega))
  clear k1 k2 k3 k4 lo0 hbxw5
  obtain ⟨b_xw12, eb_xw12⟩ : ∃ b_xw12, b_xw12 = M6 := ⟨_, rfl⟩
  have hzb_xw12 : Sz xw5 b_xw12 := by rw [eb_xw12]; exact hM6
  have lob_xw12 : M6 ≤ b_xw12 := by omega
  have upb_xw12 : b_xw12 ≤ M6 := by omega
  clear eb_xw12
  refine wpl_alloc rfl 27 rfl 6 (rC zeroR) zeR b_xw12 hzb_xw12 ?_
  intro xw12 hMxw12 hbxw12 hhxw12; simp only [pA]
  have k13 := k7.below hbxw12 (by omega)
  have k14 := k8.below hbxw12 (by omega)
  have k15 := k9.below hbxw12 (by omega)
  have k16 := k10.below hbxw12 (by omega)
  have lo17 := lo11.trans (hbxw12.mono (by omega))
  clear k7 k8 k9 k10 lo11 hbxw12 hzb_xw12
  obtain ⟨M18, eM18⟩ : ∃ M18, M18 = b_xw12 + 1 := ⟨_, rfl⟩
  rw [← eM18] at hMxw12
  have loM18 : b_xw12 + 1 ≤ M18 := by omega
  have upM18 : M18 ≤ b_xw12 + 1 := by omega
  clear eM18
  obtain ⟨b_xw19, eb_xw19⟩ : ∃ b_xw19, b_xw19 = M18 := ⟨_, rfl⟩
  have hzb_xw19 : Sz xw12 b_xw19 := by rw [eb_xw19]; exact hMxw12
  have lob_xw19 : M18 ≤ b_xw19 := by omega
  have upb_xw19 : b_xw19 ≤ M18 := by omega
  clear eb_xw19
  refine wpl_alloc rfl 27 rfl 6 (rC zeroR) zeR b_xw19 hzb_xw19 ?_
  intro xw19 hMxw19 hbxw19 hhxw19; simp only [pA]
  have k20 := k13.below hbxw19 (by omega)
  have k21 := k14.below hbxw19 (by omega)
  have k22 := k15.below hbxw19 (by omega)
  have k23 := k16.below hbxw19 (by omega)
  have k24 := hhxw12.below hbxw19 (by omega)
  have lo25 := lo17.trans (hbxw19.mono (by omega))
  clear k13 k14 k15 k16 hhxw12 lo17 hbxw19 hzb_xw19
  obtain ⟨M26, eM26⟩ : ∃ M26, M26 = b_xw19 + 1 := ⟨_, rfl⟩
  rw [← eM26] at hMxw19
  have loM26 : b_xw19 + 1 ≤ M26 := by omega
  have upM26 : M26 ≤ b_xw19 + 1 := by omega
  clear eM26
  refine wpl_store rfl 27 (.tmp 18) (.tmp 104) rfl b_xw12 6 (rC (overSF b a 0).1) rfl rfl 27 _ k24 szR (fun j _ => rC_one _ j) ?_
  intro xw27 t28 k29; try simp only [pA]
  have k30 := k20.touch t28 (by omega)
  have k31 := k21.touch t28 (by omega)
  have k32 := k22.touch t28 (by omega)
  have k33 := k23.touch t28 (by omega)
  have k34 := hhxw19.touch t28 (by omega)
  have lo35 := t28.below lo25 (by omega)
  have h36 := t28.sz hMxw19
  clear k24 k20 k21 k22 k23 hhxw19 lo25 hMxw19 t28
  refine wpl_store rfl 27 (.tmp 19) (.tmp 105) rfl b_xw19 6 (rC (overSF b a 0).2.1) rfl rfl 27 _ k34 szR (fun j _ => rC_one _ j) ?_
  intro xw37 t38 k39; try simp only [pA]
  have k40 := k30.touch t38 (by omega)
  have k41 := k31.touch t38 (by omega)
  have k42 := k32.touch t38 (by omega)
  have k43 := k33.touch t38 (by omega)
  have k44 := k29.touch t38 (by omega)
  have lo45 := t38.below lo35 (by omega)
  have h46 := t38.sz h36
  clear k34 k30 k31 k32 k33 k29 lo35 h36 t38
  refine wpl_run rfl (Value.bool (overSF b a 0).2.2) _ (run_as (x := (.tmp 106)) rfl _ rfl) ?_; simp only [pA]
  obtain ⟨M47, hM47⟩ := sz_some xw37
  have lt_48 := k40.ltN hM47
  have lt_49 := k41.ltN hM47
  have lt_50 := k42.ltN hM47
  have lt_51 := k43.ltN hM47
  have lt_52 := k44.ltN hM47
  have lt_53 := k39.ltN hM47
  go_upto_region 23 with fail
  refine wp_region_held (S := fun w' => (Has w' b_xw12 27 6 (rC (overSF b a 0).1)) ∧ (Has w' b_xw19 27 6 (rC (overSF b a 0).2.1))) (by kernel_rfl) ?_
  replace k40 : Has xw37.drew N 27 6 (rC a) := k40
  replace k41 : Has xw37.drew (N + 1) 27 6 (rC b) := k41
  replace k42 : Has xw37.drew (N + 1 + 1) 27 6 (rC zeroR) := k42
  replace k43 : Has xw37.drew (N + 1 + 1 + 1) 27 6 (rC zeroR) := k43
  replace k44 : Has xw37.drew b_xw12 27 6 (rC (overSF b a 0).1) := k44
  replace k39 : Has xw37.drew b_xw19 27 6 (rC (overSF b a 0).2.1) := k39
  replace hM47 : Sz xw37.drew M47 := hM47
  replace lo45 : Below N w xw37.drew := lo45.drew
  change wpAnyH _ _ _ _ _ _ _ _ (World.drew _)
  generalize xw37.drew = xw54 at *
  refine held_take (i := 0) (v := (Value.agg (cellsOf (rC (overSF b a 0).2.1) 6))) (d := some 107) rfl (by kernel_rfl) (by kernel_rfl) (by kernel_rfl) (by kernel_rfl) (fun _ _ _ h => h) (Or.inl ⟨by rfl, fun wq ⟨hq0, hq1⟩ => run_rw 27 (.tmp 19) rfl b_xw19 rfl 27 6 _ hq1 undR szR⟩) ⟨k44, k39⟩ ?_; simp only [pA]
  refine held_take (i := 1) (v := (Value.agg (cellsOf (rC (overSF b a 0).1) 6))) (d := some 108) rfl (by kernel_rfl) (by kernel_rfl) (by kernel_rfl) (by kernel_rfl) (fun _ _ _ h => h) (Or.inl ⟨by rfl, fun wq ⟨hq0, hq1⟩ => run_rw 27 (.tmp 18) rfl b_xw12 rfl 27 6 _ hq0 undR szR⟩) ⟨k44, k39⟩ ?_; simp only [pA]
  refine held_take (i := 2) (v := (Value.bool (overSF b a 0).2.2)) (d := some 109) rfl (by kernel_rfl) (by kernel_rfl) (by kernel_rfl) (by kernel_rfl) (fun _ _ _ h => h) (Or.inl ⟨by rfl, fun wq ⟨hq0, hq1⟩ => run_mv (x := (.tmp 20)) rfl wq rfl⟩) ⟨k44, k39⟩ ?_; simp only [pA]
  refine wpAnyH_all (rs := [3]) (by kernel_rfl) (by simp) ?_
  intro iq hiq; simp only [List.mem_singleton] at hiq; subst hiq
  refine opg_list rfl ?_
  refine wpl_storeN (by rfl) (by kernel_rfl) 27 (.tmp 6) (.tmp 107) rfl (N + 1 + 1) 6 (rC (overSF b a 0).2.1) rfl rfl 27 _ k42 szR (fun j _ => rC_one _ j) ?_
  intro xw55 t56 k57; try simp only [pA]
  have k58 := k40.touch t56 (by omega)
  have k59 := k41.touch t56 (by omega)
  have k60 := k43.touch t56 (by omega)
  have k61 := k44.touch t56 (by omega)
  have k62 := k39.touch t56 (by omega)
  have lo63 := t56.below lo45 (by omega)
  have h64 := t56.sz hM47
  clear k42 k40 k41 k43 k44 k39 lo45 hM47 t56
  refine ⟨⟨k61, k62⟩, ?_⟩
  refine wpAnyH_all (rs := [4]) (by kernel_rfl) (by simp) ?_
  intro iq hiq; simp only [List.mem_singleton] at hiq; subst hiq
  refine opg_list rfl ?_
  refine wpl_storeN (by rfl) (by kernel_rfl) 27 (.tmp 7) (.tmp 108) rfl (N + 1 + 1 + 1) 6 (rC (overSF b a 0).1) rfl rfl 27 _ k60 szR (fun j _ => rC_one _ j) ?_
  intro xw65 t66 k67; try simp only [pA]
  have k68 := k58.touch t66 (by omega)
  have k69 := k59.touch t66 (by omega)
  have k70 := k57.touch t66 (by omega)
  have k71 := k61.touch t66 (by omega)
  have k72 := k62.touch t66 (by omega)
  have lo73 := t66.below lo63 (by omega)
  have h74 := t66.sz h64
  clear k60 k58 k59 k57 k61 k62 lo63 h64 t66
  refine ⟨⟨k71, k72⟩, ?_⟩
  refine held_take (i := 5) (v := (Value.bool (overSF b a 0).2.2)) (d := some 8) rfl (by kernel_rfl) (by kernel_rfl) (by kernel_rfl) (by kernel_rfl) (fun _ _ _ h => h) (Or.inl ⟨by rfl, fun wq ⟨hq0, hq1⟩ => run_as (x := (.tmp 109)) rfl wq rfl⟩) ⟨k71, k72⟩ ?_; simp only [pA]
  refine wpAnyH_done (by kernel_rfl) ?_ _
  obtain ⟨M75, hM75⟩ := sz_some xw65
  have lt_76 := k68.ltN hM75
  have lt_77 := k69.ltN hM75
  have lt_78 := k70.ltN hM75
  have lt_79 := k67.ltN hM75
  have lt_80 := k71.ltN hM75
  have lt_81 := k72.ltN hM75
  go_wp2_with fail
  refine post_rrb rfl (N + 1 + 1) (N + 1 + 1 + 1) rfl rfl k70 k67 undR undR szR szR rfl rfl ?_
  exact ⟨by rw [ER.out]; first | rfl | (simp only [bnd13, bB] <;> rfl), lo73⟩
def bnd5 (a : Rn) (b : Rn) : Rn × Rn × Bool :=
  ((withoutF a b), (withoutF b a), true)
set_option maxRecDepth 100000 in
set_option maxHeartbeats 4000000 in
theorem Bnd_5 (a : Rn) (b : Rn) (w : World) (N : Nat) (hN : Sz w N) : Calls Tryd.prog 33 #[(Value.int .i64 5), rV a, rV b] w fun e w' => e = .returned (.tuple #[rV (bnd5 a b).1, rV (bnd5 a b).2.1, .bool (bnd5 a b).2.2]) ∧ Below N w w' := by
  obtain ⟨rr, er⟩ : ∃ rr, rr = (bnd5 a b) := ⟨_, rfl⟩
  rw [← er]
  have ER := hid er
  clear er
  unfold rV
  go_enter Tryd.func33, Tryd.ntmps33
  go_upto_region 1 with (first
    | (refine wpl_box rfl 27 (.tmp 1) rfl 6 _ rfl (N) hN ?_; intro w1 hN1 hb1 hh1)
    | (refine wpl_box rfl 27 (.tmp 2) rfl 6 _ rfl (N + 1) hN1 ?_; intro w2 hN2 hb2 hh2)
    | (refine wpl_alloc rfl 27 rfl 6 (rC zeroR) zeR (N + 1 + 1) hN2 ?_; intro w3 hN3 hb3 hh3)
    | (refine wpl_alloc rfl 27 rfl 6 (rC zeroR) zeR (N + 1 + 1 + 1) hN3 ?_; intro w4 hN4 hb4 hh4)
    | fail)
  have lo0 : Below N w w4 := (((hb1.trans (hb2.mono (by omega))).trans (hb3.mono (by omega))).trans (hb4.mono (by omega)))
  have k1 := (((hh1.below hb2 (by omega)).below hb3 (by omega)).below hb4 (by omega))
  have k2 := ((hh2.below hb3 (by omega)).below hb4 (by omega))
  have k3 := (hh3.below hb4 (by omega))
  have k4 := hh4
  clear hh1 hb1 hh2 hb2 hh3 hb3 hh4 hb4 hN1 hN2 hN3
  go_upto_region 25 with fail
  refine wp_region_any (by kernel_rfl) ?_
  replace k1 : Has w4.drew N 27 6 (rC a) := k1
  replace k2 : Has w4.drew (N + 1) 27 6 (rC b) := k2
  replace k3 : Has w4.drew (N + 1 + 1) 27 6 (rC zeroR) := k3
  replace k4 : Has w4.drew (N + 1 + 1 + 1) 27 6 (rC zeroR) := k4
  replace hN4 : Sz w4.drew (N + 1 + 1 + 1 + 1) := hN4
  replace lo0 : Below N w w4.drew := lo0.drew
  change wpAny _ _ _ _ _ _ _ (World.drew _)
  generalize w4.drew = xw5 at *
  refine wpAny_pot (rem := [0, 1, 2, 3, 4, 5]) (FG (N + 1 + 1 + 1 + 1) (fun j => if j = 0 then some (Value.agg (cellsOf (rC a) 6)) else if j = 1 then some (Value.agg (cellsOf (rC b) 6)) else if j = 2 then some (Value.agg (cellsOf (rC (withoutF a b)) 6)) else if j = 3 then some (Value.agg (cellsOf (rC b) 6)) else if j = 4 then some (Value.agg (cellsOf (rC a) 6)) else some (Value.agg (cellsOf (rC (withoutF b a)) 6))) (fun j => (0, 0, fun _ => undef))) (TwoN (fun j => if j = 0 then some (Value.agg (cellsOf (rC a) 6)) else if j = 1 then some (Value.agg (cellsOf (rC b) 6)) else if j = 2 then some (Value.agg (cellsOf (rC (withoutF a b)) 6)) else if j = 3 then some (Value.agg (cellsOf (rC b) 6)) else if j = 4 then some (Value.agg (cellsOf (rC a) 6)) else some (Value.agg (cellsOf (rC (withoutF b a)) 6)))) (Below (N + 1 + 1 + 1 + 1) xw5) _ _ _ _ (by kernel_rfl) (size_dstG (by kernel_rfl)) (Below.refl _ _) ?_ ?_
  · intro i hi ac wa hI ha hv
    simp only [List.mem_cons, List.not_mem_nil, or_false] at hi
    rcases hi with rfl | rfl | rfl | rfl | rfl | rfl
    · exact potg_run rfl rfl (Value.agg (cellsOf (rC a) 6)) rfl (run_rw 27 (.tmp 4) rfl N (ha 4 (not_dstG (by kernel_rfl))) 27 6 _ (Has.below k1 hI (Has.ltN k1 hN4)) undR szR) hN4 hI
    · exact potg_run rfl rfl (Value.agg (cellsOf (rC b) 6)) rfl (run_rw 27 (.tmp 5) rfl (N + 1) (ha 5 (not_dstG (by kernel_rfl))) 27 6 _ (Has.below k2 hI (Has.ltN k2 hN4)) undR szR) hN4 hI
    · obtain ⟨v0, hv0a, hv0b⟩ := hv 0 (by simp) (by kernel_rfl)
      have ev0 := hv0b.val rfl
      subst ev0
      obtain ⟨v1, hv1a, hv1b⟩ := hv 1 (by simp) (by kernel_rfl)
      have ev1 := hv1b.val rfl
      subst ev1
      exact potg_cl rfl rfl 57 _ _ rfl #[(Value.agg (cellsOf (rC a) 6)), (Value.agg (cellsOf (rC b) 6))] (by simp only [List.map_toArray, List.map_cons, List.map_nil, (show ac.eval (.tmp 112) = (Value.agg (cellsOf (rC a) 6)) from (hv0a 112 rfl)), (show ac.eval (.tmp 113) = (Value.agg (cellsOf (rC b) 6)) from (hv1a 113 rfl))] <;> rfl) (by kernel_rfl) (Value.agg (cellsOf (rC (withoutF a b)) 6)) (fun K hK => Without_any a b wa K hK) rfl hN4 hI
    · exact potg_run rfl rfl (Value.agg (cellsOf (rC b) 6)) rfl (run_rw 27 (.tmp 5) rfl (N + 1) (ha 5 (not_dstG (by kernel_rfl))) 27 6 _ (Has.below k2 hI (Has.ltN k2 hN4)) undR szR) hN4 hI
    · exact potg_run rfl rfl (Value.agg (cellsOf (rC a) 6)) rfl (run_rw 27 (.tmp 4) rfl N (ha 4 (not_dstG (by kernel_rfl))) 27 6 _ (Has.below k1 hI (Has.ltN k1 hN4)) undR szR) hN4 hI
    · obtain ⟨v3, hv3a, hv3b⟩ := hv 3 (by simp) (by kernel_rfl)
      have ev3 := hv3b.val rfl
      subst ev3
      obtain ⟨v4, hv4a, hv4b⟩ := hv 4 (by simp) (by kernel_rfl)
      have ev4 := hv4b.val rfl
      subst ev4
      exact potg_cl rfl rfl 57 _ _ rfl #[(Value.agg (cellsOf (rC b) 6)), (Value.agg (cellsOf (rC a) 6))] (by simp only [List.map_toArray, List.map_cons, List.map_nil, (show ac.eval (.tmp 115) = (Value.agg (cellsOf (rC b) 6)) from (hv3a 115 rfl)), (show ac.eval (.tmp 116) = (Value.agg (cellsOf (rC a) 6)) from (hv4a 116 rfl))] <;> rfl) (by kernel_rfl) (Value.agg (cellsOf (rC (withoutF b a)) 6)) (fun K hK => Without_any b a wa K hK) rfl hN4 hI
  · intro vals w5_6_ hb5_6_ hF hG
    have e_6_0 := (hF 0 (by simp)).val rfl
    have e_6_1 := (hF 1 (by simp)).val rfl
    have e_6_2 := (hF 2 (by simp)).val rfl
    have e_6_3 := (hF 3 (by simp)).val rfl
    have e_6_4 := (hF 4 (by simp)).val rfl
    have e_6_5 := (hF 5 (by simp)).val rfl
    clear hF hG
    simp only [List.foldl_cons, List.foldl_nil, dstOf, List.getElem?_toArray, List.getElem?_cons_succ, List.getElem?_cons_zero, Option.bind_some, Act.put, List.setIfInBounds_toArray, List.set_cons_succ, List.set_cons_zero, e_6_0, e_6_1, e_6_2, e_6_3, e_6_4, e_6_5]
    clear e_6_0 e_6_1 e_6_2 e_6_3 e_6_4 e_6_5
    refine wpAny_chain [6, 7, 8] _ _ _ _ (by kernel_rfl) (by decide) ?_
    simp only [List.filterMap_cons, List.filterMap_nil, List.getElem?_toArray, List.getElem?_cons_succ, List.getElem?_cons_zero]
    have k7 := k1.below hb5_6_ (by omega)
    have k8 := k2.below hb5_6_ (by omega)
    have k9 := k3.below hb5_6_ (by omega)
    have k10 := k4.below hb5_6_ (by omega)
    have lo11 := lo0.trans (hb5_6_.mono (by omega))
    clear k1 k2 k3 k4 lo0 hb5_6_
    refine wpl_store rfl 27 (.tmp 6) (.tmp 114) rfl (N + 1 + 1) 6 (rC (withoutF a b)) rfl rfl 27 _ k9 szR (fun j _ => rC_one _ j) ?_
    intro xw12 t13 k14
    have k15 := k7.touch t13 (by omega)
    have k16 := k8.touch t13 (by omega)
    have k17 := k10.touch t13 (by omega)
    have lo18 := t13.below lo11 (by omega)
    clear k9 k7 k8 k10 lo11 t13
    refine wpl_store rfl 27 (.tmp 7) (.tmp 117) rfl (N + 1 + 1 + 1) 6 (rC (withoutF b a)) rfl rfl 27 _ k17 szR (fun j _ => rC_one _ j) ?_
    intro xw19 t20 k21
    have k22 := k15.touch t20 (by omega)
    have k23 := k16.touch t20 (by omega)
    have k24 := k14.touch t20 (by omega)
    have lo25 := t20.below lo18 (by omega)
    clear k17 k15 k16 k14 lo18 t20
    refine wpl_run rfl (Value.bool true) _ (run_as (x := (.const (.bool true))) rfl _ rfl) ?_; simp only [pA]
    obtain ⟨M26, hM26⟩ := sz_some xw19
    have lt_27 := k22.ltN hM26
    have lt_28 := k23.ltN hM26
    have lt_29 := k24.ltN hM26
    have lt_30 := k21.ltN hM26
    go_wp2_with fail
    refine post_rrb rfl (N + 1 + 1) (N + 1 + 1 + 1) rfl rfl k24 k21 undR undR szR szR rfl rfl ?_
    exact ⟨by rw [ER.out]; first | rfl | (simp only [bnd5, bB] <;> rfl), lo25⟩
def bndn (a : Rn) (b : Rn) : Rn × Rn × Bool :=
  ((disjointF a b).1, (disjointF a b).2.1, (disjointF a b).2.2)
set_option maxRecDepth 100000 in
set_option maxHeartbeats 4000000 in
theorem Bnd_n (a : Rn) (b : Rn) (w : World) (N : Nat) (hN : Sz w N) : Calls Tryd.prog 33 #[(Value.int .i64 (-1)), rV a, rV b] w fun e w' => e = .returned (.tuple #[rV (bndn a b).1, rV (bndn a b).2.1, .bool (bndn a b).2.2]) ∧ Below N w w' := by
  obtain ⟨rr, er⟩ : ∃ rr, rr = (bndn a b) := ⟨_, rfl⟩
  rw [← er]
  have ER := hid er
  clear er
  unfold rV
  go_enter Tryd.func33, Tryd.ntmps33
  go_upto_region 1 with (first
    | (refine wpl_box rfl 27 (.tmp 1) rfl 6 _ rfl (N) hN ?_; intro w1 hN1 hb1 hh1)
    | (refine wpl_box rfl 27 (.tmp 2) rfl 6 _ rfl (N + 1) hN1 ?_; intro w2 hN2 hb2 hh2)
    | (refine wpl_alloc rfl 27 rfl 6 (rC zeroR) zeR (N + 1 + 1) hN2 ?_; intro w3 hN3 hb3 hh3)
    | (refine wpl_alloc rfl 27 rfl 6 (rC zeroR) zeR (N + 1 + 1 + 1) hN3 ?_; intro w4 hN4 hb4 hh4)
    | fail)
  have lo0 : Below N w w4 := (((hb1.trans (hb2.mono (by omega))).trans (hb3.mono (by omega))).trans (hb4.mono (by omega)))
  have k1 := (((hh1.below hb2 (by omega)).below hb3 (by omega)).below hb4 (by omega))
  have k2 := ((hh2.below hb3 (by omega)).below hb4 (by omega))
  have k3 := (hh3.below hb4 (by omega))
  have k4 := hh4
  clear hh1 hb1 hh2 hb2 hh3 hb3 hh4 hb4 hN1 hN2 hN3
  go_upto_region 27 with fail
  refine wp_region_lit ?_
  try simp only [pA]
  change wpList _ _ _ ((_ :: _ :: _ :: _ :: _ :: _ :: []) ++ (_ :: _ :: _ :: [])) _ _
  refine wpList_prefix (C := fun w' => ∃ x : Later (N + 1 + 1 + 1 + 1) w4, w' = x.w') _ _ _ _ ⟨⟨_, Below.refl _ _⟩, rfl⟩ ?_
  refine later_row hN4 27 (.tmp 4) rfl (N) rfl 27 6 _ k1 undR szR (by rfl) ?_; simp only [pA]
  refine later_row hN4 27 (.tmp 5) rfl ((N + 1)) rfl 27 6 _ k2 undR szR (by rfl) ?_; simp only [pA]
  go_big_quiet_step ((go_at_call 58; exact later_of hN4 _ (fun K hK hKN => Disjoint_any a b _ K hK)))
  iterate 3 (go_big_quiet_step (fail))
  refine wpQuiet_nil (laterE hN4 ?_)
  intro xw5 M6 hbxw5 hM6 lM6
  have k7 := k1.below hbxw5 (by omega)
  have k8 := k2.below hbxw5 (by omega)
  have k9 := k3.below hbxw5 (by omega)
  have k10 := k4.below hbxw5 (by omega)
  have lo11 := lo0.trans (hbxw5.mono (by omega))
  clear k1 k2 k3 k4 lo0 hbxw5
  refine wpl_store rfl 27 (.tmp 6) (.tmp 123) rfl (N + 1 + 1) 6 (rC (disjointF a b).1) rfl rfl 27 _ k9 szR (fun j _ => rC_one _ j) ?_
  intro xw12 t13 k14; try simp only [pA]
  have k15 := k7.touch t13 (by omega)
  have k16 := k8.touch t13 (by omega)
  have k17 := k10.touch t13 (by omega)
  have lo18 := t13.below lo11 (by omega)
  have h19 := t13.sz hM6
  clear k9 k7 k8 k10 lo11 hM6 t13
  refine wpl_store rfl 27 (.tmp 7) (.tmp 124) rfl (N + 1 + 1 + 1) 6 (rC (disjointF a b).2.1) rfl rfl 27 _ k17 szR (fun j _ => rC_one _ j) ?_
  intro xw20 t21 k22; try simp only [pA]
  have k23 := k15.touch t21 (by omega)
  have k24 := k16.touch t21 (by omega)
  have k25 := k14.touch t21 (by omega)
  have lo26 := t21.below lo18 (by omega)
  have h27 := t21.sz h19
  clear k17 k15 k16 k14 lo18 h19 t21
  refine wpl_run rfl (Value.bool (disjointF a b).2.2) _ (run_as (x := (.tmp 125)) rfl _ rfl) ?_; simp only [pA]
  obtain ⟨M28, hM28⟩ := sz_some xw20
  have lt_29 := k23.ltN hM28
  have lt_30 := k24.ltN hM28
  have lt_31 := k25.ltN hM28
  have lt_32 := k22.ltN hM28
  go_wp2_with fail
  refine post_rrb rfl (N + 1 + 1) (N + 1 + 1 + 1) rfl rfl k25 k22 undR undR szR szR rfl rfl ?_
  exact ⟨by rw [ER.out]; first | rfl | (simp only [bndn, bB] <;> rfl), lo26⟩
def bndo (z : Int) (a : Rn) (b : Rn) : Rn × Rn × Bool :=
  (a, b, true)
set_option maxRecDepth 100000 in
set_option maxHeartbeats 4000000 in
theorem Bnd_o (z : Int) (a : Rn) (b : Rn) (w : World) (N : Nat) (hN : Sz w N) (h1 : (z == 1) = false) (h2 : (z == 2) = false) (h3 : (z == 3) = false) (h10 : (z == 10) = false) (h11 : (z == 11) = false) (h6 : (z == 6) = false) (h7 : (z == 7) = false) (h12 : (z == 12) = false) (h13 : (z == 13) = false) (h5 : (z == 5) = false) (hn : (z == (-1)) = false) : Calls Tryd.prog 33 #[(Value.int .i64 z), rV a, rV b] w fun e w' => e = .returned (.tuple #[rV (bndo z a b).1, rV (bndo z a b).2.1, .bool (bndo z a b).2.2]) ∧ Below N w w' := by
  obtain ⟨rr, er⟩ : ∃ rr, rr = (bndo z a b) := ⟨_, rfl⟩
  rw [← er]
  have ER := hid er
  clear er
  unfold rV
  go_enter Tryd.func33, Tryd.ntmps33
  go_upto_region 1 with (first
    | (refine wpl_box rfl 27 (.tmp 1) rfl 6 _ rfl (N) hN ?_; intro w1 hN1 hb1 hh1)
    | (refine wpl_box rfl 27 (.tmp 2) rfl 6 _ rfl (N + 1) hN1 ?_; intro w2 hN2 hb2 hh2)
    | (refine wpl_alloc rfl 27 rfl 6 (rC zeroR) zeR (N + 1 + 1) hN2 ?_; intro w3 hN3 hb3 hh3)
    | (refine wpl_alloc rfl 27 rfl 6 (rC zeroR) zeR (N + 1 + 1 + 1) hN3 ?_; intro w4 hN4 hb4 hh4)
    | fail)
  have lo0 : Below N w w4 := (((hb1.trans (hb2.mono (by omega))).trans (hb3.mono (by omega))).trans (hb4.mono (by omega)))
  have k1 := (((hh1.below hb2 (by omega)).below hb3 (by omega)).below hb4 (by omega))
  have k2 := ((hh2.below hb3 (by omega)).below hb4 (by omega))
  have k3 := (hh3.below hb4 (by omega))
  have k4 := hh4
  clear hh1 hb1 hh2 hb2 hh3 hb3 hh4 hb4 hN1 hN2 hN3
  go_upto_region 28 with fail
  refine wp_region_held (S := fun w' => (Has w' (N + 1) 27 6 (rC b)) ∧ (Has w' N 27 6 (rC a))) (by kernel_rfl) ?_
  replace k1 : Has w4.drew N 27 6 (rC a) := k1
  replace k2 : Has w4.drew (N + 1) 27 6 (rC b) := k2
  replace k3 : Has w4.drew (N + 1 + 1) 27 6 (rC zeroR) := k3
  replace k4 : Has w4.drew (N + 1 + 1 + 1) 27 6 (rC zeroR) := k4
  replace hN4 : Sz w4.drew (N + 1 + 1 + 1 + 1) := hN4
  replace lo0 : Below N w w4.drew := lo0.drew
  change wpAnyH _ _ _ _ _ _ _ _ (World.drew _)
  generalize w4.drew = xw5 at *
  refine held_take (i := 0) (v := (Value.agg (cellsOf (rC a) 6))) (d := some 126) rfl (by kernel_rfl) (by kernel_rfl) (by kernel_rfl) (by kernel_rfl) (fun _ _ _ h => h) (Or.inl ⟨by rfl, fun wq ⟨hq0, hq1⟩ => run_rw 27 (.tmp 4) rfl N rfl 27 6 _ hq1 undR szR⟩) ⟨k2, k1⟩ ?_; simp only [pA]
  refine held_take (i := 1) (v := (Value.agg (cellsOf (rC b) 6))) (d := some 127) rfl (by kernel_rfl) (by kernel_rfl) (by kernel_rfl) (by kernel_rfl) (fun _ _ _ h => h) (Or.inl ⟨by rfl, fun wq ⟨hq0, hq1⟩ => run_rw 27 (.tmp 5) rfl (N + 1) rfl 27 6 _ hq0 undR szR⟩) ⟨k2, k1⟩ ?_; simp only [pA]
  refine wpAnyH_all (rs := [2]) (by kernel_rfl) (by simp) ?_
  intro iq hiq; simp only [List.mem_singleton] at hiq; subst hiq
  refine opg_list rfl ?_
  refine wpl_storeN (by rfl) (by kernel_rfl) 27 (.tmp 6) (.tmp 126) rfl (N + 1 + 1) 6 (rC a) rfl rfl 27 _ k3 szR (fun j _ => rC_one _ j) ?_
  intro xw6 t7 k8; try simp only [pA]
  have k9 := k1.touch t7 (by omega)
  have k10 := k2.touch t7 (by omega)
  have k11 := k4.touch t7 (by omega)
  have lo12 := t7.below lo0 (by omega)
  have h13 := t7.sz hN4
  clear k3 k1 k2 k4 lo0 hN4 t7
  refine ⟨⟨k10, k9⟩, ?_⟩
  refine wpAnyH_all (rs := [3]) (by kernel_rfl) (by simp) ?_
  intro iq hiq; simp only [List.mem_singleton] at hiq; subst hiq
  refine opg_list rfl ?_
  refine wpl_storeN (by rfl) (by kernel_rfl) 27 (.tmp 7) (.tmp 127) rfl (N + 1 + 1 + 1) 6 (rC b) rfl rfl 27 _ k11 szR (fun j _ => rC_one _ j) ?_
  intro xw14 t15 k16; try simp only [pA]
  have k17 := k9.touch t15 (by omega)
  have k18 := k10.touch t15 (by omega)
  have k19 := k8.touch t15 (by omega)
  have lo20 := t15.below lo12 (by omega)
  have h21 := t15.sz h13
  clear k11 k9 k10 k8 lo12 h13 t15
  refine ⟨⟨k18, k17⟩, ?_⟩
  refine held_take (i := 4) (v := (Value.bool true)) (d := some 8) rfl (by kernel_rfl) (by kernel_rfl) (by kernel_rfl) (by kernel_rfl) (fun _ _ _ h => h) (Or.inl ⟨by rfl, fun wq ⟨hq0, hq1⟩ => run_as (x := (.const (.bool true))) rfl wq rfl⟩) ⟨k18, k17⟩ ?_; simp only [pA]
  refine wpAnyH_done (by kernel_rfl) ?_ _
  obtain ⟨M22, hM22⟩ := sz_some xw14
  have lt_23 := k17.ltN hM22
  have lt_24 := k18.ltN hM22
  have lt_25 := k19.ltN hM22
  have lt_26 := k16.ltN hM22
  go_wp2_with fail
  refine post_rrb rfl (N + 1 + 1) (N + 1 + 1 + 1) rfl rfl k19 k16 undR undR szR szR rfl rfl ?_
  exact ⟨by rw [ER.out]; first | rfl | (simp only [bndo, bB] <;> rfl), lo20⟩
end Go.Proofs.YtbbfdehipgkjmaaDoor
