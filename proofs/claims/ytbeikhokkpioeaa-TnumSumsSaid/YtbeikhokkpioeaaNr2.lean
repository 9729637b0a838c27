/- Contracts of the document's bits: the lower ones, shifted ones. -/
import Derived.Test.YtbeikhokkpioeaaNr1
namespace Go.Proofs.Ytbeikhokkpioeaa
open Go Go.RowKit
def rLow (a : Nm) (n : Nat) : Nm := rN (rBits a) n
theorem rN_same {y z : Nat → Bool × Bool} : ∀ n, (∀ i, i < n → y i = z i) → rN y n = rN z n
  | 0, _ => rfl
  | n + 1, h => by show rSet (rN y n) n (y n) = rSet (rN z n) n (z n); rw [rN_same n (fun i hi => h i (by omega)), h n (by omega)]
theorem rSet_no (o : Nm) (i : Nat) (x : Bool) : rSet o i (x, false) = o := by unfold rSet; cases x <;> rfl
/-- Where a bit comes from. -/
def rFrom (i k : Nat) (left : Bool) : Int := if left then (i : Int) - (k : Int) else (i : Int) + (k : Int)
def rShY (a : Nm) (k : Nat) (left : Bool) (i : Nat) : Bool × Bool := if 0 ≤ rFrom i k left ∧ rFrom i k left < 64 then rBits a (rFrom i k left).toNat else (true, false)
def rShift (a : Nm) (k : Nat) (left : Bool) : Nm := rN (rShY a k left) 64
set_option maxRecDepth 100000 in
set_option maxHeartbeats 2000000 in
theorem RLow_any (a : Nm) (n : Nat) (hn : n ≤ 64) (w : World) (N : Nat) (hN : Sz w N) : Calls Try.prog 30 #[nV a, .int .i64 (n : Int)] w fun e w' => e = .returned (nV (rLow a n)) ∧ Below N w w' := by
  obtain ⟨dU, u1, u2⟩ := undU
  unfold rLow
  unfold nV
  go_enter Try.func30, Try.ntmps30
  go_upto_region 1 with (first
    | (refine wpl_box rfl 24 (.tmp 0) rfl 2 _ rfl (N) hN ?_; intro w1 hN1 hb1 hh1)
    | (refine wpl_alloc rfl 24 rfl 2 (nC zeroN) zeU (N + 1) hN1 ?_; intro w2 hN2 hb2 hh2)
    | fail)
  have lo0 : Below N w w2 := (hb1.trans (hb2.mono (by omega)))
  have k1 := (hh1.below hb2 (by omega))
  have k2 := hh2
  clear hh1 hb1 hh2 hb2 hN1
  go_upto_region 1 with fail
  refine wp_region_lit ?_
  try simp only [Act.put, List.setIfInBounds_toArray, List.set_cons_succ, List.set_cons_zero]
  obtain ⟨b_xw3, eb_xw3⟩ : ∃ b_xw3, b_xw3 = (N + 1 + 1) := ⟨_, rfl⟩
  have hzb_xw3 : Sz w2 b_xw3 := by rw [eb_xw3]; exact hN2
  have lob_xw3 : (N + 1 + 1) ≤ b_xw3 := by omega
  have upb_xw3 : b_xw3 ≤ (N + 1 + 1) := by omega
  clear eb_xw3
  refine wpl_alloc rfl 24 rfl 2 (nC zeroN) zeU b_xw3 hzb_xw3 ?_
  intro xw3 hMxw3 hbxw3 hhxw3; simp only [Act.put, List.setIfInBounds_toArray, List.set_cons_succ, List.set_cons_zero]
  have k4 := k1.below hbxw3 (by omega)
  have k5 := k2.below hbxw3 (by omega)
  have lo6 := lo0.trans (hbxw3.mono (by omega))
  clear k1 k2 lo0 hbxw3 hzb_xw3
  obtain ⟨M7, eM7⟩ : ∃ M7, M7 = b_xw3 + 1 := ⟨_, rfl⟩
  rw [← eM7] at hMxw3
  have loM7 : b_xw3 + 1 ≤ M7 := by omega
  have upM7 : M7 ≤ b_xw3 + 1 := by omega
  clear eM7
  go_wp2_with fail
  go_loopg [6] (n) (fun g x6 wr => ∃ k : Nat, k ≤ n ∧ g = n - k ∧ x6 = .int .i64 (k : Int) ∧ Has wr N 24 2 (nC a) ∧ Has wr (N + 1) 24 2 (nC zeroN) ∧ Has wr b_xw3 24 2 (nC (rN (rBits a) k)) ∧ Below N w wr)
  case atStart => exact ⟨0, by omega, rfl, rfl, k4, k5, hhxw3, lo6⟩
  case round =>
    clear k4 k5 hhxw3 lo6
    obtain ⟨k, hkk, rfl, rfl, k8, k9, k10, lo11⟩ := hrel
    obtain ⟨M12, hM12⟩ := sz_some wr
    have lt_13 := k8.ltN hM12
    have lt_14 := k9.ltN hM12
    have lt_15 := k10.ltN hM12
    have k0 : (0 : Int) ≤ (k : Int) := by omega
    by_cases hlt : k < n
    · have t1 : (k : Int) < (n : Int) := by omega
      go_upto_region 5 with fail
      refine wp_region_any (by kernel_rfl) ?_
      replace k8 : Has wr.drew N 24 2 (nC a) := k8
      replace k9 : Has wr.drew (N + 1) 24 2 (nC zeroN) := k9
      replace k10 : Has wr.drew b_xw3 24 2 (nC (rN (rBits a) k)) := k10
      replace hM12 : Sz wr.drew M12 := hM12
      replace lo11 : Below N w wr.drew := lo11.drew
      change wpAny _ _ _ _ _ _ _ (World.drew _)
      generalize wr.drew = xw16 at *
      refine wpAny_pot (rem := [0, 1, 2, 3, 4, 5]) (FG M12 (fun j => if j = 0 then some (Value.agg (cellsOf (nC (rN (rBits a) k)) 2)) else if j = 1 then some (Value.int .i64 (k : Int)) else if j = 2 then some (Value.agg (cellsOf (nC a) 2)) else if j = 3 then some (Value.int .i64 (k : Int)) else if j = 4 then some (Value.agg (cellsOf (bC (rBits a k)) 2)) else some (Value.agg (cellsOf (nC (rSet (rN (rBits a) k) k (rBits a k))) 2))) (fun j => (0, 0, fun _ => undef))) (TwoN (fun j => if j = 0 then some (Value.agg (cellsOf (nC (rN (rBits a) k)) 2)) else if j = 1 then some (Value.int .i64 (k : Int)) else if j = 2 then some (Value.agg (cellsOf (nC a) 2)) else if j = 3 then some (Value.int .i64 (k : Int)) else if j = 4 then some (Value.agg (cellsOf (bC (rBits a k)) 2)) else some (Value.agg (cellsOf (nC (rSet (rN (rBits a) k) k (rBits a k))) 2)))) (Below M12 xw16) _ _ _ _ (by kernel_rfl) (size_dstG (by kernel_rfl)) (Below.refl _ _) ?_ ?_
      · intro i hi ac wa hI ha hv
        simp only [List.mem_cons, List.not_mem_nil, or_false] at hi
        rcases hi with rfl | rfl | rfl | rfl | rfl | rfl
        · exact potg_run rfl rfl (Value.agg (cellsOf (nC (rN (rBits a) k)) 2)) rfl (run_rw 24 (.tmp 5) rfl b_xw3 (ha 5 (not_dstG (by kernel_rfl))) 24 2 _ (Has.below k10 hI (Has.ltN k10 hM12)) undU szU) hM12 hI
        · exact potg_run rfl rfl (Value.int .i64 (k : Int)) rfl (run_mv (x := (.tmp 6)) rfl _ (ha 6 (not_dstG (by kernel_rfl)))) hM12 hI
        · exact potg_run rfl rfl (Value.agg (cellsOf (nC a) 2)) rfl (run_rw 24 (.tmp 2) rfl N (ha 2 (not_dstG (by kernel_rfl))) 24 2 _ (Has.below k8 hI (Has.ltN k8 hM12)) undU szU) hM12 hI
        · exact potg_run rfl rfl (Value.int .i64 (k : Int)) rfl (run_mv (x := (.tmp 6)) rfl _ (ha 6 (not_dstG (by kernel_rfl)))) hM12 hI
        · obtain ⟨v2, hv2a, hv2b⟩ := hv 2 (by simp) (by kernel_rfl)
          have ev2 := hv2b.val rfl
          subst ev2
          obtain ⟨v3, hv3a, hv3b⟩ := hv 3 (by simp) (by kernel_rfl)
          have ev3 := hv3b.val rfl
          subst ev3
          exact potg_cl rfl rfl 39 _ _ rfl #[(Value.agg (cellsOf (nC a) 2)), (Value.int .i64 (k : Int))] (by simp only [List.map_toArray, List.map_cons, List.map_nil, (show ac.eval (.tmp 14) = (Value.agg (cellsOf (nC a) 2)) from (hv2a 14 rfl)), (show ac.eval (.tmp 15) = (Value.int .i64 (k : Int)) from (hv3a 15 rfl))] <;> rfl) (by kernel_rfl) (Value.agg (cellsOf (bC (rBits a k)) 2)) (fun K hK => Bits_any a k wa K hK) rfl hM12 hI
        · obtain ⟨v0, hv0a, hv0b⟩ := hv 0 (by simp) (by kernel_rfl)
          have ev0 := hv0b.val rfl
          subst ev0
          obtain ⟨v1, hv1a, hv1b⟩ := hv 1 (by simp) (by kernel_rfl)
          have ev1 := hv1b.val rfl
          subst ev1
          obtain ⟨v4, hv4a, hv4b⟩ := hv 4 (by simp) (by kernel_rfl)
          have ev4 := hv4b.val rfl
          subst ev4
          exact potg_cl rfl rfl 40 _ _ rfl #[(Value.agg (cellsOf (nC (rN (rBits a) k)) 2)), (Value.int .i64 (k : Int)), (Value.agg (cellsOf (bC (rBits a k)) 2))] (by simp only [List.map_toArray, List.map_cons, List.map_nil, (show ac.eval (.tmp 12) = (Value.agg (cellsOf (nC (rN (rBits a) k)) 2)) from (hv0a 12 rfl)), (show ac.eval (.tmp 13) = (Value.int .i64 (k : Int)) from (hv1a 13 rfl)), (show ac.eval (.tmp 16) = (Value.agg (cellsOf (bC (rBits a k)) 2)) from (hv4a 16 rfl))] <;> rfl) (by kernel_rfl) (Value.agg (cellsOf (nC (rSet (rN (rBits a) k) k (rBits a k))) 2)) (fun K hK => Set_any (rN (rBits a) k) k (rBits a k) wa K hK) rfl hM12 hI
      · intro vals w5_17_ hb5_17_ hF hG
        have e_17_0 := (hF 0 (by simp)).val rfl
        have e_17_1 := (hF 1 (by simp)).val rfl
        have e_17_2 := (hF 2 (by simp)).val rfl
        have e_17_3 := (hF 3 (by simp)).val rfl
        have e_17_4 := (hF 4 (by simp)).val rfl
        have e_17_5 := (hF 5 (by simp)).val rfl
        clear hF hG
        simp only [List.foldl_cons, List.foldl_nil, dstOf, List.getElem?_toArray, List.getElem?_cons_succ, List.getElem?_cons_zero, Option.bind_some, Act.put, List.setIfInBounds_toArray, List.set_cons_succ, List.set_cons_zero, e_17_0, e_17_1, e_17_2, e_17_3, e_17_4, e_17_5]
        clear e_17_0 e_17_1 e_17_2 e_17_3 e_17_4 e_17_5
        refine wpAny_chain [6] _ _ _ _ (by kernel_rfl) (by decide) ?_
        simp only [List.filterMap_cons, List.filterMap_nil, List.getElem?_toArray, List.getElem?_cons_succ, List.getElem?_cons_zero]
        have k18 := k8.below hb5_17_ (by omega)
        have k19 := k9.below hb5_17_ (by omega)
        have k20 := k10.below hb5_17_ (by omega)
        have lo21 := lo11.trans (hb5_17_.mono (by omega))
        clear k8 k9 k10 lo11 hb5_17_
        refine wpl_store rfl 24 (.tmp 5) (.tmp 17) rfl b_xw3 2 (nC (rSet (rN (rBits a) k) k (rBits a k))) rfl rfl 24 _ k20 szU (fun j _ => nC_one _ j) ?_
        intro xw22 t23 k24
        have k25 := k18.touch t23 (by omega)
        have k26 := k19.touch t23 (by omega)
        have lo27 := t23.below lo21 (by omega)
        clear k20 k18 k19 lo21 t23
        obtain ⟨M28, hM28⟩ := sz_some xw22
        have lt_29 := k25.ltN hM28
        have lt_30 := k26.ltN hM28
        have lt_31 := k24.ltN hM28
        go_wp2_with fail
        go_roundg (n - (k + 1))
        case rel => exact ⟨k + 1, by omega, rfl, by simp, k25, k26, k24, lo27⟩
        case measure => omega
    · have ek : k = n := by omega
      subst ek
      have t2 : ¬ (k : Int) < (k : Int) := by omega
      go_upto_region 6 with fail
      refine wp_region_lit ?_
      try simp only [Act.put, List.setIfInBounds_toArray, List.set_cons_succ, List.set_cons_zero]
      refine wpl_run rfl (Value.agg (cellsOf (nC (rN (rBits a) k)) 2)) _ (run_rw 24 (.tmp 5) rfl b_xw3 rfl 24 2 _ k10 undU szU) ?_; simp only [Act.put, List.setIfInBounds_toArray, List.set_cons_succ, List.set_cons_zero]
      refine wpl_store rfl 24 (.tmp 4) (.tmp 18) rfl (N + 1) 2 (nC (rN (rBits a) k)) rfl rfl 24 _ k9 szU (fun j _ => nC_one _ j) ?_
      intro xw16 t17 k18; simp only [Act.put, List.setIfInBounds_toArray, List.set_cons_succ, List.set_cons_zero]
      have k19 := k8.touch t17 (by omega)
      have k20 := k10.touch t17 (by omega)
      have lo21 := t17.below lo11 (by omega)
      have h22 := t17.sz hM12
      clear k9 k8 k10 lo11 hM12 t17
      go_wp2_with fail
      refine post_n rfl (N + 1) rfl k18 ⟨dU, u1, u2⟩ szU rfl ?_
      exact ⟨rfl, lo21⟩
theorem sh_in {a : Nm} {s k : Nat} {l : Bool} (h0 : 0 ≤ rFrom k s l) (h1 : rFrom k s l < 64) : rN (rShY a s l) (k + 1) = rSet (rN (rShY a s l) k) k (rBits a (rFrom k s l).toNat) := by
  show rSet (rN (rShY a s l) k) k (rShY a s l k) = _
  unfold rShY; rw [if_pos ⟨h0, h1⟩]
theorem sh_out {a : Nm} {s k : Nat} {l : Bool} (h : ¬ (0 ≤ rFrom k s l ∧ rFrom k s l < 64)) : rN (rShY a s l) (k + 1) = rN (rShY a s l) k := by
  show rSet (rN (rShY a s l) k) k (rShY a s l k) = _
  rw [show rShY a s l k = (true, false) from by unfold rShY; rw [if_neg h]]
  exact rSet_no _ _ _
theorem Bits_at (a : Nm) (z : Int) (hz : 0 ≤ z) (w : World) (N : Nat) (hN : Sz w N) : Calls Try.prog 39 #[nV a, .int .i64 z] w fun e w' => e = .returned (bV (rBits a z.toNat)) ∧ Below N w w' := by
  have := Bits_any a z.toNat w N hN
  rw [Int.toNat_of_nonneg hz] at this; exact this
set_option maxRecDepth 100000 in
set_option maxHeartbeats 4000000 in
theorem RShift_any (a : Nm) (s : Nat) (l : Bool) (hs : s < 64) (w : World) (N : Nat) (hN : Sz w N) : Calls Try.prog 27 #[nV a, .int .i64 (s : Int), .bool l] w fun e w' => e = .returned (nV (rShift a s l)) ∧ Below N w w' := by
  obtain ⟨dU, u1, u2⟩ := undU
  have s0 : (0 : Int) ≤ (s : Int) := by omega
  have s1 : (s : Int) < 64 := by omega
  unfold rShift
  cases l
  · unfold nV
    go_enter Try.func27, Try.ntmps27
    go_upto_region 1 with (first
      | (refine wpl_box rfl 24 (.tmp 0) rfl 2 _ rfl (N) hN ?_; intro w1 hN1 hb1 hh1)
      | (refine wpl_alloc rfl 24 rfl 2 (nC zeroN) zeU (N + 1) hN1 ?_; intro w2 hN2 hb2 hh2)
      | fail)
    have lo0 : Below N w w2 := (hb1.trans (hb2.mono (by omega)))
    have k1 := (hh1.below hb2 (by omega))
    have k2 := hh2
    clear hh1 hb1 hh2 hb2 hN1
    go_upto_region 1 with fail
    refine wp_region_lit ?_
    try simp only [Act.put, List.setIfInBounds_toArray, List.set_cons_succ, List.set_cons_zero]
    obtain ⟨b_xw3, eb_xw3⟩ : ∃ b_xw3, b_xw3 = (N + 1 + 1) := ⟨_, rfl⟩
    have hzb_xw3 : Sz w2 b_xw3 := by rw [eb_xw3]; exact hN2
    have lob_xw3 : (N + 1 + 1) ≤ b_xw3 := by omega
    have upb_xw3 : b_xw3 ≤ (N + 1 + 1) := by omega
    clear eb_xw3
    refine wpl_alloc rfl 24 rfl 2 (nC zeroN) zeU b_xw3 hzb_xw3 ?_
    intro xw3 hMxw3 hbxw3 hhxw3; simp only [Act.put, List.setIfInBounds_toArray, List.set_cons_succ, List.set_cons_zero]
    have k4 := k1.below hbxw3 (by omega)
    have k5 := k2.below hbxw3 (by omega)
    have lo6 := lo0.trans (hbxw3.mono (by omega))
    clear k1 k2 lo0 hbxw3 hzb_xw3
    obtain ⟨M7, eM7⟩ : ∃ M7, M7 = b_xw3 + 1 := ⟨_, rfl⟩
    rw [← eM7] at hMxw3
    have loM7 : b_xw3 + 1 ≤ M7 := by omega
    have upM7 : M7 ≤ b_xw3 + 1 := by omega
    clear eM7
    go_wp2_with fail
    go_loopg [8, 9] (64) (fun g x8 x9 wr => ∃ k : Nat, k ≤ 64 ∧ g = 64 - k ∧ x8 = .int .i64 (k : Int) ∧ Has wr N 24 2 (nC a) ∧ Has wr (N + 1) 24 2 (nC zeroN) ∧ Has wr b_xw3 24 2 (nC (rN (rShY a s false) k)) ∧ Below N w wr)
    case atStart => exact ⟨0, by omega, rfl, rfl, k4, k5, hhxw3, lo6⟩
    case round =>
      clear k4 k5 hhxw3 lo6
      obtain ⟨k, hkk, rfl, rfl, k8, k9, k10, lo11⟩ := hrel
      obtain ⟨M12, hM12⟩ := sz_some wr
      have lt_13 := k8.ltN hM12
      have lt_14 := k9.ltN hM12
      have lt_15 := k10.ltN hM12
      have k0 : (0 : Int) ≤ (k : Int) := by omega
      by_cases hlt : k < 64
      · have t1 : (k : Int) < 64 := by omega
        by_cases hz : 0 ≤ ((k : Int) + (s : Int)) ∧ ((k : Int) + (s : Int)) < 64
        · obtain ⟨z0, z1⟩ := hz
          have HZ := hid z0
          have E := hid (sh_in (a := a) (s := s) (k := k) (l := false) z0 z1)
          go_upto_region 9 with fail
          refine wp_region_any (by kernel_rfl) ?_
          replace k8 : Has wr.drew N 24 2 (nC a) := k8
          replace k9 : Has wr.drew (N + 1) 24 2 (nC zeroN) := k9
          replace k10 : Has wr.drew b_xw3 24 2 (nC (rN (rShY a s false) k)) := k10
          replace hM12 : Sz wr.drew M12 := hM12
          replace lo11 : Below N w wr.drew := lo11.drew
          change wpAny _ _ _ _ _ _ _ (World.drew _)
          generalize wr.drew = xw16 at *
          refine wpAny_pot (rem := [0, 1, 2, 3, 4, 5]) (FG M12 (fun j => if j = 0 then some (Value.agg (cellsOf (nC (rN (rShY a s false) k)) 2)) else if j = 1 then some (Value.int .i64 (k : Int)) else if j = 2 then some (Value.agg (cellsOf (nC a) 2)) else if j = 3 then some (Value.int .i64 ((k : Int) + (s : Int))) else if j = 4 then some (Value.agg (cellsOf (bC (rBits a (((k : Int) + (s : Int))).toNat)) 2)) else some (Value.agg (cellsOf (nC (rSet (rN (rShY a s false) k) k (rBits a (((k : Int) + (s : Int))).toNat))) 2))) (fun j => (0, 0, fun _ => undef))) (TwoN (fun j => if j = 0 then some (Value.agg (cellsOf (nC (rN (rShY a s false) k)) 2)) else if j = 1 then some (Value.int .i64 (k : Int)) else if j = 2 then some (Value.agg (cellsOf (nC a) 2)) else if j = 3 then some (Value.int .i64 ((k : Int) + (s : Int))) else if j = 4 then some (Value.agg (cellsOf (bC (rBits a (((k : Int) + (s : Int))).toNat)) 2)) else some (Value.agg (cellsOf (nC (rSet (rN (rShY a s false) k) k (rBits a (((k : Int) + (s : Int))).toNat))) 2)))) (Below M12 xw16) _ _ _ _ (by kernel_rfl) (size_dstG (by kernel_rfl)) (Below.refl _ _) ?_ ?_
          · intro i hi ac wa hI ha hv
            simp only [List.mem_cons, List.not_mem_nil, or_false] at hi
            rcases hi with rfl | rfl | rfl | rfl | rfl | rfl
            · exact potg_run rfl rfl (Value.agg (cellsOf (nC (rN (rShY a s false) k)) 2)) rfl (run_rw 24 (.tmp 7) rfl b_xw3 (ha 7 (not_dstG (by kernel_rfl))) 24 2 _ (Has.below k10 hI (Has.ltN k10 hM12)) undU szU) hM12 hI
            · exact potg_run rfl rfl (Value.int .i64 (k : Int)) rfl (run_mv (x := (.tmp 8)) rfl _ (ha 8 (not_dstG (by kernel_rfl)))) hM12 hI
            · exact potg_run rfl rfl (Value.agg (cellsOf (nC a) 2)) rfl (run_rw 24 (.tmp 3) rfl N (ha 3 (not_dstG (by kernel_rfl))) 24 2 _ (Has.below k8 hI (Has.ltN k8 hM12)) undU szU) hM12 hI
            · exact potg_run rfl rfl (Value.int .i64 ((k : Int) + (s : Int))) rfl (run_mv (x := (.tmp 9)) rfl _ (ha 9 (not_dstG (by kernel_rfl)))) hM12 hI
            · obtain ⟨v2, hv2a, hv2b⟩ := hv 2 (by simp) (by kernel_rfl)
              have ev2 := hv2b.val rfl
              subst ev2
              obtain ⟨v3, hv3a, hv3b⟩ := hv 3 (by simp) (by kernel_rfl)
              have ev3 := hv3b.val rfl
              subst ev3
              exact potg_cl rfl rfl 39 _ _ rfl #[(Value.agg (cellsOf (nC a) 2)), (Value.int .i64 ((k : Int) + (s : Int)))] (by simp only [List.map_toArray, List.map_cons, List.map_nil, (show ac.eval (.tmp 29) = (Value.agg (cellsOf (nC a) 2)) from (hv2a 29 rfl)), (show ac.eval (.tmp 30) = (Value.int .i64 ((k : Int) + (s : Int))) from (hv3a 30 rfl))] <;> rfl) (by kernel_rfl) (Value.agg (cellsOf (bC (rBits a (((k : Int) + (s : Int))).toNat)) 2)) (fun K hK => Bits_at a ((k : Int) + (s : Int)) HZ.out wa K hK) rfl hM12 hI
            · obtain ⟨v0, hv0a, hv0b⟩ := hv 0 (by simp) (by kernel_rfl)
              have ev0 := hv0b.val rfl
              subst ev0
              obtain ⟨v1, hv1a, hv1b⟩ := hv 1 (by simp) (by kernel_rfl)
              have ev1 := hv1b.val rfl
              subst ev1
              obtain ⟨v4, hv4a, hv4b⟩ := hv 4 (by simp) (by kernel_rfl)
              have ev4 := hv4b.val rfl
              subst ev4
              exact potg_cl rfl rfl 40 _ _ rfl #[(Value.agg (cellsOf (nC (rN (rShY a s false) k)) 2)), (Value.int .i64 (k : Int)), (Value.agg (cellsOf (bC (rBits a (((k : Int) + (s : Int))).toNat)) 2))] (by simp only [List.map_toArray, List.map_cons, List.map_nil, (show ac.eval (.tmp 27) = (Value.agg (cellsOf (nC (rN (rShY a s false) k)) 2)) from (hv0a 27 rfl)), (show ac.eval (.tmp 28) = (Value.int .i64 (k : Int)) from (hv1a 28 rfl)), (show ac.eval (.tmp 31) = (Value.agg (cellsOf (bC (rBits a (((k : Int) + (s : Int))).toNat)) 2)) from (hv4a 31 rfl))] <;> rfl) (by kernel_rfl) (Value.agg (cellsOf (nC (rSet (rN (rShY a s false) k) k (rBits a (((k : Int) + (s : Int))).toNat))) 2)) (fun K hK => Set_any (rN (rShY a s false) k) k (rBits a (((k : Int) + (s : Int))).toNat) wa K hK) rfl hM12 hI
          · intro vals w5_17_ hb5_17_ hF hG
            have e_17_0 := (hF 0 (by simp)).val rfl
            have e_17_1 := (hF 1 (by simp)).val rfl
            have e_17_2 := (hF 2 (by simp)).val rfl
            have e_17_3 := (hF 3 (by simp)).val rfl
            have e_17_4 := (hF 4 (by simp)).val rfl
            have e_17_5 := (hF 5 (by simp)).val rfl
            clear hF hG
            simp only [List.foldl_cons, List.foldl_nil, dstOf, List.getElem?_toArray, List.getElem?_cons_succ, List.getElem?_cons_zero, Option.bind_some, Act.put, List.setIfInBounds_toArray, List.set_cons_succ, List.set_cons_zero, e_17_0, e_17_1, e_17_2, e_17_3, e_17_4, e_17_5]
            clear e_17_0 e_17_1 e_17_2 e_17_3 e_17_4 e_17_5
            refine wpAny_chain [6] _ _ _ _ (by kernel_rfl) (by decide) ?_
            simp only [List.filterMap_cons, List.filterMap_nil, List.getElem?_toArray, List.getElem?_cons_succ, List.getElem?_cons_zero]
            have k18 := k8.below hb5_17_ (by omega)
            have k19 := k9.below hb5_17_ (by omega)
            have k20 := k10.below hb5_17_ (by omega)
            have lo21 := lo11.trans (hb5_17_.mono (by omega))
            clear k8 k9 k10 lo11 hb5_17_
            refine wpl_store rfl 24 (.tmp 7) (.tmp 32) rfl b_xw3 2 (nC (rSet (rN (rShY a s false) k) k (rBits a (((k : Int) + (s : Int))).toNat))) rfl rfl 24 _ k20 szU (fun j _ => nC_one _ j) ?_
            intro xw22 t23 k24
            have k25 := k18.touch t23 (by omega)
            have k26 := k19.touch t23 (by omega)
            have lo27 := t23.below lo21 (by omega)
            clear k20 k18 k19 lo21 t23
            obtain ⟨M28, hM28⟩ := sz_some xw22
            have lt_29 := k25.ltN hM28
            have lt_30 := k26.ltN hM28
            have lt_31 := k24.ltN hM28
            go_wp2_with fail
            go_roundg (64 - (k + 1))
            case rel => exact ⟨k + 1, by omega, rfl, by simp, k25, k26, by rw [E.out]; exact k24, lo27⟩
            case measure => omega
        · have E := hid (sh_out (a := a) (s := s) (k := k) (l := false) hz)
          have z0 : 0 ≤ ((k : Int) + (s : Int)) := by omega
          have z1 : ¬ (((k : Int) + (s : Int)) < 64) := fun h => hz ⟨z0, h⟩
          clear hz
          go_wp2_with fail
          go_roundg (64 - (k + 1))
          case rel => exact ⟨k + 1, by omega, rfl, by simp, k8, k9, by rw [E.out]; exact k10, lo11⟩
          case measure => omega
      · have ek : k = 64 := by omega
        subst ek
        go_upto_region 10 with fail
        refine wp_region_lit ?_
        try simp only [Act.put, List.setIfInBounds_toArray, List.set_cons_succ, List.set_cons_zero]
        refine wpl_run rfl (Value.agg (cellsOf (nC (rN (rShY a s false) 64)) 2)) _ (run_rw 24 (.tmp 7) rfl b_xw3 rfl 24 2 _ k10 undU szU) ?_; simp only [Act.put, List.setIfInBounds_toArray, List.set_cons_succ, List.set_cons_zero]
        refine wpl_store rfl 24 (.tmp 6) (.tmp 33) rfl (N + 1) 2 (nC (rN (rShY a s false) 64)) rfl rfl 24 _ k9 szU (fun j _ => nC_one _ j) ?_
        intro xw16 t17 k18; simp only [Act.put, List.setIfInBounds_toArray, List.set_cons_succ, List.set_cons_zero]
        have k19 := k8.touch t17 (by omega)
        have k20 := k10.touch t17 (by omega)
        have lo21 := t17.below lo11 (by omega)
        have h22 := t17.sz hM12
        clear k9 k8 k10 lo11 hM12 t17
        go_wp2_with fail
        refine post_n rfl (N + 1) rfl k18 ⟨dU, u1, u2⟩ szU rfl ?_
        exact ⟨rfl, lo21⟩
  · unfold nV
    go_enter Try.func27, Try.ntmps27
    go_upto_region 1 with (first
      | (refine wpl_box rfl 24 (.tmp 0) rfl 2 _ rfl (N) hN ?_; intro w1 hN1 hb1 hh1)
      | (refine wpl_alloc rfl 24 rfl 2 (nC zeroN) zeU (N + 1) hN1 ?_; intro w2 hN2 hb2 hh2)
      | fail)
    have lo0 : Below N w w2 := (hb1.trans (hb2.mono (by omega)))
    have k1 := (hh1.below hb2 (by omega))
    have k2 := hh2
    clear hh1 hb1 hh2 hb2 hN1
    go_upto_region 1 with fail
    refine wp_region_lit ?_
    try simp only [Act.put, List.setIfInBounds_toArray, List.set_cons_succ, List.set_cons_zero]
    obtain ⟨b_xw3, eb_xw3⟩ : ∃ b_xw3, b_xw3 = (N + 1 + 1) := ⟨_, rfl⟩
    have hzb_xw3 : Sz w2 b_xw3 := by rw [eb_xw3]; exact hN2
    have lob_xw3 : (N + 1 + 1) ≤ b_xw3 := by omega
    have upb_xw3 : b_xw3 ≤ (N + 1 + 1) := by omega
    clear eb_xw3
    refine wpl_alloc rfl 24 rfl 2 (nC zeroN) zeU b_xw3 hzb_xw3 ?_
    intro xw3 hMxw3 hbxw3 hhxw3; simp only [Act.put, List.setIfInBounds_toArray, List.set_cons_succ, List.set_cons_zero]
    have k4 := k1.below hbxw3 (by omega)
    have k5 := k2.below hbxw3 (by omega)
    have lo6 := lo0.trans (hbxw3.mono (by omega))
    clear k1 k2 lo0 hbxw3 hzb_xw3
    obtain ⟨M7, eM7⟩ : ∃ M7, M7 = b_xw3 + 1 := ⟨_, rfl⟩
    rw [← eM7] at hMxw3
    have loM7 : b_xw3 + 1 ≤ M7 := by omega
    have upM7 : M7 ≤ b_xw3 + 1 := by omega
    clear eM7
    go_wp2_with fail
    go_loopg [8, 9] (64) (fun g x8 x9 wr => ∃ k : Nat, k ≤ 64 ∧ g = 64 - k ∧ x8 = .int .i64 (k : Int) ∧ Has wr N 24 2 (nC a) ∧ Has wr (N + 1) 24 2 (nC zeroN) ∧ Has wr b_xw3 24 2 (nC (rN (rShY a s true) k)) ∧ Below N w wr)
    case atStart => exact ⟨0, by omega, rfl, rfl, k4, k5, hhxw3, lo6⟩
    case round =>
      clear k4 k5 hhxw3 lo6
      obtain ⟨k, hkk, rfl, rfl, k8, k9, k10, lo11⟩ := hrel
      obtain ⟨M12, hM12⟩ := sz_some wr
      have lt_13 := k8.ltN hM12
      have lt_14 := k9.ltN hM12
      have lt_15 := k10.ltN hM12
      have k0 : (0 : Int) ≤ (k : Int) := by omega
      by_cases hlt : k < 64
      · have t1 : (k : Int) < 64 := by omega
        by_cases hz : 0 ≤ ((k : Int) - (s : Int)) ∧ ((k : Int) - (s : Int)) < 64
        · obtain ⟨z0, z1⟩ := hz
          have HZ := hid z0
          have E := hid (sh_in (a := a) (s := s) (k := k) (l := true) z0 z1)
          go_upto_region 9 with fail
          refine wp_region_any (by kernel_rfl) ?_
          replace k8 : Has wr.drew N 24 2 (nC a) := k8
          replace k9 : Has wr.drew (N + 1) 24 2 (nC zeroN) := k9
          replace k10 : Has wr.drew b_xw3 24 2 (nC (rN (rShY a s true) k)) := k10
          replace hM12 : Sz wr.drew M12 := hM12
          replace lo11 : Below N w wr.drew := lo11.drew
          change wpAny _ _ _ _ _ _ _ (World.drew _)
          generalize wr.drew = xw16 at *
          refine wpAny_pot (rem := [0, 1, 2, 3, 4, 5]) (FG M12 (fun j => if j = 0 then some (Value.agg (cellsOf (nC (rN (rShY a s true) k)) 2)) else if j = 1 then some (Value.int .i64 (k : Int)) else if j = 2 then some (Value.agg (cellsOf (nC a) 2)) else if j = 3 then some (Value.int .i64 ((k : Int) - (s : Int))) else if j = 4 then some (Value.agg (cellsOf (bC (rBits a (((k : Int) - (s : Int))).toNat)) 2)) else some (Value.agg (cellsOf (nC (rSet (rN (rShY a s true) k) k (rBits a (((k : Int) - (s : Int))).toNat))) 2))) (fun j => (0, 0, fun _ => undef))) (TwoN (fun j => if j = 0 then some (Value.agg (cellsOf (nC (rN (rShY a s true) k)) 2)) else if j = 1 then some (Value.int .i64 (k : Int)) else if j = 2 then some (Value.agg (cellsOf (nC a) 2)) else if j = 3 then some (Value.int .i64 ((k : Int) - (s : Int))) else if j = 4 then some (Value.agg (cellsOf (bC (rBits a (((k : Int) - (s : Int))).toNat)) 2)) else some (Value.agg (cellsOf (nC (rSet (rN (rShY a s true) k) k (rBits a (((k : Int) - (s : Int))).toNat))) 2)))) (Below M12 xw16) _ _ _ _ (by kernel_rfl) (size_dstG (by kernel_rfl)) (Below.refl _ _) ?_ ?_
          · intro i hi ac wa hI ha hv
            simp only [List.mem_cons, List.not_mem_nil, or_false] at hi
            rcases hi with rfl | rfl | rfl | rfl | rfl | rfl
            · exact potg_run rfl rfl (Value.agg (cellsOf (nC (rN (rShY a s true) k)) 2)) rfl (run_rw 24 (.tmp 7) rfl b_xw3 (ha 7 (not_dstG (by kernel_rfl))) 24 2 _ (Has.below k10 hI (Has.ltN k10 hM12)) undU szU) hM12 hI
            · exact potg_run rfl rfl (Value.int .i64 (k : Int)) rfl (run_mv (x := (.tmp 8)) rfl _ (ha 8 (not_dstG (by kernel_rfl)))) hM12 hI
            · exact potg_run rfl rfl (Value.agg (cellsOf (nC a) 2)) rfl (run_rw 24 (.tmp 3) rfl N (ha 3 (not_dstG (by kernel_rfl))) 24 2 _ (Has.below k8 hI (Has.ltN k8 hM12)) undU szU) hM12 hI
            · exact potg_run rfl rfl (Value.int .i64 ((k : Int) - (s : Int))) rfl (run_mv (x := (.tmp 9)) rfl _ (ha 9 (not_dstG (by kernel_rfl)))) hM12 hI
            · obtain ⟨v2, hv2a, hv2b⟩ := hv 2 (by simp) (by kernel_rfl)
              have ev2 := hv2b.val rfl
              subst ev2
              obtain ⟨v3, hv3a, hv3b⟩ := hv 3 (by simp) (by kernel_rfl)
              have ev3 := hv3b.val rfl
              subst ev3
              exact potg_cl rfl rfl 39 _ _ rfl #[(Value.agg (cellsOf (nC a) 2)), (Value.int .i64 ((k : Int) - (s : Int)))] (by simp only [List.map_toArray, List.map_cons, List.map_nil, (show ac.eval (.tmp 29) = (Value.agg (cellsOf (nC a) 2)) from (hv2a 29 rfl)), (show ac.eval (.tmp 30) = (Value.int .i64 ((k : Int) - (s : Int))) from (hv3a 30 rfl))] <;> rfl) (by kernel_rfl) (Value.agg (cellsOf (bC (rBits a (((k : Int) - (s : Int))).toNat)) 2)) (fun K hK => Bits_at a ((k : Int) - (s : Int)) HZ.out wa K hK) rfl hM12 hI
            · obtain ⟨v0, hv0a, hv0b⟩ := hv 0 (by simp) (by kernel_rfl)
              have ev0 := hv0b.val rfl
              subst ev0
              obtain ⟨v1, hv1a, hv1b⟩ := hv 1 (by simp) (by kernel_rfl)
              have ev1 := hv1b.val rfl
              subst ev1
              obtain ⟨v4, hv4a, hv4b⟩ := hv 4 (by simp) (by kernel_rfl)
              have ev4 := hv4b.val rfl
              subst ev4
              exact potg_cl rfl rfl 40 _ _ rfl #[(Value.agg (cellsOf (nC (rN (rShY a s true) k)) 2)), (Value.int .i64 (k : Int)), (Value.agg (cellsOf (bC (rBits a (((k : Int) - (s : Int))).toNat)) 2))] (by simp only [List.map_toArray, List.map_cons, List.map_nil, (show ac.eval (.tmp 27) = (Value.agg (cellsOf (nC (rN (rShY a s true) k)) 2)) from (hv0a 27 rfl)), (show ac.eval (.tmp 28) = (Value.int .i64 (k : Int)) from (hv1a 28 rfl)), (show ac.eval (.tmp 31) = (Value.agg (cellsOf (bC (rBits a (((k : Int) - (s : Int))).toNat)) 2)) from (hv4a 31 rfl))] <;> rfl) (by kernel_rfl) (Value.agg (cellsOf (nC (rSet (rN (rShY a s true) k) k (rBits a (((k : Int) - (s : Int))).toNat))) 2)) (fun K hK => Set_any (rN (rShY a s true) k) k (rBits a (((k : Int) - (s : Int))).toNat) wa K hK) rfl hM12 hI
          · intro vals w5_17_ hb5_17_ hF hG
            have e_17_0 := (hF 0 (by simp)).val rfl
            have e_17_1 := (hF 1 (by simp)).val rfl
            have e_17_2 := (hF 2 (by simp)).val rfl
            have e_17_3 := (hF 3 (by simp)).val rfl
            have e_17_4 := (hF 4 (by simp)).val rfl
            have e_17_5 := (hF 5 (by simp)).val rfl
            clear hF hG
            simp only [List.foldl_cons, List.foldl_nil, dstOf, List.getElem?_toArray, List.getElem?_cons_succ, List.getElem?_cons_zero, Option.bind_some, Act.put, List.setIfInBounds_toArray, List.set_cons_succ, List.set_cons_zero, e_17_0, e_17_1, e_17_2, e_17_3, e_17_4, e_17_5]
            clear e_17_0 e_17_1 e_17_2 e_17_3 e_17_4 e_17_5
            refine wpAny_chain [6] _ _ _ _ (by kernel_rfl) (by decide) ?_
            simp only [List.filterMap_cons, List.filterMap_nil, List.getElem?_toArray, List.getElem?_cons_succ, List.getElem?_cons_zero]
            have k18 := k8.below hb5_17_ (by omega)
            have k19 := k9.below hb5_17_ (by omega)
            have k20 := k10.below hb5_17_ (by omega)
            have lo21 := lo11.trans (hb5_17_.mono (by omega))
            clear k8 k9 k10 lo11 hb5_17_
            refine wpl_store rfl 24 (.tmp 7) (.tmp 32) rfl b_xw3 2 (nC (rSet (rN (rShY a s true) k) k (rBits a (((k : Int) - (s : Int))).toNat))) rfl rfl 24 _ k20 szU (fun j _ => nC_one _ j) ?_
            intro xw22 t23 k24
            have k25 := k18.touch t23 (by omega)
            have k26 := k19.touch t23 (by omega)
            have lo27 := t23.below lo21 (by omega)
            clear k20 k18 k19 lo21 t23
            obtain ⟨M28, hM28⟩ := sz_some xw22
            have lt_29 := k25.ltN hM28
            have lt_30 := k26.ltN hM28
            have lt_31 := k24.ltN hM28
            go_wp2_with fail
            go_roundg (64 - (k + 1))
            case rel => exact ⟨k + 1, by omega, rfl, by simp, k25, k26, by rw [E.out]; exact k24, lo27⟩
            case measure => omega
        · have E := hid (sh_out (a := a) (s := s) (k := k) (l := true) hz)
          have z1 : ¬ (0 ≤ ((k : Int) - (s : Int))) := fun h => hz ⟨h, by omega⟩
          clear hz
          go_wp2_with fail
          go_roundg (64 - (k + 1))
          case rel => exact ⟨k + 1, by omega, rfl, by simp, k8, k9, by rw [E.out]; exact k10, lo11⟩
          case measure => omega
      · have ek : k = 64 := by omega
        subst ek
        go_upto_region 10 with fail
        refine wp_region_lit ?_
        try simp only [Act.put, List.setIfInBounds_toArray, List.set_cons_succ, List.set_cons_zero]
        refine wpl_run rfl (Value.agg (cellsOf (nC (rN (rShY a s true) 64)) 2)) _ (run_rw 24 (.tmp 7) rfl b_xw3 rfl 24 2 _ k10 undU szU) ?_; simp only [Act.put, List.setIfInBounds_toArray, List.set_cons_succ, List.set_cons_zero]
        refine wpl_store rfl 24 (.tmp 6) (.tmp 33) rfl (N + 1) 2 (nC (rN (rShY a s true) 64)) rfl rfl 24 _ k9 szU (fun j _ => nC_one _ j) ?_
        intro xw16 t17 k18; simp only [Act.put, List.setIfInBounds_toArray, List.set_cons_succ, List.set_cons_zero]
        have k19 := k8.touch t17 (by omega)
        have k20 := k10.touch t17 (by omega)
        have lo21 := t17.below lo11 (by omega)
        have h22 := t17.sz hM12
        clear k9 k8 k10 lo11 hM12 t17
        go_wp2_with fail
        refine post_n rfl (N + 1) rfl k18 ⟨dU, u1, u2⟩ szU rfl ?_
        exact ⟨rfl, lo21⟩
end Go.Proofs.Ytbeikhokkpioeaa
