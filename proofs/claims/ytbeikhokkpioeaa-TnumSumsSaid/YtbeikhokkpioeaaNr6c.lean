/- Contracts of the document's bits: each with each, 2. -/
import Derived.Test.YtbeikhokkpioeaaNr6
namespace Go.Proofs.Ytbeikhokkpioeaa
open Go Go.RowKit
set_option maxRecDepth 100000 in
set_option maxHeartbeats 16000000 in
theorem REach_2 (a b : Nm) (w : World) (N : Nat) (hN : Sz w N) : Calls Try.prog 17 #[nV a, nV b, .int .i64 2] w fun e w' => e = .returned (nV (rEach a b 2)) ∧ Below N w w' := by
  obtain ⟨dU, u1, u2⟩ := undU
  unfold rEach
  obtain ⟨y, hy⟩ : ∃ y, y = (fun i => eachN 2 (rBits a i) (rBits b i) 4) := ⟨_, rfl⟩
  rw [← hy]
  have Hy := hid hy
  clear hy
  unfold nV
  go_enter Try.func17, Try.ntmps17
  go_upto_region 1 with (first
    | (refine wpl_box rfl 24 (.tmp 0) rfl 2 _ rfl (N) hN ?_; intro w1 hN1 hb1 hh1)
    | (refine wpl_box rfl 24 (.tmp 1) rfl 2 _ rfl (N + 1) hN1 ?_; intro w2 hN2 hb2 hh2)
    | (refine wpl_alloc rfl 24 rfl 2 (nC zeroN) zeU (N + 1 + 1) hN2 ?_; intro w3 hN3 hb3 hh3)
    | fail)
  have lo0 : Below N w w3 := ((hb1.trans (hb2.mono (by omega))).trans (hb3.mono (by omega)))
  have k1 := ((hh1.below hb2 (by omega)).below hb3 (by omega))
  have k2 := (hh2.below hb3 (by omega))
  have k3 := hh3
  clear hh1 hb1 hh2 hb2 hh3 hb3 hN1 hN2
  go_upto_region 1 with fail
  refine wp_region_lit ?_
  try simp only [Act.put, List.setIfInBounds_toArray, List.set_cons_succ, List.set_cons_zero]
  obtain ⟨b_xw4, eb_xw4⟩ : ∃ b_xw4, b_xw4 = (N + 1 + 1 + 1) := ⟨_, rfl⟩
  have hzb_xw4 : Sz w3 b_xw4 := by rw [eb_xw4]; exact hN3
  have lob_xw4 : (N + 1 + 1 + 1) ≤ b_xw4 := by omega
  have upb_xw4 : b_xw4 ≤ (N + 1 + 1 + 1) := by omega
  clear eb_xw4
  refine wpl_alloc rfl 24 rfl 2 (nC zeroN) zeU b_xw4 hzb_xw4 ?_
  intro xw4 hMxw4 hbxw4 hhxw4; simp only [Act.put, List.setIfInBounds_toArray, List.set_cons_succ, List.set_cons_zero]
  have k5 := k1.below hbxw4 (by omega)
  have k6 := k2.below hbxw4 (by omega)
  have k7 := k3.below hbxw4 (by omega)
  have lo8 := lo0.trans (hbxw4.mono (by omega))
  clear k1 k2 k3 lo0 hbxw4 hzb_xw4
  obtain ⟨M9, eM9⟩ : ∃ M9, M9 = b_xw4 + 1 := ⟨_, rfl⟩
  rw [← eM9] at hMxw4
  have loM9 : b_xw4 + 1 ≤ M9 := by omega
  have upM9 : M9 ≤ b_xw4 + 1 := by omega
  clear eM9
  go_wp2_with fail
  go_loopg [8, 9, 10, 11, 12, 13] (64) (fun g x8 x9 x10 x11 x12 x13 wr => ∃ k : Nat, k ≤ 64 ∧ g = 64 - k ∧ x8 = .int .i64 (k : Int) ∧ Has wr N 24 2 (nC a) ∧ Has wr (N + 1) 24 2 (nC b) ∧ Has wr (N + 1 + 1) 24 2 (nC zeroN) ∧ Has wr b_xw4 24 2 (nC (rN y k)) ∧ Below N w wr)
  case atStart => exact ⟨0, by omega, rfl, rfl, k5, k6, k7, hhxw4, lo8⟩
  case round =>
    clear k5 k6 k7 hhxw4 lo8
    obtain ⟨k, hkk, rfl, rfl, k10, k11, k12, k13, lo14⟩ := hrel
    obtain ⟨M15, hM15⟩ := sz_some wr
    have lt_16 := k10.ltN hM15
    have lt_17 := k11.ltN hM15
    have lt_18 := k12.ltN hM15
    have lt_19 := k13.ltN hM15
    have k0 : (0 : Int) ≤ (k : Int) := by omega
    by_cases hlt : k < 64
    · have t1 : (k : Int) < 64 := by omega
      have T1 := hid hlt
      obtain ⟨X, hX⟩ : ∃ X, rBits a k = X := ⟨_, rfl⟩
      obtain ⟨Z, hZ⟩ : ∃ Z, rBits b k = Z := ⟨_, rfl⟩
      have HX := hid hX
      have HY := hid hZ
      have E := hid (show rN y (k + 1) = rSet (rN y k) k (eachN 2 X Z 4) by show rSet (rN y k) k (y k) = _; rw [Hy.out]; show rSet _ k (eachN 2 (rBits a k) (rBits b k) 4) = _; rw [hX, hZ])
      clear hX hZ
      go_upto_region 5 with fail
      refine wp_region_lit ?_
      try simp only [Act.put, List.setIfInBounds_toArray, List.set_cons_succ, List.set_cons_zero]
      obtain ⟨b_xw20, eb_xw20⟩ : ∃ b_xw20, b_xw20 = M15 := ⟨_, rfl⟩
      have hzb_xw20 : Sz wr b_xw20 := by rw [eb_xw20]; exact hM15
      have lob_xw20 : M15 ≤ b_xw20 := by omega
      have upb_xw20 : b_xw20 ≤ M15 := by omega
      clear eb_xw20
      refine wpl_alloc rfl 58 rfl 2 (bC (false, false)) zeB b_xw20 hzb_xw20 ?_
      intro xw20 hMxw20 hbxw20 hhxw20; simp only [Act.put, List.setIfInBounds_toArray, List.set_cons_succ, List.set_cons_zero]
      have k21 := k10.below hbxw20 (by omega)
      have k22 := k11.below hbxw20 (by omega)
      have k23 := k12.below hbxw20 (by omega)
      have k24 := k13.below hbxw20 (by omega)
      have lo25 := lo14.trans (hbxw20.mono (by omega))
      clear k10 k11 k12 k13 lo14 hbxw20 hzb_xw20
      obtain ⟨M26, eM26⟩ : ∃ M26, M26 = b_xw20 + 1 := ⟨_, rfl⟩
      rw [← eM26] at hMxw20
      have loM26 : b_xw20 + 1 ≤ M26 := by omega
      have upM26 : M26 ≤ b_xw20 + 1 := by omega
      clear eM26
      go_upto_region 6 with fail
      refine wp_region_any (by kernel_rfl) ?_
      replace k21 : Has xw20.drew N 24 2 (nC a) := k21
      replace k22 : Has xw20.drew (N + 1) 24 2 (nC b) := k22
      replace k23 : Has xw20.drew (N + 1 + 1) 24 2 (nC zeroN) := k23
      replace k24 : Has xw20.drew b_xw4 24 2 (nC (rN y k)) := k24
      replace hhxw20 : Has xw20.drew b_xw20 58 2 (bC (false, false)) := hhxw20
      replace hMxw20 : Sz xw20.drew M26 := hMxw20
      replace lo25 : Below N w xw20.drew := lo25.drew
      change wpAny _ _ _ _ _ _ _ (World.drew _)
      generalize xw20.drew = xw27 at *
      refine wpAny_pot (rem := [0, 1, 2, 3, 4, 5, 6, 7]) (FG M26 (fun j => if j = 0 then some (Value.agg (cellsOf (nC a) 2)) else if j = 1 then some (Value.int .i64 (k : Int)) else if j = 2 then some (Value.agg (cellsOf (bC X) 2)) else if j = 3 then some (Value.agg (cellsOf (nC b) 2)) else if j = 4 then some (Value.int .i64 (k : Int)) else if j = 5 then some (Value.agg (cellsOf (bC Z) 2)) else if j = 6 then none else none) (fun j => if j = 6 then (58, 2, bC (false, false)) else (58, 2, bC (false, false)))) (TwoN (fun j => if j = 0 then some (Value.agg (cellsOf (nC a) 2)) else if j = 1 then some (Value.int .i64 (k : Int)) else if j = 2 then some (Value.agg (cellsOf (bC X) 2)) else if j = 3 then some (Value.agg (cellsOf (nC b) 2)) else if j = 4 then some (Value.int .i64 (k : Int)) else if j = 5 then some (Value.agg (cellsOf (bC Z) 2)) else if j = 6 then none else none)) (Below M26 xw27) _ _ _ _ (by kernel_rfl) (size_dstG (by kernel_rfl)) (Below.refl _ _) ?_ ?_
      · intro i hi ac wa hI ha hv
        simp only [List.mem_cons, List.not_mem_nil, or_false] at hi
        rcases hi with rfl | rfl | rfl | rfl | rfl | rfl | rfl | rfl
        · exact potg_run rfl rfl (Value.agg (cellsOf (nC a) 2)) rfl (run_rw 24 (.tmp 3) rfl N (ha 3 (not_dstG (by kernel_rfl))) 24 2 _ (Has.below k21 hI (Has.ltN k21 hMxw20)) undU szU) hMxw20 hI
        · exact potg_run rfl rfl (Value.int .i64 (k : Int)) rfl (run_mv (x := (.tmp 8)) rfl _ (ha 8 (not_dstG (by kernel_rfl)))) hMxw20 hI
        · obtain ⟨v0, hv0a, hv0b⟩ := hv 0 (by simp) (by kernel_rfl)
          have ev0 := hv0b.val rfl
          subst ev0
          obtain ⟨v1, hv1a, hv1b⟩ := hv 1 (by simp) (by kernel_rfl)
          have ev1 := hv1b.val rfl
          subst ev1
          exact potg_cl rfl rfl 39 _ _ rfl #[(Value.agg (cellsOf (nC a) 2)), (Value.int .i64 (k : Int))] (by simp only [List.map_toArray, List.map_cons, List.map_nil, (show ac.eval (.tmp 18) = (Value.agg (cellsOf (nC a) 2)) from (hv0a 18 rfl)), (show ac.eval (.tmp 19) = (Value.int .i64 (k : Int)) from (hv1a 19 rfl))] <;> rfl) (by kernel_rfl) (Value.agg (cellsOf (bC X) 2)) (fun K hK => Bits_is HX.out wa K hK) rfl hMxw20 hI
        · exact potg_run rfl rfl (Value.agg (cellsOf (nC b) 2)) rfl (run_rw 24 (.tmp 4) rfl (N + 1) (ha 4 (not_dstG (by kernel_rfl))) 24 2 _ (Has.below k22 hI (Has.ltN k22 hMxw20)) undU szU) hMxw20 hI
        · exact potg_run rfl rfl (Value.int .i64 (k : Int)) rfl (run_mv (x := (.tmp 8)) rfl _ (ha 8 (not_dstG (by kernel_rfl)))) hMxw20 hI
        · obtain ⟨v3, hv3a, hv3b⟩ := hv 3 (by simp) (by kernel_rfl)
          have ev3 := hv3b.val rfl
          subst ev3
          obtain ⟨v4, hv4a, hv4b⟩ := hv 4 (by simp) (by kernel_rfl)
          have ev4 := hv4b.val rfl
          subst ev4
          exact potg_cl rfl rfl 39 _ _ rfl #[(Value.agg (cellsOf (nC b) 2)), (Value.int .i64 (k : Int))] (by simp only [List.map_toArray, List.map_cons, List.map_nil, (show ac.eval (.tmp 21) = (Value.agg (cellsOf (nC b) 2)) from (hv3a 21 rfl)), (show ac.eval (.tmp 22) = (Value.int .i64 (k : Int)) from (hv4a 22 rfl))] <;> rfl) (by kernel_rfl) (Value.agg (cellsOf (bC Z) 2)) (fun K hK => Bits_is HY.out wa K hK) rfl hMxw20 hI
        · exact potg_al rfl rfl rfl zeB rfl rfl hMxw20 hI
        · exact potg_al rfl rfl rfl zeB rfl rfl hMxw20 hI
      · intro vals w5_28_ hb5_28_ hF hG
        have e_28_0 := (hF 0 (by simp)).val rfl
        have e_28_1 := (hF 1 (by simp)).val rfl
        have e_28_2 := (hF 2 (by simp)).val rfl
        have e_28_3 := (hF 3 (by simp)).val rfl
        have e_28_4 := (hF 4 (by simp)).val rfl
        have e_28_5 := (hF 5 (by simp)).val rfl
        obtain ⟨b_28_6, l_28_6, e_28_6, h_28_6⟩ := (hF 6 (by simp)).al rfl rfl
        obtain ⟨b_28_7, l_28_7, e_28_7, h_28_7⟩ := (hF 7 (by simp)).al rfl rfl
        have n_28_6_7 := hG 6 (by simp) 7 (by simp) (by omega) rfl rfl b_28_6 b_28_7 e_28_6 e_28_7
        clear hF hG
        simp only [List.foldl_cons, List.foldl_nil, dstOf, List.getElem?_toArray, List.getElem?_cons_succ, List.getElem?_cons_zero, Option.bind_some, Act.put, List.setIfInBounds_toArray, List.set_cons_succ, List.set_cons_zero, e_28_0, e_28_1, e_28_2, e_28_3, e_28_4, e_28_5, e_28_6, e_28_7]
        clear e_28_0 e_28_1 e_28_2 e_28_3 e_28_4 e_28_5 e_28_6 e_28_7
        refine wpAny_chain [8, 9] _ _ _ _ (by kernel_rfl) (by decide) ?_
        simp only [List.filterMap_cons, List.filterMap_nil, List.getElem?_toArray, List.getElem?_cons_succ, List.getElem?_cons_zero]
        have k29 := k21.below hb5_28_ (by omega)
        have k30 := k22.below hb5_28_ (by omega)
        have k31 := k23.below hb5_28_ (by omega)
        have k32 := k24.below hb5_28_ (by omega)
        have k33 := hhxw20.below hb5_28_ (by omega)
        have lo34 := lo25.trans (hb5_28_.mono (by omega))
        clear k21 k22 k23 k24 hhxw20 lo25 hb5_28_
        refine wpl_store rfl 58 (.tmp 10) (.tmp 20) rfl b_28_6 2 (bC X) rfl rfl 58 _ h_28_6 szB (fun j _ => bC_one _ j) ?_
        intro xw35 t36 k37
        have k38 := k29.touch t36 (by omega)
        have k39 := k30.touch t36 (by omega)
        have k40 := k31.touch t36 (by omega)
        have k41 := k32.touch t36 (by omega)
        have k42 := k33.touch t36 (by omega)
        have k43 := h_28_7.touch t36 (by omega)
        have lo44 := t36.below lo34 (by omega)
        clear h_28_6 k29 k30 k31 k32 k33 h_28_7 lo34 t36
        refine wpl_store rfl 58 (.tmp 11) (.tmp 23) rfl b_28_7 2 (bC Z) rfl rfl 58 _ k43 szB (fun j _ => bC_one _ j) ?_
        intro xw45 t46 k47
        have k48 := k38.touch t46 (by omega)
        have k49 := k39.touch t46 (by omega)
        have k50 := k40.touch t46 (by omega)
        have k51 := k41.touch t46 (by omega)
        have k52 := k42.touch t46 (by omega)
        have k53 := k37.touch t46 (by omega)
        have lo54 := t46.below lo44 (by omega)
        clear k43 k38 k39 k40 k41 k42 k37 lo44 t46
        obtain ⟨M55, hM55⟩ := sz_some xw45
        have lt_56 := k48.ltN hM55
        have lt_57 := k49.ltN hM55
        have lt_58 := k50.ltN hM55
        have lt_59 := k51.ltN hM55
        have lt_60 := k52.ltN hM55
        have lt_61 := k53.ltN hM55
        have lt_62 := k47.ltN hM55
        go_wp2_with fail
        go_loopg [12, 13] (2) (fun g x12 x13 wr => ∃ p : Nat, p ≤ 2 ∧ g = 2 - p ∧ x12 = .int .i64 (p : Int) ∧ Has wr N 24 2 (nC a) ∧ Has wr (N + 1) 24 2 (nC b) ∧ Has wr (N + 1 + 1) 24 2 (nC zeroN) ∧ Has wr b_xw4 24 2 (nC (rN y k)) ∧ Has wr b_xw20 58 2 (bC (eachN 2 X Z (2 * p))) ∧ Has wr b_28_6 58 2 (bC X) ∧ Has wr b_28_7 58 2 (bC Z) ∧ Below N w wr)
        case atStart => exact ⟨0, by omega, rfl, rfl, k48, k49, k50, k51, k52, k53, k47, lo54⟩
        case round =>
          clear k48 k49 k50 k51 k52 k53 k47 lo54
          obtain ⟨p, hkp, rfl, rfl, k63, k64, k65, k66, k67, k68, k69, lo70⟩ := hrel
          obtain ⟨M71, hM71⟩ := sz_some wr
          have lt_72 := k63.ltN hM71
          have lt_73 := k64.ltN hM71
          have lt_74 := k65.ltN hM71
          have lt_75 := k66.ltN hM71
          have lt_76 := k67.ltN hM71
          have lt_77 := k68.ltN hM71
          have lt_78 := k69.ltN hM71
          have p0 : (0 : Int) ≤ (p : Int) := by omega
          by_cases hp : p < 2
          · have p1 : (p : Int) < 2 := by omega
            go_wp2_with fail
            go_loopg [13] (2) (fun g x13 wr => ∃ q : Nat, q ≤ 2 ∧ g = 2 - q ∧ x13 = .int .i64 (q : Int) ∧ Has wr N 24 2 (nC a) ∧ Has wr (N + 1) 24 2 (nC b) ∧ Has wr (N + 1 + 1) 24 2 (nC zeroN) ∧ Has wr b_xw4 24 2 (nC (rN y k)) ∧ Has wr b_xw20 58 2 (bC (eachN 2 X Z (2 * p + q))) ∧ Has wr b_28_6 58 2 (bC X) ∧ Has wr b_28_7 58 2 (bC Z) ∧ Below N w wr)
            case atStart => exact ⟨0, by omega, rfl, rfl, k63, k64, k65, k66, k67, k68, k69, lo70⟩
            case round =>
              clear k63 k64 k65 k66 k67 k68 k69 lo70
              obtain ⟨q, hkq, rfl, rfl, k79, k80, k81, k82, k83, k84, k85, lo86⟩ := hrel
              obtain ⟨M87, hM87⟩ := sz_some wr
              have lt_88 := k79.ltN hM87
              have lt_89 := k80.ltN hM87
              have lt_90 := k81.ltN hM87
              have lt_91 := k82.ltN hM87
              have lt_92 := k83.ltN hM87
              have lt_93 := k84.ltN hM87
              have lt_94 := k85.ltN hM87
              have q0 : (0 : Int) ≤ (q : Int) := by omega
              by_cases hq : q < 2
              · have q1 : (q : Int) < 2 := by omega
                have cx := cell_sel k84 hp
                have cy := cell_sel k85 hq
                go_upto_region 13 with fail
                cases ex : sel X p
                · rw [ex] at cx
                  have E2 := hid (each_no (what := 2) (x := X) (y := Z) (p := p) hq (by rw [ex]; rfl))
                  clear ex cy
                  refine wp_region_later1 (M87) ?_
                  try simp only [Act.put, List.setIfInBounds_toArray, List.set_cons_succ, List.set_cons_zero]
                  go_big_quiet_step (fail)
                  refine later_val (fun q => run_iaN (x := (.tmp 10)) (y := (.tmp 32)) rfl (b := b_28_6) rfl rfl undAB sz1b (by omega)) (by rfl) ?_; simp only [Act.put, List.setIfInBounds_toArray, List.set_cons_succ, List.set_cons_zero]
                  refine later_c1 hM87 4 (.tmp 33) rfl rfl undBool rfl cx (by rfl) ?_; simp only [Act.put, List.setIfInBounds_toArray, List.set_cons_succ, List.set_cons_zero]
                  go_big_quiet_step (fail)
                  go_big_quiet_step (fail)
                  go_big_quiet_step (fail)
                  go_big_quiet_step (fail)
                  go_big_quiet_step (fail)
                  refine wpQuiet_nil ?_
                  rintro xw95 ⟨qxw95, exw95⟩
                  have hbxw95 := qxw95.b
                  rw [← exw95] at hbxw95
                  clear qxw95 exw95
                  obtain ⟨M96, hM96⟩ := sz_some xw95
                  have lM96 := below_sz hbxw95 hM87 hM96
                  have k97 := k79.below hbxw95 (by omega)
                  have k98 := k80.below hbxw95 (by omega)
                  have k99 := k81.below hbxw95 (by omega)
                  have k100 := k82.below hbxw95 (by omega)
                  have k101 := k83.below hbxw95 (by omega)
                  have k102 := k84.below hbxw95 (by omega)
                  have k103 := k85.below hbxw95 (by omega)
                  have lo104 := lo86.trans (hbxw95.mono (by omega))
                  clear k79 k80 k81 k82 k83 k84 k85 lo86 hbxw95
                  go_wp2_with fail
                  go_roundg (2 - (q + 1))
                  case rel => exact ⟨q + 1, by omega, rfl, by simp, k97, k98, k99, k100, by rw [E2.out]; exact k101, k102, k103, lo104⟩
                  case measure => omega
                cases ey : sel Z q
                · rw [ex] at cx
                  rw [ey] at cy
                  have E2 := hid (each_no (what := 2) (x := X) (y := Z) (p := p) hq (by rw [ex, ey]; rfl))
                  clear ex ey
                  refine wp_region_later1 (M87) ?_
                  try simp only [Act.put, List.setIfInBounds_toArray, List.set_cons_succ, List.set_cons_zero]
                  go_big_quiet_step (fail)
                  refine later_val (fun q => run_iaN (x := (.tmp 10)) (y := (.tmp 32)) rfl (b := b_28_6) rfl rfl undAB sz1b (by omega)) (by rfl) ?_; simp only [Act.put, List.setIfInBounds_toArray, List.set_cons_succ, List.set_cons_zero]
                  refine later_c1 hM87 4 (.tmp 33) rfl rfl undBool rfl cx (by rfl) ?_; simp only [Act.put, List.setIfInBounds_toArray, List.set_cons_succ, List.set_cons_zero]
                  go_big_quiet_step (fail)
                  go_big_quiet_step (fail)
                  refine later_val (fun q => run_iaN (x := (.tmp 11)) (y := (.tmp 36)) rfl (b := b_28_7) rfl rfl undAB sz1b (by omega)) (by rfl) ?_; simp only [Act.put, List.setIfInBounds_toArray, List.set_cons_succ, List.set_cons_zero]
                  refine later_c1 hM87 4 (.tmp 37) rfl rfl undBool rfl cy (by rfl) ?_; simp only [Act.put, List.setIfInBounds_toArray, List.set_cons_succ, List.set_cons_zero]
                  go_big_quiet_step (fail)
                  refine wpQuiet_nil ?_
                  rintro xw95 ⟨qxw95, exw95⟩
                  have hbxw95 := qxw95.b
                  rw [← exw95] at hbxw95
                  clear qxw95 exw95
                  obtain ⟨M96, hM96⟩ := sz_some xw95
                  have lM96 := below_sz hbxw95 hM87 hM96
                  have k97 := k79.below hbxw95 (by omega)
                  have k98 := k80.below hbxw95 (by omega)
                  have k99 := k81.below hbxw95 (by omega)
                  have k100 := k82.below hbxw95 (by omega)
                  have k101 := k83.below hbxw95 (by omega)
                  have k102 := k84.below hbxw95 (by omega)
                  have k103 := k85.below hbxw95 (by omega)
                  have lo104 := lo86.trans (hbxw95.mono (by omega))
                  clear k79 k80 k81 k82 k83 k84 k85 lo86 hbxw95
                  go_wp2_with fail
                  go_roundg (2 - (q + 1))
                  case rel => exact ⟨q + 1, by omega, rfl, by simp, k97, k98, k99, k100, by rw [E2.out]; exact k101, k102, k103, lo104⟩
                  case measure => omega
                · rw [ex] at cx
                  rw [ey] at cy
                  have E2 := hid (each_yes (what := 2) (x := X) (y := Z) (p := p) hq (by rw [ex, ey]; rfl))
                  clear ex ey
                  refine wp_region_later1 (M87) ?_
                  try simp only [Act.put, List.setIfInBounds_toArray, List.set_cons_succ, List.set_cons_zero]
                  go_big_quiet_step (fail)
                  refine later_val (fun q => run_iaN (x := (.tmp 10)) (y := (.tmp 32)) rfl (b := b_28_6) rfl rfl undAB sz1b (by omega)) (by rfl) ?_; simp only [Act.put, List.setIfInBounds_toArray, List.set_cons_succ, List.set_cons_zero]
                  refine later_c1 hM87 4 (.tmp 33) rfl rfl undBool rfl cx (by rfl) ?_; simp only [Act.put, List.setIfInBounds_toArray, List.set_cons_succ, List.set_cons_zero]
                  go_big_quiet_step (fail)
                  go_big_quiet_step (fail)
                  refine later_val (fun q => run_iaN (x := (.tmp 11)) (y := (.tmp 36)) rfl (b := b_28_7) rfl rfl undAB sz1b (by omega)) (by rfl) ?_; simp only [Act.put, List.setIfInBounds_toArray, List.set_cons_succ, List.set_cons_zero]
                  refine later_c1 hM87 4 (.tmp 37) rfl rfl undBool rfl cy (by rfl) ?_; simp only [Act.put, List.setIfInBounds_toArray, List.set_cons_succ, List.set_cons_zero]
                  go_big_quiet_step (fail)
                  refine wpQuiet_nil ?_
                  rintro xw95 ⟨qxw95, exw95⟩
                  have hbxw95 := qxw95.b
                  rw [← exw95] at hbxw95
                  clear qxw95 exw95
                  obtain ⟨M96, hM96⟩ := sz_some xw95
                  have lM96 := below_sz hbxw95 hM87 hM96
                  have k97 := k79.below hbxw95 (by omega)
                  have k98 := k80.below hbxw95 (by omega)
                  have k99 := k81.below hbxw95 (by omega)
                  have k100 := k82.below hbxw95 (by omega)
                  have k101 := k83.below hbxw95 (by omega)
                  have k102 := k84.below hbxw95 (by omega)
                  have k103 := k85.below hbxw95 (by omega)
                  have lo104 := lo86.trans (hbxw95.mono (by omega))
                  clear k79 k80 k81 k82 k83 k84 k85 lo86 hbxw95
                  rcases (show p = 0 ∨ p = 1 by omega) with rfl | rfl <;> rcases (show q = 0 ∨ q = 1 by omega) with rfl | rfl
                  · have E3 := hid (show eachN 2 X Z (2 * 0 + (0 + 1)) = (true, (eachN 2 X Z (2 * 0 + 0)).2) from E2.out)
                    go_upto_region 14 with fail
                    refine wp_region_lit ?_
                    try simp only [Act.put, List.setIfInBounds_toArray, List.set_cons_succ, List.set_cons_zero]
                    refine wpl_run rfl (.int .i64 0) xw95 (by kernel_rfl) ?_; simp only [Act.put, List.setIfInBounds_toArray, List.set_cons_succ, List.set_cons_zero]
                    refine wpl_run rfl (.int .i64 0) xw95 (by kernel_rfl) ?_; simp only [Act.put, List.setIfInBounds_toArray, List.set_cons_succ, List.set_cons_zero]
                    refine wpl_run rfl (.int .i64 0) xw95 (by kernel_rfl) ?_; simp only [Act.put, List.setIfInBounds_toArray, List.set_cons_succ, List.set_cons_zero]
                    refine wpl_run rfl (.int .i64 0) xw95 (by kernel_rfl) ?_; simp only [Act.put, List.setIfInBounds_toArray, List.set_cons_succ, List.set_cons_zero]
                    refine wpl_run rfl (.int .i64 0) xw95 (by kernel_rfl) ?_; simp only [Act.put, List.setIfInBounds_toArray, List.set_cons_succ, List.set_cons_zero]
                    refine wpl_run rfl (.int .i64 0) xw95 (by kernel_rfl) ?_; simp only [Act.put, List.setIfInBounds_toArray, List.set_cons_succ, List.set_cons_zero]
                    refine wpl_run rfl (.int .i64 0) xw95 (by kernel_rfl) ?_; simp only [Act.put, List.setIfInBounds_toArray, List.set_cons_succ, List.set_cons_zero]
                    refine wpl_run rfl (.int .i64 0) xw95 (by kernel_rfl) ?_; simp only [Act.put, List.setIfInBounds_toArray, List.set_cons_succ, List.set_cons_zero]
                    refine wpl_run rfl (.int .i64 0) xw95 (by kernel_rfl) ?_; simp only [Act.put, List.setIfInBounds_toArray, List.set_cons_succ, List.set_cons_zero]
                    refine wpl_run rfl (.agg #[.int .i64 0, .int .i64 0, .int .i64 0]) xw95 (by kernel_rfl) ?_; simp only [Act.put, List.setIfInBounds_toArray, List.set_cons_succ, List.set_cons_zero]
                    refine wpl_run rfl (.int .i64 2) xw95 (by kernel_rfl) ?_; simp only [Act.put, List.setIfInBounds_toArray, List.set_cons_succ, List.set_cons_zero]
                    refine wpl_run rfl (.int .i64 0) xw95 (by kernel_rfl) ?_; simp only [Act.put, List.setIfInBounds_toArray, List.set_cons_succ, List.set_cons_zero]
                    refine wpl_run rfl (.pointer (some ⟨b_xw20, 0, none⟩)) xw95 (by kernel_rfl) ?_; simp only [Act.put, List.setIfInBounds_toArray, List.set_cons_succ, List.set_cons_zero]
                    refine wpl_set rfl 4 (.tmp 52) (.const (.bool true)) rfl b_xw20 0 rfl _ rfl sz1b rfl rfl 58 2 _ k101 (by omega) ?_
                    intro wq tq hq_
                    have hq2 : Has wq b_xw20 58 2 (bC (true, (eachN 2 X Z (2 * 0 + 0)).2)) := hq_.congr (fun j hj => set_bC _ 0 (by omega) j hj)
                    go_wp2_with fail
                    have loq := tq.below lo104 (by omega)
                    go_roundg (2 - (0 + 1))
                    case rel => exact ⟨0 + 1, by omega, rfl, by simp, k97.touch tq (by omega), k98.touch tq (by omega), k99.touch tq (by omega), k100.touch tq (by omega), by rw [E3.out]; exact hq2, k102.touch tq (by omega), k103.touch tq (by omega), loq⟩
                    case measure => omega
                  · have E3 := hid (show eachN 2 X Z (2 * 0 + (1 + 1)) = ((eachN 2 X Z (2 * 0 + 1)).1, true) from E2.out)
                    go_upto_region 14 with fail
                    refine wp_region_lit ?_
                    try simp only [Act.put, List.setIfInBounds_toArray, List.set_cons_succ, List.set_cons_zero]
                    refine wpl_run rfl (.int .i64 0) xw95 (by kernel_rfl) ?_; simp only [Act.put, List.setIfInBounds_toArray, List.set_cons_succ, List.set_cons_zero]
                    refine wpl_run rfl (.int .i64 1) xw95 (by kernel_rfl) ?_; simp only [Act.put, List.setIfInBounds_toArray, List.set_cons_succ, List.set_cons_zero]
                    refine wpl_run rfl (.int .i64 0) xw95 (by kernel_rfl) ?_; simp only [Act.put, List.setIfInBounds_toArray, List.set_cons_succ, List.set_cons_zero]
                    refine wpl_run rfl (.int .i64 0) xw95 (by kernel_rfl) ?_; simp only [Act.put, List.setIfInBounds_toArray, List.set_cons_succ, List.set_cons_zero]
                    refine wpl_run rfl (.int .i64 1) xw95 (by kernel_rfl) ?_; simp only [Act.put, List.setIfInBounds_toArray, List.set_cons_succ, List.set_cons_zero]
                    refine wpl_run rfl (.int .i64 1) xw95 (by kernel_rfl) ?_; simp only [Act.put, List.setIfInBounds_toArray, List.set_cons_succ, List.set_cons_zero]
                    refine wpl_run rfl (.int .i64 0) xw95 (by kernel_rfl) ?_; simp only [Act.put, List.setIfInBounds_toArray, List.set_cons_succ, List.set_cons_zero]
                    refine wpl_run rfl (.int .i64 1) xw95 (by kernel_rfl) ?_; simp only [Act.put, List.setIfInBounds_toArray, List.set_cons_succ, List.set_cons_zero]
                    refine wpl_run rfl (.int .i64 1) xw95 (by kernel_rfl) ?_; simp only [Act.put, List.setIfInBounds_toArray, List.set_cons_succ, List.set_cons_zero]
                    refine wpl_run rfl (.agg #[.int .i64 0, .int .i64 1, .int .i64 1]) xw95 (by kernel_rfl) ?_; simp only [Act.put, List.setIfInBounds_toArray, List.set_cons_succ, List.set_cons_zero]
                    refine wpl_run rfl (.int .i64 2) xw95 (by kernel_rfl) ?_; simp only [Act.put, List.setIfInBounds_toArray, List.set_cons_succ, List.set_cons_zero]
                    refine wpl_run rfl (.int .i64 1) xw95 (by kernel_rfl) ?_; simp only [Act.put, List.setIfInBounds_toArray, List.set_cons_succ, List.set_cons_zero]
                    refine wpl_run rfl (.pointer (some ⟨b_xw20, 1, none⟩)) xw95 (by kernel_rfl) ?_; simp only [Act.put, List.setIfInBounds_toArray, List.set_cons_succ, List.set_cons_zero]
                    refine wpl_set rfl 4 (.tmp 52) (.const (.bool true)) rfl b_xw20 1 rfl _ rfl sz1b rfl rfl 58 2 _ k101 (by omega) ?_
                    intro wq tq hq_
                    have hq2 : Has wq b_xw20 58 2 (bC ((eachN 2 X Z (2 * 0 + 1)).1, true)) := hq_.congr (fun j hj => set_bC _ 1 (by omega) j hj)
                    go_wp2_with fail
                    have loq := tq.below lo104 (by omega)
                    go_roundg (2 - (1 + 1))
                    case rel => exact ⟨1 + 1, by omega, rfl, by simp, k97.touch tq (by omega), k98.touch tq (by omega), k99.touch tq (by omega), k100.touch tq (by omega), by rw [E3.out]; exact hq2, k102.touch tq (by omega), k103.touch tq (by omega), loq⟩
                    case measure => omega
                  · have E3 := hid (show eachN 2 X Z (2 * 1 + (0 + 1)) = ((eachN 2 X Z (2 * 1 + 0)).1, true) from E2.out)
                    go_upto_region 14 with fail
                    refine wp_region_lit ?_
                    try simp only [Act.put, List.setIfInBounds_toArray, List.set_cons_succ, List.set_cons_zero]
                    refine wpl_run rfl (.int .i64 1) xw95 (by kernel_rfl) ?_; simp only [Act.put, List.setIfInBounds_toArray, List.set_cons_succ, List.set_cons_zero]
                    refine wpl_run rfl (.int .i64 0) xw95 (by kernel_rfl) ?_; simp only [Act.put, List.setIfInBounds_toArray, List.set_cons_succ, List.set_cons_zero]
                    refine wpl_run rfl (.int .i64 0) xw95 (by kernel_rfl) ?_; simp only [Act.put, List.setIfInBounds_toArray, List.set_cons_succ, List.set_cons_zero]
                    refine wpl_run rfl (.int .i64 1) xw95 (by kernel_rfl) ?_; simp only [Act.put, List.setIfInBounds_toArray, List.set_cons_succ, List.set_cons_zero]
                    refine wpl_run rfl (.int .i64 0) xw95 (by kernel_rfl) ?_; simp only [Act.put, List.setIfInBounds_toArray, List.set_cons_succ, List.set_cons_zero]
                    refine wpl_run rfl (.int .i64 1) xw95 (by kernel_rfl) ?_; simp only [Act.put, List.setIfInBounds_toArray, List.set_cons_succ, List.set_cons_zero]
                    refine wpl_run rfl (.int .i64 1) xw95 (by kernel_rfl) ?_; simp only [Act.put, List.setIfInBounds_toArray, List.set_cons_succ, List.set_cons_zero]
                    refine wpl_run rfl (.int .i64 0) xw95 (by kernel_rfl) ?_; simp only [Act.put, List.setIfInBounds_toArray, List.set_cons_succ, List.set_cons_zero]
                    refine wpl_run rfl (.int .i64 1) xw95 (by kernel_rfl) ?_; simp only [Act.put, List.setIfInBounds_toArray, List.set_cons_succ, List.set_cons_zero]
                    refine wpl_run rfl (.agg #[.int .i64 0, .int .i64 1, .int .i64 1]) xw95 (by kernel_rfl) ?_; simp only [Act.put, List.setIfInBounds_toArray, List.set_cons_succ, List.set_cons_zero]
                    refine wpl_run rfl (.int .i64 2) xw95 (by kernel_rfl) ?_; simp only [Act.put, List.setIfInBounds_toArray, List.set_cons_succ, List.set_cons_zero]
                    refine wpl_run rfl (.int .i64 1) xw95 (by kernel_rfl) ?_; simp only [Act.put, List.setIfInBounds_toArray, List.set_cons_succ, List.set_cons_zero]
                    refine wpl_run rfl (.pointer (some ⟨b_xw20, 1, none⟩)) xw95 (by kernel_rfl) ?_; simp only [Act.put, List.setIfInBounds_toArray, List.set_cons_succ, List.set_cons_zero]
                    refine wpl_set rfl 4 (.tmp 52) (.const (.bool true)) rfl b_xw20 1 rfl _ rfl sz1b rfl rfl 58 2 _ k101 (by omega) ?_
                    intro wq tq hq_
                    have hq2 : Has wq b_xw20 58 2 (bC ((eachN 2 X Z (2 * 1 + 0)).1, true)) := hq_.congr (fun j hj => set_bC _ 1 (by omega) j hj)
                    go_wp2_with fail
                    have loq := tq.below lo104 (by omega)
                    go_roundg (2 - (0 + 1))
                    case rel => exact ⟨0 + 1, by omega, rfl, by simp, k97.touch tq (by omega), k98.touch tq (by omega), k99.touch tq (by omega), k100.touch tq (by omega), by rw [E3.out]; exact hq2, k102.touch tq (by omega), k103.touch tq (by omega), loq⟩
                    case measure => omega
                  · have E3 := hid (show eachN 2 X Z (2 * 1 + (1 + 1)) = (true, (eachN 2 X Z (2 * 1 + 1)).2) from E2.out)
                    go_upto_region 14 with fail
                    refine wp_region_lit ?_
                    try simp only [Act.put, List.setIfInBounds_toArray, List.set_cons_succ, List.set_cons_zero]
                    refine wpl_run rfl (.int .i64 1) xw95 (by kernel_rfl) ?_; simp only [Act.put, List.setIfInBounds_toArray, List.set_cons_succ, List.set_cons_zero]
                    refine wpl_run rfl (.int .i64 1) xw95 (by kernel_rfl) ?_; simp only [Act.put, List.setIfInBounds_toArray, List.set_cons_succ, List.set_cons_zero]
                    refine wpl_run rfl (.int .i64 1) xw95 (by kernel_rfl) ?_; simp only [Act.put, List.setIfInBounds_toArray, List.set_cons_succ, List.set_cons_zero]
                    refine wpl_run rfl (.int .i64 1) xw95 (by kernel_rfl) ?_; simp only [Act.put, List.setIfInBounds_toArray, List.set_cons_succ, List.set_cons_zero]
                    refine wpl_run rfl (.int .i64 1) xw95 (by kernel_rfl) ?_; simp only [Act.put, List.setIfInBounds_toArray, List.set_cons_succ, List.set_cons_zero]
                    refine wpl_run rfl (.int .i64 1) xw95 (by kernel_rfl) ?_; simp only [Act.put, List.setIfInBounds_toArray, List.set_cons_succ, List.set_cons_zero]
                    refine wpl_run rfl (.int .i64 1) xw95 (by kernel_rfl) ?_; simp only [Act.put, List.setIfInBounds_toArray, List.set_cons_succ, List.set_cons_zero]
                    refine wpl_run rfl (.int .i64 1) xw95 (by kernel_rfl) ?_; simp only [Act.put, List.setIfInBounds_toArray, List.set_cons_succ, List.set_cons_zero]
                    refine wpl_run rfl (.int .i64 0) xw95 (by kernel_rfl) ?_; simp only [Act.put, List.setIfInBounds_toArray, List.set_cons_succ, List.set_cons_zero]
                    refine wpl_run rfl (.agg #[.int .i64 1, .int .i64 1, .int .i64 0]) xw95 (by kernel_rfl) ?_; simp only [Act.put, List.setIfInBounds_toArray, List.set_cons_succ, List.set_cons_zero]
                    refine wpl_run rfl (.int .i64 2) xw95 (by kernel_rfl) ?_; simp only [Act.put, List.setIfInBounds_toArray, List.set_cons_succ, List.set_cons_zero]
                    refine wpl_run rfl (.int .i64 0) xw95 (by kernel_rfl) ?_; simp only [Act.put, List.setIfInBounds_toArray, List.set_cons_succ, List.set_cons_zero]
                    refine wpl_run rfl (.pointer (some ⟨b_xw20, 0, none⟩)) xw95 (by kernel_rfl) ?_; simp only [Act.put, List.setIfInBounds_toArray, List.set_cons_succ, List.set_cons_zero]
                    refine wpl_set rfl 4 (.tmp 52) (.const (.bool true)) rfl b_xw20 0 rfl _ rfl sz1b rfl rfl 58 2 _ k101 (by omega) ?_
                    intro wq tq hq_
                    have hq2 : Has wq b_xw20 58 2 (bC (true, (eachN 2 X Z (2 * 1 + 1)).2)) := hq_.congr (fun j hj => set_bC _ 0 (by omega) j hj)
                    go_wp2_with fail
                    have loq := tq.below lo104 (by omega)
                    go_roundg (2 - (1 + 1))
                    case rel => exact ⟨1 + 1, by omega, rfl, by simp, k97.touch tq (by omega), k98.touch tq (by omega), k99.touch tq (by omega), k100.touch tq (by omega), by rw [E3.out]; exact hq2, k102.touch tq (by omega), k103.touch tq (by omega), loq⟩
                    case measure => omega
              · have eq2 : q = 2 := by omega
                subst eq2
                have q2 : ¬ ((2 : Nat) : Int) < 2 := by omega
                go_wp2_with fail
                go_roundg (2 - (p + 1))
                case rel => exact ⟨p + 1, by omega, rfl, by simp, k79, k80, k81, k82, by rw [show 2 * (p + 1) = 2 * p + 2 from by omega]; exact k83, k84, k85, lo86⟩
                case measure => omega
          · have ep2 : p = 2 := by omega
            subst ep2
            have p2 : ¬ ((2 : Nat) : Int) < 2 := by omega
            go_upto_region 15 with fail
            refine wp_region_lit ?_
            try simp only [Act.put, List.setIfInBounds_toArray, List.set_cons_succ, List.set_cons_zero]
            refine wpl_run rfl (Value.agg (cellsOf (nC (rN y k)) 2)) _ (run_rw 24 (.tmp 7) rfl b_xw4 rfl 24 2 _ k66 undU szU) ?_; simp only [Act.put, List.setIfInBounds_toArray, List.set_cons_succ, List.set_cons_zero]
            refine wpl_run rfl (Value.int .i64 (k : Int)) _ (run_mv (x := (.tmp 8)) rfl _ rfl) ?_; simp only [Act.put, List.setIfInBounds_toArray, List.set_cons_succ, List.set_cons_zero]
            refine wpl_run rfl (Value.agg (cellsOf (bC (eachN 2 X Z 4)) 2)) _ (run_rw 58 (.tmp 9) rfl b_xw20 rfl 58 2 _ k67 undB szB) ?_; simp only [Act.put, List.setIfInBounds_toArray, List.set_cons_succ, List.set_cons_zero]
            refine wpl_cl rfl 40 _ _ rfl #[(Value.agg (cellsOf (nC (rN y k)) 2)), (Value.int .i64 (k : Int)), (Value.agg (cellsOf (bC (eachN 2 X Z 4)) 2))] (by simp only [List.map_toArray, List.map_cons, List.map_nil]; rfl) (by kernel_rfl) (Value.agg (cellsOf (nC (rSet (rN y k) k (eachN 2 X Z 4))) 2)) (Set_any (rN y k) k (eachN 2 X Z 4) wr M71 hM71) ?_
            intro xw79 hbxw79; simp only [Act.put, List.setIfInBounds_toArray, List.set_cons_succ, List.set_cons_zero]
            obtain ⟨M80, hM80⟩ := sz_some xw79
            have lM80 := below_sz hbxw79 hM71 hM80
            have k81 := k63.below hbxw79 (by omega)
            have k82 := k64.below hbxw79 (by omega)
            have k83 := k65.below hbxw79 (by omega)
            have k84 := k66.below hbxw79 (by omega)
            have k85 := k67.below hbxw79 (by omega)
            have k86 := k68.below hbxw79 (by omega)
            have k87 := k69.below hbxw79 (by omega)
            have lo88 := lo70.trans (hbxw79.mono (by omega))
            clear k63 k64 k65 k66 k67 k68 k69 lo70 hbxw79
            refine wpl_store rfl 24 (.tmp 7) (.tmp 56) rfl b_xw4 2 (nC (rSet (rN y k) k (eachN 2 X Z 4))) rfl rfl 24 _ k84 szU (fun j _ => nC_one _ j) ?_
            intro xw89 t90 k91; simp only [Act.put, List.setIfInBounds_toArray, List.set_cons_succ, List.set_cons_zero]
            have k92 := k81.touch t90 (by omega)
            have k93 := k82.touch t90 (by omega)
            have k94 := k83.touch t90 (by omega)
            have k95 := k85.touch t90 (by omega)
            have k96 := k86.touch t90 (by omega)
            have k97 := k87.touch t90 (by omega)
            have lo98 := t90.below lo88 (by omega)
            have h99 := t90.sz hM80
            clear k84 k81 k82 k83 k85 k86 k87 lo88 hM80 t90
            go_wp2_with fail
            go_roundg (64 - (k + 1))
            case rel => exact ⟨k + 1, by omega, rfl, by simp, k92, k93, k94, by rw [E.out]; exact k91, lo98⟩
            case measure => omega
    · have ek : k = 64 := by omega
      subst ek
      go_upto_region 16 with fail
      refine wp_region_lit ?_
      try simp only [Act.put, List.setIfInBounds_toArray, List.set_cons_succ, List.set_cons_zero]
      refine wpl_run rfl (Value.agg (cellsOf (nC (rN y 64)) 2)) _ (run_rw 24 (.tmp 7) rfl b_xw4 rfl 24 2 _ k13 undU szU) ?_; simp only [Act.put, List.setIfInBounds_toArray, List.set_cons_succ, List.set_cons_zero]
      refine wpl_store rfl 24 (.tmp 6) (.tmp 57) rfl (N + 1 + 1) 2 (nC (rN y 64)) rfl rfl 24 _ k12 szU (fun j _ => nC_one _ j) ?_
      intro xw20 t21 k22; simp only [Act.put, List.setIfInBounds_toArray, List.set_cons_succ, List.set_cons_zero]
      have k23 := k10.touch t21 (by omega)
      have k24 := k11.touch t21 (by omega)
      have k25 := k13.touch t21 (by omega)
      have lo26 := t21.below lo14 (by omega)
      have h27 := t21.sz hM15
      clear k12 k10 k11 k13 lo14 hM15 t21
      go_wp2_with fail
      refine post_n rfl (N + 1 + 1) rfl k22 ⟨dU, u1, u2⟩ szU rfl ?_
      exact ⟨rfl, lo26⟩
end Go.Proofs.Ytbeikhokkpioeaa
