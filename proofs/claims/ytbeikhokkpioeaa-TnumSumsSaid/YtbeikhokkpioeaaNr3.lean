/- Contracts of the document's bits: of either, of both. -/
import Derived.Test.YtbeikhokkpioeaaNr2
namespace Go.Proofs.Ytbeikhokkpioeaa
open Go Go.RowKit
theorem wpList_prefix {P : Program} {ops : Array Oper} {C : World → Prop} {R : Exit → Act → World → Prop} (l2 : List Oper) : ∀ (l : List Oper) (a : Act) (w : World), C w → wpQuiet P ops C (fun a' => ∀ w', C w' → wpList P ops R l2 a' w') l a → wpList P ops R (l ++ l2) a w
  | [], a, w, hC, h => h w hC
  | o :: rest, a, w, hC, h => by
    rw [List.cons_append]
    unfold wpQuiet at h
    unfold wpList
    split
    · rename_i hw
      rw [if_pos hw] at h
      refine Or.inl ?_
      obtain ⟨v, h1, h2⟩ := h
      have h3 := h1 w hC
      unfold Oper.quietAt at h3
      unfold Oper.wp
      generalize (execOp a.eval o).run P w = r at h3
      unfold Oper.quietUpon at h3
      split at h3
      · obtain ⟨rfl, rfl⟩ := h3; exact wpList_prefix l2 rest _ _ hC h2
      · obtain ⟨rfl, rfl⟩ := h3; exact wpList_prefix l2 rest _ _ hC h2
      · obtain ⟨rfl, h4⟩ := h3
        rw [Oper.upon_enter]
        refine h4.mono fun e w'' hh => ?_
        obtain ⟨rfl, h5⟩ := hh
        exact wpList_prefix l2 rest _ _ h5 h2
      · exact absurd h3 id
    · rename_i hw
      rw [if_neg hw] at h
      exact wpList_prefix l2 rest _ _ hC h
theorem bits_three (a : Nm) (i : Nat) : rBits a i = (true, true) ∨ rBits a i = (true, false) ∨ rBits a i = (false, true) := by
  unfold rBits
  cases a.m.getLsbD i <;> cases a.v.getLsbD i <;> simp
theorem Bits_is {a : Nm} {i : Nat} {p : Bool × Bool} (h : rBits a i = p) (w : World) (N : Nat) (hN : Sz w N) : Calls Try.prog 39 #[nV a, .int .i64 (i : Int)] w fun e w' => e = .returned (bV p) ∧ Below N w w' := by
  rw [← h]; exact Bits_any a i w N hN
def rJoin (a b : Nm) : Nm := rN (fun i => ((rBits a i).1 || (rBits b i).1, (rBits a i).2 || (rBits b i).2)) 64
def rMeetY (a b : Nm) (i : Nat) : Bool × Bool := ((rBits a i).1 && (rBits b i).1, (rBits a i).2 && (rBits b i).2)
/-- No bit of the first n is none's. -/
def rMeetOk (a b : Nm) (n : Nat) : Prop := ∀ i, i < n → rMeetY a b i ≠ (false, false)
set_option maxRecDepth 100000 in
set_option maxHeartbeats 8000000 in
theorem RJoin_any (a b : Nm) (w : World) (N : Nat) (hN : Sz w N) : Calls Try.prog 34 #[nV a, nV b] w fun e w' => e = .returned (nV (rJoin a b)) ∧ Below N w w' := by
  obtain ⟨dU, u1, u2⟩ := undU
  unfold rJoin
  obtain ⟨y, hy⟩ : ∃ y, y = (fun i => ((rBits a i).1 || (rBits b i).1, (rBits a i).2 || (rBits b i).2)) := ⟨_, rfl⟩
  rw [← hy]
  have Hy := hid hy
  clear hy
  unfold nV
  go_enter Try.func34, Try.ntmps34
  go_upto_region 1 with (first
    | (refine wpl_box rfl 24 (.tmp 0) rfl 2 _ rfl (N) hN ?_; intro w1 hN1 hb1 hh1)
    | (refine wpl_box rfl 24 (.tmp 1) rfl 2 _ rfl (N + 1) hN1 ?_; intro w2 hN2 hb2 hh2)
    | (refine wpl_alloc rfl 24 rfl 2 (nC zeroN) zeU (N + 1 + 1) hN2 ?_; intro w3 hN3 hb3 hh3)
    | fail)
  have lo0 : Below N w w3 := ((hb1.trans (hb2.mono (by omega))).trans (hb3.mono (by omega)))
  have k1 := ((hh1.below hb2 (by omega)).below hb3 (by omega))
  have k2 := (hh2.below hb3 (by omega))
  have k3 := hh3
  clear hh1 hb1 hh2 hb2 hh3 hb3 hN1 hN2
  go_upto_region 1 with fail
  refine wp_region_lit ?_
  try simp only [Act.put, List.setIfInBounds_toArray, List.set_cons_succ, List.set_cons_zero]
  obtain ⟨b_xw4, eb_xw4⟩ : ∃ b_xw4, b_xw4 = (N + 1 + 1 + 1) := ⟨_, rfl⟩
  have hzb_xw4 : Sz w3 b_xw4 := by rw [eb_xw4]; exact hN3
  have lob_xw4 : (N + 1 + 1 + 1) ≤ b_xw4 := by omega
  have upb_xw4 : b_xw4 ≤ (N + 1 + 1 + 1) := by omega
  clear eb_xw4
  refine wpl_alloc rfl 24 rfl 2 (nC zeroN) zeU b_xw4 hzb_xw4 ?_
  intro xw4 hMxw4 hbxw4 hhxw4; simp only [Act.put, List.setIfInBounds_toArray, List.set_cons_succ, List.set_cons_zero]
  have k5 := k1.below hbxw4 (by omega)
  have k6 := k2.below hbxw4 (by omega)
  have k7 := k3.below hbxw4 (by omega)
  have lo8 := lo0.trans (hbxw4.mono (by omega))
  clear k1 k2 k3 lo0 hbxw4 hzb_xw4
  obtain ⟨M9, eM9⟩ : ∃ M9, M9 = b_xw4 + 1 := ⟨_, rfl⟩
  rw [← eM9] at hMxw4
  have loM9 : b_xw4 + 1 ≤ M9 := by omega
  have upM9 : M9 ≤ b_xw4 + 1 := by omega
  clear eM9
  go_wp2_with fail
  go_loopg [6, 7, 8] (64) (fun g x6 x7 x8 wr => ∃ k : Nat, k ≤ 64 ∧ g = 64 - k ∧ x6 = .int .i64 (k : Int) ∧ Has wr N 24 2 (nC a) ∧ Has wr (N + 1) 24 2 (nC b) ∧ Has wr (N + 1 + 1) 24 2 (nC zeroN) ∧ Has wr b_xw4 24 2 (nC (rN y k)) ∧ Below N w wr)
  case atStart => exact ⟨0, by omega, rfl, rfl, k5, k6, k7, hhxw4, lo8⟩
  case round =>
    clear k5 k6 k7 hhxw4 lo8
    obtain ⟨k, hkk, rfl, rfl, k10, k11, k12, k13, lo14⟩ := hrel
    obtain ⟨M15, hM15⟩ := sz_some wr
    have lt_16 := k10.ltN hM15
    have lt_17 := k11.ltN hM15
    have lt_18 := k12.ltN hM15
    have lt_19 := k13.ltN hM15
    have k0 : (0 : Int) ≤ (k : Int) := by omega
    by_cases hlt : k < 64
    · have t1 : (k : Int) < 64 := by omega
      obtain ⟨y0, y1, hyb⟩ : ∃ y0 y1, rBits b k = (y0, y1) := ⟨_, _, rfl⟩
      have HY := hid hyb
      rcases bits_three a k with hxa | hxa | hxa
      · have HX := hid hxa
        have E := hid (show rN y (k + 1) = rSet (rN y k) k (true, true) by show rSet (rN y k) k (y k) = _; rw [Hy.out]; show rSet _ k ((rBits a k).1 || (rBits b k).1, (rBits a k).2 || (rBits b k).2) = _; rw [hxa, hyb]; rfl)
        clear hxa hyb
        go_upto_region 5 with fail
        refine wp_region_any (by kernel_rfl) ?_
        replace k10 : Has wr.drew N 24 2 (nC a) := k10
        replace k11 : Has wr.drew (N + 1) 24 2 (nC b) := k11
        replace k12 : Has wr.drew (N + 1 + 1) 24 2 (nC zeroN) := k12
        replace k13 : Has wr.drew b_xw4 24 2 (nC (rN y k)) := k13
        replace hM15 : Sz wr.drew M15 := hM15
        replace lo14 : Below N w wr.drew := lo14.drew
        change wpAny _ _ _ _ _ _ _ (World.drew _)
        generalize wr.drew = xw20 at *
        refine wpAny_pot (rem := [0, 1, 2, 3, 4, 5, 6, 7]) (FG M15 (fun j => if j = 0 then some (Value.agg (cellsOf (nC a) 2)) else if j = 1 then some (Value.int .i64 (k : Int)) else if j = 2 then some (Value.agg (cellsOf (bC (true, true)) 2)) else if j = 3 then some (Value.agg (cellsOf (nC b) 2)) else if j = 4 then some (Value.int .i64 (k : Int)) else if j = 5 then some (Value.agg (cellsOf (bC (y0, y1)) 2)) else if j = 6 then none else none) (fun j => if j = 6 then (58, 2, bC (false, false)) else (58, 2, bC (false, false)))) (TwoN (fun j => if j = 0 then some (Value.agg (cellsOf (nC a) 2)) else if j = 1 then some (Value.int .i64 (k : Int)) else if j = 2 then some (Value.agg (cellsOf (bC (true, true)) 2)) else if j = 3 then some (Value.agg (cellsOf (nC b) 2)) else if j = 4 then some (Value.int .i64 (k : Int)) else if j = 5 then some (Value.agg (cellsOf (bC (y0, y1)) 2)) else if j = 6 then none else none)) (Below M15 xw20) _ _ _ _ (by kernel_rfl) (size_dstG (by kernel_rfl)) (Below.refl _ _) ?_ ?_
        · intro i hi ac wa hI ha hv
          simp only [List.mem_cons, List.not_mem_nil, or_false] at hi
          rcases hi with rfl | rfl | rfl | rfl | rfl | rfl | rfl | rfl
          · exact potg_run rfl rfl (Value.agg (cellsOf (nC a) 2)) rfl (run_rw 24 (.tmp 2) rfl N (ha 2 (not_dstG (by kernel_rfl))) 24 2 _ (Has.below k10 hI (Has.ltN k10 hM15)) undU szU) hM15 hI
          · exact potg_run rfl rfl (Value.int .i64 (k : Int)) rfl (run_mv (x := (.tmp 6)) rfl _ (ha 6 (not_dstG (by kernel_rfl)))) hM15 hI
          · obtain ⟨v0, hv0a, hv0b⟩ := hv 0 (by simp) (by kernel_rfl)
            have ev0 := hv0b.val rfl
            subst ev0
            obtain ⟨v1, hv1a, hv1b⟩ := hv 1 (by simp) (by kernel_rfl)
            have ev1 := hv1b.val rfl
            subst ev1
            exact potg_cl rfl rfl 39 _ _ rfl #[(Value.agg (cellsOf (nC a) 2)), (Value.int .i64 (k : Int))] (by simp only [List.map_toArray, List.map_cons, List.map_nil, (show ac.eval (.tmp 13) = (Value.agg (cellsOf (nC a) 2)) from (hv0a 13 rfl)), (show ac.eval (.tmp 14) = (Value.int .i64 (k : Int)) from (hv1a 14 rfl))] <;> rfl) (by kernel_rfl) (Value.agg (cellsOf (bC (true, true)) 2)) (fun K hK => Bits_is HX.out wa K hK) rfl hM15 hI
          · exact potg_run rfl rfl (Value.agg (cellsOf (nC b) 2)) rfl (run_rw 24 (.tmp 3) rfl (N + 1) (ha 3 (not_dstG (by kernel_rfl))) 24 2 _ (Has.below k11 hI (Has.ltN k11 hM15)) undU szU) hM15 hI
          · exact potg_run rfl rfl (Value.int .i64 (k : Int)) rfl (run_mv (x := (.tmp 6)) rfl _ (ha 6 (not_dstG (by kernel_rfl)))) hM15 hI
          · obtain ⟨v3, hv3a, hv3b⟩ := hv 3 (by simp) (by kernel_rfl)
            have ev3 := hv3b.val rfl
            subst ev3
            obtain ⟨v4, hv4a, hv4b⟩ := hv 4 (by simp) (by kernel_rfl)
            have ev4 := hv4b.val rfl
            subst ev4
            exact potg_cl rfl rfl 39 _ _ rfl #[(Value.agg (cellsOf (nC b) 2)), (Value.int .i64 (k : Int))] (by simp only [List.map_toArray, List.map_cons, List.map_nil, (show ac.eval (.tmp 16) = (Value.agg (cellsOf (nC b) 2)) from (hv3a 16 rfl)), (show ac.eval (.tmp 17) = (Value.int .i64 (k : Int)) from (hv4a 17 rfl))] <;> rfl) (by kernel_rfl) (Value.agg (cellsOf (bC (y0, y1)) 2)) (fun K hK => Bits_is HY.out wa K hK) rfl hM15 hI
          · exact potg_al rfl rfl rfl zeB rfl rfl hM15 hI
          · exact potg_al rfl rfl rfl zeB rfl rfl hM15 hI
        · intro vals w5_21_ hb5_21_ hF hG
          have e_21_0 := (hF 0 (by simp)).val rfl
          have e_21_1 := (hF 1 (by simp)).val rfl
          have e_21_2 := (hF 2 (by simp)).val rfl
          have e_21_3 := (hF 3 (by simp)).val rfl
          have e_21_4 := (hF 4 (by simp)).val rfl
          have e_21_5 := (hF 5 (by simp)).val rfl
          obtain ⟨b_21_6, l_21_6, e_21_6, h_21_6⟩ := (hF 6 (by simp)).al rfl rfl
          obtain ⟨b_21_7, l_21_7, e_21_7, h_21_7⟩ := (hF 7 (by simp)).al rfl rfl
          have n_21_6_7 := hG 6 (by simp) 7 (by simp) (by omega) rfl rfl b_21_6 b_21_7 e_21_6 e_21_7
          clear hF hG
          simp only [List.foldl_cons, List.foldl_nil, dstOf, List.getElem?_toArray, List.getElem?_cons_succ, List.getElem?_cons_zero, Option.bind_some, Act.put, List.setIfInBounds_toArray, List.set_cons_succ, List.set_cons_zero, e_21_0, e_21_1, e_21_2, e_21_3, e_21_4, e_21_5, e_21_6, e_21_7]
          clear e_21_0 e_21_1 e_21_2 e_21_3 e_21_4 e_21_5 e_21_6 e_21_7
          refine wpAny_chain [8, 9] _ _ _ _ (by kernel_rfl) (by decide) ?_
          simp only [List.filterMap_cons, List.filterMap_nil, List.getElem?_toArray, List.getElem?_cons_succ, List.getElem?_cons_zero]
          have k22 := k10.below hb5_21_ (by omega)
          have k23 := k11.below hb5_21_ (by omega)
          have k24 := k12.below hb5_21_ (by omega)
          have k25 := k13.below hb5_21_ (by omega)
          have lo26 := lo14.trans (hb5_21_.mono (by omega))
          clear k10 k11 k12 k13 lo14 hb5_21_
          refine wpl_store rfl 58 (.tmp 7) (.tmp 15) rfl b_21_6 2 (bC (true, true)) rfl rfl 58 _ h_21_6 szB (fun j _ => bC_one _ j) ?_
          intro xw27 t28 k29
          have k30 := k22.touch t28 (by omega)
          have k31 := k23.touch t28 (by omega)
          have k32 := k24.touch t28 (by omega)
          have k33 := k25.touch t28 (by omega)
          have k34 := h_21_7.touch t28 (by omega)
          have lo35 := t28.below lo26 (by omega)
          clear h_21_6 k22 k23 k24 k25 h_21_7 lo26 t28
          refine wpl_store rfl 58 (.tmp 8) (.tmp 18) rfl b_21_7 2 (bC (y0, y1)) rfl rfl 58 _ k34 szB (fun j _ => bC_one _ j) ?_
          intro xw36 t37 k38
          have k39 := k30.touch t37 (by omega)
          have k40 := k31.touch t37 (by omega)
          have k41 := k32.touch t37 (by omega)
          have k42 := k33.touch t37 (by omega)
          have k43 := k29.touch t37 (by omega)
          have lo44 := t37.below lo35 (by omega)
          clear k34 k30 k31 k32 k33 k29 lo35 t37
          obtain ⟨M45, hM45⟩ := sz_some xw36
          have lt_46 := k39.ltN hM45
          have lt_47 := k40.ltN hM45
          have lt_48 := k41.ltN hM45
          have lt_49 := k42.ltN hM45
          have lt_50 := k43.ltN hM45
          have lt_51 := k38.ltN hM45
          go_upto_region 6 with fail
          refine wp_region_lit ?_
          try simp only [Act.put, List.setIfInBounds_toArray, List.set_cons_succ, List.set_cons_zero]
          change wpList _ _ _ ((_ :: _ :: _ :: _ :: _ :: _ :: _ :: _ :: _ :: _ :: _ :: _ :: _ :: _ :: _ :: _ :: []) ++ (_ :: [])) _ _
          obtain ⟨c52, c53⟩ := b_cells k43
          obtain ⟨c54, c55⟩ := b_cells k38
          refine wpList_prefix (C := fun w' => ∃ x : Later M45 xw36, w' = x.w') _ _ _ _ ⟨⟨_, Below.refl _ _⟩, rfl⟩ ?_
          refine later_row hM45 24 (.tmp 5) rfl (b_xw4) rfl 24 2 _ k42 undU szU (by rfl) ?_; simp only [Act.put, List.setIfInBounds_toArray, List.set_cons_succ, List.set_cons_zero]
          go_big_quiet_step (fail)
          go_big_quiet_step (fail)
          refine later_c1 hM45 4 (.tmp 21) rfl rfl undBool rfl c52 (by rfl) ?_; simp only [Act.put, List.setIfInBounds_toArray, List.set_cons_succ, List.set_cons_zero]
          go_big_quiet_step (fail)
          go_big_quiet_step (fail)
          go_big_quiet_step (fail)
          go_big_quiet_step (fail)
          go_big_quiet_step (fail)
          refine later_c1 hM45 4 (.tmp 27) rfl rfl undBool rfl c53 (by rfl) ?_; simp only [Act.put, List.setIfInBounds_toArray, List.set_cons_succ, List.set_cons_zero]
          go_big_quiet_step (fail)
          go_big_quiet_step (fail)
          go_big_quiet_step (fail)
          go_big_quiet_step (fail)
          refine later_val (fun q => run_bd 58 _ rfl (cellsOf (bC (true, true)) 2) (by kernel_rfl) q.w') (by rfl) ?_; simp only [Act.put, List.setIfInBounds_toArray, List.set_cons_succ, List.set_cons_zero]
          go_big_quiet_step ((go_at_call 40; exact later_of hM45 _ (fun K hK hKN => Set_any (rN y k) k (true, true) _ K hK)))
          refine wpQuiet_nil ?_
          rintro xw56 ⟨qxw56, exw56⟩
          have hbxw56 := qxw56.b
          rw [← exw56] at hbxw56
          clear qxw56 exw56
          obtain ⟨M57, hM57⟩ := sz_some xw56
          have lM57 := below_sz hbxw56 hM45 hM57
          have k58 := k39.below hbxw56 (by omega)
          have k59 := k40.below hbxw56 (by omega)
          have k60 := k41.below hbxw56 (by omega)
          have k61 := k42.below hbxw56 (by omega)
          have k62 := k43.below hbxw56 (by omega)
          have k63 := k38.below hbxw56 (by omega)
          have lo64 := lo44.trans (hbxw56.mono (by omega))
          clear k39 k40 k41 k42 k43 c52 c53 k38 c54 c55 lo44 hbxw56
          refine wpl_store rfl 24 (.tmp 5) (.tmp 34) rfl b_xw4 2 (nC (rSet (rN y k) k (true, true))) rfl rfl 24 _ k61 szU (fun j _ => nC_one _ j) ?_
          intro xw65 t66 k67
          have k68 := k58.touch t66 (by omega)
          have k69 := k59.touch t66 (by omega)
          have k70 := k60.touch t66 (by omega)
          have k71 := k62.touch t66 (by omega)
          have k72 := k63.touch t66 (by omega)
          have lo73 := t66.below lo64 (by omega)
          clear k61 k58 k59 k60 k62 k63 lo64 t66
          go_wp2_with fail
          go_roundg (64 - (k + 1))
          case rel => exact ⟨k + 1, by omega, rfl, by simp, k68, k69, k70, by rw [E.out]; exact k67, lo73⟩
          case measure => omega
      · have HX := hid hxa
        have E := hid (show rN y (k + 1) = rSet (rN y k) k (true, y1) by show rSet (rN y k) k (y k) = _; rw [Hy.out]; show rSet _ k ((rBits a k).1 || (rBits b k).1, (rBits a k).2 || (rBits b k).2) = _; rw [hxa, hyb]; rfl)
        clear hxa hyb
        go_upto_region 5 with fail
        refine wp_region_any (by kernel_rfl) ?_
        replace k10 : Has wr.drew N 24 2 (nC a) := k10
        replace k11 : Has wr.drew (N + 1) 24 2 (nC b) := k11
        replace k12 : Has wr.drew (N + 1 + 1) 24 2 (nC zeroN) := k12
        replace k13 : Has wr.drew b_xw4 24 2 (nC (rN y k)) := k13
        replace hM15 : Sz wr.drew M15 := hM15
        replace lo14 : Below N w wr.drew := lo14.drew
        change wpAny _ _ _ _ _ _ _ (World.drew _)
        generalize wr.drew = xw20 at *
        refine wpAny_pot (rem := [0, 1, 2, 3, 4, 5, 6, 7]) (FG M15 (fun j => if j = 0 then some (Value.agg (cellsOf (nC a) 2)) else if j = 1 then some (Value.int .i64 (k : Int)) else if j = 2 then some (Value.agg (cellsOf (bC (true, false)) 2)) else if j = 3 then some (Value.agg (cellsOf (nC b) 2)) else if j = 4 then some (Value.int .i64 (k : Int)) else if j = 5 then some (Value.agg (cellsOf (bC (y0, y1)) 2)) else if j = 6 then none else none) (fun j => if j = 6 then (58, 2, bC (false, false)) else (58, 2, bC (false, false)))) (TwoN (fun j => if j = 0 then some (Value.agg (cellsOf (nC a) 2)) else if j = 1 then some (Value.int .i64 (k : Int)) else if j = 2 then some (Value.agg (cellsOf (bC (true, false)) 2)) else if j = 3 then some (Value.agg (cellsOf (nC b) 2)) else if j = 4 then some (Value.int .i64 (k : Int)) else if j = 5 then some (Value.agg (cellsOf (bC (y0, y1)) 2)) else if j = 6 then none else none)) (Below M15 xw20) _ _ _ _ (by kernel_rfl) (size_dstG (by kernel_rfl)) (Below.refl _ _) ?_ ?_
        · intro i hi ac wa hI ha hv
          simp only [List.mem_cons, List.not_mem_nil, or_false] at hi
          rcases hi with rfl | rfl | rfl | rfl | rfl | rfl | rfl | rfl
          · exact potg_run rfl rfl (Value.agg (cellsOf (nC a) 2)) rfl (run_rw 24 (.tmp 2) rfl N (ha 2 (not_dstG (by kernel_rfl))) 24 2 _ (Has.below k10 hI (Has.ltN k10 hM15)) undU szU) hM15 hI
          · exact potg_run rfl rfl (Value.int .i64 (k : Int)) rfl (run_mv (x := (.tmp 6)) rfl _ (ha 6 (not_dstG (by kernel_rfl)))) hM15 hI
          · obtain ⟨v0, hv0a, hv0b⟩ := hv 0 (by simp) (by kernel_rfl)
            have ev0 := hv0b.val rfl
            subst ev0
            obtain ⟨v1, hv1a, hv1b⟩ := hv 1 (by simp) (by kernel_rfl)
            have ev1 := hv1b.val rfl
            subst ev1
            exact potg_cl rfl rfl 39 _ _ rfl #[(Value.agg (cellsOf (nC a) 2)), (Value.int .i64 (k : Int))] (by simp only [List.map_toArray, List.map_cons, List.map_nil, (show ac.eval (.tmp 13) = (Value.agg (cellsOf (nC a) 2)) from (hv0a 13 rfl)), (show ac.eval (.tmp 14) = (Value.int .i64 (k : Int)) from (hv1a 14 rfl))] <;> rfl) (by kernel_rfl) (Value.agg (cellsOf (bC (true, false)) 2)) (fun K hK => Bits_is HX.out wa K hK) rfl hM15 hI
          · exact potg_run rfl rfl (Value.agg (cellsOf (nC b) 2)) rfl (run_rw 24 (.tmp 3) rfl (N + 1) (ha 3 (not_dstG (by kernel_rfl))) 24 2 _ (Has.below k11 hI (Has.ltN k11 hM15)) undU szU) hM15 hI
          · exact potg_run rfl rfl (Value.int .i64 (k : Int)) rfl (run_mv (x := (.tmp 6)) rfl _ (ha 6 (not_dstG (by kernel_rfl)))) hM15 hI
          · obtain ⟨v3, hv3a, hv3b⟩ := hv 3 (by simp) (by kernel_rfl)
            have ev3 := hv3b.val rfl
            subst ev3
            obtain ⟨v4, hv4a, hv4b⟩ := hv 4 (by simp) (by kernel_rfl)
            have ev4 := hv4b.val rfl
            subst ev4
            exact potg_cl rfl rfl 39 _ _ rfl #[(Value.agg (cellsOf (nC b) 2)), (Value.int .i64 (k : Int))] (by simp only [List.map_toArray, List.map_cons, List.map_nil, (show ac.eval (.tmp 16) = (Value.agg (cellsOf (nC b) 2)) from (hv3a 16 rfl)), (show ac.eval (.tmp 17) = (Value.int .i64 (k : Int)) from (hv4a 17 rfl))] <;> rfl) (by kernel_rfl) (Value.agg (cellsOf (bC (y0, y1)) 2)) (fun K hK => Bits_is HY.out wa K hK) rfl hM15 hI
          · exact potg_al rfl rfl rfl zeB rfl rfl hM15 hI
          · exact potg_al rfl rfl rfl zeB rfl rfl hM15 hI
        · intro vals w5_21_ hb5_21_ hF hG
          have e_21_0 := (hF 0 (by simp)).val rfl
          have e_21_1 := (hF 1 (by simp)).val rfl
          have e_21_2 := (hF 2 (by simp)).val rfl
          have e_21_3 := (hF 3 (by simp)).val rfl
          have e_21_4 := (hF 4 (by simp)).val rfl
          have e_21_5 := (hF 5 (by simp)).val rfl
          obtain ⟨b_21_6, l_21_6, e_21_6, h_21_6⟩ := (hF 6 (by simp)).al rfl rfl
          obtain ⟨b_21_7, l_21_7, e_21_7, h_21_7⟩ := (hF 7 (by simp)).al rfl rfl
          have n_21_6_7 := hG 6 (by simp) 7 (by simp) (by omega) rfl rfl b_21_6 b_21_7 e_21_6 e_21_7
          clear hF hG
          simp only [List.foldl_cons, List.foldl_nil, dstOf, List.getElem?_toArray, List.getElem?_cons_succ, List.getElem?_cons_zero, Option.bind_some, Act.put, List.setIfInBounds_toArray, List.set_cons_succ, List.set_cons_zero, e_21_0, e_21_1, e_21_2, e_21_3, e_21_4, e_21_5, e_21_6, e_21_7]
          clear e_21_0 e_21_1 e_21_2 e_21_3 e_21_4 e_21_5 e_21_6 e_21_7
          refine wpAny_chain [8, 9] _ _ _ _ (by kernel_rfl) (by decide) ?_
          simp only [List.filterMap_cons, List.filterMap_nil, List.getElem?_toArray, List.getElem?_cons_succ, List.getElem?_cons_zero]
          have k22 := k10.below hb5_21_ (by omega)
          have k23 := k11.below hb5_21_ (by omega)
          have k24 := k12.below hb5_21_ (by omega)
          have k25 := k13.below hb5_21_ (by omega)
          have lo26 := lo14.trans (hb5_21_.mono (by omega))
          clear k10 k11 k12 k13 lo14 hb5_21_
          refine wpl_store rfl 58 (.tmp 7) (.tmp 15) rfl b_21_6 2 (bC (true, false)) rfl rfl 58 _ h_21_6 szB (fun j _ => bC_one _ j) ?_
          intro xw27 t28 k29
          have k30 := k22.touch t28 (by omega)
          have k31 := k23.touch t28 (by omega)
          have k32 := k24.touch t28 (by omega)
          have k33 := k25.touch t28 (by omega)
          have k34 := h_21_7.touch t28 (by omega)
          have lo35 := t28.below lo26 (by omega)
          clear h_21_6 k22 k23 k24 k25 h_21_7 lo26 t28
          refine wpl_store rfl 58 (.tmp 8) (.tmp 18) rfl b_21_7 2 (bC (y0, y1)) rfl rfl 58 _ k34 szB (fun j _ => bC_one _ j) ?_
          intro xw36 t37 k38
          have k39 := k30.touch t37 (by omega)
          have k40 := k31.touch t37 (by omega)
          have k41 := k32.touch t37 (by omega)
          have k42 := k33.touch t37 (by omega)
          have k43 := k29.touch t37 (by omega)
          have lo44 := t37.below lo35 (by omega)
          clear k34 k30 k31 k32 k33 k29 lo35 t37
          obtain ⟨M45, hM45⟩ := sz_some xw36
          have lt_46 := k39.ltN hM45
          have lt_47 := k40.ltN hM45
          have lt_48 := k41.ltN hM45
          have lt_49 := k42.ltN hM45
          have lt_50 := k43.ltN hM45
          have lt_51 := k38.ltN hM45
          go_upto_region 6 with fail
          refine wp_region_lit ?_
          try simp only [Act.put, List.setIfInBounds_toArray, List.set_cons_succ, List.set_cons_zero]
          change wpList _ _ _ ((_ :: _ :: _ :: _ :: _ :: _ :: _ :: _ :: _ :: _ :: _ :: _ :: _ :: _ :: _ :: _ :: []) ++ (_ :: [])) _ _
          obtain ⟨c52, c53⟩ := b_cells k43
          obtain ⟨c54, c55⟩ := b_cells k38
          refine wpList_prefix (C := fun w' => ∃ x : Later M45 xw36, w' = x.w') _ _ _ _ ⟨⟨_, Below.refl _ _⟩, rfl⟩ ?_
          refine later_row hM45 24 (.tmp 5) rfl (b_xw4) rfl 24 2 _ k42 undU szU (by rfl) ?_; simp only [Act.put, List.setIfInBounds_toArray, List.set_cons_succ, List.set_cons_zero]
          go_big_quiet_step (fail)
          go_big_quiet_step (fail)
          refine later_c1 hM45 4 (.tmp 21) rfl rfl undBool rfl c52 (by rfl) ?_; simp only [Act.put, List.setIfInBounds_toArray, List.set_cons_succ, List.set_cons_zero]
          go_big_quiet_step (fail)
          go_big_quiet_step (fail)
          go_big_quiet_step (fail)
          go_big_quiet_step (fail)
          go_big_quiet_step (fail)
          refine later_c1 hM45 4 (.tmp 27) rfl rfl undBool rfl c53 (by rfl) ?_; simp only [Act.put, List.setIfInBounds_toArray, List.set_cons_succ, List.set_cons_zero]
          go_big_quiet_step (fail)
          go_big_quiet_step (fail)
          refine later_c1 hM45 4 (.tmp 30) rfl rfl undBool rfl c55 (by rfl) ?_; simp only [Act.put, List.setIfInBounds_toArray, List.set_cons_succ, List.set_cons_zero]
          go_big_quiet_step (fail)
          refine later_val (fun q => run_bd 58 _ rfl (cellsOf (bC (true, y1)) 2) (by kernel_rfl) q.w') (by rfl) ?_; simp only [Act.put, List.setIfInBounds_toArray, List.set_cons_succ, List.set_cons_zero]
          go_big_quiet_step ((go_at_call 40; exact later_of hM45 _ (fun K hK hKN => Set_any (rN y k) k (true, y1) _ K hK)))
          refine wpQuiet_nil ?_
          rintro xw56 ⟨qxw56, exw56⟩
          have hbxw56 := qxw56.b
          rw [← exw56] at hbxw56
          clear qxw56 exw56
          obtain ⟨M57, hM57⟩ := sz_some xw56
          have lM57 := below_sz hbxw56 hM45 hM57
          have k58 := k39.below hbxw56 (by omega)
          have k59 := k40.below hbxw56 (by omega)
          have k60 := k41.below hbxw56 (by omega)
          have k61 := k42.below hbxw56 (by omega)
          have k62 := k43.below hbxw56 (by omega)
          have k63 := k38.below hbxw56 (by omega)
          have lo64 := lo44.trans (hbxw56.mono (by omega))
          clear k39 k40 k41 k42 k43 c52 c53 k38 c54 c55 lo44 hbxw56
          refine wpl_store rfl 24 (.tmp 5) (.tmp 34) rfl b_xw4 2 (nC (rSet (rN y k) k (true, y1))) rfl rfl 24 _ k61 szU (fun j _ => nC_one _ j) ?_
          intro xw65 t66 k67
          have k68 := k58.touch t66 (by omega)
          have k69 := k59.touch t66 (by omega)
          have k70 := k60.touch t66 (by omega)
          have k71 := k62.touch t66 (by omega)
          have k72 := k63.touch t66 (by omega)
          have lo73 := t66.below lo64 (by omega)
          clear k61 k58 k59 k60 k62 k63 lo64 t66
          go_wp2_with fail
          go_roundg (64 - (k + 1))
          case rel => exact ⟨k + 1, by omega, rfl, by simp, k68, k69, k70, by rw [E.out]; exact k67, lo73⟩
          case measure => omega
      · have HX := hid hxa
        have E := hid (show rN y (k + 1) = rSet (rN y k) k (y0, true) by show rSet (rN y k) k (y k) = _; rw [Hy.out]; show rSet _ k ((rBits a k).1 || (rBits b k).1, (rBits a k).2 || (rBits b k).2) = _; rw [hxa, hyb]; rfl)
        clear hxa hyb
        go_upto_region 5 with fail
        refine wp_region_any (by kernel_rfl) ?_
        replace k10 : Has wr.drew N 24 2 (nC a) := k10
        replace k11 : Has wr.drew (N + 1) 24 2 (nC b) := k11
        replace k12 : Has wr.drew (N + 1 + 1) 24 2 (nC zeroN) := k12
        replace k13 : Has wr.drew b_xw4 24 2 (nC (rN y k)) := k13
        replace hM15 : Sz wr.drew M15 := hM15
        replace lo14 : Below N w wr.drew := lo14.drew
        change wpAny _ _ _ _ _ _ _ (World.drew _)
        generalize wr.drew = xw20 at *
        refine wpAny_pot (rem := [0, 1, 2, 3, 4, 5, 6, 7]) (FG M15 (fun j => if j = 0 then some (Value.agg (cellsOf (nC a) 2)) else if j = 1 then some (Value.int .i64 (k : Int)) else if j = 2 then some (Value.agg (cellsOf (bC (false, true)) 2)) else if j = 3 then some (Value.agg (cellsOf (nC b) 2)) else if j = 4 then some (Value.int .i64 (k : Int)) else if j = 5 then some (Value.agg (cellsOf (bC (y0, y1)) 2)) else if j = 6 then none else none) (fun j => if j = 6 then (58, 2, bC (false, false)) else (58, 2, bC (false, false)))) (TwoN (fun j => if j = 0 then some (Value.agg (cellsOf (nC a) 2)) else if j = 1 then some (Value.int .i64 (k : Int)) else if j = 2 then some (Value.agg (cellsOf (bC (false, true)) 2)) else if j = 3 then some (Value.agg (cellsOf (nC b) 2)) else if j = 4 then some (Value.int .i64 (k : Int)) else if j = 5 then some (Value.agg (cellsOf (bC (y0, y1)) 2)) else if j = 6 then none else none)) (Below M15 xw20) _ _ _ _ (by kernel_rfl) (size_dstG (by kernel_rfl)) (Below.refl _ _) ?_ ?_
        · intro i hi ac wa hI ha hv
          simp only [List.mem_cons, List.not_mem_nil, or_false] at hi
          rcases hi with rfl | rfl | rfl | rfl | rfl | rfl | rfl | rfl
          · exact potg_run rfl rfl (Value.agg (cellsOf (nC a) 2)) rfl (run_rw 24 (.tmp 2) rfl N (ha 2 (not_dstG (by kernel_rfl))) 24 2 _ (Has.below k10 hI (Has.ltN k10 hM15)) undU szU) hM15 hI
          · exact potg_run rfl rfl (Value.int .i64 (k : Int)) rfl (run_mv (x := (.tmp 6)) rfl _ (ha 6 (not_dstG (by kernel_rfl)))) hM15 hI
          · obtain ⟨v0, hv0a, hv0b⟩ := hv 0 (by simp) (by kernel_rfl)
            have ev0 := hv0b.val rfl
            subst ev0
            obtain ⟨v1, hv1a, hv1b⟩ := hv 1 (by simp) (by kernel_rfl)
            have ev1 := hv1b.val rfl
            subst ev1
            exact potg_cl rfl rfl 39 _ _ rfl #[(Value.agg (cellsOf (nC a) 2)), (Value.int .i64 (k : Int))] (by simp only [List.map_toArray, List.map_cons, List.map_nil, (show ac.eval (.tmp 13) = (Value.agg (cellsOf (nC a) 2)) from (hv0a 13 rfl)), (show ac.eval (.tmp 14) = (Value.int .i64 (k : Int)) from (hv1a 14 rfl))] <;> rfl) (by kernel_rfl) (Value.agg (cellsOf (bC (false, true)) 2)) (fun K hK => Bits_is HX.out wa K hK) rfl hM15 hI
          · exact potg_run rfl rfl (Value.agg (cellsOf (nC b) 2)) rfl (run_rw 24 (.tmp 3) rfl (N + 1) (ha 3 (not_dstG (by kernel_rfl))) 24 2 _ (Has.below k11 hI (Has.ltN k11 hM15)) undU szU) hM15 hI
          · exact potg_run rfl rfl (Value.int .i64 (k : Int)) rfl (run_mv (x := (.tmp 6)) rfl _ (ha 6 (not_dstG (by kernel_rfl)))) hM15 hI
          · obtain ⟨v3, hv3a, hv3b⟩ := hv 3 (by simp) (by kernel_rfl)
            have ev3 := hv3b.val rfl
            subst ev3
            obtain ⟨v4, hv4a, hv4b⟩ := hv 4 (by simp) (by kernel_rfl)
            have ev4 := hv4b.val rfl
            subst ev4
            exact potg_cl rfl rfl 39 _ _ rfl #[(Value.agg (cellsOf (nC b) 2)), (Value.int .i64 (k : Int))] (by simp only [List.map_toArray, List.map_cons, List.map_nil, (show ac.eval (.tmp 16) = (Value.agg (cellsOf (nC b) 2)) from (hv3a 16 rfl)), (show ac.eval (.tmp 17) = (Value.int .i64 (k : Int)) from (hv4a 17 rfl))] <;> rfl) (by kernel_rfl) (Value.agg (cellsOf (bC (y0, y1)) 2)) (fun K hK => Bits_is HY.out wa K hK) rfl hM15 hI
          · exact potg_al rfl rfl rfl zeB rfl rfl hM15 hI
          · exact potg_al rfl rfl rfl zeB rfl rfl hM15 hI
        · intro vals w5_21_ hb5_21_ hF hG
          have e_21_0 := (hF 0 (by simp)).val rfl
          have e_21_1 := (hF 1 (by simp)).val rfl
          have e_21_2 := (hF 2 (by simp)).val rfl
          have e_21_3 := (hF 3 (by simp)).val rfl
          have e_21_4 := (hF 4 (by simp)).val rfl
          have e_21_5 := (hF 5 (by simp)).val rfl
          obtain ⟨b_21_6, l_21_6, e_21_6, h_21_6⟩ := (hF 6 (by simp)).al rfl rfl
          obtain ⟨b_21_7, l_21_7, e_21_7, h_21_7⟩ := (hF 7 (by simp)).al rfl rfl
          have n_21_6_7 := hG 6 (by simp) 7 (by simp) (by omega) rfl rfl b_21_6 b_21_7 e_21_6 e_21_7
          clear hF hG
          simp only [List.foldl_cons, List.foldl_nil, dstOf, List.getElem?_toArray, List.getElem?_cons_succ, List.getElem?_cons_zero, Option.bind_some, Act.put, List.setIfInBounds_toArray, List.set_cons_succ, List.set_cons_zero, e_21_0, e_21_1, e_21_2, e_21_3, e_21_4, e_21_5, e_21_6, e_21_7]
          clear e_21_0 e_21_1 e_21_2 e_21_3 e_21_4 e_21_5 e_21_6 e_21_7
          refine wpAny_chain [8, 9] _ _ _ _ (by kernel_rfl) (by decide) ?_
          simp only [List.filterMap_cons, List.filterMap_nil, List.getElem?_toArray, List.getElem?_cons_succ, List.getElem?_cons_zero]
          have k22 := k10.below hb5_21_ (by omega)
          have k23 := k11.below hb5_21_ (by omega)
          have k24 := k12.below hb5_21_ (by omega)
          have k25 := k13.below hb5_21_ (by omega)
          have lo26 := lo14.trans (hb5_21_.mono (by omega))
          clear k10 k11 k12 k13 lo14 hb5_21_
          refine wpl_store rfl 58 (.tmp 7) (.tmp 15) rfl b_21_6 2 (bC (false, true)) rfl rfl 58 _ h_21_6 szB (fun j _ => bC_one _ j) ?_
          intro xw27 t28 k29
          have k30 := k22.touch t28 (by omega)
          have k31 := k23.touch t28 (by omega)
          have k32 := k24.touch t28 (by omega)
          have k33 := k25.touch t28 (by omega)
          have k34 := h_21_7.touch t28 (by omega)
          have lo35 := t28.below lo26 (by omega)
          clear h_21_6 k22 k23 k24 k25 h_21_7 lo26 t28
          refine wpl_store rfl 58 (.tmp 8) (.tmp 18) rfl b_21_7 2 (bC (y0, y1)) rfl rfl 58 _ k34 szB (fun j _ => bC_one _ j) ?_
          intro xw36 t37 k38
          have k39 := k30.touch t37 (by omega)
          have k40 := k31.touch t37 (by omega)
          have k41 := k32.touch t37 (by omega)
          have k42 := k33.touch t37 (by omega)
          have k43 := k29.touch t37 (by omega)
          have lo44 := t37.below lo35 (by omega)
          clear k34 k30 k31 k32 k33 k29 lo35 t37
          obtain ⟨M45, hM45⟩ := sz_some xw36
          have lt_46 := k39.ltN hM45
          have lt_47 := k40.ltN hM45
          have lt_48 := k41.ltN hM45
          have lt_49 := k42.ltN hM45
          have lt_50 := k43.ltN hM45
          have lt_51 := k38.ltN hM45
          go_upto_region 6 with fail
          refine wp_region_lit ?_
          try simp only [Act.put, List.setIfInBounds_toArray, List.set_cons_succ, List.set_cons_zero]
          change wpList _ _ _ ((_ :: _ :: _ :: _ :: _ :: _ :: _ :: _ :: _ :: _ :: _ :: _ :: _ :: _ :: _ :: _ :: []) ++ (_ :: [])) _ _
          obtain ⟨c52, c53⟩ := b_cells k43
          obtain ⟨c54, c55⟩ := b_cells k38
          refine wpList_prefix (C := fun w' => ∃ x : Later M45 xw36, w' = x.w') _ _ _ _ ⟨⟨_, Below.refl _ _⟩, rfl⟩ ?_
          refine later_row hM45 24 (.tmp 5) rfl (b_xw4) rfl 24 2 _ k42 undU szU (by rfl) ?_; simp only [Act.put, List.setIfInBounds_toArray, List.set_cons_succ, List.set_cons_zero]
          go_big_quiet_step (fail)
          go_big_quiet_step (fail)
          refine later_c1 hM45 4 (.tmp 21) rfl rfl undBool rfl c52 (by rfl) ?_; simp only [Act.put, List.setIfInBounds_toArray, List.set_cons_succ, List.set_cons_zero]
          go_big_quiet_step (fail)
          go_big_quiet_step (fail)
          refine later_c1 hM45 4 (.tmp 24) rfl rfl undBool rfl c54 (by rfl) ?_; simp only [Act.put, List.setIfInBounds_toArray, List.set_cons_succ, List.set_cons_zero]
          go_big_quiet_step (fail)
          go_big_quiet_step (fail)
          refine later_c1 hM45 4 (.tmp 27) rfl rfl undBool rfl c53 (by rfl) ?_; simp only [Act.put, List.setIfInBounds_toArray, List.set_cons_succ, List.set_cons_zero]
          go_big_quiet_step (fail)
          go_big_quiet_step (fail)
          go_big_quiet_step (fail)
          go_big_quiet_step (fail)
          refine later_val (fun q => run_bd 58 _ rfl (cellsOf (bC (y0, true)) 2) (by kernel_rfl) q.w') (by rfl) ?_; simp only [Act.put, List.setIfInBounds_toArray, List.set_cons_succ, List.set_cons_zero]
          go_big_quiet_step ((go_at_call 40; exact later_of hM45 _ (fun K hK hKN => Set_any (rN y k) k (y0, true) _ K hK)))
          refine wpQuiet_nil ?_
          rintro xw56 ⟨qxw56, exw56⟩
          have hbxw56 := qxw56.b
          rw [← exw56] at hbxw56
          clear qxw56 exw56
          obtain ⟨M57, hM57⟩ := sz_some xw56
          have lM57 := below_sz hbxw56 hM45 hM57
          have k58 := k39.below hbxw56 (by omega)
          have k59 := k40.below hbxw56 (by omega)
          have k60 := k41.below hbxw56 (by omega)
          have k61 := k42.below hbxw56 (by omega)
          have k62 := k43.below hbxw56 (by omega)
          have k63 := k38.below hbxw56 (by omega)
          have lo64 := lo44.trans (hbxw56.mono (by omega))
          clear k39 k40 k41 k42 k43 c52 c53 k38 c54 c55 lo44 hbxw56
          refine wpl_store rfl 24 (.tmp 5) (.tmp 34) rfl b_xw4 2 (nC (rSet (rN y k) k (y0, true))) rfl rfl 24 _ k61 szU (fun j _ => nC_one _ j) ?_
          intro xw65 t66 k67
          have k68 := k58.touch t66 (by omega)
          have k69 := k59.touch t66 (by omega)
          have k70 := k60.touch t66 (by omega)
          have k71 := k62.touch t66 (by omega)
          have k72 := k63.touch t66 (by omega)
          have lo73 := t66.below lo64 (by omega)
          clear k61 k58 k59 k60 k62 k63 lo64 t66
          go_wp2_with fail
          go_roundg (64 - (k + 1))
          case rel => exact ⟨k + 1, by omega, rfl, by simp, k68, k69, k70, by rw [E.out]; exact k67, lo73⟩
          case measure => omega
    · have ek : k = 64 := by omega
      subst ek
      go_upto_region 7 with fail
      refine wp_region_lit ?_
      try simp only [Act.put, List.setIfInBounds_toArray, List.set_cons_succ, List.set_cons_zero]
      refine wpl_run rfl (Value.agg (cellsOf (nC (rN y 64)) 2)) _ (run_rw 24 (.tmp 5) rfl b_xw4 rfl 24 2 _ k13 undU szU) ?_; simp only [Act.put, List.setIfInBounds_toArray, List.set_cons_succ, List.set_cons_zero]
      refine wpl_store rfl 24 (.tmp 4) (.tmp 35) rfl (N + 1 + 1) 2 (nC (rN y 64)) rfl rfl 24 _ k12 szU (fun j _ => nC_one _ j) ?_
      intro xw20 t21 k22; simp only [Act.put, List.setIfInBounds_toArray, List.set_cons_succ, List.set_cons_zero]
      have k23 := k10.touch t21 (by omega)
      have k24 := k11.touch t21 (by omega)
      have k25 := k13.touch t21 (by omega)
      have lo26 := t21.below lo14 (by omega)
      have h27 := t21.sz hM15
      clear k12 k10 k11 k13 lo14 hM15 t21
      go_wp2_with fail
      refine post_n rfl (N + 1 + 1) rfl k22 ⟨dU, u1, u2⟩ szU rfl ?_
      exact ⟨rfl, lo26⟩
def rMeetB (a b : Nm) : Bool := (List.range 64).all (fun i => rMeetY a b i != (false, false))
def rMeetN (a b : Nm) : Nm := if rMeetB a b then rN (rMeetY a b) 64 else zeroN
theorem meet_none {a b : Nm} {k : Nat} (hk : k < 64) (h : rMeetY a b k = (false, false)) : rMeetN a b = zeroN ∧ rMeetB a b = false := by
  have h1 : rMeetB a b = false := by
    unfold rMeetB
    rw [List.all_eq_false]
    exact ⟨k, List.mem_range.2 hk, by rw [h]; decide⟩
  exact ⟨by unfold rMeetN; rw [h1]; rfl, h1⟩
theorem meet_all {a b : Nm} (h : ∀ i, i < 64 → rMeetY a b i ≠ (false, false)) : rMeetN a b = rN (rMeetY a b) 64 ∧ rMeetB a b = true := by
  have h1 : rMeetB a b = true := by
    unfold rMeetB
    rw [List.all_eq_true]
    intro i hi
    exact bne_iff_ne.2 (h i (List.mem_range.1 hi))
  exact ⟨by unfold rMeetN; rw [h1]; rfl, h1⟩
end Go.Proofs.Ytbeikhokkpioeaa
