/- AbsregMaybes: a cell or nought; the walk, begun. -/
import Derived.Test.YtaeggclcjpcnoaaAsf
import Derived.Test.YtaeggclcjpcnoaaAbh
import Derived.Test.YtaeggclcjpcnoaaAsn
import Derived.Test.YtaeggclcjpcnoaaAb6
namespace Go.Proofs.Ytaeggclcjpcnoaa
open Go Go.RowKit
theorem run_neqSelf {P : Program} {a : Act} {o : Oper} {T ty : TypeId} (hT : P.underlying T = some .bool) {x y : Operand} {b : Bool} (ho : o.op = .binOp .neq T x y ty) (hx : a.eval x = .bool b) (hy : a.eval y = .bool b) (w : World) : (execOp a.eval o).run P w = .ok (.value (.bool false)) w := by
  have := run_equalIn_bool (P := P) w 9999 T b b hT
  unfold execOp
  simp only [ho, hx, hy, Sem.run_bind]
  have e : (eqGuard .neq T x y (.bool b) (.bool b)).run P w = .ok () w := by unfold eqGuard; rfl
  simp only [e, Result.andThen_ok, binOp, Sem.run_bind, Op.equal, Op.maxDepth, this, Sem.run_pure, beq_self_eq_true, Bool.not_true]
theorem bne_sw {a b : Int} {r : Bool} (h : (a != b) = r) : (b == a) = !r ∧ (a == b) = !r := by
  have h2 : (a == b) = !r := by rw [← h, bne, Bool.not_not]
  have hc : (b == a) = (a == b) := by rw [Bool.eq_iff_iff, beq_iff_eq, beq_iff_eq]; exact eq_comm
  exact ⟨hc.trans h2, h2⟩
set_option maxRecDepth 100000 in
set_option maxHeartbeats 4000000 in
theorem Maybe_any (sl id : Int) (w : World) (N : Nat) (hN : Sz w N) : Calls Try.prog 51 #[.int .i64 sl, .int .i64 id] w fun e w' => e = .returned (arV (mbA sl id)) ∧ Below N w w' := by
  unfold arV
  go_enter Try.func51, Try.ntmps51
  go_wp2_with (first
    | (refine wpl_alloc rfl 71 rfl 11 (arC zeroA) zeAr N hN ?_; intro w1 hN1 hb1 h1)
    | (refine wpl_run rfl (.agg (cellsOf (arC (mbA sl id)) 11)) _ (run_bd 71 _ rfl (cellsOf (arC (mbA sl id)) 11) (by kernel_rfl) _) ?_)
    | (refine wpl_store rfl 71 (.tmp 4) (.tmp 7) rfl N 11 (arC (mbA sl id)) rfl rfl 71 _ h1 szAr (fun j _ => arC_one _ j) ?_; intro w3 t3 h3; replace hb1 := t3.below hb1 (by omega))
    | fail)
  exact post_cell rfl N rfl h3 _ undAr.choose_spec.1 undAr.choose_spec.2 szAr rfl ⟨rfl, hb1⟩
set_option maxRecDepth 100000 in
set_option maxHeartbeats 16000000 in
theorem law_amaybes (ids : Nat → Int) (sl : Int) (c : Bool) (w : World) (N : Nat) (hN : Sz w N) : Calls Try.prog 18 #[.agg (cellsOf (iC ids) 3), .int .i64 sl, .bool c] w fun e w' => e = .returned (.bool true) ∧ Below N w w' := by
  go_enter Try.func18, Try.ntmps18
  go_upto_region 2 with (first
    | (refine wpl_box rfl 98 (.tmp 0) rfl 3 (iC ids) rfl N hN ?_; intro w1 hN1 hb1 hz)
    | (go_at_call 42; refine (Start_any _ _ hN1).mono ?_; rintro e w2 ⟨rfl, hb2⟩; obtain ⟨M2, hM2⟩ := sz_some w2; have l2 := below_sz hb2 hN1 hM2; replace hz := hz.below hb2 (by omega); replace hb2 := hb1.trans (hb2.mono (by omega)); clear hb1 hN1)
    | (go_at_call 42; refine (Start_any _ _ hM2).mono ?_; rintro e w3 ⟨rfl, hb3⟩; obtain ⟨M3, hM3⟩ := sz_some w3; have l3 := below_sz hb3 hM2 hM3; replace hz := hz.below hb3 (by omega); replace hb3 := hb2.trans (hb3.mono (by omega)); clear hb2 hM2)
    | (refine wpl_alloc rfl 76 rfl 273 (stC zeroS) zeSt M3 hM3 ?_; intro w4 hM4 hb4 h7; replace hz := hz.below hb4 (by omega); replace hb4 := hb3.trans (hb4.mono (by omega)); clear hb3 hM3)
    | (refine wpl_alloc rfl 76 rfl 273 (stC zeroS) zeSt (M3 + 1) hM4 ?_; intro w5 hM5 hb5 h8; replace hz := hz.below hb5 (by omega); replace h7 := h7.below hb5 (by omega); replace hb5 := hb4.trans (hb5.mono (by omega)); clear hb4 hM4)
    | (refine wpl_store rfl 76 (.tmp 7) (.tmp 14) rfl M3 273 (stC startS) rfl rfl 76 _ h7 szSt (fun j _ => stC_one _ j) ?_; intro w6 t6 k7; have hM6 := t6.sz hM5; replace hz := hz.touch t6 (by omega); replace h8 := h8.touch t6 (by omega); replace hb5 := t6.below hb5 (by omega); clear hM5 h7 t6)
    | (refine wpl_store rfl 76 (.tmp 8) (.tmp 15) rfl (M3 + 1) 273 (stC startS) rfl rfl 76 _ h8 szSt (fun j _ => stC_one _ j) ?_; intro w7 t7 k8; have hM7 := t7.sz hM6; replace hz := hz.touch t7 (by omega); replace k7 := k7.touch t7 (by omega); replace hb5 := t7.below hb5 (by omega); clear hM6 h8 t7)
    | fail)
  go_upto_region 2 with fail
  refine wp_region_inn (fun w' => Has w' N 98 3 (iC ids)) hz.drew (by kernel_rfl) ?_
  have hne := inn_ne (I := fun w' => Has w' N 98 3 (iC ids)) hz
  refine anyI_reads [0, 1, 2, 4, 5, 6, 8, 11] _ _ _ hz.drew (by kernel_rfl) (fun _ _ _ d _ h => by cases d <;> exact h) ?_
  simp only [pickO, List.map_cons, List.map_nil, List.getElem?_toArray, List.getElem?_cons_succ, List.getElem?_cons_zero, Option.getD_some, Act.put, List.setIfInBounds_toArray, List.set_cons_succ, List.set_cons_zero]
  iterate 2 (go_big_quiet_step (fail))
  refine inn_val (fun x => run_c1 3 (.tmp 17) rfl ⟨N, 0, none⟩ rfl undInt rfl (x.h.cell (j := 0) (by omega))) (by rfl) ?_; simp only [Act.put, List.setIfInBounds_toArray, List.set_cons_succ, List.set_cons_zero]
  iterate 2 (go_big_quiet_step (fail))
  refine inn_val (fun x => run_c1 3 (.tmp 21) rfl ⟨N, 1, none⟩ rfl undInt rfl (x.h.cell (j := 1) (by omega))) (by rfl) ?_; simp only [Act.put, List.setIfInBounds_toArray, List.set_cons_succ, List.set_cons_zero]
  iterate 2 (go_big_quiet_step (fail))
  refine wpQuiet_nil ?_
  obtain ⟨v20, ev⟩ : ∃ x, x = w7.drew := ⟨_, rfl⟩
  replace hz : Has v20 N 98 3 (iC ids) := by rw [ev]; exact hz
  replace k7 : Has v20 M3 76 273 (stC startS) := by rw [ev]; exact k7
  replace k8 : Has v20 (M3 + 1) 76 273 (stC startS) := by rw [ev]; exact k8
  have hP20 : Sz v20 ((M3 + 1 + 1)) := by rw [ev]; exact hM7
  replace hb5 : Below N w v20 := by rw [ev]; exact hb5.drew
  rw [← ev]
  clear ev hM7
  refine anyI_part [3] _ _ _ _ (by kernel_rfl) ?_
  simp only [List.filterMap_cons, List.filterMap_nil, List.getElem?_toArray, List.getElem?_cons_succ, List.getElem?_cons_zero]
  change wpList _ _ _ [_] _ _
  go_wp2_with fail
  refine (Maybe_any sl (ids 0) _ (M3 + 1 + 1) hP20).mono ?_
  rintro e v21 ⟨rfl, hv21⟩
  obtain ⟨P21, hP21⟩ := sz_some v21
  have lP21 := below_sz hv21 hP20 hP21
  replace hz := hz.below hv21 (by omega)
  replace k7 := k7.below hv21 (by omega)
  replace k8 := k8.below hv21 (by omega)
  replace hb5 := hb5.trans (hv21.mono (by omega))
  clear hP20 hv21
  dsimp only
  go_step
  refine ⟨hz, ?_⟩
  change anyI _ _ _ _ _ _ _ _ _
  try simp only [Act.put, List.setIfInBounds_toArray, List.set_cons_succ, List.set_cons_zero, List.getElem_toArray, List.getElem_cons_succ, List.getElem_cons_zero]
  refine anyI_reads [9] _ _ _ hz (by kernel_rfl) (fun _ _ _ d _ h => by cases d <;> exact h) ?_
  simp only [pickO, List.map_cons, List.map_nil, List.getElem?_toArray, List.getElem?_cons_succ, List.getElem?_cons_zero, Option.getD_some, Act.put, List.setIfInBounds_toArray, List.set_cons_succ, List.set_cons_zero]
  go_big_quiet_step (fail)
  refine wpQuiet_nil ?_
  clear hne
  refine anyI_part [7, 10, 12, 13] _ _ _ _ (by kernel_rfl) ?_
  simp only [List.filterMap_cons, List.filterMap_nil, List.getElem?_toArray, List.getElem?_cons_succ, List.getElem?_cons_zero]
  change wpList _ _ _ [_] _ _
  go_wp2_with fail
  refine (Maybe_any sl (ids 1) _ P21 hP21).mono ?_
  rintro e v22 ⟨rfl, hv22⟩
  obtain ⟨P22, hP22⟩ := sz_some v22
  have lP22 := below_sz hv22 hP21 hP22
  replace hz := hz.below hv22 (by omega)
  replace k7 := k7.below hv22 (by omega)
  replace k8 := k8.below hv22 (by omega)
  replace hb5 := hb5.trans (hv22.mono (by omega))
  clear hP21 hv22
  dsimp only
  go_step
  refine ⟨hz, ?_⟩
  change wpList _ _ _ [_] _ _
  refine wpl_store_part rfl 71 (.tmp 25) (.tmp 19) rfl M3 (0) rfl 11 (arC (mbA sl (ids 0))) rfl 76 273 _ k7 (by omega) szAr (fun j _ => arC_one _ j) ?_
  intro y23 ty23 ky23
  replace hz := hz.touch ty23 (by omega)
  replace k8 := k8.touch ty23 (by omega)
  replace hb5 := ty23.below hb5 (by omega)
  have hY23 := ty23.sz hP22
  replace ky23 := ky23.congr (g := stC (startS.setR 0 (mbA sl (ids 0)))) (fun j _ => lay_R _ (i := 0) (by omega) _ j)
  clear k7
  have k7 := ky23
  clear ky23 ty23
  refine ⟨hz, ?_⟩
  change wpList _ _ _ [_] _ _
  refine wpl_run rfl (.pointer (some ⟨M3, 0 + 6 * 11, none⟩)) _ (run_iaK (x := .tmp 26) (y := (.const (.int .i64 6))) rfl (b := M3) (off := 0) (k := 6) rfl rfl undR11 szAr (by omega)) ?_
  refine ⟨hz, ?_⟩
  change wpList _ _ _ [_] _ _
  refine wpl_store_part rfl 71 (.tmp 27) (.tmp 23) rfl M3 (0 + 6 * 11) rfl 11 (arC (mbA sl (ids 1))) rfl 76 273 _ k7 (by omega) szAr (fun j _ => arC_one _ j) ?_
  intro y24 ty24 ky24
  replace hz := hz.touch ty24 (by omega)
  replace k8 := k8.touch ty24 (by omega)
  replace hb5 := ty24.below hb5 (by omega)
  have hY24 := ty24.sz hY23
  replace ky24 := ky24.congr (g := stC ((startS.setR 0 (mbA sl (ids 0))).setR 6 (mbA sl (ids 1)))) (fun j _ => lay_R _ (i := 6) (by omega) _ j)
  clear k7
  have k7 := ky24
  clear ky24 ty24
  refine ⟨hz, ?_⟩
  change anyI _ _ _ _ _ _ _ _ _
  try simp only [Act.put, List.setIfInBounds_toArray, List.set_cons_succ, List.set_cons_zero, List.getElem_toArray, List.getElem_cons_succ, List.getElem_cons_zero]
  refine anyI_done (by kernel_rfl) ?_
  try simp only [Act.put, List.setIfInBounds_toArray, List.set_cons_succ, List.set_cons_zero, List.getElem_toArray, List.getElem_cons_succ, List.getElem_cons_zero]
  clear hP22 hY23
  go_upto_region 3 with fail
  refine wp_region_inn (fun w' => Has w' N 98 3 (iC ids)) hz.drew (by kernel_rfl) ?_
  have hne := inn_ne (I := fun w' => Has w' N 98 3 (iC ids)) hz
  refine anyI_reads [0, 1, 2, 4, 5, 6, 8, 11] _ _ _ hz.drew (by kernel_rfl) (fun _ _ _ d _ h => by cases d <;> exact h) ?_
  simp only [pickO, List.map_cons, List.map_nil, List.getElem?_toArray, List.getElem?_cons_succ, List.getElem?_cons_zero, Option.getD_some, Act.put, List.setIfInBounds_toArray, List.set_cons_succ, List.set_cons_zero]
  iterate 2 (go_big_quiet_step (fail))
  refine inn_val (fun x => run_c1 3 (.tmp 29) rfl ⟨N, 1, none⟩ rfl undInt rfl (x.h.cell (j := 1) (by omega))) (by rfl) ?_; simp only [Act.put, List.setIfInBounds_toArray, List.set_cons_succ, List.set_cons_zero]
  iterate 2 (go_big_quiet_step (fail))
  refine inn_val (fun x => run_c1 3 (.tmp 33) rfl ⟨N, 2, none⟩ rfl undInt rfl (x.h.cell (j := 2) (by omega))) (by rfl) ?_; simp only [Act.put, List.setIfInBounds_toArray, List.set_cons_succ, List.set_cons_zero]
  iterate 2 (go_big_quiet_step (fail))
  refine wpQuiet_nil ?_
  obtain ⟨v40, ev⟩ : ∃ x, x = y24.drew := ⟨_, rfl⟩
  replace hz : Has v40 N 98 3 (iC ids) := by rw [ev]; exact hz
  replace k7 : Has v40 M3 76 273 (stC ((startS.setR 0 (mbA sl (ids 0))).setR 6 (mbA sl (ids 1)))) := by rw [ev]; exact k7
  replace k8 : Has v40 (M3 + 1) 76 273 (stC startS) := by rw [ev]; exact k8
  have hP40 : Sz v40 (P22) := by rw [ev]; exact hY24
  replace hb5 : Below N w v40 := by rw [ev]; exact hb5.drew
  rw [← ev]
  clear ev hY24
  refine anyI_part [3] _ _ _ _ (by kernel_rfl) ?_
  simp only [List.filterMap_cons, List.filterMap_nil, List.getElem?_toArray, List.getElem?_cons_succ, List.getElem?_cons_zero]
  change wpList _ _ _ [_] _ _
  go_wp2_with fail
  refine (Maybe_any sl (ids 1) _ P22 hP40).mono ?_
  rintro e v41 ⟨rfl, hv41⟩
  obtain ⟨P41, hP41⟩ := sz_some v41
  have lP41 := below_sz hv41 hP40 hP41
  replace hz := hz.below hv41 (by omega)
  replace k7 := k7.below hv41 (by omega)
  replace k8 := k8.below hv41 (by omega)
  replace hb5 := hb5.trans (hv41.mono (by omega))
  clear hP40 hv41
  dsimp only
  go_step
  refine ⟨hz, ?_⟩
  change anyI _ _ _ _ _ _ _ _ _
  try simp only [Act.put, List.setIfInBounds_toArray, List.set_cons_succ, List.set_cons_zero, List.getElem_toArray, List.getElem_cons_succ, List.getElem_cons_zero]
  refine anyI_reads [9] _ _ _ hz (by kernel_rfl) (fun _ _ _ d _ h => by cases d <;> exact h) ?_
  simp only [pickO, List.map_cons, List.map_nil, List.getElem?_toArray, List.getElem?_cons_succ, List.getElem?_cons_zero, Option.getD_some, Act.put, List.setIfInBounds_toArray, List.set_cons_succ, List.set_cons_zero]
  go_big_quiet_step (fail)
  refine wpQuiet_nil ?_
  clear hne
  refine anyI_part [7, 10, 12, 13] _ _ _ _ (by kernel_rfl) ?_
  simp only [List.filterMap_cons, List.filterMap_nil, List.getElem?_toArray, List.getElem?_cons_succ, List.getElem?_cons_zero]
  change wpList _ _ _ [_] _ _
  go_wp2_with fail
  refine (Maybe_any sl (ids 2) _ P41 hP41).mono ?_
  rintro e v42 ⟨rfl, hv42⟩
  obtain ⟨P42, hP42⟩ := sz_some v42
  have lP42 := below_sz hv42 hP41 hP42
  replace hz := hz.below hv42 (by omega)
  replace k7 := k7.below hv42 (by omega)
  replace k8 := k8.below hv42 (by omega)
  replace hb5 := hb5.trans (hv42.mono (by omega))
  clear hP41 hv42
  dsimp only
  go_step
  refine ⟨hz, ?_⟩
  change wpList _ _ _ [_] _ _
  refine wpl_store_part rfl 71 (.tmp 37) (.tmp 31) rfl (M3 + 1) (0) rfl 11 (arC (mbA sl (ids 1))) rfl 76 273 _ k8 (by omega) szAr (fun j _ => arC_one _ j) ?_
  intro y43 ty43 ky43
  replace hz := hz.touch ty43 (by omega)
  replace k7 := k7.touch ty43 (by omega)
  replace hb5 := ty43.below hb5 (by omega)
  have hY43 := ty43.sz hP42
  replace ky43 := ky43.congr (g := stC (startS.setR 0 (mbA sl (ids 1)))) (fun j _ => lay_R _ (i := 0) (by omega) _ j)
  clear k8
  have k8 := ky43
  clear ky43 ty43
  refine ⟨hz, ?_⟩
  change wpList _ _ _ [_] _ _
  refine wpl_run rfl (.pointer (some ⟨(M3 + 1), 0 + 6 * 11, none⟩)) _ (run_iaK (x := .tmp 38) (y := (.const (.int .i64 6))) rfl (b := (M3 + 1)) (off := 0) (k := 6) rfl rfl undR11 szAr (by omega)) ?_
  refine ⟨hz, ?_⟩
  change wpList _ _ _ [_] _ _
  refine wpl_store_part rfl 71 (.tmp 39) (.tmp 35) rfl (M3 + 1) (0 + 6 * 11) rfl 11 (arC (mbA sl (ids 2))) rfl 76 273 _ k8 (by omega) szAr (fun j _ => arC_one _ j) ?_
  intro y44 ty44 ky44
  replace hz := hz.touch ty44 (by omega)
  replace k7 := k7.touch ty44 (by omega)
  replace hb5 := ty44.below hb5 (by omega)
  have hY44 := ty44.sz hY43
  replace ky44 := ky44.congr (g := stC ((startS.setR 0 (mbA sl (ids 1))).setR 6 (mbA sl (ids 2)))) (fun j _ => lay_R _ (i := 6) (by omega) _ j)
  clear k8
  have k8 := ky44
  clear ky44 ty44
  refine ⟨hz, ?_⟩
  change anyI _ _ _ _ _ _ _ _ _
  try simp only [Act.put, List.setIfInBounds_toArray, List.set_cons_succ, List.set_cons_zero, List.getElem_toArray, List.getElem_cons_succ, List.getElem_cons_zero]
  refine anyI_done (by kernel_rfl) ?_
  try simp only [Act.put, List.setIfInBounds_toArray, List.set_cons_succ, List.set_cons_zero, List.getElem_toArray, List.getElem_cons_succ, List.getElem_cons_zero]
  clear hP42 hY43
  obtain ⟨b1, eb1⟩ : ∃ b, (ids 0 != ids 1) = b := ⟨_, rfl⟩
  obtain ⟨b2, eb2⟩ : ∃ b, (ids 1 == ids 2) = b := ⟨_, rfl⟩
  have hcov : covS (mS sl (ids 0) (ids 1)) (mS sl (ids 1) (ids 2)) = (b1 || b2) := by rw [maybe_cov, eb1, eb2]
  have HC := hid hcov
  have HB1 := hid eb1
  have HB2 := hid eb2
  clear hcov eb1 eb2
  replace k7 : Has y44 M3 76 273 (stC (mS sl (ids 0) (ids 1))) := k7
  replace k8 : Has y44 (M3 + 1) 76 273 (stC (mS sl (ids 1) (ids 2))) := k8
  go_upto_region 4 with fail
  go_cut [9] (fun v wx => v = (Value.bool (b1 || b2)) ∧ Has wx N 98 3 (iC ids) ∧ Has wx M3 76 273 (stC (mS sl (ids 0) (ids 1))) ∧ Has wx (M3 + 1) 76 273 (stC (mS sl (ids 1) (ids 2))) ∧ Sz wx P42 ∧ Below N w wx)
  case first =>
    go_wp2_with (first
      | (refine wpl_run rfl (.int .i64 (ids 0)) _ (run_c1 3 (.tmp 40) rfl ⟨N, 0, none⟩ rfl undInt rfl (hz.cell (j := 0) (by omega))) ?_)
      | (refine wpl_run rfl (.int .i64 (ids 1)) _ (run_c1 3 (.tmp 42) rfl ⟨N, 1, none⟩ rfl undInt rfl (hz.cell (j := 1) (by omega))) ?_)
      | (refine wpl_want (by rfl) ?_; refine wpl_run rfl (.int .i64 (ids 1)) _ (run_c1 3 (.tmp 46) rfl ⟨N, 1, none⟩ rfl undInt rfl (hz.cell (j := 1) (by omega))) ?_)
      | (refine wpl_want (by rfl) ?_; refine wpl_run rfl (.int .i64 (ids 2)) _ (run_c1 3 (.tmp 48) rfl ⟨N, 2, none⟩ rfl undInt rfl (hz.cell (j := 2) (by omega))) ?_)
      | (refine wpl_run rfl (.bool b1) _ (run_neqI (x := .tmp 41) (y := .tmp 43) rfl rfl rfl (p := ids 0) (q := ids 1) HB1.out _) ?_; cases b1)
      | (refine wpl_want (by rfl) ?_; refine wpl_run rfl (.bool b2) _ (run_eqlI (x := .tmp 47) (y := .tmp 49) rfl rfl rfl (p := ids 1) (q := ids 2) HB2.out _) ?_; cases b2)
      | fail)
    all_goals (go_meet; exact ⟨rfl, hz, k7, k8, hY44, hb5⟩)
  case rest =>
    clear hz k7 k8 hb5 hY44
    obtain ⟨rfl, hz, k7, k8, hW4, hb5⟩ := hcut
    go_upto_region 7 with (first
      | (go_at_call 43; refine (saves_any _ P42 hW4).mono ?_; rintro e w45 ⟨rfl, hv45⟩; obtain ⟨M45, hM45⟩ := sz_some w45; have l45 := below_sz hv45 hW4 hM45; replace hz := hz.below hv45 (by omega); replace k7 := k7.below hv45 (by omega); replace k8 := k8.below hv45 (by omega); replace hb5 := hb5.trans (hv45.mono (by omega)); clear hW4 hv45)
      | (refine wpl_want (by rfl) ?_; refine wpl_load rfl 76 (.tmp 7) rfl M3 rfl 76 273 _ k7 _ undSt.choose_spec.1 undSt.choose_spec.2 szSt ?_)
      | (refine wpl_want (by rfl) ?_; refine wpl_load rfl 76 (.tmp 8) rfl (M3 + 1) rfl 76 273 _ k8 _ undSt.choose_spec.1 undSt.choose_spec.2 szSt ?_)
      | (go_at_call 50; go_loud (refine (Covers_any (mS sl (ids 0) (ids 1)) (mS sl (ids 1) (ids 2)) _ M45 hM45).mono ?_; rintro e w46 ⟨rfl, hv46⟩; rw [HC.out]; obtain ⟨M46, hM46⟩ := sz_some w46; have l46 := below_sz hv46 hM45 hM46; replace hz := hz.below hv46 (by omega); replace k7 := k7.below hv46 (by omega); replace hb5 := hb5.trans (hv46.mono (by omega)); clear hM45 hv46 k8))
      | (refine wpl_want (by rfl) ?_; refine wpl_run rfl (.bool false) _ (run_neqSelf (T := 4) undBool (x := .tmp 57) (y := .tmp 58) rfl rfl rfl _) ?_)
      | fail)
    go_upto_region 8 with (first
      | (refine wpl_run rfl (.int .i64 (ids 0)) _ (run_c1 3 (.tmp 62) rfl ⟨N, 0, none⟩ rfl undInt rfl (hz.cell (j := 0) (by omega))) ?_)
      | (go_at_call 51; refine (Maybe_any sl (ids 0) _ M46 hM46).mono ?_; rintro e w47 ⟨rfl, hv47⟩; obtain ⟨M47, hM47⟩ := sz_some w47; have l47 := below_sz hv47 hM46 hM47; replace hz := hz.below hv47 (by omega); replace k7 := k7.below hv47 (by omega); replace hb5 := hb5.trans (hv47.mono (by omega)); clear hM46 hv47)
      | (refine wpl_store_part rfl 71 (.tmp 66) (.tmp 64) rfl M3 (185 + 11 * 2) rfl 11 (arC (mbA sl (ids 0))) rfl 76 273 _ k7 (by omega) szAr (fun j _ => arC_one _ j) ?_; intro y48 ty48 ky48; replace hz := hz.touch ty48 (by omega); replace hb5 := ty48.below hb5 (by omega); have hY48 := ty48.sz hM47; replace ky48 := ky48.congr (g := stC ((mS sl (ids 0) (ids 1)).setK 2 (mbA sl (ids 0)))) (fun j _ => lay_K _ (i := 2) (by omega) _ j); clear k7; have k7 := ky48; clear ky48 ty48 hM47)
      | fail)
    go_upto_region 10 with (first
      | (refine wpl_load rfl 76 (.tmp 7) rfl M3 rfl 76 273 _ k7 _ undSt.choose_spec.1 undSt.choose_spec.2 szSt ?_)
      | (refine wpl_run rfl (.int .i64 (ids 0)) _ (run_c1 3 (.tmp 68) rfl ⟨N, 0, none⟩ rfl undInt rfl (hz.cell (j := 0) (by omega))) ?_)
      | (go_at_call 52; refine (SettleS_any ((mS sl (ids 0) (ids 1)).setK 2 (mbA sl (ids 0))) (ids 0) c _ M47 hY48).mono ?_; rintro e w49 ⟨rfl, hv49⟩; obtain ⟨M49, hM49⟩ := sz_some w49; have l49 := below_sz hv49 hY48 hM49; replace hz := hz.below hv49 (by omega); replace hb5 := hb5.trans (hv49.mono (by omega)); clear k7 hY48 hv49)
      | (refine wpl_alloc rfl 76 rfl 273 (stC zeroS) zeSt M49 hM49 ?_; intro w50 hM50 hb50 h10; replace hz := hz.below hb50 (by omega); replace hb5 := hb5.trans (hb50.mono (by omega)); clear hM49 hb50)
      | (refine wpl_store rfl 76 (.tmp 10) (.tmp 71) rfl M49 273 (stC (uS sl (ids 0) (ids 1) c)) rfl rfl 76 _ h10 szSt (fun j _ => stC_one _ j) ?_; intro w51 t51 k10; have hM51 := t51.sz hM50; replace hz := hz.touch t51 (by omega); replace hb5 := t51.below hb5 (by omega); clear hM50 h10 t51)
      | (refine wpl_load rfl 76 (.tmp 10) rfl M49 rfl 76 273 _ k10 _ undSt.choose_spec.1 undSt.choose_spec.2 szSt ?_)
      | (go_at_call 47; refine (Load_any (uS sl (ids 0) (ids 1) c) (-48) 8 (by omega) _ (M49 + 1) hM51).mono ?_; rintro e w52 ⟨rfl, hv52⟩; rw [uS_load]; obtain ⟨M52, hM52⟩ := sz_some w52; have l52 := below_sz hv52 hM51 hM52; replace hz := hz.below hv52 (by omega); replace k10 := k10.below hv52 (by omega); replace hb5 := hb5.trans (hv52.mono (by omega)); clear hM51 hv52)
      | (refine wpl_alloc rfl 71 rfl 11 (arC zeroA) zeAr M52 hM52 ?_; intro w53 hM53 hb53 h11; replace k10 := k10.below hb53 (by omega); replace hz := hz.below hb53 (by omega); replace hb5 := hb5.trans (hb53.mono (by omega)); clear hM52 hb53)
      | (refine wpl_store rfl 71 (.tmp 11) (.tmp 75) rfl M52 11 (arC (settlA (mbA sl (ids 0)) c)) rfl rfl 71 _ h11 szAr (fun j _ => arC_one _ j) ?_; intro w54 t54 k11; replace hz := hz.touch t54 (by omega); replace k10 := k10.touch t54 (by omega); replace hb5 := t54.below hb5 (by omega); have hM54 := t54.sz hM53; clear h11 t54 hM53)
      | fail)
    cases c
    · cases b1
      · as_aux_lemma =>
          have hji : (ids 1 == ids 0) = true := (bne_sw HB1.out).1
          have HE := hid (p := (ids 0 == ids 1) = true) (bne_sw HB1.out).2
          have cA : w54.cell? ⟨M52, 0, none⟩ = some (.int .i64 1) := k11.cell (j := 0) (by omega)
          have cB : w54.cell? ⟨M49, 0, none⟩ = some (.int .i64 1) := (k10.cell (j := 11 * 0 + 0) (by omega)).trans (congrArg some (by rw [stC_R _ (by omega) (by omega), uS_R0]; rfl))
          have cC : w54.cell? ⟨M49, 66, none⟩ = some (.int .i64 1) := (k10.cell (j := 11 * 6 + 0) (by omega)).trans (congrArg some (by rw [stC_R _ (by omega) (by omega), uS_R6, if_pos (by rw [hji])]; rfl))
          have cD : w54.cell? ⟨M49, 11, none⟩ = some (.int .i64 2) := (k10.cell (j := 11 * 1 + 0) (by omega)).trans (congrArg some (by rw [stC_R _ (by omega) (by omega), uS_R1]; rfl))
          have z0 : w54.cell? ⟨N, 0, none⟩ = some (.int .i64 (ids 0)) := hz.cell (j := 0) (by omega)
          have z1 : w54.cell? ⟨N, 1, none⟩ = some (.int .i64 (ids 1)) := hz.cell (j := 1) (by omega)
          have hcR : ∀ j, j < 6 → stC (uS sl (ids 0) (ids 1) false) (1 + j) = rC (cR 0#64) j := fun j hj => by rw [show 1 + j = 11 * 0 + (1 + j) by omega, stC_R _ (by omega) (by omega), uS_R0, set_f]; exact arC_r _ j hj
          have HcR := hid hcR
          clear hcR
          clear hji hz
          go_upto_region 13 with fail
          refine wp_region_later1 (M52 + 1) ?_
          try simp only [pA]
          go_big_quiet_step (fail)
          go_big_quiet_step (fail)
          go_big_quiet_step (fail)
          go_big_quiet_step (fail)
          refine later_c1 hM54 3 (.tmp 81) rfl rfl undInt rfl cA (by rfl) ?_; simp only [pA]
          go_big_quiet_step (fail)
          go_big_quiet_step (fail)
          go_big_quiet_step (fail)
          go_big_quiet_step (fail)
          go_big_quiet_step (fail)
          refine later_val (fun q => run_iaK (x := .tmp 87) (y := (.const (.int .i64 0))) rfl (b := M49) (off := 0) (k := 0) rfl rfl undR11 szAr (by omega)) (by rfl) ?_; simp only [pA]
          go_big_quiet_step (fail)
          refine later_c1 hM54 3 (.tmp 89) rfl rfl undInt rfl cB (by rfl) ?_; simp only [pA]
          go_big_quiet_step (fail)
          go_big_quiet_step (fail)
          go_big_quiet_step (fail)
          go_big_quiet_step (fail)
          go_big_quiet_step (fail)
          refine later_val (fun q => run_iaK (x := .tmp 95) (y := (.const (.int .i64 6))) rfl (b := M49) (off := 0) (k := 6) rfl rfl undR11 szAr (by omega)) (by rfl) ?_; simp only [pA]
          go_big_quiet_step (fail)
          refine later_c1 hM54 3 (.tmp 97) rfl rfl undInt rfl cC (by rfl) ?_; simp only [pA]
          go_big_quiet_step (fail)
          go_big_quiet_step (fail)
          go_big_quiet_step (fail)
          refine later_c1 hM54 3 (.tmp 101) rfl rfl undInt rfl z0 (by rfl) ?_; simp only [pA]
          go_big_quiet_step (fail)
          refine later_c1 hM54 3 (.tmp 103) rfl rfl undInt rfl z1 (by rfl) ?_; simp only [pA]
          refine later_val (fun q => run_eqlI (x := .tmp 102) (y := .tmp 104) rfl rfl rfl (p := ids 0) (q := ids 1) HE.out _) (by rfl) ?_; simp only [pA]
          go_big_quiet_step (fail)
          go_big_quiet_step (fail)
          go_big_quiet_step (fail)
          go_big_quiet_step (fail)
          refine later_val (fun q => run_iaK (x := .tmp 109) (y := (.const (.int .i64 1))) rfl (b := M49) (off := 0) (k := 1) rfl rfl undR11 szAr (by omega)) (by rfl) ?_; simp only [pA]
          go_big_quiet_step (fail)
          refine later_c1 hM54 3 (.tmp 111) rfl rfl undInt rfl cD (by rfl) ?_; simp only [pA]
          go_big_quiet_step (fail)
          go_big_quiet_step (fail)
          refine wpQuiet_nil (laterE hM54 ?_)
          intro x57 M57 hb57 hM57 lM57
          clear cA cB cC cD z0 z1
          replace k10 := k10.below hb57 (by omega)
          replace k11 := k11.below hb57 (by omega)
          replace hb5 := hb5.trans (hb57.mono (by omega))
          clear hb57 hM54
          go_upto_region 15 with fail
          refine wp_region_later M57 (by kernel_rfl) (by kernel_rfl) ?_
          try simp only [pA]
          go_big_quiet_step (fail)
          go_big_quiet_step (fail)
          go_big_quiet_step (fail)
          go_big_quiet_step (fail)
          go_big_quiet_step (fail)
          go_big_quiet_step (fail)
          go_big_quiet_step (fail)
          go_big_quiet_step (fail)
          go_big_quiet_step (fail)
          go_big_quiet_step (fail)
          go_big_quiet_step (fail)
          go_big_quiet_step (fail)
          go_big_quiet_step (fail)
          go_big_quiet_step (fail)
          go_big_quiet_step (fail)
          go_big_quiet_step (fail)
          go_big_quiet_step (fail)
          refine later_val (fun q => run_iaK (x := .tmp 131) (y := (.const (.int .i64 0))) rfl (b := M49) (off := 0) (k := 0) rfl rfl undR11 szAr (by omega)) (by rfl) ?_; simp only [pA]
          go_big_quiet_step (fail)
          refine later_val (fun q => run_rwP 41 (.tmp 133) rfl M49 1 rfl 76 273 _ (Later.has hM57 k10 q) 6 (by omega) (rC (cR 0#64)) HcR.out undR szR) (by rfl) ?_; simp only [pA]
          go_big_quiet_step ((go_at_call 28; exact later_of hM57 _ (fun K hK hKN => SConst_any 0#64 _ K hK)))
          refine later_val (fun q => run_eql_op 41 41 (.tmp 134) (.tmp 135) rfl _ _ rfl rfl true (by kernel_rfl) (run_eqR_t rfl q.w')) (by rfl) ?_; simp only [pA]
          go_big_quiet_step (fail)
          go_big_quiet_step (fail)
          go_big_quiet_step (fail)
          refine wpQuiet_nil (laterE hM57 ?_)
          intro x60 M60 hb60 hM60 lM60
          go_wp2_with fail
          go_ret
          exact ⟨rfl, hb5.trans (hb60.mono (by omega))⟩
      · as_aux_lemma =>
          have hji : (ids 1 == ids 0) = false := (bne_sw HB1.out).1
          have HE := hid (p := (ids 0 == ids 1) = false) (bne_sw HB1.out).2
          have cA : w54.cell? ⟨M52, 0, none⟩ = some (.int .i64 1) := k11.cell (j := 0) (by omega)
          have cB : w54.cell? ⟨M49, 0, none⟩ = some (.int .i64 1) := (k10.cell (j := 11 * 0 + 0) (by omega)).trans (congrArg some (by rw [stC_R _ (by omega) (by omega), uS_R0]; rfl))
          have cC : w54.cell? ⟨M49, 66, none⟩ = some (.int .i64 6) := (k10.cell (j := 11 * 6 + 0) (by omega)).trans (congrArg some (by rw [stC_R _ (by omega) (by omega), uS_R6, if_neg (by rw [hji]; decide)]; rfl))
          have cD : w54.cell? ⟨M49, 11, none⟩ = some (.int .i64 2) := (k10.cell (j := 11 * 1 + 0) (by omega)).trans (congrArg some (by rw [stC_R _ (by omega) (by omega), uS_R1]; rfl))
          have z0 : w54.cell? ⟨N, 0, none⟩ = some (.int .i64 (ids 0)) := hz.cell (j := 0) (by omega)
          have z1 : w54.cell? ⟨N, 1, none⟩ = some (.int .i64 (ids 1)) := hz.cell (j := 1) (by omega)
          have hcR : ∀ j, j < 6 → stC (uS sl (ids 0) (ids 1) false) (1 + j) = rC (cR 0#64) j := fun j hj => by rw [show 1 + j = 11 * 0 + (1 + j) by omega, stC_R _ (by omega) (by omega), uS_R0, set_f]; exact arC_r _ j hj
          have HcR := hid hcR
          clear hcR
          clear hji hz
          go_upto_region 13 with fail
          refine wp_region_later1 (M52 + 1) ?_
          try simp only [pA]
          go_big_quiet_step (fail)
          go_big_quiet_step (fail)
          go_big_quiet_step (fail)
          go_big_quiet_step (fail)
          refine later_c1 hM54 3 (.tmp 81) rfl rfl undInt rfl cA (by rfl) ?_; simp only [pA]
          go_big_quiet_step (fail)
          go_big_quiet_step (fail)
          go_big_quiet_step (fail)
          go_big_quiet_step (fail)
          go_big_quiet_step (fail)
          refine later_val (fun q => run_iaK (x := .tmp 87) (y := (.const (.int .i64 0))) rfl (b := M49) (off := 0) (k := 0) rfl rfl undR11 szAr (by omega)) (by rfl) ?_; simp only [pA]
          go_big_quiet_step (fail)
          refine later_c1 hM54 3 (.tmp 89) rfl rfl undInt rfl cB (by rfl) ?_; simp only [pA]
          go_big_quiet_step (fail)
          go_big_quiet_step (fail)
          go_big_quiet_step (fail)
          go_big_quiet_step (fail)
          go_big_quiet_step (fail)
          refine later_val (fun q => run_iaK (x := .tmp 95) (y := (.const (.int .i64 6))) rfl (b := M49) (off := 0) (k := 6) rfl rfl undR11 szAr (by omega)) (by rfl) ?_; simp only [pA]
          go_big_quiet_step (fail)
          refine later_c1 hM54 3 (.tmp 97) rfl rfl undInt rfl cC (by rfl) ?_; simp only [pA]
          go_big_quiet_step (fail)
          go_big_quiet_step (fail)
          go_big_quiet_step (fail)
          refine later_c1 hM54 3 (.tmp 101) rfl rfl undInt rfl z0 (by rfl) ?_; simp only [pA]
          go_big_quiet_step (fail)
          refine later_c1 hM54 3 (.tmp 103) rfl rfl undInt rfl z1 (by rfl) ?_; simp only [pA]
          refine later_val (fun q => run_eqlI (x := .tmp 102) (y := .tmp 104) rfl rfl rfl (p := ids 0) (q := ids 1) HE.out _) (by rfl) ?_; simp only [pA]
          go_big_quiet_step (fail)
          go_big_quiet_step (fail)
          go_big_quiet_step (fail)
          go_big_quiet_step (fail)
          refine later_val (fun q => run_iaK (x := .tmp 109) (y := (.const (.int .i64 1))) rfl (b := M49) (off := 0) (k := 1) rfl rfl undR11 szAr (by omega)) (by rfl) ?_; simp only [pA]
          go_big_quiet_step (fail)
          refine later_c1 hM54 3 (.tmp 111) rfl rfl undInt rfl cD (by rfl) ?_; simp only [pA]
          go_big_quiet_step (fail)
          go_big_quiet_step (fail)
          refine wpQuiet_nil (laterE hM54 ?_)
          intro x57 M57 hb57 hM57 lM57
          clear cA cB cC cD z0 z1
          replace k10 := k10.below hb57 (by omega)
          replace k11 := k11.below hb57 (by omega)
          replace hb5 := hb5.trans (hb57.mono (by omega))
          clear hb57 hM54
          go_upto_region 15 with fail
          refine wp_region_later M57 (by kernel_rfl) (by kernel_rfl) ?_
          try simp only [pA]
          go_big_quiet_step (fail)
          go_big_quiet_step (fail)
          go_big_quiet_step (fail)
          go_big_quiet_step (fail)
          go_big_quiet_step (fail)
          go_big_quiet_step (fail)
          go_big_quiet_step (fail)
          go_big_quiet_step (fail)
          go_big_quiet_step (fail)
          go_big_quiet_step (fail)
          go_big_quiet_step (fail)
          go_big_quiet_step (fail)
          go_big_quiet_step (fail)
          go_big_quiet_step (fail)
          go_big_quiet_step (fail)
          go_big_quiet_step (fail)
          go_big_quiet_step (fail)
          refine later_val (fun q => run_iaK (x := .tmp 131) (y := (.const (.int .i64 0))) rfl (b := M49) (off := 0) (k := 0) rfl rfl undR11 szAr (by omega)) (by rfl) ?_; simp only [pA]
          go_big_quiet_step (fail)
          refine later_val (fun q => run_rwP 41 (.tmp 133) rfl M49 1 rfl 76 273 _ (Later.has hM57 k10 q) 6 (by omega) (rC (cR 0#64)) HcR.out undR szR) (by rfl) ?_; simp only [pA]
          go_big_quiet_step ((go_at_call 28; exact later_of hM57 _ (fun K hK hKN => SConst_any 0#64 _ K hK)))
          refine later_val (fun q => run_eql_op 41 41 (.tmp 134) (.tmp 135) rfl _ _ rfl rfl true (by kernel_rfl) (run_eqR_t rfl q.w')) (by rfl) ?_; simp only [pA]
          go_big_quiet_step (fail)
          go_big_quiet_step (fail)
          go_big_quiet_step (fail)
          refine wpQuiet_nil (laterE hM57 ?_)
          intro x60 M60 hb60 hM60 lM60
          go_wp2_with fail
          go_ret
          exact ⟨rfl, hb5.trans (hb60.mono (by omega))⟩
    · cases b1
      · as_aux_lemma =>
          have hji : (ids 1 == ids 0) = true := (bne_sw HB1.out).1
          have HE := hid (p := (ids 0 == ids 1) = true) (bne_sw HB1.out).2
          have cA : w54.cell? ⟨M52, 0, none⟩ = some (.int .i64 5) := k11.cell (j := 0) (by omega)
          have cB : w54.cell? ⟨M49, 0, none⟩ = some (.int .i64 5) := (k10.cell (j := 11 * 0 + 0) (by omega)).trans (congrArg some (by rw [stC_R _ (by omega) (by omega), uS_R0]; rfl))
          have cC : w54.cell? ⟨M49, 66, none⟩ = some (.int .i64 5) := (k10.cell (j := 11 * 6 + 0) (by omega)).trans (congrArg some (by rw [stC_R _ (by omega) (by omega), uS_R6, if_pos (by rw [hji])]; rfl))
          have cD : w54.cell? ⟨M49, 11, none⟩ = some (.int .i64 2) := (k10.cell (j := 11 * 1 + 0) (by omega)).trans (congrArg some (by rw [stC_R _ (by omega) (by omega), uS_R1]; rfl))
          have z0 : w54.cell? ⟨N, 0, none⟩ = some (.int .i64 (ids 0)) := hz.cell (j := 0) (by omega)
          have z1 : w54.cell? ⟨N, 1, none⟩ = some (.int .i64 (ids 1)) := hz.cell (j := 1) (by omega)
          clear hji hz
          go_upto_region 13 with fail
          refine wp_region_later1 (M52 + 1) ?_
          try simp only [pA]
          go_big_quiet_step (fail)
          go_big_quiet_step (fail)
          go_big_quiet_step (fail)
          go_big_quiet_step (fail)
          refine later_c1 hM54 3 (.tmp 81) rfl rfl undInt rfl cA (by rfl) ?_; simp only [pA]
          go_big_quiet_step (fail)
          go_big_quiet_step (fail)
          go_big_quiet_step (fail)
          go_big_quiet_step (fail)
          go_big_quiet_step (fail)
          refine later_val (fun q => run_iaK (x := .tmp 87) (y := (.const (.int .i64 0))) rfl (b := M49) (off := 0) (k := 0) rfl rfl undR11 szAr (by omega)) (by rfl) ?_; simp only [pA]
          go_big_quiet_step (fail)
          refine later_c1 hM54 3 (.tmp 89) rfl rfl undInt rfl cB (by rfl) ?_; simp only [pA]
          go_big_quiet_step (fail)
          go_big_quiet_step (fail)
          go_big_quiet_step (fail)
          go_big_quiet_step (fail)
          go_big_quiet_step (fail)
          refine later_val (fun q => run_iaK (x := .tmp 95) (y := (.const (.int .i64 6))) rfl (b := M49) (off := 0) (k := 6) rfl rfl undR11 szAr (by omega)) (by rfl) ?_; simp only [pA]
          go_big_quiet_step (fail)
          refine later_c1 hM54 3 (.tmp 97) rfl rfl undInt rfl cC (by rfl) ?_; simp only [pA]
          go_big_quiet_step (fail)
          go_big_quiet_step (fail)
          go_big_quiet_step (fail)
          refine later_c1 hM54 3 (.tmp 101) rfl rfl undInt rfl z0 (by rfl) ?_; simp only [pA]
          go_big_quiet_step (fail)
          refine later_c1 hM54 3 (.tmp 103) rfl rfl undInt rfl z1 (by rfl) ?_; simp only [pA]
          refine later_val (fun q => run_eqlI (x := .tmp 102) (y := .tmp 104) rfl rfl rfl (p := ids 0) (q := ids 1) HE.out _) (by rfl) ?_; simp only [pA]
          go_big_quiet_step (fail)
          go_big_quiet_step (fail)
          go_big_quiet_step (fail)
          go_big_quiet_step (fail)
          refine later_val (fun q => run_iaK (x := .tmp 109) (y := (.const (.int .i64 1))) rfl (b := M49) (off := 0) (k := 1) rfl rfl undR11 szAr (by omega)) (by rfl) ?_; simp only [pA]
          go_big_quiet_step (fail)
          refine later_c1 hM54 3 (.tmp 111) rfl rfl undInt rfl cD (by rfl) ?_; simp only [pA]
          go_big_quiet_step (fail)
          go_big_quiet_step (fail)
          refine wpQuiet_nil (laterE hM54 ?_)
          intro x57 M57 hb57 hM57 lM57
          clear cA cB cC cD z0 z1
          replace k10 := k10.below hb57 (by omega)
          replace k11 := k11.below hb57 (by omega)
          replace hb5 := hb5.trans (hb57.mono (by omega))
          clear hb57 hM54
          have c7 : x57.cell? ⟨M52, 7, none⟩ = some (.int .i64 sl) := k11.cell (j := 7) (by omega)
          have c9 : x57.cell? ⟨M52, 9, none⟩ = some (.int .i64 0) := k11.cell (j := 9) (by omega)
          go_upto_region 15 with fail
          refine wp_region_later M57 (by kernel_rfl) (by kernel_rfl) ?_
          try simp only [pA]
          go_big_quiet_step (fail)
          go_big_quiet_step (fail)
          go_big_quiet_step (fail)
          refine later_c1 hM57 3 (.tmp 117) rfl rfl undInt rfl c7 (by rfl) ?_; simp only [pA]
          go_big_quiet_step (fail)
          refine later_val (fun q => run_eqlI (x := .tmp 118) (y := .tmp 119) rfl rfl rfl (p := sl) (q := sl) (beq_self_eq_true sl) _) (by rfl) ?_; simp only [pA]
          go_big_quiet_step (fail)
          go_big_quiet_step (fail)
          go_big_quiet_step (fail)
          refine later_c1 hM57 2 (.tmp 123) rfl rfl (show Try.prog.underlying 2 = some (.int .i64) by kernel_rfl) rfl c9 (by rfl) ?_; simp only [pA]
          go_big_quiet_step (fail)
          go_big_quiet_step (fail)
          go_big_quiet_step (fail)
          go_big_quiet_step (fail)
          go_big_quiet_step (fail)
          go_big_quiet_step (fail)
          go_big_quiet_step (fail)
          go_big_quiet_step (fail)
          go_big_quiet_step (fail)
          go_big_quiet_step (fail)
          go_big_quiet_step (fail)
          go_big_quiet_step (fail)
          go_big_quiet_step (fail)
          go_big_quiet_step (fail)
          go_big_quiet_step (fail)
          refine wpQuiet_nil (laterE hM57 ?_)
          intro x60 M60 hb60 hM60 lM60
          go_wp2_with fail
          go_ret
          exact ⟨rfl, hb5.trans (hb60.mono (by omega))⟩
      · as_aux_lemma =>
          have hji : (ids 1 == ids 0) = false := (bne_sw HB1.out).1
          have HE := hid (p := (ids 0 == ids 1) = false) (bne_sw HB1.out).2
          have cA : w54.cell? ⟨M52, 0, none⟩ = some (.int .i64 5) := k11.cell (j := 0) (by omega)
          have cB : w54.cell? ⟨M49, 0, none⟩ = some (.int .i64 5) := (k10.cell (j := 11 * 0 + 0) (by omega)).trans (congrArg some (by rw [stC_R _ (by omega) (by omega), uS_R0]; rfl))
          have cC : w54.cell? ⟨M49, 66, none⟩ = some (.int .i64 6) := (k10.cell (j := 11 * 6 + 0) (by omega)).trans (congrArg some (by rw [stC_R _ (by omega) (by omega), uS_R6, if_neg (by rw [hji]; decide)]; rfl))
          have cD : w54.cell? ⟨M49, 11, none⟩ = some (.int .i64 2) := (k10.cell (j := 11 * 1 + 0) (by omega)).trans (congrArg some (by rw [stC_R _ (by omega) (by omega), uS_R1]; rfl))
          have z0 : w54.cell? ⟨N, 0, none⟩ = some (.int .i64 (ids 0)) := hz.cell (j := 0) (by omega)
          have z1 : w54.cell? ⟨N, 1, none⟩ = some (.int .i64 (ids 1)) := hz.cell (j := 1) (by omega)
          clear hji hz
          go_upto_region 13 with fail
          refine wp_region_later1 (M52 + 1) ?_
          try simp only [pA]
          go_big_quiet_step (fail)
          go_big_quiet_step (fail)
          go_big_quiet_step (fail)
          go_big_quiet_step (fail)
          refine later_c1 hM54 3 (.tmp 81) rfl rfl undInt rfl cA (by rfl) ?_; simp only [pA]
          go_big_quiet_step (fail)
          go_big_quiet_step (fail)
          go_big_quiet_step (fail)
          go_big_quiet_step (fail)
          go_big_quiet_step (fail)
          refine later_val (fun q => run_iaK (x := .tmp 87) (y := (.const (.int .i64 0))) rfl (b := M49) (off := 0) (k := 0) rfl rfl undR11 szAr (by omega)) (by rfl) ?_; simp only [pA]
          go_big_quiet_step (fail)
          refine later_c1 hM54 3 (.tmp 89) rfl rfl undInt rfl cB (by rfl) ?_; simp only [pA]
          go_big_quiet_step (fail)
          go_big_quiet_step (fail)
          go_big_quiet_step (fail)
          go_big_quiet_step (fail)
          go_big_quiet_step (fail)
          refine later_val (fun q => run_iaK (x := .tmp 95) (y := (.const (.int .i64 6))) rfl (b := M49) (off := 0) (k := 6) rfl rfl undR11 szAr (by omega)) (by rfl) ?_; simp only [pA]
          go_big_quiet_step (fail)
          refine later_c1 hM54 3 (.tmp 97) rfl rfl undInt rfl cC (by rfl) ?_; simp only [pA]
          go_big_quiet_step (fail)
          go_big_quiet_step (fail)
          go_big_quiet_step (fail)
          refine later_c1 hM54 3 (.tmp 101) rfl rfl undInt rfl z0 (by rfl) ?_; simp only [pA]
          go_big_quiet_step (fail)
          refine later_c1 hM54 3 (.tmp 103) rfl rfl undInt rfl z1 (by rfl) ?_; simp only [pA]
          refine later_val (fun q => run_eqlI (x := .tmp 102) (y := .tmp 104) rfl rfl rfl (p := ids 0) (q := ids 1) HE.out _) (by rfl) ?_; simp only [pA]
          go_big_quiet_step (fail)
          go_big_quiet_step (fail)
          go_big_quiet_step (fail)
          go_big_quiet_step (fail)
          refine later_val (fun q => run_iaK (x := .tmp 109) (y := (.const (.int .i64 1))) rfl (b := M49) (off := 0) (k := 1) rfl rfl undR11 szAr (by omega)) (by rfl) ?_; simp only [pA]
          go_big_quiet_step (fail)
          refine later_c1 hM54 3 (.tmp 111) rfl rfl undInt rfl cD (by rfl) ?_; simp only [pA]
          go_big_quiet_step (fail)
          go_big_quiet_step (fail)
          refine wpQuiet_nil (laterE hM54 ?_)
          intro x57 M57 hb57 hM57 lM57
          clear cA cB cC cD z0 z1
          replace k10 := k10.below hb57 (by omega)
          replace k11 := k11.below hb57 (by omega)
          replace hb5 := hb5.trans (hb57.mono (by omega))
          clear hb57 hM54
          have c7 : x57.cell? ⟨M52, 7, none⟩ = some (.int .i64 sl) := k11.cell (j := 7) (by omega)
          have c9 : x57.cell? ⟨M52, 9, none⟩ = some (.int .i64 0) := k11.cell (j := 9) (by omega)
          go_upto_region 15 with fail
          refine wp_region_later M57 (by kernel_rfl) (by kernel_rfl) ?_
          try simp only [pA]
          go_big_quiet_step (fail)
          go_big_quiet_step (fail)
          go_big_quiet_step (fail)
          refine later_c1 hM57 3 (.tmp 117) rfl rfl undInt rfl c7 (by rfl) ?_; simp only [pA]
          go_big_quiet_step (fail)
          refine later_val (fun q => run_eqlI (x := .tmp 118) (y := .tmp 119) rfl rfl rfl (p := sl) (q := sl) (beq_self_eq_true sl) _) (by rfl) ?_; simp only [pA]
          go_big_quiet_step (fail)
          go_big_quiet_step (fail)
          go_big_quiet_step (fail)
          refine later_c1 hM57 2 (.tmp 123) rfl rfl (show Try.prog.underlying 2 = some (.int .i64) by kernel_rfl) rfl c9 (by rfl) ?_; simp only [pA]
          go_big_quiet_step (fail)
          go_big_quiet_step (fail)
          go_big_quiet_step (fail)
          go_big_quiet_step (fail)
          go_big_quiet_step (fail)
          go_big_quiet_step (fail)
          go_big_quiet_step (fail)
          go_big_quiet_step (fail)
          go_big_quiet_step (fail)
          go_big_quiet_step (fail)
          go_big_quiet_step (fail)
          go_big_quiet_step (fail)
          go_big_quiet_step (fail)
          go_big_quiet_step (fail)
          go_big_quiet_step (fail)
          refine wpQuiet_nil (laterE hM57 ?_)
          intro x60 M60 hb60 hM60 lM60
          go_wp2_with fail
          go_ret
          exact ⟨rfl, hb5.trans (hb60.mono (by omega))⟩
end Go.Proofs.Ytaeggclcjpcnoaa
