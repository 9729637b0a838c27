/- AbsregChains: of three states, if one covers another one, and that a third one, the first one covers the third one. -/
import Derived.Test.YtaeggclcjpcnoaaApr
import Derived.Test.YtaeggclcjpcnoaaAct
import Derived.Test.YtaeggclcjpcnoaaAcm
import Derived.Test.YtaeggclcjpcnoaaAb6
namespace Go.Proofs.Ytaeggclcjpcnoaa
open Go Go.RowKit
/-- A state with two registers. -/
def cS (x y : Ar) : St := (startS.setR 0 x).setR 6 y
theorem rgP_ok (a : Ar) (n : Nat → W) : okN (rgP a n) := by
  show Rgt (joinR (cR (n 0)) (cR (n 1))).b
  exact known_rgt _ _
theorem zeroA_ok : okN zeroA := by unfold okN zeroA zeroR zeroN Rgt; simp
theorem start_ok (i : Nat) : okN (prt startS i) := by
  unfold prt
  by_cases h : i < 11
  · rw [if_pos h]
    show okN (if i = 10 then (⟨3, zeroR, 0, 0, 0, 0⟩ : Ar) else if i = 1 then ⟨2, zeroR, 0, 0, 0, 0⟩ else zeroA)
    by_cases h1 : i = 10
    · rw [if_pos h1]; exact zeroA_ok
    · rw [if_neg h1]
      by_cases h2 : i = 1
      · rw [if_pos h2]; exact zeroA_ok
      · rw [if_neg h2]; exact zeroA_ok
  · rw [if_neg h]; exact zeroA_ok
theorem cS_ok {x y : Ar} (hx : okN x) (hy : okN y) : okSt (cS x y) := by
  intro i
  by_cases h0 : i = 0
  · subst h0; exact hx
  by_cases h6 : i = 6
  · subst h6; exact hy
  have e : prt (cS x y) i = prt startS i := by
    unfold prt
    by_cases h : i < 11
    · rw [if_pos h, if_pos h]
      show (if i = 6 then y else if i = 0 then x else startS.R i) = _
      rw [if_neg h6, if_neg h0]
    · rw [if_neg h, if_neg h]; rfl
  rw [e]; exact start_ok i
theorem cS_trans (p q : Pr) (x y z : Bool) (hx : covS (cS (rgP p.A p.N) (rgP q.B q.M)) (cS (rgP p.B p.M) (rgP p.B p.M)) = x) (hy : covS (cS (rgP p.B p.M) (rgP p.B p.M)) (cS (rgP q.A q.N) (rgP p.B p.M)) = y)
    (hz : covS (cS (rgP p.A p.N) (rgP q.B q.M)) (cS (rgP q.A q.N) (rgP p.B p.M)) = z) : x = true → y = true → z = true := fun h1 h2 =>
  hz.symm.trans (covS_trans (cS_ok (rgP_ok _ _) (rgP_ok _ _)) (cS_ok (rgP_ok _ _) (rgP_ok _ _)) (hx.trans h1) (hy.trans h2))
set_option maxRecDepth 100000 in
set_option maxHeartbeats 16000000 in
theorem law_achains (p q : Pr) (w : World) (N : Nat) (hN : Sz w N) : Calls Try.prog 17 #[.agg (cellsOf (prC p) 26), .agg (cellsOf (prC q) 26)] w fun e w' => e = .returned (.bool true) ∧ Below N w w' := by
  obtain ⟨bx, ex⟩ : ∃ x, covS (cS (rgP p.A p.N) (rgP q.B q.M)) (cS (rgP p.B p.M) (rgP p.B p.M)) = x := ⟨_, rfl⟩
  obtain ⟨bY, ey⟩ : ∃ x, covS (cS (rgP p.B p.M) (rgP p.B p.M)) (cS (rgP q.A q.N) (rgP p.B p.M)) = x := ⟨_, rfl⟩
  obtain ⟨bz, ez⟩ : ∃ x, covS (cS (rgP p.A p.N) (rgP q.B q.M)) (cS (rgP q.A q.N) (rgP p.B p.M)) = x := ⟨_, rfl⟩
  have HT := hid (cS_trans p q bx bY bz ex ey ez)
  have EX := hid ex
  have EY := hid ey
  have EZ := hid ez
  clear ex ey ez
  go_enter Try.func17, Try.ntmps17
  go_upto_region 2 with (first
    | (refine wpl_box rfl 93 (.tmp 0) rfl 26 (prC p) rfl (N) hN ?_; intro w1 hM1 hb1 h2; have lo := hb1; clear hb1)
    | (refine wpl_box rfl 93 (.tmp 1) rfl 26 (prC q) rfl (N + 1) hM1 ?_; intro w2 hM2 hb2 h3; replace h2 := h2.below hb2 (by omega); replace lo := lo.trans (hb2.mono (by omega)); clear hb2 hM1)
    | (refine wpl_load rfl 93 (.tmp 2) rfl N rfl 93 26 _ h2 _ undPr.choose_spec.1 undPr.choose_spec.2 szPr ?_)
    | (go_at_call 49; refine (Regs_any p _ (N + 1 + 1) hM2).mono ?_; rintro e w3 ⟨rfl, hb3⟩; obtain ⟨M3, hM3⟩ := sz_some w3; have l3 := below_sz hb3 hM2 hM3; replace h2 := h2.below hb3 (by omega); replace h3 := h3.below hb3 (by omega); replace lo := lo.trans (hb3.mono (by omega)); clear hb3 hM2)
    | (refine wpl_alloc rfl 71 rfl 11 (arC zeroA) zeAr (M3) hM3 ?_; intro w4 hM4 hb4 h5; replace h2 := h2.below hb4 (by omega); replace h3 := h3.below hb4 (by omega); replace lo := lo.trans (hb4.mono (by omega)); clear hb4 hM3)
    | (refine wpl_alloc rfl 71 rfl 11 (arC zeroA) zeAr (M3 + 1) hM4 ?_; intro w5 hM5 hb5 h6; replace h2 := h2.below hb5 (by omega); replace h3 := h3.below hb5 (by omega); replace h5 := h5.below hb5 (by omega); replace lo := lo.trans (hb5.mono (by omega)); clear hb5 hM4)
    | (refine wpl_store rfl 71 (.tmp 5) (.tmp 15) rfl (M3) 11 (arC (rgP p.A p.N)) rfl rfl 71 _ h5 szAr (fun j _ => arC_one _ j) ?_; intro w6 t6 k6; replace h2 := h2.touch t6 (by omega); replace h3 := h3.touch t6 (by omega); replace h6 := h6.touch t6 (by omega); replace lo := t6.below lo (by omega); have hM6 := t6.sz hM5; clear h5 t6 hM5; have h5 := k6; clear k6)
    | (refine wpl_store rfl 71 (.tmp 6) (.tmp 16) rfl (M3 + 1) 11 (arC (rgP p.B p.M)) rfl rfl 71 _ h6 szAr (fun j _ => arC_one _ j) ?_; intro w7 t7 k7; replace h2 := h2.touch t7 (by omega); replace h3 := h3.touch t7 (by omega); replace h5 := h5.touch t7 (by omega); replace lo := t7.below lo (by omega); have hM7 := t7.sz hM6; clear h6 t7 hM6; have h6 := k7; clear k7)
    | fail)
  go_upto_region 3 with (first
    | (refine wpl_load rfl 93 (.tmp 3) rfl (N + 1) rfl 93 26 _ h3 _ undPr.choose_spec.1 undPr.choose_spec.2 szPr ?_)
    | (go_at_call 49; refine (Regs_any q _ (M3 + 1 + 1) hM7).mono ?_; rintro e w8 ⟨rfl, hb8⟩; obtain ⟨M8, hM8⟩ := sz_some w8; have l8 := below_sz hb8 hM7 hM8; replace h2 := h2.below hb8 (by omega); replace h3 := h3.below hb8 (by omega); replace h5 := h5.below hb8 (by omega); replace h6 := h6.below hb8 (by omega); replace lo := lo.trans (hb8.mono (by omega)); clear hb8 hM7)
    | (refine wpl_alloc rfl 71 rfl 11 (arC zeroA) zeAr (M8) hM8 ?_; intro w9 hM9 hb9 h7; replace h2 := h2.below hb9 (by omega); replace h3 := h3.below hb9 (by omega); replace h5 := h5.below hb9 (by omega); replace h6 := h6.below hb9 (by omega); replace lo := lo.trans (hb9.mono (by omega)); clear hb9 hM8)
    | (refine wpl_alloc rfl 71 rfl 11 (arC zeroA) zeAr (M8 + 1) hM9 ?_; intro w10 hM10 hb10 h8; replace h2 := h2.below hb10 (by omega); replace h3 := h3.below hb10 (by omega); replace h5 := h5.below hb10 (by omega); replace h6 := h6.below hb10 (by omega); replace h7 := h7.below hb10 (by omega); replace lo := lo.trans (hb10.mono (by omega)); clear hb10 hM9)
    | (refine wpl_store rfl 71 (.tmp 7) (.tmp 20) rfl (M8) 11 (arC (rgP q.A q.N)) rfl rfl 71 _ h7 szAr (fun j _ => arC_one _ j) ?_; intro w11 t11 k11; replace h2 := h2.touch t11 (by omega); replace h3 := h3.touch t11 (by omega); replace h5 := h5.touch t11 (by omega); replace h6 := h6.touch t11 (by omega); replace h8 := h8.touch t11 (by omega); replace lo := t11.below lo (by omega); have hM11 := t11.sz hM10; clear h7 t11 hM10; have h7 := k11; clear k11)
    | (refine wpl_store rfl 71 (.tmp 8) (.tmp 21) rfl (M8 + 1) 11 (arC (rgP q.B q.M)) rfl rfl 71 _ h8 szAr (fun j _ => arC_one _ j) ?_; intro w12 t12 k12; replace h2 := h2.touch t12 (by omega); replace h3 := h3.touch t12 (by omega); replace h5 := h5.touch t12 (by omega); replace h6 := h6.touch t12 (by omega); replace h7 := h7.touch t12 (by omega); replace lo := t12.below lo (by omega); have hM12 := t12.sz hM11; clear h8 t12 hM11; have h8 := k12; clear k12)
    | fail)
  clear h2 h3
  go_upto_region 4 with (first
    | (go_at_call 42; refine (Start_any _ (M8 + 1 + 1) hM12).mono ?_; rintro e w13 ⟨rfl, hb13⟩; obtain ⟨M13, hM13⟩ := sz_some w13; have l13 := below_sz hb13 hM12 hM13; replace h5 := h5.below hb13 (by omega); replace h6 := h6.below hb13 (by omega); replace h7 := h7.below hb13 (by omega); replace h8 := h8.below hb13 (by omega); replace lo := lo.trans (hb13.mono (by omega)); clear hb13 hM12)
    | (go_at_call 42; refine (Start_any _ (M13) hM13).mono ?_; rintro e w14 ⟨rfl, hb14⟩; obtain ⟨M14, hM14⟩ := sz_some w14; have l14 := below_sz hb14 hM13 hM14; replace h5 := h5.below hb14 (by omega); replace h6 := h6.below hb14 (by omega); replace h7 := h7.below hb14 (by omega); replace h8 := h8.below hb14 (by omega); replace lo := lo.trans (hb14.mono (by omega)); clear hb14 hM13)
    | (go_at_call 42; refine (Start_any _ (M14) hM14).mono ?_; rintro e w15 ⟨rfl, hb15⟩; obtain ⟨M15, hM15⟩ := sz_some w15; have l15 := below_sz hb15 hM14 hM15; replace h5 := h5.below hb15 (by omega); replace h6 := h6.below hb15 (by omega); replace h7 := h7.below hb15 (by omega); replace h8 := h8.below hb15 (by omega); replace lo := lo.trans (hb15.mono (by omega)); clear hb15 hM14)
    | (refine wpl_alloc rfl 76 rfl 273 (stC zeroS) zeSt (M15) hM15 ?_; intro w16 hM16 hb16 h9; replace h5 := h5.below hb16 (by omega); replace h6 := h6.below hb16 (by omega); replace h7 := h7.below hb16 (by omega); replace h8 := h8.below hb16 (by omega); replace lo := lo.trans (hb16.mono (by omega)); clear hb16 hM15)
    | (refine wpl_alloc rfl 76 rfl 273 (stC zeroS) zeSt (M15 + 1) hM16 ?_; intro w17 hM17 hb17 h10; replace h5 := h5.below hb17 (by omega); replace h6 := h6.below hb17 (by omega); replace h7 := h7.below hb17 (by omega); replace h8 := h8.below hb17 (by omega); replace h9 := h9.below hb17 (by omega); replace lo := lo.trans (hb17.mono (by omega)); clear hb17 hM16)
    | (refine wpl_alloc rfl 76 rfl 273 (stC zeroS) zeSt (M15 + 1 + 1) hM17 ?_; intro w18 hM18 hb18 h11; replace h5 := h5.below hb18 (by omega); replace h6 := h6.below hb18 (by omega); replace h7 := h7.below hb18 (by omega); replace h8 := h8.below hb18 (by omega); replace h9 := h9.below hb18 (by omega); replace h10 := h10.below hb18 (by omega); replace lo := lo.trans (hb18.mono (by omega)); clear hb18 hM17)
    | (refine wpl_store rfl 76 (.tmp 9) (.tmp 22) rfl (M15) 273 (stC startS) rfl rfl 76 _ h9 szSt (fun j _ => stC_one _ j) ?_; intro w19 t19 k19; replace h5 := h5.touch t19 (by omega); replace h6 := h6.touch t19 (by omega); replace h7 := h7.touch t19 (by omega); replace h8 := h8.touch t19 (by omega); replace h10 := h10.touch t19 (by omega); replace h11 := h11.touch t19 (by omega); replace lo := t19.below lo (by omega); have hM19 := t19.sz hM18; clear h9 t19 hM18; have h9 := k19; clear k19)
    | (refine wpl_store rfl 76 (.tmp 10) (.tmp 23) rfl (M15 + 1) 273 (stC startS) rfl rfl 76 _ h10 szSt (fun j _ => stC_one _ j) ?_; intro w20 t20 k20; replace h5 := h5.touch t20 (by omega); replace h6 := h6.touch t20 (by omega); replace h7 := h7.touch t20 (by omega); replace h8 := h8.touch t20 (by omega); replace h11 := h11.touch t20 (by omega); replace h9 := h9.touch t20 (by omega); replace lo := t20.below lo (by omega); have hM20 := t20.sz hM19; clear h10 t20 hM19; have h10 := k20; clear k20)
    | (refine wpl_store rfl 76 (.tmp 11) (.tmp 24) rfl (M15 + 1 + 1) 273 (stC startS) rfl rfl 76 _ h11 szSt (fun j _ => stC_one _ j) ?_; intro w21 t21 k21; replace h5 := h5.touch t21 (by omega); replace h6 := h6.touch t21 (by omega); replace h7 := h7.touch t21 (by omega); replace h8 := h8.touch t21 (by omega); replace h9 := h9.touch t21 (by omega); replace h10 := h10.touch t21 (by omega); replace lo := t21.below lo (by omega); have hM21 := t21.sz hM20; clear h11 t21 hM20; have h11 := k21; clear k21)
    | fail)
  refine wp_region_inn (fun w' => Has w' (M3) 71 11 (arC (rgP p.A p.N)) ∧ Has w' (M3 + 1) 71 11 (arC (rgP p.B p.M)) ∧ Has w' (M8) 71 11 (arC (rgP q.A q.N)) ∧ Has w' (M8 + 1) 71 11 (arC (rgP q.B q.M))) ⟨h5.drew, h6.drew, h7.drew, h8.drew⟩ (by kernel_rfl) ?_
  have hne := inn_ne (I := (fun w' => Has w' (M3) 71 11 (arC (rgP p.A p.N)) ∧ Has w' (M3 + 1) 71 11 (arC (rgP p.B p.M)) ∧ Has w' (M8) 71 11 (arC (rgP q.A q.N)) ∧ Has w' (M8 + 1) 71 11 (arC (rgP q.B q.M)))) ⟨h5, h6, h7, h8⟩
  refine anyI_reads [0, 1, 2, 3, 6, 9] _ _ _ ⟨h5.drew, h6.drew, h7.drew, h8.drew⟩ (by kernel_rfl) (fun _ _ _ d _ h => by cases d <;> exact h) ?_
  simp only [pickO, List.map_cons, List.map_nil, List.getElem?_toArray, List.getElem?_cons_succ, List.getElem?_cons_zero, Option.getD_some, Act.put, List.setIfInBounds_toArray, List.set_cons_succ, List.set_cons_zero]
  refine inn_val (fun x => run_ld 71 (.tmp 5) rfl (M3) rfl 71 11 _ x.h.1 _ undAr.choose_spec.1 undAr.choose_spec.2 szAr) (by rfl) ?_; simp only [Act.put, List.setIfInBounds_toArray, List.set_cons_succ, List.set_cons_zero]
  refine inn_val (fun x => run_ld 71 (.tmp 6) rfl (M3 + 1) rfl 71 11 _ x.h.2.1 _ undAr.choose_spec.1 undAr.choose_spec.2 szAr) (by rfl) ?_; simp only [Act.put, List.setIfInBounds_toArray, List.set_cons_succ, List.set_cons_zero]
  refine inn_val (fun x => run_ld 71 (.tmp 7) rfl (M8) rfl 71 11 _ x.h.2.2.1 _ undAr.choose_spec.1 undAr.choose_spec.2 szAr) (by rfl) ?_; simp only [Act.put, List.setIfInBounds_toArray, List.set_cons_succ, List.set_cons_zero]
  go_big_quiet_step (fail)
  go_big_quiet_step (fail)
  go_big_quiet_step (fail)
  refine wpQuiet_nil ?_
  clear hne
  obtain ⟨v4_, ev⟩ : ∃ x, x = w21.drew := ⟨_, rfl⟩
  replace h5 : Has v4_ (M3) 71 11 (arC (rgP p.A p.N)) := by rw [ev]; exact h5
  replace h6 : Has v4_ (M3 + 1) 71 11 (arC (rgP p.B p.M)) := by rw [ev]; exact h6
  replace h7 : Has v4_ (M8) 71 11 (arC (rgP q.A q.N)) := by rw [ev]; exact h7
  replace h8 : Has v4_ (M8 + 1) 71 11 (arC (rgP q.B q.M)) := by rw [ev]; exact h8
  replace h9 : Has v4_ (M15) 76 273 (stC startS) := by rw [ev]; exact h9
  replace h10 : Has v4_ (M15 + 1) 76 273 (stC startS) := by rw [ev]; exact h10
  replace h11 : Has v4_ (M15 + 1 + 1) 76 273 (stC startS) := by rw [ev]; exact h11
  have hS4 : Sz v4_ (M15 + 1 + 1 + 1) := by rw [ev]; exact hM21
  replace lo : Below N w v4_ := by rw [ev]; exact lo.drew
  rw [← ev]
  clear ev hM21
  refine anyI_part [4, 5, 7, 8, 10, 11] _ _ _ _ (by kernel_rfl) ?_
  simp only [List.filterMap_cons, List.filterMap_nil, List.getElem?_toArray, List.getElem?_cons_succ, List.getElem?_cons_zero]
  change wpList _ _ _ [_] _ _
  refine wpl_run rfl (.pointer (some ⟨M15, 0 + 0 * 11, none⟩)) _ (run_iaK (x := .tmp 28) (y := (.const (.int .i64 0))) rfl (b := M15) (off := 0) (k := 0) rfl rfl undR11 szAr (by omega)) ?_
  refine ⟨⟨h5, h6, h7, h8⟩, ?_⟩
  change wpList _ _ _ [_] _ _
  refine wpl_store_part rfl 71 (.tmp 29) (.tmp 25) rfl (M15) (0 + 0 * 11) rfl 11 (arC (rgP p.A p.N)) rfl 76 273 _ h9 (by omega) szAr (fun j _ => arC_one _ j) ?_
  intro y22 ty22 k22
  replace h5 := h5.touch ty22 (by omega)
  replace h6 := h6.touch ty22 (by omega)
  replace h7 := h7.touch ty22 (by omega)
  replace h8 := h8.touch ty22 (by omega)
  replace h10 := h10.touch ty22 (by omega)
  replace h11 := h11.touch ty22 (by omega)
  replace lo := ty22.below lo (by omega)
  have hM22 := ty22.sz hS4
  replace k22 := k22.congr (g := stC (startS.setR 0 (rgP p.A p.N))) (fun j _ => lay_R _ (i := 0) (by omega) _ j)
  clear h9 ty22 hS4
  have h9 := k22
  clear k22
  refine ⟨⟨h5, h6, h7, h8⟩, ?_⟩
  change wpList _ _ _ [_] _ _
  refine wpl_run rfl (.pointer (some ⟨M15 + 1, 0 + 0 * 11, none⟩)) _ (run_iaK (x := .tmp 30) (y := (.const (.int .i64 0))) rfl (b := M15 + 1) (off := 0) (k := 0) rfl rfl undR11 szAr (by omega)) ?_
  refine ⟨⟨h5, h6, h7, h8⟩, ?_⟩
  change wpList _ _ _ [_] _ _
  refine wpl_store_part rfl 71 (.tmp 31) (.tmp 26) rfl (M15 + 1) (0 + 0 * 11) rfl 11 (arC (rgP p.B p.M)) rfl 76 273 _ h10 (by omega) szAr (fun j _ => arC_one _ j) ?_
  intro y23 ty23 k23
  replace h5 := h5.touch ty23 (by omega)
  replace h6 := h6.touch ty23 (by omega)
  replace h7 := h7.touch ty23 (by omega)
  replace h8 := h8.touch ty23 (by omega)
  replace h9 := h9.touch ty23 (by omega)
  replace h11 := h11.touch ty23 (by omega)
  replace lo := ty23.below lo (by omega)
  have hM23 := ty23.sz hM22
  replace k23 := k23.congr (g := stC (startS.setR 0 (rgP p.B p.M))) (fun j _ => lay_R _ (i := 0) (by omega) _ j)
  clear h10 ty23 hM22
  have h10 := k23
  clear k23
  refine ⟨⟨h5, h6, h7, h8⟩, ?_⟩
  change wpList _ _ _ [_] _ _
  refine wpl_run rfl (.pointer (some ⟨M15 + 1 + 1, 0 + 0 * 11, none⟩)) _ (run_iaK (x := .tmp 32) (y := (.const (.int .i64 0))) rfl (b := M15 + 1 + 1) (off := 0) (k := 0) rfl rfl undR11 szAr (by omega)) ?_
  refine ⟨⟨h5, h6, h7, h8⟩, ?_⟩
  change wpList _ _ _ [_] _ _
  refine wpl_store_part rfl 71 (.tmp 33) (.tmp 27) rfl (M15 + 1 + 1) (0 + 0 * 11) rfl 11 (arC (rgP q.A q.N)) rfl 76 273 _ h11 (by omega) szAr (fun j _ => arC_one _ j) ?_
  intro y24 ty24 k24
  replace h5 := h5.touch ty24 (by omega)
  replace h6 := h6.touch ty24 (by omega)
  replace h7 := h7.touch ty24 (by omega)
  replace h8 := h8.touch ty24 (by omega)
  replace h9 := h9.touch ty24 (by omega)
  replace h10 := h10.touch ty24 (by omega)
  replace lo := ty24.below lo (by omega)
  have hM24 := ty24.sz hM23
  replace k24 := k24.congr (g := stC (startS.setR 0 (rgP q.A q.N))) (fun j _ => lay_R _ (i := 0) (by omega) _ j)
  clear h11 ty24 hM23
  have h11 := k24
  clear k24
  refine ⟨⟨h5, h6, h7, h8⟩, ?_⟩
  change anyI _ _ _ _ _ _ _ _ _
  try simp only [Act.put, List.setIfInBounds_toArray, List.set_cons_succ, List.set_cons_zero, List.getElem_toArray, List.getElem_cons_succ, List.getElem_cons_zero]
  refine anyI_done (by kernel_rfl) ?_
  try simp only [Act.put, List.setIfInBounds_toArray, List.set_cons_succ, List.set_cons_zero, List.getElem_toArray, List.getElem_cons_succ, List.getElem_cons_zero]
  go_upto_region 5 with fail
  refine wp_region_inn (fun w' => Has w' (M3) 71 11 (arC (rgP p.A p.N)) ∧ Has w' (M3 + 1) 71 11 (arC (rgP p.B p.M)) ∧ Has w' (M8) 71 11 (arC (rgP q.A q.N)) ∧ Has w' (M8 + 1) 71 11 (arC (rgP q.B q.M))) ⟨h5.drew, h6.drew, h7.drew, h8.drew⟩ (by kernel_rfl) ?_
  have hne := inn_ne (I := (fun w' => Has w' (M3) 71 11 (arC (rgP p.A p.N)) ∧ Has w' (M3 + 1) 71 11 (arC (rgP p.B p.M)) ∧ Has w' (M8) 71 11 (arC (rgP q.A q.N)) ∧ Has w' (M8 + 1) 71 11 (arC (rgP q.B q.M)))) ⟨h5, h6, h7, h8⟩
  refine anyI_reads [0, 1, 2, 3, 6, 9] _ _ _ ⟨h5.drew, h6.drew, h7.drew, h8.drew⟩ (by kernel_rfl) (fun _ _ _ d _ h => by cases d <;> exact h) ?_
  simp only [pickO, List.map_cons, List.map_nil, List.getElem?_toArray, List.getElem?_cons_succ, List.getElem?_cons_zero, Option.getD_some, Act.put, List.setIfInBounds_toArray, List.set_cons_succ, List.set_cons_zero]
  refine inn_val (fun x => run_ld 71 (.tmp 8) rfl (M8 + 1) rfl 71 11 _ x.h.2.2.2 _ undAr.choose_spec.1 undAr.choose_spec.2 szAr) (by rfl) ?_; simp only [Act.put, List.setIfInBounds_toArray, List.set_cons_succ, List.set_cons_zero]
  refine inn_val (fun x => run_ld 71 (.tmp 6) rfl (M3 + 1) rfl 71 11 _ x.h.2.1 _ undAr.choose_spec.1 undAr.choose_spec.2 szAr) (by rfl) ?_; simp only [Act.put, List.setIfInBounds_toArray, List.set_cons_succ, List.set_cons_zero]
  refine inn_val (fun x => run_ld 71 (.tmp 6) rfl (M3 + 1) rfl 71 11 _ x.h.2.1 _ undAr.choose_spec.1 undAr.choose_spec.2 szAr) (by rfl) ?_; simp only [Act.put, List.setIfInBounds_toArray, List.set_cons_succ, List.set_cons_zero]
  go_big_quiet_step (fail)
  go_big_quiet_step (fail)
  go_big_quiet_step (fail)
  refine wpQuiet_nil ?_
  clear hne
  obtain ⟨v5_, ev⟩ : ∃ x, x = y24.drew := ⟨_, rfl⟩
  replace h5 : Has v5_ (M3) 71 11 (arC (rgP p.A p.N)) := by rw [ev]; exact h5
  replace h6 : Has v5_ (M3 + 1) 71 11 (arC (rgP p.B p.M)) := by rw [ev]; exact h6
  replace h7 : Has v5_ (M8) 71 11 (arC (rgP q.A q.N)) := by rw [ev]; exact h7
  replace h8 : Has v5_ (M8 + 1) 71 11 (arC (rgP q.B q.M)) := by rw [ev]; exact h8
  replace h9 : Has v5_ (M15) 76 273 (stC (startS.setR 0 (rgP p.A p.N))) := by rw [ev]; exact h9
  replace h10 : Has v5_ (M15 + 1) 76 273 (stC (startS.setR 0 (rgP p.B p.M))) := by rw [ev]; exact h10
  replace h11 : Has v5_ (M15 + 1 + 1) 76 273 (stC (startS.setR 0 (rgP q.A q.N))) := by rw [ev]; exact h11
  have hS5 : Sz v5_ (M15 + 1 + 1 + 1) := by rw [ev]; exact hM24
  replace lo : Below N w v5_ := by rw [ev]; exact lo.drew
  rw [← ev]
  clear ev hM24
  refine anyI_part [4, 5, 7, 8, 10, 11] _ _ _ _ (by kernel_rfl) ?_
  simp only [List.filterMap_cons, List.filterMap_nil, List.getElem?_toArray, List.getElem?_cons_succ, List.getElem?_cons_zero]
  change wpList _ _ _ [_] _ _
  refine wpl_run rfl (.pointer (some ⟨M15, 0 + 6 * 11, none⟩)) _ (run_iaK (x := .tmp 37) (y := (.const (.int .i64 6))) rfl (b := M15) (off := 0) (k := 6) rfl rfl undR11 szAr (by omega)) ?_
  refine ⟨⟨h5, h6, h7, h8⟩, ?_⟩
  change wpList _ _ _ [_] _ _
  refine wpl_store_part rfl 71 (.tmp 38) (.tmp 34) rfl (M15) (0 + 6 * 11) rfl 11 (arC (rgP q.B q.M)) rfl 76 273 _ h9 (by omega) szAr (fun j _ => arC_one _ j) ?_
  intro y25 ty25 k25
  replace h5 := h5.touch ty25 (by omega)
  replace h6 := h6.touch ty25 (by omega)
  replace h7 := h7.touch ty25 (by omega)
  replace h8 := h8.touch ty25 (by omega)
  replace h10 := h10.touch ty25 (by omega)
  replace h11 := h11.touch ty25 (by omega)
  replace lo := ty25.below lo (by omega)
  have hM25 := ty25.sz hS5
  replace k25 := k25.congr (g := stC ((startS.setR 0 (rgP p.A p.N)).setR 6 (rgP q.B q.M))) (fun j _ => lay_R _ (i := 6) (by omega) _ j)
  clear h9 ty25 hS5
  have h9 := k25
  clear k25
  refine ⟨⟨h5, h6, h7, h8⟩, ?_⟩
  change wpList _ _ _ [_] _ _
  refine wpl_run rfl (.pointer (some ⟨M15 + 1, 0 + 6 * 11, none⟩)) _ (run_iaK (x := .tmp 39) (y := (.const (.int .i64 6))) rfl (b := M15 + 1) (off := 0) (k := 6) rfl rfl undR11 szAr (by omega)) ?_
  refine ⟨⟨h5, h6, h7, h8⟩, ?_⟩
  change wpList _ _ _ [_] _ _
  refine wpl_store_part rfl 71 (.tmp 40) (.tmp 35) rfl (M15 + 1) (0 + 6 * 11) rfl 11 (arC (rgP p.B p.M)) rfl 76 273 _ h10 (by omega) szAr (fun j _ => arC_one _ j) ?_
  intro y26 ty26 k26
  replace h5 := h5.touch ty26 (by omega)
  replace h6 := h6.touch ty26 (by omega)
  replace h7 := h7.touch ty26 (by omega)
  replace h8 := h8.touch ty26 (by omega)
  replace h9 := h9.touch ty26 (by omega)
  replace h11 := h11.touch ty26 (by omega)
  replace lo := ty26.below lo (by omega)
  have hM26 := ty26.sz hM25
  replace k26 := k26.congr (g := stC ((startS.setR 0 (rgP p.B p.M)).setR 6 (rgP p.B p.M))) (fun j _ => lay_R _ (i := 6) (by omega) _ j)
  clear h10 ty26 hM25
  have h10 := k26
  clear k26
  refine ⟨⟨h5, h6, h7, h8⟩, ?_⟩
  change wpList _ _ _ [_] _ _
  refine wpl_run rfl (.pointer (some ⟨M15 + 1 + 1, 0 + 6 * 11, none⟩)) _ (run_iaK (x := .tmp 41) (y := (.const (.int .i64 6))) rfl (b := M15 + 1 + 1) (off := 0) (k := 6) rfl rfl undR11 szAr (by omega)) ?_
  refine ⟨⟨h5, h6, h7, h8⟩, ?_⟩
  change wpList _ _ _ [_] _ _
  refine wpl_store_part rfl 71 (.tmp 42) (.tmp 36) rfl (M15 + 1 + 1) (0 + 6 * 11) rfl 11 (arC (rgP p.B p.M)) rfl 76 273 _ h11 (by omega) szAr (fun j _ => arC_one _ j) ?_
  intro y27 ty27 k27
  replace h5 := h5.touch ty27 (by omega)
  replace h6 := h6.touch ty27 (by omega)
  replace h7 := h7.touch ty27 (by omega)
  replace h8 := h8.touch ty27 (by omega)
  replace h9 := h9.touch ty27 (by omega)
  replace h10 := h10.touch ty27 (by omega)
  replace lo := ty27.below lo (by omega)
  have hM27 := ty27.sz hM26
  replace k27 := k27.congr (g := stC ((startS.setR 0 (rgP q.A q.N)).setR 6 (rgP p.B p.M))) (fun j _ => lay_R _ (i := 6) (by omega) _ j)
  clear h11 ty27 hM26
  have h11 := k27
  clear k27
  refine ⟨⟨h5, h6, h7, h8⟩, ?_⟩
  change anyI _ _ _ _ _ _ _ _ _
  try simp only [Act.put, List.setIfInBounds_toArray, List.set_cons_succ, List.set_cons_zero, List.getElem_toArray, List.getElem_cons_succ, List.getElem_cons_zero]
  refine anyI_done (by kernel_rfl) ?_
  try simp only [Act.put, List.setIfInBounds_toArray, List.set_cons_succ, List.set_cons_zero, List.getElem_toArray, List.getElem_cons_succ, List.getElem_cons_zero]
  replace h9 : Has y27 (M15) 76 273 (stC (cS (rgP p.A p.N) (rgP q.B q.M))) := h9
  replace h10 : Has y27 (M15 + 1) 76 273 (stC (cS (rgP p.B p.M) (rgP p.B p.M))) := h10
  replace h11 : Has y27 (M15 + 1 + 1) 76 273 (stC (cS (rgP q.A q.N) (rgP p.B p.M))) := h11
  clear h5 h6 h7 h8
  go_upto_region 6 with fail
  go_wp2_with (first
    | (go_at_call 43; refine (saves_any _ (M15 + 1 + 1 + 1) hM27).mono ?_; rintro e w29 ⟨rfl, hb29⟩; obtain ⟨M29, hM29⟩ := sz_some w29; have l29 := below_sz hb29 hM27 hM29; replace h9 := h9.below hb29 (by omega); replace h10 := h10.below hb29 (by omega); replace h11 := h11.below hb29 (by omega); replace lo := lo.trans (hb29.mono (by omega)); clear hb29 hM27)
    | (refine wpl_want (by rfl) ?_; refine wpl_load rfl 76 (.tmp 9) rfl (M15) rfl 76 273 _ h9 _ undSt.choose_spec.1 undSt.choose_spec.2 szSt ?_)
    | (refine wpl_want (by rfl) ?_; refine wpl_load rfl 76 (.tmp 10) rfl (M15 + 1) rfl 76 273 _ h10 _ undSt.choose_spec.1 undSt.choose_spec.2 szSt ?_)
    | (refine wpl_want (by rfl) ?_; refine wpl_load rfl 76 (.tmp 11) rfl (M15 + 1 + 1) rfl 76 273 _ h11 _ undSt.choose_spec.1 undSt.choose_spec.2 szSt ?_)
    | (go_at_call 50; refine (Covers_any (cS (rgP p.A p.N) (rgP q.B q.M)) (cS (rgP p.B p.M) (rgP p.B p.M)) _ (M29) hM29).mono ?_; rintro e w101 ⟨rfl, hb101⟩; rw [EX.out]; obtain ⟨M101, hM101⟩ := sz_some w101; have l101 := below_sz hb101 hM29 hM101; replace h9 := h9.below hb101 (by omega); replace h10 := h10.below hb101 (by omega); replace h11 := h11.below hb101 (by omega); replace lo := lo.trans (hb101.mono (by omega)); clear hb101 hM29; cases bx)
    | (go_at_call 50; refine (Covers_any (cS (rgP p.B p.M) (rgP p.B p.M)) (cS (rgP q.A q.N) (rgP p.B p.M)) _ (M101) hM101).mono ?_; rintro e w102 ⟨rfl, hb102⟩; rw [EY.out]; obtain ⟨M102, hM102⟩ := sz_some w102; have l102 := below_sz hb102 hM101 hM102; replace h9 := h9.below hb102 (by omega); replace h10 := h10.below hb102 (by omega); replace h11 := h11.below hb102 (by omega); replace lo := lo.trans (hb102.mono (by omega)); clear hb102 hM101; cases bY)
    | (go_at_call 50; refine (Covers_any (cS (rgP p.A p.N) (rgP q.B q.M)) (cS (rgP q.A q.N) (rgP p.B p.M)) _ (M102) hM102).mono ?_; rintro e w103 ⟨rfl, hb103⟩; rw [EZ.out]; obtain ⟨M103, hM103⟩ := sz_some w103; have l103 := below_sz hb103 hM102 hM103; replace h9 := h9.below hb103 (by omega); replace h10 := h10.below hb103 (by omega); replace h11 := h11.below hb103 (by omega); replace lo := lo.trans (hb103.mono (by omega)); clear hb103 hM102)
    | fail)
  all_goals (go_ret)
  · exact ⟨rfl, lo⟩
  · exact ⟨rfl, lo⟩
  · obtain rfl : bz = true := HT.out trivial trivial
    exact ⟨rfl, lo⟩
end Go.Proofs.Ytaeggclcjpcnoaa
