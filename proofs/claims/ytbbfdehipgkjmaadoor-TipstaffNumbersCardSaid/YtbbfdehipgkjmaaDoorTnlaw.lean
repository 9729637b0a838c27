/- TipstaffNumbers: its walk. -/
import Derived.Test.YtbbfdehipgkjmaaDoorMgTnw
import Derived.Test.YtbbfdehipgkjmaaDoorMgPtL
namespace Go.Proofs.YtbbfdehipgkjmaaDoor
open Go Go.RowKit
theorem run_iaT {P : Program} {a : Act} {o : Oper} (T : TypeId) (x y : Operand) (ho : o.op = .indexAddr T x y) {b off k r : Nat} (hx : a.eval x = .pointer (some ⟨b, off, none⟩)) (hy : a.eval y = .int .i64 (k : Int)) (ht : ((P.underlying T).bind fun d => match d with | .array n e => ((P.info? e).bind fun i => if i.size = 1 ∧ k < n then some () else none) | _ => none) = some ()) (hr : off + k = r) (w : World) : (execOp a.eval o).run P w = .ok (.value (.pointer (some ⟨b, r, none⟩))) w := by
  subst hr
  cases hu : P.underlying T with
  | none => rw [hu] at ht; cases ht
  | some d =>
    rw [hu] at ht
    cases d with
    | array n e =>
      simp only [Option.bind_some] at ht
      cases hq : P.info? e with
      | none => rw [hq] at ht; cases ht
      | some i =>
        rw [hq, Option.bind_some] at ht
        split at ht
        · rename_i h
          obtain ⟨hi, hk⟩ := h
          have h1 : ¬ (n ≤ k) := by omega
          unfold execOp
          simp only [ho, hx, hy]
          simp [Instr.indexAt, Instr.sureAddr, asIntOf, Sem.run_bind, run_underlying hu, sizeOf, typeInfo, hq, hi, Addr.add, h1, hk]
        · cases ht
    | _ => cases ht
set_option maxRecDepth 100000 in
set_option maxHeartbeats 8000000 in
theorem law_tnums (s : Nat → BitVec 8) (z : Int) (w : World) (N : Nat) (hN : Sz w N) (hT : Tabs w) : Calls Tryd.prog 3 #[.agg (cellsOf (fun j => By (s j)) 3), .int .i64 z] w fun e w' => e = .returned (.bool true) ∧ Below N w w' := by
  have hTN := hT.ltN hN
  obtain ⟨D, eD, hD⟩ : ∃ D : Nat → W, (fun j => By (s j)) = (fun j => Yv (D j)) ∧ ∀ j, (D j).toNat < 256 := ⟨fun j => xt (s j), funext fun j => by_yv (s j), fun j => xt_lt (s j)⟩
  rw [eD]
  clear eD
  obtain ⟨k, ek⟩ : ∃ k, rm z 16 = k := ⟨_, rfl⟩
  have hk16 : k < 16 := by rw [← ek]; exact rm_lt _ 16 (by omega)
  have EK := hid ek
  clear ek
  obtain ⟨r, a, a2, b, c, d, C1, H1, C2, H2, W1, C3, C4, C5, H3, H4, H5⟩ := tn_facts (D 0) (D 1) (D 2) k (hD 0) hk16
  obtain ⟨n, en⟩ : ∃ n, D 0 &&& D 1 = n := ⟨_, rfl⟩
  rw [en] at H1 C2 H2 H3 H4 H5
  have EN := hid en
  clear en
  obtain ⟨bl, ebl⟩ : ∃ bl, n.ult (D 2) = bl := ⟨_, rfl⟩
  rw [ebl] at C2
  have EB := hid ebl
  clear ebl
  obtain ⟨n2, en2⟩ : ∃ n2, n <<< k = n2 := ⟨_, rfl⟩
  rw [en2] at H3 H4 H5
  have EN2 := hid en2
  clear en2
  obtain ⟨n3, en3⟩ : ∃ n3, n2 + n = n3 := ⟨_, rfl⟩
  rw [en3] at H4 H5
  have EN3 := hid en3
  clear en3
  obtain ⟨n4, en4⟩ : ∃ n4, lo32 (n3 - 3#64) = n4 := ⟨_, rfl⟩
  rw [en4] at H5
  have EN4 := hid en4
  clear en4
  have lo := Below.refl N w
  have y0 := hD 0
  have y1 := hD 1
  go_enter Tryd.func3, Tryd.ntmps3
  go_upto_region 1 with (first
    | (refine wpl_box rfl 22 (.tmp 0) rfl 3 _ rfl N hN ?_; intro w1 hN1 hb1 h2; try simp only [pA])
    | fail)
  replace lo := lo.trans (hb1.mono (by omega))
  have c0 : w1.cell? ⟨N, 0, none⟩ = some (Yv (D 0)) := h2.cell (j := 0) (by omega)
  have c1 : w1.cell? ⟨N, 1, none⟩ = some (Yv (D 1)) := h2.cell (j := 1) (by omega)
  have c2 : w1.cell? ⟨N, 2, none⟩ = some (Yv (D 2)) := h2.cell (j := 2) (by omega)
  clear hb1 h2
  refine wp_region_later (N + 1) (by kernel_rfl) (by kernel_rfl) ?_
  try simp only [pA]
  refine later_val (v := .pointer (some ⟨N, 0, none⟩)) (fun q => run_iaT 22 (.tmp 2) (.const (.int .i64 0)) rfl (b := N) (off := 0) (k := 0) (r := 0) rfl rfl (by kernel_rfl) rfl _) (by rfl) ?_; try simp only [pA]
  refine later_c1 hN1 5 (.tmp 18) rfl rfl undY rfl c0 (by rfl) ?_; try simp only [pA]
  refine later_val (v := .pointer (some ⟨N, 1, none⟩)) (fun q => run_iaT 22 (.tmp 2) (.const (.int .i64 1)) rfl (b := N) (off := 0) (k := 1) (r := 1) rfl rfl (by kernel_rfl) rfl _) (by rfl) ?_; try simp only [pA]
  refine later_c1 hN1 5 (.tmp 20) rfl rfl undY rfl c1 (by rfl) ?_; try simp only [pA]
  refine later_val (v := .pointer (some ⟨N, 2, none⟩)) (fun q => run_iaT 22 (.tmp 2) (.const (.int .i64 2)) rfl (b := N) (off := 0) (k := 2) (r := 2) rfl rfl (by kernel_rfl) rfl _) (by rfl) ?_; try simp only [pA]
  refine later_c1 hN1 5 (.tmp 22) rfl rfl undY rfl c2 (by rfl) ?_; try simp only [pA]
  go_big_quiet_step (fail)
  go_big_quiet_step (fail)
  go_big_quiet_step (fail)
  refine wpQuiet_nil (laterE hN1 ?_)
  intro w21 M21 hb21 hM21 l21
  replace lo := lo.trans (hb21.mono (by omega))
  clear hb21 hN1
  clear c0 c1 c2
  go_upto_region 8 with (first
    | (go_at_call 6; refine (SAny_any _ (M21) hM21).mono ?_; rintro e w22 ⟨rfl, hb22⟩; obtain ⟨M22, hM22⟩ := sz_some w22; have l22 := below_sz hb22 hM21 hM22; replace lo := lo.trans (hb22.mono (by omega)); clear hM21 hb22; try simp only [pA])
    | (go_at_call 5; refine (SLow_1 (obR tAny) _ (M22) hM22).mono ?_; rintro e w23 ⟨rfl, hb23⟩; obtain ⟨M23, hM23⟩ := sz_some w23; have l23 := below_sz hb23 hM22 hM23; replace lo := lo.trans (hb23.mono (by omega)); clear hM22 hb23; try simp only [pA])
    | (go_at_call 7; refine (SConst_any (D 1) _ (M23) hM23).mono ?_; rintro e w24 ⟨rfl, hb24⟩; obtain ⟨M24, hM24⟩ := sz_some w24; have l24 := below_sz hb24 hM23 hM24; replace lo := lo.trans (hb24.mono (by omega)); clear hM23 hb24; try simp only [pA])
    | (go_at_call 4; refine (C1 _ (M24) hM24).mono ?_; rintro e w25 ⟨rfl, hb25⟩; obtain ⟨M25, hM25⟩ := sz_some w25; have l25 := below_sz hb25 hM24 hM25; replace lo := lo.trans (hb25.mono (by omega)); clear hM24 hb25; try simp only [pA])
    | (go_at_call 8; refine (stands_any _ (M25 + 1) hM27 (hT.below lo hTN)).mono ?_; rintro e w28 ⟨rfl, hb28⟩; obtain ⟨M28, hM28⟩ := sz_some w28; have l28 := below_sz hb28 hM27 hM28; replace h9 := h9.below hb28 (by omega); replace lo := lo.trans (hb28.mono (by omega)); clear hM27 hb28; try simp only [pA])
    | (go_at_call 9; refine (topens_any _ (M28) hM28).mono ?_; rintro e w29 ⟨rfl, hb29⟩; obtain ⟨M29, hM29⟩ := sz_some w29; have l29 := below_sz hb29 hM28 hM29; replace h9 := h9.below hb29 (by omega); replace lo := lo.trans (hb29.mono (by omega)); clear hM28 hb29; try simp only [pA])
    | (go_at_call 10; refine (H1 _ (M29) hM29).mono ?_; rintro e w30 ⟨rfl, hb30⟩; obtain ⟨M30, hM30⟩ := sz_some w30; have l30 := below_sz hb30 hM29 hM30; replace h9 := h9.below hb30 (by omega); replace lo := lo.trans (hb30.mono (by omega)); clear hM29 hb30; try simp only [pA])
    | ((with_reducible show wpList _ _ _ (_ :: _) _ _); first
      | (refine wpl_run rfl (Q (BitVec.ofInt 64 z)) _ (run_iu (x := .tmp 24) (z := z) rfl undInt und64 rfl _) ?_; try simp only [pA])
      | (refine wpl_b rfl rfl (bin_rem _ (BitVec.ofInt 64 z) 16#64 (by decide)) rfl rfl ?_; try simp only [pA])
      | (refine wpl_run rfl (.int .i64 ((rm z 16 : Nat) : Int)) _ (run_rm (x := .tmp 26) rfl und64 undInt (z := z) (m := 16) (by omega) rfl _) ?_; rw [EK.out]; try simp only [pA])
      | (refine wpl_run rfl (Q (D 1)) _ (run_yu (x := .tmp 30) rfl undY und64 rfl _) ?_; try simp only [pA])
      | (refine wpl_alloc rfl 27 rfl 6 (rC zeroR) zeR (M25) hM25 ?_; intro w26 hM26 hb26 h9; replace lo := lo.trans (hb26.mono (by omega)); clear hM25 hb26; try simp only [pA])
      | (refine wpl_store rfl 27 (.tmp 9) (.tmp 33) rfl (M25) 6 (rC r) rfl rfl 27 _ h9 szR (fun j _ => rC_one _ j) ?_; intro w27 t27 k27; replace lo := t27.below lo (by omega); have hM27 := t27.sz hM26; clear h9 t27 hM26; have h9 := k27; clear k27; try simp only [pA])
      | (refine wpl_b rfl rfl (bin_yand _ (D 0) (D 1) y1 y0) rfl rfl ?_; rw [EN.out]; try simp only [pA])
      | (refine wpl_run rfl (Q n) _ (run_yu (x := .tmp 36) rfl undY und64 rfl _) ?_; try simp only [pA])
      | (refine wpl_want ?_ ?_; rotate_left; (refine wpl_load rfl 27 (.tmp 9) rfl (M25) rfl 27 6 _ h9 _ undR.choose_spec.1 undR.choose_spec.2 szR ?_); rotate_left; rfl; try simp only [pA])
      | (refine wpl_run rfl (Q (D 2)) _ (run_yu (x := .tmp 51) rfl undY und64 rfl _) ?_; try simp only [pA])
      | (refine wpl_b rfl rfl (bin_lss _ n (D 2)) rfl rfl ?_; rw [EB.out]; try simp only [pA]))
    | fail)
  go_upto_region 8 with fail
  refine wp_mid (fun ac (zb : Nat × Nat) => (((((((((((((ac.put (some 55) (Value.agg (cellsOf (rC r) 6))).put (some 56) (Yv (D 2))).put (some 57) (Q (D 2))).put (some 58) (Value.agg (cellsOf (rC (cR (D 2))) 6))).put (some 59) (Value.bool bl)).put (some 60) (Value.tuple #[(Value.agg (cellsOf (rC a) 6)), (Value.agg (cellsOf (rC a2) 6)), (Value.bool true)])).put (some 54) (Value.tuple #[(Value.agg (cellsOf (rC a) 6)), (Value.agg (cellsOf (rC a2) 6)), (Value.bool true)])).put (some 61) (Value.agg (cellsOf (rC a) 6))).put (some 62) (Value.agg (cellsOf (rC a2) 6))).put (some 63) (Value.bool true)).put (some 12) (.pointer (some ⟨zb.1, 0, none⟩))).put (some 13) (.pointer (some ⟨zb.2, 0, none⟩))).put (some 14) (Value.bool true))) (fun zb w' => Has w' zb.1 27 6 (rC a) ∧ Has w' zb.2 27 6 (rC a2) ∧ zb.2 ≠ zb.1 ∧ M30 ≤ zb.1 ∧ M30 ≤ zb.2 ∧ Has w' M25 27 6 (rC r) ∧ Below N w w') ?_ ?_
  · refine wp_region_any (by kernel_rfl) ?_
    replace h9 : Has w30.drew M25 27 6 (rC r) := h9
    replace hM30 : Sz w30.drew M30 := hM30
    replace lo : Below N w w30.drew := lo.drew
    change wpAny _ _ _ _ _ _ _ (World.drew _)
    generalize w30.drew = xw802 at *
    refine wpAny_potL (lt := [8, 9]) (rem := [0, 1, 2, 3, 4, 5, 6, 7, 8, 9, 10, 11]) (FG M30 (fun j => if j = 0 then some (Value.agg (cellsOf (rC r) 6)) else if j = 1 then some (Yv (D 2)) else if j = 2 then some (Q (D 2)) else if j = 3 then some (Value.agg (cellsOf (rC (cR (D 2))) 6)) else if j = 4 then some (Value.bool bl) else if j = 5 then some (Value.tuple #[(Value.agg (cellsOf (rC a) 6)), (Value.agg (cellsOf (rC a2) 6)), (Value.bool true)]) else if j = 6 then some (Value.tuple #[(Value.agg (cellsOf (rC a) 6)), (Value.agg (cellsOf (rC a2) 6)), (Value.bool true)]) else if j = 7 then some (Value.agg (cellsOf (rC a) 6)) else if j = 8 then some (Value.agg (cellsOf (rC a2) 6)) else if j = 9 then some (Value.bool true) else if j = 10 then none else none) (fun j => if j = 10 then (27, 6, rC zeroR) else (27, 6, rC zeroR))) (TwoN (fun j => if j = 0 then some (Value.agg (cellsOf (rC r) 6)) else if j = 1 then some (Yv (D 2)) else if j = 2 then some (Q (D 2)) else if j = 3 then some (Value.agg (cellsOf (rC (cR (D 2))) 6)) else if j = 4 then some (Value.bool bl) else if j = 5 then some (Value.tuple #[(Value.agg (cellsOf (rC a) 6)), (Value.agg (cellsOf (rC a2) 6)), (Value.bool true)]) else if j = 6 then some (Value.tuple #[(Value.agg (cellsOf (rC a) 6)), (Value.agg (cellsOf (rC a2) 6)), (Value.bool true)]) else if j = 7 then some (Value.agg (cellsOf (rC a) 6)) else if j = 8 then some (Value.agg (cellsOf (rC a2) 6)) else if j = 9 then some (Value.bool true) else if j = 10 then none else none)) (Below M30 xw802) _ _ _ _ (by kernel_rfl) (size_dstG (by kernel_rfl)) (Below.refl _ _) ?_ ?_
    · intro i hi ac wa hI ha hv
      simp only [List.mem_cons, List.not_mem_nil, or_false] at hi
      rcases hi with rfl | rfl | rfl | rfl | rfl | rfl | rfl | rfl | rfl | rfl | rfl | rfl
      · exact potg_run rfl rfl (Value.agg (cellsOf (rC r) 6)) rfl (run_rw 27 (.tmp 9) rfl M25 (ha 9 (not_dstG (by kernel_rfl))) 27 6 _ (Has.below h9 hI (Has.ltN h9 hM30)) undR szR) hM30 hI
      · exact potg_run rfl rfl (Yv (D 2)) rfl (run_mv (x := (.tmp 7)) rfl _ (ha 7 (not_dstG (by kernel_rfl)))) hM30 hI
      · obtain ⟨v1, hv1a, hv1b⟩ := hv 1 (by simp) (by kernel_rfl)
        have ev1 := hv1b.val rfl
        subst ev1
        exact potg_run rfl rfl (Q (D 2)) rfl (run_yu (x := (.tmp 56)) rfl undY und64 (hv1a 56 rfl) wa) hM30 hI
      · obtain ⟨v2, hv2a, hv2b⟩ := hv 2 (by simp) (by kernel_rfl)
        have ev2 := hv2b.val rfl
        subst ev2
        exact potg_cl rfl rfl 7 _ _ rfl #[(Q (D 2))] (by simp only [List.map_toArray, List.map_cons, List.map_nil, (show ac.eval (.tmp 57) = (Q (D 2)) from (hv2a 57 rfl))] <;> rfl) (by kernel_rfl) (Value.agg (cellsOf (rC (cR (D 2))) 6)) (fun K hK => SConst_any (D 2) wa K hK) rfl hM30 hI
      · exact potg_run rfl rfl (Value.bool bl) rfl (run_mv (x := (.tmp 11)) rfl _ (ha 11 (not_dstG (by kernel_rfl)))) hM30 hI
      · obtain ⟨v0, hv0a, hv0b⟩ := hv 0 (by simp) (by kernel_rfl)
        have ev0 := hv0b.val rfl
        subst ev0
        obtain ⟨v3, hv3a, hv3b⟩ := hv 3 (by simp) (by kernel_rfl)
        have ev3 := hv3b.val rfl
        subst ev3
        obtain ⟨v4, hv4a, hv4b⟩ := hv 4 (by simp) (by kernel_rfl)
        have ev4 := hv4b.val rfl
        subst ev4
        exact potg_cl rfl rfl 11 _ _ rfl #[(Value.int .i64 10), (Value.bool true), (Value.agg (cellsOf (rC r) 6)), (Value.agg (cellsOf (rC (cR (D 2))) 6)), (Value.bool bl)] (by simp only [List.map_toArray, List.map_cons, List.map_nil, (show ac.eval (.tmp 55) = (Value.agg (cellsOf (rC r) 6)) from (hv0a 55 rfl)), (show ac.eval (.tmp 58) = (Value.agg (cellsOf (rC (cR (D 2))) 6)) from (hv3a 58 rfl)), (show ac.eval (.tmp 59) = (Value.bool bl) from (hv4a 59 rfl))] <;> rfl) (by kernel_rfl) (Value.tuple #[(Value.agg (cellsOf (rC a) 6)), (Value.agg (cellsOf (rC a2) 6)), (Value.bool true)]) (fun K hK => C2 wa K hK) rfl hM30 hI
      · obtain ⟨v5, hv5a, hv5b⟩ := hv 5 (by simp) (by kernel_rfl)
        have ev5 := hv5b.val rfl
        subst ev5
        exact potg_run rfl rfl (Value.tuple #[(Value.agg (cellsOf (rC a) 6)), (Value.agg (cellsOf (rC a2) 6)), (Value.bool true)]) rfl (run_mv (x := (.tmp 60)) rfl _ (hv5a 60 rfl)) hM30 hI
      · obtain ⟨v6, hv6a, hv6b⟩ := hv 6 (by simp) (by kernel_rfl)
        have ev6 := hv6b.val rfl
        subst ev6
        exact potg_run rfl rfl (Value.agg (cellsOf (rC a) 6)) rfl (run_ex (x := (.tmp 54)) rfl _ (hv6a 54 rfl) rfl) hM30 hI
      · obtain ⟨v6, hv6a, hv6b⟩ := hv 6 (by simp) (by kernel_rfl)
        have ev6 := hv6b.val rfl
        subst ev6
        exact potg_run rfl rfl (Value.agg (cellsOf (rC a2) 6)) rfl (run_ex (x := (.tmp 54)) rfl _ (hv6a 54 rfl) rfl) hM30 hI
      · obtain ⟨v6, hv6a, hv6b⟩ := hv 6 (by simp) (by kernel_rfl)
        have ev6 := hv6b.val rfl
        subst ev6
        exact potg_run rfl rfl (Value.bool true) rfl (run_ex (x := (.tmp 54)) rfl _ (hv6a 54 rfl) rfl) hM30 hI
      · exact potg_al rfl rfl rfl zeR rfl rfl hM30 hI
      · exact potg_al rfl rfl rfl zeR rfl rfl hM30 hI
    · intro L vals w5_801_ hb5_801_ hF hG hL
      have l0 := hL 0 (by simp) rfl
      have l1 := hL 1 (by simp) rfl
      have l2 := hL 2 (by simp) rfl
      have l3 := hL 3 (by simp) rfl
      have l4 := hL 4 (by simp) rfl
      have l5 := hL 5 (by simp) rfl
      have l6 := hL 6 (by simp) rfl
      have l7 := hL 7 (by simp) rfl
      have l10 := hL 10 (by simp) rfl
      have l11 := hL 11 (by simp) rfl
      clear hL
      cases c8 : L 8
      · cases c9 : L 9
        · have e_801_0 := (hF 0 (by simp) l0).val rfl
          have e_801_1 := (hF 1 (by simp) l1).val rfl
          have e_801_2 := (hF 2 (by simp) l2).val rfl
          have e_801_3 := (hF 3 (by simp) l3).val rfl
          have e_801_4 := (hF 4 (by simp) l4).val rfl
          have e_801_5 := (hF 5 (by simp) l5).val rfl
          have e_801_6 := (hF 6 (by simp) l6).val rfl
          have e_801_7 := (hF 7 (by simp) l7).val rfl
          obtain ⟨b_801_10, bl_801_10, e_801_10, h_801_10⟩ := (hF 10 (by simp) l10).al rfl rfl
          obtain ⟨b_801_11, bl_801_11, e_801_11, h_801_11⟩ := (hF 11 (by simp) l11).al rfl rfl
          have n_801_10_11 := hG 10 (by simp) 11 (by simp) (by omega) l10 l11 rfl rfl b_801_10 b_801_11 e_801_10 e_801_11
          clear hF hG
          rw [show left L [0, 1, 2, 3, 4, 5, 6, 7, 8, 9, 10, 11] = 2 from by simp [left, l0, l1, l2, l3, l4, l5, l6, l7, l10, l11, c8, c9]]
          refine wpAny_fuel (n := 5) (by kernel_rfl) ?_
          simp only [marks, puts, l0, l1, l2, l3, l4, l5, l6, l7, l10, l11, c8, c9, if_true, if_false, Bool.false_eq_true, dstOf, List.getElem?_toArray, List.getElem?_cons_succ, List.getElem?_cons_zero, Option.bind_some, Act.put, List.setIfInBounds_toArray, List.set_cons_succ, List.set_cons_zero, e_801_0, e_801_1, e_801_2, e_801_3, e_801_4, e_801_5, e_801_6, e_801_7, e_801_10, e_801_11]
          clear e_801_0 e_801_1 e_801_2 e_801_3 e_801_4 e_801_5 e_801_6 e_801_7 e_801_10 e_801_11 l0 l1 l2 l3 l4 l5 l6 l7 l10 l11 c8 c9
          have k803 := h9.below hb5_801_ (by omega)
          have lo804 := lo.trans (hb5_801_.mono (by omega))
          obtain ⟨M5, hM5⟩ := sz_some w5_801_
          have lM5 := below_sz hb5_801_ hM30 hM5
          clear h9 lo hb5_801_
          refine wpAny_of_held (S := fun _ => True) _ _ _ _ ?_
          refine held_take (i := 8) (v := (Value.agg (cellsOf (rC a2) 6))) (d := some 62) rfl (by kernel_rfl) (by kernel_rfl) (by kernel_rfl) (by kernel_rfl) (fun _ _ _ h => by cases h.1) (Or.inl ⟨by rfl, fun wq _ => run_ex (x := (.tmp 54)) rfl wq rfl rfl⟩) trivial ?_; simp only [pA]
          refine held_take (i := 9) (v := (Value.bool true)) (d := some 63) rfl (by kernel_rfl) (by kernel_rfl) (by kernel_rfl) (by kernel_rfl) (fun _ _ _ h => by cases h.1) (Or.inl ⟨by rfl, fun wq _ => run_ex (x := (.tmp 54)) rfl wq rfl rfl⟩) trivial ?_; simp only [pA]
          refine wpAnyH_all (rs := [12]) (by kernel_rfl) (by simp) ?_
          intro iq hiq; simp only [List.mem_singleton] at hiq; subst hiq
          refine opg_list rfl ?_
          refine wpl_storeN (by rfl) (by kernel_rfl) 27 (.tmp 12) (.tmp 61) rfl b_801_10 6 (rC a) rfl rfl 27 _ h_801_10 szR (fun j _ => rC_one _ j) ?_
          intro xw805 t806 k807; try simp only [pA]
          have k808 := k803.touch t806 (by omega)
          have k809 := h_801_11.touch t806 (by omega)
          have lo810 := t806.below lo804 (by omega)
          have h811 := t806.sz hM5
          clear h_801_10 k803 h_801_11 lo804 hM5 t806
          refine ⟨trivial, ?_⟩
          refine wpAnyH_all (rs := [13]) (by kernel_rfl) (by simp) ?_
          intro iq hiq; simp only [List.mem_singleton] at hiq; subst hiq
          refine opg_list rfl ?_
          refine wpl_storeN (by rfl) (by kernel_rfl) 27 (.tmp 13) (.tmp 62) rfl b_801_11 6 (rC a2) rfl rfl 27 _ k809 szR (fun j _ => rC_one _ j) ?_
          intro xw812 t813 k814; try simp only [pA]
          have k815 := k808.touch t813 (by omega)
          have k816 := k807.touch t813 (by omega)
          have lo817 := t813.below lo810 (by omega)
          have h818 := t813.sz h811
          clear k809 k808 k807 lo810 h811 t813
          refine ⟨trivial, ?_⟩
          refine wpAnyH_all (rs := [14]) (by kernel_rfl) (by simp) ?_
          intro iq hiq; simp only [List.mem_singleton] at hiq; subst hiq
          refine opg_list rfl ?_
          refine wpl_runD rfl (d := some 14) rfl (Value.bool true) (run_as (x := (.tmp 63)) rfl _ rfl) ?_; simp only [pA]
          refine ⟨trivial, ?_⟩
          refine wpAnyH_done (by kernel_rfl) ?_ _
          refine ⟨rfl, (b_801_10, b_801_11), (by simp only [pA]), k816, k814, (Ne.symm n_801_10_11), bl_801_10, bl_801_11, k815, lo817⟩
        · have e_801_0 := (hF 0 (by simp) l0).val rfl
          have e_801_1 := (hF 1 (by simp) l1).val rfl
          have e_801_2 := (hF 2 (by simp) l2).val rfl
          have e_801_3 := (hF 3 (by simp) l3).val rfl
          have e_801_4 := (hF 4 (by simp) l4).val rfl
          have e_801_5 := (hF 5 (by simp) l5).val rfl
          have e_801_6 := (hF 6 (by simp) l6).val rfl
          have e_801_7 := (hF 7 (by simp) l7).val rfl
          have e_801_9 := (hF 9 (by simp) c9).val rfl
          obtain ⟨b_801_10, bl_801_10, e_801_10, h_801_10⟩ := (hF 10 (by simp) l10).al rfl rfl
          obtain ⟨b_801_11, bl_801_11, e_801_11, h_801_11⟩ := (hF 11 (by simp) l11).al rfl rfl
          have n_801_10_11 := hG 10 (by simp) 11 (by simp) (by omega) l10 l11 rfl rfl b_801_10 b_801_11 e_801_10 e_801_11
          clear hF hG
          rw [show left L [0, 1, 2, 3, 4, 5, 6, 7, 8, 9, 10, 11] = 1 from by simp [left, l0, l1, l2, l3, l4, l5, l6, l7, l10, l11, c8, c9]]
          refine wpAny_fuel (n := 4) (by kernel_rfl) ?_
          simp only [marks, puts, l0, l1, l2, l3, l4, l5, l6, l7, l10, l11, c8, c9, if_true, if_false, Bool.false_eq_true, dstOf, List.getElem?_toArray, List.getElem?_cons_succ, List.getElem?_cons_zero, Option.bind_some, Act.put, List.setIfInBounds_toArray, List.set_cons_succ, List.set_cons_zero, e_801_0, e_801_1, e_801_2, e_801_3, e_801_4, e_801_5, e_801_6, e_801_7, e_801_9, e_801_10, e_801_11]
          clear e_801_0 e_801_1 e_801_2 e_801_3 e_801_4 e_801_5 e_801_6 e_801_7 e_801_9 e_801_10 e_801_11 l0 l1 l2 l3 l4 l5 l6 l7 l10 l11 c8 c9
          have k803 := h9.below hb5_801_ (by omega)
          have lo804 := lo.trans (hb5_801_.mono (by omega))
          obtain ⟨M5, hM5⟩ := sz_some w5_801_
          have lM5 := below_sz hb5_801_ hM30 hM5
          clear h9 lo hb5_801_
          refine wpAny_of_held (S := fun _ => True) _ _ _ _ ?_
          refine held_take (i := 8) (v := (Value.agg (cellsOf (rC a2) 6))) (d := some 62) rfl (by kernel_rfl) (by kernel_rfl) (by kernel_rfl) (by kernel_rfl) (fun _ _ _ h => by cases h.1) (Or.inl ⟨by rfl, fun wq _ => run_ex (x := (.tmp 54)) rfl wq rfl rfl⟩) trivial ?_; simp only [pA]
          refine wpAnyH_all (rs := [12]) (by kernel_rfl) (by simp) ?_
          intro iq hiq; simp only [List.mem_singleton] at hiq; subst hiq
          refine opg_list rfl ?_
          refine wpl_storeN (by rfl) (by kernel_rfl) 27 (.tmp 12) (.tmp 61) rfl b_801_10 6 (rC a) rfl rfl 27 _ h_801_10 szR (fun j _ => rC_one _ j) ?_
          intro xw805 t806 k807; try simp only [pA]
          have k808 := k803.touch t806 (by omega)
          have k809 := h_801_11.touch t806 (by omega)
          have lo810 := t806.below lo804 (by omega)
          have h811 := t806.sz hM5
          clear h_801_10 k803 h_801_11 lo804 hM5 t806
          refine ⟨trivial, ?_⟩
          refine wpAnyH_all (rs := [13]) (by kernel_rfl) (by simp) ?_
          intro iq hiq; simp only [List.mem_singleton] at hiq; subst hiq
          refine opg_list rfl ?_
          refine wpl_storeN (by rfl) (by kernel_rfl) 27 (.tmp 13) (.tmp 62) rfl b_801_11 6 (rC a2) rfl rfl 27 _ k809 szR (fun j _ => rC_one _ j) ?_
          intro xw812 t813 k814; try simp only [pA]
          have k815 := k808.touch t813 (by omega)
          have k816 := k807.touch t813 (by omega)
          have lo817 := t813.below lo810 (by omega)
          have h818 := t813.sz h811
          clear k809 k808 k807 lo810 h811 t813
          refine ⟨trivial, ?_⟩
          refine wpAnyH_all (rs := [14]) (by kernel_rfl) (by simp) ?_
          intro iq hiq; simp only [List.mem_singleton] at hiq; subst hiq
          refine opg_list rfl ?_
          refine wpl_runD rfl (d := some 14) rfl (Value.bool true) (run_as (x := (.tmp 63)) rfl _ rfl) ?_; simp only [pA]
          refine ⟨trivial, ?_⟩
          refine wpAnyH_done (by kernel_rfl) ?_ _
          refine ⟨rfl, (b_801_10, b_801_11), (by simp only [pA]), k816, k814, (Ne.symm n_801_10_11), bl_801_10, bl_801_11, k815, lo817⟩
      · cases c9 : L 9
        · have e_801_0 := (hF 0 (by simp) l0).val rfl
          have e_801_1 := (hF 1 (by simp) l1).val rfl
          have e_801_2 := (hF 2 (by simp) l2).val rfl
          have e_801_3 := (hF 3 (by simp) l3).val rfl
          have e_801_4 := (hF 4 (by simp) l4).val rfl
          have e_801_5 := (hF 5 (by simp) l5).val rfl
          have e_801_6 := (hF 6 (by simp) l6).val rfl
          have e_801_7 := (hF 7 (by simp) l7).val rfl
          have e_801_8 := (hF 8 (by simp) c8).val rfl
          obtain ⟨b_801_10, bl_801_10, e_801_10, h_801_10⟩ := (hF 10 (by simp) l10).al rfl rfl
          obtain ⟨b_801_11, bl_801_11, e_801_11, h_801_11⟩ := (hF 11 (by simp) l11).al rfl rfl
          have n_801_10_11 := hG 10 (by simp) 11 (by simp) (by omega) l10 l11 rfl rfl b_801_10 b_801_11 e_801_10 e_801_11
          clear hF hG
          rw [show left L [0, 1, 2, 3, 4, 5, 6, 7, 8, 9, 10, 11] = 1 from by simp [left, l0, l1, l2, l3, l4, l5, l6, l7, l10, l11, c8, c9]]
          refine wpAny_fuel (n := 4) (by kernel_rfl) ?_
          simp only [marks, puts, l0, l1, l2, l3, l4, l5, l6, l7, l10, l11, c8, c9, if_true, if_false, Bool.false_eq_true, dstOf, List.getElem?_toArray, List.getElem?_cons_succ, List.getElem?_cons_zero, Option.bind_some, Act.put, List.setIfInBounds_toArray, List.set_cons_succ, List.set_cons_zero, e_801_0, e_801_1, e_801_2, e_801_3, e_801_4, e_801_5, e_801_6, e_801_7, e_801_8, e_801_10, e_801_11]
          clear e_801_0 e_801_1 e_801_2 e_801_3 e_801_4 e_801_5 e_801_6 e_801_7 e_801_8 e_801_10 e_801_11 l0 l1 l2 l3 l4 l5 l6 l7 l10 l11 c8 c9
          have k803 := h9.below hb5_801_ (by omega)
          have lo804 := lo.trans (hb5_801_.mono (by omega))
          obtain ⟨M5, hM5⟩ := sz_some w5_801_
          have lM5 := below_sz hb5_801_ hM30 hM5
          clear h9 lo hb5_801_
          refine wpAny_of_held (S := fun _ => True) _ _ _ _ ?_
          refine held_take (i := 9) (v := (Value.bool true)) (d := some 63) rfl (by kernel_rfl) (by kernel_rfl) (by kernel_rfl) (by kernel_rfl) (fun _ _ _ h => by cases h.1) (Or.inl ⟨by rfl, fun wq _ => run_ex (x := (.tmp 54)) rfl wq rfl rfl⟩) trivial ?_; simp only [pA]
          refine wpAnyH_all (rs := [12]) (by kernel_rfl) (by simp) ?_
          intro iq hiq; simp only [List.mem_singleton] at hiq; subst hiq
          refine opg_list rfl ?_
          refine wpl_storeN (by rfl) (by kernel_rfl) 27 (.tmp 12) (.tmp 61) rfl b_801_10 6 (rC a) rfl rfl 27 _ h_801_10 szR (fun j _ => rC_one _ j) ?_
          intro xw805 t806 k807; try simp only [pA]
          have k808 := k803.touch t806 (by omega)
          have k809 := h_801_11.touch t806 (by omega)
          have lo810 := t806.below lo804 (by omega)
          have h811 := t806.sz hM5
          clear h_801_10 k803 h_801_11 lo804 hM5 t806
          refine ⟨trivial, ?_⟩
          refine wpAnyH_all (rs := [13]) (by kernel_rfl) (by simp) ?_
          intro iq hiq; simp only [List.mem_singleton] at hiq; subst hiq
          refine opg_list rfl ?_
          refine wpl_storeN (by rfl) (by kernel_rfl) 27 (.tmp 13) (.tmp 62) rfl b_801_11 6 (rC a2) rfl rfl 27 _ k809 szR (fun j _ => rC_one _ j) ?_
          intro xw812 t813 k814; try simp only [pA]
          have k815 := k808.touch t813 (by omega)
          have k816 := k807.touch t813 (by omega)
          have lo817 := t813.below lo810 (by omega)
          have h818 := t813.sz h811
          clear k809 k808 k807 lo810 h811 t813
          refine ⟨trivial, ?_⟩
          refine wpAnyH_all (rs := [14]) (by kernel_rfl) (by simp) ?_
          intro iq hiq; simp only [List.mem_singleton] at hiq; subst hiq
          refine opg_list rfl ?_
          refine wpl_runD rfl (d := some 14) rfl (Value.bool true) (run_as (x := (.tmp 63)) rfl _ rfl) ?_; simp only [pA]
          refine ⟨trivial, ?_⟩
          refine wpAnyH_done (by kernel_rfl) ?_ _
          refine ⟨rfl, (b_801_10, b_801_11), (by simp only [pA]), k816, k814, (Ne.symm n_801_10_11), bl_801_10, bl_801_11, k815, lo817⟩
        · have e_801_0 := (hF 0 (by simp) l0).val rfl
          have e_801_1 := (hF 1 (by simp) l1).val rfl
          have e_801_2 := (hF 2 (by simp) l2).val rfl
          have e_801_3 := (hF 3 (by simp) l3).val rfl
          have e_801_4 := (hF 4 (by simp) l4).val rfl
          have e_801_5 := (hF 5 (by simp) l5).val rfl
          have e_801_6 := (hF 6 (by simp) l6).val rfl
          have e_801_7 := (hF 7 (by simp) l7).val rfl
          have e_801_8 := (hF 8 (by simp) c8).val rfl
          have e_801_9 := (hF 9 (by simp) c9).val rfl
          obtain ⟨b_801_10, bl_801_10, e_801_10, h_801_10⟩ := (hF 10 (by simp) l10).al rfl rfl
          obtain ⟨b_801_11, bl_801_11, e_801_11, h_801_11⟩ := (hF 11 (by simp) l11).al rfl rfl
          have n_801_10_11 := hG 10 (by simp) 11 (by simp) (by omega) l10 l11 rfl rfl b_801_10 b_801_11 e_801_10 e_801_11
          clear hF hG
          rw [show left L [0, 1, 2, 3, 4, 5, 6, 7, 8, 9, 10, 11] = 0 from by simp [left, l0, l1, l2, l3, l4, l5, l6, l7, l10, l11, c8, c9]]
          refine wpAny_fuel (n := 3) (by kernel_rfl) ?_
          simp only [marks, puts, l0, l1, l2, l3, l4, l5, l6, l7, l10, l11, c8, c9, if_true, if_false, Bool.false_eq_true, dstOf, List.getElem?_toArray, List.getElem?_cons_succ, List.getElem?_cons_zero, Option.bind_some, Act.put, List.setIfInBounds_toArray, List.set_cons_succ, List.set_cons_zero, e_801_0, e_801_1, e_801_2, e_801_3, e_801_4, e_801_5, e_801_6, e_801_7, e_801_8, e_801_9, e_801_10, e_801_11]
          clear e_801_0 e_801_1 e_801_2 e_801_3 e_801_4 e_801_5 e_801_6 e_801_7 e_801_8 e_801_9 e_801_10 e_801_11 l0 l1 l2 l3 l4 l5 l6 l7 l10 l11 c8 c9
          have k803 := h9.below hb5_801_ (by omega)
          have lo804 := lo.trans (hb5_801_.mono (by omega))
          obtain ⟨M5, hM5⟩ := sz_some w5_801_
          have lM5 := below_sz hb5_801_ hM30 hM5
          clear h9 lo hb5_801_
          refine wpAny_of_held (S := fun _ => True) _ _ _ _ ?_
          refine wpAnyH_all (rs := [12]) (by kernel_rfl) (by simp) ?_
          intro iq hiq; simp only [List.mem_singleton] at hiq; subst hiq
          refine opg_list rfl ?_
          refine wpl_storeN (by rfl) (by kernel_rfl) 27 (.tmp 12) (.tmp 61) rfl b_801_10 6 (rC a) rfl rfl 27 _ h_801_10 szR (fun j _ => rC_one _ j) ?_
          intro xw805 t806 k807; try simp only [pA]
          have k808 := k803.touch t806 (by omega)
          have k809 := h_801_11.touch t806 (by omega)
          have lo810 := t806.below lo804 (by omega)
          have h811 := t806.sz hM5
          clear h_801_10 k803 h_801_11 lo804 hM5 t806
          refine ⟨trivial, ?_⟩
          refine wpAnyH_all (rs := [13]) (by kernel_rfl) (by simp) ?_
          intro iq hiq; simp only [List.mem_singleton] at hiq; subst hiq
          refine opg_list rfl ?_
          refine wpl_storeN (by rfl) (by kernel_rfl) 27 (.tmp 13) (.tmp 62) rfl b_801_11 6 (rC a2) rfl rfl 27 _ k809 szR (fun j _ => rC_one _ j) ?_
          intro xw812 t813 k814; try simp only [pA]
          have k815 := k808.touch t813 (by omega)
          have k816 := k807.touch t813 (by omega)
          have lo817 := t813.below lo810 (by omega)
          have h818 := t813.sz h811
          clear k809 k808 k807 lo810 h811 t813
          refine ⟨trivial, ?_⟩
          refine wpAnyH_all (rs := [14]) (by kernel_rfl) (by simp) ?_
          intro iq hiq; simp only [List.mem_singleton] at hiq; subst hiq
          refine opg_list rfl ?_
          refine wpl_runD rfl (d := some 14) rfl (Value.bool true) (run_as (x := (.tmp 63)) rfl _ rfl) ?_; simp only [pA]
          refine ⟨trivial, ?_⟩
          refine wpAnyH_done (by kernel_rfl) ?_ _
          refine ⟨rfl, (b_801_10, b_801_11), (by simp only [pA]), k816, k814, (Ne.symm n_801_10_11), bl_801_10, bl_801_11, k815, lo817⟩
  · clear h9 lo
    rintro ⟨b_801_x0, b_801_x1⟩ xw806 ⟨k802, k803, ne807, lb_801_x0, lb_801_x1, k804, lo805⟩
    try dsimp only at *
    try simp only [pA]
    obtain ⟨M808, hM808⟩ := sz_some xw806
    have lt_809 := k804.ltN hM808
    have lt_810 := k802.ltN hM808
    have lt_811 := k803.ltN hM808
    have h9_ := k804
    have h12_ := k802
    have h13_ := k803
    have lo_ := lo805
    clear k804 k802 k803 lo805
    have h9 := h9_
    have h12 := h12_
    have h13 := h13_
    have lo := lo_
    clear h9_ h12_ h13_ lo_
    go_upto_region 11 with (first
      | (go_at_call 10; refine (H2 _ (M808) hM808).mono ?_; rintro e w31 ⟨rfl, hb31⟩; obtain ⟨M31, hM31⟩ := sz_some w31; have l31 := below_sz hb31 hM808 hM31; replace h9 := h9.below hb31 (by omega); replace h12 := h12.below hb31 (by omega); replace h13 := h13.below hb31 (by omega); replace lo := lo.trans (hb31.mono (by omega)); clear hM808 hb31; try simp only [pA])
      | (go_at_call 12; refine (W1 _ (M31) hM31).mono ?_; rintro e w32 ⟨rfl, hb32⟩; obtain ⟨M32, hM32⟩ := sz_some w32; have l32 := below_sz hb32 hM31 hM32; replace h9 := h9.below hb32 (by omega); replace h12 := h12.below hb32 (by omega); replace h13 := h13.below hb32 (by omega); replace lo := lo.trans (hb32.mono (by omega)); clear hM31 hb32; try simp only [pA])
      | ((with_reducible show wpList _ _ _ (_ :: _) _ _); first
        | (refine wpl_want ?_ ?_; rotate_left; (refine wpl_load rfl 27 (.tmp 12) rfl (b_801_x0) rfl 27 6 _ h12 _ undR.choose_spec.1 undR.choose_spec.2 szR ?_); rotate_left; rfl; try simp only [pA])
        | (refine wpl_want ?_ ?_; rotate_left; (refine wpl_load rfl 27 (.tmp 9) rfl (M25) rfl 27 6 _ h9 _ undR.choose_spec.1 undR.choose_spec.2 szR ?_); rotate_left; rfl; try simp only [pA]))
      | fail)
    go_upto_region 11 with fail
    refine wp_mid (fun ac (zb : Nat) => ((((((ac.put (some 78) (Value.agg (cellsOf (rC a) 6))).put (some 79) (Value.int .i64 (k : Int))).put (some 80) (Q (BitVec.ofInt 64 (k : Int)))).put (some 81) (Value.agg (cellsOf (rC (cR (BitVec.ofInt 64 (k : Int)))) 6))).put (some 82) (Value.agg (cellsOf (rC b) 6))).put (some 15) (.pointer (some ⟨zb, 0, none⟩)))) (fun zb w' => Has w' zb 27 6 (rC b) ∧ M32 ≤ zb ∧ Has w' M25 27 6 (rC r) ∧ Has w' b_801_x0 27 6 (rC a) ∧ Has w' b_801_x1 27 6 (rC a2) ∧ Below N w w') ?_ ?_
    · refine wp_region_any (by kernel_rfl) ?_
      replace h9 : Has w32.drew M25 27 6 (rC r) := h9
      replace h12 : Has w32.drew b_801_x0 27 6 (rC a) := h12
      replace h13 : Has w32.drew b_801_x1 27 6 (rC a2) := h13
      replace hM32 : Sz w32.drew M32 := hM32
      replace lo : Below N w w32.drew := lo.drew
      change wpAny _ _ _ _ _ _ _ (World.drew _)
      generalize w32.drew = xw1102 at *
      refine wpAny_potL (lt := []) (rem := [0, 1, 2, 3, 4, 5]) (FG M32 (fun j => if j = 0 then some (Value.agg (cellsOf (rC a) 6)) else if j = 1 then some (Value.int .i64 (k : Int)) else if j = 2 then some (Q (BitVec.ofInt 64 (k : Int))) else if j = 3 then some (Value.agg (cellsOf (rC (cR (BitVec.ofInt 64 (k : Int)))) 6)) else if j = 4 then some (Value.agg (cellsOf (rC b) 6)) else none) (fun j => (27, 6, rC zeroR))) (TwoN (fun j => if j = 0 then some (Value.agg (cellsOf (rC a) 6)) else if j = 1 then some (Value.int .i64 (k : Int)) else if j = 2 then some (Q (BitVec.ofInt 64 (k : Int))) else if j = 3 then some (Value.agg (cellsOf (rC (cR (BitVec.ofInt 64 (k : Int)))) 6)) else if j = 4 then some (Value.agg (cellsOf (rC b) 6)) else none)) (Below M32 xw1102) _ _ _ _ (by kernel_rfl) (size_dstG (by kernel_rfl)) (Below.refl _ _) ?_ ?_
      · intro i hi ac wa hI ha hv
        simp only [List.mem_cons, List.not_mem_nil, or_false] at hi
        rcases hi with rfl | rfl | rfl | rfl | rfl | rfl
        · exact potg_run rfl rfl (Value.agg (cellsOf (rC a) 6)) rfl (run_rw 27 (.tmp 12) rfl b_801_x0 (ha 12 (not_dstG (by kernel_rfl))) 27 6 _ (Has.below h12 hI (Has.ltN h12 hM32)) undR szR) hM32 hI
        · exact potg_run rfl rfl (Value.int .i64 (k : Int)) rfl (run_mv (x := (.tmp 8)) rfl _ (ha 8 (not_dstG (by kernel_rfl)))) hM32 hI
        · obtain ⟨v1, hv1a, hv1b⟩ := hv 1 (by simp) (by kernel_rfl)
          have ev1 := hv1b.val rfl
          subst ev1
          exact potg_run rfl rfl (Q (BitVec.ofInt 64 (k : Int))) rfl (run_iu (x := (.tmp 79)) rfl undInt und64 (hv1a 79 rfl) wa) hM32 hI
        · obtain ⟨v2, hv2a, hv2b⟩ := hv 2 (by simp) (by kernel_rfl)
          have ev2 := hv2b.val rfl
          subst ev2
          exact potg_cl rfl rfl 7 _ _ rfl #[(Q (BitVec.ofInt 64 (k : Int)))] (by simp only [List.map_toArray, List.map_cons, List.map_nil, (show ac.eval (.tmp 80) = (Q (BitVec.ofInt 64 (k : Int))) from (hv2a 80 rfl))] <;> rfl) (by kernel_rfl) (Value.agg (cellsOf (rC (cR (BitVec.ofInt 64 (k : Int)))) 6)) (fun K hK => SConst_any (BitVec.ofInt 64 (k : Int)) wa K hK) rfl hM32 hI
        · obtain ⟨v0, hv0a, hv0b⟩ := hv 0 (by simp) (by kernel_rfl)
          have ev0 := hv0b.val rfl
          subst ev0
          obtain ⟨v3, hv3a, hv3b⟩ := hv 3 (by simp) (by kernel_rfl)
          have ev3 := hv3b.val rfl
          subst ev3
          exact potg_cl rfl rfl 4 _ _ rfl #[(Value.int .i64 6), (Value.bool true), (Value.agg (cellsOf (rC a) 6)), (Value.agg (cellsOf (rC (cR (BitVec.ofInt 64 (k : Int)))) 6))] (by simp only [List.map_toArray, List.map_cons, List.map_nil, (show ac.eval (.tmp 78) = (Value.agg (cellsOf (rC a) 6)) from (hv0a 78 rfl)), (show ac.eval (.tmp 81) = (Value.agg (cellsOf (rC (cR (BitVec.ofInt 64 (k : Int)))) 6)) from (hv3a 81 rfl))] <;> rfl) (by kernel_rfl) (Value.agg (cellsOf (rC b) 6)) (fun K hK => C3 wa K hK) rfl hM32 hI
        · exact potg_al rfl rfl rfl zeR rfl rfl hM32 hI
      · intro L vals w5_1101_ hb5_1101_ hF hG hL
        have l0 := hL 0 (by simp) rfl
        have l1 := hL 1 (by simp) rfl
        have l2 := hL 2 (by simp) rfl
        have l3 := hL 3 (by simp) rfl
        have l4 := hL 4 (by simp) rfl
        have l5 := hL 5 (by simp) rfl
        clear hL
        have e_1101_0 := (hF 0 (by simp) l0).val rfl
        have e_1101_1 := (hF 1 (by simp) l1).val rfl
        have e_1101_2 := (hF 2 (by simp) l2).val rfl
        have e_1101_3 := (hF 3 (by simp) l3).val rfl
        have e_1101_4 := (hF 4 (by simp) l4).val rfl
        obtain ⟨b_1101_5, bl_1101_5, e_1101_5, h_1101_5⟩ := (hF 5 (by simp) l5).al rfl rfl
        clear hF hG
        rw [show left L [0, 1, 2, 3, 4, 5] = 0 from by simp [left, l0, l1, l2, l3, l4, l5]]
        refine wpAny_fuel (n := 1) (by kernel_rfl) ?_
        simp only [marks, puts, l0, l1, l2, l3, l4, l5, if_true, if_false, Bool.false_eq_true, dstOf, List.getElem?_toArray, List.getElem?_cons_succ, List.getElem?_cons_zero, Option.bind_some, Act.put, List.setIfInBounds_toArray, List.set_cons_succ, List.set_cons_zero, e_1101_0, e_1101_1, e_1101_2, e_1101_3, e_1101_4, e_1101_5]
        clear e_1101_0 e_1101_1 e_1101_2 e_1101_3 e_1101_4 e_1101_5 l0 l1 l2 l3 l4 l5
        have k1103 := h9.below hb5_1101_ (by omega)
        have k1104 := h12.below hb5_1101_ (by omega)
        have k1105 := h13.below hb5_1101_ (by omega)
        have lo1106 := lo.trans (hb5_1101_.mono (by omega))
        obtain ⟨M5, hM5⟩ := sz_some w5_1101_
        have lM5 := below_sz hb5_1101_ hM32 hM5
        clear h9 h12 h13 lo hb5_1101_
        refine wpAny_of_held (S := fun _ => True) _ _ _ _ ?_
        refine wpAnyH_all (rs := [6]) (by kernel_rfl) (by simp) ?_
        intro iq hiq; simp only [List.mem_singleton] at hiq; subst hiq
        refine opg_list rfl ?_
        refine wpl_storeN (by rfl) (by kernel_rfl) 27 (.tmp 15) (.tmp 82) rfl b_1101_5 6 (rC b) rfl rfl 27 _ h_1101_5 szR (fun j _ => rC_one _ j) ?_
        intro xw1107 t1108 k1109; try simp only [pA]
        have k1110 := k1103.touch t1108 (by omega)
        have k1111 := k1104.touch t1108 (by omega)
        have k1112 := k1105.touch t1108 (by omega)
        have lo1113 := t1108.below lo1106 (by omega)
        have h1114 := t1108.sz hM5
        clear h_1101_5 k1103 k1104 k1105 lo1106 hM5 t1108
        refine ⟨trivial, ?_⟩
        refine wpAnyH_done (by kernel_rfl) ?_ _
        refine ⟨rfl, b_1101_5, (by simp only [pA]), k1109, bl_1101_5, k1110, k1111, k1112, lo1113⟩
    · clear h9 h12 h13 lo
      rintro b_1101_x0 xw1107 ⟨k1102, lb_1101_x0, k1103, k1104, k1105, lo1106⟩
      try dsimp only at *
      try simp only [pA]
      obtain ⟨M1108, hM1108⟩ := sz_some xw1107
      have lt_1109 := k1103.ltN hM1108
      have lt_1110 := k1104.ltN hM1108
      have lt_1111 := k1105.ltN hM1108
      have lt_1112 := k1102.ltN hM1108
      have h9_ := k1103
      have h12_ := k1104
      have h13_ := k1105
      have h15_ := k1102
      have lo_ := lo1106
      clear k1103 k1104 k1105 k1102 lo1106
      have h9 := h9_
      have h12 := h12_
      have h13 := h13_
      have h15 := h15_
      have lo := lo_
      clear h9_ h12_ h13_ h15_ lo_
      go_upto_region 13 with (first
        | (go_at_call 4; refine (C4 _ (M1108) hM1108).mono ?_; rintro e w33 ⟨rfl, hb33⟩; obtain ⟨M33, hM33⟩ := sz_some w33; have l33 := below_sz hb33 hM1108 hM33; replace h9 := h9.below hb33 (by omega); replace h12 := h12.below hb33 (by omega); replace h13 := h13.below hb33 (by omega); replace h15 := h15.below hb33 (by omega); replace lo := lo.trans (hb33.mono (by omega)); clear hM1108 hb33; try simp only [pA])
        | ((with_reducible show wpList _ _ _ (_ :: _) _ _); first
          | (refine wpl_load rfl 27 (.tmp 15) rfl (b_1101_x0) rfl 27 6 _ h15 _ undR.choose_spec.1 undR.choose_spec.2 szR ?_; try simp only [pA])
          | (refine wpl_load rfl 27 (.tmp 12) rfl (b_801_x0) rfl 27 6 _ h12 _ undR.choose_spec.1 undR.choose_spec.2 szR ?_; try simp only [pA])
          | (refine wpl_alloc rfl 27 rfl 6 (rC zeroR) zeR (M33) hM33 ?_; intro w34 hM34 hb34 h16; replace h9 := h9.below hb34 (by omega); replace h12 := h12.below hb34 (by omega); replace h13 := h13.below hb34 (by omega); replace h15 := h15.below hb34 (by omega); replace lo := lo.trans (hb34.mono (by omega)); clear hM33 hb34; try simp only [pA])
          | (refine wpl_store rfl 27 (.tmp 16) (.tmp 85) rfl (M33) 6 (rC c) rfl rfl 27 _ h16 szR (fun j _ => rC_one _ j) ?_; intro w35 t35 k35; replace h9 := h9.touch t35 (by omega); replace h12 := h12.touch t35 (by omega); replace h13 := h13.touch t35 (by omega); replace h15 := h15.touch t35 (by omega); replace lo := t35.below lo (by omega); have hM35 := t35.sz hM34; clear h16 t35 hM34; have h16 := k35; clear k35; try simp only [pA]))
        | fail)
      obtain ⟨Mz13, eMz⟩ : ∃ M, M = M33 + 1 := ⟨_, rfl⟩
      rw [← eMz] at hM35
      have lz13 : M33 + 1 ≤ Mz13 ∧ Mz13 ≤ M33 + 1 := by omega
      clear eMz
      go_upto_region 13 with fail
      refine wp_mid (fun ac (zb : Nat) => ((((ac.put (some 86) (Value.agg (cellsOf (rC c) 6))).put (some 87) (Value.agg (cellsOf (rC (cR 3#64)) 6))).put (some 88) (Value.agg (cellsOf (rC d) 6))).put (some 17) (.pointer (some ⟨zb, 0, none⟩)))) (fun zb w' => Has w' zb 27 6 (rC d) ∧ Mz13 ≤ zb ∧ Has w' M25 27 6 (rC r) ∧ Has w' b_801_x0 27 6 (rC a) ∧ Has w' b_801_x1 27 6 (rC a2) ∧ Has w' b_1101_x0 27 6 (rC b) ∧ Has w' M33 27 6 (rC c) ∧ Below N w w') ?_ ?_
      · refine wp_region_any (by kernel_rfl) ?_
        replace h9 : Has w35.drew M25 27 6 (rC r) := h9
        replace h12 : Has w35.drew b_801_x0 27 6 (rC a) := h12
        replace h13 : Has w35.drew b_801_x1 27 6 (rC a2) := h13
        replace h15 : Has w35.drew b_1101_x0 27 6 (rC b) := h15
        replace h16 : Has w35.drew M33 27 6 (rC c) := h16
        replace hM35 : Sz w35.drew Mz13 := hM35
        replace lo : Below N w w35.drew := lo.drew
        change wpAny _ _ _ _ _ _ _ (World.drew _)
        generalize w35.drew = xw1302 at *
        refine wpAny_potL (lt := []) (rem := [0, 1, 2, 3]) (FG Mz13 (fun j => if j = 0 then some (Value.agg (cellsOf (rC c) 6)) else if j = 1 then some (Value.agg (cellsOf (rC (cR 3#64)) 6)) else if j = 2 then some (Value.agg (cellsOf (rC d) 6)) else none) (fun j => (27, 6, rC zeroR))) (TwoN (fun j => if j = 0 then some (Value.agg (cellsOf (rC c) 6)) else if j = 1 then some (Value.agg (cellsOf (rC (cR 3#64)) 6)) else if j = 2 then some (Value.agg (cellsOf (rC d) 6)) else none)) (Below Mz13 xw1302) _ _ _ _ (by kernel_rfl) (size_dstG (by kernel_rfl)) (Below.refl _ _) ?_ ?_
        · intro i hi ac wa hI ha hv
          simp only [List.mem_cons, List.not_mem_nil, or_false] at hi
          rcases hi with rfl | rfl | rfl | rfl
          · exact potg_run rfl rfl (Value.agg (cellsOf (rC c) 6)) rfl (run_rw 27 (.tmp 16) rfl M33 (ha 16 (not_dstG (by kernel_rfl))) 27 6 _ (Has.below h16 hI (Has.ltN h16 hM35)) undR szR) hM35 hI
          · exact potg_cl rfl rfl 7 _ _ rfl #[(Q 3#64)] (by kernel_rfl) (by kernel_rfl) (Value.agg (cellsOf (rC (cR 3#64)) 6)) (fun K hK => SConst_any 3#64 wa K hK) rfl hM35 hI
          · obtain ⟨v0, hv0a, hv0b⟩ := hv 0 (by simp) (by kernel_rfl)
            have ev0 := hv0b.val rfl
            subst ev0
            obtain ⟨v1, hv1a, hv1b⟩ := hv 1 (by simp) (by kernel_rfl)
            have ev1 := hv1b.val rfl
            subst ev1
            exact potg_cl rfl rfl 4 _ _ rfl #[(Value.int .i64 1), (Value.bool false), (Value.agg (cellsOf (rC c) 6)), (Value.agg (cellsOf (rC (cR 3#64)) 6))] (by simp only [List.map_toArray, List.map_cons, List.map_nil, (show ac.eval (.tmp 86) = (Value.agg (cellsOf (rC c) 6)) from (hv0a 86 rfl)), (show ac.eval (.tmp 87) = (Value.agg (cellsOf (rC (cR 3#64)) 6)) from (hv1a 87 rfl))] <;> rfl) (by kernel_rfl) (Value.agg (cellsOf (rC d) 6)) (fun K hK => C5 wa K hK) rfl hM35 hI
          · exact potg_al rfl rfl rfl zeR rfl rfl hM35 hI
        · intro L vals w5_1301_ hb5_1301_ hF hG hL
          have l0 := hL 0 (by simp) rfl
          have l1 := hL 1 (by simp) rfl
          have l2 := hL 2 (by simp) rfl
          have l3 := hL 3 (by simp) rfl
          clear hL
          have e_1301_0 := (hF 0 (by simp) l0).val rfl
          have e_1301_1 := (hF 1 (by simp) l1).val rfl
          have e_1301_2 := (hF 2 (by simp) l2).val rfl
          obtain ⟨b_1301_3, bl_1301_3, e_1301_3, h_1301_3⟩ := (hF 3 (by simp) l3).al rfl rfl
          clear hF hG
          rw [show left L [0, 1, 2, 3] = 0 from by simp [left, l0, l1, l2, l3]]
          refine wpAny_fuel (n := 1) (by kernel_rfl) ?_
          simp only [marks, puts, l0, l1, l2, l3, if_true, if_false, Bool.false_eq_true, dstOf, List.getElem?_toArray, List.getElem?_cons_succ, List.getElem?_cons_zero, Option.bind_some, Act.put, List.setIfInBounds_toArray, List.set_cons_succ, List.set_cons_zero, e_1301_0, e_1301_1, e_1301_2, e_1301_3]
          clear e_1301_0 e_1301_1 e_1301_2 e_1301_3 l0 l1 l2 l3
          have k1303 := h9.below hb5_1301_ (by omega)
          have k1304 := h12.below hb5_1301_ (by omega)
          have k1305 := h13.below hb5_1301_ (by omega)
          have k1306 := h15.below hb5_1301_ (by omega)
          have k1307 := h16.below hb5_1301_ (by omega)
          have lo1308 := lo.trans (hb5_1301_.mono (by omega))
          obtain ⟨M5, hM5⟩ := sz_some w5_1301_
          have lM5 := below_sz hb5_1301_ hM35 hM5
          clear h9 h12 h13 h15 h16 lo hb5_1301_
          refine wpAny_of_held (S := fun _ => True) _ _ _ _ ?_
          refine wpAnyH_all (rs := [4]) (by kernel_rfl) (by simp) ?_
          intro iq hiq; simp only [List.mem_singleton] at hiq; subst hiq
          refine opg_list rfl ?_
          refine wpl_storeN (by rfl) (by kernel_rfl) 27 (.tmp 17) (.tmp 88) rfl b_1301_3 6 (rC d) rfl rfl 27 _ h_1301_3 szR (fun j _ => rC_one _ j) ?_
          intro xw1309 t1310 k1311; try simp only [pA]
          have k1312 := k1303.touch t1310 (by omega)
          have k1313 := k1304.touch t1310 (by omega)
          have k1314 := k1305.touch t1310 (by omega)
          have k1315 := k1306.touch t1310 (by omega)
          have k1316 := k1307.touch t1310 (by omega)
          have lo1317 := t1310.below lo1308 (by omega)
          have h1318 := t1310.sz hM5
          clear h_1301_3 k1303 k1304 k1305 k1306 k1307 lo1308 hM5 t1310
          refine ⟨trivial, ?_⟩
          refine wpAnyH_done (by kernel_rfl) ?_ _
          refine ⟨rfl, b_1301_3, (by simp only [pA]), k1311, bl_1301_3, k1312, k1313, k1314, k1315, k1316, lo1317⟩
      · clear h9 h12 h13 h15 h16 lo
        rintro b_1301_x0 xw1309 ⟨k1302, lb_1301_x0, k1303, k1304, k1305, k1306, k1307, lo1308⟩
        try dsimp only at *
        try simp only [pA]
        obtain ⟨M1310, hM1310⟩ := sz_some xw1309
        have lt_1311 := k1303.ltN hM1310
        have lt_1312 := k1304.ltN hM1310
        have lt_1313 := k1305.ltN hM1310
        have lt_1314 := k1306.ltN hM1310
        have lt_1315 := k1307.ltN hM1310
        have lt_1316 := k1302.ltN hM1310
        have h9_ := k1303
        have h12_ := k1304
        have h13_ := k1305
        have h15_ := k1306
        have h16_ := k1307
        have h17_ := k1302
        have lo_ := lo1308
        clear k1303 k1304 k1305 k1306 k1307 k1302 lo1308
        have h9 := h9_
        have h12 := h12_
        have h13 := h13_
        have h15 := h15_
        have h16 := h16_
        have h17 := h17_
        have lo := lo_
        clear h9_ h12_ h13_ h15_ h16_ h17_ lo_
        go_upto_region 17 with (first
          | (go_at_call 10; refine (H3 _ (M1310) hM1310).mono ?_; rintro e w36 ⟨rfl, hb36⟩; obtain ⟨M36, hM36⟩ := sz_some w36; have l36 := below_sz hb36 hM1310 hM36; replace h9 := h9.below hb36 (by omega); replace h12 := h12.below hb36 (by omega); replace h13 := h13.below hb36 (by omega); replace h15 := h15.below hb36 (by omega); replace h16 := h16.below hb36 (by omega); replace h17 := h17.below hb36 (by omega); replace lo := lo.trans (hb36.mono (by omega)); clear hM1310 hb36; try simp only [pA])
          | ((with_reducible show wpList _ _ _ (_ :: _) _ _); first
            | (refine wpl_b rfl rfl (bin_shl _ n k) rfl rfl ?_; rw [EN2.out]; try simp only [pA])
            | (refine wpl_load rfl 27 (.tmp 15) rfl (b_1101_x0) rfl 27 6 _ h15 _ undR.choose_spec.1 undR.choose_spec.2 szR ?_; try simp only [pA]))
          | fail)
        go_upto_region 20 with (first
          | (go_at_call 10; refine (H4 _ (M36) hM36).mono ?_; rintro e w37 ⟨rfl, hb37⟩; obtain ⟨M37, hM37⟩ := sz_some w37; have l37 := below_sz hb37 hM36 hM37; replace h9 := h9.below hb37 (by omega); replace h12 := h12.below hb37 (by omega); replace h13 := h13.below hb37 (by omega); replace h15 := h15.below hb37 (by omega); replace h16 := h16.below hb37 (by omega); replace h17 := h17.below hb37 (by omega); replace lo := lo.trans (hb37.mono (by omega)); clear hM36 hb37; try simp only [pA])
          | ((with_reducible show wpList _ _ _ (_ :: _) _ _); first
            | (refine wpl_b rfl rfl (bin_yand _ (D 0) (D 1) y1 y0) rfl rfl ?_; rw [EN.out]; try simp only [pA])
            | (refine wpl_run rfl (Q n) _ (run_yu (x := .tmp 99) rfl undY und64 rfl _) ?_; try simp only [pA])
            | (refine wpl_b rfl rfl (bin_add _ n2 n) rfl rfl ?_; rw [EN3.out]; try simp only [pA])
            | (refine wpl_load rfl 27 (.tmp 16) rfl (M33) rfl 27 6 _ h16 _ undR.choose_spec.1 undR.choose_spec.2 szR ?_; try simp only [pA]))
          | fail)
        go_wp2_with (first
          | (go_at_call 10; refine (H5 _ (M37) hM37).mono ?_; rintro e w38 ⟨rfl, hb38⟩; obtain ⟨M38, hM38⟩ := sz_some w38; have l38 := below_sz hb38 hM37 hM38; replace h9 := h9.below hb38 (by omega); replace h12 := h12.below hb38 (by omega); replace h13 := h13.below hb38 (by omega); replace h15 := h15.below hb38 (by omega); replace h16 := h16.below hb38 (by omega); replace h17 := h17.below hb38 (by omega); replace lo := lo.trans (hb38.mono (by omega)); clear hM37 hb38; try simp only [pA])
          | ((with_reducible show wpList _ _ _ (_ :: _) _ _); first
            | (refine wpl_load rfl 27 (.tmp 17) rfl (b_1301_x0) rfl 27 6 _ h17 _ undR.choose_spec.1 undR.choose_spec.2 szR ?_; try simp only [pA])
            | (refine wpl_b rfl rfl (bin_sub _ n3 3#64) rfl rfl ?_; try simp only [pA])
            | (refine wpl_run rfl (Hv (lo32 (n3 - 3#64))) _ (run_uh (x := .tmp 108) rfl und64 undU32 rfl _) ?_; rw [EN4.out]; try simp only [pA])
            | (refine wpl_run rfl (Q n4) _ (run_hu (x := .tmp 109) rfl undU32 und64 rfl _) ?_; try simp only [pA]))
          | fail)
        go_ret
        exact ⟨rfl, lo⟩
end Go.Proofs.YtbbfdehipgkjmaaDoor
