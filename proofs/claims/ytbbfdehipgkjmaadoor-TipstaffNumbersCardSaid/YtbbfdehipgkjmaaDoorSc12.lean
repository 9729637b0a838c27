/- Contracts of ranges: either's; all of one among another's. -/
import Derived.Test.YtbbfdehipgkjmaaDoorSc11
namespace Go.Proofs.YtbbfdehipgkjmaaDoor
open Go Go.RowKit
/-- of either -/
def joinR (a b : Rn) : Rn := ⟨tJoin a.b b.b, uMin a.lo b.lo, uMax a.hi b.hi, sMin a.sl b.sl, sMax a.sh b.sh⟩
/-- are all of one another one's? -/
def sWithin (a b : Rn) : Bool := tWithin a.b b.b && (b.lo.ule a.lo && (a.hi.ule b.hi && (b.sl.sle a.sl && a.sh.sle b.sh)))
set_option maxRecDepth 100000 in
set_option maxHeartbeats 8000000 in
theorem SJoin_lit (n m : Nm) (aq1 aq2 aq3 aq4 bq1 bq2 bq3 bq4 : W) (w : World) (N : Nat) (hN : Sz w N) : Calls Tryd.prog 83 #[rV ⟨n, aq1, aq2, aq3, aq4⟩, rV ⟨m, bq1, bq2, bq3, bq4⟩] w fun e w' => e = .returned (rV ⟨tJoin n m, uMin aq1 bq1, uMax aq2 bq2, sMin aq3 bq3, sMax aq4 bq4⟩) ∧ Below N w w' := by
  obtain ⟨dR, u1, u2⟩ := undR
  unfold rV
  go_enter Tryd.func83, Tryd.ntmps83
  go_upto_region 1 with (first
    | (refine wpl_box rfl 27 (.tmp 0) rfl 6 _ rfl (N) hN ?_; intro w1 hN1 hb1 hh1)
    | (refine wpl_box rfl 27 (.tmp 1) rfl 6 _ rfl (N + 1) hN1 ?_; intro w2 hN2 hb2 hh2)
    | (refine wpl_alloc rfl 27 rfl 6 (rC zeroR) zeR (N + 1 + 1) hN2 ?_; intro w3 hN3 hb3 hh3)
    | fail)
  have lo0 : Below N w w3 := ((hb1.trans (hb2.mono (by omega))).trans (hb3.mono (by omega)))
  have k1 := ((hh1.below hb2 (by omega)).below hb3 (by omega))
  have k2 := (hh2.below hb3 (by omega))
  have k3 := hh3
  clear hh1 hb1 hh2 hb2 hh3 hb3 hN1 hN2
  go_upto_region 1 with fail
  refine wp_region_any (by kernel_rfl) ?_
  replace k1 : Has w3.drew N 27 6 (rC ⟨n, aq1, aq2, aq3, aq4⟩) := k1
  replace k2 : Has w3.drew (N + 1) 27 6 (rC ⟨m, bq1, bq2, bq3, bq4⟩) := k2
  replace k3 : Has w3.drew (N + 1 + 1) 27 6 (rC zeroR) := k3
  replace hN3 : Sz w3.drew (N + 1 + 1 + 1) := hN3
  replace lo0 : Below N w w3.drew := lo0.drew
  change wpAny _ _ _ _ _ _ _ (World.drew _)
  generalize w3.drew = xw4 at *
  obtain ⟨c5, c6, c7, c8, c9, c10⟩ := r_cells5 k1
  obtain ⟨c11, c12, c13, c14, c15, c16⟩ := r_cells5 k2
  refine wpAny_pot (rem := [0, 1, 2, 3, 4, 5, 6, 7, 8, 9, 10, 11, 12, 13, 14, 15, 16, 17, 18, 19, 20, 21, 22, 23, 24, 25]) (FG (N + 1 + 1 + 1) (fun j => if j = 0 then some (Value.pointer (some ⟨N, 0, none⟩)) else if j = 1 then some (Value.agg (cellsOf (nC n) 2)) else if j = 2 then some (Value.pointer (some ⟨(N + 1), 0, none⟩)) else if j = 3 then some (Value.agg (cellsOf (nC m) 2)) else if j = 4 then some (Value.agg (cellsOf (nC (tJoin n m)) 2)) else if j = 5 then some (Value.pointer (some ⟨N, 2, none⟩)) else if j = 6 then some (Q aq1) else if j = 7 then some (Value.pointer (some ⟨(N + 1), 2, none⟩)) else if j = 8 then some (Q bq1) else if j = 9 then some (Q (uMin aq1 bq1)) else if j = 10 then some (Value.pointer (some ⟨N, 3, none⟩)) else if j = 11 then some (Q aq2) else if j = 12 then some (Value.pointer (some ⟨(N + 1), 3, none⟩)) else if j = 13 then some (Q bq2) else if j = 14 then some (Q (uMax aq2 bq2)) else if j = 15 then some (Value.pointer (some ⟨N, 4, none⟩)) else if j = 16 then some (S aq3) else if j = 17 then some (Value.pointer (some ⟨(N + 1), 4, none⟩)) else if j = 18 then some (S bq3) else if j = 19 then some (S (sMin aq3 bq3)) else if j = 20 then some (Value.pointer (some ⟨N, 5, none⟩)) else if j = 21 then some (S aq4) else if j = 22 then some (Value.pointer (some ⟨(N + 1), 5, none⟩)) else if j = 23 then some (S bq4) else if j = 24 then some (S (sMax aq4 bq4)) else some (Value.agg (cellsOf (rC ⟨(tJoin n m), (uMin aq1 bq1), (uMax aq2 bq2), (sMin aq3 bq3), (sMax aq4 bq4)⟩) 6))) (fun j => (0, 0, fun _ => undef))) (TwoN (fun j => if j = 0 then some (Value.pointer (some ⟨N, 0, none⟩)) else if j = 1 then some (Value.agg (cellsOf (nC n) 2)) else if j = 2 then some (Value.pointer (some ⟨(N + 1), 0, none⟩)) else if j = 3 then some (Value.agg (cellsOf (nC m) 2)) else if j = 4 then some (Value.agg (cellsOf (nC (tJoin n m)) 2)) else if j = 5 then some (Value.pointer (some ⟨N, 2, none⟩)) else if j = 6 then some (Q aq1) else if j = 7 then some (Value.pointer (some ⟨(N + 1), 2, none⟩)) else if j = 8 then some (Q bq1) else if j = 9 then some (Q (uMin aq1 bq1)) else if j = 10 then some (Value.pointer (some ⟨N, 3, none⟩)) else if j = 11 then some (Q aq2) else if j = 12 then some (Value.pointer (some ⟨(N + 1), 3, none⟩)) else if j = 13 then some (Q bq2) else if j = 14 then some (Q (uMax aq2 bq2)) else if j = 15 then some (Value.pointer (some ⟨N, 4, none⟩)) else if j = 16 then some (S aq3) else if j = 17 then some (Value.pointer (some ⟨(N + 1), 4, none⟩)) else if j = 18 then some (S bq3) else if j = 19 then some (S (sMin aq3 bq3)) else if j = 20 then some (Value.pointer (some ⟨N, 5, none⟩)) else if j = 21 then some (S aq4) else if j = 22 then some (Value.pointer (some ⟨(N + 1), 5, none⟩)) else if j = 23 then some (S bq4) else if j = 24 then some (S (sMax aq4 bq4)) else some (Value.agg (cellsOf (rC ⟨(tJoin n m), (uMin aq1 bq1), (uMax aq2 bq2), (sMin aq3 bq3), (sMax aq4 bq4)⟩) 6)))) (Below (N + 1 + 1 + 1) xw4) _ _ _ _ (by kernel_rfl) (size_dstG (by kernel_rfl)) (Below.refl _ _) ?_ ?_
  · intro i hi ac wa hI ha hv
    simp only [List.mem_cons, List.not_mem_nil, or_false] at hi
    rcases hi with rfl | rfl | rfl | rfl | rfl | rfl | rfl | rfl | rfl | rfl | rfl | rfl | rfl | rfl | rfl | rfl | rfl | rfl | rfl | rfl | rfl | rfl | rfl | rfl | rfl | rfl
    · exact potg_run rfl rfl (Value.pointer (some ⟨N, 0, none⟩)) rfl (run_fa 27 (.tmp 2) 0 0 rfl (ha 2 (not_dstG (by kernel_rfl))) faR0) hN3 hI
    · obtain ⟨v0, hv0a, hv0b⟩ := hv 0 (by simp) (by kernel_rfl)
      have ev0 := hv0b.val rfl
      subst ev0
      exact potg_run rfl rfl (Value.agg (cellsOf (nC n) 2)) rfl (run_bits5 25 (.tmp 5) rfl N (hv0a 5 rfl) 27 (Has.below k1 hI (Has.ltN k1 hN3)) undT szT) hN3 hI
    · exact potg_run rfl rfl (Value.pointer (some ⟨(N + 1), 0, none⟩)) rfl (run_fa 27 (.tmp 3) 0 0 rfl (ha 3 (not_dstG (by kernel_rfl))) faR0) hN3 hI
    · obtain ⟨v2, hv2a, hv2b⟩ := hv 2 (by simp) (by kernel_rfl)
      have ev2 := hv2b.val rfl
      subst ev2
      exact potg_run rfl rfl (Value.agg (cellsOf (nC m) 2)) rfl (run_bits5 25 (.tmp 7) rfl (N + 1) (hv2a 7 rfl) 27 (Has.below k2 hI (Has.ltN k2 hN3)) undT szT) hN3 hI
    · obtain ⟨v1, hv1a, hv1b⟩ := hv 1 (by simp) (by kernel_rfl)
      have ev1 := hv1b.val rfl
      subst ev1
      obtain ⟨v3, hv3a, hv3b⟩ := hv 3 (by simp) (by kernel_rfl)
      have ev3 := hv3b.val rfl
      subst ev3
      exact potg_cl rfl rfl 81 _ _ rfl #[(Value.agg (cellsOf (nC n) 2)), (Value.agg (cellsOf (nC m) 2))] (by simp only [List.map_toArray, List.map_cons, List.map_nil, (show ac.eval (.tmp 6) = (Value.agg (cellsOf (nC n) 2)) from (hv1a 6 rfl)), (show ac.eval (.tmp 8) = (Value.agg (cellsOf (nC m) 2)) from (hv3a 8 rfl))] <;> rfl) (by kernel_rfl) (Value.agg (cellsOf (nC (tJoin n m)) 2)) (fun K hK => Join_any n m wa K hK) rfl hN3 hI
    · exact potg_run rfl rfl (Value.pointer (some ⟨N, 2, none⟩)) rfl (run_fa 27 (.tmp 2) 1 2 rfl (ha 2 (not_dstG (by kernel_rfl))) faR1) hN3 hI
    · obtain ⟨v5, hv5a, hv5b⟩ := hv 5 (by simp) (by kernel_rfl)
      have ev5 := hv5b.val rfl
      subst ev5
      exact potg_run rfl rfl (Q aq1) rfl (run_c1 23 (.tmp 10) rfl ⟨N, 2, none⟩ (hv5a 10 rfl) und64 rfl (keep_c hI hN3 c7)) hN3 hI
    · exact potg_run rfl rfl (Value.pointer (some ⟨(N + 1), 2, none⟩)) rfl (run_fa 27 (.tmp 3) 1 2 rfl (ha 3 (not_dstG (by kernel_rfl))) faR1) hN3 hI
    · obtain ⟨v7, hv7a, hv7b⟩ := hv 7 (by simp) (by kernel_rfl)
      have ev7 := hv7b.val rfl
      subst ev7
      exact potg_run rfl rfl (Q bq1) rfl (run_c1 23 (.tmp 12) rfl ⟨(N + 1), 2, none⟩ (hv7a 12 rfl) und64 rfl (keep_c hI hN3 c13)) hN3 hI
    · obtain ⟨v6, hv6a, hv6b⟩ := hv 6 (by simp) (by kernel_rfl)
      have ev6 := hv6b.val rfl
      subst ev6
      obtain ⟨v8, hv8a, hv8b⟩ := hv 8 (by simp) (by kernel_rfl)
      have ev8 := hv8b.val rfl
      subst ev8
      exact potg_run rfl rfl (Q (uMin aq1 bq1)) rfl (run_minQ (x := (.tmp 11)) (y := (.tmp 13)) rfl (hv6a 11 rfl) (hv8a 13 rfl) wa) hN3 hI
    · exact potg_run rfl rfl (Value.pointer (some ⟨N, 3, none⟩)) rfl (run_fa 27 (.tmp 2) 2 3 rfl (ha 2 (not_dstG (by kernel_rfl))) faR2) hN3 hI
    · obtain ⟨v10, hv10a, hv10b⟩ := hv 10 (by simp) (by kernel_rfl)
      have ev10 := hv10b.val rfl
      subst ev10
      exact potg_run rfl rfl (Q aq2) rfl (run_c1 23 (.tmp 15) rfl ⟨N, 3, none⟩ (hv10a 15 rfl) und64 rfl (keep_c hI hN3 c8)) hN3 hI
    · exact potg_run rfl rfl (Value.pointer (some ⟨(N + 1), 3, none⟩)) rfl (run_fa 27 (.tmp 3) 2 3 rfl (ha 3 (not_dstG (by kernel_rfl))) faR2) hN3 hI
    · obtain ⟨v12, hv12a, hv12b⟩ := hv 12 (by simp) (by kernel_rfl)
      have ev12 := hv12b.val rfl
      subst ev12
      exact potg_run rfl rfl (Q bq2) rfl (run_c1 23 (.tmp 17) rfl ⟨(N + 1), 3, none⟩ (hv12a 17 rfl) und64 rfl (keep_c hI hN3 c14)) hN3 hI
    · obtain ⟨v11, hv11a, hv11b⟩ := hv 11 (by simp) (by kernel_rfl)
      have ev11 := hv11b.val rfl
      subst ev11
      obtain ⟨v13, hv13a, hv13b⟩ := hv 13 (by simp) (by kernel_rfl)
      have ev13 := hv13b.val rfl
      subst ev13
      exact potg_run rfl rfl (Q (uMax aq2 bq2)) rfl (run_maxQ (x := (.tmp 16)) (y := (.tmp 18)) rfl (hv11a 16 rfl) (hv13a 18 rfl) wa) hN3 hI
    · exact potg_run rfl rfl (Value.pointer (some ⟨N, 4, none⟩)) rfl (run_fa 27 (.tmp 2) 3 4 rfl (ha 2 (not_dstG (by kernel_rfl))) faR3) hN3 hI
    · obtain ⟨v15, hv15a, hv15b⟩ := hv 15 (by simp) (by kernel_rfl)
      have ev15 := hv15b.val rfl
      subst ev15
      exact potg_run rfl rfl (S aq3) rfl (run_c1 2 (.tmp 20) rfl ⟨N, 4, none⟩ (hv15a 20 rfl) undI64 rfl (keep_c hI hN3 c9)) hN3 hI
    · exact potg_run rfl rfl (Value.pointer (some ⟨(N + 1), 4, none⟩)) rfl (run_fa 27 (.tmp 3) 3 4 rfl (ha 3 (not_dstG (by kernel_rfl))) faR3) hN3 hI
    · obtain ⟨v17, hv17a, hv17b⟩ := hv 17 (by simp) (by kernel_rfl)
      have ev17 := hv17b.val rfl
      subst ev17
      exact potg_run rfl rfl (S bq3) rfl (run_c1 2 (.tmp 22) rfl ⟨(N + 1), 4, none⟩ (hv17a 22 rfl) undI64 rfl (keep_c hI hN3 c15)) hN3 hI
    · obtain ⟨v16, hv16a, hv16b⟩ := hv 16 (by simp) (by kernel_rfl)
      have ev16 := hv16b.val rfl
      subst ev16
      obtain ⟨v18, hv18a, hv18b⟩ := hv 18 (by simp) (by kernel_rfl)
      have ev18 := hv18b.val rfl
      subst ev18
      exact potg_run rfl rfl (S (sMin aq3 bq3)) rfl (run_minS (x := (.tmp 21)) (y := (.tmp 23)) rfl (hv16a 21 rfl) (hv18a 23 rfl) wa) hN3 hI
    · exact potg_run rfl rfl (Value.pointer (some ⟨N, 5, none⟩)) rfl (run_fa 27 (.tmp 2) 4 5 rfl (ha 2 (not_dstG (by kernel_rfl))) faR4) hN3 hI
    · obtain ⟨v20, hv20a, hv20b⟩ := hv 20 (by simp) (by kernel_rfl)
      have ev20 := hv20b.val rfl
      subst ev20
      exact potg_run rfl rfl (S aq4) rfl (run_c1 2 (.tmp 25) rfl ⟨N, 5, none⟩ (hv20a 25 rfl) undI64 rfl (keep_c hI hN3 c10)) hN3 hI
    · exact potg_run rfl rfl (Value.pointer (some ⟨(N + 1), 5, none⟩)) rfl (run_fa 27 (.tmp 3) 4 5 rfl (ha 3 (not_dstG (by kernel_rfl))) faR4) hN3 hI
    · obtain ⟨v22, hv22a, hv22b⟩ := hv 22 (by simp) (by kernel_rfl)
      have ev22 := hv22b.val rfl
      subst ev22
      exact potg_run rfl rfl (S bq4) rfl (run_c1 2 (.tmp 27) rfl ⟨(N + 1), 5, none⟩ (hv22a 27 rfl) undI64 rfl (keep_c hI hN3 c16)) hN3 hI
    · obtain ⟨v21, hv21a, hv21b⟩ := hv 21 (by simp) (by kernel_rfl)
      have ev21 := hv21b.val rfl
      subst ev21
      obtain ⟨v23, hv23a, hv23b⟩ := hv 23 (by simp) (by kernel_rfl)
      have ev23 := hv23b.val rfl
      subst ev23
      exact potg_run rfl rfl (S (sMax aq4 bq4)) rfl (run_maxS (x := (.tmp 26)) (y := (.tmp 28)) rfl (hv21a 26 rfl) (hv23a 28 rfl) wa) hN3 hI
    · obtain ⟨v4, hv4a, hv4b⟩ := hv 4 (by simp) (by kernel_rfl)
      have ev4 := hv4b.val rfl
      subst ev4
      obtain ⟨v9, hv9a, hv9b⟩ := hv 9 (by simp) (by kernel_rfl)
      have ev9 := hv9b.val rfl
      subst ev9
      obtain ⟨v14, hv14a, hv14b⟩ := hv 14 (by simp) (by kernel_rfl)
      have ev14 := hv14b.val rfl
      subst ev14
      obtain ⟨v19, hv19a, hv19b⟩ := hv 19 (by simp) (by kernel_rfl)
      have ev19 := hv19b.val rfl
      subst ev19
      obtain ⟨v24, hv24a, hv24b⟩ := hv 24 (by simp) (by kernel_rfl)
      have ev24 := hv24b.val rfl
      subst ev24
      exact potg_run rfl rfl (Value.agg (cellsOf (rC ⟨(tJoin n m), (uMin aq1 bq1), (uMax aq2 bq2), (sMin aq3 bq3), (sMax aq4 bq4)⟩) 6)) rfl (run_bd 27 _ rfl _ (by simp only [List.map_toArray, List.map_cons, List.map_nil, (show ac.eval (.tmp 9) = (Value.agg (cellsOf (nC (tJoin n m)) 2)) from (hv4a 9 rfl)), (show ac.eval (.tmp 14) = (Q (uMin aq1 bq1)) from (hv9a 14 rfl)), (show ac.eval (.tmp 19) = (Q (uMax aq2 bq2)) from (hv14a 19 rfl)), (show ac.eval (.tmp 24) = (S (sMin aq3 bq3)) from (hv19a 24 rfl)), (show ac.eval (.tmp 29) = (S (sMax aq4 bq4)) from (hv24a 29 rfl))]; kernel_rfl) wa) hN3 hI
  · intro vals w5_17_ hb5_17_ hF hG
    have e_17_0 := (hF 0 (by simp)).val rfl
    have e_17_1 := (hF 1 (by simp)).val rfl
    have e_17_2 := (hF 2 (by simp)).val rfl
    have e_17_3 := (hF 3 (by simp)).val rfl
    have e_17_4 := (hF 4 (by simp)).val rfl
    have e_17_5 := (hF 5 (by simp)).val rfl
    have e_17_6 := (hF 6 (by simp)).val rfl
    have e_17_7 := (hF 7 (by simp)).val rfl
    have e_17_8 := (hF 8 (by simp)).val rfl
    have e_17_9 := (hF 9 (by simp)).val rfl
    have e_17_10 := (hF 10 (by simp)).val rfl
    have e_17_11 := (hF 11 (by simp)).val rfl
    have e_17_12 := (hF 12 (by simp)).val rfl
    have e_17_13 := (hF 13 (by simp)).val rfl
    have e_17_14 := (hF 14 (by simp)).val rfl
    have e_17_15 := (hF 15 (by simp)).val rfl
    have e_17_16 := (hF 16 (by simp)).val rfl
    have e_17_17 := (hF 17 (by simp)).val rfl
    have e_17_18 := (hF 18 (by simp)).val rfl
    have e_17_19 := (hF 19 (by simp)).val rfl
    have e_17_20 := (hF 20 (by simp)).val rfl
    have e_17_21 := (hF 21 (by simp)).val rfl
    have e_17_22 := (hF 22 (by simp)).val rfl
    have e_17_23 := (hF 23 (by simp)).val rfl
    have e_17_24 := (hF 24 (by simp)).val rfl
    have e_17_25 := (hF 25 (by simp)).val rfl
    clear hF hG
    simp only [List.foldl_cons, List.foldl_nil, dstOf, List.getElem?_toArray, List.getElem?_cons_succ, List.getElem?_cons_zero, Option.bind_some, Act.put, List.setIfInBounds_toArray, List.set_cons_succ, List.set_cons_zero, e_17_0, e_17_1, e_17_2, e_17_3, e_17_4, e_17_5, e_17_6, e_17_7, e_17_8, e_17_9, e_17_10, e_17_11, e_17_12, e_17_13, e_17_14, e_17_15, e_17_16, e_17_17, e_17_18, e_17_19, e_17_20, e_17_21, e_17_22, e_17_23, e_17_24, e_17_25]
    clear e_17_0 e_17_1 e_17_2 e_17_3 e_17_4 e_17_5 e_17_6 e_17_7 e_17_8 e_17_9 e_17_10 e_17_11 e_17_12 e_17_13 e_17_14 e_17_15 e_17_16 e_17_17 e_17_18 e_17_19 e_17_20 e_17_21 e_17_22 e_17_23 e_17_24 e_17_25
    refine wpAny_chain [26] _ _ _ _ (by kernel_rfl) (by decide) ?_
    simp only [List.filterMap_cons, List.filterMap_nil, List.getElem?_toArray, List.getElem?_cons_succ, List.getElem?_cons_zero]
    have k18 := k1.below hb5_17_ (by omega)
    have k19 := k2.below hb5_17_ (by omega)
    have k20 := k3.below hb5_17_ (by omega)
    have lo21 := lo0.trans (hb5_17_.mono (by omega))
    clear k1 c5 c6 c7 c8 c9 c10 k2 c11 c12 c13 c14 c15 c16 k3 lo0 hb5_17_
    refine wpl_store rfl 27 (.tmp 4) (.tmp 30) rfl (N + 1 + 1) 6 (rC ⟨(tJoin n m), (uMin aq1 bq1), (uMax aq2 bq2), (sMin aq3 bq3), (sMax aq4 bq4)⟩) rfl rfl 27 _ k20 szR (fun j _ => rC_one _ j) ?_
    intro xw22 t23 k24
    have k25 := k18.touch t23 (by omega)
    have k26 := k19.touch t23 (by omega)
    have lo27 := t23.below lo21 (by omega)
    clear k20 k18 k19 lo21 t23
    obtain ⟨M28, hM28⟩ := sz_some xw22
    have lt_29 := k25.ltN hM28
    have lt_30 := k26.ltN hM28
    have lt_31 := k24.ltN hM28
    go_wp2_with fail
    refine post_r rfl (N + 1 + 1) rfl k24 ⟨dR, u1, u2⟩ szR rfl ?_
    exact ⟨rfl, lo27⟩
theorem SJoin_any (a b : Rn) (w : World) (N : Nat) (hN : Sz w N) : Calls Tryd.prog 83 #[rV a, rV b] w fun e w' => e = .returned (rV (joinR a b)) ∧ Below N w w' := SJoin_lit a.b b.b a.lo a.hi a.sl a.sh b.lo b.hi b.sl b.sh w N hN
set_option maxRecDepth 100000 in
set_option maxHeartbeats 8000000 in
theorem SWithin_any (a b : Rn) (w : World) (N : Nat) (hN : Sz w N) : Calls Tryd.prog 12 #[rV a, rV b] w fun e w' => e = .returned (.bool (sWithin a b)) ∧ Below N w w' := by
  obtain ⟨r, er⟩ : ∃ r, r = sWithin a b := ⟨_, rfl⟩
  rw [← er]
  unfold sWithin at er
  unfold rV
  go_enter Tryd.func12, Tryd.ntmps12
  go_upto_region 1 with (first
    | (refine wpl_box rfl 27 (.tmp 0) rfl 6 _ rfl (N) hN ?_; intro w1 hN1 hb1 hh1)
    | (refine wpl_box rfl 27 (.tmp 1) rfl 6 _ rfl (N + 1) hN1 ?_; intro w2 hN2 hb2 hh2)
    | fail)
  have lo0 : Below N w w2 := (hb1.trans (hb2.mono (by omega)))
  have k1 := (hh1.below hb2 (by omega))
  have k2 := hh2
  clear hh1 hb1 hh2 hb2 hN1
  go_upto_region 1 with fail
  cases h0 : tWithin a.b b.b
  · have H0 := hid h0
    have E := hid (show r = false by rw [er, h0]; rfl)
    clear er h0
    obtain ⟨c3, c4, c5, c6, c7, c8⟩ := r_cells k1
    obtain ⟨c9, c10, c11, c12, c13, c14⟩ := r_cells k2
    refine wp_region_later1 ((N + 1 + 1)) ?_
    try simp only [pA]
    go_big_quiet_step (fail)
    refine later_val (fun qq => run_bits 25 (.tmp 5) rfl N rfl 27 (Later.has hN2 k1 qq) undT szT) (by rfl) ?_; simp only [pA]
    go_big_quiet_step (fail)
    refine later_val (fun qq => run_bits 25 (.tmp 7) rfl (N + 1) rfl 27 (Later.has hN2 k2 qq) undT szT) (by rfl) ?_; simp only [pA]
    go_big_quiet_step ((go_at_call 34; exact later_of hN2 _ (fun K hK hKN => ret_is H0.out (Within_any a.b b.b) _ K hK)))
    iterate 29 (go_big_quiet_step (fail))
    refine wpQuiet_nil (laterE hN2 ?_)
    intro xw15 M16 hbxw15 hM16 lM16
    have k17 := k1.below hbxw15 (by omega)
    have k18 := k2.below hbxw15 (by omega)
    have lo19 := lo0.trans (hbxw15.mono (by omega))
    clear k1 c3 c4 c5 c6 c7 c8 k2 c9 c10 c11 c12 c13 c14 lo0 hbxw15
    go_wp2_with fail
    go_ret
    exact ⟨by rw [E.out]; rfl, lo19⟩
  cases h1 : b.lo.ule a.lo
  · have H0 := hid h0
    have H1 := hid h1
    have E := hid (show r = false by rw [er, h0, h1]; rfl)
    clear er h0 h1
    obtain ⟨c3, c4, c5, c6, c7, c8⟩ := r_cells k1
    obtain ⟨c9, c10, c11, c12, c13, c14⟩ := r_cells k2
    refine wp_region_later1 ((N + 1 + 1)) ?_
    try simp only [pA]
    go_big_quiet_step (fail)
    refine later_val (fun qq => run_bits 25 (.tmp 5) rfl N rfl 27 (Later.has hN2 k1 qq) undT szT) (by rfl) ?_; simp only [pA]
    go_big_quiet_step (fail)
    refine later_val (fun qq => run_bits 25 (.tmp 7) rfl (N + 1) rfl 27 (Later.has hN2 k2 qq) undT szT) (by rfl) ?_; simp only [pA]
    go_big_quiet_step ((go_at_call 34; exact later_of hN2 _ (fun K hK hKN => ret_is H0.out (Within_any a.b b.b) _ K hK)))
    iterate 2 (go_big_quiet_step (fail))
    refine later_c1 hN2 23 (.tmp 11) rfl rfl und64 rfl c5 (by rfl) ?_; simp only [pA]
    go_big_quiet_step (fail)
    refine later_c1 hN2 23 (.tmp 13) rfl rfl und64 rfl c11 (by rfl) ?_; simp only [pA]
    refine later_b (x := (.tmp 12)) (y := (.tmp 14)) rfl (BinRun.is H1.out (bin_geq _ a.lo b.lo)) rfl rfl (by rfl) ?_; simp only [pA]
    iterate 23 (go_big_quiet_step (fail))
    refine wpQuiet_nil (laterE hN2 ?_)
    intro xw15 M16 hbxw15 hM16 lM16
    have k17 := k1.below hbxw15 (by omega)
    have k18 := k2.below hbxw15 (by omega)
    have lo19 := lo0.trans (hbxw15.mono (by omega))
    clear k1 c3 c4 c5 c6 c7 c8 k2 c9 c10 c11 c12 c13 c14 lo0 hbxw15
    go_wp2_with fail
    go_ret
    exact ⟨by rw [E.out]; rfl, lo19⟩
  cases h2 : a.hi.ule b.hi
  · have H0 := hid h0
    have H1 := hid h1
    have H2 := hid h2
    have E := hid (show r = false by rw [er, h0, h1, h2]; rfl)
    clear er h0 h1 h2
    obtain ⟨c3, c4, c5, c6, c7, c8⟩ := r_cells k1
    obtain ⟨c9, c10, c11, c12, c13, c14⟩ := r_cells k2
    refine wp_region_later1 ((N + 1 + 1)) ?_
    try simp only [pA]
    go_big_quiet_step (fail)
    refine later_val (fun qq => run_bits 25 (.tmp 5) rfl N rfl 27 (Later.has hN2 k1 qq) undT szT) (by rfl) ?_; simp only [pA]
    go_big_quiet_step (fail)
    refine later_val (fun qq => run_bits 25 (.tmp 7) rfl (N + 1) rfl 27 (Later.has hN2 k2 qq) undT szT) (by rfl) ?_; simp only [pA]
    go_big_quiet_step ((go_at_call 34; exact later_of hN2 _ (fun K hK hKN => ret_is H0.out (Within_any a.b b.b) _ K hK)))
    iterate 2 (go_big_quiet_step (fail))
    refine later_c1 hN2 23 (.tmp 11) rfl rfl und64 rfl c5 (by rfl) ?_; simp only [pA]
    go_big_quiet_step (fail)
    refine later_c1 hN2 23 (.tmp 13) rfl rfl und64 rfl c11 (by rfl) ?_; simp only [pA]
    refine later_b (x := (.tmp 12)) (y := (.tmp 14)) rfl (BinRun.is H1.out (bin_geq _ a.lo b.lo)) rfl rfl (by rfl) ?_; simp only [pA]
    iterate 3 (go_big_quiet_step (fail))
    refine later_c1 hN2 23 (.tmp 18) rfl rfl und64 rfl c6 (by rfl) ?_; simp only [pA]
    go_big_quiet_step (fail)
    refine later_c1 hN2 23 (.tmp 20) rfl rfl und64 rfl c12 (by rfl) ?_; simp only [pA]
    refine later_b (x := (.tmp 19)) (y := (.tmp 21)) rfl (BinRun.is H2.out (bin_leq _ a.hi b.hi)) rfl rfl (by rfl) ?_; simp only [pA]
    iterate 16 (go_big_quiet_step (fail))
    refine wpQuiet_nil (laterE hN2 ?_)
    intro xw15 M16 hbxw15 hM16 lM16
    have k17 := k1.below hbxw15 (by omega)
    have k18 := k2.below hbxw15 (by omega)
    have lo19 := lo0.trans (hbxw15.mono (by omega))
    clear k1 c3 c4 c5 c6 c7 c8 k2 c9 c10 c11 c12 c13 c14 lo0 hbxw15
    go_wp2_with fail
    go_ret
    exact ⟨by rw [E.out]; rfl, lo19⟩
  cases h3 : b.sl.sle a.sl
  · have H0 := hid h0
    have H1 := hid h1
    have H2 := hid h2
    have H3 := hid h3
    have E := hid (show r = false by rw [er, h0, h1, h2, h3]; rfl)
    clear er h0 h1 h2 h3
    obtain ⟨c3, c4, c5, c6, c7, c8⟩ := r_cells k1
    obtain ⟨c9, c10, c11, c12, c13, c14⟩ := r_cells k2
    refine wp_region_later1 ((N + 1 + 1)) ?_
    try simp only [pA]
    go_big_quiet_step (fail)
    refine later_val (fun qq => run_bits 25 (.tmp 5) rfl N rfl 27 (Later.has hN2 k1 qq) undT szT) (by rfl) ?_; simp only [pA]
    go_big_quiet_step (fail)
    refine later_val (fun qq => run_bits 25 (.tmp 7) rfl (N + 1) rfl 27 (Later.has hN2 k2 qq) undT szT) (by rfl) ?_; simp only [pA]
    go_big_quiet_step ((go_at_call 34; exact later_of hN2 _ (fun K hK hKN => ret_is H0.out (Within_any a.b b.b) _ K hK)))
    iterate 2 (go_big_quiet_step (fail))
    refine later_c1 hN2 23 (.tmp 11) rfl rfl und64 rfl c5 (by rfl) ?_; simp only [pA]
    go_big_quiet_step (fail)
    refine later_c1 hN2 23 (.tmp 13) rfl rfl und64 rfl c11 (by rfl) ?_; simp only [pA]
    refine later_b (x := (.tmp 12)) (y := (.tmp 14)) rfl (BinRun.is H1.out (bin_geq _ a.lo b.lo)) rfl rfl (by rfl) ?_; simp only [pA]
    iterate 3 (go_big_quiet_step (fail))
    refine later_c1 hN2 23 (.tmp 18) rfl rfl und64 rfl c6 (by rfl) ?_; simp only [pA]
    go_big_quiet_step (fail)
    refine later_c1 hN2 23 (.tmp 20) rfl rfl und64 rfl c12 (by rfl) ?_; simp only [pA]
    refine later_b (x := (.tmp 19)) (y := (.tmp 21)) rfl (BinRun.is H2.out (bin_leq _ a.hi b.hi)) rfl rfl (by rfl) ?_; simp only [pA]
    iterate 3 (go_big_quiet_step (fail))
    refine later_c1 hN2 2 (.tmp 25) rfl rfl undI64 rfl c7 (by rfl) ?_; simp only [pA]
    go_big_quiet_step (fail)
    refine later_c1 hN2 2 (.tmp 27) rfl rfl undI64 rfl c13 (by rfl) ?_; simp only [pA]
    refine later_b (x := (.tmp 26)) (y := (.tmp 28)) rfl (BinRun.is H3.out (bin_sgeq _ a.sl b.sl)) rfl rfl (by rfl) ?_; simp only [pA]
    iterate 9 (go_big_quiet_step (fail))
    refine wpQuiet_nil (laterE hN2 ?_)
    intro xw15 M16 hbxw15 hM16 lM16
    have k17 := k1.below hbxw15 (by omega)
    have k18 := k2.below hbxw15 (by omega)
    have lo19 := lo0.trans (hbxw15.mono (by omega))
    clear k1 c3 c4 c5 c6 c7 c8 k2 c9 c10 c11 c12 c13 c14 lo0 hbxw15
    go_wp2_with fail
    go_ret
    exact ⟨by rw [E.out]; rfl, lo19⟩
  cases h4 : a.sh.sle b.sh
  · have H0 := hid h0
    have H1 := hid h1
    have H2 := hid h2
    have H3 := hid h3
    have H4 := hid h4
    have E := hid (show r = false by rw [er, h0, h1, h2, h3, h4]; rfl)
    clear er h0 h1 h2 h3 h4
    obtain ⟨c3, c4, c5, c6, c7, c8⟩ := r_cells k1
    obtain ⟨c9, c10, c11, c12, c13, c14⟩ := r_cells k2
    refine wp_region_later1 ((N + 1 + 1)) ?_
    try simp only [pA]
    go_big_quiet_step (fail)
    refine later_val (fun qq => run_bits 25 (.tmp 5) rfl N rfl 27 (Later.has hN2 k1 qq) undT szT) (by rfl) ?_; simp only [pA]
    go_big_quiet_step (fail)
    refine later_val (fun qq => run_bits 25 (.tmp 7) rfl (N + 1) rfl 27 (Later.has hN2 k2 qq) undT szT) (by rfl) ?_; simp only [pA]
    go_big_quiet_step ((go_at_call 34; exact later_of hN2 _ (fun K hK hKN => ret_is H0.out (Within_any a.b b.b) _ K hK)))
    iterate 2 (go_big_quiet_step (fail))
    refine later_c1 hN2 23 (.tmp 11) rfl rfl und64 rfl c5 (by rfl) ?_; simp only [pA]
    go_big_quiet_step (fail)
    refine later_c1 hN2 23 (.tmp 13) rfl rfl und64 rfl c11 (by rfl) ?_; simp only [pA]
    refine later_b (x := (.tmp 12)) (y := (.tmp 14)) rfl (BinRun.is H1.out (bin_geq _ a.lo b.lo)) rfl rfl (by rfl) ?_; simp only [pA]
    iterate 3 (go_big_quiet_step (fail))
    refine later_c1 hN2 23 (.tmp 18) rfl rfl und64 rfl c6 (by rfl) ?_; simp only [pA]
    go_big_quiet_step (fail)
    refine later_c1 hN2 23 (.tmp 20) rfl rfl und64 rfl c12 (by rfl) ?_; simp only [pA]
    refine later_b (x := (.tmp 19)) (y := (.tmp 21)) rfl (BinRun.is H2.out (bin_leq _ a.hi b.hi)) rfl rfl (by rfl) ?_; simp only [pA]
    iterate 3 (go_big_quiet_step (fail))
    refine later_c1 hN2 2 (.tmp 25) rfl rfl undI64 rfl c7 (by rfl) ?_; simp only [pA]
    go_big_quiet_step (fail)
    refine later_c1 hN2 2 (.tmp 27) rfl rfl undI64 rfl c13 (by rfl) ?_; simp only [pA]
    refine later_b (x := (.tmp 26)) (y := (.tmp 28)) rfl (BinRun.is H3.out (bin_sgeq _ a.sl b.sl)) rfl rfl (by rfl) ?_; simp only [pA]
    iterate 3 (go_big_quiet_step (fail))
    refine later_c1 hN2 2 (.tmp 32) rfl rfl undI64 rfl c8 (by rfl) ?_; simp only [pA]
    go_big_quiet_step (fail)
    refine later_c1 hN2 2 (.tmp 34) rfl rfl undI64 rfl c14 (by rfl) ?_; simp only [pA]
    refine later_b (x := (.tmp 33)) (y := (.tmp 35)) rfl (BinRun.is H4.out (bin_sleq _ a.sh b.sh)) rfl rfl (by rfl) ?_; simp only [pA]
    iterate 2 (go_big_quiet_step (fail))
    refine wpQuiet_nil (laterE hN2 ?_)
    intro xw15 M16 hbxw15 hM16 lM16
    have k17 := k1.below hbxw15 (by omega)
    have k18 := k2.below hbxw15 (by omega)
    have lo19 := lo0.trans (hbxw15.mono (by omega))
    clear k1 c3 c4 c5 c6 c7 c8 k2 c9 c10 c11 c12 c13 c14 lo0 hbxw15
    go_wp2_with fail
    go_ret
    exact ⟨by rw [E.out]; rfl, lo19⟩
  have H0 := hid h0
  have H1 := hid h1
  have H2 := hid h2
  have H3 := hid h3
  have H4 := hid h4
  have E := hid (show r = true by rw [er, h0, h1, h2, h3, h4]; rfl)
  clear er h0 h1 h2 h3 h4
  obtain ⟨c3, c4, c5, c6, c7, c8⟩ := r_cells k1
  obtain ⟨c9, c10, c11, c12, c13, c14⟩ := r_cells k2
  refine wp_region_later1 ((N + 1 + 1)) ?_
  try simp only [pA]
  go_big_quiet_step (fail)
  refine later_val (fun qq => run_bits 25 (.tmp 5) rfl N rfl 27 (Later.has hN2 k1 qq) undT szT) (by rfl) ?_; simp only [pA]
  go_big_quiet_step (fail)
  refine later_val (fun qq => run_bits 25 (.tmp 7) rfl (N + 1) rfl 27 (Later.has hN2 k2 qq) undT szT) (by rfl) ?_; simp only [pA]
  go_big_quiet_step ((go_at_call 34; exact later_of hN2 _ (fun K hK hKN => ret_is H0.out (Within_any a.b b.b) _ K hK)))
  iterate 2 (go_big_quiet_step (fail))
  refine later_c1 hN2 23 (.tmp 11) rfl rfl und64 rfl c5 (by rfl) ?_; simp only [pA]
  go_big_quiet_step (fail)
  refine later_c1 hN2 23 (.tmp 13) rfl rfl und64 rfl c11 (by rfl) ?_; simp only [pA]
  refine later_b (x := (.tmp 12)) (y := (.tmp 14)) rfl (BinRun.is H1.out (bin_geq _ a.lo b.lo)) rfl rfl (by rfl) ?_; simp only [pA]
  iterate 3 (go_big_quiet_step (fail))
  refine later_c1 hN2 23 (.tmp 18) rfl rfl und64 rfl c6 (by rfl) ?_; simp only [pA]
  go_big_quiet_step (fail)
  refine later_c1 hN2 23 (.tmp 20) rfl rfl und64 rfl c12 (by rfl) ?_; simp only [pA]
  refine later_b (x := (.tmp 19)) (y := (.tmp 21)) rfl (BinRun.is H2.out (bin_leq _ a.hi b.hi)) rfl rfl (by rfl) ?_; simp only [pA]
  iterate 3 (go_big_quiet_step (fail))
  refine later_c1 hN2 2 (.tmp 25) rfl rfl undI64 rfl c7 (by rfl) ?_; simp only [pA]
  go_big_quiet_step (fail)
  refine later_c1 hN2 2 (.tmp 27) rfl rfl undI64 rfl c13 (by rfl) ?_; simp only [pA]
  refine later_b (x := (.tmp 26)) (y := (.tmp 28)) rfl (BinRun.is H3.out (bin_sgeq _ a.sl b.sl)) rfl rfl (by rfl) ?_; simp only [pA]
  iterate 3 (go_big_quiet_step (fail))
  refine later_c1 hN2 2 (.tmp 32) rfl rfl undI64 rfl c8 (by rfl) ?_; simp only [pA]
  go_big_quiet_step (fail)
  refine later_c1 hN2 2 (.tmp 34) rfl rfl undI64 rfl c14 (by rfl) ?_; simp only [pA]
  refine later_b (x := (.tmp 33)) (y := (.tmp 35)) rfl (BinRun.is H4.out (bin_sleq _ a.sh b.sh)) rfl rfl (by rfl) ?_; simp only [pA]
  iterate 2 (go_big_quiet_step (fail))
  refine wpQuiet_nil (laterE hN2 ?_)
  intro xw15 M16 hbxw15 hM16 lM16
  have k17 := k1.below hbxw15 (by omega)
  have k18 := k2.below hbxw15 (by omega)
  have lo19 := lo0.trans (hbxw15.mono (by omega))
  clear k1 c3 c4 c5 c6 c7 c8 k2 c9 c10 c11 c12 c13 c14 lo0 hbxw15
  go_wp2_with fail
  go_ret
  exact ⟨by rw [E.out]; rfl, lo19⟩
end Go.Proofs.YtbbfdehipgkjmaaDoor
