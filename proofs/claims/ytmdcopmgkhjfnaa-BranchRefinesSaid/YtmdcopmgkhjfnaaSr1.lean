/- The document: the range around some numbers. -/
import Derived.Test.YtmdcopmgkhjfnaaSr0
import Derived.Test.YtmdcopmgkhjfnaaSl0
import Derived.Test.YtmdcopmgkhjfnaaBr0
namespace Go.Proofs.Ytmdcopmgkhjfnaa
open Go Go.RowKit
theorem run_nu {P : Program} {a : Act} {o : Oper} {src dst : TypeId} {x : Operand} (ho : o.op = .convert src dst x) {k : IntKind} {n : Nat} (hs : P.underlying src = some (.int k)) (hd : P.underlying dst = some (.int .u64)) (hx : a.eval x = .int .i64 (n : Int)) (w : World) : (execOp a.eval o).run P w = .ok (.value (Q (BitVec.ofNat 64 n))) w := by
 rw [← BitVec.ofInt_natCast]; exact run_iu ho hs hd hx w
/-- The range around the first ones of a row. -/
def arF (E : Nat → W) : Nat → Rn
 | 0 => ⟨⟨E 0, 0#64⟩, E 0, E 0, E 0, E 0⟩
 | k + 1 => ⟨rJoin (arF E k).b ⟨E k, 0#64⟩, uMin (arF E k).lo (E k), uMax (arF E k).hi (E k), sMin (arF E k).sl (E k), sMax (arF E k).sh (E k)⟩
def arA (E : Nat → W) (n : Nat) (u : W) : Rn := ⟨⟨(arF E n).b.v &&& ~~~u, (arF E n).b.m ||| u⟩, (arF E n).lo, (arF E n).hi, (arF E n).sl, (arF E n).sh⟩
set_option maxRecDepth 100000 in
set_option maxHeartbeats 8000000 in
theorem Around_any (E : Nat → W) (n : Nat) (h0 : 0 < n) (hn : n ≤ 1000) (g off cap : Nat) (u : W) (w : World) (N : Nat) (hN : Sz w N) (hl : Ats w (some ⟨g, off, none⟩) n (fun j => Q (E j))) : Calls Try.prog 39 #[.slice (some ⟨g, off, none⟩) n cap, Q u] w fun e w' => e = .returned (rV (arA E n u)) ∧ Below N w w' := by
 unfold rV
 go_enter Try.func39, Try.ntmps39
 go_upto_region 1 with (first
  | (refine wpl_alloc rfl 34 rfl 6 (rC zeroR) zeRU (N) hN ?_; intro w1 hN1 hb1 hh1)
  | fail)
 have lo0 : Below N w w1 := hb1
 have k1 := hh1
 clear hh1 hb1
 have hl1 := hl.below hN lo0
 go_upto_region 1 with fail
 refine wp_region_any (by kernel_rfl) ?_
 replace k1 : Has w1.drew N 34 6 (rC zeroR) := k1
 replace hN1 : Sz w1.drew (N + 1) := hN1
 replace hl1 := Ats.drew hl1
 replace lo0 : Below N w w1.drew := lo0.drew
 change wpAny _ _ _ _ _ _ _ (World.drew _)
 generalize w1.drew = xw2 at *
 refine wpAny_pot (rem := [0, 1, 2, 3, 4, 5, 6, 7, 8, 9, 10, 11, 12, 13, 14, 15, 16, 17, 18, 19]) (FG (N + 1) (fun j => if j = 0 then some (.slice (some ⟨g, off, none⟩) n cap) else if j = 1 then some (Value.pointer (some ⟨g, (off + 0), none⟩)) else if j = 2 then some (Q (E 0)) else if j = 3 then some (Value.agg (cellsOf (nC ⟨(E 0), 0#64⟩) 2)) else if j = 4 then some (.slice (some ⟨g, off, none⟩) n cap) else if j = 5 then some (Value.pointer (some ⟨g, (off + 0), none⟩)) else if j = 6 then some (Q (E 0)) else if j = 7 then some (.slice (some ⟨g, off, none⟩) n cap) else if j = 8 then some (Value.pointer (some ⟨g, (off + 0), none⟩)) else if j = 9 then some (Q (E 0)) else if j = 10 then some (.slice (some ⟨g, off, none⟩) n cap) else if j = 11 then some (Value.pointer (some ⟨g, (off + 0), none⟩)) else if j = 12 then some (Q (E 0)) else if j = 13 then some (S (E 0)) else if j = 14 then some (.slice (some ⟨g, off, none⟩) n cap) else if j = 15 then some (Value.pointer (some ⟨g, (off + 0), none⟩)) else if j = 16 then some (Q (E 0)) else if j = 17 then some (S (E 0)) else if j = 18 then some (Value.agg (cellsOf (rC ⟨⟨(E 0), 0#64⟩, (E 0), (E 0), (E 0), (E 0)⟩) 6)) else none) (fun j => (34, 6, rC zeroR))) (TwoN (fun j => if j = 0 then some (.slice (some ⟨g, off, none⟩) n cap) else if j = 1 then some (Value.pointer (some ⟨g, (off + 0), none⟩)) else if j = 2 then some (Q (E 0)) else if j = 3 then some (Value.agg (cellsOf (nC ⟨(E 0), 0#64⟩) 2)) else if j = 4 then some (.slice (some ⟨g, off, none⟩) n cap) else if j = 5 then some (Value.pointer (some ⟨g, (off + 0), none⟩)) else if j = 6 then some (Q (E 0)) else if j = 7 then some (.slice (some ⟨g, off, none⟩) n cap) else if j = 8 then some (Value.pointer (some ⟨g, (off + 0), none⟩)) else if j = 9 then some (Q (E 0)) else if j = 10 then some (.slice (some ⟨g, off, none⟩) n cap) else if j = 11 then some (Value.pointer (some ⟨g, (off + 0), none⟩)) else if j = 12 then some (Q (E 0)) else if j = 13 then some (S (E 0)) else if j = 14 then some (.slice (some ⟨g, off, none⟩) n cap) else if j = 15 then some (Value.pointer (some ⟨g, (off + 0), none⟩)) else if j = 16 then some (Q (E 0)) else if j = 17 then some (S (E 0)) else if j = 18 then some (Value.agg (cellsOf (rC ⟨⟨(E 0), 0#64⟩, (E 0), (E 0), (E 0), (E 0)⟩) 6)) else none)) (Below (N + 1) xw2) _ _ _ _ (by kernel_rfl) (size_dstG (by kernel_rfl)) (Below.refl _ _) ?_ ?_
 ·intro i hi ac wa hI ha hv
  simp only [List.mem_cons, List.not_mem_nil, or_false] at hi
  rcases hi with rfl | rfl | rfl | rfl | rfl | rfl | rfl | rfl | rfl | rfl | rfl | rfl | rfl | rfl | rfl | rfl | rfl | rfl | rfl | rfl
  ·exact potg_run rfl rfl (.slice (some ⟨g, off, none⟩) n cap) rfl (run_mv (x := (.tmp 0)) rfl _ (ha 0 (not_dstG (by kernel_rfl)))) hN1 hI
  ·obtain ⟨v0, hv0a, hv0b⟩ := hv 0 (by simp) (by kernel_rfl)
   have ev0 := hv0b.val rfl
   subst ev0
   exact potg_run rfl rfl (Value.pointer (some ⟨g, (off + 0), none⟩)) rfl (run_ixL 27 22 undSQ szQ1 (.tmp 8) (.const (.int .i64 0)) rfl (hv0a 8 rfl) rfl (k := 0) (by omega) wa) hN1 hI
  ·obtain ⟨v1, hv1a, hv1b⟩ := hv 1 (by simp) (by kernel_rfl)
   have ev1 := hv1b.val rfl
   subst ev1
   exact potg_run rfl rfl (Q (E 0)) rfl (run_c1 22 (.tmp 9) rfl ⟨g, (off + 0), none⟩ (hv1a 9 rfl) und64 rfl (keep_c hI hN1 (at_L hl1 (by omega)))) hN1 hI
  ·obtain ⟨v2, hv2a, hv2b⟩ := hv 2 (by simp) (by kernel_rfl)
   have ev2 := hv2b.val rfl
   subst ev2
   exact potg_run rfl rfl (Value.agg (cellsOf (nC ⟨(E 0), 0#64⟩) 2)) rfl (run_bd 32 _ rfl _ (by simp only [List.map_toArray, List.map_cons, List.map_nil, (show ac.eval (.tmp 10) = (Q (E 0)) from (hv2a 10 rfl))]; kernel_rfl) wa) hN1 hI
  ·exact potg_run rfl rfl (.slice (some ⟨g, off, none⟩) n cap) rfl (run_mv (x := (.tmp 0)) rfl _ (ha 0 (not_dstG (by kernel_rfl)))) hN1 hI
  ·obtain ⟨v4, hv4a, hv4b⟩ := hv 4 (by simp) (by kernel_rfl)
   have ev4 := hv4b.val rfl
   subst ev4
   exact potg_run rfl rfl (Value.pointer (some ⟨g, (off + 0), none⟩)) rfl (run_ixL 27 22 undSQ szQ1 (.tmp 12) (.const (.int .i64 0)) rfl (hv4a 12 rfl) rfl (k := 0) (by omega) wa) hN1 hI
  ·obtain ⟨v5, hv5a, hv5b⟩ := hv 5 (by simp) (by kernel_rfl)
   have ev5 := hv5b.val rfl
   subst ev5
   exact potg_run rfl rfl (Q (E 0)) rfl (run_c1 22 (.tmp 13) rfl ⟨g, (off + 0), none⟩ (hv5a 13 rfl) und64 rfl (keep_c hI hN1 (at_L hl1 (by omega)))) hN1 hI
  ·exact potg_run rfl rfl (.slice (some ⟨g, off, none⟩) n cap) rfl (run_mv (x := (.tmp 0)) rfl _ (ha 0 (not_dstG (by kernel_rfl)))) hN1 hI
  ·obtain ⟨v7, hv7a, hv7b⟩ := hv 7 (by simp) (by kernel_rfl)
   have ev7 := hv7b.val rfl
   subst ev7
   exact potg_run rfl rfl (Value.pointer (some ⟨g, (off + 0), none⟩)) rfl (run_ixL 27 22 undSQ szQ1 (.tmp 15) (.const (.int .i64 0)) rfl (hv7a 15 rfl) rfl (k := 0) (by omega) wa) hN1 hI
  ·obtain ⟨v8, hv8a, hv8b⟩ := hv 8 (by simp) (by kernel_rfl)
   have ev8 := hv8b.val rfl
   subst ev8
   exact potg_run rfl rfl (Q (E 0)) rfl (run_c1 22 (.tmp 16) rfl ⟨g, (off + 0), none⟩ (hv8a 16 rfl) und64 rfl (keep_c hI hN1 (at_L hl1 (by omega)))) hN1 hI
  ·exact potg_run rfl rfl (.slice (some ⟨g, off, none⟩) n cap) rfl (run_mv (x := (.tmp 0)) rfl _ (ha 0 (not_dstG (by kernel_rfl)))) hN1 hI
  ·obtain ⟨v10, hv10a, hv10b⟩ := hv 10 (by simp) (by kernel_rfl)
   have ev10 := hv10b.val rfl
   subst ev10
   exact potg_run rfl rfl (Value.pointer (some ⟨g, (off + 0), none⟩)) rfl (run_ixL 27 22 undSQ szQ1 (.tmp 18) (.const (.int .i64 0)) rfl (hv10a 18 rfl) rfl (k := 0) (by omega) wa) hN1 hI
  ·obtain ⟨v11, hv11a, hv11b⟩ := hv 11 (by simp) (by kernel_rfl)
   have ev11 := hv11b.val rfl
   subst ev11
   exact potg_run rfl rfl (Q (E 0)) rfl (run_c1 22 (.tmp 19) rfl ⟨g, (off + 0), none⟩ (hv11a 19 rfl) und64 rfl (keep_c hI hN1 (at_L hl1 (by omega)))) hN1 hI
  ·obtain ⟨v12, hv12a, hv12b⟩ := hv 12 (by simp) (by kernel_rfl)
   have ev12 := hv12b.val rfl
   subst ev12
   exact potg_run rfl rfl (S (E 0)) rfl (run_us (x := (.tmp 20)) rfl und64 undI64 (hv12a 20 rfl) wa) hN1 hI
  ·exact potg_run rfl rfl (.slice (some ⟨g, off, none⟩) n cap) rfl (run_mv (x := (.tmp 0)) rfl _ (ha 0 (not_dstG (by kernel_rfl)))) hN1 hI
  ·obtain ⟨v14, hv14a, hv14b⟩ := hv 14 (by simp) (by kernel_rfl)
   have ev14 := hv14b.val rfl
   subst ev14
   exact potg_run rfl rfl (Value.pointer (some ⟨g, (off + 0), none⟩)) rfl (run_ixL 27 22 undSQ szQ1 (.tmp 22) (.const (.int .i64 0)) rfl (hv14a 22 rfl) rfl (k := 0) (by omega) wa) hN1 hI
  ·obtain ⟨v15, hv15a, hv15b⟩ := hv 15 (by simp) (by kernel_rfl)
   have ev15 := hv15b.val rfl
   subst ev15
   exact potg_run rfl rfl (Q (E 0)) rfl (run_c1 22 (.tmp 23) rfl ⟨g, (off + 0), none⟩ (hv15a 23 rfl) und64 rfl (keep_c hI hN1 (at_L hl1 (by omega)))) hN1 hI
  ·obtain ⟨v16, hv16a, hv16b⟩ := hv 16 (by simp) (by kernel_rfl)
   have ev16 := hv16b.val rfl
   subst ev16
   exact potg_run rfl rfl (S (E 0)) rfl (run_us (x := (.tmp 24)) rfl und64 undI64 (hv16a 24 rfl) wa) hN1 hI
  ·obtain ⟨v3, hv3a, hv3b⟩ := hv 3 (by simp) (by kernel_rfl)
   have ev3 := hv3b.val rfl
   subst ev3
   obtain ⟨v6, hv6a, hv6b⟩ := hv 6 (by simp) (by kernel_rfl)
   have ev6 := hv6b.val rfl
   subst ev6
   obtain ⟨v9, hv9a, hv9b⟩ := hv 9 (by simp) (by kernel_rfl)
   have ev9 := hv9b.val rfl
   subst ev9
   obtain ⟨v13, hv13a, hv13b⟩ := hv 13 (by simp) (by kernel_rfl)
   have ev13 := hv13b.val rfl
   subst ev13
   obtain ⟨v17, hv17a, hv17b⟩ := hv 17 (by simp) (by kernel_rfl)
   have ev17 := hv17b.val rfl
   subst ev17
   exact potg_run rfl rfl (Value.agg (cellsOf (rC ⟨⟨(E 0), 0#64⟩, (E 0), (E 0), (E 0), (E 0)⟩) 6)) rfl (run_bd 34 _ rfl _ (by simp only [List.map_toArray, List.map_cons, List.map_nil, (show ac.eval (.tmp 11) = (Value.agg (cellsOf (nC ⟨(E 0), 0#64⟩) 2)) from (hv3a 11 rfl)), (show ac.eval (.tmp 14) = (Q (E 0)) from (hv6a 14 rfl)), (show ac.eval (.tmp 17) = (Q (E 0)) from (hv9a 17 rfl)), (show ac.eval (.tmp 21) = (S (E 0)) from (hv13a 21 rfl)), (show ac.eval (.tmp 25) = (S (E 0)) from (hv17a 25 rfl))]; kernel_rfl) wa) hN1 hI
  ·exact potg_al rfl rfl rfl zeRU rfl rfl hN1 hI
 ·intro vals w5_3_ hb5_3_ hF hG
  have e_3_0 := (hF 0 (by simp)).val rfl
  have e_3_1 := (hF 1 (by simp)).val rfl
  have e_3_2 := (hF 2 (by simp)).val rfl
  have e_3_3 := (hF 3 (by simp)).val rfl
  have e_3_4 := (hF 4 (by simp)).val rfl
  have e_3_5 := (hF 5 (by simp)).val rfl
  have e_3_6 := (hF 6 (by simp)).val rfl
  have e_3_7 := (hF 7 (by simp)).val rfl
  have e_3_8 := (hF 8 (by simp)).val rfl
  have e_3_9 := (hF 9 (by simp)).val rfl
  have e_3_10 := (hF 10 (by simp)).val rfl
  have e_3_11 := (hF 11 (by simp)).val rfl
  have e_3_12 := (hF 12 (by simp)).val rfl
  have e_3_13 := (hF 13 (by simp)).val rfl
  have e_3_14 := (hF 14 (by simp)).val rfl
  have e_3_15 := (hF 15 (by simp)).val rfl
  have e_3_16 := (hF 16 (by simp)).val rfl
  have e_3_17 := (hF 17 (by simp)).val rfl
  have e_3_18 := (hF 18 (by simp)).val rfl
  obtain ⟨b_3_19, l_3_19, e_3_19, h_3_19⟩ := (hF 19 (by simp)).al rfl rfl
  clear hF hG
  simp only [List.foldl_cons, List.foldl_nil, dstOf, List.getElem?_toArray, List.getElem?_cons_succ, List.getElem?_cons_zero, Option.bind_some, Act.put, List.setIfInBounds_toArray, List.set_cons_succ, List.set_cons_zero, e_3_0, e_3_1, e_3_2, e_3_3, e_3_4, e_3_5, e_3_6, e_3_7, e_3_8, e_3_9, e_3_10, e_3_11, e_3_12, e_3_13, e_3_14, e_3_15, e_3_16, e_3_17, e_3_18, e_3_19]
  clear e_3_0 e_3_1 e_3_2 e_3_3 e_3_4 e_3_5 e_3_6 e_3_7 e_3_8 e_3_9 e_3_10 e_3_11 e_3_12 e_3_13 e_3_14 e_3_15 e_3_16 e_3_17 e_3_18 e_3_19
  refine wpAny_chain [20] _ _ _ _ (by kernel_rfl) (by decide) ?_
  simp only [List.filterMap_cons, List.filterMap_nil, List.getElem?_toArray, List.getElem?_cons_succ, List.getElem?_cons_zero]
  have k4 := k1.below hb5_3_ (by omega)
  have lo5 := lo0.trans (hb5_3_.mono (by omega))
  clear k1 lo0 hb5_3_
  refine wpl_store rfl 34 (.tmp 5) (.tmp 26) rfl b_3_19 6 (rC ⟨⟨(E 0), 0#64⟩, (E 0), (E 0), (E 0), (E 0)⟩) rfl rfl 34 _ h_3_19 szRU (fun j _ => rC_one _ j) ?_
  intro xw6 t7 k8
  have k9 := k4.touch t7 (by omega)
  have lo10 := t7.below lo5 (by omega)
  clear h_3_19 k4 lo5 t7
  obtain ⟨M11, hM11⟩ := sz_some xw6
  have lt_12 := k9.ltN hM11
  have lt_13 := k8.ltN hM11
  clear hl1
  go_wp2_with fail
  obtain ⟨M14, hM14⟩ := sz_some xw6
  have lt_15 := k9.ltN hM14
  have lt_16 := k8.ltN hM14
  go_loopg [6, 7] n (fun m x6 x7 wr => ∃ k : Nat, k ≤ n ∧ m = n - k ∧ x6 = .int .i64 (k : Int) ∧ Has wr N 34 6 (rC zeroR) ∧ Has wr b_3_19 34 6 (rC (arF E k)) ∧ Below N w wr)
  case atStart => exact ⟨0, by omega, rfl, rfl, k9, k8, lo10⟩
  case round =>
   clear k9 k8 lo10 hM14
   obtain ⟨k, hk, rfl, rfl, kN, k5, lo⟩ := hrel
   obtain ⟨M, hM⟩ := sz_some wr
   have lt1 := kN.ltN hM
   have lt2 := k5.ltN hM
   have k0 : (0 : Int) ≤ (k : Int) := by omega
   have hl1 := hl.below hN lo
   by_cases hlt : k < n
   ·have t1 : (k : Int) < (n : Int) := by omega
    go_upto_region 3 with fail
    refine wp_region_later1 (M) ?_
    try simp only [pA]
    iterate 2 (go_big_quiet_step (fail))
    refine later_val (fun q => run_lenS undSQ (x := (.tmp 28)) rfl rfl q.w') (by rfl) ?_; simp only [pA]
    go_big_quiet_step (fail)
    refine wpQuiet_nil (laterE hM ?_)
    intro xw17 M18 hbxw17 hM18 lM18
    have k19 := kN.below hbxw17 (by omega)
    have k20 := k5.below hbxw17 (by omega)
    have lo21 := lo.trans (hbxw17.mono (by omega))
    clear kN k5 lo hbxw17
    clear hl1
    have hl1 := hl.below hN lo21
    go_upto_region 5 with fail
    refine wp_region_later1 (M18) ?_
    try simp only [pA]
    iterate 2 (go_big_quiet_step (fail))
    refine later_val (fun q => run_ixL 27 22 undSQ szQ1 (.tmp 33) (.tmp 34) rfl rfl rfl (k := k) (by omega) q.w') (by rfl) ?_; simp only [pA]
    refine later_c1 hM18 22 (.tmp 35) rfl rfl und64 rfl (at_L hl1 (by omega)) (by rfl) ?_; simp only [pA]
    go_big_quiet_step (fail)
    refine wpQuiet_nil (laterE hM18 ?_)
    intro xw22 M23 hbxw22 hM23 lM23
    have k24 := k19.below hbxw22 (by omega)
    have k25 := k20.below hbxw22 (by omega)
    have lo26 := lo21.trans (hbxw22.mono (by omega))
    clear k19 k20 lo21 hbxw22
    clear hl1
    go_upto_region 6 with fail
    refine wp_region_lit ?_
    try simp only [pA]
    change wpList _ _ _ ((_ :: _ :: _ :: _ :: _ :: _ :: []) ++ (_ :: [])) _ _
    obtain ⟨c27, c28, c29, c30, c31, c32⟩ := r_cells k25
    refine wpList_prefix (C := fun w' => ∃ x : Later M23 xw22, w' = x.w') _ _ _ _ ⟨⟨_, Below.refl _ _⟩, rfl⟩ ?_
    go_big_quiet_step (fail)
    refine later_val (fun qq => run_bits 32 (.tmp 37) rfl b_3_19 rfl 34 (Later.has hM23 k25 qq) undU szU) (by rfl) ?_; simp only [pA]
    go_big_quiet_step (fail)
    refine later_val (fun q => run_bd 32 _ rfl (cellsOf (nC ⟨(E k), 0#64⟩) 2) (by kernel_rfl) q.w') (by rfl) ?_; simp only [pA]
    go_big_quiet_step ((go_at_call 68; exact later_of hM23 _ (fun K hK hKN => RJoin_any (arF E k).b ⟨(E k), 0#64⟩ _ K hK)))
    go_big_quiet_step (fail)
    refine wpQuiet_nil (laterE hM23 ?_)
    intro xw33 M34 hbxw33 hM34 lM34
    have k35 := k24.below hbxw33 (by omega)
    have k36 := k25.below hbxw33 (by omega)
    have lo37 := lo26.trans (hbxw33.mono (by omega))
    clear k24 k25 c27 c28 c29 c30 c31 c32 lo26 hbxw33
    refine wpl_partN (by rfl) (by kernel_rfl) 32 (.tmp 42) (.tmp 41) rfl b_3_19 rfl (rJoin (arF E k).b ⟨(E k), 0#64⟩) rfl 34 _ k36 szU ?_
    intro xw38 t39 k40; try simp only [pA]
    have k41 := k35.touch t39 (by omega)
    have lo42 := t39.below lo37 (by omega)
    have h43 := t39.sz hM34
    clear k36 k35 lo37 hM34 t39
    obtain ⟨M44, hM44⟩ := sz_some xw38
    have lt_45 := k41.ltN hM44
    have lt_46 := k40.ltN hM44
    go_upto_region 7 with fail
    refine wp_region_lit ?_
    try simp only [pA]
    change wpList _ _ _ ((_ :: _ :: _ :: _ :: _ :: _ :: _ :: _ :: _ :: []) ++ (_ :: _ :: _ :: [])) _ _
    obtain ⟨c47, c48, c49, c50, c51, c52⟩ := r_cells5 k40
    refine wpList_prefix (C := fun w' => ∃ x : Later M44 xw38, w' = x.w') _ _ _ _ ⟨⟨_, Below.refl _ _⟩, rfl⟩ ?_
    go_big_quiet_step (fail)
    refine later_c1 hM44 22 (.tmp 43) rfl rfl und64 rfl c49 (by rfl) ?_; simp only [pA]
    go_big_quiet_step (fail)
    refine later_val (fun qq => run_minQ (x := (.tmp 44)) (y := (.tmp 45)) (p := (arF E k).lo) (q := (E k)) rfl rfl rfl qq.w') (by rfl) ?_; simp only [pA]
    go_big_quiet_step (fail)
    refine later_c1 hM44 22 (.tmp 47) rfl rfl und64 rfl c50 (by rfl) ?_; simp only [pA]
    go_big_quiet_step (fail)
    refine later_val (fun qq => run_maxQ (x := (.tmp 48)) (y := (.tmp 49)) (p := (arF E k).hi) (q := (E k)) rfl rfl rfl qq.w') (by rfl) ?_; simp only [pA]
    go_big_quiet_step (fail)
    refine wpQuiet_nil (laterE hM44 ?_)
    intro xw53 M54 hbxw53 hM54 lM54
    have k55 := k41.below hbxw53 (by omega)
    have k56 := k40.below hbxw53 (by omega)
    have lo57 := lo42.trans (hbxw53.mono (by omega))
    clear k41 k40 c47 c48 c49 c50 c51 c52 lo42 hbxw53
    refine wpl_set rfl 22 (.tmp 51) (.tmp 46) rfl b_3_19 2 rfl _ rfl sz64 rfl rfl 34 6 _ k56 (by omega) ?_
    intro xw58 t59 k60_; try simp only [pA]
    have k60 : Has xw58 b_3_19 34 6 (rC ⟨(rJoin (arF E k).b ⟨(E k), 0#64⟩), (uMin (arF E k).lo (E k)), (arF E k).hi, (arF E k).sl, (arF E k).sh⟩) := k60_.congr (fun j hj => set_lo _ _ j)
    have k61 := k55.touch t59 (by omega)
    have lo62 := t59.below lo57 (by omega)
    have h63 := t59.sz hM54
    clear k56 k60_ k55 lo57 hM54 t59
    refine wpl_run rfl (Value.pointer (some ⟨b_3_19, 3, none⟩)) _ (run_fa 34 (.tmp 5) 2 3 rfl rfl faRU2) ?_; simp only [pA]
    refine wpl_set rfl 22 (.tmp 52) (.tmp 50) rfl b_3_19 3 rfl _ rfl sz64 rfl rfl 34 6 _ k60 (by omega) ?_
    intro xw64 t65 k66_; try simp only [pA]
    have k66 : Has xw64 b_3_19 34 6 (rC ⟨(rJoin (arF E k).b ⟨(E k), 0#64⟩), (uMin (arF E k).lo (E k)), (uMax (arF E k).hi (E k)), (arF E k).sl, (arF E k).sh⟩) := k66_.congr (fun j hj => set_hi _ _ j)
    have k67 := k61.touch t65 (by omega)
    have lo68 := t65.below lo62 (by omega)
    have h69 := t65.sz h63
    clear k60 k66_ k61 lo62 h63 t65
    obtain ⟨M70, hM70⟩ := sz_some xw64
    have lt_71 := k67.ltN hM70
    have lt_72 := k66.ltN hM70
    go_upto_region 8 with fail
    refine wp_region_lit ?_
    try simp only [pA]
    change wpList _ _ _ ((_ :: _ :: _ :: _ :: _ :: _ :: _ :: _ :: _ :: _ :: _ :: []) ++ (_ :: _ :: _ :: [])) _ _
    obtain ⟨c73, c74, c75, c76, c77, c78⟩ := r_cells5 k66
    refine wpList_prefix (C := fun w' => ∃ x : Later M70 xw64, w' = x.w') _ _ _ _ ⟨⟨_, Below.refl _ _⟩, rfl⟩ ?_
    go_big_quiet_step (fail)
    refine later_c1 hM70 2 (.tmp 53) rfl rfl undI64 rfl c77 (by rfl) ?_; simp only [pA]
    go_big_quiet_step (fail)
    refine later_val (fun q => run_us (x := (.tmp 55)) rfl und64 undI64 rfl q.w') (by rfl) ?_; simp only [pA]
    refine later_val (fun qq => run_minS (x := (.tmp 54)) (y := (.tmp 56)) (p := (arF E k).sl) (q := (E k)) rfl rfl rfl qq.w') (by rfl) ?_; simp only [pA]
    go_big_quiet_step (fail)
    refine later_c1 hM70 2 (.tmp 58) rfl rfl undI64 rfl c78 (by rfl) ?_; simp only [pA]
    go_big_quiet_step (fail)
    refine later_val (fun q => run_us (x := (.tmp 60)) rfl und64 undI64 rfl q.w') (by rfl) ?_; simp only [pA]
    refine later_val (fun qq => run_maxS (x := (.tmp 59)) (y := (.tmp 61)) (p := (arF E k).sh) (q := (E k)) rfl rfl rfl qq.w') (by rfl) ?_; simp only [pA]
    go_big_quiet_step (fail)
    refine wpQuiet_nil (laterE hM70 ?_)
    intro xw79 M80 hbxw79 hM80 lM80
    have k81 := k67.below hbxw79 (by omega)
    have k82 := k66.below hbxw79 (by omega)
    have lo83 := lo68.trans (hbxw79.mono (by omega))
    clear k67 k66 c73 c74 c75 c76 c77 c78 lo68 hbxw79
    refine wpl_set rfl 2 (.tmp 63) (.tmp 57) rfl b_3_19 4 rfl _ rfl szI rfl rfl 34 6 _ k82 (by omega) ?_
    intro xw84 t85 k86_; try simp only [pA]
    have k86 : Has xw84 b_3_19 34 6 (rC ⟨(rJoin (arF E k).b ⟨(E k), 0#64⟩), (uMin (arF E k).lo (E k)), (uMax (arF E k).hi (E k)), (sMin (arF E k).sl (E k)), (arF E k).sh⟩) := k86_.congr (fun j hj => set_sl _ _ j)
    have k87 := k81.touch t85 (by omega)
    have lo88 := t85.below lo83 (by omega)
    have h89 := t85.sz hM80
    clear k82 k86_ k81 lo83 hM80 t85
    refine wpl_run rfl (Value.pointer (some ⟨b_3_19, 5, none⟩)) _ (run_fa 34 (.tmp 5) 4 5 rfl rfl faRU4) ?_; simp only [pA]
    refine wpl_set rfl 2 (.tmp 64) (.tmp 62) rfl b_3_19 5 rfl _ rfl szI rfl rfl 34 6 _ k86 (by omega) ?_
    intro xw90 t91 k92_; try simp only [pA]
    have k92 : Has xw90 b_3_19 34 6 (rC ⟨(rJoin (arF E k).b ⟨(E k), 0#64⟩), (uMin (arF E k).lo (E k)), (uMax (arF E k).hi (E k)), (sMin (arF E k).sl (E k)), (sMax (arF E k).sh (E k))⟩) := k92_.congr (fun j hj => set_sh _ _ j hj)
    have k93 := k87.touch t91 (by omega)
    have lo94 := t91.below lo88 (by omega)
    have h95 := t91.sz h89
    clear k86 k92_ k87 lo88 h89 t91
    obtain ⟨M96, hM96⟩ := sz_some xw90
    have lt_97 := k93.ltN hM96
    have lt_98 := k92.ltN hM96
    go_upto_region 4 with fail
    refine wp_region_later1 (M96) ?_
    try simp only [pA]
    iterate 3 (go_big_quiet_step (fail))
    refine wpQuiet_nil (laterE hM96 ?_)
    intro xw99 M100 hbxw99 hM100 lM100
    have k101 := k93.below hbxw99 (by omega)
    have k102 := k92.below hbxw99 (by omega)
    have lo103 := lo94.trans (hbxw99.mono (by omega))
    clear k93 k92 lo94 hbxw99
    go_wp2_with fail
    go_roundg (n - (k + 1))
    case rel => exact ⟨k + 1, by omega, rfl, by simp, k101, k102, lo103⟩
    case measure => omega
   ·obtain rfl : k = n := by omega
    clear hlt hl1
    have t1 : ¬ (k : Int) < (k : Int) := by omega
    go_upto_region 3 with fail
    refine wp_region_later1 (M) ?_
    try simp only [pA]
    iterate 2 (go_big_quiet_step (fail))
    refine later_val (fun q => run_lenS undSQ (x := (.tmp 28)) rfl rfl q.w') (by rfl) ?_; simp only [pA]
    go_big_quiet_step (fail)
    refine wpQuiet_nil (laterE hM ?_)
    intro xw17 M18 hbxw17 hM18 lM18
    have k19 := kN.below hbxw17 (by omega)
    have k20 := k5.below hbxw17 (by omega)
    have lo21 := lo.trans (hbxw17.mono (by omega))
    clear kN k5 lo hbxw17
    go_upto_region 9 with fail
    refine wp_region_lit ?_
    try simp only [pA]
    change wpList _ _ _ ((_ :: _ :: _ :: _ :: _ :: _ :: _ :: _ :: _ :: _ :: _ :: _ :: []) ++ (_ :: [])) _ _
    obtain ⟨c22, c23, c24, c25, c26, c27⟩ := r_cells k20
    refine wpList_prefix (C := fun w' => ∃ x : Later M18 xw17, w' = x.w') _ _ _ _ ⟨⟨_, Below.refl _ _⟩, rfl⟩ ?_
    iterate 2 (go_big_quiet_step (fail))
    refine later_c1 hM18 22 (.tmp 66) rfl rfl und64 rfl c22 (by rfl) ?_; simp only [pA]
    go_big_quiet_step (fail)
    refine later_b (x := (.tmp 67)) (y := (.tmp 68)) rfl (bin_andn _ (arF E k).b.v u) rfl rfl (by rfl) ?_; simp only [pA]
    iterate 2 (go_big_quiet_step (fail))
    refine later_c1 hM18 22 (.tmp 71) rfl rfl und64 rfl c23 (by rfl) ?_; simp only [pA]
    go_big_quiet_step (fail)
    refine later_b (x := (.tmp 72)) (y := (.tmp 73)) rfl (bin_or _ (arF E k).b.m u) rfl rfl (by rfl) ?_; simp only [pA]
    refine later_val (fun q => run_bd 32 _ rfl (cellsOf (nC ⟨((arF E k).b.v &&& ~~~u), ((arF E k).b.m ||| u)⟩) 2) (by kernel_rfl) q.w') (by rfl) ?_; simp only [pA]
    go_big_quiet_step (fail)
    refine wpQuiet_nil (laterE hM18 ?_)
    intro xw28 M29 hbxw28 hM29 lM29
    have k30 := k19.below hbxw28 (by omega)
    have k31 := k20.below hbxw28 (by omega)
    have lo32 := lo21.trans (hbxw28.mono (by omega))
    clear k19 k20 c22 c23 c24 c25 c26 c27 lo21 hbxw28
    refine wpl_partN (by rfl) (by kernel_rfl) 32 (.tmp 76) (.tmp 75) rfl b_3_19 rfl ⟨((arF E k).b.v &&& ~~~u), ((arF E k).b.m ||| u)⟩ rfl 34 _ k31 szU ?_
    intro xw33 t34 k35; try simp only [pA]
    have k36 := k30.touch t34 (by omega)
    have lo37 := t34.below lo32 (by omega)
    have h38 := t34.sz hM29
    clear k31 k30 lo32 hM29 t34
    obtain ⟨M39, hM39⟩ := sz_some xw33
    have lt_40 := k36.ltN hM39
    have lt_41 := k35.ltN hM39
    go_upto_region 10 with fail
    refine wp_region_lit ?_
    try simp only [pA]
    change wpList _ _ _ ((_ :: []) ++ (_ :: [])) _ _
    refine wpList_prefix (C := fun w' => ∃ x : Later M39 xw33, w' = x.w') _ _ _ _ ⟨⟨_, Below.refl _ _⟩, rfl⟩ ?_
    refine later_row hM39 34 (.tmp 5) rfl (b_3_19) rfl 34 6 _ k35 undRU szRU (by rfl) ?_; simp only [pA]
    refine wpQuiet_nil (laterE hM39 ?_)
    intro xw42 M43 hbxw42 hM43 lM43
    have k44 := k36.below hbxw42 (by omega)
    have k45 := k35.below hbxw42 (by omega)
    have lo46 := lo37.trans (hbxw42.mono (by omega))
    clear k36 k35 lo37 hbxw42
    refine wpl_store rfl 34 (.tmp 4) (.tmp 77) rfl N 6 (rC ⟨⟨((arF E k).b.v &&& ~~~u), ((arF E k).b.m ||| u)⟩, (arF E k).lo, (arF E k).hi, (arF E k).sl, (arF E k).sh⟩) rfl rfl 34 _ k44 szRU (fun j _ => rC_one _ j) ?_
    intro xw47 t48 k49; try simp only [pA]
    have k50 := k45.touch t48 (by omega)
    have lo51 := t48.below lo46 (by omega)
    have h52 := t48.sz hM43
    clear k44 k45 lo46 hM43 t48
    obtain ⟨M53, hM53⟩ := sz_some xw47
    have lt_54 := k49.ltN hM53
    have lt_55 := k50.ltN hM53
    go_wp2_with fail
    refine post_r rfl N rfl k49 undRU szRU rfl ?_
    exact ⟨rfl, lo51⟩
end Go.Proofs.Ytmdcopmgkhjfnaa
