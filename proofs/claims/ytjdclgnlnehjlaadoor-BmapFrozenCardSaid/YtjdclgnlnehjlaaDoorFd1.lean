/- BmapFrozen: the law's do, way 1. -/
import Derived.Test.YtjdclgnlnehjlaaDoorMgFd0
namespace Go.Proofs.YtjdclgnlnehjlaaDoor
open Go Go.RowKit
set_option maxRecDepth 100000 in
set_option maxHeartbeats 16000000 in
theorem do_1 (what : Int) (hw : IntKind.u64.wrap what % 9 = 1) (kq : Option Addr) (kn kc : Nat) (vq : Option Addr) (vn vc : Nat) (fl : Int) (raw : Bool) (hkc : kn ≤ kc) (hvc : vn ≤ vc) (hfl : 0 ≤ fl) (KD0 VD0 : Nat → BitVec 8) (P : Nat → Prop) (wa : World) (m0 m : Mp) (r0 r : Rm) (w : World) (N : Nat) (hN : Sz w N) (hT : Two P wa m0 r0 w m r) (U0 : ∀ x, N ≤ x → P x) (hK : Ats w kq kn (fun j => By (KD0 j))) (hV : Ats w vq vn (fun j => By (VD0 j))) :
    Calls Tryd.prog 10 #[.agg (cellsOf (acC what kq kn kc vq vn vc fl raw) 5), .pointer (some ⟨m.b, 0, none⟩), .pointer (some ⟨r.b, 0, none⟩)] w (DoR P wa m0 r0) := by
  obtain ⟨_, aw1, aw2⟩ := rwAct
  have AW1 := hid aw1
  have AW2 := hid aw2
  clear aw1 aw2
  have HW := hid hw
  clear hw
  go_enter Tryd.func10, Tryd.ntmps10
  go_upto_region 1 with (first
    | ((with_reducible show wpList _ _ _ (_ :: _) _ _); first
      | (refine wpl_box rfl 38 (.tmp 0) rfl 5 (acC what kq kn kc vq vn vc fl raw) rfl N hN ?_; intro w1 hM1 b1 k1; refine id ?_; try simp only [pA]))
    | fail)
  have TS := hT.start hN b1
  have hPN := hT.notP hN
  have hr16 := hT.R.sm.1
  have hr64 := hT.R.sm.2.1
  refine wp_region_inn (fun w' => Below (N + 1) w1 w') (Below.refl (N + 1) w1).drew (by kernel_rfl) ?_
  have hne := inn_ne (I := fun w' => Below (N + 1) w1 w') (Below.refl (N + 1) w1)
  refine anyI_reads [0, 1, 2, 3, 4, 6, 7, 8, 9, 10] _ _ _ (Below.refl (N + 1) w1).drew (by kernel_rfl) (fun _ _ _ d _ h => by cases d <;> exact h) ?_
  simp only [pickO, List.map_cons, List.map_nil, List.getElem?_toArray, List.getElem?_cons_succ, List.getElem?_cons_zero, Option.getD_some, Act.put, List.setIfInBounds_toArray, List.set_cons_succ, List.set_cons_zero]
  repeat first
    | (refine inn_val (fun x => run_ld 38 (.tmp 3) rfl N rfl 38 5 _ (k1.below x.h (by omega)) _ AW1.out AW2.out szAct) (by rfl) ?_; simp only [Act.put, List.setIfInBounds_toArray, List.set_cons_succ, List.set_cons_zero])
    | (refine inn_val (fun x => run_ldS (.tmp 31) rfl rfl ((TS.R.below hM1 x.h).h)) (by rfl) ?_; simp only [Act.put, List.setIfInBounds_toArray, List.set_cons_succ, List.set_cons_zero])
    | (refine inn_val (fun x => run_ldS (.tmp 37) rfl rfl ((TS.R.below hM1 x.h).h)) (by rfl) ?_; simp only [Act.put, List.setIfInBounds_toArray, List.set_cons_succ, List.set_cons_zero])
    | go_big_quiet_step (fail)
  refine wpQuiet_nil ?_
  clear hne
  refine anyI_part [5] _ _ _ _ (by kernel_rfl) ?_
  simp only [List.filterMap_cons, List.filterMap_nil, List.getElem?_toArray, List.getElem?_cons_succ, List.getElem?_cons_zero]
  change wpList _ _ _ [_] _ _
  go_wp2_with fail
  refine (key_any what kq kn kc vq vn vc fl raw _ _ _ r.key hr16 hkc KD0 w1.drew (N + 1) hM1 (hK.below hN b1.drew)).mono ?_
  rintro e w2 ⟨⟨KD, kl, hkl, rfl⟩, b2⟩
  dsimp only
  go_step
  have B2 := (Below.refl (N + 1) w1).drew.trans b2
  obtain ⟨M2, hM2⟩ := sz_some w2
  have L2 := below_sz B2 hM1 hM2
  refine ⟨B2, ?_⟩
  change anyI _ _ _ _ _ _ _ _ _
  try simp only [pA]
  refine anyI_part [11] _ _ _ _ (by kernel_rfl) ?_
  simp only [List.filterMap_cons, List.filterMap_nil, List.getElem?_toArray, List.getElem?_cons_succ, List.getElem?_cons_zero]
  change wpList _ _ _ [_] _ _
  go_wp2_with fail
  refine (val_any what kq kn kc vq vn vc fl raw _ _ _ r.val hr64 hvc VD0 _ M2 hM2 ((hV.below hN b1).below hM1 B2)).mono ?_
  rintro e w3 ⟨⟨VD, vl, hvl, rfl⟩, b3⟩
  dsimp only
  go_step
  have B3 := B2.trans (b3.mono L2)
  refine ⟨B3, ?_⟩
  change anyI _ _ _ _ _ _ _ _ _
  try simp only [pA]
  refine anyI_part [12] _ _ _ _ (by kernel_rfl) ?_
  simp only [List.filterMap_cons, List.filterMap_nil, List.getElem?_toArray, List.getElem?_cons_succ, List.getElem?_cons_zero]
  change wpList _ _ _ [_] _ _
  refine wpl_pure rfl (v := .string (strOf KD kl)) (by intro w; first | rfl | (go_simp; first | done | with_reducible rfl)) ?_
  refine ⟨B3, ?_⟩
  change anyI _ _ _ _ _ _ _ _ _
  try simp only [pA]
  refine anyI_part [13] _ _ _ _ (by kernel_rfl) ?_
  simp only [List.filterMap_cons, List.filterMap_nil, List.getElem?_toArray, List.getElem?_cons_succ, List.getElem?_cons_zero]
  change wpList _ _ _ [_] _ _
  refine wpl_pure rfl (v := .string (strOf VD vl)) (by intro w; first | rfl | (go_simp; first | done | with_reducible rfl)) ?_
  refine ⟨B3, ?_⟩
  change anyI _ _ _ _ _ _ _ _ _
  try simp only [pA]
  refine anyI_done (by kernel_rfl) ?_
  try simp only [pA]
  have T := TS.below hM1 B3
  obtain ⟨M, hM⟩ := sz_some w3
  have LM := below_sz B3 hM1 hM
  have U : ∀ x, M ≤ x → P1 m r N x := fun x hx => .inr (.inr (by omega))
  have ca := hid (k1.below B3 (by omega))
  have HJ : ∀ w9 m9 r9, Two (P1 m r N) w1 m r w9 m9 r9 → Two P wa m0 r0 w9 m9 r9 := fun w9 m9 r9 h => hT.join hN b1 U0 h
  clear TS B2 b2 b3 hM2 L2 hK hV hr16 hr64 hkc hvc
  go_upto_region 5 with (first
    | ((with_reducible show wpList _ _ _ (_ :: _) _ _); first
      | (refine wpl_run rfl (.int .i64 what) _ (run_cell1 (x := .tmp 40) 3 rfl rfl undIt rfl (ca.out.cell (j := 0) (by omega))) ?_; try simp only [pA])
      | (refine wpl_run rfl (.int .u64 (IntKind.u64.wrap what)) _ (run_cvU (x := .tmp 41) rfl undInt64 undU64t rfl) ?_; try simp only [pA])
      | (refine wpl_remQ rfl (.tmp 42) (.const (.int .u64 9)) rfl (IntKind.u64.wrap what) 9 rfl rfl (u64_pos what) (by omega) (by omega) ?_; intro c hc Hc; have HC := hid (show c = 1 by have := Hc.out; have := HW.out; omega); refine id ?_; try simp only [pA])
      | (refine wpl_run rfl (.int .i64 (c : Int)) _ (run_cvI (x := .tmp 43) rfl undU64t undInt64 rfl (by omega)) ?_; try simp only [pA])
      | (refine wpl_run rfl (.bool false) _ (run_eqK (x := .tmp 44) rfl rfl rfl (by rw [HC.out]; rfl) _) ?_; try simp only [pA])
      | (refine wpl_run rfl (.bool true) _ (run_eqK (x := .tmp 44) rfl rfl rfl (by rw [HC.out]; rfl) _) ?_; try simp only [pA]))
    | fail)
  clear Hc HC hc HW AW1 AW2
  have hI := ca.out
  refine wp_region_inn (fun w' => Has w' N 38 5 (acC what kq kn kc vq vn vc fl raw)) hI.drew (by kernel_rfl) ?_
  have hne := inn_ne (I := fun w' => Has w' N 38 5 (acC what kq kn kc vq vn vc fl raw)) hI
  refine anyI_reads [0, 1, 3, 5, 6, 8, 9, 10, 11, 12] _ _ _ hI.drew (by kernel_rfl) (fun _ _ _ d _ h => by cases d <;> exact h) ?_
  simp only [pickO, List.map_cons, List.map_nil, List.getElem?_toArray, List.getElem?_cons_succ, List.getElem?_cons_zero, Option.getD_some, Act.put, List.setIfInBounds_toArray, List.set_cons_succ, List.set_cons_zero]
  repeat first
    | (refine inn_val (fun x => run_cell1 (x := .tmp 53) 36 rfl rfl undU64t rfl (x.h.cell (j := 3) (by omega))) (by rfl) ?_; simp only [Act.put, List.setIfInBounds_toArray, List.set_cons_succ, List.set_cons_zero])
    | (refine inn_val (fun x => run_cell1 (x := .tmp 59) 36 rfl rfl undU64t rfl (x.h.cell (j := 3) (by omega))) (by rfl) ?_; simp only [Act.put, List.setIfInBounds_toArray, List.set_cons_succ, List.set_cons_zero])
    | go_big_quiet_step (fail)
  refine wpQuiet_nil ?_
  clear hne
  have Td := T.below hM (Below.refl _ _).drew
  have hMd : Sz w3.drew M := hM
  have hId := hI.drew
  clear T hM hI ca
  generalize World.drew w3 = wd at *
  refine anyI_two 2 4 _ _ _ _ (by kernel_rfl) ?_ ?_
  · simp only [List.filterMap_cons, List.filterMap_nil, List.getElem?_toArray, List.getElem?_cons_succ, List.getElem?_cons_zero]
    change wpList _ _ _ [_] _ _
    obtain ⟨cap11, w11, hr11, hS11, hb11, ra11⟩ := run_raw (P := Tryd.prog) 9 35 undBS undBB undBy wd M hMd KD kl
    refine wpl_conv2 rfl 9 35 (.tmp 49) rfl _ _ _ rfl hr11 ?_
    refine ⟨hId.below hb11 (hId.ltN hMd), ?_⟩
    change anyI _ _ _ _ _ _ _ _ _
    try simp only [pA]
    refine anyI_part [4] _ _ _ _ (by kernel_rfl) ?_
    simp only [List.filterMap_cons, List.filterMap_nil, List.getElem?_toArray, List.getElem?_cons_succ, List.getElem?_cons_zero]
    change wpList _ _ _ [_] _ _
    obtain ⟨cap12, w12, hr12, hS12, hb12, ra12⟩ := run_raw (P := Tryd.prog) 9 35 undBS undBB undBy w11 (M + 1) hS11 VD vl
    refine wpl_conv2 rfl 9 35 (.tmp 51) rfl _ _ _ rfl hr12 ?_
    refine ⟨(hId.below hb11 (hId.ltN hMd)).below hb12 (by have := hId.ltN hMd; omega), ?_⟩
    change anyI _ _ _ _ _ _ _ _ _
    try simp only [pA]
    have T2 := (Td.below hMd hb11).below hS11 hb12
    have U2 : ∀ x, M + 1 + 1 ≤ x → P1 m r N x := fun x hx => U x (by omega)
    have hfk := (ra11.below hb12 (Nat.lt_succ_self M))
    have hfv := ra12
    refine anyI_part [7] _ _ _ _ (by kernel_rfl) ?_
    simp only [List.filterMap_cons, List.filterMap_nil, List.getElem?_toArray, List.getElem?_cons_succ, List.getElem?_cons_zero]
    change wpList _ _ _ [_] _ _
    go_wp2_with fail
    refine (Upd_all T2.I KD kl (some ⟨M, 0, none⟩) cap11 (some ⟨M + 1, 0, none⟩) vl cap12 VD fl hfl _ hS12 T2.A hfk.ats hfv.ats (fun g hg hF => by have e : M + 1 = g := Option.some.inj hg; have := Td.A.lt hMd g hF; omega)).mono ?_
    rintro e w5 ⟨z, m2, rfl, X⟩
    dsimp only
    go_step
    have T5 := T2.nx hS12 U2 X
    obtain ⟨M5, hM5⟩ := sz_some w5
    have U5 : ∀ x, M5 ≤ x → P1 m r N x := T2.up (m' := m2) (r' := r) hS12 U2 hM5 T5 (by have := X.turn.size; have e1 : w12.heap.size = M + 1 + 1 := hS12; have e2 : w5.heap.size = M5 := hM5; omega)
    refine ⟨k1.turn T5.t hPN, ?_⟩
    change anyI _ _ _ _ _ _ _ _ _
    try simp only [pA]
    refine anyI_part [13] _ _ _ _ (by kernel_rfl) ?_
    simp only [List.filterMap_cons, List.filterMap_nil, List.getElem?_toArray, List.getElem?_cons_succ, List.getElem?_cons_zero]
    change wpList _ _ _ [_] _ _
    go_wp2_with fail
    refine (DUpd_any r (strOf KD kl) (strOf VD vl) fl w5 M5 hM5 T5.R).mono ?_
    rintro e w6 ⟨z2, r2, rfl, Y⟩
    dsimp only
    go_step
    have T6 := T5.rnx hM5 U5 Y
    refine ⟨k1.turn T6.t hPN, ?_⟩
    change anyI _ _ _ _ _ _ _ _ _
    try simp only [pA]
    refine anyI_part [14] _ _ _ _ (by kernel_rfl) ?_
    simp only [List.filterMap_cons, List.filterMap_nil, List.getElem?_toArray, List.getElem?_cons_succ, List.getElem?_cons_zero]
    change wpList _ _ _ [_] _ _
    refine wpl_run rfl (.bool (z == z2)) _ (run_eqK (x := .tmp 55) rfl rfl rfl rfl _) ?_
    refine ⟨k1.turn T6.t hPN, ?_⟩
    change anyI _ _ _ _ _ _ _ _ _
    try simp only [pA]
    refine anyI_part [15] _ _ _ _ (by kernel_rfl) ?_
    simp only [List.filterMap_cons, List.filterMap_nil, List.getElem?_toArray, List.getElem?_cons_succ, List.getElem?_cons_zero]
    change wpList _ _ _ [_] _ _
    refine wpl_pure rfl (v := .bool (z == z2)) (by intro w; first | rfl | (go_simp; first | done | with_reducible rfl)) ?_
    refine ⟨k1.turn T6.t hPN, ?_⟩
    change anyI _ _ _ _ _ _ _ _ _
    try simp only [pA]
    refine anyI_done (by kernel_rfl) ?_
    try simp only [pA]
    go_wp2_with fail
    go_ret
    exact ⟨_, m2, r2, rfl, HJ _ _ _ T6⟩
  · simp only [List.filterMap_cons, List.filterMap_nil, List.getElem?_toArray, List.getElem?_cons_succ, List.getElem?_cons_zero]
    change wpList _ _ _ [_] _ _
    obtain ⟨cap11, w11, hr11, hS11, hb11, ra11⟩ := run_raw (P := Tryd.prog) 9 35 undBS undBB undBy wd M hMd VD vl
    refine wpl_conv2 rfl 9 35 (.tmp 51) rfl _ _ _ rfl hr11 ?_
    refine ⟨hId.below hb11 (hId.ltN hMd), ?_⟩
    change anyI _ _ _ _ _ _ _ _ _
    try simp only [pA]
    refine anyI_part [2] _ _ _ _ (by kernel_rfl) ?_
    simp only [List.filterMap_cons, List.filterMap_nil, List.getElem?_toArray, List.getElem?_cons_succ, List.getElem?_cons_zero]
    change wpList _ _ _ [_] _ _
    obtain ⟨cap12, w12, hr12, hS12, hb12, ra12⟩ := run_raw (P := Tryd.prog) 9 35 undBS undBB undBy w11 (M + 1) hS11 KD kl
    refine wpl_conv2 rfl 9 35 (.tmp 49) rfl _ _ _ rfl hr12 ?_
    refine ⟨(hId.below hb11 (hId.ltN hMd)).below hb12 (by have := hId.ltN hMd; omega), ?_⟩
    change anyI _ _ _ _ _ _ _ _ _
    try simp only [pA]
    have T2 := (Td.below hMd hb11).below hS11 hb12
    have U2 : ∀ x, M + 1 + 1 ≤ x → P1 m r N x := fun x hx => U x (by omega)
    have hfk := ra12
    have hfv := (ra11.below hb12 (Nat.lt_succ_self M))
    refine anyI_part [7] _ _ _ _ (by kernel_rfl) ?_
    simp only [List.filterMap_cons, List.filterMap_nil, List.getElem?_toArray, List.getElem?_cons_succ, List.getElem?_cons_zero]
    change wpList _ _ _ [_] _ _
    go_wp2_with fail
    refine (Upd_all T2.I KD kl (some ⟨M + 1, 0, none⟩) cap12 (some ⟨M, 0, none⟩) vl cap11 VD fl hfl _ hS12 T2.A hfk.ats hfv.ats (fun g hg hF => by have e : M = g := Option.some.inj hg; have := Td.A.lt hMd g hF; omega)).mono ?_
    rintro e w5 ⟨z, m2, rfl, X⟩
    dsimp only
    go_step
    have T5 := T2.nx hS12 U2 X
    obtain ⟨M5, hM5⟩ := sz_some w5
    have U5 : ∀ x, M5 ≤ x → P1 m r N x := T2.up (m' := m2) (r' := r) hS12 U2 hM5 T5 (by have := X.turn.size; have e1 : w12.heap.size = M + 1 + 1 := hS12; have e2 : w5.heap.size = M5 := hM5; omega)
    refine ⟨k1.turn T5.t hPN, ?_⟩
    change anyI _ _ _ _ _ _ _ _ _
    try simp only [pA]
    refine anyI_part [13] _ _ _ _ (by kernel_rfl) ?_
    simp only [List.filterMap_cons, List.filterMap_nil, List.getElem?_toArray, List.getElem?_cons_succ, List.getElem?_cons_zero]
    change wpList _ _ _ [_] _ _
    go_wp2_with fail
    refine (DUpd_any r (strOf KD kl) (strOf VD vl) fl w5 M5 hM5 T5.R).mono ?_
    rintro e w6 ⟨z2, r2, rfl, Y⟩
    dsimp only
    go_step
    have T6 := T5.rnx hM5 U5 Y
    refine ⟨k1.turn T6.t hPN, ?_⟩
    change anyI _ _ _ _ _ _ _ _ _
    try simp only [pA]
    refine anyI_part [14] _ _ _ _ (by kernel_rfl) ?_
    simp only [List.filterMap_cons, List.filterMap_nil, List.getElem?_toArray, List.getElem?_cons_succ, List.getElem?_cons_zero]
    change wpList _ _ _ [_] _ _
    refine wpl_run rfl (.bool (z == z2)) _ (run_eqK (x := .tmp 55) rfl rfl rfl rfl _) ?_
    refine ⟨k1.turn T6.t hPN, ?_⟩
    change anyI _ _ _ _ _ _ _ _ _
    try simp only [pA]
    refine anyI_part [15] _ _ _ _ (by kernel_rfl) ?_
    simp only [List.filterMap_cons, List.filterMap_nil, List.getElem?_toArray, List.getElem?_cons_succ, List.getElem?_cons_zero]
    change wpList _ _ _ [_] _ _
    refine wpl_pure rfl (v := .bool (z == z2)) (by intro w; first | rfl | (go_simp; first | done | with_reducible rfl)) ?_
    refine ⟨k1.turn T6.t hPN, ?_⟩
    change anyI _ _ _ _ _ _ _ _ _
    try simp only [pA]
    refine anyI_done (by kernel_rfl) ?_
    try simp only [pA]
    go_wp2_with fail
    go_ret
    exact ⟨_, m2, r2, rfl, HJ _ _ _ T6⟩
end Go.Proofs.YtjdclgnlnehjlaaDoor
