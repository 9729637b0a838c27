/- BmapFrozen: the law's do, way 2. -/
import Derived.Test.YtjdclgnlnehjlaaDoorMgFd0
namespace Go.Proofs.YtjdclgnlnehjlaaDoor
open Go Go.RowKit
set_option maxRecDepth 100000 in
set_option maxHeartbeats 16000000 in
theorem do_2 (what : Int) (hw : IntKind.u64.wrap what % 9 = 2) (kq : Option Addr) (kn kc : Nat) (vq : Option Addr) (vn vc : Nat) (fl : Int) (raw : Bool) (hkc : kn ≤ kc) (hvc : vn ≤ vc) (hfl : 0 ≤ fl) (KD0 VD0 : Nat → BitVec 8) (P : Nat → Prop) (wa : World) (m0 m : Mp) (r0 r : Rm) (w : World) (N : Nat) (hN : Sz w N) (hT : Two P wa m0 r0 w m r) (U0 : ∀ x, N ≤ x → P x) (hK : Ats w kq kn (fun j => By (KD0 j))) (hV : Ats w vq vn (fun j => By (VD0 j))) :
    Calls Tryd.prog 10 #[.agg (cellsOf (acC what kq kn kc vq vn vc fl raw) 5), .pointer (some ⟨m.b, 0, none⟩), .pointer (some ⟨r.b, 0, none⟩)] w (DoR P wa m0 r0) := by
  obtain ⟨_, aw1, aw2⟩ := rwAct
  have AW1 := hid aw1
  have AW2 := hid aw2
  clear aw1 aw2
  have HW := hid hw
  clear hw
  go_enter Tryd.func10, Tryd.ntmps10
  go_upto_region 1 with (first
    | ((with_reducible show wpList _ _ _ (_ :: _) _ _); first
      | (refine wpl_box rfl 38 (.tmp 0) rfl 5 (acC what kq kn kc vq vn vc fl raw) rfl N hN ?_; intro w1 hM1 b1 k1; refine id ?_; try simp only [pA]))
    | fail)
  have TS := hT.start hN b1
  have hPN := hT.notP hN
  have hr16 := hT.R.sm.1
  have hr64 := hT.R.sm.2.1
  refine wp_region_inn (fun w' => Below (N + 1) w1 w') (Below.refl (N + 1) w1).drew (by kernel_rfl) ?_
  have hne := inn_ne (I := fun w' => Below (N + 1) w1 w') (Below.refl (N + 1) w1)
  refine anyI_reads [0, 1, 2, 3, 4, 6, 7, 8, 9, 10] _ _ _ (Below.refl (N + 1) w1).drew (by kernel_rfl) (fun _ _ _ d _ h => by cases d <;> exact h) ?_
  simp only [pickO, List.map_cons, List.map_nil, List.getElem?_toArray, List.getElem?_cons_succ, List.getElem?_cons_zero, Option.getD_some, Act.put, List.setIfInBounds_toArray, List.set_cons_succ, List.set_cons_zero]
  repeat first
    | (refine inn_val (fun x => run_ld 38 (.tmp 3) rfl N rfl 38 5 _ (k1.below x.h (by omega)) _ AW1.out AW2.out szAct) (by rfl) ?_; simp only [Act.put, List.setIfInBounds_toArray, List.set_cons_succ, List.set_cons_zero])
    | (refine inn_val (fun x => run_ldS (.tmp 31) rfl rfl ((TS.R.below hM1 x.h).h)) (by rfl) ?_; simp only [Act.put, List.setIfInBounds_toArray, List.set_cons_succ, List.set_cons_zero])
    | (refine inn_val (fun x => run_ldS (.tmp 37) rfl rfl ((TS.R.below hM1 x.h).h)) (by rfl) ?_; simp only [Act.put, List.setIfInBounds_toArray, List.set_cons_succ, List.set_cons_zero])
    | go_big_quiet_step (fail)
  refine wpQuiet_nil ?_
  clear hne
  refine anyI_part [5] _ _ _ _ (by kernel_rfl) ?_
  simp only [List.filterMap_cons, List.filterMap_nil, List.getElem?_toArray, List.getElem?_cons_succ, List.getElem?_cons_zero]
  change wpList _ _ _ [_] _ _
  go_wp2_with fail
  refine (key_any what kq kn kc vq vn vc fl raw _ _ _ r.key hr16 hkc KD0 w1.drew (N + 1) hM1 (hK.below hN b1.drew)).mono ?_
  rintro e w2 ⟨⟨KD, kl, hkl, rfl⟩, b2⟩
  dsimp only
  go_step
  have B2 := (Below.refl (N + 1) w1).drew.trans b2
  obtain ⟨M2, hM2⟩ := sz_some w2
  have L2 := below_sz B2 hM1 hM2
  refine ⟨B2, ?_⟩
  change anyI _ _ _ _ _ _ _ _ _
  try simp only [pA]
  refine anyI_part [11] _ _ _ _ (by kernel_rfl) ?_
  simp only [List.filterMap_cons, List.filterMap_nil, List.getElem?_toArray, List.getElem?_cons_succ, List.getElem?_cons_zero]
  change wpList _ _ _ [_] _ _
  go_wp2_with fail
  refine (val_any what kq kn kc vq vn vc fl raw _ _ _ r.val hr64 hvc VD0 _ M2 hM2 ((hV.below hN b1).below hM1 B2)).mono ?_
  rintro e w3 ⟨⟨VD, vl, hvl, rfl⟩, b3⟩
  dsimp only
  go_step
  have B3 := B2.trans (b3.mono L2)
  refine ⟨B3, ?_⟩
  change anyI _ _ _ _ _ _ _ _ _
  try simp only [pA]
  refine anyI_part [12] _ _ _ _ (by kernel_rfl) ?_
  simp only [List.filterMap_cons, List.filterMap_nil, List.getElem?_toArray, List.getElem?_cons_succ, List.getElem?_cons_zero]
  change wpList _ _ _ [_] _ _
  refine wpl_pure rfl (v := .string (strOf KD kl)) (by intro w; first | rfl | (go_simp; first | done | with_reducible rfl)) ?_
  refine ⟨B3, ?_⟩
  change anyI _ _ _ _ _ _ _ _ _
  try simp only [pA]
  refine anyI_part [13] _ _ _ _ (by kernel_rfl) ?_
  simp only [List.filterMap_cons, List.filterMap_nil, List.getElem?_toArray, List.getElem?_cons_succ, List.getElem?_cons_zero]
  change wpList _ _ _ [_] _ _
  refine wpl_pure rfl (v := .string (strOf VD vl)) (by intro w; first | rfl | (go_simp; first | done | with_reducible rfl)) ?_
  refine ⟨B3, ?_⟩
  change anyI _ _ _ _ _ _ _ _ _
  try simp only [pA]
  refine anyI_done (by kernel_rfl) ?_
  try simp only [pA]
  have T := TS.below hM1 B3
  obtain ⟨M, hM⟩ := sz_some w3
  have LM := below_sz B3 hM1 hM
  have U : ∀ x, M ≤ x → P1 m r N x := fun x hx => .inr (.inr (by omega))
  have ca := hid (k1.below B3 (by omega))
  have HJ : ∀ w9 m9 r9, Two (P1 m r N) w1 m r w9 m9 r9 → Two P wa m0 r0 w9 m9 r9 := fun w9 m9 r9 h => hT.join hN b1 U0 h
  clear TS B2 b2 b3 hM2 L2 hK hV hr16 hr64 hkc hvc
  go_upto_region 7 with (first
    | ((with_reducible show wpList _ _ _ (_ :: _) _ _); first
      | (refine wpl_run rfl (.int .i64 what) _ (run_cell1 (x := .tmp 40) 3 rfl rfl undIt rfl (ca.out.cell (j := 0) (by omega))) ?_; try simp only [pA])
      | (refine wpl_run rfl (.int .u64 (IntKind.u64.wrap what)) _ (run_cvU (x := .tmp 41) rfl undInt64 undU64t rfl) ?_; try simp only [pA])
      | (refine wpl_remQ rfl (.tmp 42) (.const (.int .u64 9)) rfl (IntKind.u64.wrap what) 9 rfl rfl (u64_pos what) (by omega) (by omega) ?_; intro c hc Hc; have HC := hid (show c = 2 by have := Hc.out; have := HW.out; omega); refine id ?_; try simp only [pA])
      | (refine wpl_run rfl (.int .i64 (c : Int)) _ (run_cvI (x := .tmp 43) rfl undU64t undInt64 rfl (by omega)) ?_; try simp only [pA])
      | (refine wpl_run rfl (.bool false) _ (run_eqK (x := .tmp 44) rfl rfl rfl (by rw [HC.out]; rfl) _) ?_; try simp only [pA])
      | (refine wpl_run rfl (.bool true) _ (run_eqK (x := .tmp 44) rfl rfl rfl (by rw [HC.out]; rfl) _) ?_; try simp only [pA]))
    | fail)
  clear Hc HC hc HW AW1 AW2
  obtain ⟨cap11, w11, hr11, hS11, hb11, ra11⟩ := run_raw (P := Tryd.prog) 9 35 undBS undBB undBy w3 M hM KD kl
  have T1 := T.below hM hb11
  have U1 : ∀ x, M + 1 ≤ x → P1 m r N x := fun x hx => U x (by omega)
  go_wp2_with (first
    | ((with_reducible show wpList _ _ _ (_ :: _) _ _); first
      | (refine wpl_conv2 rfl 9 35 (.tmp 67) rfl _ _ _ rfl hr11 ?_; try simp only [pA]))
    | fail)
  refine (Look_any m T1.I KD kl (some ⟨M, 0, none⟩) cap11 _ (M + 1) hS11 T1.A ra11.ats).mono ?_
  rintro e w5 ⟨m2, hl, X⟩
  have T5 := T1.nx hS11 U1 X
  obtain ⟨M5, hM5⟩ := sz_some w5
  have U5 : ∀ x, M5 ≤ x → P1 m r N x := fun x hx => .inr (.inr (Nat.le_trans (T5.le hM1 hM5) hx))
  rcases hl with ⟨z, hz, rfl, _⟩ | ⟨_, D, _, _, Mv, hMv, rfl, hv⟩
  · go_wp2_with fail
    refine (DFind_any r (strOf KD kl) w5 M5 hM5 T5.R).mono ?_
    rintro e w6 hf
    rcases hf with ⟨i, r2, rfl, hi, Y⟩ | ⟨z2, hz2, rfl, Y⟩
    · have E80 := hid (show (z == 0) = false from beq_eq_false_iff_ne.2 hz)
      obtain ⟨M6, hM6⟩ := sz_some w6
      go_upto_region 9 with fail
      refine wp_region_later M6 (by kernel_rfl) (by kernel_rfl) ?_
      go_big_quiet_step (fail)
      go_big_quiet_step (fail)
      refine later_val (v := .bool false) (fun q => run_eqK (x := .tmp 78) rfl rfl rfl E80.out _) (by rfl) ?_; try simp only [pA]
      go_big_quiet_step (fail)
      go_big_quiet_step (fail)
      go_big_quiet_step (fail)
      go_big_quiet_step (fail)
      go_big_quiet_step (fail)
      go_big_quiet_step (fail)
      go_big_quiet_step (fail)
      go_big_quiet_step (fail)
      go_big_quiet_step (fail)
      go_big_quiet_step (fail)
      go_big_quiet_step (fail)
      go_big_quiet_step (fail)
      go_big_quiet_step (fail)
      go_big_quiet_step (fail)
      go_big_quiet_step (fail)
      go_big_quiet_step (fail)
      go_big_quiet_step (fail)
      go_big_quiet_step (fail)
      go_big_quiet_step (fail)
      go_big_quiet_step (fail)
      go_big_quiet_step (fail)
      go_big_quiet_step (fail)
      go_big_quiet_step (fail)
      go_big_quiet_step (fail)
      go_big_quiet_step (fail)
      go_big_quiet_step (fail)
      go_big_quiet_step (fail)
      refine wpQuiet_nil ?_
      rintro w7 ⟨x7, e7⟩
      have b7 := x7.b
      rw [← e7] at b7
      clear e7 x7
      go_wp2_with fail
      go_ret
      exact ⟨_, m2, _, rfl, HJ _ _ _ ((T5.rnx hM5 U5 Y).below hM6 b7)⟩
    · obtain ⟨q, hq⟩ : ∃ q, (z == z2) = q := ⟨_, rfl⟩
      have EQ := hid hq
      have EN := hid (show (z != 0) = true from bne_iff_ne.2 hz)
      clear hq
      cases q
      · obtain ⟨M6, hM6⟩ := sz_some w6
        go_upto_region 9 with fail
        refine wp_region_later M6 (by kernel_rfl) (by kernel_rfl) ?_
        go_big_quiet_step (fail)
        go_big_quiet_step (fail)
        refine later_val (v := .bool false) (fun q => run_eqK (x := .tmp 78) rfl rfl rfl EQ.out _) (by rfl) ?_; try simp only [pA]
        go_big_quiet_step (fail)
        go_big_quiet_step (fail)
        go_big_quiet_step (fail)
        go_big_quiet_step (fail)
        go_big_quiet_step (fail)
        go_big_quiet_step (fail)
        go_big_quiet_step (fail)
        go_big_quiet_step (fail)
        go_big_quiet_step (fail)
        go_big_quiet_step (fail)
        go_big_quiet_step (fail)
        go_big_quiet_step (fail)
        go_big_quiet_step (fail)
        go_big_quiet_step (fail)
        go_big_quiet_step (fail)
        go_big_quiet_step (fail)
        go_big_quiet_step (fail)
        go_big_quiet_step (fail)
        go_big_quiet_step (fail)
        go_big_quiet_step (fail)
        go_big_quiet_step (fail)
        go_big_quiet_step (fail)
        go_big_quiet_step (fail)
        go_big_quiet_step (fail)
        go_big_quiet_step (fail)
        go_big_quiet_step (fail)
        go_big_quiet_step (fail)
        refine wpQuiet_nil ?_
        rintro w7 ⟨x7, e7⟩
        have b7 := x7.b
        rw [← e7] at b7
        clear e7 x7
        go_wp2_with fail
        go_ret
        exact ⟨_, m2, _, rfl, HJ _ _ _ ((T5.rnx hM5 U5 Y).below hM6 b7)⟩
      · obtain ⟨M6, hM6⟩ := sz_some w6
        go_upto_region 9 with fail
        refine wp_region_later M6 (by kernel_rfl) (by kernel_rfl) ?_
        go_big_quiet_step (fail)
        go_big_quiet_step (fail)
        refine later_val (v := .bool true) (fun q => run_eqK (x := .tmp 78) rfl rfl rfl EQ.out _) (by rfl) ?_; try simp only [pA]
        go_big_quiet_step (fail)
        go_big_quiet_step (fail)
        refine later_val (v := .bool true) (fun q => run_neqZ (x := .tmp 82) rfl rfl rfl EN.out _) (by rfl) ?_; try simp only [pA]
        go_big_quiet_step (fail)
        go_big_quiet_step (fail)
        refine later_val (v := .int .i64 ((0 : Nat) : Int)) (fun q => run_lenL (x := .tmp 85) rfl undBB rfl _) (by rfl) ?_; try simp only [pA]
        go_big_quiet_step (fail)
        go_big_quiet_step (fail)
        go_big_quiet_step (fail)
        go_big_quiet_step (fail)
        go_big_quiet_step (fail)
        go_big_quiet_step (fail)
        go_big_quiet_step (fail)
        go_big_quiet_step (fail)
        go_big_quiet_step (fail)
        go_big_quiet_step (fail)
        go_big_quiet_step (fail)
        go_big_quiet_step (fail)
        go_big_quiet_step (fail)
        go_big_quiet_step (fail)
        go_big_quiet_step (fail)
        go_big_quiet_step (fail)
        go_big_quiet_step (fail)
        go_big_quiet_step (fail)
        go_big_quiet_step (fail)
        go_big_quiet_step (fail)
        go_big_quiet_step (fail)
        refine wpQuiet_nil ?_
        rintro w7 ⟨x7, e7⟩
        have b7 := x7.b
        rw [← e7] at b7
        clear e7 x7
        go_wp2_with fail
        go_ret
        exact ⟨_, m2, _, rfl, HJ _ _ _ ((T5.rnx hM5 U5 Y).below hM6 b7)⟩
  · go_wp2_with fail
    refine (DFind_any r (strOf KD kl) w5 M5 hM5 T5.R).mono ?_
    rintro e w6 hf
    rcases hf with ⟨i, r2, rfl, hi, Y⟩ | ⟨z2, hz2, rfl, Y⟩
    · have D4 : ∀ M6, Sz w6 M6 → w6.cell? ⟨r.b, 4, none⟩ = some (.slice r2.p r2.n r2.cap) := fun _ _ => by have := Y.at_.c4; rw [Y.sm.1] at this; exact this
      obtain ⟨g, hg⟩ := Y.at_.ptr (by omega)
      have HG := hid hg
      have hce : w6.cell? ⟨g, i * 2 + 1, none⟩ = some (.string (r2.E i).v) := Y.at_.at hg i hi 1 (by omega)
      clear hg
      have hv6 := hv.turn Y.turn (fun h => by have := T1.R.lt hS11 Mv h; omega)
      obtain ⟨q, hq⟩ : ∃ q, ((strOf D m.val).toList == (r2.E i).v.toList) = q := ⟨_, rfl⟩
      have EQ := hid hq
      clear hq
      obtain ⟨M6, hM6⟩ := sz_some w6
      go_upto_region 9 with fail
      refine wp_region_later M6 (by kernel_rfl) (by kernel_rfl) ?_
      go_big_quiet_step (fail)
      go_big_quiet_step (fail)
      go_big_quiet_step (fail)
      go_big_quiet_step (fail)
      go_big_quiet_step (fail)
      go_big_quiet_step (fail)
      go_big_quiet_step (fail)
      go_big_quiet_step (fail)
      go_big_quiet_step (fail)
      go_big_quiet_step (fail)
      go_big_quiet_step (fail)
      go_big_quiet_step (fail)
      go_big_quiet_step (fail)
      go_big_quiet_step (fail)
      go_big_quiet_step (fail)
      go_big_quiet_step (fail)
      refine later_val (v := .string (strOf D m.val)) (fun q => run_cvO (x := .tmp 93) rfl rfl (run_string (P := Tryd.prog) q.w' 35 9 5 undBB undBy undBS (some ⟨Mv, 0, none⟩) m.val m.val D (hv6.below q.b (hv6.ltN hM6)).ats)) (by rfl) ?_; try simp only [pA]
      go_big_quiet_step (fail)
      go_big_quiet_step (fail)
      go_big_quiet_step (fail)
      refine later_val (v := .slice r2.p r2.n r2.cap) (fun q => run_cell1 (x := .tmp 97) 62 rfl rfl undRE rfl (Later.cell hM6 (D4 _ hM6) q)) (by rfl) ?_; try simp only [pA]
      go_big_quiet_step (fail)
      refine later_val (v := .pointer (some ⟨g, i * 2, none⟩)) (fun q => run_iaS2 (x := .tmp 98) (y := .tmp 99) rfl rfl HG.out rfl undRE szRE hi _) (by rfl) ?_; try simp only [pA]
      go_big_quiet_step (fail)
      refine later_val (v := .string (r2.E i).v) (fun q => run_cell1 (x := .tmp 101) 9 rfl rfl undBS rfl (Later.cell hM6 hce q)) (by rfl) ?_; try simp only [pA]
      refine later_val (v := .bool q) (fun q => run_eqT (x := .tmp 94) (y := .tmp 102) rfl rfl rfl EQ.out _) (by rfl) ?_; try simp only [pA]
      go_big_quiet_step (fail)
      go_big_quiet_step (fail)
      go_big_quiet_step (fail)
      go_big_quiet_step (fail)
      refine wpQuiet_nil ?_
      rintro w7 ⟨x7, e7⟩
      have b7 := x7.b
      rw [← e7] at b7
      clear e7 x7
      go_wp2_with fail
      go_ret
      exact ⟨_, m2, _, rfl, HJ _ _ _ ((T5.rnx hM5 U5 Y).below hM6 b7)⟩
    · have E80 := hid (show ((0 : Int) == z2) = false from beq_eq_false_iff_ne.2 (fun e => hz2 e.symm))
      obtain ⟨M6, hM6⟩ := sz_some w6
      go_upto_region 9 with fail
      refine wp_region_later M6 (by kernel_rfl) (by kernel_rfl) ?_
      go_big_quiet_step (fail)
      go_big_quiet_step (fail)
      refine later_val (v := .bool false) (fun q => run_eqK (x := .tmp 78) rfl rfl rfl E80.out _) (by rfl) ?_; try simp only [pA]
      go_big_quiet_step (fail)
      go_big_quiet_step (fail)
      go_big_quiet_step (fail)
      go_big_quiet_step (fail)
      go_big_quiet_step (fail)
      go_big_quiet_step (fail)
      go_big_quiet_step (fail)
      go_big_quiet_step (fail)
      go_big_quiet_step (fail)
      go_big_quiet_step (fail)
      go_big_quiet_step (fail)
      go_big_quiet_step (fail)
      go_big_quiet_step (fail)
      go_big_quiet_step (fail)
      go_big_quiet_step (fail)
      go_big_quiet_step (fail)
      go_big_quiet_step (fail)
      go_big_quiet_step (fail)
      go_big_quiet_step (fail)
      go_big_quiet_step (fail)
      go_big_quiet_step (fail)
      go_big_quiet_step (fail)
      go_big_quiet_step (fail)
      go_big_quiet_step (fail)
      go_big_quiet_step (fail)
      go_big_quiet_step (fail)
      go_big_quiet_step (fail)
      refine wpQuiet_nil ?_
      rintro w7 ⟨x7, e7⟩
      have b7 := x7.b
      rw [← e7] at b7
      clear e7 x7
      go_wp2_with fail
      go_ret
      exact ⟨_, m2, _, rfl, HJ _ _ _ ((T5.rnx hM5 U5 Y).below hM6 b7)⟩
end Go.Proofs.YtjdclgnlnehjlaaDoor
