/- BmapFrozen: the law's do, way 8. BmapFrozen: the law's do, of any act. BmapFrozen: rows of acts; words of the law. -/
import Derived.Test.YtjdclgnlnehjlaaDoorMgFd0
import Derived.Test.YtjdclgnlnehjlaaDoorFd1
import Derived.Test.YtjdclgnlnehjlaaDoorFd2
import Derived.Test.YtjdclgnlnehjlaaDoorMgFd4
import Derived.Test.YtjdclgnlnehjlaaDoorMgFd6
import Derived.Test.YtjdclgnlnehjlaaDoorFd7
namespace Go.Proofs.YtjdclgnlnehjlaaDoor
open Go Go.RowKit
set_option maxRecDepth 100000 in
set_option maxHeartbeats 16000000 in
theorem do_8 (what : Int) (hw : IntKind.u64.wrap what % 9 = 8) (kq : Option Addr) (kn kc : Nat) (vq : Option Addr) (vn vc : Nat) (fl : Int) (raw : Bool) (hkc : kn ≤ kc) (hvc : vn ≤ vc) (hfl : 0 ≤ fl) (KD0 VD0 : Nat → BitVec 8) (P : Nat → Prop) (wa : World) (m0 m : Mp) (r0 r : Rm) (w : World) (N : Nat) (hN : Sz w N) (hT : Two P wa m0 r0 w m r) (U0 : ∀ x, N ≤ x → P x) (hK : Ats w kq kn (fun j => By (KD0 j))) (hV : Ats w vq vn (fun j => By (VD0 j))) :
    Calls Tryd.prog 10 #[.agg (cellsOf (acC what kq kn kc vq vn vc fl raw) 5), .pointer (some ⟨m.b, 0, none⟩), .pointer (some ⟨r.b, 0, none⟩)] w (DoR P wa m0 r0) := by
  obtain ⟨_, aw1, aw2⟩ := rwAct
  have AW1 := hid aw1
  have AW2 := hid aw2
  clear aw1 aw2
  have HW := hid hw
  clear hw
  go_enter Tryd.func10, Tryd.ntmps10
  go_upto_region 1 with (first
    | ((with_reducible show wpList _ _ _ (_ :: _) _ _); first
      | (refine wpl_box rfl 38 (.tmp 0) rfl 5 (acC what kq kn kc vq vn vc fl raw) rfl N hN ?_; intro w1 hM1 b1 k1; refine id ?_; try simp only [pA]))
    | fail)
  have TS := hT.start hN b1
  have hPN := hT.notP hN
  have hr16 := hT.R.sm.1
  have hr64 := hT.R.sm.2.1
  refine wp_region_inn (fun w' => Below (N + 1) w1 w') (Below.refl (N + 1) w1).drew (by kernel_rfl) ?_
  have hne := inn_ne (I := fun w' => Below (N + 1) w1 w') (Below.refl (N + 1) w1)
  refine anyI_reads [0, 1, 2, 3, 4, 6, 7, 8, 9, 10] _ _ _ (Below.refl (N + 1) w1).drew (by kernel_rfl) (fun _ _ _ d _ h => by cases d <;> exact h) ?_
  simp only [pickO, List.map_cons, List.map_nil, List.getElem?_toArray, List.getElem?_cons_succ, List.getElem?_cons_zero, Option.getD_some, Act.put, List.setIfInBounds_toArray, List.set_cons_succ, List.set_cons_zero]
  repeat first
    | (refine inn_val (fun x => run_ld 38 (.tmp 3) rfl N rfl 38 5 _ (k1.below x.h (by omega)) _ AW1.out AW2.out szAct) (by rfl) ?_; simp only [Act.put, List.setIfInBounds_toArray, List.set_cons_succ, List.set_cons_zero])
    | (refine inn_val (fun x => run_ldS (.tmp 31) rfl rfl ((TS.R.below hM1 x.h).h)) (by rfl) ?_; simp only [Act.put, List.setIfInBounds_toArray, List.set_cons_succ, List.set_cons_zero])
    | (refine inn_val (fun x => run_ldS (.tmp 37) rfl rfl ((TS.R.below hM1 x.h).h)) (by rfl) ?_; simp only [Act.put, List.setIfInBounds_toArray, List.set_cons_succ, List.set_cons_zero])
    | go_big_quiet_step (fail)
  refine wpQuiet_nil ?_
  clear hne
  refine anyI_part [5] _ _ _ _ (by kernel_rfl) ?_
  simp only [List.filterMap_cons, List.filterMap_nil, List.getElem?_toArray, List.getElem?_cons_succ, List.getElem?_cons_zero]
  change wpList _ _ _ [_] _ _
  go_wp2_with fail
  refine (key_any what kq kn kc vq vn vc fl raw _ _ _ r.key hr16 hkc KD0 w1.drew (N + 1) hM1 (hK.below hN b1.drew)).mono ?_
  rintro e w2 ⟨⟨KD, kl, hkl, rfl⟩, b2⟩
  dsimp only
  go_step
  have B2 := (Below.refl (N + 1) w1).drew.trans b2
  obtain ⟨M2, hM2⟩ := sz_some w2
  have L2 := below_sz B2 hM1 hM2
  refine ⟨B2, ?_⟩
  change anyI _ _ _ _ _ _ _ _ _
  try simp only [pA]
  refine anyI_part [11] _ _ _ _ (by kernel_rfl) ?_
  simp only [List.filterMap_cons, List.filterMap_nil, List.getElem?_toArray, List.getElem?_cons_succ, List.getElem?_cons_zero]
  change wpList _ _ _ [_] _ _
  go_wp2_with fail
  refine (val_any what kq kn kc vq vn vc fl raw _ _ _ r.val hr64 hvc VD0 _ M2 hM2 ((hV.below hN b1).below hM1 B2)).mono ?_
  rintro e w3 ⟨⟨VD, vl, hvl, rfl⟩, b3⟩
  dsimp only
  go_step
  have B3 := B2.trans (b3.mono L2)
  refine ⟨B3, ?_⟩
  change anyI _ _ _ _ _ _ _ _ _
  try simp only [pA]
  refine anyI_part [12] _ _ _ _ (by kernel_rfl) ?_
  simp only [List.filterMap_cons, List.filterMap_nil, List.getElem?_toArray, List.getElem?_cons_succ, List.getElem?_cons_zero]
  change wpList _ _ _ [_] _ _
  refine wpl_pure rfl (v := .string (strOf KD kl)) (by intro w; first | rfl | (go_simp; first | done | with_reducible rfl)) ?_
  refine ⟨B3, ?_⟩
  change anyI _ _ _ _ _ _ _ _ _
  try simp only [pA]
  refine anyI_part [13] _ _ _ _ (by kernel_rfl) ?_
  simp only [List.filterMap_cons, List.filterMap_nil, List.getElem?_toArray, List.getElem?_cons_succ, List.getElem?_cons_zero]
  change wpList _ _ _ [_] _ _
  refine wpl_pure rfl (v := .string (strOf VD vl)) (by intro w; first | rfl | (go_simp; first | done | with_reducible rfl)) ?_
  refine ⟨B3, ?_⟩
  change anyI _ _ _ _ _ _ _ _ _
  try simp only [pA]
  refine anyI_done (by kernel_rfl) ?_
  try simp only [pA]
  have T := TS.below hM1 B3
  obtain ⟨M, hM⟩ := sz_some w3
  have LM := below_sz B3 hM1 hM
  have U : ∀ x, M ≤ x → P1 m r N x := fun x hx => .inr (.inr (by omega))
  have ca := hid (k1.below B3 (by omega))
  have HJ : ∀ w9 m9 r9, Two (P1 m r N) w1 m r w9 m9 r9 → Two P wa m0 r0 w9 m9 r9 := fun w9 m9 r9 h => hT.join hN b1 U0 h
  clear TS B2 b2 b3 hM2 L2 hK hV hr16 hr64 hkc hvc
  go_upto_region 29 with (first
    | ((with_reducible show wpList _ _ _ (_ :: _) _ _); first
      | (refine wpl_run rfl (.int .i64 what) _ (run_cell1 (x := .tmp 40) 3 rfl rfl undIt rfl (ca.out.cell (j := 0) (by omega))) ?_; try simp only [pA])
      | (refine wpl_run rfl (.int .u64 (IntKind.u64.wrap what)) _ (run_cvU (x := .tmp 41) rfl undInt64 undU64t rfl) ?_; try simp only [pA])
      | (refine wpl_remQ rfl (.tmp 42) (.const (.int .u64 9)) rfl (IntKind.u64.wrap what) 9 rfl rfl (u64_pos what) (by omega) (by omega) ?_; intro c hc Hc; have HC := hid (show c = 8 by have := Hc.out; have := HW.out; omega); refine id ?_; try simp only [pA])
      | (refine wpl_run rfl (.int .i64 (c : Int)) _ (run_cvI (x := .tmp 43) rfl undU64t undInt64 rfl (by omega)) ?_; try simp only [pA])
      | (refine wpl_run rfl (.bool false) _ (run_eqK (x := .tmp 44) rfl rfl rfl (by rw [HC.out]; rfl) _) ?_; try simp only [pA])
      | (refine wpl_run rfl (.bool true) _ (run_eqK (x := .tmp 44) rfl rfl rfl (by rw [HC.out]; rfl) _) ?_; try simp only [pA]))
    | fail)
  clear Hc HC hc HW AW1 AW2
  obtain ⟨cap11, w11, hr11, hS11, hb11, ra11⟩ := run_raw (P := Tryd.prog) 9 35 undBS undBB undBy w3 M hM KD kl
  have T1 := T.below hM hb11
  have U1 : ∀ x, M + 1 ≤ x → P1 m r N x := fun x hx => U x (by omega)
  go_wp2_with (first
    | ((with_reducible show wpList _ _ _ (_ :: _) _ _); first
      | (refine wpl_conv2 rfl 9 35 (.tmp 200) rfl _ _ _ rfl hr11 ?_; try simp only [pA]))
    | fail)
  refine (Cell_any m T1.I KD kl (some ⟨M, 0, none⟩) cap11 _ (M + 1) hS11 T1.A ra11.ats).mono ?_
  rintro e w5 ⟨m2, hl, X⟩
  have T5 := T1.nx hS11 U1 X
  obtain ⟨M5, hM5⟩ := sz_some w5
  have U5 : ∀ x, M5 ≤ x → P1 m r N x := fun x hx => .inr (.inr (Nat.le_trans (T5.le hM1 hM5) hx))
  rcases hl with ⟨z, hz, rfl, _⟩ | ⟨k0, k, _, hk, ek, _, he⟩
  · go_wp2_with fail
    refine (DFind_any r (strOf KD kl) w5 M5 hM5 T5.R).mono ?_
    rintro e w6 hf
    rcases hf with ⟨i, r2, rfl, hi, Y⟩ | ⟨z2, hz2, rfl, Y⟩
    · have E := hid (show (z != 0) = true from bne_iff_ne.2 hz)
      go_wp2_with (first
        | ((with_reducible show wpList _ _ _ (_ :: _) _ _); first
          | (refine wpl_run rfl (.bool true) _ (run_neqZ (x := .tmp 211) rfl rfl rfl E.out _) ?_; try simp only [pA]))
        | fail)
      go_ret
      exact ⟨_, m2, _, rfl, HJ _ _ _ (T5.rnx hM5 U5 Y)⟩
    · obtain ⟨q, hq⟩ : ∃ q, (z != z2) = q := ⟨_, rfl⟩
      have EQ := hid hq
      have EN := hid (show (z == 0) = false from beq_eq_false_iff_ne.2 hz)
      clear hq
      cases q
      · go_wp2_with (first
          | ((with_reducible show wpList _ _ _ (_ :: _) _ _); first
            | (refine wpl_run rfl (.bool false) _ (run_neqZ (x := .tmp 211) rfl rfl rfl EQ.out _) ?_; try simp only [pA])
            | (refine wpl_want (by rfl) ?_; refine wpl_run rfl (.bool false) _ (run_eqK (x := .tmp 215) rfl rfl rfl EN.out _) ?_; try simp only [pA])
            | (refine wpl_run rfl (.bool false) _ (run_eqK (x := .tmp 221) rfl rfl rfl EN.out _) ?_; try simp only [pA]))
          | fail)
        go_ret
        exact ⟨_, m2, _, rfl, HJ _ _ _ (T5.rnx hM5 U5 Y)⟩
      · go_wp2_with (first
          | ((with_reducible show wpList _ _ _ (_ :: _) _ _); first
            | (refine wpl_run rfl (.bool true) _ (run_neqZ (x := .tmp 211) rfl rfl rfl EQ.out _) ?_; try simp only [pA]))
          | fail)
        go_ret
        exact ⟨_, m2, _, rfl, HJ _ _ _ (T5.rnx hM5 U5 Y)⟩
  · rw [← ek] at he
    subst he
    clear ek
    go_wp2_with fail
    refine (DFind_any r (strOf KD kl) w5 M5 hM5 T5.R).mono ?_
    rintro e w6 hf
    rcases hf with ⟨i, r2, rfl, hi, Y⟩ | ⟨z2, hz2, rfl, Y⟩
    · have T6 := T5.rnx hM5 U5 Y
      obtain ⟨M6, hM6⟩ := sz_some w6
      have eb : r2.b = r.b := Y.sm.1
      obtain ⟨g, hg⟩ := T6.R.ptr (by omega)
      have HG := hid hg
      have v1 := T6.I.sp.v1
      obtain ⟨bb, ebb⟩ : ∃ bb, (m2.E k).b = bb := ⟨_, rfl⟩
      obtain ⟨cb, ecb⟩ : ∃ cb, (m2.E k).c = cb := ⟨_, rfl⟩
      obtain ⟨D, eD⟩ : ∃ D, (m2.E k).v = D := ⟨_, rfl⟩
      have CB : ∀ wv, MpAt wv m2 → wv.cell? ⟨cb, 0, none⟩ = some (.slice (some ⟨bb, 0, none⟩) m2.val m2.val) := fun wv h => by rw [← ebb, ← ecb]; exact (h.c k hk).cell (by omega)
      have VB : ∀ wv, MpAt wv m2 → Has wv bb 5 m2.val (fun j => By (D j)) := fun wv h => by rw [← ebb, ← eD]; exact h.v k hk
      have LB : ∀ wv, RmAt wv r2 → wv.cell? ⟨r.b, 4, none⟩ = some (.slice r2.p r2.n r2.cap) := fun wv h => by rw [← eb]; exact h.c4
      obtain ⟨t, et⟩ : ∃ t, (r2.E i).v = t := ⟨_, rfl⟩
      have SB : ∀ wv, RmAt wv r2 → wv.cell? ⟨g, i * 2 + 1, none⟩ = some (.string t) := fun wv h => by rw [← et]; exact h.at HG.out i hi 1 (by omega)
      rw [ecb]
      have EBB := hid ebb
      clear et hg X Y T1 T ebb ecb eD ca
      obtain ⟨rr, hrr⟩ : ∃ rr, (!((strOf D m2.val).toList == t.toList)) = rr := ⟨_, rfl⟩
      have HR := hid hrr
      clear hrr
      go_upto_region 34 with fail
      refine wp_region_later M6 (by kernel_rfl) (by kernel_rfl) ?_
      go_big_quiet_step (fail)
      go_big_quiet_step (fail)
      go_big_quiet_step (fail)
      refine later_val (v := .slice (some ⟨bb, 0, none⟩) m2.val m2.val) (fun q => run_cell1 (x := .tmp 225) 35 rfl rfl undBB rfl (CB _ (T6.A.below hM6 q.b))) (by rfl) ?_; try simp only [pA]
      refine later_val (v := .string (strOf D m2.val)) (fun q => run_cvO (x := .tmp 226) rfl rfl (run_string (P := Tryd.prog) q.w' 35 9 5 undBB undBy undBS (some ⟨bb, 0, none⟩) m2.val m2.val D (VB _ (T6.A.below hM6 q.b)).ats)) (by rfl) ?_; try simp only [pA]
      go_big_quiet_step (fail)
      go_big_quiet_step (fail)
      go_big_quiet_step (fail)
      refine later_val (v := .slice r2.p r2.n r2.cap) (fun q => run_cell1 (x := .tmp 230) 62 rfl rfl undRE rfl (LB _ (T6.R.below hM6 q.b))) (by rfl) ?_; try simp only [pA]
      go_big_quiet_step (fail)
      refine later_val (v := .pointer (some ⟨g, i * 2, none⟩)) (fun q => run_iaS2 (x := .tmp 231) (y := .tmp 232) rfl rfl HG.out rfl undRE szRE hi _) (by rfl) ?_; try simp only [pA]
      go_big_quiet_step (fail)
      refine later_val (v := .string t) (fun q => run_cell1 (x := .tmp 234) 9 rfl rfl undBS rfl (SB _ (T6.R.below hM6 q.b))) (by rfl) ?_; try simp only [pA]
      refine later_val (v := .bool rr) (fun q => run_neT (x := .tmp 227) (y := .tmp 235) rfl rfl rfl HR.out _) (by rfl) ?_; try simp only [pA]
      refine wpQuiet_nil ?_
      rintro w7 ⟨x7, e7⟩
      have b7 := x7.b
      rw [← e7] at b7
      clear e7 x7
      have T7 := T6.below hM6 b7
      clear T6 T5 b7 hM5 U5 hM6
      obtain ⟨M7, hM7⟩ := sz_some w7
      have U7 : ∀ x, M7 ≤ x → P1 m r N x := fun x hx => .inr (.inr (Nat.le_trans (T7.le hM1 hM7) hx))
      cases rr
      · have et : t = strOf D m2.val := by
          have h := HR.out
          simp only [Bool.not_eq_false', beq_iff_eq] at h
          exact (tl_inj h).symm
        subst et
        have c7 := CB _ T7.A
        have v7 := VB _ T7.A
        have d7 : w7.cell? ⟨bb, 0, none⟩ = some (By (D 0)) := v7.cell (j := 0) (by omega)
        go_upto_region 37 with (first
          | ((with_reducible show wpList _ _ _ (_ :: _) _ _); first
            | (refine wpl_run rfl (.slice (some ⟨bb, 0, none⟩) m2.val m2.val) _ (run_cell1 (x := .tmp 239) 35 rfl rfl undBB rfl c7) ?_; try simp only [pA])
            | (refine wpl_run rfl (.pointer (some ⟨bb, 0, none⟩)) _ (run_iaS0 (k := 0) (x := .tmp 240) (y := .const (.int .i64 0)) rfl rfl rfl undBB szBy (by omega) _) ?_; try simp only [pA])
            | (refine wpl_run rfl (By (D 0)) _ (run_cell1 (x := .tmp 241) 5 rfl rfl undBy rfl d7) ?_; try simp only [pA])
            | (refine wpl_run rfl (By (D 0 ^^^ 1#8)) _ (run_xor1 (x := .tmp 242) rfl rfl rfl _) ?_; try simp only [pA])
            | (refine wpl_set rfl 5 (.tmp 244) (.tmp 243) rfl bb 0 rfl (By (D 0 ^^^ 1#8)) rfl szBy rfl rfl 5 m2.val (fun j => By (D j)) v7 (by omega) ?_; intro w8 t8 h8; refine id ?_; try simp only [pA]))
          | fail)
        have X8 := (nx_same T7.I T7.A M7 hM7).setv (X := updB D 0 (D 0 ^^^ 1#8)) hM7 hk (by rw [EBB.out]; exact t8) (by rw [EBB.out]; exact h8.congr (fun j _ => by unfold upd updB; split <;> rfl))
        have T8 := T7.nx hM7 U7 X8
        obtain ⟨M8, hM8⟩ := sz_some w8
        have U8 : ∀ x, M8 ≤ x → P1 m r N x := fun x hx => .inr (.inr (Nat.le_trans (T8.le hM1 hM8) hx))
        have l8 := LB _ T8.R
        have s8 := SB _ T8.R
        clear X8 t8 h8 v7 d7 c7 T7 U7 hM7
        obtain ⟨cap13, w13, hr13, hS13, hb13, ra13⟩ := run_raw (P := Tryd.prog) 9 35 undBS undBB undBy w8 M8 hM8 D m2.val
        have d13 : w13.cell? ⟨M8, 0, none⟩ = some (By (D 0)) := ra13.cell (by omega)
        go_upto_region 39 with (first
          | ((with_reducible show wpList _ _ _ (_ :: _) _ _); first
            | (refine wpl_run rfl (.slice r2.p r2.n r2.cap) _ (run_cell1 (x := .tmp 247) 62 rfl rfl undRE rfl l8) ?_; try simp only [pA])
            | (refine wpl_run rfl (.pointer (some ⟨g, i * 2, none⟩)) _ (run_iaS2 (x := .tmp 248) (y := .tmp 249) rfl rfl HG.out rfl undRE szRE hi _) ?_; try simp only [pA])
            | (refine wpl_run rfl (.string (strOf D m2.val)) _ (run_cell1 (x := .tmp 251) 9 rfl rfl undBS rfl s8) ?_; try simp only [pA])
            | (refine wpl_conv2 rfl 9 35 (.tmp 252) rfl _ _ _ rfl hr13 ?_; try simp only [pA])
            | (refine wpl_run rfl (.pointer (some ⟨M8, 0, none⟩)) _ (run_iaS0 (k := 0) (x := .tmp 254) (y := .const (.int .i64 0)) rfl rfl rfl undBB szBy (by omega) _) ?_; try simp only [pA])
            | (refine wpl_run rfl (By (D 0)) _ (run_cell1 (x := .tmp 255) 5 rfl rfl undBy rfl d13) ?_; try simp only [pA])
            | (refine wpl_run rfl (By (D 0 ^^^ 1#8)) _ (run_xor1 (x := .tmp 256) rfl rfl rfl _) ?_; try simp only [pA])
            | (refine wpl_setR rfl 5 (.tmp 258) (.tmp 257) rfl M8 0 rfl (By (D 0 ^^^ 1#8)) rfl szBy rfl rfl m2.val _ ra13 (by omega) ?_; intro w14 t14 r14; replace r14 := r14.byB; refine id ?_; try simp only [pA]))
          | fail)
        have T14 := T8.below hM8 (t14.below hb13 (Nat.le_refl M8))
        obtain ⟨M14, hM14⟩ := sz_some w14
        have U14 : ∀ x, M14 ≤ x → P1 m r N x := fun x hx => .inr (.inr (Nat.le_trans (T14.le hM1 hM14) hx))
        generalize updB D 0 (D 0 ^^^ 1#8) = D2 at *
        clear d13 ra13 hb13 hS13 hr13 t14 l8 s8 T8 U8 hM8 CB VB
        refine wp_region_later_tail M14 7 (by kernel_rfl) (by kernel_rfl) ?_
        simp only [List.take_succ_cons, List.take_zero, List.drop_succ_cons, List.drop_zero]
        go_big_quiet_step (fail)
        go_big_quiet_step (fail)
        go_big_quiet_step (fail)
        refine later_val (v := .slice r2.p r2.n r2.cap) (fun q => run_cell1 (x := .tmp 261) 62 rfl rfl undRE rfl (LB _ (T14.R.below hM14 q.b))) (by rfl) ?_; try simp only [pA]
        go_big_quiet_step (fail)
        go_big_quiet_step (fail)
        refine later_val (v := .string (strOf D2 m2.val)) (fun q => run_cvO (x := .tmp 264) rfl rfl (run_string (P := Tryd.prog) q.w' 35 9 5 undBB undBy undBS (some ⟨M8, 0, none⟩) m2.val cap13 D2 (r14.below q.b (r14.ltN hM14)).ats)) (by rfl) ?_; try simp only [pA]
        refine wpQuiet_nil ?_
        rintro w15 ⟨x15, e15⟩
        have b15 := x15.b
        rw [← e15] at b15
        clear e15 x15
        have T15 := T14.below hM14 b15
        obtain ⟨M15, hM15⟩ := sz_some w15
        have U15 : ∀ x, M15 ≤ x → P1 m r N x := fun x hx => .inr (.inr (Nat.le_trans (T15.le hM1 hM15) hx))
        have o15 := T15.R.e
        rw [HG.out] at o15
        clear r14 b15 T14 U14 hM14
        go_wp2_with (first
          | ((with_reducible show wpList _ _ _ (_ :: _) _ _); first
            | (refine wpl_run rfl (.pointer (some ⟨g, i * 2, none⟩)) _ (run_iaS2 (x := .tmp 262) (y := .tmp 263) rfl rfl HG.out rfl undRE szRE hi _) ?_; try simp only [pA])
            | (refine wpl_setK rfl 9 (.tmp 267) (.tmp 265) rfl g (i * 2 + 1) rfl (.string (strOf D2 m2.val)) rfl szStr1 rfl rfl 66 2 r2.n r2.cap (reC r2.E) o15 (by omega) ?_; intro w16 t16 o16; refine id ?_; try simp only [pA]))
          | fail)
        go_ret
        exact ⟨_, _, _, rfl, HJ _ _ _ (T15.rnx hM15 U15 ((RNx.stay hM15 T15.R (Below.refl _ _)).setv hM15 hi HG.out t16 o16))⟩
      · go_wp2_with fail
        go_ret
        exact ⟨_, m2, _, rfl, HJ _ _ _ T7⟩
    · have E := hid (show ((0 : Int) != z2) = true from bne_iff_ne.2 (fun e => hz2 e.symm))
      go_wp2_with (first
        | ((with_reducible show wpList _ _ _ (_ :: _) _ _); first
          | (refine wpl_run rfl (.bool true) _ (run_neqZ (x := .tmp 211) rfl rfl rfl E.out _) ?_; try simp only [pA]))
        | fail)
      go_ret
      exact ⟨_, m2, _, rfl, HJ _ _ _ (T5.rnx hM5 U5 Y)⟩
end Go.Proofs.YtjdclgnlnehjlaaDoor
namespace Go.Proofs.YtjdclgnlnehjlaaDoor
open Go Go.RowKit
theorem do_any (what : Int) (kq : Option Addr) (kn kc : Nat) (vq : Option Addr) (vn vc : Nat) (fl : Int) (raw : Bool) (hkc : kn ≤ kc) (hvc : vn ≤ vc) (hfl : 0 ≤ fl) (KD0 VD0 : Nat → BitVec 8) (P : Nat → Prop) (wa : World) (m0 m : Mp) (r0 r : Rm) (w : World) (N : Nat) (hN : Sz w N) (hT : Two P wa m0 r0 w m r) (U0 : ∀ x, N ≤ x → P x) (hK : Ats w kq kn (fun j => By (KD0 j))) (hV : Ats w vq vn (fun j => By (VD0 j))) :
    Calls Tryd.prog 10 #[.agg (cellsOf (acC what kq kn kc vq vn vc fl raw) 5), .pointer (some ⟨m.b, 0, none⟩), .pointer (some ⟨r.b, 0, none⟩)] w (DoR P wa m0 r0) := by
  have h0 := u64_pos what
  rcases (show IntKind.u64.wrap what % 9 = 0 ∨ IntKind.u64.wrap what % 9 = 1 ∨ IntKind.u64.wrap what % 9 = 2 ∨ IntKind.u64.wrap what % 9 = 3 ∨ IntKind.u64.wrap what % 9 = 4 ∨ IntKind.u64.wrap what % 9 = 5 ∨ IntKind.u64.wrap what % 9 = 6 ∨ IntKind.u64.wrap what % 9 = 7 ∨ IntKind.u64.wrap what % 9 = 8 by omega) with h | h | h | h | h | h | h | h | h
  · exact do_0 what h kq kn kc vq vn vc fl raw hkc hvc hfl KD0 VD0 P wa m0 m r0 r w N hN hT U0 hK hV
  · exact do_1 what h kq kn kc vq vn vc fl raw hkc hvc hfl KD0 VD0 P wa m0 m r0 r w N hN hT U0 hK hV
  · exact do_2 what h kq kn kc vq vn vc fl raw hkc hvc hfl KD0 VD0 P wa m0 m r0 r w N hN hT U0 hK hV
  · exact do_3 what h kq kn kc vq vn vc fl raw hkc hvc hfl KD0 VD0 P wa m0 m r0 r w N hN hT U0 hK hV
  · exact do_4 what h kq kn kc vq vn vc fl raw hkc hvc hfl KD0 VD0 P wa m0 m r0 r w N hN hT U0 hK hV
  · exact do_5 what h kq kn kc vq vn vc fl raw hkc hvc hfl KD0 VD0 P wa m0 m r0 r w N hN hT U0 hK hV
  · exact do_6 what h kq kn kc vq vn vc fl raw hkc hvc hfl KD0 VD0 P wa m0 m r0 r w N hN hT U0 hK hV
  · exact do_7 what h kq kn kc vq vn vc fl raw hkc hvc hfl KD0 VD0 P wa m0 m r0 r w N hN hT U0 hK hV
  · exact do_8 what h kq kn kc vq vn vc fl raw hkc hvc hfl KD0 VD0 P wa m0 m r0 r w N hN hT U0 hK hV
end Go.Proofs.YtjdclgnlnehjlaaDoor
namespace Go.Proofs.YtjdclgnlnehjlaaDoor
open Go Go.RowKit
structure Av where
  what : Int
  kq : Option Addr
  kn : Nat
  kc : Nat
  KD : Nat → BitVec 8
  vq : Option Addr
  vn : Nat
  vc : Nat
  VD : Nat → BitVec 8
  fl : Int
  raw : Bool
def avC (a : Av) : Nat → Value := acC a.what a.kq a.kn a.kc a.vq a.vn a.vc a.fl a.raw
structure AvOk (w : World) (a : Av) : Prop where
  kc : a.kn ≤ a.kc
  vc : a.vn ≤ a.vc
  fl : 0 ≤ a.fl
  k : Ats w a.kq a.kn (fun j => By (a.KD j))
  v : Ats w a.vq a.vn (fun j => By (a.VD j))
/-- A row of acts. -/
structure ActsAt (w : World) (p : Option Addr) (n : Nat) (A : Nat → Av) : Prop where
  c : 0 < n → ∃ g off, p = some ⟨g, off, none⟩ ∧ ∀ i, i < n → ∀ j, j < 5 → w.cell? ⟨g, off + i * 5 + j, none⟩ = some (avC (A i) j)
  ok : ∀ i, i < n → AvOk w (A i)
section
variable {w w' : World} {p : Option Addr} {n N : Nat} {A : Nat → Av}
theorem AvOk.below {a : Av} (h : AvOk w a) (hN : Sz w N) (hb : Below N w w') : AvOk w' a := ⟨h.kc, h.vc, h.fl, h.k.below hN hb, h.v.below hN hb⟩
theorem ActsAt.below (h : ActsAt w p n A) (hN : Sz w N) (hb : Below N w w') : ActsAt w' p n A :=
  ⟨fun h0 => by
    obtain ⟨g, off, e, hc⟩ := h.c h0
    refine ⟨g, off, e, fun i hi j hj => ?_⟩
    have := hc i hi j hj
    have hl := World.block_lt_of_cell? w _ this
    rw [hb.cell (p := ⟨g, off + i * 5 + j, none⟩) (by have e2 : w.heap.size = N := hN; simp only at hl ⊢; omega)]
    exact this, fun i hi => (h.ok i hi).below hN hb⟩
theorem avC_one (a : Av) (j : Nat) : (avC a j).oneCell' = true := by unfold avC acC; split; rfl; split; rfl; split; rfl; split <;> rfl
theorem Two.bel {P : Nat → Prop} {wa w : World} {m0 m : Mp} {r0 r : Rm} {B : Nat} (h : Two P wa m0 r0 w m r) (hP : ∀ x, P x → B ≤ x) (hB : B ≤ wa.heap.size) : Below B wa w := h.t.below (Below.refl B wa) hP hB
theorem zeAct : (Tryd.prog.info? 38).map (fun i => (i.zero, i.size)) = some (some (.agg (cellsOf (acC 0 none 0 0 none 0 0 0 false) 5)), 5) := by kernel_rfl
theorem zeSum : (Tryd.prog.info? 40).map (fun i => (i.zero, i.size)) = some (some (.agg (cellsOf (fun _ => By 0#8) 32)), 32) := by kernel_rfl
theorem szSum : (Tryd.prog.info? 40).map (·.size) = some 32 := by kernel_rfl
theorem rwSum : ∃ d, Tryd.prog.underlying 40 = some d ∧ d.isRow = true := row_ofS (by kernel_rfl)
theorem undActs : Tryd.prog.underlying 24 = some (.slice 38) := by kernel_rfl
end
section
variable {P : Program} {a : Act} {o : Oper} {x y : Operand} {T ty : TypeId}
theorem run_ia5 {e : TypeId} {g off n' c k : Nat} {b : Option Addr} (ho : o.op = .indexAddr T x y) (hx : a.eval x = .slice b n' c) (hb : b = some ⟨g, off, none⟩) (hy : a.eval y = .int .i64 (k : Int)) (hu : P.underlying T = some (.slice e)) (hs : (P.info? e).map (·.size) = some 5) (hk : k < n') (w : World) : (execOp a.eval o).run P w = .ok (.value (.pointer (some ⟨g, off + k * 5, none⟩))) w := by
  subst hb
  cases hq : P.info? e with
  | none => rw [hq] at hs; cases hs
  | some u =>
    rw [hq] at hs
    have h1 : u.size = 5 := by simpa using hs
    have h2 : ¬ (n' ≤ k) := by omega
    unfold execOp
    simp only [ho, hx, hy]
    simp [Instr.indexAt, Instr.sureAddr, asIntOf, Sem.run_bind, run_underlying hu, sizeOf, typeInfo, hq, h1, Addr.add, h2, hk]
    try exact fun h => h.symm
theorem run_neq_op' {a : Act} {w : World} (t ty : TypeId) (x y : Operand) (ho : o.op = .binOp .neq t x y ty) (A B : Array Value) (hx : a.eval x = .agg A) (hy : a.eval y = .agg B) (r : Bool) (hm : P.eqGuardType P.depth t = false) (h : (Op.equalIn 10000 t (.agg A) (.agg B)).run P w = .ok r w) :
    (execOp a.eval o).run P w = .ok (.value (.bool (!r))) w := by
  unfold execOp
  simp only [ho, hx, hy, Sem.run_bind, run_eqGuard_agg w _ t x y A B hm, run_neq_struct, h, Result.andThen_ok, Sem.run_pure]
theorem run_remI9 {z : Int} (ho : o.op = .binOp .rem T x y ty) (hx : a.eval x = .int .i64 z) (hy : a.eval y = .int .i64 9) (w : World) : (execOp a.eval o).run P w = .ok (.value (.int .i64 (z.tmod 9))) w := by
  unfold execOp; simp only [ho, hx, hy]; clear ho hx hy; go_simp
end
section
variable {m : Mp} {b : Nat}
theorem FzU (hf : m.fz = true) (hb : m.b = b) (wv : World) (hA : MpAt wv m) (u v f : Value) : Calls Tryd.prog 19 #[.pointer (some ⟨b, 0, none⟩), u, v, f] wv fun e w' => e = .returned (.int .i64 1) ∧ w' = wv := by
  subst hb; exact (Upd_frozen m hf u v f wv hA).mono fun e w' ⟨he, hw⟩ => ⟨he, hw.symm⟩
theorem FzD (hf : m.fz = true) (hb : m.b = b) (wv : World) (hA : MpAt wv m) (u : Value) : Calls Tryd.prog 20 #[.pointer (some ⟨b, 0, none⟩), u] wv fun e w' => e = .returned (.int .i64 1) ∧ w' = wv := by
  subst hb; exact (Del_frozen m hf wv hA u).mono fun e w' ⟨he, hw⟩ => ⟨he, hw.symm⟩
theorem FzP (hf : m.fz = true) (hb : m.b = b) (wv : World) (hA : MpAt wv m) (u f : Value) : Calls Tryd.prog 21 #[.pointer (some ⟨b, 0, none⟩), u, f] wv fun e w' => e = .returned (.int .i64 1) ∧ w' = wv := by
  subst hb; exact (Push_frozen m hf wv hA u f).mono fun e w' ⟨he, hw⟩ => ⟨he, hw.symm⟩
theorem FzO (hf : m.fz = true) (hb : m.b = b) (wv : World) (hA : MpAt wv m) : Calls Tryd.prog 18 #[.pointer (some ⟨b, 0, none⟩)] wv fun e w' => e = .returned (.tuple #[.slice none 0 0, .int .i64 1]) ∧ w' = wv := by
  subst hb; exact (Pop_frozen m hf wv hA).mono fun e w' ⟨he, hw⟩ => ⟨he, hw.symm⟩
theorem FzF (hf : m.fz = true) (hb : m.b = b) (wv : World) (hA : MpAt wv m) : Calls Tryd.prog 12 #[.pointer (some ⟨b, 0, none⟩)] wv fun e w' => e = .returned (.int .i64 16) ∧ w' = wv := by
  subst hb; exact (Freeze_frozen m hf wv hA).mono fun e w' ⟨he, hw⟩ => ⟨he, hw.symm⟩
theorem FzS {SD : Nat → BitVec 8} (hI : FInv m) (hs : sumF m = SD) (hb : m.b = b) (wv : World) (K : Nat) (hK : Sz wv K) (hA : MpAt wv m) (hT : Tabs wv) : Calls Tryd.prog 11 #[.pointer (some ⟨b, 0, none⟩)] wv fun e w' => e = .returned (.agg (cellsOf (fun j => By (SD j)) 32)) ∧ Below K wv w' := by
  subst hb; subst hs; exact MSumF hI hA hK hT
end
end Go.Proofs.YtjdclgnlnehjlaaDoor
