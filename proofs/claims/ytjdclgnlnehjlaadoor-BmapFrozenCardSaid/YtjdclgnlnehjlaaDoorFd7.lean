/- BmapFrozen: the law's do, way 7. -/
import Derived.Test.YtjdclgnlnehjlaaDoorMgFd0
namespace Go.Proofs.YtjdclgnlnehjlaaDoor
open Go Go.RowKit
set_option maxRecDepth 100000 in
set_option maxHeartbeats 16000000 in
theorem do_7 (what : Int) (hw : IntKind.u64.wrap what % 9 = 7) (kq : Option Addr) (kn kc : Nat) (vq : Option Addr) (vn vc : Nat) (fl : Int) (raw : Bool) (hkc : kn ≤ kc) (hvc : vn ≤ vc) (hfl : 0 ≤ fl) (KD0 VD0 : Nat → BitVec 8) (P : Nat → Prop) (wa : World) (m0 m : Mp) (r0 r : Rm) (w : World) (N : Nat) (hN : Sz w N) (hT : Two P wa m0 r0 w m r) (U0 : ∀ x, N ≤ x → P x) (hK : Ats w kq kn (fun j => By (KD0 j))) (hV : Ats w vq vn (fun j => By (VD0 j))) :
    Calls Tryd.prog 10 #[.agg (cellsOf (acC what kq kn kc vq vn vc fl raw) 5), .pointer (some ⟨m.b, 0, none⟩), .pointer (some ⟨r.b, 0, none⟩)] w (DoR P wa m0 r0) := by
  obtain ⟨_, aw1, aw2⟩ := rwAct
  have AW1 := hid aw1
  have AW2 := hid aw2
  clear aw1 aw2
  have HW := hid hw
  clear hw
  go_enter Tryd.func10, Tryd.ntmps10
  go_upto_region 1 with (first
    | ((with_reducible show wpList _ _ _ (_ :: _) _ _); first
      | (refine wpl_box rfl 38 (.tmp 0) rfl 5 (acC what kq kn kc vq vn vc fl raw) rfl N hN ?_; intro w1 hM1 b1 k1; refine id ?_; try simp only [pA]))
    | fail)
  have TS := hT.start hN b1
  have hPN := hT.notP hN
  have hr16 := hT.R.sm.1
  have hr64 := hT.R.sm.2.1
  refine wp_region_inn (fun w' => Below (N + 1) w1 w') (Below.refl (N + 1) w1).drew (by kernel_rfl) ?_
  have hne := inn_ne (I := fun w' => Below (N + 1) w1 w') (Below.refl (N + 1) w1)
  refine anyI_reads [0, 1, 2, 3, 4, 6, 7, 8, 9, 10] _ _ _ (Below.refl (N + 1) w1).drew (by kernel_rfl) (fun _ _ _ d _ h => by cases d <;> exact h) ?_
  simp only [pickO, List.map_cons, List.map_nil, List.getElem?_toArray, List.getElem?_cons_succ, List.getElem?_cons_zero, Option.getD_some, Act.put, List.setIfInBounds_toArray, List.set_cons_succ, List.set_cons_zero]
  repeat first
    | (refine inn_val (fun x => run_ld 38 (.tmp 3) rfl N rfl 38 5 _ (k1.below x.h (by omega)) _ AW1.out AW2.out szAct) (by rfl) ?_; simp only [Act.put, List.setIfInBounds_toArray, List.set_cons_succ, List.set_cons_zero])
    | (refine inn_val (fun x => run_ldS (.tmp 31) rfl rfl ((TS.R.below hM1 x.h).h)) (by rfl) ?_; simp only [Act.put, List.setIfInBounds_toArray, List.set_cons_succ, List.set_cons_zero])
    | (refine inn_val (fun x => run_ldS (.tmp 37) rfl rfl ((TS.R.below hM1 x.h).h)) (by rfl) ?_; simp only [Act.put, List.setIfInBounds_toArray, List.set_cons_succ, List.set_cons_zero])
    | go_big_quiet_step (fail)
  refine wpQuiet_nil ?_
  clear hne
  refine anyI_part [5] _ _ _ _ (by kernel_rfl) ?_
  simp only [List.filterMap_cons, List.filterMap_nil, List.getElem?_toArray, List.getElem?_cons_succ, List.getElem?_cons_zero]
  change wpList _ _ _ [_] _ _
  go_wp2_with fail
  refine (key_any what kq kn kc vq vn vc fl raw _ _ _ r.key hr16 hkc KD0 w1.drew (N + 1) hM1 (hK.below hN b1.drew)).mono ?_
  rintro e w2 ⟨⟨KD, kl, hkl, rfl⟩, b2⟩
  dsimp only
  go_step
  have B2 := (Below.refl (N + 1) w1).drew.trans b2
  obtain ⟨M2, hM2⟩ := sz_some w2
  have L2 := below_sz B2 hM1 hM2
  refine ⟨B2, ?_⟩
  change anyI _ _ _ _ _ _ _ _ _
  try simp only [pA]
  refine anyI_part [11] _ _ _ _ (by kernel_rfl) ?_
  simp only [List.filterMap_cons, List.filterMap_nil, List.getElem?_toArray, List.getElem?_cons_succ, List.getElem?_cons_zero]
  change wpList _ _ _ [_] _ _
  go_wp2_with fail
  refine (val_any what kq kn kc vq vn vc fl raw _ _ _ r.val hr64 hvc VD0 _ M2 hM2 ((hV.below hN b1).below hM1 B2)).mono ?_
  rintro e w3 ⟨⟨VD, vl, hvl, rfl⟩, b3⟩
  dsimp only
  go_step
  have B3 := B2.trans (b3.mono L2)
  refine ⟨B3, ?_⟩
  change anyI _ _ _ _ _ _ _ _ _
  try simp only [pA]
  refine anyI_part [12] _ _ _ _ (by kernel_rfl) ?_
  simp only [List.filterMap_cons, List.filterMap_nil, List.getElem?_toArray, List.getElem?_cons_succ, List.getElem?_cons_zero]
  change wpList _ _ _ [_] _ _
  refine wpl_pure rfl (v := .string (strOf KD kl)) (by intro w; first | rfl | (go_simp; first | done | with_reducible rfl)) ?_
  refine ⟨B3, ?_⟩
  change anyI _ _ _ _ _ _ _ _ _
  try simp only [pA]
  refine anyI_part [13] _ _ _ _ (by kernel_rfl) ?_
  simp only [List.filterMap_cons, List.filterMap_nil, List.getElem?_toArray, List.getElem?_cons_succ, List.getElem?_cons_zero]
  change wpList _ _ _ [_] _ _
  refine wpl_pure rfl (v := .string (strOf VD vl)) (by intro w; first | rfl | (go_simp; first | done | with_reducible rfl)) ?_
  refine ⟨B3, ?_⟩
  change anyI _ _ _ _ _ _ _ _ _
  try simp only [pA]
  refine anyI_done (by kernel_rfl) ?_
  try simp only [pA]
  have T := TS.below hM1 B3
  obtain ⟨M, hM⟩ := sz_some w3
  have LM := below_sz B3 hM1 hM
  have U : ∀ x, M ≤ x → P1 m r N x := fun x hx => .inr (.inr (by omega))
  have ca := hid (k1.below B3 (by omega))
  have HJ : ∀ w9 m9 r9, Two (P1 m r N) w1 m r w9 m9 r9 → Two P wa m0 r0 w9 m9 r9 := fun w9 m9 r9 h => hT.join hN b1 U0 h
  clear TS B2 b2 b3 hM2 L2 hK hV hr16 hr64 hkc hvc
  go_upto_region 23 with (first
    | ((with_reducible show wpList _ _ _ (_ :: _) _ _); first
      | (refine wpl_run rfl (.int .i64 what) _ (run_cell1 (x := .tmp 40) 3 rfl rfl undIt rfl (ca.out.cell (j := 0) (by omega))) ?_; try simp only [pA])
      | (refine wpl_run rfl (.int .u64 (IntKind.u64.wrap what)) _ (run_cvU (x := .tmp 41) rfl undInt64 undU64t rfl) ?_; try simp only [pA])
      | (refine wpl_remQ rfl (.tmp 42) (.const (.int .u64 9)) rfl (IntKind.u64.wrap what) 9 rfl rfl (u64_pos what) (by omega) (by omega) ?_; intro c hc Hc; have HC := hid (show c = 7 by have := Hc.out; have := HW.out; omega); refine id ?_; try simp only [pA])
      | (refine wpl_run rfl (.int .i64 (c : Int)) _ (run_cvI (x := .tmp 43) rfl undU64t undInt64 rfl (by omega)) ?_; try simp only [pA])
      | (refine wpl_run rfl (.bool false) _ (run_eqK (x := .tmp 44) rfl rfl rfl (by rw [HC.out]; rfl) _) ?_; try simp only [pA])
      | (refine wpl_run rfl (.bool true) _ (run_eqK (x := .tmp 44) rfl rfl rfl (by rw [HC.out]; rfl) _) ?_; try simp only [pA]))
    | fail)
  clear Hc HC hc HW AW1 AW2
  have c3 : w3.cell? ⟨N, 3, none⟩ = some (.int .u64 fl) := ca.out.cell (j := 3) (by omega)
  by_cases h4 : fl % 5 = 4
  · have H4 := hid h4
    clear h4
    go_upto_region 25 with (first
      | ((with_reducible show wpList _ _ _ (_ :: _) _ _); first
        | (refine wpl_run rfl (.int .u64 fl) _ (run_cell1 (x := .tmp 175) 36 rfl rfl undU64t rfl c3) ?_; try simp only [pA])
        | (refine wpl_remQ rfl (.tmp 176) (.const (.int .u64 5)) rfl fl 5 rfl rfl hfl (by omega) (by omega) ?_; intro f5 hf5 Hf5; refine id ?_; try simp only [pA])
        | (refine wpl_run rfl (.bool false) _ (run_neqU (x := .tmp 177) rfl rfl rfl (by have h1 := Hf5.out; have h2 := H4.out; have h3 : (f5 : Int) = 4 := (by omega); exact bne_eq_false_iff_eq.2 h3) _) ?_; try simp only [pA]))
      | fail)
    go_wp2_with fail
    refine (Frz_all T.I M hM T.A).mono ?_
    rintro e w5 ⟨z, m2, rfl, _, _, hb, A5, I5, t5, f5⟩
    have T5 := T.frz hb A5 I5 t5 f5
    obtain ⟨M5, hM5⟩ := sz_some w5
    have U5 : ∀ x, M5 ≤ x → P1 m r N x := T.up (m' := m2) (r' := r) hM U hM5 T5 (by have := t5.size; have e1 : w3.heap.size = M := hM; have e2 : w5.heap.size = M5 := hM5; omega)
    obtain ⟨fz, hfz⟩ : ∃ fz, r.fz = fz := ⟨_, rfl⟩
    have cz : w5.cell? ⟨r.b, 5, none⟩ = some (.bool fz) := by rw [← hfz]; exact T5.R.c5
    have h5 := T5.R.h
    clear A5 I5 t5 f5 hb hfz T ca c3 hM U hfl
    go_upto_region 28 with (first
      | ((with_reducible show wpList _ _ _ (_ :: _) _ _); first
        | (refine wpl_run rfl (.bool fz) _ (run_cell1 (x := .tmp 183) 4 rfl rfl undBo rfl cz) ?_; try simp only [pA])
        | (refine wpl_set rfl 4 (.tmp 187) (.const (.bool true)) rfl r.b 5 rfl (.bool true) rfl szBo rfl rfl 64 6 _ h5 (by omega) ?_; intro w6 t6 h6; have T6 := HJ _ _ _ (T5.rnx hM5 U5 (RNx.fzd hM5 T5.R t6 h6)); refine id ?_; try simp only [pA]))
      | fail)
    obtain ⟨b1, hb1⟩ : ∃ b1, (z == 16) = b1 := ⟨_, rfl⟩
    obtain ⟨b2, hb2⟩ : ∃ b2, (z != 0) = b2 := ⟨_, rfl⟩
    have HB1 := hid hb1
    have HB2 := hid hb2
    clear hb1 hb2 cz h5 t6 h6 T5
    cases fz <;> cases b1 <;> cases b2
    all_goals
      go_wp2_with (first
        | ((with_reducible show wpList _ _ _ (_ :: _) _ _); first
          | (refine wpl_run rfl (.bool false) _ (run_eqK (x := .tmp 189) rfl rfl rfl HB1.out _) ?_; try simp only [pA])
          | (refine wpl_run rfl (.bool true) _ (run_eqK (x := .tmp 189) rfl rfl rfl HB1.out _) ?_; try simp only [pA])
          | (refine wpl_want (by rfl) ?_; refine wpl_run rfl (.bool false) _ (run_neqZ (x := .tmp 194) rfl rfl rfl HB2.out _) ?_; try simp only [pA])
          | (refine wpl_want (by rfl) ?_; refine wpl_run rfl (.bool true) _ (run_neqZ (x := .tmp 194) rfl rfl rfl HB2.out _) ?_; try simp only [pA]))
        | fail)
      go_ret
      exact ⟨_, m2, _, rfl, T6⟩
  · have H4 := hid h4
    clear h4
    go_wp2_with (first
      | ((with_reducible show wpList _ _ _ (_ :: _) _ _); first
        | (refine wpl_run rfl (.int .u64 fl) _ (run_cell1 (x := .tmp 175) 36 rfl rfl undU64t rfl c3) ?_; try simp only [pA])
        | (refine wpl_remQ rfl (.tmp 176) (.const (.int .u64 5)) rfl fl 5 rfl rfl hfl (by omega) (by omega) ?_; intro f5 hf5 Hf5; refine id ?_; try simp only [pA])
        | (refine wpl_run rfl (.bool true) _ (run_neqU (x := .tmp 177) rfl rfl rfl (by rw [bne_iff_ne]; have h1 := Hf5.out; have h2 := H4.out; omega) _) ?_; try simp only [pA]))
      | fail)
    go_ret
    exact ⟨_, m, r, rfl, HJ _ _ _ T⟩
end Go.Proofs.YtjdclgnlnehjlaaDoor
