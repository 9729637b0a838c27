/- The law RegistryActs: its walk. -/
import Derived.Test.YtcampjgemedhlaaDoorRg12
import Derived.Test.YtcampjgemedhlaaDoorLaw3
import Derived.Deep.CutBlock
import Derived.Deep.DeepCutAuto
import Derived.Deep.LoopGhost
namespace Go.Proofs.YtcampjgemedhlaaDoor
open Go Go.RowKit Sha
/-- A call: which, of what seed, key, sum, place. -/
structure ActA where
  what : Int
  seed : Int
  key : Nat → BitVec 8
  sum : Nat → BitVec 8
  i : Int
def actC (A : ActA) : Nat → Value := fun j => if j = 0 then .int .i64 A.what else if j = 1 then .int .i64 A.seed else if j < 34 then By (A.key (j - 2)) else if j < 66 then By (A.sum (j - 34)) else .int .i64 A.i
theorem inf68 : (Tryd.prog.info? 68).map (·.size) = some 74 := by kernel_rfl
theorem inf70 : (Tryd.prog.info? 70).map (·.size) = some 67 := by kernel_rfl
theorem zer70 : (Tryd.prog.info? 70).map (fun i => (i.zero, i.size)) = some (some (.agg (cellsOf (actC ⟨0, 0, fun _ => 0, fun _ => 0, 0⟩) 67)), 67) := by kernel_rfl
theorem und70 : ∃ fs, Tryd.prog.underlying 70 = some (.struct fs) := by
  have h : (Tryd.prog.underlying 70).map (fun d => match d with | .struct _ => true | _ => false) = some true := by kernel_rfl
  cases e : Tryd.prog.underlying 70 with
  | none => rw [e] at h; cases h
  | some d => rw [e] at h; cases d <;> first | exact ⟨_, rfl⟩ | (simp at h)
set_option maxRecDepth 100000 in
set_option maxHeartbeats 8000000 in
theorem law_acts (p : Option Addr) (n cap : Nat) (A : Nat → ActA) (w : World) (N : Nat) (hN : Sz w N) (hT : Tabs w)
    (hZ : 0 < n → ∃ bb off, p = some ⟨bb, off, none⟩ ∧ ∀ k, k < n → ∀ j, j < 67 → w.cell? ⟨bb, off + k * 67 + j, none⟩ = some (actC (A k) j)) :
    Calls Tryd.prog 12 #[.slice p n cap] w fun e w' => e = .returned (.bool true) ∧ Below N w w' := by
  have hTN := hT.ltN hN
  obtain ⟨fs, hfs⟩ := und39
  obtain ⟨fs70, hfs70⟩ := und70
  go_enter Tryd.func12, Tryd.ntmps12
  go_wp2_with (first
    | (refine wpl_build rfl 23 _ rfl (cellsOf (fun _ => By 0) 32) (by kernel_rfl) ?_)
    | (go_at_call 32; refine (none_any _).mono ?_; rintro e _ ⟨rfl, rfl⟩)
    | (go_at_call 33; refine (Find_nil (fun _ => 0) _ N hN).mono ?_; rintro e w1 ⟨rfl, hb1⟩; obtain ⟨M1, hM1⟩ := sz_some w1; have hT1 := hT.below hb1 hTN; have l1 := below_sz hb1 hN hM1)
    | (go_at_call 34; refine (keeps_any _ M1 hM1 hT1).mono ?_; rintro e w2 ⟨rfl, hb2⟩; have q2 : Below N w w2 := hb1.trans (hb2.mono l1); obtain ⟨M2, hM2⟩ := sz_some w2; have l2 := below_sz q2 hN hM2)
    | (go_at_call 35; refine (Add_nil (fun _ => 0) _ M2 hM2).mono ?_; rintro e w3 ⟨rfl, hb3⟩; have q3 : Below N w w3 := q2.trans (hb3.mono l2); obtain ⟨M3, hM3⟩ := sz_some w3; have l3 := below_sz q3 hN hM3)
    | (go_at_call 36; refine (Has_nil (fun _ => 0) _ M3 hM3).mono ?_; rintro e w4 ⟨rfl, hb4⟩; have q4 : Below N w w4 := q3.trans (hb4.mono l3); obtain ⟨M4, hM4⟩ := sz_some w4; have l4 := below_sz q4 hN hM4)
    | (go_at_call 37; refine (Spend_nil 0 _).mono ?_; rintro e _ ⟨rfl, rfl⟩)
    | (go_at_call 38; refine (Len_nil _).mono ?_; rintro e _ ⟨rfl, rfl⟩)
    | (go_at_call 39; refine (New_any _ M4 hM4).mono ?_; rintro e w5 ⟨rfl, hb5, r5, hN5⟩; have q5 : Below N w w5 := q4.trans (hb5.mono l4))
    | (go_at_call 24; refine (Make_any _ (M4 + 1) hN5).mono ?_; rintro e w6 ⟨rfl, hb6⟩; have q6 : Below N w w6 := q5.trans (hb6.mono (by omega)); obtain ⟨M6, hM6⟩ := sz_some w6; have l6 := below_sz hb6 hN5 hM6)
    | (refine wpl_build rfl 68 _ rfl (cellsOf (dcC none 0 0 none 0) 74) (by kernel_rfl) ?_)
    | (refine wpl_box rfl 68 (.tmp 51) rfl 74 _ rfl M6 hM6 ?_; intro w7 hM7 hb7 h7)
    | fail)
  have LS0 : LS w N M4 M6 rg0 w7 := ⟨by show 0 ≤ 32; omega, q6.trans (hb7.mono (by omega)), (r5.below hb6 (by omega)).below hb7 (by omega), none, 0, none, 0, ⟨h7, OwnK.nil _ _ _ _, Own.nil _ _ _, fun _ h => (by cases h), fun _ h => (by cases h), fun _ h => (by cases h)⟩, fun _ h => (by cases h), fun _ h => (by cases h)⟩
  have l46 : M4 < M6 := by omega
  clear hb1 hb2 hb3 hb4 hb5 hb6 hb7 r5 h7 q2 q3 q4 q5 q6 hM1 hM2 hM3 hM4 hN5 hM6 hM7 hT1 l1 l2 l3 l6 hfs
  go_loopg [7] 12 (fun g i wr => ∃ (k : Nat) (R : Rg), k ≤ 12 ∧ g = 12 - k ∧ i = .int .i64 k ∧ LS w N M4 M6 R wr)
  case atStart => exact ⟨0, rg0, by omega, rfl, rfl, LS0⟩
  case round =>
    clear LS0
    obtain ⟨k, R, hk, rfl, rfl, S⟩ := hrel
    obtain ⟨M, hM⟩ := sz_some wr
    by_cases hlt : k < n ∧ k < 12
    · obtain ⟨hlt1, hlt2⟩ := hlt
      obtain ⟨bb, off, rfl, hcells⟩ := hZ (by omega)
      have hbb : bb < N := by
        have := World.block_lt_of_cell? w _ (hcells k hlt1 0 (by omega))
        have e : w.heap.size = N := hN
        simp only at this
        omega
      have hNM : N ≤ M := below_sz S.2.1 hN hM
      have hce : ∀ j, j < 67 → wr.cell? ⟨bb, off + k * 67 + j, none⟩ = some (actC (A k) j) := fun j hj => by rw [S.2.1.cell (p := ⟨bb, off + k * 67 + j, none⟩) hbb]; exact hcells k hlt1 j hj
      have hl3 : decide ((k : Int) < (n : Int)) = true := by simp; omega
      have hl4 : decide ((k : Int) < 12) = true := by simp; omega
      generalize A k = B at hce
      have Hce := hid hce
      clear hcells hce
      go_wp2_with (first
        | (refine wpl_load_cells rfl 70 (.tmp 65) rfl bb (off + k * 67) rfl 67 (actC B) Hce.out _ hfs70 rfl inf70 ?_)
        | (refine wpl_alloc rfl 70 rfl 67 _ zer70 M hM ?_; intro x1 hX1 hb1 ha1)
        | (refine wpl_store rfl 70 (.tmp 8) (.tmp 66) rfl M 67 (actC B) rfl rfl 70 _ ha1 inf70 (fun j _ => by unfold actC By; (repeat' split) <;> rfl) ?_; intro x2 ht2 ha2; have cs2 : x2.cell? ⟨M, 1, none⟩ = some (.int .i64 B.seed) := ha2.cell (by omega))
        | fail)
      have hX2 := ht2.sz hX1
      have b2 : Below M wr x2 := ht2.below hb1 (Nat.le_refl M)
      have T2 : Tabs x2 := hT.below (S.2.1.trans (b2.mono hNM)) hTN
      obtain ⟨y, ey⟩ : ∃ y : BitVec 8, B.seed.tmod 5 % 256 = v8 y := ⟨BitVec.ofInt 8 (B.seed.tmod 5), by unfold v8; rw [BitVec.toNat_ofInt]; omega⟩
      refine (Key_any _ 1 1 (fun _ => y) _ (M + 1 + 1) (sz_alloc hX2 _) (T2.below (below_new x2 _ _ hX2) (T2.ltN hX2)) (by omega) (by omega) (bytes_one x2 y _ ey _ _)).mono ?_
      rintro e x3 ⟨rfl, hb3⟩
      have e2 : x2.heap.size = M + 1 := hX2
      rw [e2]
      have bs3 : Bytes x3 (some ⟨M + 1, 0, none⟩) 1 (fun _ => y) := by
        have := (bytes_one x2 y _ ey 5 (0, 0)).below (sz_alloc hX2 _) hb3
        rwa [e2] at this
      have b3 : Below (M + 1) x2 x3 := (below_new x2 _ _ hX2).trans (hb3.mono (Nat.le_succ _))
      have ha3 := ha2.below b3 (by omega)
      have bM3 : Below M wr x3 := b2.trans (b3.mono (Nat.le_succ M))
      obtain ⟨M3, hM3⟩ := sz_some x3
      have l3 : M + 2 ≤ M3 := below_sz hb3 (sz_alloc hX2 _) hM3
      clear cs2 T2 b2 b3 hb3 ha2 ht2 ha1 hb1 hX1 hX2 e2
      obtain ⟨v, hv, ev⟩ := wmod B.what 6 (by omega) (by omega)
      rw [show ((6 : Nat) : Int) = 6 from rfl] at ev
      have hv2 : v = 0 ∨ v = 1 ∨ v = 2 ∨ v = 3 ∨ v = 4 ∨ v = 5 := by omega
      have Hv := hid hv2
      have Ev := hid ev
      clear hv hv2 ev
      go_upto_if 77 with (first
        | (refine wpl_alloc rfl 23 rfl 32 _ zer23 M3 hM3 ?_; intro x4 hX4 hb4 hk4)
        | (refine wpl_store rfl 23 (.tmp 10) (.tmp 73) rfl M3 32 _ rfl rfl 23 _ hk4 inf23 (fun _ _ => rfl) ?_; intro x5 ht5 hk5; have b5 : Below M3 x3 x5 := ht5.below hb4 (Nat.le_refl M3); have ha5 := ha3.below b5 (by omega); have cw5 : x5.cell? ⟨M, 0, none⟩ = some (.int .i64 B.what) := ha5.cell (by omega); clear ht5 hb4 hk4)
        | fail)
      go_cut [] (fun wx => ∃ kf : Nat → BitVec 8, Has wx M3 23 32 (fun j => By (kf j)) ∧ Below M3 x3 wx)
      case first =>
        as_aux_lemma =>
          clear Hv Ev hT hTN S Hce bs3 bM3
          cases hq : (B.what.tmod 6 == 2)
          · go_wp2_with fail
            go_meet
            exact ⟨_, hk5, b5⟩
          · go_wp2_with (first
              | (refine wpl_run rfl _ _ (run_ldp 23 (.tmp 78) rfl M 2 rfl 70 67 (actC B) ha5 32 (by omega) (fun j => By (B.key j)) (fun j hj => by unfold actC; rw [if_neg (by omega), if_neg (by omega), if_pos (by omega), Nat.add_sub_cancel_left]) _ und23 rfl inf23) ?_)
              | (refine wpl_store rfl 23 (.tmp 10) (.tmp 79) rfl M3 32 _ rfl rfl 23 _ hk5 inf23 (fun _ _ => rfl) ?_; intro x5b ht5b hk5b; have b5b : Below M3 x3 x5b := ht5b.below b5 (Nat.le_refl M3))
              | fail)
            go_meet
            exact ⟨_, hk5b, b5b⟩
      case rest =>
        clear cw5 ha5 b5 hk5
        obtain ⟨kf, hk5, b5⟩ := hcut
        have ha5 := ha3.below b5 (by omega)
        have cw5 : wc.cell? ⟨M, 0, none⟩ = some (.int .i64 B.what) := ha5.cell (by omega)
        have bM5 : Below M wr wc := bM3.trans (b5.mono (by omega))
        have bs5 := bs3.below hM3 b5
        have T5 : Tabs wc := hT.below (S.2.1.trans (bM5.mono hNM)) hTN
        clear bs3 ha3 b5 bM3
        go_upto_block 2 with fail
        rw [Ev.out]
        obtain ⟨hc, hbS, hrS, pk, ck, ps, cs, hdS, lp, lq⟩ := S
        have hb := hbS.trans (bM5.mono hNM)
        have hr := hrS.below bM5 (hrS.ltN hM)
        have hd := hdS.below bM5 hM
        have n64 : M6 ≠ M4 := by omega
        have lr : M4 < M := hrS.ltN hM
        have ld : M6 < M := hdS.h.ltN hM
        have n34 : M3 ≠ M4 := by omega
        have n36 : M3 ≠ M6 := by omega
        have hpM : ∀ g, (blk pk = some g → g < M) ∧ (blk ps = some g → g < M) := fun g => ⟨fun h => by have := hdS.k.lt g h; have e : wr.heap.size = M := hM; omega, fun h => by have := hdS.s.lt g h; have e : wr.heap.size = M := hM; omega⟩
        clear hbS hrS hdS
        have n3p : blk pk ≠ some M3 := fun e => by have := (hpM _).1 e; omega
        have n3q : blk ps ≠ some M3 := fun e => by have := (hpM _).2 e; omega
        obtain ⟨M5, hM5'⟩ := sz_some wc
        have hM5 : Sz wc.drew M5 := hM5'
        have l5 : M ≤ M5 := below_sz bM5 hM hM5'
        have b3M : M3 < M5 := hk5.ltN hM5'
        clear cw5 bM5 Ev
        go_cut [] (fun wx => ∃ R' : Rg, LS w N M4 M6 R' wx ∧ Has wx M3 23 32 (fun j => By (kf j)))
        case first =>
          rcases Hv.out with rfl | rfl | rfl | rfl | rfl | rfl
          · as_aux_lemma =>
              clear bs5 T5 ha5 hT hTN Hce
              go_wp2_with fail
              obtain ⟨E, hE⟩ : ∃ E, E = addE R kf := ⟨_, rfl⟩
              have CA := Add_all R M4 kf wc.drew M5 hM5 hr.drew hc
              have CD2 := fun (w1 : World) (K : Nat) (hK : Sz w1 K) (h : Dc w1 M6 R pk ck ps cs) => DAdd_all R M6 pk ps ck cs kf w1 K hK h hc
              rw [← hE] at CA CD2
              clear hE
              try simp only [Act.put, List.setIfInBounds_toArray, List.set_cons_succ, List.set_cons_zero, List.getElem_toArray, List.getElem_cons_succ, List.getElem_cons_zero]
              refine wp_region_inn (fun w' => Has w' M3 23 32 (fun j => By (kf j))) hk5.drew (by kernel_rfl) ?_
              have hne := inn_ne (I := fun w' => Has w' M3 23 32 (fun j => By (kf j))) hk5
              refine anyI_reads [0, 1, 3, 4] _ _ _ hk5.drew (by kernel_rfl) (fun _ _ _ d _ h => by cases d <;> exact h) ?_
              simp only [pickO, List.map_cons, List.map_nil, List.getElem?_toArray, List.getElem?_cons_succ, List.getElem?_cons_zero, Option.getD_some, Act.put, List.setIfInBounds_toArray, List.set_cons_succ, List.set_cons_zero]
              repeat first
                | (refine inn_val (fun x => run_ld 23 (.tmp 10) rfl M3 rfl 23 32 _ x.h _ und23 rfl inf23) (by rfl) ?_; simp only [Act.put, List.setIfInBounds_toArray, List.set_cons_succ, List.set_cons_zero])
                | go_big_quiet_step (fail)
              refine wpQuiet_nil ?_
              clear hne
              refine anyI_part [2, 5, 6] _ _ _ _ (by kernel_rfl) ?_
              simp only [List.filterMap_cons, List.filterMap_nil, List.getElem?_toArray, List.getElem?_cons_succ, List.getElem?_cons_zero]
              change wpList _ _ _ [_] _ _
              go_wp2_with fail
              refine CA.mono ?_
              rintro e y1 ⟨rfl, hm, hr1⟩
              obtain ⟨Y1, hY1⟩ := sz_some y1
              have lY1 : M5 ≤ Y1 := by have := hm.size; have e : y1.heap.size = Y1 := hY1; have e2 : wc.drew.heap.size = M5 := hM5; omega
              have hd1 := hd.drew.mod hm n64 (fun g hg => (lp g hg).2) (fun g hg => (lq g hg).2)
              have hk1 := hk5.drew.mod hm n34
              have b1 : Below N w y1 := hm.below hb.drew l4 (by have e2 : wc.drew.heap.size = M5 := hM5; omega)
              dsimp only
              go_step
              refine ⟨hk1, ?_⟩
              change wpList _ _ _ [_] _ _
              go_wp2_with fail
              refine (CD2 y1 Y1 hY1 hd1).mono ?_
              rintro e y2 ⟨rfl, mv⟩
              have hk2 := mv.has (M := 0) hk1 n36 n3p n3q
              dsimp only
              go_step
              refine ⟨hk2, ?_⟩
              change wpList _ _ _ [_] _ _
              refine wpl_pure rfl (v := .bool false) (by intro w; go_simp) ?_
              refine ⟨hk2, ?_⟩
              change anyI _ _ _ _ _ _ _ _ _
              refine anyI_done (by kernel_rfl) ?_
              try simp only [Act.put, List.setIfInBounds_toArray, List.set_cons_succ, List.set_cons_zero, List.getElem_toArray, List.getElem_cons_succ, List.getElem_cons_zero]
              have S6 := LS.moved hY1 b1 (by omega) l4 (by omega) (by omega) (addS_le R kf hc) hr1 lp lq mv
              clear CA CD2 hb hr hd hk5 hM5 lp lq n3p n3q hr1 hd1 hk1 b1 mv
              go_wp2_with fail
              go_meet
              exact ⟨_, S6, hk2⟩
          · as_aux_lemma =>
              clear bs5 T5 ha5 hT hTN Hce
              go_wp2_with fail
              obtain ⟨E, hE⟩ : ∃ E, E = addE R kf := ⟨_, rfl⟩
              have CA := Add_all R M4 kf wc.drew M5 hM5 hr.drew hc
              have CD2 := fun (w1 : World) (K : Nat) (hK : Sz w1 K) (h : Dc w1 M6 R pk ck ps cs) => DAdd_all R M6 pk ps ck cs kf w1 K hK h hc
              rw [← hE] at CA CD2
              clear hE
              try simp only [Act.put, List.setIfInBounds_toArray, List.set_cons_succ, List.set_cons_zero, List.getElem_toArray, List.getElem_cons_succ, List.getElem_cons_zero]
              refine wp_region_inn (fun w' => Has w' M3 23 32 (fun j => By (kf j))) hk5.drew (by kernel_rfl) ?_
              have hne := inn_ne (I := fun w' => Has w' M3 23 32 (fun j => By (kf j))) hk5
              refine anyI_reads [0, 1, 3, 4] _ _ _ hk5.drew (by kernel_rfl) (fun _ _ _ d _ h => by cases d <;> exact h) ?_
              simp only [pickO, List.map_cons, List.map_nil, List.getElem?_toArray, List.getElem?_cons_succ, List.getElem?_cons_zero, Option.getD_some, Act.put, List.setIfInBounds_toArray, List.set_cons_succ, List.set_cons_zero]
              repeat first
                | (refine inn_val (fun x => run_ld 23 (.tmp 10) rfl M3 rfl 23 32 _ x.h _ und23 rfl inf23) (by rfl) ?_; simp only [Act.put, List.setIfInBounds_toArray, List.set_cons_succ, List.set_cons_zero])
                | go_big_quiet_step (fail)
              refine wpQuiet_nil ?_
              clear hne
              refine anyI_part [2, 5, 6] _ _ _ _ (by kernel_rfl) ?_
              simp only [List.filterMap_cons, List.filterMap_nil, List.getElem?_toArray, List.getElem?_cons_succ, List.getElem?_cons_zero]
              change wpList _ _ _ [_] _ _
              go_wp2_with fail
              refine CA.mono ?_
              rintro e y1 ⟨rfl, hm, hr1⟩
              obtain ⟨Y1, hY1⟩ := sz_some y1
              have lY1 : M5 ≤ Y1 := by have := hm.size; have e : y1.heap.size = Y1 := hY1; have e2 : wc.drew.heap.size = M5 := hM5; omega
              have hd1 := hd.drew.mod hm n64 (fun g hg => (lp g hg).2) (fun g hg => (lq g hg).2)
              have hk1 := hk5.drew.mod hm n34
              have b1 : Below N w y1 := hm.below hb.drew l4 (by have e2 : wc.drew.heap.size = M5 := hM5; omega)
              dsimp only
              go_step
              refine ⟨hk1, ?_⟩
              change wpList _ _ _ [_] _ _
              go_wp2_with fail
              refine (CD2 y1 Y1 hY1 hd1).mono ?_
              rintro e y2 ⟨rfl, mv⟩
              have hk2 := mv.has (M := 0) hk1 n36 n3p n3q
              dsimp only
              go_step
              refine ⟨hk2, ?_⟩
              change wpList _ _ _ [_] _ _
              refine wpl_pure rfl (v := .bool false) (by intro w; go_simp) ?_
              refine ⟨hk2, ?_⟩
              change anyI _ _ _ _ _ _ _ _ _
              refine anyI_done (by kernel_rfl) ?_
              try simp only [Act.put, List.setIfInBounds_toArray, List.set_cons_succ, List.set_cons_zero, List.getElem_toArray, List.getElem_cons_succ, List.getElem_cons_zero]
              have S6 := LS.moved hY1 b1 (by omega) l4 (by omega) (by omega) (addS_le R kf hc) hr1 lp lq mv
              clear CA CD2 hb hr hd hk5 hM5 lp lq n3p n3q hr1 hd1 hk1 b1 mv
              go_wp2_with fail
              go_meet
              exact ⟨_, S6, hk2⟩
          · as_aux_lemma =>
              clear bs5 T5 ha5 hT hTN Hce
              go_wp2_with fail
              obtain ⟨E, hE⟩ : ∃ E, E = addE R kf := ⟨_, rfl⟩
              have CA := Add_all R M4 kf wc.drew M5 hM5 hr.drew hc
              have CD2 := fun (w1 : World) (K : Nat) (hK : Sz w1 K) (h : Dc w1 M6 R pk ck ps cs) => DAdd_all R M6 pk ps ck cs kf w1 K hK h hc
              rw [← hE] at CA CD2
              clear hE
              try simp only [Act.put, List.setIfInBounds_toArray, List.set_cons_succ, List.set_cons_zero, List.getElem_toArray, List.getElem_cons_succ, List.getElem_cons_zero]
              refine wp_region_inn (fun w' => Has w' M3 23 32 (fun j => By (kf j))) hk5.drew (by kernel_rfl) ?_
              have hne := inn_ne (I := fun w' => Has w' M3 23 32 (fun j => By (kf j))) hk5
              refine anyI_reads [0, 1, 3, 4] _ _ _ hk5.drew (by kernel_rfl) (fun _ _ _ d _ h => by cases d <;> exact h) ?_
              simp only [pickO, List.map_cons, List.map_nil, List.getElem?_toArray, List.getElem?_cons_succ, List.getElem?_cons_zero, Option.getD_some, Act.put, List.setIfInBounds_toArray, List.set_cons_succ, List.set_cons_zero]
              repeat first
                | (refine inn_val (fun x => run_ld 23 (.tmp 10) rfl M3 rfl 23 32 _ x.h _ und23 rfl inf23) (by rfl) ?_; simp only [Act.put, List.setIfInBounds_toArray, List.set_cons_succ, List.set_cons_zero])
                | go_big_quiet_step (fail)
              refine wpQuiet_nil ?_
              clear hne
              refine anyI_part [2, 5, 6] _ _ _ _ (by kernel_rfl) ?_
              simp only [List.filterMap_cons, List.filterMap_nil, List.getElem?_toArray, List.getElem?_cons_succ, List.getElem?_cons_zero]
              change wpList _ _ _ [_] _ _
              go_wp2_with fail
              refine CA.mono ?_
              rintro e y1 ⟨rfl, hm, hr1⟩
              obtain ⟨Y1, hY1⟩ := sz_some y1
              have lY1 : M5 ≤ Y1 := by have := hm.size; have e : y1.heap.size = Y1 := hY1; have e2 : wc.drew.heap.size = M5 := hM5; omega
              have hd1 := hd.drew.mod hm n64 (fun g hg => (lp g hg).2) (fun g hg => (lq g hg).2)
              have hk1 := hk5.drew.mod hm n34
              have b1 : Below N w y1 := hm.below hb.drew l4 (by have e2 : wc.drew.heap.size = M5 := hM5; omega)
              dsimp only
              go_step
              refine ⟨hk1, ?_⟩
              change wpList _ _ _ [_] _ _
              go_wp2_with fail
              refine (CD2 y1 Y1 hY1 hd1).mono ?_
              rintro e y2 ⟨rfl, mv⟩
              have hk2 := mv.has (M := 0) hk1 n36 n3p n3q
              dsimp only
              go_step
              refine ⟨hk2, ?_⟩
              change wpList _ _ _ [_] _ _
              refine wpl_pure rfl (v := .bool false) (by intro w; go_simp) ?_
              refine ⟨hk2, ?_⟩
              change anyI _ _ _ _ _ _ _ _ _
              refine anyI_done (by kernel_rfl) ?_
              try simp only [Act.put, List.setIfInBounds_toArray, List.set_cons_succ, List.set_cons_zero, List.getElem_toArray, List.getElem_cons_succ, List.getElem_cons_zero]
              have S6 := LS.moved hY1 b1 (by omega) l4 (by omega) (by omega) (addS_le R kf hc) hr1 lp lq mv
              clear CA CD2 hb hr hd hk5 hM5 lp lq n3p n3q hr1 hd1 hk1 b1 mv
              go_wp2_with fail
              go_meet
              exact ⟨_, S6, hk2⟩
          · as_aux_lemma =>
              have ci5 : wc.cell? ⟨M, 66, none⟩ = some (.int .i64 B.i) := ha5.cell (by omega)
              go_wp2_with (first
                | (refine wpl_run rfl _ _ (run_ldp 23 (.tmp 100) rfl M 34 rfl 70 67 (actC B) ha5 32 (by omega) (fun j => By (B.sum j)) (fun j hj => by unfold actC; rw [if_neg (by omega), if_neg (by omega), if_neg (by omega), if_pos (by omega), Nat.add_sub_cancel_left]) _ und23 rfl inf23) ?_)
                | fail)
              refine (Sign_any (some ⟨M + 1, 0, none⟩) 1 1 (fun _ => y) B.sum wc M5 hM5' T5 (by omega) (by omega) bs5).mono ?_
              rintro e y1 ⟨q, cq, rfl, ow, lo, b1⟩
              generalize sigD 1 (fun _ => y) B.sum = sg at ow
              have hcq := ow.le
              obtain ⟨gq, rfl, hcl⟩ := ow.cell (by omega)
              have bq : Bytes y1 (some ⟨gq, 0, none⟩) 2048 sg := fun _ => ⟨gq, 0, rfl, hcl⟩
              clear hcl ow
              have hsl : ∀ w, (Instr.sliceAt 22 (.slice (some ⟨gq, 0, none⟩) 2048 cq) (some (.int .i64 1)) none none).run Tryd.prog w = .ok (.slice (some ⟨gq, 1, none⟩) 2047 (cq - 1)) w := fun w => by
                have := run_slice_from (P := Tryd.prog) 22 5 und22 inf5 (some ⟨gq, 0, none⟩) 2048 cq 1 (by omega) w
                rw [cutAt_lt gq 0 cq 1 (by omega)] at this
                exact this
              obtain ⟨Y1, hY1⟩ := sz_some y1
              have l1 := below_sz b1 hM5' hY1
              have ha1 := ha5.below b1 (by omega)
              have hk1 := hk5.below b1 b3M
              have hr1 := hr.below b1 (by omega)
              have hd1 := hd.below b1 hM5'
              have hb1 := hb.trans (b1.mono (by omega))
              have T1 : Tabs y1 := hT.below hb1 hTN
              have ci1 : y1.cell? ⟨M, 66, none⟩ = some (.int .i64 B.i) := ha1.cell (by omega)
              clear ci5 ha5 hk5 hr hd bs5 T5 b1 Hce
              cases hq7 : (B.i.tmod 7 == 6)
              · have CF := Find_any R M4 B.sum sg (some ⟨gq, 0, none⟩) cq hcq y1 Y1 hY1 T1 bq hr1 hc
                obtain ⟨X, F, hXF⟩ := frV_two (frO R B.sum sg)
                rw [hXF] at CF
                go_wp2_with (first
                  | (refine wpl_run rfl _ _ (run_ldp 23 (.tmp 111) rfl M 34 rfl 70 67 (actC B) ha1 32 (by omega) (fun j => By (B.sum j)) (fun j hj => by unfold actC; rw [if_neg (by omega), if_neg (by omega), if_neg (by omega), if_pos (by omega), Nat.add_sub_cancel_left]) _ und23 rfl inf23) ?_)
                  | fail)
                refine CF.mono ?_
                rintro e y2 ⟨rfl, b2⟩
                obtain ⟨Y2, hY2⟩ := sz_some y2
                have l2 := below_sz b2 hY1 hY2
                have ha2 := ha1.below b2 (by omega)
                have hk2 := hk1.below b2 (by omega)
                have hr2 := hr1.below b2 (by omega)
                have hd2 := hd1.below b2 hY1
                have hb2 := hb1.trans (b2.mono (by omega))
                have CD := DFind_any R M6 pk ps ck cs B.sum sg (some ⟨gq, 0, none⟩) cq hcq y2 Y2 hY2 (bq.below hY1 b2) hd2 hc
                rw [hXF] at CD
                clear CF ci1 ha1 hk1 hr1 hd1 hb1 T1 b2
                go_wp2_with (first
                  | (refine wpl_run rfl _ _ (run_ldp 23 (.tmp 119) rfl M 34 rfl 70 67 (actC B) ha2 32 (by omega) (fun j => By (B.sum j)) (fun j hj => by unfold actC; rw [if_neg (by omega), if_neg (by omega), if_neg (by omega), if_pos (by omega), Nat.add_sub_cancel_left]) _ und23 rfl inf23) ?_)
                  | fail)
                refine CD.mono ?_
                rintro e y3 ⟨rfl, b3⟩
                have hk3 := hk2.below b3 (by omega)
                have S6 : LS w N M4 M6 R y3 := ⟨hc, hb2.trans (b3.mono (by omega)), hr2.below b3 (by omega), pk, ck, ps, cs, hd2.below b3 hY2, lp, lq⟩
                clear CD hr2 hd2 hk2 ha2 hb2 b3
                go_wp2_with fail
                go_meet
                exact ⟨_, S6, hk3⟩
              · have CF := Find_long M4 B.sum (some ⟨gq, 1, none⟩) 2047 (cq - 1) (by omega) y1 Y1 hY1
                go_wp2_with (first
                  | (refine wpl_run rfl _ _ (run_ldp 23 (.tmp 111) rfl M 34 rfl 70 67 (actC B) ha1 32 (by omega) (fun j => By (B.sum j)) (fun j hj => by unfold actC; rw [if_neg (by omega), if_neg (by omega), if_neg (by omega), if_pos (by omega), Nat.add_sub_cancel_left]) _ und23 rfl inf23) ?_)
                  | fail)
                refine CF.mono ?_
                rintro e y2 ⟨rfl, b2⟩
                obtain ⟨Y2, hY2⟩ := sz_some y2
                have l2 := below_sz b2 hY1 hY2
                have ha2 := ha1.below b2 (by omega)
                have hk2 := hk1.below b2 (by omega)
                have hr2 := hr1.below b2 (by omega)
                have hd2 := hd1.below b2 hY1
                have hb2 := hb1.trans (b2.mono (by omega))
                have CD := DFind_long M6 B.sum (some ⟨gq, 1, none⟩) 2047 (cq - 1) (by omega) y2 Y2 hY2
                clear CF ci1 ha1 hk1 hr1 hd1 hb1 T1 b2
                go_wp2_with (first
                  | (refine wpl_run rfl _ _ (run_ldp 23 (.tmp 119) rfl M 34 rfl 70 67 (actC B) ha2 32 (by omega) (fun j => By (B.sum j)) (fun j hj => by unfold actC; rw [if_neg (by omega), if_neg (by omega), if_neg (by omega), if_pos (by omega), Nat.add_sub_cancel_left]) _ und23 rfl inf23) ?_)
                  | fail)
                refine CD.mono ?_
                rintro e y3 ⟨rfl, b3⟩
                have hk3 := hk2.below b3 (by omega)
                have S6 : LS w N M4 M6 R y3 := ⟨hc, hb2.trans (b3.mono (by omega)), hr2.below b3 (by omega), pk, ck, ps, cs, hd2.below b3 hY2, lp, lq⟩
                clear CD hr2 hd2 hk2 ha2 hb2 b3
                go_wp2_with fail
                go_meet
                exact ⟨_, S6, hk3⟩
          · as_aux_lemma =>
              have ci5 : wc.cell? ⟨M, 66, none⟩ = some (.int .i64 B.i) := ha5.cell (by omega)
              go_wp2_with (first
                | (refine wpl_run rfl _ _ (run_ldp 23 (.tmp 100) rfl M 34 rfl 70 67 (actC B) ha5 32 (by omega) (fun j => By (B.sum j)) (fun j hj => by unfold actC; rw [if_neg (by omega), if_neg (by omega), if_neg (by omega), if_pos (by omega), Nat.add_sub_cancel_left]) _ und23 rfl inf23) ?_)
                | fail)
              refine (Sign_any (some ⟨M + 1, 0, none⟩) 1 1 (fun _ => y) B.sum wc M5 hM5' T5 (by omega) (by omega) bs5).mono ?_
              rintro e y1 ⟨q, cq, rfl, ow, lo, b1⟩
              generalize sigD 1 (fun _ => y) B.sum = sg at ow
              have hcq := ow.le
              obtain ⟨gq, rfl, hcl⟩ := ow.cell (by omega)
              have bq : Bytes y1 (some ⟨gq, 0, none⟩) 2048 sg := fun _ => ⟨gq, 0, rfl, hcl⟩
              clear hcl ow
              have hsl : ∀ w, (Instr.sliceAt 22 (.slice (some ⟨gq, 0, none⟩) 2048 cq) (some (.int .i64 1)) none none).run Tryd.prog w = .ok (.slice (some ⟨gq, 1, none⟩) 2047 (cq - 1)) w := fun w => by
                have := run_slice_from (P := Tryd.prog) 22 5 und22 inf5 (some ⟨gq, 0, none⟩) 2048 cq 1 (by omega) w
                rw [cutAt_lt gq 0 cq 1 (by omega)] at this
                exact this
              obtain ⟨Y1, hY1⟩ := sz_some y1
              have l1 := below_sz b1 hM5' hY1
              have ha1 := ha5.below b1 (by omega)
              have hk1 := hk5.below b1 b3M
              have hr1 := hr.below b1 (by omega)
              have hd1 := hd.below b1 hM5'
              have hb1 := hb.trans (b1.mono (by omega))
              have T1 : Tabs y1 := hT.below hb1 hTN
              have ci1 : y1.cell? ⟨M, 66, none⟩ = some (.int .i64 B.i) := ha1.cell (by omega)
              clear ci5 ha5 hk5 hr hd bs5 T5 b1 Hce
              cases hq7 : (B.i.tmod 7 == 6)
              · have CF := Find_any R M4 B.sum sg (some ⟨gq, 0, none⟩) cq hcq y1 Y1 hY1 T1 bq hr1 hc
                obtain ⟨X, F, hXF⟩ := frV_two (frO R B.sum sg)
                rw [hXF] at CF
                go_wp2_with (first
                  | (refine wpl_run rfl _ _ (run_ldp 23 (.tmp 111) rfl M 34 rfl 70 67 (actC B) ha1 32 (by omega) (fun j => By (B.sum j)) (fun j hj => by unfold actC; rw [if_neg (by omega), if_neg (by omega), if_neg (by omega), if_pos (by omega), Nat.add_sub_cancel_left]) _ und23 rfl inf23) ?_)
                  | fail)
                refine CF.mono ?_
                rintro e y2 ⟨rfl, b2⟩
                obtain ⟨Y2, hY2⟩ := sz_some y2
                have l2 := below_sz b2 hY1 hY2
                have ha2 := ha1.below b2 (by omega)
                have hk2 := hk1.below b2 (by omega)
                have hr2 := hr1.below b2 (by omega)
                have hd2 := hd1.below b2 hY1
                have hb2 := hb1.trans (b2.mono (by omega))
                have CD := DFind_any R M6 pk ps ck cs B.sum sg (some ⟨gq, 0, none⟩) cq hcq y2 Y2 hY2 (bq.below hY1 b2) hd2 hc
                rw [hXF] at CD
                clear CF ci1 ha1 hk1 hr1 hd1 hb1 T1 b2
                go_wp2_with (first
                  | (refine wpl_run rfl _ _ (run_ldp 23 (.tmp 119) rfl M 34 rfl 70 67 (actC B) ha2 32 (by omega) (fun j => By (B.sum j)) (fun j hj => by unfold actC; rw [if_neg (by omega), if_neg (by omega), if_neg (by omega), if_pos (by omega), Nat.add_sub_cancel_left]) _ und23 rfl inf23) ?_)
                  | fail)
                refine CD.mono ?_
                rintro e y3 ⟨rfl, b3⟩
                have hk3 := hk2.below b3 (by omega)
                have S6 : LS w N M4 M6 R y3 := ⟨hc, hb2.trans (b3.mono (by omega)), hr2.below b3 (by omega), pk, ck, ps, cs, hd2.below b3 hY2, lp, lq⟩
                clear CD hr2 hd2 hk2 ha2 hb2 b3
                go_wp2_with fail
                go_meet
                exact ⟨_, S6, hk3⟩
              · have CF := Find_long M4 B.sum (some ⟨gq, 1, none⟩) 2047 (cq - 1) (by omega) y1 Y1 hY1
                go_wp2_with (first
                  | (refine wpl_run rfl _ _ (run_ldp 23 (.tmp 111) rfl M 34 rfl 70 67 (actC B) ha1 32 (by omega) (fun j => By (B.sum j)) (fun j hj => by unfold actC; rw [if_neg (by omega), if_neg (by omega), if_neg (by omega), if_pos (by omega), Nat.add_sub_cancel_left]) _ und23 rfl inf23) ?_)
                  | fail)
                refine CF.mono ?_
                rintro e y2 ⟨rfl, b2⟩
                obtain ⟨Y2, hY2⟩ := sz_some y2
                have l2 := below_sz b2 hY1 hY2
                have ha2 := ha1.below b2 (by omega)
                have hk2 := hk1.below b2 (by omega)
                have hr2 := hr1.below b2 (by omega)
                have hd2 := hd1.below b2 hY1
                have hb2 := hb1.trans (b2.mono (by omega))
                have CD := DFind_long M6 B.sum (some ⟨gq, 1, none⟩) 2047 (cq - 1) (by omega) y2 Y2 hY2
                clear CF ci1 ha1 hk1 hr1 hd1 hb1 T1 b2
                go_wp2_with (first
                  | (refine wpl_run rfl _ _ (run_ldp 23 (.tmp 119) rfl M 34 rfl 70 67 (actC B) ha2 32 (by omega) (fun j => By (B.sum j)) (fun j hj => by unfold actC; rw [if_neg (by omega), if_neg (by omega), if_neg (by omega), if_pos (by omega), Nat.add_sub_cancel_left]) _ und23 rfl inf23) ?_)
                  | fail)
                refine CD.mono ?_
                rintro e y3 ⟨rfl, b3⟩
                have hk3 := hk2.below b3 (by omega)
                have S6 : LS w N M4 M6 R y3 := ⟨hc, hb2.trans (b3.mono (by omega)), hr2.below b3 (by omega), pk, ck, ps, cs, hd2.below b3 hY2, lp, lq⟩
                clear CD hr2 hd2 hk2 ha2 hb2 b3
                go_wp2_with fail
                go_meet
                exact ⟨_, S6, hk3⟩
          · as_aux_lemma =>
              clear bs5 T5 hT hTN Hce
              have ci5 : wc.cell? ⟨M, 66, none⟩ = some (.int .i64 B.i) := ha5.cell (by omega)
              have nM4 : M ≠ M4 := by omega
              have nM6 : M ≠ M6 := by omega
              have nMp : blk pk ≠ some M := fun e => by have := (hpM _).1 e; omega
              have nMq : blk ps ≠ some M := fun e => by have := (hpM _).2 e; omega
              go_wp2_with fail
              obtain ⟨E, hE⟩ : ∃ E, E = spE R B.i := ⟨_, rfl⟩
              have CA := Spend_all R M4 B.i wc.drew M5 hM5 hr.drew hc
              have CD2 := fun (w1 : World) (K : Nat) (hK : Sz w1 K) (h : Dc w1 M6 R pk ck ps cs) => DSpend_all R M6 pk ps ck cs B.i w1 K hK h hc
              rw [← hE] at CA CD2
              clear hE
              try simp only [Act.put, List.setIfInBounds_toArray, List.set_cons_succ, List.set_cons_zero, List.getElem_toArray, List.getElem_cons_succ, List.getElem_cons_zero]
              refine wp_region_inn (fun w' => Has w' M 70 67 (actC B)) ha5.drew (by kernel_rfl) ?_
              have hne := inn_ne (I := fun w' => Has w' M 70 67 (actC B)) ha5
              have hcl : ∀ x : Inn (fun w' => Has w' M 70 67 (actC B)), x.w'.cell? ⟨M, 66, none⟩ = some (.int .i64 B.i) := fun x => x.h.cell (by omega)
              have hld : ∀ x : Inn (fun w' => Has w' M 70 67 (actC B)), (Instr.loadAt 3 (.pointer (some ⟨M, 66, none⟩))).run Tryd.prog x.w' = .ok (.int .i64 B.i) x.w' := fun x => by
                have c := hcl x
                go_simp
              refine anyI_reads [0, 1, 2, 4, 5, 6] _ _ _ ha5.drew (by kernel_rfl) (fun _ _ _ d _ h => by cases d <;> exact h) ?_
              simp only [pickO, List.map_cons, List.map_nil, List.getElem?_toArray, List.getElem?_cons_succ, List.getElem?_cons_zero, Option.getD_some, Act.put, List.setIfInBounds_toArray, List.set_cons_succ, List.set_cons_zero]
              repeat first
                | (refine inn_val (fun x => run_ld1 3 (.tmp 136) rfl ⟨M, 66, none⟩ rfl _ (hcl x) (hld x)) (by rfl) ?_; simp only [Act.put, List.setIfInBounds_toArray, List.set_cons_succ, List.set_cons_zero])
                | (refine inn_val (fun x => run_ld1 3 (.tmp 140) rfl ⟨M, 66, none⟩ rfl _ (hcl x) (hld x)) (by rfl) ?_; simp only [Act.put, List.setIfInBounds_toArray, List.set_cons_succ, List.set_cons_zero])
                | go_big_quiet_step (fail)
              refine wpQuiet_nil ?_
              clear hne hld hcl ci5
              refine anyI_part [3, 7, 8] _ _ _ _ (by kernel_rfl) ?_
              simp only [List.filterMap_cons, List.filterMap_nil, List.getElem?_toArray, List.getElem?_cons_succ, List.getElem?_cons_zero]
              change wpList _ _ _ [_] _ _
              go_wp2_with fail
              refine CA.mono ?_
              rintro e y1 ⟨rfl, ht, hr1⟩
              have hm := ht.mod
              obtain ⟨Y1, hY1⟩ := sz_some y1
              have lY1 : M5 ≤ Y1 := by have := hm.size; have e : y1.heap.size = Y1 := hY1; have e2 : wc.drew.heap.size = M5 := hM5; omega
              have hd1 := hd.drew.mod hm n64 (fun g hg => (lp g hg).2) (fun g hg => (lq g hg).2)
              have hk1 := hk5.drew.mod hm n34
              have ha1 := ha5.drew.mod hm nM4
              have b1 : Below N w y1 := hm.below hb.drew l4 (by have e2 : wc.drew.heap.size = M5 := hM5; omega)
              clear ht
              dsimp only
              go_step
              refine ⟨ha1, ?_⟩
              change wpList _ _ _ [_] _ _
              go_wp2_with fail
              refine (CD2 y1 Y1 hY1 hd1).mono ?_
              rintro e y2 ⟨rfl, mv⟩
              have hk2 := mv.has (M := 0) hk1 n36 n3p n3q
              have ha2 := mv.has (M := 0) ha1 nM6 nMp nMq
              dsimp only
              go_step
              refine ⟨ha2, ?_⟩
              change wpList _ _ _ [_] _ _
              refine wpl_pure rfl (v := .bool false) (by intro w; go_simp) ?_
              refine ⟨ha2, ?_⟩
              change anyI _ _ _ _ _ _ _ _ _
              refine anyI_done (by kernel_rfl) ?_
              try simp only [Act.put, List.setIfInBounds_toArray, List.set_cons_succ, List.set_cons_zero, List.getElem_toArray, List.getElem_cons_succ, List.getElem_cons_zero]
              have S6 := LS.moved hY1 b1 (by omega) l4 (by omega) (by omega) (spS_le R B.i hc) hr1 lp lq mv
              clear CA CD2 hb hr hd hk5 hM5 lp lq n3p n3q hr1 hd1 hk1 ha1 ha2 ha5 b1 mv
              go_wp2_with fail
              go_meet
              exact ⟨_, S6, hk2⟩
        case rest =>
          as_aux_lemma =>
            clear hb hr hd hk5 ha5 bs5 T5 hM5 lp lq n3p n3q hpM Hv Hce hc
            obtain ⟨R6, S6, hk6⟩ := hcut
            obtain ⟨M7, hM7⟩ := sz_some wc
            have l7 : N ≤ M7 := below_sz S6.2.1 hN hM7
            have S6' := S6
            obtain ⟨hc6, hb6, hr6, pk6, ck6, ps6, cs6, hd6, lp6, lq6⟩ := S6
            have CH := fun (x : Later M7 wc) (K : Nat) (hK : Sz x.w' K) => Has_any R6 M4 kf x.w' K hK (hr6.below x.b (hr6.ltN hM7)) hc6
            have CG := fun (x : Later M7 wc) (K : Nat) (hK : Sz x.w' K) => DHas_any R6 M6 pk6 ps6 ck6 cs6 kf x.w' K hK (hd6.below x.b hM7) hc6
            have CL := fun (x : Later M7 wc) => (Len_any R6 M4 x.w' (hr6.below x.b (hr6.ltN hM7))).mono (fun e w' (h : e = .returned (.int .i64 (R6.c : Int)) ∧ x.w' = w') => (⟨h.1, h.2.symm⟩ : e = .returned (.int .i64 (R6.c : Int)) ∧ w' = x.w'))
            obtain ⟨hh, ehh⟩ : ∃ hh, hh = hasB R6 kf := ⟨_, rfl⟩
            rw [← ehh] at CH CG
            clear ehh
            have c72 := hd6.cell72
            have hld : ∀ x : Later M7 wc, (Instr.loadAt 65 (.pointer (some ⟨M6, 72, none⟩))).run Tryd.prog x.w' = .ok (.slice pk6 R6.c ck6) x.w' := fun x => by
              have c := Later.cell hM7 c72 x
              go_simp
            go_upto_region 31 with fail
            refine wp_region_later M7 (by kernel_rfl) (by kernel_rfl) ?_
            repeat first
              | (refine later_val (fun x => run_ld 23 (.tmp 10) rfl M3 rfl 23 32 _ (Later.has hM7 hk6 x) _ und23 rfl inf23) (by rfl) ?_; simp only [Act.put, List.setIfInBounds_toArray, List.set_cons_succ, List.set_cons_zero])
              | (refine later_val (fun x => run_ld1 65 (.tmp 156) rfl ⟨M6, 72, none⟩ rfl _ (Later.cell hM7 c72 x) (hld x)) (by rfl) ?_; simp only [Act.put, List.setIfInBounds_toArray, List.set_cons_succ, List.set_cons_zero])
              | (go_big_quiet_step ((first
                | (go_at_call 36; exact later_of hM7 _ (fun K hK hKN => CH _ K hK))
                | (go_at_call 43; exact later_of hM7 _ (fun K hK hKN => CG _ K hK))
                | (go_at_call 38; exact later_of_same _ (CL _)))))
            refine wpQuiet_nil ?_
            rintro w8 ⟨x8, e8⟩
            have hb8 := x8.b
            rw [← e8] at hb8
            clear e8 x8 CH CG CL c72 hld
            go_wp2_with fail
            go_roundg (12 - (k + 1))
            case measure => omega
            case rel => exact ⟨k + 1, R6, by omega, rfl, by go_num, S6'.below hb8 hM7 l7⟩
    · by_cases h1 : k < n
      · have hl3 : decide ((k : Int) < (n : Int)) = true := by simp; omega
        have hl4 : decide ((k : Int) < 12) = false := by simp; omega
        go_wp2_with fail
        go_ret
        exact ⟨rfl, S.2.1⟩
      · have hl3 : decide ((k : Int) < (n : Int)) = false := by simp; omega
        go_wp2_with fail
        go_ret
        exact ⟨rfl, S.2.1⟩
end Go.Proofs.YtcampjgemedhlaaDoor
