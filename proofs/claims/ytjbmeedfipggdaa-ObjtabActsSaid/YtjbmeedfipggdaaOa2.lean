/- The walk of ObjtabActs. -/
import Derived.Test.YtjbmeedfipggdaaOa3
import Derived.Deep.CutBlock
import Derived.Deep.DeepCutAuto
import Derived.Deep.LoopGhost
namespace Go.Proofs.Ytjbmeedfipggdaa
open Go Go.RowKit
theorem szAct : (Try.prog.info? 42).map (·.size) = some 3 := by kernel_rfl
def actC3 (A : Nat → Int) : Nat → Value := fun j => .int .i64 (A j)
theorem zAct : (Try.prog.info? 42).map (fun i => (i.zero, i.size)) = some (some (.agg (cellsOf (actC3 fun _ => 0) 3)), 3) := by kernel_rfl
theorem stAct : ∃ fs, Try.prog.underlying 42 = some (.struct fs) := by
  have h : (match Try.prog.underlying 42 with | some (.struct _) => true | _ => false) = true := by kernel_rfl
  cases e : Try.prog.underlying 42 with
  | none => rw [e] at h; cases h
  | some d => cases d <;> first | exact ⟨_, rfl⟩ | (rw [e] at h; cases h)
set_option maxRecDepth 100000 in
set_option maxHeartbeats 4000000 in
theorem law_oacts (sz : Int) (p0 : Option Addr) (m cap0 : Nat) (A : Nat → Nat → Int) (w : World) (N : Nat) (hN : Sz w N)
    (hZ : 0 < m → ∃ bb off, p0 = some ⟨bb, off, none⟩ ∧ ∀ k, k < m → ∀ j, j < 3 → w.cell? ⟨bb, off + k * 3 + j, none⟩ = some (.int .i64 (A k j))) :
    Calls Try.prog 3 #[.int .i64 sz, .slice p0 m cap0] w fun e w' => e = .returned (.bool true) ∧ Below N w w' := by
  obtain ⟨fs, hfs⟩ := stAct
  by_cases hbad : sz < 1 ∨ 64 < sz
  · exact law_oacts_bad sz p0 m cap0 w N hN hbad
  obtain ⟨size, rfl⟩ : ∃ n : Nat, sz = (n : Int) := ⟨sz.toNat, by omega⟩
  have s1 : 1 ≤ size := by omega
  have s2 : size ≤ 64 := by omega
  have t1 : ¬ ((size : Int) < 1) := by omega
  have t2 : ¬ ((64 : Int) < (size : Int)) := by omega
  clear hbad
  go_enter Try.func3, Try.ntmps3
  go_wp2_with (first
    | (go_at_call 9; refine (onone_any _).mono ?_; rintro e w1 ⟨rfl, rfl⟩)
    | (go_at_call 10; refine (MakeI_nil 1 _).mono ?_; rintro e w1 ⟨rfl, rfl⟩)
    | (go_at_call 11; refine (DropI_nil 1 _).mono ?_; rintro e w1 ⟨rfl, rfl⟩)
    | (go_at_call 12; refine (GetI_nil 1 _).mono ?_; rintro e w1 ⟨rfl, rfl⟩)
    | (go_at_call 14; refine (HoldI_nil 1 _).mono ?_; rintro e w1 ⟨rfl, rfl⟩)
    | (go_at_call 15; refine (HeldI_nil 1 _).mono ?_; rintro e w1 ⟨rfl, rfl⟩)
    | (go_at_call 16; refine (LiveI_nil _).mono ?_; rintro e w1 ⟨rfl, rfl⟩)
    | (go_at_call 13; refine (holds_any _ N hN).mono ?_; rintro e w2 ⟨rfl, hb2⟩; obtain ⟨b, hM2⟩ := sz_some w2; have l2 := below_sz hb2 hN hM2)
    | (go_at_call 17; refine (ONewI_any size s1 s2 w2 b hM2 (fun _ => ⟨0, 0, 0⟩)).mono ?_; rintro e w3 ⟨rfl, hb3, O3, hM3⟩)
    | (refine wpl_build rfl 40 _ rfl (cellsOf (obC (size : Int) 0 none 0 0) 3) (by kernel_rfl) ?_)
    | (refine wpl_box rfl 40 (.tmp 92) rfl 3 _ rfl (b + 1) hM3 ?_; intro w4 hM4 hb4 h4)
    | fail)
  obtain ⟨d, hd⟩ : ∃ d, d = b + 1 := ⟨_, rfl⟩
  have S4 : StA w N b (b + 1) size 0 w4 := ⟨0, 0, fun _ => ⟨0, 0, 0⟩, none, 0, none, 0, ⟨Nat.zero_le _, Nat.le_refl _, fun k hk => by omega, fun k hk => by omega, fun a c _ hc => by omega⟩,
    ⟨O3.below hM3 hb4, ⟨h4, OwnK.nil _ _ _ _, fun _ h => by cases h⟩, by omega, l2, by omega, fun _ h => (by cases h), fun _ h => (by cases h), fun _ h => (by cases h), (hb2.trans (hb3.mono l2)).trans (hb4.mono (by omega))⟩⟩
  rw [← hd] at S4 ⊢
  clear hd h4 hb4 hM4 O3 hM3 hb3 l2 hM2 hb2
  go_loopg [14] 80 (fun g i wr => ∃ j : Nat, j ≤ 80 ∧ g = 80 - j ∧ i = .int .i64 j ∧ StA w N b d size j wr)
  case atStart => exact ⟨0, by omega, rfl, rfl, S4⟩
  case round =>
    clear S4
    obtain ⟨j, hj, rfl, rfl, S⟩ := hrel
    have j0 : (0 : Int) ≤ (j : Int) := by omega
    have j1 : (j : Int) ≤ 80 := by omega
    by_cases hlt : j < m ∧ j < 80
    · obtain ⟨h1, h2⟩ := hlt
      have l1 : (j : Int) < (m : Int) := by omega
      have l2 : (j : Int) < 80 := by omega
      obtain ⟨M, hM⟩ := sz_some wr
      obtain ⟨last, n, E, p, cap, q, capq, I, C⟩ := S
      have hNM := below_sz C.bel hN hM
      obtain ⟨bb, off, rfl, hcells⟩ := hZ (by omega)
      have hbb : bb < N := by
        have := World.block_lt_of_cell? w _ (hcells j h1 0 (by omega))
        have e : w.heap.size = N := hN
        simp only at this
        omega
      have Hce := hid (show ∀ i, i < 3 → wr.cell? ⟨bb, off + j * 3 + i, none⟩ = some (actC3 (A j) i) from fun i hi => by rw [C.bel.cell (p := ⟨bb, off + j * 3 + i, none⟩) hbb]; exact hcells j h1 i hi)
      clear hcells
      generalize A j = a at Hce
      obtain ⟨v, hv, ev⟩ := rest (a 0) 6 (by omega) (by omega)
      rw [show ((6 : Nat) : Int) = 6 from rfl] at ev
      have Ev := hid ev
      clear ev
      go_upto_block 2 with (first
        | (refine wpl_load_cells rfl 42 (.tmp 106) rfl bb (off + j * 3) rfl 3 (actC3 a) Hce.out _ hfs rfl szAct ?_)
        | (refine wpl_alloc rfl 42 rfl 3 _ zAct M hM ?_; intro x1 hX1 hb1 ha1)
        | (refine wpl_store rfl 42 (.tmp 15) (.tmp 107) rfl M 3 (actC3 a) rfl rfl 42 _ ha1 szAct (fun _ _ => rfl) ?_; intro x2 ht2 ha2; have c0 : x2.cell? ⟨M, 0, none⟩ = some (.int .i64 (a 0)) := ha2.cell (by omega))
        | fail)
      rw [Ev.out]
      have b2 : Below M wr x2 := ht2.below hb1 (Nat.le_refl M)
      have C2 := C.below hN hM b2
      have hX2 := ht2.sz hX1
      have c1 : x2.cell? ⟨M, 1, none⟩ = some (.int .i64 (a 1)) := ha2.cell (by omega)
      have c2 : x2.cell? ⟨M, 2, none⟩ = some (.int .i64 (a 2)) := ha2.cell (by omega)
      have hpM : ∀ g, blk p = some g → g < M := fun g hg => by have := C.o.e.lt g hg; have e : wr.heap.size = M := hM; omega
      have hqM : ∀ g, blk q = some g → g < M := fun g hg => by have := C.r.e.lt g hg; have e : wr.heap.size = M := hM; omega
      have bM := C.o.h.ltN hM
      have dM := C.r.h.ltN hM
      have ln : n ≤ 64 := Nat.le_trans I.ns s2
      have ll : last ≤ 80 := Nat.le_trans I.lj hj
      clear c0 hb1 ha1 ht2 b2 C hM hX1 Hce
      go_cut [] (fun wx => StA w N b d size (j + 1) wx)
      case first =>
        have HX := hid (show (∃ k, k < n ∧ (E k).id = a 2) ∨ ∀ k, k < n → (E k).id ≠ a 2 from by
          by_cases h : ∃ k, k < n ∧ (E k).id = a 2
          · exact .inl h
          · exact .inr (fun k hk e => h ⟨k, hk, e⟩))
        rcases (show v = 0 ∨ v = 1 ∨ v = 2 ∨ v = 3 ∨ v = 4 ∨ v = 5 by omega) with rfl | rfl | rfl | rfl | rfl | rfl
        · as_aux_lemma =>
            by_cases hs : n < size
            · have hs' : (n : Int) < (size : Int) := by omega
              go_wp2_with fail
              refine (OMakeI_ok b (size : Int) (last : Int) p n cap E (a 1) hs' ln (by omega) (by omega) x2 (M + 1) hX2 C2.o).mono ?_
              rintro e y1 ⟨p1, cap1, rfl, T1, hp1, O1⟩
              have C3 := C2.stepO hN hX2 T1 hp1 O1
              have d1 : y1.cell? ⟨M, 1, none⟩ = some (.int .i64 (a 1)) := (ha2.turn T1 (fun e => by rcases e with e | e; omega; have := hpM M e; omega)).cell (by omega)
              obtain ⟨M3, hM3⟩ := sz_some y1
              clear c1 c2 T1 hp1 O1
              go_wp2_with fail
              refine (RMake_ok d (size : Int) (last : Int) q n capq (sw E) (a 1) hs' ln (by omega) (by omega) y1 M3 hM3 C3.r).mono ?_
              rintro e y2 ⟨q1, capq1, rfl, T2, hq1, R2⟩
              have C4 := C3.stepR hN hM3 T2 hq1 R2
              clear d1 C3 T2 hq1 R2 hM3
              go_wp2_with fail
              go_meet
              exact ⟨last + 1, n + 1, _, _, _, _, _, I.make hs (a 1), by rw [sw_set]; exact C4⟩
            · have hs' : (n : Int) = (size : Int) := by have := I.ns; omega
              have Hs := hid hs'
              clear hs'
              go_wp2_with fail
              refine (OMakeI_full b (size : Int) (last : Int) p n cap E (a 1) Hs.out ln x2 (M + 1) hX2 C2.o).mono ?_
              rintro e y1 ⟨rfl, hb1⟩
              have C3 := C2.below hN hX2 hb1
              have d1 : y1.cell? ⟨M, 1, none⟩ = some (.int .i64 (a 1)) := (ha2.below hb1 (by omega)).cell (by omega)
              obtain ⟨M3, hM3⟩ := sz_some y1
              clear c1 c2 hb1
              go_wp2_with fail
              refine (RMake_full d (size : Int) (last : Int) q n capq (sw E) (a 1) Hs.out ln y1 M3 hM3 C3.r).mono ?_
              rintro e y2 ⟨rfl, hb2⟩
              have C4 := C3.below hN hM3 hb2
              clear d1 C3 hM3
              go_wp2_with fail
              go_meet
              exact ⟨last, n, _, _, _, _, _, I.more, C4⟩
        · as_aux_lemma =>
            by_cases hs : n < size
            · have hs' : (n : Int) < (size : Int) := by omega
              go_wp2_with fail
              refine (OMakeI_ok b (size : Int) (last : Int) p n cap E (a 1) hs' ln (by omega) (by omega) x2 (M + 1) hX2 C2.o).mono ?_
              rintro e y1 ⟨p1, cap1, rfl, T1, hp1, O1⟩
              have C3 := C2.stepO hN hX2 T1 hp1 O1
              have d1 : y1.cell? ⟨M, 1, none⟩ = some (.int .i64 (a 1)) := (ha2.turn T1 (fun e => by rcases e with e | e; omega; have := hpM M e; omega)).cell (by omega)
              obtain ⟨M3, hM3⟩ := sz_some y1
              clear c1 c2 T1 hp1 O1
              go_wp2_with fail
              refine (RMake_ok d (size : Int) (last : Int) q n capq (sw E) (a 1) hs' ln (by omega) (by omega) y1 M3 hM3 C3.r).mono ?_
              rintro e y2 ⟨q1, capq1, rfl, T2, hq1, R2⟩
              have C4 := C3.stepR hN hM3 T2 hq1 R2
              clear d1 C3 T2 hq1 R2 hM3
              go_wp2_with fail
              go_meet
              exact ⟨last + 1, n + 1, _, _, _, _, _, I.make hs (a 1), by rw [sw_set]; exact C4⟩
            · have hs' : (n : Int) = (size : Int) := by have := I.ns; omega
              have Hs := hid hs'
              clear hs'
              go_wp2_with fail
              refine (OMakeI_full b (size : Int) (last : Int) p n cap E (a 1) Hs.out ln x2 (M + 1) hX2 C2.o).mono ?_
              rintro e y1 ⟨rfl, hb1⟩
              have C3 := C2.below hN hX2 hb1
              have d1 : y1.cell? ⟨M, 1, none⟩ = some (.int .i64 (a 1)) := (ha2.below hb1 (by omega)).cell (by omega)
              obtain ⟨M3, hM3⟩ := sz_some y1
              clear c1 c2 hb1
              go_wp2_with fail
              refine (RMake_full d (size : Int) (last : Int) q n capq (sw E) (a 1) Hs.out ln y1 M3 hM3 C3.r).mono ?_
              rintro e y2 ⟨rfl, hb2⟩
              have C4 := C3.below hN hM3 hb2
              clear d1 C3 hM3
              go_wp2_with fail
              go_meet
              exact ⟨last, n, _, _, _, _, _, I.more, C4⟩
        · as_aux_lemma =>
            rcases HX.out with ⟨k, hk, hz⟩ | hno
            · have Hz := hid hz
              have Hl := hid (show ∀ i, i < k → (E i).id ≠ a 2 from fun i hi => I.other hk hi hz)
              have hh := I.held k hk
              have lt : n ≤ 1000 := by omega
              clear hz
              by_cases hm : (E k).held = 1000
              · have Hm := hid hm
                clear hm
                go_wp2_with fail
                refine wp_region_inn (fun w' => Has w' M 42 3 (actC3 a)) ha2.drew (by kernel_rfl) ?_
                have hne := inn_ne (I := fun w' => Has w' M 42 3 (actC3 a)) ha2
                have hld : ∀ x : Inn (fun w' => Has w' M 42 3 (actC3 a)), (Instr.loadAt 3 (.pointer (some ⟨M, 2, none⟩))).run Try.prog x.w' = .ok (.int .i64 (a 2)) x.w' := fun x => by
                  have c : x.w'.cell? ⟨M, 2, none⟩ = some (.int .i64 (a 2)) := x.h.cell (by omega)
                  go_simp
                refine anyI_reads [0, 1, 2, 4, 5, 6] _ _ _ ha2.drew (by kernel_rfl) (fun _ _ _ d _ h => by cases d <;> exact h) ?_
                simp only [pickO, List.map_cons, List.map_nil, List.getElem?_toArray, List.getElem?_cons_succ, List.getElem?_cons_zero, Option.getD_some, Act.put, List.setIfInBounds_toArray, List.set_cons_succ, List.set_cons_zero]
                repeat first
                  | (refine inn_val (fun x => ld_one 3 (.tmp 141) rfl ⟨M, 2, none⟩ rfl _ (hld x)) (by rfl) ?_; simp only [Act.put, List.setIfInBounds_toArray, List.set_cons_succ, List.set_cons_zero])
                  | (refine inn_val (fun x => ld_one 3 (.tmp 145) rfl ⟨M, 2, none⟩ rfl _ (hld x)) (by rfl) ?_; simp only [Act.put, List.setIfInBounds_toArray, List.set_cons_succ, List.set_cons_zero])
                  | go_big_quiet_step (fail)
                refine wpQuiet_nil ?_
                clear hne hld
                have C2d : Ac w N b d (size : Int) (last : Int) p n cap E (last : Int) q n capq (sw E) x2.drew := ⟨C2.o.drew, ⟨C2.r.h, C2.r.e, C2.r.ne⟩, C2.bd, C2.bn, C2.dn, C2.pn, C2.qn, C2.pq, C2.bel.drew⟩
                have hX2d : Sz x2.drew (M + 1) := hX2
                have had := ha2.drew
                clear C2 hX2 ha2 c1 c2
                generalize World.drew x2 = xd at *
                refine anyI_part [3, 7, 8] _ _ _ _ (by kernel_rfl) ?_
                simp only [List.filterMap_cons, List.filterMap_nil, List.getElem?_toArray, List.getElem?_cons_succ, List.getElem?_cons_zero]
                change wpList _ _ _ [_] _ _
                go_wp2_with fail
                refine (OHoldI_most b (size : Int) (last : Int) p n cap E (a 2) k hk Hz.out Hl.out Hm.out lt xd (M + 1) hX2d C2d.o).mono ?_
                rintro e y1 ⟨rfl, hb1⟩
                have C3 := C2d.below hN hX2d hb1
                have hk1 := had.below hb1 (by omega)
                obtain ⟨M3, hM3⟩ := sz_some y1
                clear C2d had hb1
                dsimp only
                go_step
                refine ⟨hk1, ?_⟩
                change wpList _ _ _ [_] _ _
                go_wp2_with fail
                refine (RHold_most d (size : Int) (last : Int) q n capq (sw E) (a 2) k hk Hz.out Hl.out Hm.out lt y1 C3.r).mono ?_
                rintro e y2 ⟨rfl, rfl⟩
                have hk2 := hk1
                dsimp only
                go_step
                refine ⟨hk2, ?_⟩
                change wpList _ _ _ [_] _ _
                refine wpl_pure rfl (v := .bool false) (by intro w; go_simp) ?_
                refine ⟨hk2, ?_⟩
                change anyI _ _ _ _ _ _ _ _ _
                refine anyI_done (by kernel_rfl) ?_
                try simp only [Act.put, List.setIfInBounds_toArray, List.set_cons_succ, List.set_cons_zero, List.getElem_toArray, List.getElem_cons_succ, List.getElem_cons_zero]
                go_wp2_with fail
                go_meet
                exact ⟨last, n, _, _, _, _, _, I.more, C3⟩
              · have h1' : (E k).held < 1000 := by omega
                have h0' : 0 ≤ (E k).held := by omega
                have Hb := hid (And.intro h0' h1')
                have Hc := hid (And.intro hh.1 hh.2)
                clear hm h1' h0' hh
                go_wp2_with fail
                refine wp_region_inn (fun w' => Has w' M 42 3 (actC3 a)) ha2.drew (by kernel_rfl) ?_
                have hne := inn_ne (I := fun w' => Has w' M 42 3 (actC3 a)) ha2
                have hld : ∀ x : Inn (fun w' => Has w' M 42 3 (actC3 a)), (Instr.loadAt 3 (.pointer (some ⟨M, 2, none⟩))).run Try.prog x.w' = .ok (.int .i64 (a 2)) x.w' := fun x => by
                  have c : x.w'.cell? ⟨M, 2, none⟩ = some (.int .i64 (a 2)) := x.h.cell (by omega)
                  go_simp
                refine anyI_reads [0, 1, 2, 4, 5, 6] _ _ _ ha2.drew (by kernel_rfl) (fun _ _ _ d _ h => by cases d <;> exact h) ?_
                simp only [pickO, List.map_cons, List.map_nil, List.getElem?_toArray, List.getElem?_cons_succ, List.getElem?_cons_zero, Option.getD_some, Act.put, List.setIfInBounds_toArray, List.set_cons_succ, List.set_cons_zero]
                repeat first
                  | (refine inn_val (fun x => ld_one 3 (.tmp 141) rfl ⟨M, 2, none⟩ rfl _ (hld x)) (by rfl) ?_; simp only [Act.put, List.setIfInBounds_toArray, List.set_cons_succ, List.set_cons_zero])
                  | (refine inn_val (fun x => ld_one 3 (.tmp 145) rfl ⟨M, 2, none⟩ rfl _ (hld x)) (by rfl) ?_; simp only [Act.put, List.setIfInBounds_toArray, List.set_cons_succ, List.set_cons_zero])
                  | go_big_quiet_step (fail)
                refine wpQuiet_nil ?_
                clear hne hld
                have C2d : Ac w N b d (size : Int) (last : Int) p n cap E (last : Int) q n capq (sw E) x2.drew := ⟨C2.o.drew, ⟨C2.r.h, C2.r.e, C2.r.ne⟩, C2.bd, C2.bn, C2.dn, C2.pn, C2.qn, C2.pq, C2.bel.drew⟩
                have hX2d : Sz x2.drew (M + 1) := hX2
                have had := ha2.drew
                clear C2 hX2 ha2 c1 c2
                generalize World.drew x2 = xd at *
                refine anyI_part [3, 7, 8] _ _ _ _ (by kernel_rfl) ?_
                simp only [List.filterMap_cons, List.filterMap_nil, List.getElem?_toArray, List.getElem?_cons_succ, List.getElem?_cons_zero]
                change wpList _ _ _ [_] _ _
                go_wp2_with fail
                refine (OHoldI_ok b (size : Int) (last : Int) p n cap E (a 2) k hk Hz.out Hl.out Hb.out.1 Hb.out.2 lt xd (M + 1) hX2d C2d.o).mono ?_
                rintro e y1 ⟨rfl, T1, O1⟩
                have C3 := C2d.stepO hN hX2d (T1.mono (fun _ h => .inr h)) (fun g hg => .inl hg) O1
                have hk1 := had.turn T1 (fun e => by have := hpM M e; omega)
                obtain ⟨M3, hM3⟩ := sz_some y1
                clear C2d had T1 O1
                dsimp only
                go_step
                refine ⟨hk1, ?_⟩
                change wpList _ _ _ [_] _ _
                go_wp2_with fail
                refine (RHold_ok d (size : Int) (last : Int) q n capq (sw E) (a 2) k hk Hz.out Hl.out Hb.out.1 Hb.out.2 lt y1 C3.r).mono ?_
                rintro e y2 ⟨rfl, T2, R2⟩
                have C4 := C3.stepR hN hM3 (T2.mono (fun _ h => .inr h)) (fun g hg => .inl hg) R2
                have hk2 := hk1.turn T2 (fun e => by have := hqM M e; omega)
                clear C3 T2 R2 hk1
                dsimp only
                go_step
                refine ⟨hk2, ?_⟩
                change wpList _ _ _ [_] _ _
                refine wpl_pure rfl (v := .bool false) (by intro w; go_simp) ?_
                refine ⟨hk2, ?_⟩
                change anyI _ _ _ _ _ _ _ _ _
                refine anyI_done (by kernel_rfl) ?_
                try simp only [Act.put, List.setIfInBounds_toArray, List.set_cons_succ, List.set_cons_zero, List.getElem_toArray, List.getElem_cons_succ, List.getElem_cons_zero]
                go_wp2_with fail
                go_meet
                exact ⟨last, n, _, _, _, _, _, I.set hk (z := (E k).held + 1) (by have := Hc.out.1; omega) (by have := Hb.out.2; omega), by rw [sw_set]; exact C4⟩
            · have Hno := hid hno
              have lt : n ≤ 1000 := by omega
              clear hno
              go_wp2_with fail
              refine wp_region_inn (fun w' => Has w' M 42 3 (actC3 a)) ha2.drew (by kernel_rfl) ?_
              have hne := inn_ne (I := fun w' => Has w' M 42 3 (actC3 a)) ha2
              have hld : ∀ x : Inn (fun w' => Has w' M 42 3 (actC3 a)), (Instr.loadAt 3 (.pointer (some ⟨M, 2, none⟩))).run Try.prog x.w' = .ok (.int .i64 (a 2)) x.w' := fun x => by
                have c : x.w'.cell? ⟨M, 2, none⟩ = some (.int .i64 (a 2)) := x.h.cell (by omega)
                go_simp
              refine anyI_reads [0, 1, 2, 4, 5, 6] _ _ _ ha2.drew (by kernel_rfl) (fun _ _ _ d _ h => by cases d <;> exact h) ?_
              simp only [pickO, List.map_cons, List.map_nil, List.getElem?_toArray, List.getElem?_cons_succ, List.getElem?_cons_zero, Option.getD_some, Act.put, List.setIfInBounds_toArray, List.set_cons_succ, List.set_cons_zero]
              repeat first
                | (refine inn_val (fun x => ld_one 3 (.tmp 141) rfl ⟨M, 2, none⟩ rfl _ (hld x)) (by rfl) ?_; simp only [Act.put, List.setIfInBounds_toArray, List.set_cons_succ, List.set_cons_zero])
                | (refine inn_val (fun x => ld_one 3 (.tmp 145) rfl ⟨M, 2, none⟩ rfl _ (hld x)) (by rfl) ?_; simp only [Act.put, List.setIfInBounds_toArray, List.set_cons_succ, List.set_cons_zero])
                | go_big_quiet_step (fail)
              refine wpQuiet_nil ?_
              clear hne hld
              have C2d : Ac w N b d (size : Int) (last : Int) p n cap E (last : Int) q n capq (sw E) x2.drew := ⟨C2.o.drew, ⟨C2.r.h, C2.r.e, C2.r.ne⟩, C2.bd, C2.bn, C2.dn, C2.pn, C2.qn, C2.pq, C2.bel.drew⟩
              have hX2d : Sz x2.drew (M + 1) := hX2
              have had := ha2.drew
              clear C2 hX2 ha2 c1 c2
              generalize World.drew x2 = xd at *
              refine anyI_part [3, 7, 8] _ _ _ _ (by kernel_rfl) ?_
              simp only [List.filterMap_cons, List.filterMap_nil, List.getElem?_toArray, List.getElem?_cons_succ, List.getElem?_cons_zero]
              change wpList _ _ _ [_] _ _
              go_wp2_with fail
              refine (OHoldI_no b (size : Int) (last : Int) p n cap E (a 2) Hno.out lt xd (M + 1) hX2d C2d.o).mono ?_
              rintro e y1 ⟨rfl, hb1⟩
              have C3 := C2d.below hN hX2d hb1
              have hk1 := had.below hb1 (by omega)
              obtain ⟨M3, hM3⟩ := sz_some y1
              clear C2d had hb1
              dsimp only
              go_step
              refine ⟨hk1, ?_⟩
              change wpList _ _ _ [_] _ _
              go_wp2_with fail
              refine (RHold_no d (size : Int) (last : Int) q n capq (sw E) (a 2) Hno.out lt y1 C3.r).mono ?_
              rintro e y2 ⟨rfl, rfl⟩
              have hk2 := hk1
              dsimp only
              go_step
              refine ⟨hk2, ?_⟩
              change wpList _ _ _ [_] _ _
              refine wpl_pure rfl (v := .bool false) (by intro w; go_simp) ?_
              refine ⟨hk2, ?_⟩
              change anyI _ _ _ _ _ _ _ _ _
              refine anyI_done (by kernel_rfl) ?_
              try simp only [Act.put, List.setIfInBounds_toArray, List.set_cons_succ, List.set_cons_zero, List.getElem_toArray, List.getElem_cons_succ, List.getElem_cons_zero]
              go_wp2_with fail
              go_meet
              exact ⟨last, n, _, _, _, _, _, I.more, C3⟩
        · as_aux_lemma =>
            rcases HX.out with ⟨k, hk, hz⟩ | hno
            · have Hz := hid hz
              have Hl := hid (show ∀ i, i < k → (E i).id ≠ a 2 from fun i hi => I.other hk hi hz)
              have hh := I.held k hk
              have lt : n ≤ 1000 := by omega
              clear hz
              by_cases hm : (E k).held = 1
              · have Hm := hid hm
                clear hm hh
                go_wp2_with fail
                refine (ODropI_last b (size : Int) (last : Int) p n cap E (a 2) k hk Hz.out Hl.out Hm.out lt x2 (M + 1) hX2 C2.o).mono ?_
                rintro e y1 ⟨rfl, T1, O1⟩
                have C3 := C2.stepO hN hX2 T1 (fun g hg => .inl hg) O1
                have d1 : y1.cell? ⟨M, 2, none⟩ = some (.int .i64 (a 2)) := (ha2.turn T1 (fun e => by rcases e with e | e; omega; have := hpM M e; omega)).cell (by omega)
                obtain ⟨M3, hM3⟩ := sz_some y1
                clear c1 c2 T1 O1
                go_wp2_with fail
                refine (RDrop_last d (size : Int) (last : Int) q n capq (sw E) (a 2) k hk Hz.out Hl.out Hm.out lt y1 M3 hM3 C3.r).mono ?_
                rintro e y2 ⟨q1, capq1, rfl, T2, hq1, R2⟩
                have C4 := C3.stepR hN hM3 T2 (fun g hg => .inr (hq1 g hg)) R2
                clear d1 C3 T2 hq1 R2 hM3
                go_wp2_with fail
                go_meet
                exact ⟨last, n - 1, _, _, _, _, _, I.del hk, by rw [sw_del]; exact C4⟩
              · have h2' : 2 ≤ (E k).held := by omega
                have Hb := hid (And.intro h2' hh.2)
                clear hm h2' hh
                go_wp2_with fail
                refine (ODropI_more b (size : Int) (last : Int) p n cap E (a 2) k hk Hz.out Hl.out Hb.out.1 Hb.out.2 lt x2 (M + 1) hX2 C2.o).mono ?_
                rintro e y1 ⟨rfl, T1, O1⟩
                have C3 := C2.stepO hN hX2 (T1.mono (fun _ h => .inr h)) (fun g hg => .inl hg) O1
                have d1 : y1.cell? ⟨M, 2, none⟩ = some (.int .i64 (a 2)) := (ha2.turn T1 (fun e => by have := hpM M e; omega)).cell (by omega)
                obtain ⟨M3, hM3⟩ := sz_some y1
                clear c1 c2 T1 O1
                go_wp2_with fail
                refine (RDrop_more d (size : Int) (last : Int) q n capq (sw E) (a 2) k hk Hz.out Hl.out Hb.out.1 Hb.out.2 lt y1 C3.r).mono ?_
                rintro e y2 ⟨rfl, T2, R2⟩
                have C4 := C3.stepR hN hM3 (T2.mono (fun _ h => .inr h)) (fun g hg => .inl hg) R2
                clear d1 C3 T2 R2 hM3
                go_wp2_with fail
                go_meet
                exact ⟨last, n, _, _, _, _, _, I.set hk (z := (E k).held - 1) (by have := Hb.out.1; omega) (by have := Hb.out.2; omega), by rw [sw_set]; exact C4⟩
            · have Hno := hid hno
              have lt : n ≤ 1000 := by omega
              clear hno
              go_wp2_with fail
              refine (ODropI_no b (size : Int) (last : Int) p n cap E (a 2) Hno.out lt x2 (M + 1) hX2 C2.o).mono ?_
              rintro e y1 ⟨rfl, hb1⟩
              have C3 := C2.below hN hX2 hb1
              have d1 : y1.cell? ⟨M, 2, none⟩ = some (.int .i64 (a 2)) := (ha2.below hb1 (by omega)).cell (by omega)
              clear c1 c2 hb1
              go_wp2_with fail
              refine (RDrop_no d (size : Int) (last : Int) q n capq (sw E) (a 2) Hno.out lt y1 C3.r).mono ?_
              rintro e y2 ⟨rfl, rfl⟩
              clear d1
              go_wp2_with fail
              go_meet
              exact ⟨last, n, _, _, _, _, _, I.more, C3⟩
        · as_aux_lemma =>
            rcases HX.out with ⟨k, hk, hz⟩ | hno
            · have Hz := hid hz
              have Hl := hid (show ∀ i, i < k → (E i).id ≠ a 2 from fun i hi => I.other hk hi hz)
              have hh := I.held k hk
              have lt : n ≤ 1000 := by omega
              clear hz
              by_cases hm : (E k).held = 1
              · have Hm := hid hm
                clear hm hh
                go_wp2_with fail
                refine (ODropI_last b (size : Int) (last : Int) p n cap E (a 2) k hk Hz.out Hl.out Hm.out lt x2 (M + 1) hX2 C2.o).mono ?_
                rintro e y1 ⟨rfl, T1, O1⟩
                have C3 := C2.stepO hN hX2 T1 (fun g hg => .inl hg) O1
                have d1 : y1.cell? ⟨M, 2, none⟩ = some (.int .i64 (a 2)) := (ha2.turn T1 (fun e => by rcases e with e | e; omega; have := hpM M e; omega)).cell (by omega)
                obtain ⟨M3, hM3⟩ := sz_some y1
                clear c1 c2 T1 O1
                go_wp2_with fail
                refine (RDrop_last d (size : Int) (last : Int) q n capq (sw E) (a 2) k hk Hz.out Hl.out Hm.out lt y1 M3 hM3 C3.r).mono ?_
                rintro e y2 ⟨q1, capq1, rfl, T2, hq1, R2⟩
                have C4 := C3.stepR hN hM3 T2 (fun g hg => .inr (hq1 g hg)) R2
                clear d1 C3 T2 hq1 R2 hM3
                go_wp2_with fail
                go_meet
                exact ⟨last, n - 1, _, _, _, _, _, I.del hk, by rw [sw_del]; exact C4⟩
              · have h2' : 2 ≤ (E k).held := by omega
                have Hb := hid (And.intro h2' hh.2)
                clear hm h2' hh
                go_wp2_with fail
                refine (ODropI_more b (size : Int) (last : Int) p n cap E (a 2) k hk Hz.out Hl.out Hb.out.1 Hb.out.2 lt x2 (M + 1) hX2 C2.o).mono ?_
                rintro e y1 ⟨rfl, T1, O1⟩
                have C3 := C2.stepO hN hX2 (T1.mono (fun _ h => .inr h)) (fun g hg => .inl hg) O1
                have d1 : y1.cell? ⟨M, 2, none⟩ = some (.int .i64 (a 2)) := (ha2.turn T1 (fun e => by have := hpM M e; omega)).cell (by omega)
                obtain ⟨M3, hM3⟩ := sz_some y1
                clear c1 c2 T1 O1
                go_wp2_with fail
                refine (RDrop_more d (size : Int) (last : Int) q n capq (sw E) (a 2) k hk Hz.out Hl.out Hb.out.1 Hb.out.2 lt y1 C3.r).mono ?_
                rintro e y2 ⟨rfl, T2, R2⟩
                have C4 := C3.stepR hN hM3 (T2.mono (fun _ h => .inr h)) (fun g hg => .inl hg) R2
                clear d1 C3 T2 R2 hM3
                go_wp2_with fail
                go_meet
                exact ⟨last, n, _, _, _, _, _, I.set hk (z := (E k).held - 1) (by have := Hb.out.1; omega) (by have := Hb.out.2; omega), by rw [sw_set]; exact C4⟩
            · have Hno := hid hno
              have lt : n ≤ 1000 := by omega
              clear hno
              go_wp2_with fail
              refine (ODropI_no b (size : Int) (last : Int) p n cap E (a 2) Hno.out lt x2 (M + 1) hX2 C2.o).mono ?_
              rintro e y1 ⟨rfl, hb1⟩
              have C3 := C2.below hN hX2 hb1
              have d1 : y1.cell? ⟨M, 2, none⟩ = some (.int .i64 (a 2)) := (ha2.below hb1 (by omega)).cell (by omega)
              clear c1 c2 hb1
              go_wp2_with fail
              refine (RDrop_no d (size : Int) (last : Int) q n capq (sw E) (a 2) Hno.out lt y1 C3.r).mono ?_
              rintro e y2 ⟨rfl, rfl⟩
              clear d1
              go_wp2_with fail
              go_meet
              exact ⟨last, n, _, _, _, _, _, I.more, C3⟩
        · as_aux_lemma =>
            rcases HX.out with ⟨k, hk, hz⟩ | hno
            · have Hz := hid hz
              have Hl := hid (show ∀ i, i < k → (E i).id ≠ a 2 from fun i hi => I.other hk hi hz)
              have lt : n ≤ 1000 := by omega
              clear hz
              go_wp2_with fail
              refine (OGetI_ok b (size : Int) (last : Int) p n cap E (a 2) k hk Hz.out Hl.out lt x2 (M + 1) hX2 C2.o).mono ?_
              rintro e y1 ⟨rfl, hb1⟩
              have C3 := C2.below hN hX2 hb1
              have d1 : y1.cell? ⟨M, 2, none⟩ = some (.int .i64 (a 2)) := (ha2.below hb1 (by omega)).cell (by omega)
              clear c1 c2 hb1
              go_wp2_with fail
              refine (RFind_at d (size : Int) (last : Int) q n capq (sw E) (a 2) k hk Hz.out Hl.out lt y1 C3.r).mono ?_
              rintro e y2 ⟨rfl, rfl⟩
              clear d1
              obtain ⟨gq, rfl⟩ := C3.r.ptr (by omega)
              have e2 := C3.r.c2
              have ek : y1.cell? ⟨gq, k * 3 + 1, none⟩ = some (.int .i64 (E k).x) := C3.r.at k hk 1 (by omega)
              have k0 : (0 : Int) ≤ (k : Int) := by omega
              have kn : (k : Int) < (n : Int) := by omega
              have Hk := hid (⟨rfl, rfl⟩ : (E k).x = (E k).x ∧ True = True)
              clear Hk
              go_wp2_with fail
              go_meet
              exact ⟨last, n, _, _, _, _, _, I.more, C3⟩
            · have Hno := hid hno
              have lt : n ≤ 1000 := by omega
              clear hno
              go_wp2_with fail
              refine (OGetI_no b (size : Int) (last : Int) p n cap E (a 2) Hno.out lt x2 (M + 1) hX2 C2.o).mono ?_
              rintro e y1 ⟨rfl, hb1⟩
              have C3 := C2.below hN hX2 hb1
              have d1 : y1.cell? ⟨M, 2, none⟩ = some (.int .i64 (a 2)) := (ha2.below hb1 (by omega)).cell (by omega)
              clear c1 c2 hb1
              go_wp2_with fail
              refine (RFind_no d (size : Int) (last : Int) q n capq (sw E) (a 2) Hno.out lt y1 C3.r).mono ?_
              rintro e y2 ⟨rfl, rfl⟩
              clear d1
              go_wp2_with fail
              go_meet
              exact ⟨last, n, _, _, _, _, _, I.more, C3⟩
      case rest =>
        as_aux_lemma =>
          clear C2 ha2 c1 c2 hX2 I hpM hqM bM dM ln ll Ev
          obtain ⟨lastc, nc, Ec, pc, capc, qc, capqc, Ic, Cc⟩ := hcut
          have lnc : nc ≤ 64 := Nat.le_trans Ic.ns s2
          have ln1 : nc ≤ 1000 := by omega
          obtain ⟨Mc, hMc⟩ := sz_some wc
          go_wp2_with fail
          refine (OLiveI_any b (size : Int) (lastc : Int) pc nc capc Ec ln1 wc Mc hMc Cc.o).mono ?_
          rintro e y1 ⟨gl, cl, rfl, ol, _, hb1⟩
          have C1 := Cc.below hN hMc hb1
          obtain ⟨My, hMy⟩ := sz_some y1
          have e2 := C1.r.c2
          clear Cc hb1 hMc
          go_wp2_with fail
          clear e2
          go_loopg [28] nc (fun g i wr => ∃ k : Nat, k ≤ nc ∧ g = nc - k ∧ i = .int .i64 k ∧ Below My y1 wr)
          case atStart => exact ⟨0, by omega, rfl, rfl, Below.refl _ _⟩
          case round =>
            obtain ⟨k, hk, rfl, rfl, qb⟩ := hrel
            have k0 : (0 : Int) ≤ (k : Int) := by omega
            have k1 : (k : Int) ≤ 64 := by omega
            obtain ⟨Mk, hMk⟩ := sz_some wr
            have Ck := C1.below hN hMy qb
            have lMk := below_sz qb hMy hMk
            by_cases hlt : k < nc
            · have hl1 : (k : Int) < (nc : Int) := by omega
              have ok := ol.below qb (Nat.le_of_eq hMy)
              obtain ⟨g1, rfl, hc1⟩ := ok.cell (by omega)
              obtain ⟨gq, rfl⟩ := Ck.r.ptr (by omega)
              obtain ⟨z, hz⟩ : ∃ z, z = (Ec k).id := ⟨_, rfl⟩
              obtain ⟨h, hh⟩ : ∃ h, h = (Ec k).held := ⟨_, rfl⟩
              have f1 : wr.cell? ⟨g1, k, none⟩ = some (.int .i64 z) := by
                have := hc1 k hlt
                rw [Nat.zero_add] at this
                rw [this, hz]
                rfl
              have f2 := Ck.r.c2
              have f3 : wr.cell? ⟨gq, k * 3, none⟩ = some (.int .i64 z) := (Ck.r.at k hlt 0 (by omega)).trans (by rw [hz]; rfl)
              have f4 : wr.cell? ⟨gq, k * 3 + 2, none⟩ = some (.int .i64 h) := (Ck.r.at k hlt 2 (by omega)).trans (by rw [hh]; rfl)
              have CH := fun (x : Later Mk wr) (K : Nat) (hK : Sz x.w' K) => OHeldI_ok b (size : Int) (lastc : Int) pc nc capc Ec (Ec k).id k hlt rfl (fun i hi => Ic.other hlt hi rfl) ln1 x.w' K hK (Ck.o.below hMk x.b)
              rw [← hz, ← hh] at CH
              have hA : ∀ x : Later Mk wr, (Instr.loadAt 3 (.pointer (some ⟨g1, k, none⟩))).run Try.prog x.w' = .ok (.int .i64 z) x.w' := fun x => by
                have c := Later.cell hMk f1 x
                go_simp
              have hB : ∀ x : Later Mk wr, (Instr.loadAt 38 (.pointer (some ⟨d, 2, none⟩))).run Try.prog x.w' = .ok (.slice (some ⟨gq, 0, none⟩) nc capqc) x.w' := fun x => by
                have c := Later.cell hMk f2 x
                go_simp
              have hC : ∀ x : Later Mk wr, (Instr.loadAt 3 (.pointer (some ⟨gq, k * 3, none⟩))).run Try.prog x.w' = .ok (.int .i64 z) x.w' := fun x => by
                have c := Later.cell hMk f3 x
                go_simp
              have hD : ∀ x : Later Mk wr, (Instr.loadAt 3 (.pointer (some ⟨gq, k * 3 + 2, none⟩))).run Try.prog x.w' = .ok (.int .i64 h) x.w' := fun x => by
                have c := Later.cell hMk f4 x
                go_simp
              clear hz hh f1 f2 f3 f4 hc1 ok
              go_wp2_with fail
              refine wp_region_later Mk (by kernel_rfl) (by kernel_rfl) ?_
              repeat first
                | (refine later_val (fun x => ld_one 3 (.tmp 238) rfl ⟨g1, k, none⟩ rfl _ (hA x)) (by rfl) ?_; simp only [Act.put, List.setIfInBounds_toArray, List.set_cons_succ, List.set_cons_zero])
                | (refine later_val (fun x => ld_one 38 (.tmp 242) rfl ⟨d, 2, none⟩ rfl _ (hB x)) (by rfl) ?_; simp only [Act.put, List.setIfInBounds_toArray, List.set_cons_succ, List.set_cons_zero])
                | (refine later_val (fun x => ld_one 3 (.tmp 246) rfl ⟨gq, k * 3, none⟩ rfl _ (hC x)) (by rfl) ?_; simp only [Act.put, List.setIfInBounds_toArray, List.set_cons_succ, List.set_cons_zero])
                | (refine later_val (fun x => ld_one 3 (.tmp 253) rfl ⟨g1, k, none⟩ rfl _ (hA x)) (by rfl) ?_; simp only [Act.put, List.setIfInBounds_toArray, List.set_cons_succ, List.set_cons_zero])
                | (refine later_val (fun x => ld_one 38 (.tmp 258) rfl ⟨d, 2, none⟩ rfl _ (hB x)) (by rfl) ?_; simp only [Act.put, List.setIfInBounds_toArray, List.set_cons_succ, List.set_cons_zero])
                | (refine later_val (fun x => ld_one 3 (.tmp 262) rfl ⟨gq, k * 3 + 2, none⟩ rfl _ (hD x)) (by rfl) ?_; simp only [Act.put, List.setIfInBounds_toArray, List.set_cons_succ, List.set_cons_zero])
                | (go_big_quiet_step ((go_at_call 15; exact later_of hMk _ (fun K hK hKN => CH _ K hK))))
              refine wpQuiet_nil ?_
              rintro w5 ⟨x5, e5⟩
              have hb5 := x5.b
              rw [← e5] at hb5
              clear e5 x5 hA hB hC hD CH
              go_wp2_with fail
              go_roundg (nc - (k + 1))
              case measure => omega
              case rel => exact ⟨k + 1, by omega, rfl, by go_num, qb.trans (hb5.mono lMk)⟩
            · have hl1 : ¬ ((k : Int) < (nc : Int)) := by omega
              go_wp2_with fail
              go_roundg (80 - (j + 1))
              case measure => omega
              case rel => exact ⟨j + 1, by omega, rfl, by go_num, lastc, nc, Ec, pc, capc, qc, capqc, Ic, Ck⟩
    · have t1 : ¬ ((j : Int) < (m : Int)) ∨ ((j : Int) < (m : Int) ∧ ¬ ((j : Int) < 80)) := by omega
      obtain ⟨last, n, E, p, cap, q, capq, I, C⟩ := S
      have ln : n ≤ 64 := Nat.le_trans I.ns s2
      obtain ⟨M, hM⟩ := sz_some wr
      have CH := OHeldI_no b (size : Int) (last : Int) p n cap E 0 (fun i hi => by have := (I.id i hi).1; omega) (by omega) wr M hM C.o
      have bel := C.bel
      have hNM := below_sz bel hN hM
      clear C I hZ
      rcases t1 with t1 | ⟨t1, t2⟩
      · go_wp2_with fail
        refine CH.mono ?_
        rintro e w9 ⟨rfl, hb9⟩
        go_wp2_with fail
        go_ret
        exact ⟨rfl, bel.trans (hb9.mono hNM)⟩
      · go_wp2_with fail
        refine CH.mono ?_
        rintro e w9 ⟨rfl, hb9⟩
        go_wp2_with fail
        go_ret
        exact ⟨rfl, bel.trans (hb9.mono hNM)⟩
end Go.Proofs.Ytjbmeedfipggdaa
