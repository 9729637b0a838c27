/- DocAdd of the document's answer for layer 3: the walk. -/
import Derived.Test.YtcampjgemedhlaaDoorRg9
namespace Go.Proofs.YtcampjgemedhlaaDoor
open Go Go.RowKit Sha
set_option maxRecDepth 100000 in
set_option maxHeartbeats 4000000 in
theorem DAdd_any (R : Rg) (d : Nat) (pk ps : Option Addr) (ck cs : Nat) (key : Nat → BitVec 8) (w : World) (N : Nat) (hN : Sz w N) (hD : Dc w d R pk ck ps cs) (hc : R.c ≤ 32) :
    Calls Tryd.prog 40 #[.pointer (some ⟨d, 0, none⟩), .agg (cellsOf (fun j => By (key j)) 32)] w fun e w' => (plB R key = true ∧ e = .returned (.int .i64 17) ∧ Below N w w') ∨ (plB R key = false ∧ R.c = 32 ∧ e = .returned (.int .i64 28) ∧ Below N w w') ∨ (plB R key = false ∧ R.c < 32 ∧ e = .returned (.int .i64 0) ∧ Added d R pk ps key w w') := by
  have lp : ∀ g, blk pk = some g → g < N := fun g hg => by have := hD.k.lt g hg; have e : w.heap.size = N := hN; omega
  have lq : ∀ g, blk ps = some g → g < N := fun g hg => by have := hD.s.lt g hg; have e : w.heap.size = N := hN; omega
  have ld : d < N := hD.h.ltN hN
  go_enter Tryd.func40, Tryd.ntmps40
  go_wp2_with (first
    | (refine wpl_box rfl 23 (.tmp 1) rfl 32 _ rfl N hN ?_; intro w1 hN1 hb1 h1)
    | fail)
  have D1 := hD.below hb1 hN
  go_loopw [5] (fun i wr => ∃ k : Nat, k ≤ R.c ∧ i = .int .i64 k ∧ Hid (∀ i, i < k → eqK R key i = false) ∧ Below (N + 1) w1 wr)
    (fun i _ => R.c - (intOf i).toNat)
  case atStart => exact ⟨0, by omega, rfl, hid (fun i hi => by omega), Below.refl _ _⟩
  case round =>
    obtain ⟨k, hk, rfl, HF, qb⟩ := hrel
    obtain ⟨M, hM⟩ := sz_some wr
    have hNM := below_sz qb hN1 hM
    have Dr := D1.below qb hN1
    have hr := h1.below qb (by omega)
    have bw := hb1.trans (qb.mono (by omega))
    have c72 := Dr.cell72
    clear D1 h1 hD
    by_cases hlt : k < R.c
    · have hk32 : (k : Int) < 32 := by omega
      obtain ⟨g, rfl, hks⟩ := Dr.key (by omega)
      have hld : ∀ x : Later M wr, (Instr.loadAt 65 (.pointer (some ⟨d, 72, none⟩))).run Tryd.prog x.w' = .ok (.slice (some ⟨g, 0, none⟩) R.c ck) x.w' := fun x => by
        have c := Later.cell hM c72 x
        go_simp
      obtain ⟨q, eq⟩ : ∃ q, q = eqK R key k := ⟨_, rfl⟩
      have HEQ := hid (fun w => run_eqK R key k w)
      rw [← eq] at HEQ
      have HQ := hid eq
      clear eq
      have Hk := hid hks
      clear hks
      go_wp2_with fail
      refine wp_region_later M (by kernel_rfl) (by kernel_rfl) ?_
      repeat first
        | (refine later_val (fun x => run_ld1 65 (.tmp 17) rfl ⟨d, 72, none⟩ rfl _ (Later.cell hM c72 x) (hld x)) (by rfl) ?_; simp only [Act.put, List.setIfInBounds_toArray, List.set_cons_succ, List.set_cons_zero])
        | (refine later_val (fun x => run_ldc 23 (.tmp 20) rfl g (k * 32) rfl 32 (fun j => By (R.K k j)) (fun j hj => Later.cell hM (Hk.out k hlt j hj) x) _ und23 rfl inf23) (by rfl) ?_; simp only [Act.put, List.setIfInBounds_toArray, List.set_cons_succ, List.set_cons_zero])
        | (refine later_val (fun x => run_ld 23 (.tmp 3) rfl N rfl 23 32 _ (Later.has hM hr x) _ und23 rfl inf23) (by rfl) ?_; simp only [Act.put, List.setIfInBounds_toArray, List.set_cons_succ, List.set_cons_zero])
        | (refine later_val (fun x => run_eql_op 23 23 (.tmp 21) (.tmp 22) rfl _ _ rfl rfl q (by kernel_rfl) (HEQ.out x.w')) (by rfl) ?_; simp only [Act.put, List.setIfInBounds_toArray, List.set_cons_succ, List.set_cons_zero])
        | (go_big_quiet_step (fail))
      refine wpQuiet_nil ?_
      rintro w5 ⟨x5, e5⟩
      have hb5 := x5.b
      rw [← e5] at hb5
      clear e5 x5
      have q5 := qb.trans (hb5.mono hNM)
      clear c72 hld
      cases q
      · go_wp2_with fail
        exact ⟨⟨k + 1, by omega, by go_num, hid (fun i hi => by
          by_cases h : i < k
          · exact HF.out i h
          · obtain rfl : i = k := by omega
            exact HQ.out.symm), q5⟩, by simp [intOf]; omega⟩
      · have hp := find_first (eqK R key) R.c k hlt HF.out HQ.out.symm
        have E2 := hid (show plB R key = true by unfold plB plO; rw [hp]; rfl)
        clear hp
        go_wp2_with fail
        go_ret
        exact .inl ⟨E2.out, rfl, hb1.trans (q5.mono (by omega))⟩
    · obtain rfl : k = R.c := by omega
      have hp := find_none (eqK R key) R.c HF.out
      have E2 := hid (show plB R key = false by unfold plB plO; rw [hp]; rfl)
      clear hp
      by_cases hfull : R.c = 32
      · have hge : decide ((32 : Int) ≤ (R.c : Int)) = true := by simp; omega
        have HFU := hid hfull
        clear hfull
        go_wp2_with fail
        go_ret
        exact .inr (.inl ⟨E2.out, HFU.out, rfl, bw⟩)
      · have hge : decide ((32 : Int) ≤ (R.c : Int)) = false := by simp; omega
        have hc2 : R.c < 32 := by omega
        clear hfull
        go_wp2_with fail
        have c73 := Dr.cell73
        have hld : ∀ w', Has w' d 68 74 (dcC pk R.c ck ps cs) → (Instr.loadAt 65 (.pointer (some ⟨d, 72, none⟩))).run Tryd.prog w' = .ok (.slice pk R.c ck) w' := fun w' h => by
          have c : w'.cell? ⟨d, 72, none⟩ = some (.slice pk R.c ck) := h.cell (by omega)
          go_simp
        have hls : ∀ w', Has w' d 68 74 (dcC pk R.c ck ps cs) → (Instr.loadAt 66 (.pointer (some ⟨d, 73, none⟩))).run Tryd.prog w' = .ok (.slice ps R.c cs) w' := fun w' h => by
          have c : w'.cell? ⟨d, 73, none⟩ = some (.slice ps R.c cs) := h.cell (by omega)
          go_simp
        clear c72 c73
        refine wp_region_any (by kernel_rfl) ?_
        change wpAny _ _ _ _ _ _ _ (World.drew _)
        refine wpAny_take (i := 0) (v := .pointer (some ⟨d, 0, none⟩)) rfl (by kernel_rfl) (by kernel_rfl) (by kernel_rfl) (fun _ _ _ h => h) (Or.inl ⟨by rfl, ?y0⟩) ?r0
        case y0 => (intro w; go_simp; first | done | with_reducible rfl)
        refine wpAny_take (i := 1) (v := .pointer (some ⟨d, 0, none⟩)) rfl (by kernel_rfl) (by kernel_rfl) (by kernel_rfl) (fun _ _ _ h => h) (Or.inl ⟨by rfl, ?y1⟩) ?r1
        case y1 => (intro w; go_simp; first | done | with_reducible rfl)
        refine wpAny_take (i := 2) (v := .pointer (some ⟨d, 0, none⟩)) rfl (by kernel_rfl) (by kernel_rfl) (by kernel_rfl) (fun _ _ _ h => h) (Or.inl ⟨by rfl, ?y2⟩) ?r2
        case y2 => (intro w; go_simp; first | done | with_reducible rfl)
        refine wpAny_take (i := 3) (v := .pointer (some ⟨d, 0, none⟩)) rfl (by kernel_rfl) (by kernel_rfl) (by kernel_rfl) (fun _ _ _ h => h) (Or.inl ⟨by rfl, ?y3⟩) ?r3
        case y3 => (intro w; go_simp; first | done | with_reducible rfl)
        simp only [Act.put, List.setIfInBounds_toArray, List.set_cons_succ, List.set_cons_zero, List.getElem_toArray, List.getElem_cons_succ, List.getElem_cons_zero]
        refine wpAny_take (i := 4) (v := .pointer (some ⟨d, 72, none⟩)) rfl (by kernel_rfl) (by kernel_rfl) (by kernel_rfl) (fun _ _ _ h => h) (Or.inl ⟨by rfl, ?y4⟩) ?r4
        case y4 => (intro w; go_simp; first | done | with_reducible rfl)
        refine wpAny_take (i := 9) (v := .pointer (some ⟨d, 0, none⟩)) rfl (by kernel_rfl) (by kernel_rfl) (by kernel_rfl) (fun _ _ _ h => h) (Or.inl ⟨by rfl, ?y9⟩) ?r9
        case y9 => (intro w; go_simp; first | done | with_reducible rfl)
        refine wpAny_take (i := 10) (v := .pointer (some ⟨d, 0, none⟩)) rfl (by kernel_rfl) (by kernel_rfl) (by kernel_rfl) (fun _ _ _ h => h) (Or.inl ⟨by rfl, ?y10⟩) ?r10
        case y10 => (intro w; go_simp; first | done | with_reducible rfl)
        simp only [Act.put, List.setIfInBounds_toArray, List.set_cons_succ, List.set_cons_zero, List.getElem_toArray, List.getElem_cons_succ, List.getElem_cons_zero]
        refine wpAny_take (i := 11) (v := .pointer (some ⟨d, 73, none⟩)) rfl (by kernel_rfl) (by kernel_rfl) (by kernel_rfl) (fun _ _ _ h => h) (Or.inl ⟨by rfl, ?y11⟩) ?r11
        case y11 => (intro w; go_simp; first | done | with_reducible rfl)
        simp only [Act.put, List.setIfInBounds_toArray, List.set_cons_succ, List.set_cons_zero, List.getElem_toArray, List.getElem_cons_succ, List.getElem_cons_zero]
        refine anyT_any (s := 17) (I := fun w' => Has w' d 68 74 (dcC pk R.c ck ps cs) ∧ Has w' N 23 32 (fun j => By (key j))) _ _ _ _ ?_
        refine anyT_reads [5, 6, 12] _ _ _ ⟨Dr.h.drew, hr.drew⟩ (by kernel_rfl) (fun _ _ _ d _ h => by cases d <;> exact h) ?_
        simp only [pickO, List.map_cons, List.map_nil, List.getElem?_toArray, List.getElem?_cons_succ, List.getElem?_cons_zero, Option.getD_some]
        refine inn_val (fun x => run_ld1 65 (.tmp 34) rfl ⟨d, 72, none⟩ rfl _ (x.h.1.cell (by omega)) (hld _ x.h.1)) (by rfl) ?_
        refine inn_val (fun x => run_ld 23 (.tmp 3) rfl N rfl 23 32 _ x.h.2 _ und23 rfl inf23) (by rfl) ?_
        refine inn_val (fun x => run_ld1 66 (.tmp 41) rfl ⟨d, 73, none⟩ rfl _ (x.h.1.cell (by omega)) (hls _ x.h.1)) (by rfl) ?_
        refine wpQuiet_nil ?_
        simp only [Act.put, List.setIfInBounds_toArray, List.set_cons_succ, List.set_cons_zero]
        clear hld hls
        have ne1 : some d ≠ blk pk := fun e => Dr.kd d e.symm rfl
        have ne2 : some d ≠ blk ps := fun e => Dr.sd d e.symm rfl
        have ne3 : some N ≠ blk pk := fun e => by have := lp N e.symm; omega
        have ne4 : some N ≠ blk ps := fun e => by have := lq N e.symm; omega
        have Dd := Dr.drew
        have hrd := hr.drew
        have hMd : Sz wr.drew M := hM
        have G0 : Gr3 d (blk pk) (blk ps) wr wr.drew := ⟨rfl, rfl, rfl, Nat.le_refl _, fun _ _ _ _ _ => rfl⟩
        refine anyT_two 7 13 _ _ _ _ (by kernel_rfl) ?_ ?_
        · simp only [List.filterMap_cons, List.filterMap_nil, List.getElem?_toArray, List.getElem?_cons_succ, List.getElem?_cons_zero]
          refine wpl_lit32 rfl (.tmp 36) rfl (fun j => By (key j)) rfl M hMd ?_
          intro x1 hX1 hb1 l1
          have G1 := G0.trans (Gr3.of_below hMd hb1)
          have hd1 := Dd.h.below hb1 (Dd.h.ltN hMd)
          have hx1 := hrd.below hb1 (hrd.ltN hMd)
          have os1 := Dd.s.below hb1 (Nat.le_of_eq hMd)
          have ok1 := Dd.k.below hb1 (Nat.le_of_eq hMd)
          refine ⟨fun _ => ⟨hd1, hx1⟩, ?_⟩
          change anyT _ _ _ _ _ _ _ _ _ _
          try simp only [Act.put, List.setIfInBounds_toArray, List.set_cons_succ, List.set_cons_zero, List.getElem_toArray, List.getElem_cons_succ, List.getElem_cons_zero]
          refine anyT_two 8 13 _ _ _ _ (by kernel_rfl) ?_ ?_
          · simp only [List.filterMap_cons, List.filterMap_nil, List.getElem?_toArray, List.getElem?_cons_succ, List.getElem?_cons_zero]
            refine wpl_appK rfl (.tmp 35) (.tmp 37) 65 rfl 23 32 (by omega) und65 keyCell pk R.c ck rfl (keysC R) ok1 _ 1 1 rfl (fun j => By (key j)) l1.cells (fun _ _ => rfl) (by omega) ?_
            intro pk' ck' x2 ok2 g2 k2 n2
            have G2 := G1.trans (Gr3.of_p g2)
            have hd2 := hd1.grew g2 ne1
            have hx2 := hx1.grew g2 ne3
            have os2 := os1.grew g2 (by rcases hz : blk ps with _ | z; exact .inl rfl; exact .inr (fun e => Dr.ks z e.symm hz))
            obtain ⟨M2, hX2⟩ := sz_some x2
            have e2 : (x1).heap.size = (M + 1) := hX1
            have leM2 : (M + 1) ≤ M2 := by have := g2.size; have e : x2.heap.size = M2 := hX2; omega
            rw [e2] at k2
            have lt2 : blk pk' = blk pk ∨ (blk pk' = some (M + 1) ∧ (M + 1) < M2) := by
              rcases k2 with e | e
              · exact .inl e
              · exact .inr ⟨e, by have := ok2.lt _ e; have e2 : x2.heap.size = M2 := hX2; omega⟩
            refine ⟨fun _ => ⟨hd2, hx2⟩, ?_⟩
            change anyT _ _ _ _ _ _ _ _ _ _
            try simp only [Act.put, List.setIfInBounds_toArray, List.set_cons_succ, List.set_cons_zero, List.getElem_toArray, List.getElem_cons_succ, List.getElem_cons_zero]
            refine anyT_one 13 _ _ _ _ (by kernel_rfl) ?_
            simp only [List.filterMap_cons, List.filterMap_nil, List.getElem?_toArray, List.getElem?_cons_succ, List.getElem?_cons_zero]
            refine wpl_lits rfl 66 4 1 _ rfl (fun _ => .bool false) 1 (.bool false) und66 boolLit (by omega) (by omega) (by kernel_rfl) M2 hX2 ?_
            intro x3 hX3 hb3 l3
            have G3 := G2.trans (Gr3.of_below hX2 hb3)
            have hd3 := hd2.below hb3 (hd2.ltN hX2)
            have hx3 := hx2.below hb3 (hx2.ltN hX2)
            have os3 := os2.below hb3 (Nat.le_of_eq hX2)
            have ok3 := ok2.below hb3 (Nat.le_of_eq hX2)
            refine ⟨fun _ => ⟨hd3, hx3⟩, ?_⟩
            change anyT _ _ _ _ _ _ _ _ _ _
            try simp only [Act.put, List.setIfInBounds_toArray, List.set_cons_succ, List.set_cons_zero, List.getElem_toArray, List.getElem_cons_succ, List.getElem_cons_zero]
            refine anyT_one 14 _ _ _ _ (by kernel_rfl) ?_
            simp only [List.filterMap_cons, List.filterMap_nil, List.getElem?_toArray, List.getElem?_cons_succ, List.getElem?_cons_zero]
            refine wpl_app rfl (.tmp 42) (.tmp 43) 66 rfl 4 und66 boolCell ps R.c cs rfl (spC R) os3 _ 1 1 rfl (fun _ => .bool false) l3.cells (fun _ _ => rfl) (by omega) ?_
            intro ps' cs' x4 os4 g4 k4 n4
            have G4 := G3.trans (Gr3.of_q g4)
            have hd4 := hd3.grew g4 ne2
            have hx4 := hx3.grew g4 ne4
            have ok4 := ok3.grew g4 (.inr (fun e => by
              rcases lt2 with e2 | ⟨e2, _⟩
              · rcases hz : blk pk with _ | z
                · rw [hz] at e2; exact n2 (by omega) e2
                · exact Dr.ks z hz (by rw [← e, e2, hz])
              · have := lq (M + 1) (by rw [← e, e2]); omega))
            have e4 : (x3).heap.size = (M2 + 1) := hX3
            rw [e4] at k4
            refine ⟨fun _ => ⟨hd4, hx4⟩, ?_⟩
            change anyT _ _ _ _ _ _ _ _ _ _
            try simp only [Act.put, List.setIfInBounds_toArray, List.set_cons_succ, List.set_cons_zero, List.getElem_toArray, List.getElem_cons_succ, List.getElem_cons_zero]
            refine anyT_one 15 _ _ _ _ (by kernel_rfl) ?_
            simp only [List.filterMap_cons, List.filterMap_nil, List.getElem?_toArray, List.getElem?_cons_succ, List.getElem?_cons_zero]
            refine wpl_pure rfl (v := .pointer (some ⟨d, 0, none⟩)) (by intro w; first | rfl | (go_simp; first | done | with_reducible rfl)) ?_
            refine ⟨fun _ => ⟨hd4, hx4⟩, ?_⟩
            change anyT _ _ _ _ _ _ _ _ _ _
            try simp only [Act.put, List.setIfInBounds_toArray, List.set_cons_succ, List.set_cons_zero, List.getElem_toArray, List.getElem_cons_succ, List.getElem_cons_zero]
            refine anyT_one 16 _ _ _ _ (by kernel_rfl) ?_
            simp only [List.filterMap_cons, List.filterMap_nil, List.getElem?_toArray, List.getElem?_cons_succ, List.getElem?_cons_zero]
            refine wpl_pure rfl (v := .pointer (some ⟨d, 72, none⟩)) (by intro w; first | rfl | (go_simp; first | done | with_reducible rfl)) ?_
            refine ⟨fun _ => ⟨hd4, hx4⟩, ?_⟩
            change anyT _ _ _ _ _ _ _ _ _ _
            try simp only [Act.put, List.setIfInBounds_toArray, List.set_cons_succ, List.set_cons_zero, List.getElem_toArray, List.getElem_cons_succ, List.getElem_cons_zero]
            refine anyT_one 17 _ _ _ _ (by kernel_rfl) ?_
            simp only [List.filterMap_cons, List.filterMap_nil, List.getElem?_toArray, List.getElem?_cons_succ, List.getElem?_cons_zero]
            refine wpl_set rfl 65 (.tmp 46) (.tmp 38) rfl d 72 rfl (.slice pk' (R.c + 1) ck') rfl inf65 rfl rfl 68 74 _ hd4 (by omega) ?_
            intro y1 t1 z1
            refine ⟨fun h => absurd h (by simp), ?_⟩
            refine anyT_of_any _ _ _ _ (by kernel_rfl) ?_
            change wpAny _ _ _ _ _ _ _ _
            try simp only [Act.put, List.setIfInBounds_toArray, List.set_cons_succ, List.set_cons_zero, List.getElem_toArray, List.getElem_cons_succ, List.getElem_cons_zero]
            refine wpAny_part [18, 19, 20] _ _ _ _ (by kernel_rfl) ?_
            simp only [List.filterMap_cons, List.filterMap_nil, List.getElem?_toArray, List.getElem?_cons_succ, List.getElem?_cons_zero]
            refine wpl_pure rfl (v := .pointer (some ⟨d, 0, none⟩)) (by intro w; first | rfl | (go_simp; first | done | with_reducible rfl)) ?_
            refine wpl_pure rfl (v := .pointer (some ⟨d, 73, none⟩)) (by intro w; first | rfl | (go_simp; first | done | with_reducible rfl)) ?_
            refine wpl_set rfl 66 (.tmp 48) (.tmp 44) rfl d 73 rfl (.slice ps' (R.c + 1) cs') rfl inf66 rfl rfl 68 74 _ z1 (by omega) ?_
            intro y2 t2 z2
            change wpAny _ _ _ _ _ _ _ _
            refine wpAny_done (by kernel_rfl) ?_ _
            try simp only [Act.put, List.setIfInBounds_toArray, List.set_cons_succ, List.set_cons_zero, List.getElem_toArray, List.getElem_cons_succ, List.getElem_cons_zero]
            have AD := added_fin hM Dr G4 ok4 os4 (M + 1) (M2 + 1) (by omega) (by omega) (lt2.imp id (fun h => ⟨h.1, by omega⟩)) k4 t1 t2 z2
            go_wp2_with fail
            go_ret
            exact .inr (.inr ⟨E2.out, hc2, rfl, AD.from hN bw⟩)
          · simp only [List.filterMap_cons, List.filterMap_nil, List.getElem?_toArray, List.getElem?_cons_succ, List.getElem?_cons_zero]
            refine wpl_lits rfl 66 4 1 _ rfl (fun _ => .bool false) 1 (.bool false) und66 boolLit (by omega) (by omega) (by kernel_rfl) (M + 1) hX1 ?_
            intro x2 hX2 hb2 l2
            have G2 := G1.trans (Gr3.of_below hX1 hb2)
            have hd2 := hd1.below hb2 (hd1.ltN hX1)
            have hx2 := hx1.below hb2 (hx1.ltN hX1)
            have os2 := os1.below hb2 (Nat.le_of_eq hX1)
            have ok2 := ok1.below hb2 (Nat.le_of_eq hX1)
            have lk2 := l1.below hb2 (l1.ltN hX1)
            refine ⟨fun _ => ⟨hd2, hx2⟩, ?_⟩
            change anyT _ _ _ _ _ _ _ _ _ _
            try simp only [Act.put, List.setIfInBounds_toArray, List.set_cons_succ, List.set_cons_zero, List.getElem_toArray, List.getElem_cons_succ, List.getElem_cons_zero]
            refine anyT_one 8 _ _ _ _ (by kernel_rfl) ?_
            simp only [List.filterMap_cons, List.filterMap_nil, List.getElem?_toArray, List.getElem?_cons_succ, List.getElem?_cons_zero]
            refine wpl_appK rfl (.tmp 35) (.tmp 37) 65 rfl 23 32 (by omega) und65 keyCell pk R.c ck rfl (keysC R) ok2 _ 1 1 rfl (fun j => By (key j)) lk2.cells (fun _ _ => rfl) (by omega) ?_
            intro pk' ck' x3 ok3 g3 k3 n3
            have G3 := G2.trans (Gr3.of_p g3)
            have hd3 := hd2.grew g3 ne1
            have hx3 := hx2.grew g3 ne3
            have os3 := os2.grew g3 (by rcases hz : blk ps with _ | z; exact .inl rfl; exact .inr (fun e => Dr.ks z e.symm hz))
            obtain ⟨M3, hX3⟩ := sz_some x3
            have e3 : (x2).heap.size = ((M + 1) + 1) := hX2
            have leM3 : ((M + 1) + 1) ≤ M3 := by have := g3.size; have e : x3.heap.size = M3 := hX3; omega
            rw [e3] at k3
            have lb3 := l2.grew g3 (fun e => by have := lp (M + 1) e.symm; omega)
            have lt3 : blk pk' = blk pk ∨ (blk pk' = some ((M + 1) + 1) ∧ ((M + 1) + 1) < M3) := by
              rcases k3 with e | e
              · exact .inl e
              · exact .inr ⟨e, by have := ok3.lt _ e; have e2 : x3.heap.size = M3 := hX3; omega⟩
            refine ⟨fun _ => ⟨hd3, hx3⟩, ?_⟩
            change anyT _ _ _ _ _ _ _ _ _ _
            try simp only [Act.put, List.setIfInBounds_toArray, List.set_cons_succ, List.set_cons_zero, List.getElem_toArray, List.getElem_cons_succ, List.getElem_cons_zero]
            refine anyT_one 14 _ _ _ _ (by kernel_rfl) ?_
            simp only [List.filterMap_cons, List.filterMap_nil, List.getElem?_toArray, List.getElem?_cons_succ, List.getElem?_cons_zero]
            refine wpl_app rfl (.tmp 42) (.tmp 43) 66 rfl 4 und66 boolCell ps R.c cs rfl (spC R) os3 _ 1 1 rfl (fun _ => .bool false) lb3.cells (fun _ _ => rfl) (by omega) ?_
            intro ps' cs' x4 os4 g4 k4 n4
            have G4 := G3.trans (Gr3.of_q g4)
            have hd4 := hd3.grew g4 ne2
            have hx4 := hx3.grew g4 ne4
            have ok4 := ok3.grew g4 (.inr (fun e => by
              rcases lt3 with e2 | ⟨e2, _⟩
              · rcases hz : blk pk with _ | z
                · rw [hz] at e2; exact n3 (by omega) e2
                · exact Dr.ks z hz (by rw [← e, e2, hz])
              · have := lq ((M + 1) + 1) (by rw [← e, e2]); omega))
            have e4 : (x3).heap.size = M3 := hX3
            rw [e4] at k4
            refine ⟨fun _ => ⟨hd4, hx4⟩, ?_⟩
            change anyT _ _ _ _ _ _ _ _ _ _
            try simp only [Act.put, List.setIfInBounds_toArray, List.set_cons_succ, List.set_cons_zero, List.getElem_toArray, List.getElem_cons_succ, List.getElem_cons_zero]
            refine anyT_one 15 _ _ _ _ (by kernel_rfl) ?_
            simp only [List.filterMap_cons, List.filterMap_nil, List.getElem?_toArray, List.getElem?_cons_succ, List.getElem?_cons_zero]
            refine wpl_pure rfl (v := .pointer (some ⟨d, 0, none⟩)) (by intro w; first | rfl | (go_simp; first | done | with_reducible rfl)) ?_
            refine ⟨fun _ => ⟨hd4, hx4⟩, ?_⟩
            change anyT _ _ _ _ _ _ _ _ _ _
            try simp only [Act.put, List.setIfInBounds_toArray, List.set_cons_succ, List.set_cons_zero, List.getElem_toArray, List.getElem_cons_succ, List.getElem_cons_zero]
            refine anyT_one 16 _ _ _ _ (by kernel_rfl) ?_
            simp only [List.filterMap_cons, List.filterMap_nil, List.getElem?_toArray, List.getElem?_cons_succ, List.getElem?_cons_zero]
            refine wpl_pure rfl (v := .pointer (some ⟨d, 72, none⟩)) (by intro w; first | rfl | (go_simp; first | done | with_reducible rfl)) ?_
            refine ⟨fun _ => ⟨hd4, hx4⟩, ?_⟩
            change anyT _ _ _ _ _ _ _ _ _ _
            try simp only [Act.put, List.setIfInBounds_toArray, List.set_cons_succ, List.set_cons_zero, List.getElem_toArray, List.getElem_cons_succ, List.getElem_cons_zero]
            refine anyT_one 17 _ _ _ _ (by kernel_rfl) ?_
            simp only [List.filterMap_cons, List.filterMap_nil, List.getElem?_toArray, List.getElem?_cons_succ, List.getElem?_cons_zero]
            refine wpl_set rfl 65 (.tmp 46) (.tmp 38) rfl d 72 rfl (.slice pk' (R.c + 1) ck') rfl inf65 rfl rfl 68 74 _ hd4 (by omega) ?_
            intro y1 t1 z1
            refine ⟨fun h => absurd h (by simp), ?_⟩
            refine anyT_of_any _ _ _ _ (by kernel_rfl) ?_
            change wpAny _ _ _ _ _ _ _ _
            try simp only [Act.put, List.setIfInBounds_toArray, List.set_cons_succ, List.set_cons_zero, List.getElem_toArray, List.getElem_cons_succ, List.getElem_cons_zero]
            refine wpAny_part [18, 19, 20] _ _ _ _ (by kernel_rfl) ?_
            simp only [List.filterMap_cons, List.filterMap_nil, List.getElem?_toArray, List.getElem?_cons_succ, List.getElem?_cons_zero]
            refine wpl_pure rfl (v := .pointer (some ⟨d, 0, none⟩)) (by intro w; first | rfl | (go_simp; first | done | with_reducible rfl)) ?_
            refine wpl_pure rfl (v := .pointer (some ⟨d, 73, none⟩)) (by intro w; first | rfl | (go_simp; first | done | with_reducible rfl)) ?_
            refine wpl_set rfl 66 (.tmp 48) (.tmp 44) rfl d 73 rfl (.slice ps' (R.c + 1) cs') rfl inf66 rfl rfl 68 74 _ z1 (by omega) ?_
            intro y2 t2 z2
            change wpAny _ _ _ _ _ _ _ _
            refine wpAny_done (by kernel_rfl) ?_ _
            try simp only [Act.put, List.setIfInBounds_toArray, List.set_cons_succ, List.set_cons_zero, List.getElem_toArray, List.getElem_cons_succ, List.getElem_cons_zero]
            have AD := added_fin hM Dr G4 ok4 os4 ((M + 1) + 1) M3 (by omega) (by omega) (lt3.imp id (fun h => ⟨h.1, by omega⟩)) k4 t1 t2 z2
            go_wp2_with fail
            go_ret
            exact .inr (.inr ⟨E2.out, hc2, rfl, AD.from hN bw⟩)
        · simp only [List.filterMap_cons, List.filterMap_nil, List.getElem?_toArray, List.getElem?_cons_succ, List.getElem?_cons_zero]
          refine wpl_lits rfl 66 4 1 _ rfl (fun _ => .bool false) 1 (.bool false) und66 boolLit (by omega) (by omega) (by kernel_rfl) M hMd ?_
          intro x1 hX1 hb1 l1
          have G1 := G0.trans (Gr3.of_below hMd hb1)
          have hd1 := Dd.h.below hb1 (Dd.h.ltN hMd)
          have hx1 := hrd.below hb1 (hrd.ltN hMd)
          have os1 := Dd.s.below hb1 (Nat.le_of_eq hMd)
          have ok1 := Dd.k.below hb1 (Nat.le_of_eq hMd)
          refine ⟨fun _ => ⟨hd1, hx1⟩, ?_⟩
          change anyT _ _ _ _ _ _ _ _ _ _
          try simp only [Act.put, List.setIfInBounds_toArray, List.set_cons_succ, List.set_cons_zero, List.getElem_toArray, List.getElem_cons_succ, List.getElem_cons_zero]
          refine anyT_one 7 _ _ _ _ (by kernel_rfl) ?_
          simp only [List.filterMap_cons, List.filterMap_nil, List.getElem?_toArray, List.getElem?_cons_succ, List.getElem?_cons_zero]
          refine wpl_lit32 rfl (.tmp 36) rfl (fun j => By (key j)) rfl (M + 1) hX1 ?_
          intro x2 hX2 hb2 l2
          have G2 := G1.trans (Gr3.of_below hX1 hb2)
          have hd2 := hd1.below hb2 (hd1.ltN hX1)
          have hx2 := hx1.below hb2 (hx1.ltN hX1)
          have os2 := os1.below hb2 (Nat.le_of_eq hX1)
          have ok2 := ok1.below hb2 (Nat.le_of_eq hX1)
          have lb2 := l1.below hb2 (l1.ltN hX1)
          refine ⟨fun _ => ⟨hd2, hx2⟩, ?_⟩
          change anyT _ _ _ _ _ _ _ _ _ _
          try simp only [Act.put, List.setIfInBounds_toArray, List.set_cons_succ, List.set_cons_zero, List.getElem_toArray, List.getElem_cons_succ, List.getElem_cons_zero]
          refine anyT_one 8 _ _ _ _ (by kernel_rfl) ?_
          simp only [List.filterMap_cons, List.filterMap_nil, List.getElem?_toArray, List.getElem?_cons_succ, List.getElem?_cons_zero]
          refine wpl_appK rfl (.tmp 35) (.tmp 37) 65 rfl 23 32 (by omega) und65 keyCell pk R.c ck rfl (keysC R) ok2 _ 1 1 rfl (fun j => By (key j)) l2.cells (fun _ _ => rfl) (by omega) ?_
          intro pk' ck' x3 ok3 g3 k3 n3
          have G3 := G2.trans (Gr3.of_p g3)
          have hd3 := hd2.grew g3 ne1
          have hx3 := hx2.grew g3 ne3
          have os3 := os2.grew g3 (by rcases hz : blk ps with _ | z; exact .inl rfl; exact .inr (fun e => Dr.ks z e.symm hz))
          obtain ⟨M3, hX3⟩ := sz_some x3
          have e3 : (x2).heap.size = ((M + 1) + 1) := hX2
          have leM3 : ((M + 1) + 1) ≤ M3 := by have := g3.size; have e : x3.heap.size = M3 := hX3; omega
          rw [e3] at k3
          have lb3 := lb2.grew g3 (fun e => by have := lp M e.symm; omega)
          have lt3 : blk pk' = blk pk ∨ (blk pk' = some ((M + 1) + 1) ∧ ((M + 1) + 1) < M3) := by
            rcases k3 with e | e
            · exact .inl e
            · exact .inr ⟨e, by have := ok3.lt _ e; have e2 : x3.heap.size = M3 := hX3; omega⟩
          refine ⟨fun _ => ⟨hd3, hx3⟩, ?_⟩
          change anyT _ _ _ _ _ _ _ _ _ _
          try simp only [Act.put, List.setIfInBounds_toArray, List.set_cons_succ, List.set_cons_zero, List.getElem_toArray, List.getElem_cons_succ, List.getElem_cons_zero]
          refine anyT_one 14 _ _ _ _ (by kernel_rfl) ?_
          simp only [List.filterMap_cons, List.filterMap_nil, List.getElem?_toArray, List.getElem?_cons_succ, List.getElem?_cons_zero]
          refine wpl_app rfl (.tmp 42) (.tmp 43) 66 rfl 4 und66 boolCell ps R.c cs rfl (spC R) os3 _ 1 1 rfl (fun _ => .bool false) lb3.cells (fun _ _ => rfl) (by omega) ?_
          intro ps' cs' x4 os4 g4 k4 n4
          have G4 := G3.trans (Gr3.of_q g4)
          have hd4 := hd3.grew g4 ne2
          have hx4 := hx3.grew g4 ne4
          have ok4 := ok3.grew g4 (.inr (fun e => by
            rcases lt3 with e2 | ⟨e2, _⟩
            · rcases hz : blk pk with _ | z
              · rw [hz] at e2; exact n3 (by omega) e2
              · exact Dr.ks z hz (by rw [← e, e2, hz])
            · have := lq ((M + 1) + 1) (by rw [← e, e2]); omega))
          have e4 : (x3).heap.size = M3 := hX3
          rw [e4] at k4
          refine ⟨fun _ => ⟨hd4, hx4⟩, ?_⟩
          change anyT _ _ _ _ _ _ _ _ _ _
          try simp only [Act.put, List.setIfInBounds_toArray, List.set_cons_succ, List.set_cons_zero, List.getElem_toArray, List.getElem_cons_succ, List.getElem_cons_zero]
          refine anyT_one 15 _ _ _ _ (by kernel_rfl) ?_
          simp only [List.filterMap_cons, List.filterMap_nil, List.getElem?_toArray, List.getElem?_cons_succ, List.getElem?_cons_zero]
          refine wpl_pure rfl (v := .pointer (some ⟨d, 0, none⟩)) (by intro w; first | rfl | (go_simp; first | done | with_reducible rfl)) ?_
          refine ⟨fun _ => ⟨hd4, hx4⟩, ?_⟩
          change anyT _ _ _ _ _ _ _ _ _ _
          try simp only [Act.put, List.setIfInBounds_toArray, List.set_cons_succ, List.set_cons_zero, List.getElem_toArray, List.getElem_cons_succ, List.getElem_cons_zero]
          refine anyT_one 16 _ _ _ _ (by kernel_rfl) ?_
          simp only [List.filterMap_cons, List.filterMap_nil, List.getElem?_toArray, List.getElem?_cons_succ, List.getElem?_cons_zero]
          refine wpl_pure rfl (v := .pointer (some ⟨d, 72, none⟩)) (by intro w; first | rfl | (go_simp; first | done | with_reducible rfl)) ?_
          refine ⟨fun _ => ⟨hd4, hx4⟩, ?_⟩
          change anyT _ _ _ _ _ _ _ _ _ _
          try simp only [Act.put, List.setIfInBounds_toArray, List.set_cons_succ, List.set_cons_zero, List.getElem_toArray, List.getElem_cons_succ, List.getElem_cons_zero]
          refine anyT_one 17 _ _ _ _ (by kernel_rfl) ?_
          simp only [List.filterMap_cons, List.filterMap_nil, List.getElem?_toArray, List.getElem?_cons_succ, List.getElem?_cons_zero]
          refine wpl_set rfl 65 (.tmp 46) (.tmp 38) rfl d 72 rfl (.slice pk' (R.c + 1) ck') rfl inf65 rfl rfl 68 74 _ hd4 (by omega) ?_
          intro y1 t1 z1
          refine ⟨fun h => absurd h (by simp), ?_⟩
          refine anyT_of_any _ _ _ _ (by kernel_rfl) ?_
          change wpAny _ _ _ _ _ _ _ _
          try simp only [Act.put, List.setIfInBounds_toArray, List.set_cons_succ, List.set_cons_zero, List.getElem_toArray, List.getElem_cons_succ, List.getElem_cons_zero]
          refine wpAny_part [18, 19, 20] _ _ _ _ (by kernel_rfl) ?_
          simp only [List.filterMap_cons, List.filterMap_nil, List.getElem?_toArray, List.getElem?_cons_succ, List.getElem?_cons_zero]
          refine wpl_pure rfl (v := .pointer (some ⟨d, 0, none⟩)) (by intro w; first | rfl | (go_simp; first | done | with_reducible rfl)) ?_
          refine wpl_pure rfl (v := .pointer (some ⟨d, 73, none⟩)) (by intro w; first | rfl | (go_simp; first | done | with_reducible rfl)) ?_
          refine wpl_set rfl 66 (.tmp 48) (.tmp 44) rfl d 73 rfl (.slice ps' (R.c + 1) cs') rfl inf66 rfl rfl 68 74 _ z1 (by omega) ?_
          intro y2 t2 z2
          change wpAny _ _ _ _ _ _ _ _
          refine wpAny_done (by kernel_rfl) ?_ _
          try simp only [Act.put, List.setIfInBounds_toArray, List.set_cons_succ, List.set_cons_zero, List.getElem_toArray, List.getElem_cons_succ, List.getElem_cons_zero]
          have AD := added_fin hM Dr G4 ok4 os4 ((M + 1) + 1) M3 (by omega) (by omega) (lt3.imp id (fun h => ⟨h.1, by omega⟩)) k4 t1 t2 z2
          go_wp2_with fail
          go_ret
          exact .inr (.inr ⟨E2.out, hc2, rfl, AD.from hN bw⟩)
end Go.Proofs.YtcampjgemedhlaaDoor
