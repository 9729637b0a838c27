/- BmapLru: the walk. -/
import Derived.Test.YteicoheihalnnaaBr3
namespace Go.Proofs.Yteicoheihalnnaa
open Go Go.RowKit
theorem useU_perm (U : Nat → Nat) (nn a x : Nat) (ha : a < nn) (hx : x < nn) : ∃ i, i < nn ∧ useU U nn a i = U x := by
  by_cases h : x = a
  · exact ⟨nn - 1, by omega, by rw [useU_E, if_pos rfl, h]⟩
  · by_cases h2 : x < a
    · exact ⟨x, hx, by rw [useU_E, if_neg (by omega), if_pos h2]⟩
    · exact ⟨x - 1, by omega, by rw [useU_E, if_neg (by omega), if_neg (by omega), show x - 1 + 1 = x by omega]⟩
set_option maxRecDepth 100000 in
set_option maxHeartbeats 4000000 in
theorem lru_any (z0 : Int) (q1 : Option Addr) (l1 c1 : Nat) (Z : Nat → Int) (w : World) (N : Nat) (hN : Sz w N) (h1 : l1 ≤ 9223372036854775807) (hr : Ats w q1 l1 (fun j => .int .i64 (Z j))) :
    Calls Try.prog 4 #[.int .i64 z0, .slice q1 l1 c1] w fun e w' => e = .returned (.bool true) ∧ Below N w w' := by
  have u0 := u64_pos z0
  go_enter Try.func4, Try.ntmps4
  go_upto_region 2 with (first
    | (refine wpl_remU rfl (.tmp 19) (.const (.int .u64 6)) rfl (IntKind.u64.wrap z0) 6 rfl rfl u0 (by omega) (by omega) ?_; intro c0 hc0 Hc0; obtain ⟨n, hn⟩ : ∃ n : Nat, n = c0 + 1 := ⟨_, rfl⟩; have n1 : 1 ≤ n := (by omega); have n2 : n ≤ 6 := (by omega); have hnc : (1 : Int) + (c0 : Int) = (n : Int) := (by omega); have Hn := hid hn; clear hn)
    | fail)
  have hS : SpecOk 2 1 1 n := ⟨⟨1, 16, .inr (.inr (.inl ⟨rfl, rfl, rfl⟩)), by omega, by omega⟩, by omega, by omega, by omega, by omega⟩
  have HS := hid hS
  clear hS u0 hnc Hn hc0 Hc0
  go_wp2_with (first
    | (go_at_call 8; refine (New_plain 2 1 1 n HS.out (by decide) _ N hN).mono ?_; rintro e w1 ⟨⟨b, hb, rfl, A1⟩, hb1⟩; obtain ⟨M1, hM1⟩ := sz_some w1; have L1 := below_sz hb1 hN hM1)
    | (go_at_call 9; refine (maps_any _ M1 hM1).mono ?_; rintro e w2 ⟨rfl, hb2⟩)
    | fail)
  have S0 : Lr w N b n 0 (fun _ => 0) (mp0 2 1 1 n b) w2 :=
    ⟨A1.below hM1 hb2, rfl, rfl, rfl, rfl, rfl, rfl, rfl, n1, n2, by omega, fun k hF => by rcases hF with rfl | hF | ⟨i, hi, _⟩; exact hb; cases hF; exact absurd hi (Nat.not_lt_zero i), hb1.trans (hb2.mono L1), fun i hi => by omega, fun i j hi => by omega, fun i hi => by omega, fun i hi => by omega⟩
  have H0 := hid S0
  clear S0 A1 hb1 hb2 hM1 HS
  go_loopg [8, 9] 40 (fun g s i wr => ∃ (k nu : Nat) (U : Nat → Nat) (m : Mp) (p : Option Addr) (cu : Nat), k ≤ 40 ∧ g = 40 - k ∧ i = .int .i64 k ∧ s = .slice p nu cu ∧ Lr w N b n nu U m wr ∧ Own wr 5 p nu cu (lu U) ∧ ∀ g, blk p = some g → N ≤ g ∧ ¬ Foot m g)
  case atStart => exact ⟨0, 0, _, _, none, 0, by omega, rfl, rfl, rfl, H0.out, Own.nil _ _ _, fun g h => by cases h⟩
  case round =>
    clear H0
    obtain ⟨k, nu, U, m, p, cu, hk, rfl, rfl, rfl, A, O, hpf⟩ := hrel
    obtain ⟨M, hM⟩ := sz_some wr
    have hNM := below_sz A.bel hN hM
    have k0 : (0 : Int) ≤ (k : Int) := by omega
    have k40 : (k : Int) ≤ 40 := by omega
    have nu6 : nu ≤ 6 := by have := A.nnn; omega
    by_cases hlt : k < l1 ∧ k < 40
    · obtain ⟨hl1, hl2⟩ := hlt
      have i1 : (k : Int) < (l1 : Int) := by omega
      have i2 : (k : Int) < 40 := by omega
      obtain ⟨rb, ro, rfl, hrc⟩ := hr (by omega)
      have dr0 : w.cell? ⟨rb, ro + k, none⟩ = some (.int .i64 (Z k)) := hrc k hl1
      have hrb : rb < N := by
        have := World.block_lt_of_cell? w _ dr0
        have e : w.heap.size = N := hN
        simp only at this; omega
      have dr : wr.cell? ⟨rb, ro + k, none⟩ = some (.int .i64 (Z k)) := (A.bel.cell (p := ⟨rb, ro + k, none⟩) hrb).trans dr0
      clear hrc dr0
      generalize Z k = z at dr
      have uz := u64_pos z
      go_wp2_with (first
        | (refine wpl_remU rfl (.tmp 49) (.const (.int .u64 9)) rfl (IntKind.u64.wrap z) 9 rfl rfl uz (by omega) (by omega) ?_; intro c hc Hc; have c9 : (c : Int) < 9 := (by omega); have c0 : (0 : Int) ≤ (c : Int) := (by omega))
        | fail)
      have HC := hid (by_nat c (by omega))
      have HC1 : Hid (Value.int .u8 ((c : Int) + 1) = By (b8 (c + 1))) := hid (by have := by_nat (c + 1) (by omega); push_cast at this; exact this)
      by_cases he : ∃ a, a < nu ∧ U a = c
      · obtain ⟨a, ha, hac⟩ := he
        obtain ⟨g0, rfl⟩ : ∃ g0, p = some ⟨g0, 0, none⟩ := by
          obtain ⟨g, e, _⟩ := O.cell (by omega)
          exact ⟨g, e⟩
        have Hac := hid hac
        clear hac
        go_loopg [11, 12] nu (fun g at_ jv w2 => ∃ jj, jj ≤ nu ∧ g = nu - jj ∧ jv = .int .i64 jj ∧ at_ = atV a jj ∧ w2 = wr)
        case atStart => exact ⟨0, by omega, rfl, rfl, by unfold atV; rw [if_neg (by omega)], rfl⟩
        case round =>
          obtain ⟨jj, hjj, rfl, rfl, rfl, rfl⟩ := hrel
          have jj0 : (0 : Int) ≤ (jj : Int) := by omega
          have jj6 : (jj : Int) ≤ 6 := by omega
          by_cases hj : jj < nu
          · have j1 : (jj : Int) < (nu : Int) := by omega
            skip
            have du : wr.cell? ⟨g0, jj, none⟩ = some (.int .u8 ((U jj : Nat) : Int)) := by
              obtain ⟨g', e, hc'⟩ := O.cell (by omega)
              obtain rfl : g0 = g' := by injection e with e; injection e
              have := hc' jj hj
              rw [Nat.zero_add] at this
              rw [this, by_nat _ (by have := A.u9 jj hj; omega)]
              rfl
            by_cases hjc : U jj = c
            · have hja : jj = a := A.inj jj a hj ha (hjc.trans Hac.out.symm)
              have tc : (((U jj : Nat) : Int) == (c : Int)) = true := by rw [beq_iff_eq]; omega
              have Hja := hid hja
              clear hjc hja
              generalize U jj = x at du tc
              go_wp2_with fail
              go_roundg (nu - (jj + 1))
              case measure => omega
              case rel => exact ⟨jj + 1, by omega, rfl, by go_num, by unfold atV; rw [if_pos (by have := Hja.out; omega), Hja.out], rfl⟩
            · have tc : (((U jj : Nat) : Int) == (c : Int)) = false := by rw [beq_eq_false_iff_ne]; omega
              have hja : jj ≠ a := fun e => hjc (by rw [e]; exact Hac.out)
              generalize U jj = x at du tc
              go_wp2_with fail
              go_roundg (nu - (jj + 1))
              case measure => omega
              case rel => exact ⟨jj + 1, by omega, rfl, by go_num, by unfold atV; by_cases h : a < jj; rw [if_pos h, if_pos (by omega)]; rw [if_neg h, if_neg (by omega)], rfl⟩
          · obtain rfl : jj = nu := by omega
            have j1 : ¬ ((jj : Int) < (jj : Int)) := by omega
            have ea : atV a jj = .int .i64 (a : Int) := if_pos (by omega)
            rw [ea]
            have a0 : (0 : Int) ≤ (a : Int) := by omega
            have a6 : (a : Int) < 6 := by omega
            clear ea
            cases hq : (z.tmod 3 == 0)
            · go_wp2_with (first
                | (refine wpl_bs1g (.tmp 98) rfl (b8 c) HC.out M hM ?_ (by rfl); intro x1 hX1 hb1 q1)
                | (refine wpl_bs1g (.tmp 101) rfl (b8 (c + 1)) HC1.out (M + 1) hX1 ?_ (by rfl); intro x2 hX2 hb2 v2; have A2 := (A.low hM hb1 hNM).low hX1 hb2 (by omega); have q2 := (q1.below hb2 (by omega)).ats)
                | (go_at_call 10; ((with_reducible refine (Lr_set w x2 N (M + 1 + 1) b n jj U m A2 hX2 (by omega) c hc a ha Hac.out _ _ q2 _ _ v2.ats (fun g hg hF => by have := A.at_.lt hM g hF; (obtain rfl : M + 1 = g := by simpa [blk] using hg); omega)).mono ?_)); rintro e x3 ⟨rfl, m3, A3, W3⟩)
                | fail)
              have O3 : Own x3 5 (some ⟨g0, 0, none⟩) jj cu (lu U) := ((O.below hb1 (Nat.le_of_eq hM)).below hb2 (Nat.le_of_eq hX1)).turn W3.1 (fun g hg => (hpf g hg).2)
              obtain ⟨Mx, hMx⟩ := sz_some x3
              have Lx := below_sz A3.bel hN hMx
              have hgM : g0 < Mx := by have := O3.lt g0 rfl; have e : x3.heap.size = Mx := hMx; omega
              clear O A A2 q1 q2 v2 hb1 hb2 hM hX1 hX2 W3 hpf dr
              have s1 : ∀ w, (Instr.sliceAt 22 (.slice (some ⟨g0, 0, none⟩) jj cu) none (some (.int .i64 (a : Int))) none).run Try.prog w = .ok (.slice (some ⟨g0, 0, none⟩) a cu) w := fun w => run_cut_front 22 5 1 undBB szBy g0 jj cu a (by have := O3.le; omega) w
              obtain ⟨qt, hqt⟩ : ∃ qt, qt = (if cu = a + 1 then some ⟨g0, 0, none⟩ else (some (⟨g0, 0, none⟩ : Addr)).map (·.add ((a + 1) * 1))) := ⟨_, rfl⟩
              have s2 : ∀ w, (Instr.sliceAt 22 (.slice (some ⟨g0, 0, none⟩) jj cu) (some (.int .i64 ((a : Int) + 1))) none none).run Try.prog w = .ok (.slice qt (jj - (a + 1)) (cu - (a + 1))) w := fun w => by
                rw [hqt]
                exact run_cut_tail 22 5 1 undBB szBy (some ⟨g0, 0, none⟩) jj cu (a + 1) (by omega) w
              have Ct := hid (fun (w' : World) (h : Own w' 5 (some ⟨g0, 0, none⟩) jj cu (lu U)) => h.tail ha qt hqt)
              clear hqt
              refine wp_region_any (by kernel_rfl) ?_
              change wpAny _ _ _ _ _ _ _ (World.drew _)
              have Od : Own x3.drew 5 (some ⟨g0, 0, none⟩) jj cu (lu U) := O3
              have Ad : Lr w N b n jj (useU U jj a) m3 x3.drew := A3.turn hMx Lx (turn_drew (fun _ => False) _) (fun _ h => h.elim) (fun _ _ h => h)
              have hMd : Sz x3.drew Mx := hMx
              clear O3 A3 hMx
              generalize World.drew x3 = xd at *
              refine anyI_any (I := fun _ => True) _ _ _ _ ?_
              have hne := inn_ne (I := fun _ : World => True) (w := xd) trivial
              refine anyI_reads [1, 2, 3, 5, 6, 7, 8] _ _ _ (w := xd) trivial (by kernel_rfl) (fun _ _ _ d _ h => by cases d <;> exact h) ?_
              simp only [pickO, List.map_cons, List.map_nil, List.getElem?_toArray, List.getElem?_cons_succ, List.getElem?_cons_zero, Option.getD_some, Act.put, List.setIfInBounds_toArray, List.set_cons_succ, List.set_cons_zero]
              iterate 7 go_big_quiet_step (fail)
              refine wpQuiet_nil ?_
              clear hne s1 s2
              refine anyI_part [0, 4, 9, 10] _ _ _ _ (by kernel_rfl) ?_
              simp only [List.filterMap_cons, List.filterMap_nil, List.getElem?_toArray, List.getElem?_cons_succ, List.getElem?_cons_zero]
              change wpList _ _ _ [_] _ _
              refine wpl_bs0 rfl rfl Mx hMd ?_
              intro y1 hY1 hby1 oy1
              refine ⟨trivial, ?_⟩
              change wpList _ _ _ [_] _ _
              have Oy1 := Od.below hby1 (Nat.le_of_eq hMd)
              refine wpl_appR rfl (.tmp 107) (.tmp 110) 22 rfl 5 undBB oneBy _ 0 0 rfl _ oy1 (some ⟨g0, 0, none⟩) a cu rfl (lu U) (Oy1.front (by omega)) (fun _ _ => rfl) (by omega) a (by omega) ?_
              intro p2 cu2 y2 o2 g2 q2
              have Oy2 := Oy1.grew g2 (.inr (by simp [blk]; omega))
              refine ⟨trivial, ?_⟩
              change wpList _ _ _ [_] _ _
              refine wpl_appR rfl (.tmp 111) (.tmp 115) 22 rfl 5 undBB oneBy p2 a cu2 rfl _ o2 qt (jj - (a + 1)) (cu - (a + 1)) rfl (fun j => lu U (a + 1 + j)) (Ct.out y2 Oy2) (fun _ _ => rfl) (by omega) (jj - 1) (by omega) ?_
              intro p3 cu3 y3 o3 g3 q3
              refine ⟨trivial, ?_⟩
              change wpList _ _ _ [_] _ _
              refine wpl_pure rfl (v := .slice p3 (jj - 1) cu3) (by intro w; rfl) ?_
              refine ⟨trivial, ?_⟩
              change anyI _ _ _ _ _ _ _ _ _
              refine anyI_done (by kernel_rfl) ?_
              try simp only [Act.put, List.setIfInBounds_toArray, List.set_cons_succ, List.set_cons_zero, List.getElem_toArray, List.getElem_cons_succ, List.getElem_cons_zero]
              have e1 : y1.heap.size = Mx + 1 := hY1
              have hp2 : ∀ g, blk p2 = some g → Mx ≤ g := fun g hg => by
                rcases q2 with q2 | q2
                · rw [q2] at hg; (obtain rfl : Mx = g := by simpa [blk] using hg); exact Nat.le_refl _
                · rw [q2, Option.some.injEq] at hg; omega
              have z2 := g2.size
              have hp3 : ∀ g, blk p3 = some g → Mx ≤ g := fun g hg => by
                rcases q3 with q3 | q3
                · exact hp2 g (by rw [← q3]; exact hg)
                · rw [q3, Option.some.injEq] at hg; omega
              have O9 : Own y3 5 p3 (jj - 1) cu3 (lu (delF U a)) := o3.congr (fun j _ => cat_drop U _ a j)
              have T9 : Turn (fun k => Mx ≤ k) xd y3 := ((turn_below hMd hby1 _).trans g2.turn (fun j hj _ => by (obtain rfl : Mx = j := by simpa [blk] using hj); exact Nat.le_refl _)).trans g3.turn (fun j hj _ => hp2 j hj)
              have A9 : Lr w N b n jj (useU U jj a) m3 y3 := Ad.turn hMd Lx T9 (fun k hk => by omega) (fun k hF hk => by have := Ad.at_.lt hMd k hF; omega)
              have hp9 : ∀ g, blk p3 = some g → N ≤ g ∧ ¬ Foot m3 g := fun g hg => ⟨by have := hp3 g hg; omega, fun hF => by have := Ad.at_.lt hMd g hF; have := hp3 g hg; omega⟩
              clear Od Oy1 Oy2 oy1 o2 o3 g2 g3 q2 q3 Ad Ct T9 hp2 hp3 z2 e1 hby1 hY1
              obtain ⟨M9, hM9⟩ := sz_some y3
              have L9 := below_sz A9.bel hN hM9
              go_wp2_with (first
                | (refine wpl_bs1g (.tmp 126) rfl (b8 c) HC.out M9 hM9 ?_ (by rfl); intro r1 hR1 hbr1 vr1; have Ar1 := A9.low hM9 hbr1 L9; have Or1 := O9.below hbr1 (Nat.le_of_eq hM9))
                | (refine wpl_appR rfl (.tmp 125) (.tmp 127) 22 rfl 5 undBB oneBy p3 (jj - 1) cu3 rfl _ Or1 _ 1 1 rfl (fun _ => By (b8 c)) vr1.cells (fun _ _ => rfl) (by omega) (jj) (by omega) ?_; intro p7 cu7 r2 o7 g7 q7; have Ar2 := Ar1.turn hR1 (by omega) g7.turn (fun j hj => (hp9 j hj).1) (fun j hF hj => (hp9 j hj).2 hF))
                | (go_at_call 14; have X := Len_is m3 (jj) Ar2.en _ Ar2.at_; rw [Ar2.eb] at X; ((with_reducible refine X.mono ?_)); rintro e r3 ⟨rfl, rfl⟩)
                | fail)
              go_roundg (40 - (k + 1))
              case measure => omega
              case rel =>
                refine ⟨k + 1, jj, useU U jj a, m3, p7, cu7, by omega, rfl, by go_num, rfl, Ar2, o7.congr (fun j hj => ?_), fun g hg => ?_⟩
                · have := cat_last (delF U a) (jj - 1) c j (by omega)
                  rw [this]
                  rw [show useU U jj a = setF (delF U a) (jj - 1) (U a) from rfl, Hac.out]
                · rcases q7 with q7 | q7
                  · exact hp9 g (by rw [← q7]; exact hg)
                  · have e9 : r1.heap.size = M9 + 1 := hR1
                    rw [q7, Option.some.injEq] at hg
                    exact ⟨by omega, fun hF => by have := Ar1.at_.lt hR1 g hF; omega⟩
            · go_wp2_with (first
                | (refine wpl_bs1g (.tmp 73) rfl (b8 c) HC.out M hM ?_ (by rfl); intro x1 hX1 hb1 q1; have A1 := A.low hM hb1 hNM)
                | (go_at_call 12; ((with_reducible refine (Lr_look w x1 N (M + 1) b n jj U m A1 hX1 (by omega) c hc a ha Hac.out _ _ q1.ats).mono ?_)); rintro e x3 ⟨⟨K1, hK1, rfl, v3⟩, m3, A3, W3⟩; have d3 : x3.cell? ⟨K1, 0, none⟩ = some (.int .u8 ((c : Int) + 1)) := (v3.cell (j := 0) (by omega)).trans (by rw [HC1.out]))
                | fail)
              have O3 : Own x3 5 (some ⟨g0, 0, none⟩) jj cu (lu U) := (O.below hb1 (Nat.le_of_eq hM)).turn W3.1 (fun g hg => (hpf g hg).2)
              obtain ⟨Mx, hMx⟩ := sz_some x3
              have Lx := below_sz A3.bel hN hMx
              have hgM : g0 < Mx := by have := O3.lt g0 rfl; have e : x3.heap.size = Mx := hMx; omega
              clear O A A1 q1 v3 d3 hb1 hM hX1 W3 hpf dr
              have s1 : ∀ w, (Instr.sliceAt 22 (.slice (some ⟨g0, 0, none⟩) jj cu) none (some (.int .i64 (a : Int))) none).run Try.prog w = .ok (.slice (some ⟨g0, 0, none⟩) a cu) w := fun w => run_cut_front 22 5 1 undBB szBy g0 jj cu a (by have := O3.le; omega) w
              obtain ⟨qt, hqt⟩ : ∃ qt, qt = (if cu = a + 1 then some ⟨g0, 0, none⟩ else (some (⟨g0, 0, none⟩ : Addr)).map (·.add ((a + 1) * 1))) := ⟨_, rfl⟩
              have s2 : ∀ w, (Instr.sliceAt 22 (.slice (some ⟨g0, 0, none⟩) jj cu) (some (.int .i64 ((a : Int) + 1))) none none).run Try.prog w = .ok (.slice qt (jj - (a + 1)) (cu - (a + 1))) w := fun w => by
                rw [hqt]
                exact run_cut_tail 22 5 1 undBB szBy (some ⟨g0, 0, none⟩) jj cu (a + 1) (by omega) w
              have Ct := hid (fun (w' : World) (h : Own w' 5 (some ⟨g0, 0, none⟩) jj cu (lu U)) => h.tail ha qt hqt)
              clear hqt
              refine wp_region_any (by kernel_rfl) ?_
              change wpAny _ _ _ _ _ _ _ (World.drew _)
              have Od : Own x3.drew 5 (some ⟨g0, 0, none⟩) jj cu (lu U) := O3
              have Ad : Lr w N b n jj (useU U jj a) m3 x3.drew := A3.turn hMx Lx (turn_drew (fun _ => False) _) (fun _ h => h.elim) (fun _ _ h => h)
              have hMd : Sz x3.drew Mx := hMx
              clear O3 A3 hMx
              generalize World.drew x3 = xd at *
              refine anyI_any (I := fun _ => True) _ _ _ _ ?_
              have hne := inn_ne (I := fun _ : World => True) (w := xd) trivial
              refine anyI_reads [1, 2, 3, 5, 6, 7, 8] _ _ _ (w := xd) trivial (by kernel_rfl) (fun _ _ _ d _ h => by cases d <;> exact h) ?_
              simp only [pickO, List.map_cons, List.map_nil, List.getElem?_toArray, List.getElem?_cons_succ, List.getElem?_cons_zero, Option.getD_some, Act.put, List.setIfInBounds_toArray, List.set_cons_succ, List.set_cons_zero]
              iterate 7 go_big_quiet_step (fail)
              refine wpQuiet_nil ?_
              clear hne s1 s2
              refine anyI_part [0, 4, 9, 10] _ _ _ _ (by kernel_rfl) ?_
              simp only [List.filterMap_cons, List.filterMap_nil, List.getElem?_toArray, List.getElem?_cons_succ, List.getElem?_cons_zero]
              change wpList _ _ _ [_] _ _
              refine wpl_bs0 rfl rfl Mx hMd ?_
              intro y1 hY1 hby1 oy1
              refine ⟨trivial, ?_⟩
              change wpList _ _ _ [_] _ _
              have Oy1 := Od.below hby1 (Nat.le_of_eq hMd)
              refine wpl_appR rfl (.tmp 107) (.tmp 110) 22 rfl 5 undBB oneBy _ 0 0 rfl _ oy1 (some ⟨g0, 0, none⟩) a cu rfl (lu U) (Oy1.front (by omega)) (fun _ _ => rfl) (by omega) a (by omega) ?_
              intro p2 cu2 y2 o2 g2 q2
              have Oy2 := Oy1.grew g2 (.inr (by simp [blk]; omega))
              refine ⟨trivial, ?_⟩
              change wpList _ _ _ [_] _ _
              refine wpl_appR rfl (.tmp 111) (.tmp 115) 22 rfl 5 undBB oneBy p2 a cu2 rfl _ o2 qt (jj - (a + 1)) (cu - (a + 1)) rfl (fun j => lu U (a + 1 + j)) (Ct.out y2 Oy2) (fun _ _ => rfl) (by omega) (jj - 1) (by omega) ?_
              intro p3 cu3 y3 o3 g3 q3
              refine ⟨trivial, ?_⟩
              change wpList _ _ _ [_] _ _
              refine wpl_pure rfl (v := .slice p3 (jj - 1) cu3) (by intro w; rfl) ?_
              refine ⟨trivial, ?_⟩
              change anyI _ _ _ _ _ _ _ _ _
              refine anyI_done (by kernel_rfl) ?_
              try simp only [Act.put, List.setIfInBounds_toArray, List.set_cons_succ, List.set_cons_zero, List.getElem_toArray, List.getElem_cons_succ, List.getElem_cons_zero]
              have e1 : y1.heap.size = Mx + 1 := hY1
              have hp2 : ∀ g, blk p2 = some g → Mx ≤ g := fun g hg => by
                rcases q2 with q2 | q2
                · rw [q2] at hg; (obtain rfl : Mx = g := by simpa [blk] using hg); exact Nat.le_refl _
                · rw [q2, Option.some.injEq] at hg; omega
              have z2 := g2.size
              have hp3 : ∀ g, blk p3 = some g → Mx ≤ g := fun g hg => by
                rcases q3 with q3 | q3
                · exact hp2 g (by rw [← q3]; exact hg)
                · rw [q3, Option.some.injEq] at hg; omega
              have O9 : Own y3 5 p3 (jj - 1) cu3 (lu (delF U a)) := o3.congr (fun j _ => cat_drop U _ a j)
              have T9 : Turn (fun k => Mx ≤ k) xd y3 := ((turn_below hMd hby1 _).trans g2.turn (fun j hj _ => by (obtain rfl : Mx = j := by simpa [blk] using hj); exact Nat.le_refl _)).trans g3.turn (fun j hj _ => hp2 j hj)
              have A9 : Lr w N b n jj (useU U jj a) m3 y3 := Ad.turn hMd Lx T9 (fun k hk => by omega) (fun k hF hk => by have := Ad.at_.lt hMd k hF; omega)
              have hp9 : ∀ g, blk p3 = some g → N ≤ g ∧ ¬ Foot m3 g := fun g hg => ⟨by have := hp3 g hg; omega, fun hF => by have := Ad.at_.lt hMd g hF; have := hp3 g hg; omega⟩
              clear Od Oy1 Oy2 oy1 o2 o3 g2 g3 q2 q3 Ad Ct T9 hp2 hp3 z2 e1 hby1 hY1
              obtain ⟨M9, hM9⟩ := sz_some y3
              have L9 := below_sz A9.bel hN hM9
              go_wp2_with (first
                | (refine wpl_bs1g (.tmp 126) rfl (b8 c) HC.out M9 hM9 ?_ (by rfl); intro r1 hR1 hbr1 vr1; have Ar1 := A9.low hM9 hbr1 L9; have Or1 := O9.below hbr1 (Nat.le_of_eq hM9))
                | (refine wpl_appR rfl (.tmp 125) (.tmp 127) 22 rfl 5 undBB oneBy p3 (jj - 1) cu3 rfl _ Or1 _ 1 1 rfl (fun _ => By (b8 c)) vr1.cells (fun _ _ => rfl) (by omega) (jj) (by omega) ?_; intro p7 cu7 r2 o7 g7 q7; have Ar2 := Ar1.turn hR1 (by omega) g7.turn (fun j hj => (hp9 j hj).1) (fun j hF hj => (hp9 j hj).2 hF))
                | (go_at_call 14; have X := Len_is m3 (jj) Ar2.en _ Ar2.at_; rw [Ar2.eb] at X; ((with_reducible refine X.mono ?_)); rintro e r3 ⟨rfl, rfl⟩)
                | fail)
              go_roundg (40 - (k + 1))
              case measure => omega
              case rel =>
                refine ⟨k + 1, jj, useU U jj a, m3, p7, cu7, by omega, rfl, by go_num, rfl, Ar2, o7.congr (fun j hj => ?_), fun g hg => ?_⟩
                · have := cat_last (delF U a) (jj - 1) c j (by omega)
                  rw [this]
                  rw [show useU U jj a = setF (delF U a) (jj - 1) (U a) from rfl, Hac.out]
                · rcases q7 with q7 | q7
                  · exact hp9 g (by rw [← q7]; exact hg)
                  · have e9 : r1.heap.size = M9 + 1 := hR1
                    rw [q7, Option.some.injEq] at hg
                    exact ⟨by omega, fun hF => by have := Ar1.at_.lt hR1 g hF; omega⟩
      · have hno : ∀ i, i < nu → U i ≠ c := fun i hi e => he ⟨i, hi, e⟩
        have Hno := hid hno
        clear he hno
        go_loopg [11, 12] nu (fun g at_ jv w2 => ∃ jj, jj ≤ nu ∧ g = nu - jj ∧ jv = .int .i64 jj ∧ at_ = .int .i64 (-1) ∧ w2 = wr)
        case atStart => exact ⟨0, by omega, rfl, rfl, rfl, rfl⟩
        case round =>
          obtain ⟨jj, hjj, rfl, rfl, rfl, rfl⟩ := hrel
          have jj0 : (0 : Int) ≤ (jj : Int) := by omega
          have jj6 : (jj : Int) ≤ 6 := by omega
          by_cases hj : jj < nu
          · have j1 : (jj : Int) < (nu : Int) := by omega
            obtain ⟨g0, rfl⟩ : ∃ g0, p = some ⟨g0, 0, none⟩ := by
              obtain ⟨g, e, _⟩ := O.cell (by omega)
              exact ⟨g, e⟩
            have du : wr.cell? ⟨g0, jj, none⟩ = some (.int .u8 ((U jj : Nat) : Int)) := by
              obtain ⟨g', e, hc'⟩ := O.cell (by omega)
              obtain rfl : g0 = g' := by injection e with e; injection e
              have := hc' jj hj
              rw [Nat.zero_add] at this
              rw [this, by_nat _ (by have := A.u9 jj hj; omega)]
              rfl
            have tc : (((U jj : Nat) : Int) == (c : Int)) = false := by rw [beq_eq_false_iff_ne]; have := Hno.out jj hj; omega
            generalize U jj = x at du tc
            go_wp2_with fail
            go_roundg (nu - (jj + 1))
            case measure => omega
            case rel => exact ⟨jj + 1, by omega, rfl, by go_num, rfl, rfl⟩
          · obtain rfl : jj = nu := by omega
            have j1 : ¬ ((jj : Int) < (jj : Int)) := by omega
            cases hq : (z.tmod 3 == 0)
            · by_cases hf : jj = n
              · have tn : ((jj : Int) == (n : Int)) = true := by rw [beq_iff_eq]; omega
                have Hf := hid hf
                clear hf
                obtain ⟨g0, rfl⟩ : ∃ g0, p = some ⟨g0, 0, none⟩ := by
                  obtain ⟨g, e, _⟩ := O.cell (by have := Hf.out; omega)
                  exact ⟨g, e⟩
                have jj1 : 1 ≤ jj := by have := Hf.out; omega
                obtain ⟨qt, hqt⟩ : ∃ qt, qt = (if cu = 0 + 1 then some ⟨g0, 0, none⟩ else (some (⟨g0, 0, none⟩ : Addr)).map (·.add ((0 + 1) * 1))) := ⟨_, rfl⟩
                have s2 : ∀ w, (Instr.sliceAt 22 (.slice (some ⟨g0, 0, none⟩) jj cu) (some (.int .i64 1)) none none).run Try.prog w = .ok (.slice qt (jj - (0 + 1)) (cu - (0 + 1))) w := fun w => by
                  rw [hqt]
                  exact run_cut_tail 22 5 1 undBB szBy (some ⟨g0, 0, none⟩) jj cu (0 + 1) (by omega) w
                have Ct := hid (fun (w' : World) (h : Own w' 5 (some ⟨g0, 0, none⟩) jj cu (lu U)) => h.tail (show 0 < jj by omega) qt hqt)
                clear hqt
                go_upto_region 27 with (first
                  | (refine wpl_bs1g (.tmp 98) rfl (b8 c) HC.out M hM ?_ (by rfl); intro x1 hX1 hb1 q1)
                  | (refine wpl_bs1g (.tmp 101) rfl (b8 (c + 1)) HC1.out (M + 1) hX1 ?_ (by rfl); intro x2 hX2 hb2 v2; have A2 := (A.low hM hb1 hNM).low hX1 hb2 (by omega); have q2 := (q1.below hb2 (by omega)).ats)
                  | (go_at_call 10; ((with_reducible refine (Lr_evict w x2 N (M + 1 + 1) b n jj U m A2 hX2 (by omega) c hc Hno.out Hf.out _ _ q2 _ _ v2.ats (fun g hg hF => by have := A.at_.lt hM g hF; (obtain rfl : M + 1 = g := by simpa [blk] using hg); omega)).mono ?_)); rintro e x3 ⟨rfl, m3, A3, W3⟩; have O3 : Own x3 5 (some ⟨g0, 0, none⟩) jj cu (lu U) := ((O.below hb1 (Nat.le_of_eq hM)).below hb2 (Nat.le_of_eq hX1)).turn W3.1 (fun g hg => (hpf g hg).2); obtain ⟨Mx, hMx⟩ := sz_some x3; have Lx := below_sz A3.bel hN hMx; have hgM : g0 < Mx := (by have := O3.lt g0 rfl; have e : x3.heap.size = Mx := hMx; omega))
                  | (refine wpl_bs0 rfl rfl Mx hMx ?_; intro y1 hY1 hby1 oy1; have Oy1 := O3.below hby1 (Nat.le_of_eq hMx))
                  | (refine wpl_appR rfl (.tmp 121) (.tmp 123) 22 rfl 5 undBB oneBy _ 0 0 rfl _ oy1 qt (jj - (0 + 1)) (cu - (0 + 1)) rfl (fun j => lu U (0 + 1 + j)) (Ct.out y1 Oy1) (fun _ _ => rfl) (by omega) (jj - 1) (by omega) ?_; intro p3 cu3 y3 o3 g3 q3)
                  | fail)
                have e1 : y1.heap.size = Mx + 1 := hY1
                have hp3 : ∀ g, blk p3 = some g → Mx ≤ g := fun g hg => by
                  rcases q3 with q3 | q3
                  · rw [q3] at hg; (obtain rfl : Mx = g := by simpa [blk] using hg); exact Nat.le_refl _
                  · rw [q3, Option.some.injEq] at hg; omega
                have O9 : Own y3 5 p3 (jj - 1) cu3 (lu (delF U 0)) := o3.congr (fun j _ => cat_front U _ j)
                have T9 : Turn (fun k => Mx ≤ k) x3 y3 := (turn_below hMx hby1 _).trans g3.turn (fun j hj _ => by (obtain rfl : Mx = j := by simpa [blk] using hj); exact Nat.le_refl _)
                have A9 : Lr w N b n jj (setF (delF U 0) (jj - 1) c) m3 y3 := A3.turn hMx Lx T9 (fun k hk => by omega) (fun k hF hk => by have := A3.at_.lt hMx k hF; omega)
                have hp9 : ∀ g, blk p3 = some g → N ≤ g ∧ ¬ Foot m3 g := fun g hg => ⟨by have := hp3 g hg; omega, fun hF => by have := A3.at_.lt hMx g hF; have := hp3 g hg; omega⟩
                clear O A A2 q1 q2 v2 hb1 hb2 hM hX1 hX2 W3 hpf dr A3 O3 Oy1 oy1 o3 g3 q3 T9 hp3 e1 hby1 hY1 hMx Ct s2
                obtain ⟨M9, hM9⟩ := sz_some y3
                have L9 := below_sz A9.bel hN hM9
                go_wp2_with (first
                  | (refine wpl_bs1g (.tmp 126) rfl (b8 c) HC.out M9 hM9 ?_ (by rfl); intro r1 hR1 hbr1 vr1; have Ar1 := A9.low hM9 hbr1 L9; have Or1 := O9.below hbr1 (Nat.le_of_eq hM9))
                  | (refine wpl_appR rfl (.tmp 125) (.tmp 127) 22 rfl 5 undBB oneBy p3 (jj - 1) cu3 rfl _ Or1 _ 1 1 rfl (fun _ => By (b8 c)) vr1.cells (fun _ _ => rfl) (by omega) (jj) (by omega) ?_; intro p7 cu7 r2 o7 g7 q7; have Ar2 := Ar1.turn hR1 (by omega) g7.turn (fun j hj => (hp9 j hj).1) (fun j hF hj => (hp9 j hj).2 hF))
                  | (go_at_call 14; have X := Len_is m3 (jj) Ar2.en _ Ar2.at_; rw [Ar2.eb] at X; ((with_reducible refine X.mono ?_)); rintro e r3 ⟨rfl, rfl⟩)
                  | fail)
                go_roundg (40 - (k + 1))
                case measure => omega
                case rel =>
                  refine ⟨k + 1, jj, setF (delF U 0) (jj - 1) c, m3, p7, cu7, by omega, rfl, by go_num, rfl, Ar2, o7.congr (fun j hj => ?_), fun g hg => ?_⟩
                  · have := cat_last (delF U 0) (jj - 1) c j (by omega)
                    rw [this]
                  · rcases q7 with q7 | q7
                    · exact hp9 g (by rw [← q7]; exact hg)
                    · have e9 : r1.heap.size = M9 + 1 := hR1
                      rw [q7, Option.some.injEq] at hg
                      exact ⟨by omega, fun hF => by have := Ar1.at_.lt hR1 g hF; omega⟩
              · have tn : ((jj : Int) == (n : Int)) = false := by rw [beq_eq_false_iff_ne]; omega
                have hlt2 : jj < n := by have := A.nnn; omega
                go_upto_region 27 with (first
                  | (refine wpl_bs1g (.tmp 98) rfl (b8 c) HC.out M hM ?_ (by rfl); intro x1 hX1 hb1 q1)
                  | (refine wpl_bs1g (.tmp 101) rfl (b8 (c + 1)) HC1.out (M + 1) hX1 ?_ (by rfl); intro x2 hX2 hb2 v2; have A2 := (A.low hM hb1 hNM).low hX1 hb2 (by omega); have q2 := (q1.below hb2 (by omega)).ats)
                  | (go_at_call 10; ((with_reducible refine (Lr_new w x2 N (M + 1 + 1) b n jj U m A2 hX2 (by omega) c hc Hno.out hlt2 _ _ q2 _ _ v2.ats).mono ?_)); rintro e x3 ⟨rfl, m3, A3, W3⟩; have O3 : Own x3 5 p jj cu (lu U) := ((O.below hb1 (Nat.le_of_eq hM)).below hb2 (Nat.le_of_eq hX1)).turn W3.1 (fun g hg => (hpf g hg).2); obtain ⟨M9, hM9⟩ := sz_some x3; have L9 := below_sz A3.bel hN hM9)
                  | fail)
                have hp9 : ∀ g, blk p = some g → N ≤ g ∧ ¬ Foot m3 g := fun g hg => ⟨(hpf g hg).1, fun hF => by
                  rcases W3.2 g hF with h | h
                  · exact (hpf g hg).2 h
                  · have := O.lt g hg
                    have e : wr.heap.size = M := hM
                    omega⟩
                clear O A A2 q1 q2 v2 hb1 hb2 hM hX1 hX2 W3 hpf dr
                go_wp2_with (first
                  | (refine wpl_bs1g (.tmp 126) rfl (b8 c) HC.out M9 hM9 ?_ (by rfl); intro r1 hR1 hbr1 vr1; have Ar1 := A3.low hM9 hbr1 L9; have Or1 := O3.below hbr1 (Nat.le_of_eq hM9))
                  | (refine wpl_appR rfl (.tmp 125) (.tmp 127) 22 rfl 5 undBB oneBy p (jj) cu rfl _ Or1 _ 1 1 rfl (fun _ => By (b8 c)) vr1.cells (fun _ _ => rfl) (by omega) (jj + 1) (by omega) ?_; intro p7 cu7 r2 o7 g7 q7; have Ar2 := Ar1.turn hR1 (by omega) g7.turn (fun j hj => (hp9 j hj).1) (fun j hF hj => (hp9 j hj).2 hF))
                  | (go_at_call 14; have X := Len_is m3 (jj + 1) Ar2.en _ Ar2.at_; rw [Ar2.eb] at X; ((with_reducible refine X.mono ?_)); rintro e r3 ⟨rfl, rfl⟩)
                  | fail)
                go_roundg (40 - (k + 1))
                case measure => omega
                case rel =>
                  refine ⟨k + 1, jj + 1, setF U jj c, m3, p7, cu7, by omega, rfl, by go_num, rfl, Ar2, o7.congr (fun j hj => ?_), fun g hg => ?_⟩
                  · have := cat_last (U) (jj) c j (by omega)
                    rw [this]
                  · rcases q7 with q7 | q7
                    · exact hp9 g (by rw [← q7]; exact hg)
                    · have e9 : r1.heap.size = M9 + 1 := hR1
                      rw [q7, Option.some.injEq] at hg
                      exact ⟨by omega, fun hF => by have := Ar1.at_.lt hR1 g hF; omega⟩
            · go_wp2_with (first
                | (refine wpl_bs1g (.tmp 73) rfl (b8 c) HC.out M hM ?_ (by rfl); intro x1 hX1 hb1 q1; have A1 := A.low hM hb1 hNM)
                | (go_at_call 12; ((with_reducible refine (Lr_miss w x1 N (M + 1) b n jj U m A1 hX1 (by omega) c hc Hno.out _ _ q1.ats).mono ?_)); rintro e x3 ⟨rfl, A3, W3⟩)
                | fail)
              go_roundg (40 - (k + 1))
              case measure => omega
              case rel => exact ⟨k + 1, jj, U, m, p, cu, by omega, rfl, by go_num, rfl, A3, (O.below hb1 (Nat.le_of_eq hM)).turn W3.1 (fun g hg => (hpf g hg).2), hpf⟩
    · have hcs : ¬ k < l1 ∨ (k < l1 ∧ ¬ k < 40) := by omega
      rcases hcs with hcs | ⟨hcs, hcs2⟩
      · have i1 : ¬ ((k : Int) < (l1 : Int)) := by omega
        go_wp2_with fail
        go_loopg [15] nu (fun g i w2 => ∃ (j : Nat) (m' : Mp) (U' : Nat → Nat), j ≤ nu ∧ g = nu - j ∧ i = .int .i64 j ∧ Lr w N b n nu U' m' w2 ∧ (∀ i, i < nu → ∃ i', i' < nu ∧ U' i' = U i) ∧ Own w2 5 p nu cu (lu U) ∧ ∀ g, blk p = some g → N ≤ g ∧ ¬ Foot m' g)
        case atStart => exact ⟨0, m, U, by omega, rfl, rfl, A, fun i hi => ⟨i, hi, rfl⟩, O, hpf⟩
        case round =>
          clear A O hpf
          obtain ⟨j, m', U', hj, rfl, rfl, A', P', O', hp'⟩ := hrel
          obtain ⟨M', hM'⟩ := sz_some wr
          have hNM' := below_sz A'.bel hN hM'
          have j0 : (0 : Int) ≤ (j : Int) := by omega
          have j6 : (j : Int) ≤ 6 := by omega
          by_cases hjn : j < nu
          · have j1 : (j : Int) < (nu : Int) := by omega
            obtain ⟨a, ha, hac⟩ := P' j hjn
            obtain ⟨g0, rfl⟩ : ∃ g0, p = some ⟨g0, 0, none⟩ := by
              obtain ⟨g, e, _⟩ := O'.cell (by omega)
              exact ⟨g, e⟩
            have hle := O'.le
            have s1 : ∀ w, (Instr.sliceAt 22 (.slice (some ⟨g0, 0, none⟩) nu cu) (some (.int .i64 (j : Int))) (some (.int .i64 ((j : Int) + 1))) none).run Try.prog w = .ok (.slice (some ⟨g0, j, none⟩) 1 (cu - j)) w := fun w => by
              have := run_cut_at (P := Try.prog) 22 5 1 undBB szBy g0 0 nu cu j (j + 1) (by omega) (by omega) (by omega) w
              rw [show j + 1 - j = 1 by omega, Nat.mul_one, Nat.zero_add] at this
              exact this
            have xa : Ats wr (some ⟨g0, j, none⟩) 1 (fun _ => By (b8 (U j))) := one_ats (by
              obtain ⟨g', e, hc'⟩ := O'.cell (by omega)
              obtain rfl : g0 = g' := by injection e with e; injection e
              have := hc' j hjn
              rwa [Nat.zero_add] at this)
            have uc : U j < 9 := by rw [← hac]; exact A'.u9 a ha
            have Hac := hid hac
            clear hac hle
            go_wp2_with (first
              | (go_at_call 12; ((with_reducible refine (Lr_look w wr N M' b n nu U' m' A' hM' hNM' (U j) uc a ha Hac.out _ _ xa).mono ?_)); rintro e x3 ⟨⟨K1, hK1, rfl, v3⟩, m3, A3, W3⟩)
              | fail)
            go_roundg (nu - (j + 1))
            case measure => omega
            case rel =>
              refine ⟨j + 1, m3, useU U' nu a, by omega, rfl, by go_num, A3, fun i hi => ?_, O'.turn W3.1 (fun g hg => (hp' g hg).2), fun g hg => ⟨(hp' g hg).1, fun hF => ?_⟩⟩
              · obtain ⟨x, hx, ex⟩ := P' i hi
                obtain ⟨y, hy, ey⟩ := useU_perm U' nu a x ha hx
                exact ⟨y, hy, ey.trans ex⟩
              · rcases W3.2 g hF with h | h
                · exact (hp' g hg).2 h
                · have := O'.lt g hg
                  have e : wr.heap.size = M' := hM'
                  omega
          · obtain rfl : j = nu := by omega
            have j1 : ¬ ((j : Int) < (j : Int)) := by omega
            go_wp2_with fail
            go_ret
            exact ⟨rfl, A'.bel⟩
      · have i1 : (k : Int) < (l1 : Int) := by omega
        have i2 : ¬ ((k : Int) < 40) := by omega
        go_wp2_with fail
        go_loopg [15] nu (fun g i w2 => ∃ (j : Nat) (m' : Mp) (U' : Nat → Nat), j ≤ nu ∧ g = nu - j ∧ i = .int .i64 j ∧ Lr w N b n nu U' m' w2 ∧ (∀ i, i < nu → ∃ i', i' < nu ∧ U' i' = U i) ∧ Own w2 5 p nu cu (lu U) ∧ ∀ g, blk p = some g → N ≤ g ∧ ¬ Foot m' g)
        case atStart => exact ⟨0, m, U, by omega, rfl, rfl, A, fun i hi => ⟨i, hi, rfl⟩, O, hpf⟩
        case round =>
          clear A O hpf
          obtain ⟨j, m', U', hj, rfl, rfl, A', P', O', hp'⟩ := hrel
          obtain ⟨M', hM'⟩ := sz_some wr
          have hNM' := below_sz A'.bel hN hM'
          have j0 : (0 : Int) ≤ (j : Int) := by omega
          have j6 : (j : Int) ≤ 6 := by omega
          by_cases hjn : j < nu
          · have j1 : (j : Int) < (nu : Int) := by omega
            obtain ⟨a, ha, hac⟩ := P' j hjn
            obtain ⟨g0, rfl⟩ : ∃ g0, p = some ⟨g0, 0, none⟩ := by
              obtain ⟨g, e, _⟩ := O'.cell (by omega)
              exact ⟨g, e⟩
            have hle := O'.le
            have s1 : ∀ w, (Instr.sliceAt 22 (.slice (some ⟨g0, 0, none⟩) nu cu) (some (.int .i64 (j : Int))) (some (.int .i64 ((j : Int) + 1))) none).run Try.prog w = .ok (.slice (some ⟨g0, j, none⟩) 1 (cu - j)) w := fun w => by
              have := run_cut_at (P := Try.prog) 22 5 1 undBB szBy g0 0 nu cu j (j + 1) (by omega) (by omega) (by omega) w
              rw [show j + 1 - j = 1 by omega, Nat.mul_one, Nat.zero_add] at this
              exact this
            have xa : Ats wr (some ⟨g0, j, none⟩) 1 (fun _ => By (b8 (U j))) := one_ats (by
              obtain ⟨g', e, hc'⟩ := O'.cell (by omega)
              obtain rfl : g0 = g' := by injection e with e; injection e
              have := hc' j hjn
              rwa [Nat.zero_add] at this)
            have uc : U j < 9 := by rw [← hac]; exact A'.u9 a ha
            have Hac := hid hac
            clear hac hle
            go_wp2_with (first
              | (go_at_call 12; ((with_reducible refine (Lr_look w wr N M' b n nu U' m' A' hM' hNM' (U j) uc a ha Hac.out _ _ xa).mono ?_)); rintro e x3 ⟨⟨K1, hK1, rfl, v3⟩, m3, A3, W3⟩)
              | fail)
            go_roundg (nu - (j + 1))
            case measure => omega
            case rel =>
              refine ⟨j + 1, m3, useU U' nu a, by omega, rfl, by go_num, A3, fun i hi => ?_, O'.turn W3.1 (fun g hg => (hp' g hg).2), fun g hg => ⟨(hp' g hg).1, fun hF => ?_⟩⟩
              · obtain ⟨x, hx, ex⟩ := P' i hi
                obtain ⟨y, hy, ey⟩ := useU_perm U' nu a x ha hx
                exact ⟨y, hy, ey.trans ex⟩
              · rcases W3.2 g hF with h | h
                · exact (hp' g hg).2 h
                · have := O'.lt g hg
                  have e : wr.heap.size = M' := hM'
                  omega
          · obtain rfl : j = nu := by omega
            have j1 : ¬ ((j : Int) < (j : Int)) := by omega
            go_wp2_with fail
            go_ret
            exact ⟨rfl, A'.bel⟩
end Go.Proofs.Yteicoheihalnnaa
