/- States: Maybes that are the same in one are it in the other one. -/
import Derived.Test.YtaeggclcjpcnoaaAbf
import Derived.Test.YtaeggclcjpcnoaaAbh
namespace Go.Proofs.Ytaeggclcjpcnoaa
open Go Go.RowKit
section
variable {ops : Array Oper} {rest : List Oper} {o : Oper} {a : Act} {w : World} {Q : Exit → Act → World → Prop}
theorem own_has1 {w : World} {b T : Nat} {f : Nat → Value} (h : Has w b T 1 f) : Own w T (some ⟨b, 0, none⟩) 1 1 f := own_has h
theorem wpl_bsn1 (hgd : o.guard = none) (x : Operand) (ho : o.op = .buildSlice 60 1 #[(0, x)]) (r : Int) (hx : a.eval x = .int .i64 r) (N : Nat) (hN : Sz w N)
    (h : ∀ w1, Sz w1 (N + 1) → Below N w w1 → Own w1 3 (some ⟨N, 0, none⟩) 1 1 (fun _ => .int .i64 r) → wpList Try.prog ops Q rest (a.put o.dst (.slice (some ⟨N, 0, none⟩) 1 1)) w1) : wpList Try.prog ops Q (o :: rest) a w := by
  have e : w.heap.size = N := hN
  subst e
  refine wpl_run hgd (.slice (some ⟨w.heap.size, 0, none⟩) 1 1) (w.alloc (.cells (cellsOf (fun _ => .int .i64 r) 1) 3)) ?_ (h _ (sz_alloc rfl _) (below_new _ _ _ rfl) ?_)
  · clear h hN
    generalize a.eval = ev at *
    unfold execOp
    simp only [ho]
    go_simp
    kernel_rfl
  · exact own_has (has_new rfl 3 1 _)
end
theorem oneI : OneCell Try.prog 3 := oneCell_of (v := .int .i64 0) (k := 8) (by kernel_rfl) (by omega) rfl
theorem Own.cells1 {w : World} {T g : Nat} {f : Nat → Value} (h : Own w T (some ⟨g, 0, none⟩) 1 1 f) : Cells w (some ⟨g, 0, none⟩) 1 f := fun _ => by
  obtain ⟨g', hg, hc⟩ := h.cell (by omega)
  obtain rfl : g = g' := by injection hg with hg; injection hg
  exact ⟨_, rfl, fun j hj => by rw [Addr.add_mid]; exact hc j hj⟩
set_option maxRecDepth 100000 in
set_option maxHeartbeats 16000000 in
theorem Same_any (s t : St) (w : World) (N : Nat) (hN : Sz w N) (b c : Nat) (H1 : Has w b 76 273 (stC s)) (H2 : Has w c 76 273 (stC t)) :
    Calls Try.prog 81 #[.pointer (some ⟨b, 0, none⟩), .pointer (some ⟨c, 0, none⟩)] w fun e w' => e = .returned (.bool (sameB s t)) ∧ Below N w w' := by
  have hbN := H1.ltN hN
  have hcN := H2.ltN hN
  obtain ⟨z, ez⟩ : ∃ z, z = sameB s t := ⟨_, rfl⟩
  rw [← ez]
  have EZ := hid ez
  clear ez
  go_enter Try.func81, Try.ntmps81
  go_wp2_with fail
  go_loopw [5, 6, 7, 8, 9, 10, 11, 12] (fun x5 x6 x7 x8 x9 x10 x11 x12 wr => ∃ i : Nat, i ≤ 19 ∧ x12 = .int .i64 i ∧ ∃ (n : Nat) (p5 : Option Addr) (c5 : Nat) (p6 : Option Addr) (c6 : Nat), n = (ms s i).length ∧ x5 = .slice p5 n c5 ∧ x6 = .slice p6 n c6 ∧ Own wr 3 p5 n c5 (mF s s i) ∧ Own wr 3 p6 n c6 (mF s t i) ∧ (∀ g, blk p5 = some g → N ≤ g) ∧ (∀ g, blk p6 = some g → N ≤ g) ∧ (∀ g, blk p5 = some g → blk p6 ≠ some g) ∧ allF (fun y => allF (pairB s t y) y) i = true ∧ Below N w wr) (fun _ _ _ _ _ _ _ x12 _ => 19 - (intOf x12).toNat)
  case atStart => exact ⟨0, by omega, rfl, 0, none, 0, none, 0, rfl, rfl, rfl, Own.nil _ _ _, Own.nil _ _ _, (fun g h => by cases h), (fun g h => by cases h), (fun g h => by cases h), rfl, Below.refl N w⟩
  case round =>
    obtain ⟨i, hi, rfl, n, p5, c5, p6, c6, hn, rfl, rfl, o5, o6, l5, l6, d56, hP, hb⟩ := hrel
    have HN := hid hn
    have HP := hid hP
    have n19 : n ≤ 19 := by have := ms_len s i; omega
    clear hn hP
    obtain ⟨M, hM⟩ := sz_some wr
    have lNM := below_sz hb hN hM
    have h1 := H1.below hb hbN
    have h2 := H2.below hb hcN
    by_cases hlt : i < 19
    · have t1 : decide ((i : Int) < 19) = true := by simp; omega
      have cK : wr.cell? ⟨b, pAt i, none⟩ = some (.int .i64 (prt s i).k) := by
        have h := h1.cell (j := pAt i + 0) (by have := pAt_lt hlt; omega)
        rw [prt_cell s (by omega)] at h; exact h
      have cR : wr.cell? ⟨b, pAt i + 8, none⟩ = some (.int .i64 (prt s i).id) := by
        have h := h1.cell (j := pAt i + 8) (by have := pAt_lt hlt; omega)
        rw [prt_cell s (by omega)] at h; exact h
      have cO : wr.cell? ⟨c, pAt i + 8, none⟩ = some (.int .i64 (prt t i).id) := by
        have h := h2.cell (j := pAt i + 8) (by have := pAt_lt hlt; omega)
        rw [prt_cell t (by omega)] at h; exact h
      cases hk : ((prt s i).k != 6)
      · have HK := hid hk
        clear hk
        go_upto_region 7 with (first
          | (go_at_call 108; (with_reducible refine (Part_any b i hlt _).mono ?_); rintro e w1 ⟨rfl, rfl⟩)
          | (go_at_call 108; (with_reducible refine (Part_any c i hlt _).mono ?_); rintro e w1 ⟨rfl, rfl⟩)
          | (refine wpl_run rfl (.bool false) _ (run_neqI (x := (.tmp 24)) (y := (.const (.int .i64 6))) rfl rfl rfl (p := (prt s i).k) (q := 6) HK.out _) ?_)
          | fail)
        have hk : (prt s i).k = 6 := by have := HK.out; simpa [bne] using this
        have HK6 := hid hk
        clear hk
        obtain ⟨rid, er⟩ : ∃ x, x = (prt s i).id := ⟨_, rfl⟩
        obtain ⟨oid, eo⟩ : ∃ x, x = (prt t i).id := ⟨_, rfl⟩
        rw [← er] at cR
        rw [← eo] at cO
        have ER := hid er
        have EO := hid eo
        clear er eo cK h1 h2
        go_wp2_with fail
        go_loopw [10, 11, 28] (fun x10 x11 x28 wr => ∃ u : Nat, u ≤ n ∧ x28 = .int .i64 u ∧ (∀ v, v < u → pairB s t i ((ms s i).getD v 0) = true) ∧ Own wr 3 p5 n c5 (mF s s i) ∧ Own wr 3 p6 n c6 (mF s t i) ∧ Below N w wr) (fun _ _ x28 _ => n - (intOf x28).toNat)
        case atStart => exact ⟨0, Nat.zero_le _, rfl, (fun v hv => absurd hv (by omega)), o5, o6, hb⟩
        case round =>
          clear o5 o6 hb hM lNM cR cO
          obtain ⟨u, hu, rfl, hV, o5, o6, hb⟩ := hrel
          have HV := hid hV
          clear hV
          obtain ⟨Mq, hMq⟩ := sz_some wr
          have lNq := below_sz hb hN hMq
          have cR2 : wr.cell? ⟨b, pAt i + 8, none⟩ = some (.int .i64 rid) := by
            have h := (H1.below hb hbN).cell (j := pAt i + 8) (by have := pAt_lt hlt; omega)
            rw [prt_cell s (by omega)] at h; rw [ER.out]; exact h
          have cO2 : wr.cell? ⟨c, pAt i + 8, none⟩ = some (.int .i64 oid) := by
            have h := (H2.below hb hcN).cell (j := pAt i + 8) (by have := pAt_lt hlt; omega)
            rw [prt_cell t (by omega)] at h; rw [EO.out]; exact h
          by_cases hlu : u < n
          · have t2 : decide ((u : Int) < (n : Int)) = true := by simp; omega
            obtain ⟨g5, e5, hc5⟩ := o5.cell (by omega)
            obtain ⟨g6, e6, hc6⟩ := o6.cell (by omega)
            subst e5; subst e6
            obtain ⟨a1, ea1⟩ : ∃ x, x = (prt s ((ms s i).getD u 0)).id := ⟨_, rfl⟩
            obtain ⟨a2, ea2⟩ : ∃ x, x = (prt t ((ms s i).getD u 0)).id := ⟨_, rfl⟩
            have cS : wr.cell? ⟨g5, u, none⟩ = some (.int .i64 a1) := by (have hq := hc5 u hlu; rw [Nat.zero_add] at hq; rw [ea1]; exact hq)
            have cM : wr.cell? ⟨g6, 0 + u, none⟩ = some (.int .i64 a2) := by rw [ea2]; exact hc6 u hlu
            have EA1 := hid ea1
            have EA2 := hid ea2
            clear ea1 ea2 hc5 hc6
            cases q1 : (a1 == rid)
            · have E1 := hid q1
              clear q1
              go_upto_region 10 with (first
                | (refine wpl_run rfl (.int .i64 a1) _ (run_c1 3 (.tmp 31) rfl ⟨g5, u, none⟩ rfl undInt rfl cS) ?_)
                | fail)
              refine wp_region_later Mq (by kernel_rfl) (by kernel_rfl) ?_
              try simp only [pA]
              iterate 4 (go_big_quiet_step (fail))
              refine later_c1 hMq 3 (.tmp 36) rfl rfl undInt rfl cR2 (by rfl) ?_; simp only [pA]
              refine later_val (fun q => run_eqlI (x := (.tmp 33)) (y := (.tmp 37)) rfl rfl rfl (p := a1) (q := rid) (r := false) E1.out q.w') (by rfl) ?_; simp only [pA]
              go_big_quiet_step (fail)
              iterate 10 (go_big_quiet_step (fail))
              refine wpQuiet_nil (laterE hMq ?_)
              intro wz Mz hbz hMz lMz
              replace o5 := o5.below hbz (Nat.le_of_eq hMq)
              replace o6 := o6.below hbz (Nat.le_of_eq hMq)
              replace hb := hb.trans (hbz.mono lNq)
              go_wp2_with fail
              exact ⟨⟨u + 1, by omega, by go_num, fun v hv => by
                by_cases e : v = u
                · subst e; exact pair_ne (by rw [← EA1.out, ← ER.out]; exact E1.out)
                · exact HV.out v (by omega), o5, o6, hb⟩, by simp [intOf]; omega⟩
            · have E1 := hid q1
              clear q1
              cases q2 : (a2 != oid)
              · have E2 := hid q2
                clear q2
                go_upto_region 10 with (first
                  | (refine wpl_run rfl (.int .i64 a1) _ (run_c1 3 (.tmp 31) rfl ⟨g5, u, none⟩ rfl undInt rfl cS) ?_)
                  | fail)
                refine wp_region_later Mq (by kernel_rfl) (by kernel_rfl) ?_
                try simp only [pA]
                iterate 4 (go_big_quiet_step (fail))
                refine later_c1 hMq 3 (.tmp 36) rfl rfl undInt rfl cR2 (by rfl) ?_; simp only [pA]
                refine later_val (fun q => run_eqlI (x := (.tmp 33)) (y := (.tmp 37)) rfl rfl rfl (p := a1) (q := rid) (r := true) E1.out q.w') (by rfl) ?_; simp only [pA]
                go_big_quiet_step (fail)
                iterate 2 (go_big_quiet_step (fail))
                refine later_val (fun q => run_ixL 60 3 undIs szI1 (.tmp 40) (.tmp 41) rfl rfl rfl (k := u) hlu q.w') (by rfl) ?_; simp only [pA]
                refine later_c1 hMq 3 (.tmp 42) rfl rfl undInt rfl cM (by rfl) ?_; simp only [pA]
                iterate 3 (go_big_quiet_step (fail))
                refine later_c1 hMq 3 (.tmp 46) rfl rfl undInt rfl cO2 (by rfl) ?_; simp only [pA]
                refine later_val (fun q => run_neqI (x := (.tmp 43)) (y := (.tmp 47)) rfl rfl rfl (p := a2) (q := oid) (r := false) E2.out q.w') (by rfl) ?_; simp only [pA]
                go_big_quiet_step (fail)
                refine wpQuiet_nil (laterE hMq ?_)
                intro wz Mz hbz hMz lMz
                replace o5 := o5.below hbz (Nat.le_of_eq hMq)
                replace o6 := o6.below hbz (Nat.le_of_eq hMq)
                replace hb := hb.trans (hbz.mono lNq)
                go_wp2_with fail
                exact ⟨⟨u + 1, by omega, by go_num, fun v hv => by
                  by_cases e : v = u
                  · subst e; exact pair_eq (by rw [← EA2.out, ← EO.out]; exact E2.out)
                  · exact HV.out v (by omega), o5, o6, hb⟩, by simp [intOf]; omega⟩
              · have E2 := hid q2
                clear q2
                have ezz : z = false := by
                  rw [EZ.out]
                  have hat := ms_at (s := s) (i := i) (v := u) (by rw [← HN.out]; exact hlu)
                  exact same_bad hlt hat.1 (pair_bad hat.2 HK6.out (by rw [← EA1.out, ← ER.out]; exact E1.out) (by rw [← EA2.out, ← EO.out]; exact E2.out))
                go_upto_region 10 with (first
                  | (refine wpl_run rfl (.int .i64 a1) _ (run_c1 3 (.tmp 31) rfl ⟨g5, u, none⟩ rfl undInt rfl cS) ?_)
                  | fail)
                refine wp_region_later Mq (by kernel_rfl) (by kernel_rfl) ?_
                try simp only [pA]
                iterate 4 (go_big_quiet_step (fail))
                refine later_c1 hMq 3 (.tmp 36) rfl rfl undInt rfl cR2 (by rfl) ?_; simp only [pA]
                refine later_val (fun q => run_eqlI (x := (.tmp 33)) (y := (.tmp 37)) rfl rfl rfl (p := a1) (q := rid) (r := true) E1.out q.w') (by rfl) ?_; simp only [pA]
                go_big_quiet_step (fail)
                iterate 2 (go_big_quiet_step (fail))
                refine later_val (fun q => run_ixL 60 3 undIs szI1 (.tmp 40) (.tmp 41) rfl rfl rfl (k := u) hlu q.w') (by rfl) ?_; simp only [pA]
                refine later_c1 hMq 3 (.tmp 42) rfl rfl undInt rfl cM (by rfl) ?_; simp only [pA]
                iterate 3 (go_big_quiet_step (fail))
                refine later_c1 hMq 3 (.tmp 46) rfl rfl undInt rfl cO2 (by rfl) ?_; simp only [pA]
                refine later_val (fun q => run_neqI (x := (.tmp 43)) (y := (.tmp 47)) rfl rfl rfl (p := a2) (q := oid) (r := true) E2.out q.w') (by rfl) ?_; simp only [pA]
                go_big_quiet_step (fail)
                refine wpQuiet_nil (laterE hMq ?_)
                intro wz Mz hbz hMz lMz
                replace o5 := o5.below hbz (Nat.le_of_eq hMq)
                replace o6 := o6.below hbz (Nat.le_of_eq hMq)
                replace hb := hb.trans (hbz.mono lNq)
                go_wp2_with fail
                go_ret
                exact ⟨by rw [ezz]; rfl, hb⟩
          · have hun : u = n := by omega
            subst hun
            have HI : ∀ w', Below N w w' → (w'.cell? ⟨b, pAt i + 8, none⟩ = some (.int .i64 rid) ∧ w'.cell? ⟨c, pAt i + 8, none⟩ = some (.int .i64 oid)) := fun w' hbw => by
              constructor
              · have h := (H1.below hbw hbN).cell (j := pAt i + 8) (by have := pAt_lt hlt; omega)
                rw [prt_cell s (by omega)] at h; rw [ER.out]; exact h
              · have h := (H2.below hbw hcN).cell (j := pAt i + 8) (by have := pAt_lt hlt; omega)
                rw [prt_cell t (by omega)] at h; rw [EO.out]; exact h
            go_upto_region 13 with fail
            refine wp_region_inn (fun w' => w'.cell? ⟨b, pAt i + 8, none⟩ = some (.int .i64 rid) ∧ w'.cell? ⟨c, pAt i + 8, none⟩ = some (.int .i64 oid)) (HI _ hb.drew) (by kernel_rfl) ?_
            have hne := inn_ne (I := fun w' => w'.cell? ⟨b, pAt i + 8, none⟩ = some (.int .i64 rid) ∧ w'.cell? ⟨c, pAt i + 8, none⟩ = some (.int .i64 oid)) (HI _ hb)
            refine anyI_reads [0, 1, 2, 3, 4, 7, 8, 9, 10, 11] _ _ _ (HI _ hb.drew) (by kernel_rfl) (fun _ _ _ d _ h => by cases d <;> exact h) ?_
            simp only [pickO, List.map_cons, List.map_nil, List.getElem?_toArray, List.getElem?_cons_succ, List.getElem?_cons_zero, Option.getD_some, Act.put, List.setIfInBounds_toArray, List.set_cons_succ, List.set_cons_zero]
            iterate 4 (go_big_quiet_step (fail))
            refine inn_val (fun x => run_c1 3 (.tmp 54) rfl ⟨b, pAt i + 8, none⟩ rfl undInt rfl x.h.1) (by rfl) ?_; simp only [Act.put, List.setIfInBounds_toArray, List.set_cons_succ, List.set_cons_zero]
            iterate 4 (go_big_quiet_step (fail))
            refine inn_val (fun x => run_c1 3 (.tmp 61) rfl ⟨c, pAt i + 8, none⟩ rfl undInt rfl x.h.2) (by rfl) ?_; simp only [Act.put, List.setIfInBounds_toArray, List.set_cons_succ, List.set_cons_zero]
            refine wpQuiet_nil ?_
            clear hne
            obtain ⟨w0, ew⟩ : ∃ x, x = wr.drew := ⟨_, rfl⟩
            replace o5 : Own w0 3 p5 u c5 (mF s s i) := by rw [ew]; exact o5
            replace o6 : Own w0 3 p6 u c6 (mF s t i) := by rw [ew]; exact o6
            replace hMq : Sz w0 Mq := by rw [ew]; exact hMq
            replace hb : Below N w w0 := by rw [ew]; exact hb.drew
            rw [← ew]
            clear ew cR2 cO2
            have hlt5 : ∀ g, blk p5 = some g → g < Mq := fun g hg => by have := o5.lt g hg; have e : (w0).heap.size = Mq := hMq; omega
            have hne65 : blk p6 = none ∨ blk p6 ≠ blk p5 := by
              cases hp : blk p6 with
              | none => exact .inl rfl
              | some g => exact .inr (fun e => d56 g e.symm hp)
            refine anyI_two 5 12 _ _ _ _ (by kernel_rfl) ?_ ?_
            · simp only [List.filterMap_cons, List.filterMap_nil, List.getElem?_toArray, List.getElem?_cons_succ, List.getElem?_cons_zero]
              change wpList _ _ _ [_] _ _
              refine wpl_bsn1 rfl (.tmp 55) rfl rid rfl Mq hMq ?_
              intro v1 hM1 hbl1 s5
              replace o5 := o5.below hbl1 (Nat.le_of_eq hMq)
              replace o6 := o6.below hbl1 (Nat.le_of_eq hMq)
              have hb1 := hb.trans (hbl1.mono lNq)
              obtain ⟨M1, eM1⟩ : ∃ x, x = Mq + 1 := ⟨_, rfl⟩
              rw [← eM1] at hM1
              have lN1 : N ≤ M1 := by have := lNq; omega
              have lq1 : Mq ≤ M1 := by have := (Nat.le_refl Mq); omega
              have lts5 : Mq < M1 := by omega
              refine ⟨HI _ hb1, ?_⟩
              change anyI _ _ _ _ _ _ _ _ _
              try simp only [Act.put, List.setIfInBounds_toArray, List.set_cons_succ, List.set_cons_zero, List.getElem_toArray, List.getElem_cons_succ, List.getElem_cons_zero]
              refine anyI_two 6 12 _ _ _ _ (by kernel_rfl) ?_ ?_
              · simp only [List.filterMap_cons, List.filterMap_nil, List.getElem?_toArray, List.getElem?_cons_succ, List.getElem?_cons_zero]
                change wpList _ _ _ [_] _ _
                have o6A := o6
                have eA : (v1).heap.size = M1 := hM1
                have lA := lq1
                refine wpl_app rfl (.tmp 51) (.tmp 56) 60 rfl 3 undIs oneI p5 u c5 rfl (mF s s i) o5 (some ⟨Mq, 0, none⟩) 1 1 rfl (fun _ => .int .i64 rid) s5.cells1 (fun _ _ => rfl) (by omega) ?_
                intro q5 d5 v2 oq5 gr5 bq5 _
                have b5 : ∀ g, blk p5 = some g → g < Mq := hlt5
                have hb2 := gr5.below hb1 (by have := lN1; omega) l5
                replace o6 := o6.grew gr5 hne65
                obtain ⟨M2, hM2⟩ := sz_some v2
                have lM2 : M1 ≤ M2 := by have h := gr5.size; have e : (v2).heap.size = M2 := hM2; omega
                have lN2 : N ≤ M2 := Nat.le_trans lN1 lM2
                have lq2 : Mq ≤ M2 := Nat.le_trans lq1 lM2
                have hneq : blk q5 = none ∨ blk q5 ≠ blk p6 := by
                  rcases bq5 with e | e
                  · rw [e]
                    cases hp : blk p5 with
                    | none => exact .inl rfl
                    | some g => exact .inr (fun e2 => d56 g hp e2.symm)
                  · rw [e]; exact .inr (fun e2 => by have := o6A.lt _ e2.symm; omega)
                refine ⟨HI _ hb2, ?_⟩
                change anyI _ _ _ _ _ _ _ _ _
                try simp only [Act.put, List.setIfInBounds_toArray, List.set_cons_succ, List.set_cons_zero, List.getElem_toArray, List.getElem_cons_succ, List.getElem_cons_zero]
                refine anyI_part [12, 13, 14, 15] _ _ _ _ (by kernel_rfl) ?_
                simp only [List.filterMap_cons, List.filterMap_nil, List.getElem?_toArray, List.getElem?_cons_succ, List.getElem?_cons_zero]
                change wpList _ _ _ [_] _ _
                refine wpl_bsn1 rfl (.tmp 62) rfl oid rfl M2 hM2 ?_
                intro v3 hM3 hbl3 s6
                replace oq5 := oq5.below hbl3 (Nat.le_of_eq hM2)
                replace o6 := o6.below hbl3 (Nat.le_of_eq hM2)
                have hb3 := hb2.trans (hbl3.mono lN2)
                obtain ⟨M3, eM3⟩ : ∃ x, x = M2 + 1 := ⟨_, rfl⟩
                rw [← eM3] at hM3
                have lN3 : N ≤ M3 := by have := lN2; omega
                have lq3 : Mq ≤ M3 := by have := lq2; omega
                have lts6 : M2 < M3 := by omega
                refine ⟨HI _ hb3, ?_⟩
                change wpList _ _ _ [_] _ _
                have oB := oq5
                have eB : (v3).heap.size = M3 := hM3
                refine wpl_app rfl (.tmp 58) (.tmp 63) 60 rfl 3 undIs oneI p6 u c6 rfl (mF s t i) o6 (some ⟨M2, 0, none⟩) 1 1 rfl (fun _ => .int .i64 oid) s6.cells1 (fun _ _ => rfl) (by omega) ?_
                intro q6 d6 v4 oq6 gr6 bq6 _
                have hb4 := gr6.below hb3 (by have := lN3; omega) l6
                replace oq5 := oq5.grew gr6 hneq
                have l5q : ∀ g, blk q5 = some g → N ≤ g := fun g hg => by
                  rcases bq5 with e | e
                  · rw [e] at hg; exact l5 g hg
                  · rw [e] at hg; injection hg with hg; have := lNq; omega
                have l6q : ∀ g, blk q6 = some g → N ≤ g := fun g hg => by
                  rcases bq6 with e | e
                  · rw [e] at hg; exact l6 g hg
                  · rw [e] at hg; injection hg with hg; have := lN3; omega
                have dq : ∀ g, blk q5 = some g → blk q6 ≠ some g := fun g hg h6 => by
                  rcases bq6 with e | e
                  · rw [e] at h6
                    rcases bq5 with e5 | e5
                    · rw [e5] at hg; exact d56 g hg h6
                    · rw [e5] at hg; have := o6A.lt g h6; injection hg with hg; omega
                  · rw [e] at h6; have := oB.lt g hg; injection h6 with h6; omega
                refine ⟨HI _ hb4, ?_⟩
                change wpList _ _ _ [_] _ _
                refine wpl_pure rfl (v := .slice q5 (u + 1) d5) (by intro w; rfl) ?_
                refine ⟨HI _ hb4, ?_⟩
                change wpList _ _ _ [_] _ _
                refine wpl_pure rfl (v := .slice q6 (u + 1) d6) (by intro w; rfl) ?_
                refine ⟨HI _ hb4, ?_⟩
                change anyI _ _ _ _ _ _ _ _ _
                try simp only [Act.put, List.setIfInBounds_toArray, List.set_cons_succ, List.set_cons_zero, List.getElem_toArray, List.getElem_cons_succ, List.getElem_cons_zero]
                refine anyI_done (by kernel_rfl) ?_
                try simp only [Act.put, List.setIfInBounds_toArray, List.set_cons_succ, List.set_cons_zero, List.getElem_toArray, List.getElem_cons_succ, List.getElem_cons_zero]
                go_wp2_with fail
                exact ⟨⟨i + 1, by omega, by go_num, u + 1, q5, d5, q6, d6, by rw [ms_yes HK6.out, List.length_append, HN.out]; rfl, rfl, rfl, oq5.congr (fun j hj => by rw [HN.out, ER.out]; exact mF_cat HK6.out j (by rw [ms_yes HK6.out, List.length_append, ← HN.out]; exact hj)), oq6.congr (fun j hj => by rw [HN.out, EO.out]; exact mF_cat HK6.out j (by rw [ms_yes HK6.out, List.length_append, ← HN.out]; exact hj)), l5q, l6q, dq, by
                  show (allF _ i && allF (pairB s t i) i) = true
                  rw [HP.out, pair_all (fun v hv => HV.out v (by rw [HN.out]; exact hv))]; rfl, hb4⟩, by simp [intOf]; omega⟩
              · simp only [List.filterMap_cons, List.filterMap_nil, List.getElem?_toArray, List.getElem?_cons_succ, List.getElem?_cons_zero]
                change wpList _ _ _ [_] _ _
                refine wpl_bsn1 rfl (.tmp 62) rfl oid rfl M1 hM1 ?_
                intro v2 hM2 hbl2 s6
                replace o5 := o5.below hbl2 (Nat.le_of_eq hM1)
                replace o6 := o6.below hbl2 (Nat.le_of_eq hM1)
                replace s5 := s5.below hbl2 (Nat.le_of_eq hM1)
                have hb2 := hb1.trans (hbl2.mono lN1)
                obtain ⟨M2, eM2⟩ : ∃ x, x = M1 + 1 := ⟨_, rfl⟩
                rw [← eM2] at hM2
                have lN2 : N ≤ M2 := by have := lN1; omega
                have lq2 : Mq ≤ M2 := by have := lq1; omega
                have lts6 : M1 < M2 := by omega
                refine ⟨HI _ hb2, ?_⟩
                change anyI _ _ _ _ _ _ _ _ _
                try simp only [Act.put, List.setIfInBounds_toArray, List.set_cons_succ, List.set_cons_zero, List.getElem_toArray, List.getElem_cons_succ, List.getElem_cons_zero]
                refine anyI_part [6, 13, 14, 15] _ _ _ _ (by kernel_rfl) ?_
                simp only [List.filterMap_cons, List.filterMap_nil, List.getElem?_toArray, List.getElem?_cons_succ, List.getElem?_cons_zero]
                change wpList _ _ _ [_] _ _
                have o6A := o6
                have eA : (v2).heap.size = M2 := hM2
                have lA := lq2
                refine wpl_app rfl (.tmp 51) (.tmp 56) 60 rfl 3 undIs oneI p5 u c5 rfl (mF s s i) o5 (some ⟨Mq, 0, none⟩) 1 1 rfl (fun _ => .int .i64 rid) s5.cells1 (fun _ _ => rfl) (by omega) ?_
                intro q5 d5 v3 oq5 gr5 bq5 _
                have b5 : ∀ g, blk p5 = some g → g < Mq := hlt5
                have hb3 := gr5.below hb2 (by have := lN2; omega) l5
                replace o6 := o6.grew gr5 hne65
                replace s6 := s6.grew gr5 (.inr (fun e => by have hx : M1 < Mq := b5 M1 e.symm; have := lq1; omega))
                obtain ⟨M3, hM3⟩ := sz_some v3
                have lM3 : M2 ≤ M3 := by have h := gr5.size; have e : (v3).heap.size = M3 := hM3; omega
                have lN3 : N ≤ M3 := Nat.le_trans lN2 lM3
                have lq3 : Mq ≤ M3 := Nat.le_trans lq2 lM3
                have hneq : blk q5 = none ∨ blk q5 ≠ blk p6 := by
                  rcases bq5 with e | e
                  · rw [e]
                    cases hp : blk p5 with
                    | none => exact .inl rfl
                    | some g => exact .inr (fun e2 => d56 g hp e2.symm)
                  · rw [e]; exact .inr (fun e2 => by have := o6A.lt _ e2.symm; omega)
                refine ⟨HI _ hb3, ?_⟩
                change wpList _ _ _ [_] _ _
                have oB := oq5
                have eB : (v3).heap.size = M3 := hM3
                refine wpl_app rfl (.tmp 58) (.tmp 63) 60 rfl 3 undIs oneI p6 u c6 rfl (mF s t i) o6 (some ⟨M1, 0, none⟩) 1 1 rfl (fun _ => .int .i64 oid) s6.cells1 (fun _ _ => rfl) (by omega) ?_
                intro q6 d6 v4 oq6 gr6 bq6 _
                have hb4 := gr6.below hb3 (by have := lN3; omega) l6
                replace oq5 := oq5.grew gr6 hneq
                have l5q : ∀ g, blk q5 = some g → N ≤ g := fun g hg => by
                  rcases bq5 with e | e
                  · rw [e] at hg; exact l5 g hg
                  · rw [e] at hg; injection hg with hg; have := lNq; omega
                have l6q : ∀ g, blk q6 = some g → N ≤ g := fun g hg => by
                  rcases bq6 with e | e
                  · rw [e] at hg; exact l6 g hg
                  · rw [e] at hg; injection hg with hg; have := lN3; omega
                have dq : ∀ g, blk q5 = some g → blk q6 ≠ some g := fun g hg h6 => by
                  rcases bq6 with e | e
                  · rw [e] at h6
                    rcases bq5 with e5 | e5
                    · rw [e5] at hg; exact d56 g hg h6
                    · rw [e5] at hg; have := o6A.lt g h6; injection hg with hg; omega
                  · rw [e] at h6; have := oB.lt g hg; injection h6 with h6; omega
                refine ⟨HI _ hb4, ?_⟩
                change wpList _ _ _ [_] _ _
                refine wpl_pure rfl (v := .slice q5 (u + 1) d5) (by intro w; rfl) ?_
                refine ⟨HI _ hb4, ?_⟩
                change wpList _ _ _ [_] _ _
                refine wpl_pure rfl (v := .slice q6 (u + 1) d6) (by intro w; rfl) ?_
                refine ⟨HI _ hb4, ?_⟩
                change anyI _ _ _ _ _ _ _ _ _
                try simp only [Act.put, List.setIfInBounds_toArray, List.set_cons_succ, List.set_cons_zero, List.getElem_toArray, List.getElem_cons_succ, List.getElem_cons_zero]
                refine anyI_done (by kernel_rfl) ?_
                try simp only [Act.put, List.setIfInBounds_toArray, List.set_cons_succ, List.set_cons_zero, List.getElem_toArray, List.getElem_cons_succ, List.getElem_cons_zero]
                go_wp2_with fail
                exact ⟨⟨i + 1, by omega, by go_num, u + 1, q5, d5, q6, d6, by rw [ms_yes HK6.out, List.length_append, HN.out]; rfl, rfl, rfl, oq5.congr (fun j hj => by rw [HN.out, ER.out]; exact mF_cat HK6.out j (by rw [ms_yes HK6.out, List.length_append, ← HN.out]; exact hj)), oq6.congr (fun j hj => by rw [HN.out, EO.out]; exact mF_cat HK6.out j (by rw [ms_yes HK6.out, List.length_append, ← HN.out]; exact hj)), l5q, l6q, dq, by
                  show (allF _ i && allF (pairB s t i) i) = true
                  rw [HP.out, pair_all (fun v hv => HV.out v (by rw [HN.out]; exact hv))]; rfl, hb4⟩, by simp [intOf]; omega⟩
            · simp only [List.filterMap_cons, List.filterMap_nil, List.getElem?_toArray, List.getElem?_cons_succ, List.getElem?_cons_zero]
              change wpList _ _ _ [_] _ _
              refine wpl_bsn1 rfl (.tmp 62) rfl oid rfl Mq hMq ?_
              intro v1 hM1 hbl1 s6
              replace o5 := o5.below hbl1 (Nat.le_of_eq hMq)
              replace o6 := o6.below hbl1 (Nat.le_of_eq hMq)
              have hb1 := hb.trans (hbl1.mono lNq)
              obtain ⟨M1, eM1⟩ : ∃ x, x = Mq + 1 := ⟨_, rfl⟩
              rw [← eM1] at hM1
              have lN1 : N ≤ M1 := by have := lNq; omega
              have lq1 : Mq ≤ M1 := by have := (Nat.le_refl Mq); omega
              have lts6 : Mq < M1 := by omega
              refine ⟨HI _ hb1, ?_⟩
              change anyI _ _ _ _ _ _ _ _ _
              try simp only [Act.put, List.setIfInBounds_toArray, List.set_cons_succ, List.set_cons_zero, List.getElem_toArray, List.getElem_cons_succ, List.getElem_cons_zero]
              refine anyI_part [5, 6, 13, 14, 15] _ _ _ _ (by kernel_rfl) ?_
              simp only [List.filterMap_cons, List.filterMap_nil, List.getElem?_toArray, List.getElem?_cons_succ, List.getElem?_cons_zero]
              change wpList _ _ _ [_] _ _
              refine wpl_bsn1 rfl (.tmp 55) rfl rid rfl M1 hM1 ?_
              intro v2 hM2 hbl2 s5
              replace o5 := o5.below hbl2 (Nat.le_of_eq hM1)
              replace o6 := o6.below hbl2 (Nat.le_of_eq hM1)
              replace s6 := s6.below hbl2 (Nat.le_of_eq hM1)
              have hb2 := hb1.trans (hbl2.mono lN1)
              obtain ⟨M2, eM2⟩ : ∃ x, x = M1 + 1 := ⟨_, rfl⟩
              rw [← eM2] at hM2
              have lN2 : N ≤ M2 := by have := lN1; omega
              have lq2 : Mq ≤ M2 := by have := lq1; omega
              have lts5 : M1 < M2 := by omega
              refine ⟨HI _ hb2, ?_⟩
              change wpList _ _ _ [_] _ _
              have o6A := o6
              have eA : (v2).heap.size = M2 := hM2
              have lA := lq2
              refine wpl_app rfl (.tmp 51) (.tmp 56) 60 rfl 3 undIs oneI p5 u c5 rfl (mF s s i) o5 (some ⟨M1, 0, none⟩) 1 1 rfl (fun _ => .int .i64 rid) s5.cells1 (fun _ _ => rfl) (by omega) ?_
              intro q5 d5 v3 oq5 gr5 bq5 _
              have b5 : ∀ g, blk p5 = some g → g < Mq := hlt5
              have hb3 := gr5.below hb2 (by have := lN2; omega) l5
              replace o6 := o6.grew gr5 hne65
              replace s6 := s6.grew gr5 (.inr (fun e => by have hx : Mq < Mq := b5 Mq e.symm; have := (Nat.le_refl Mq); omega))
              obtain ⟨M3, hM3⟩ := sz_some v3
              have lM3 : M2 ≤ M3 := by have h := gr5.size; have e : (v3).heap.size = M3 := hM3; omega
              have lN3 : N ≤ M3 := Nat.le_trans lN2 lM3
              have lq3 : Mq ≤ M3 := Nat.le_trans lq2 lM3
              have hneq : blk q5 = none ∨ blk q5 ≠ blk p6 := by
                rcases bq5 with e | e
                · rw [e]
                  cases hp : blk p5 with
                  | none => exact .inl rfl
                  | some g => exact .inr (fun e2 => d56 g hp e2.symm)
                · rw [e]; exact .inr (fun e2 => by have := o6A.lt _ e2.symm; omega)
              refine ⟨HI _ hb3, ?_⟩
              change wpList _ _ _ [_] _ _
              have oB := oq5
              have eB : (v3).heap.size = M3 := hM3
              refine wpl_app rfl (.tmp 58) (.tmp 63) 60 rfl 3 undIs oneI p6 u c6 rfl (mF s t i) o6 (some ⟨Mq, 0, none⟩) 1 1 rfl (fun _ => .int .i64 oid) s6.cells1 (fun _ _ => rfl) (by omega) ?_
              intro q6 d6 v4 oq6 gr6 bq6 _
              have hb4 := gr6.below hb3 (by have := lN3; omega) l6
              replace oq5 := oq5.grew gr6 hneq
              have l5q : ∀ g, blk q5 = some g → N ≤ g := fun g hg => by
                rcases bq5 with e | e
                · rw [e] at hg; exact l5 g hg
                · rw [e] at hg; injection hg with hg; have := lNq; omega
              have l6q : ∀ g, blk q6 = some g → N ≤ g := fun g hg => by
                rcases bq6 with e | e
                · rw [e] at hg; exact l6 g hg
                · rw [e] at hg; injection hg with hg; have := lN3; omega
              have dq : ∀ g, blk q5 = some g → blk q6 ≠ some g := fun g hg h6 => by
                rcases bq6 with e | e
                · rw [e] at h6
                  rcases bq5 with e5 | e5
                  · rw [e5] at hg; exact d56 g hg h6
                  · rw [e5] at hg; have := o6A.lt g h6; injection hg with hg; omega
                · rw [e] at h6; have := oB.lt g hg; injection h6 with h6; omega
              refine ⟨HI _ hb4, ?_⟩
              change wpList _ _ _ [_] _ _
              refine wpl_pure rfl (v := .slice q5 (u + 1) d5) (by intro w; rfl) ?_
              refine ⟨HI _ hb4, ?_⟩
              change wpList _ _ _ [_] _ _
              refine wpl_pure rfl (v := .slice q6 (u + 1) d6) (by intro w; rfl) ?_
              refine ⟨HI _ hb4, ?_⟩
              change anyI _ _ _ _ _ _ _ _ _
              try simp only [Act.put, List.setIfInBounds_toArray, List.set_cons_succ, List.set_cons_zero, List.getElem_toArray, List.getElem_cons_succ, List.getElem_cons_zero]
              refine anyI_done (by kernel_rfl) ?_
              try simp only [Act.put, List.setIfInBounds_toArray, List.set_cons_succ, List.set_cons_zero, List.getElem_toArray, List.getElem_cons_succ, List.getElem_cons_zero]
              go_wp2_with fail
              exact ⟨⟨i + 1, by omega, by go_num, u + 1, q5, d5, q6, d6, by rw [ms_yes HK6.out, List.length_append, HN.out]; rfl, rfl, rfl, oq5.congr (fun j hj => by rw [HN.out, ER.out]; exact mF_cat HK6.out j (by rw [ms_yes HK6.out, List.length_append, ← HN.out]; exact hj)), oq6.congr (fun j hj => by rw [HN.out, EO.out]; exact mF_cat HK6.out j (by rw [ms_yes HK6.out, List.length_append, ← HN.out]; exact hj)), l5q, l6q, dq, by
                show (allF _ i && allF (pairB s t i) i) = true
                rw [HP.out, pair_all (fun v hv => HV.out v (by rw [HN.out]; exact hv))]; rfl, hb4⟩, by simp [intOf]; omega⟩
      · have HK := hid hk
        clear hk
        go_wp2_with (first
          | (go_at_call 108; (with_reducible refine (Part_any b i hlt _).mono ?_); rintro e w1 ⟨rfl, rfl⟩)
          | (go_at_call 108; (with_reducible refine (Part_any c i hlt _).mono ?_); rintro e w1 ⟨rfl, rfl⟩)
          | (refine wpl_run rfl (.bool true) _ (run_neqI (x := (.tmp 24)) (y := (.const (.int .i64 6))) rfl rfl rfl (p := (prt s i).k) (q := 6) HK.out _) ?_)
          | fail)
        have hk : ¬ (prt s i).k = 6 := by have := HK.out; simpa [bne] using this
        have em := ms_no hk
        exact ⟨⟨i + 1, by omega, by go_num, n, p5, c5, p6, c6, by rw [em]; exact HN.out, rfl, rfl, o5.congr (fun j _ => by unfold mF; rw [em]), o6.congr (fun j _ => by unfold mF; rw [em]), l5, l6, d56, by
          show (allF _ i && allF (pairB s t i) i) = true
          rw [HP.out, (allF_iff _ _).2 (fun x _ => pair_no hk x)]; rfl, hb⟩, by simp [intOf]; omega⟩
    · obtain rfl : i = 19 := by omega
      have ezz : z = true := by rw [EZ.out]; exact HP.out
      go_wp2_with fail
      go_ret
      exact ⟨by rw [ezz]; rfl, hb⟩
end Go.Proofs.Ytaeggclcjpcnoaa
