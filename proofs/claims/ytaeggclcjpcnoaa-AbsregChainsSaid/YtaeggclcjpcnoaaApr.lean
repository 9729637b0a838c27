/- AbsregChains: the registers of a pair. -/
import Derived.Test.YtaeggclcjpcnoaaAbg
import Derived.Test.YtaeggclcjpcnoaaAbe
import Derived.Test.YtaeggclcjpcnoaaAbh
import Derived.Test.YtaeggclcjpcnoaaInns
import Derived.Test.YtaeggclcjpcnoaaLtl
import Derived.Test.YtaeggclcjpcnoaaSc12
namespace Go.Proofs.Ytaeggclcjpcnoaa
open Go Go.RowKit
theorem post_cc {P : Program} {fn : Func} {R : Ending → World → Prop} {p q : Tmp} {T : TypeId} {a : Act} {w : World} (hr : fn.results = #[.cell p T, .cell q T]) (b c : Nat) (hp : a.tmps.getD p undef = .pointer (some ⟨b, 0, none⟩)) (hq : a.tmps.getD q undef = .pointer (some ⟨c, 0, none⟩))
    {n : Nat} {f g : Nat → Value} (hh : Has w b T n f) (hh2 : Has w c T n g) (hu : ∃ d, P.underlying T = some d ∧ d.isRow = true) (hi : (P.info? T).map (·.size) = some n)
    (hdef : a.defers = []) (hR : R (.returned (.tuple #[.agg (cellsOf f n), .agg (cellsOf g n)])) w) : bodyPost P fn R .ret a w := by
  obtain ⟨d, h1, h2⟩ := hu
  refine bodyPost_ret (v := .tuple #[.agg (cellsOf f n), .agg (cellsOf g n)]) ?_ hdef hR
  have hl1 := run_loadVar_row (P := P) w b T T (cellsOf f n) (0, 0) d hh.out h1 (by cases d <;> simp_all) (by rw [hi, size_cellsOf])
  have hl2 := run_loadVar_row (P := P) w c T T (cellsOf g n) (0, 0) d hh2.out h1 (by cases d <;> simp_all) (by rw [hi, size_cellsOf])
  have e : (results fn a.tmps).run P w = ((asAddr (a.tmps.getD p undef)).run P w).andThen fun x w1 => ((loadVar T x).run P w1).andThen fun v w2 => ((asAddr (a.tmps.getD q undef)).run P w2).andThen fun y w3 => ((loadVar T y).run P w3).andThen fun u w4 => .ok (.tuple #[v, u]) w4 := by
    simp only [results, hr]
    simp [Sem.run_bind, Result.andThen]
  rw [e, hp, hq]
  simp [asAddr, hl1, hl2]
/-- Two registers, and a number of each. -/
structure Pr where
  A : Ar
  B : Ar
  N : Nat → W
  M : Nat → W
def prC (p : Pr) (j : Nat) : Value := if j < 11 then arC p.A j else if j < 22 then arC p.B (j - 11) else if j < 24 then Q (p.N (j - 22)) else Q (p.M (j - 24))
theorem undPr : ∃ d, Try.prog.underlying 93 = some d ∧ d.isRow = true := row_ofN (by kernel_rfl)
theorem szPr : (Try.prog.info? 93).map (·.size) = some 26 := by kernel_rfl
/-- One of a pair: a number of a range that is one. -/
def kdA (a : Ar) : Ar := ⟨((rm a.k 7 : Nat) : Int), a.r, a.sl, a.id, a.lo, a.hi⟩
def rgP (a : Ar) (n : Nat → W) : Ar := ⟨((rm a.k 7 : Nat) : Int), joinR (cR (n 0)) (cR (n 1)), a.sl, a.id, a.lo, a.hi⟩
theorem und2q : Try.prog.underlying 23 = some (.array 2 22) := by kernel_rfl
theorem pr_A (p : Pr) (j : Nat) (hj : j < 11) : prC p (0 + j) = arC p.A j := by unfold prC; rw [Nat.zero_add, if_pos hj]
theorem pr_B (p : Pr) (j : Nat) (hj : j < 11) : prC p (11 + j) = arC p.B j := by unfold prC; rw [if_neg (by omega), if_pos (by omega), Nat.add_sub_cancel_left]
theorem kd_upd (a : Ar) (j : Nat) (hj : j < 11) : upd (arC a) 0 (.int .i64 ((rm a.k 7 : Nat) : Int)) j = arC (kdA a) j := by
  unfold upd
  by_cases h : j = 0
  · subst h; rfl
  · rw [if_neg h]; unfold kdA arC; split <;> first | rfl | (exfalso; exact h rfl)
theorem lay_rg (k sl id lo hi : Int) (r r2 : Rn) : ∀ (j : Nat), j < 11 → lay (arC ⟨k, r, sl, id, lo, hi⟩) 1 6 (rC r2) j = arC ⟨k, r2, sl, id, lo, hi⟩ j
  | 0, _ => rfl
  | 1, _ => rfl
  | 2, _ => rfl
  | 3, _ => rfl
  | 4, _ => rfl
  | 5, _ => rfl
  | 6, _ => rfl
  | 7, _ => rfl
  | 8, _ => rfl
  | 9, _ => rfl
  | 10, _ => rfl
  | n + 11, h => absurd h (by omega)
theorem rg_lay (a : Ar) (n : Nat → W) (j : Nat) (hj : j < 11) : lay (arC (kdA a)) 1 6 (rC (joinR (cR (n 0)) (cR (n 1)))) j = arC (rgP a n) j := lay_rg _ _ _ _ _ _ _ j hj
set_option maxRecDepth 100000 in
set_option maxHeartbeats 8000000 in
theorem Regs_any (p : Pr) (w : World) (N : Nat) (hN : Sz w N) : Calls Try.prog 49 #[.agg (cellsOf (prC p) 26)] w fun e w' => e = .returned (.tuple #[arV (rgP p.A p.N), arV (rgP p.B p.M)]) ∧ Below N w w' := by
  unfold arV
  go_enter Try.func49, Try.ntmps49
  go_upto_region 1 with (first
    | (refine wpl_box rfl 93 (.tmp 0) rfl 26 (prC p) rfl N hN ?_; intro w1 hN1 hb1 hz)
    | (refine wpl_alloc rfl 71 rfl 11 (arC zeroA) zeAr (N + 1) hN1 ?_; intro w2 hN2 hb2 h2; replace hz := hz.below hb2 (by omega); replace hb2 := hb1.trans (hb2.mono (by omega)); clear hb1 hN1)
    | (refine wpl_alloc rfl 71 rfl 11 (arC zeroA) zeAr (N + 1 + 1) hN2 ?_; intro w3 hN3 hb3 h3; replace hz := hz.below hb3 (by omega); replace h2 := h2.below hb3 (by omega); replace hb3 := hb2.trans (hb3.mono (by omega)); clear hb2 hN2)
    | fail)
  try simp only [Act.put, List.setIfInBounds_toArray, List.set_cons_succ, List.set_cons_zero]
  go_cut [4, 5] (fun v4 v5 wx => ∃ b4 b5, v4 = (Value.pointer (some ⟨b4, 0, none⟩)) ∧ v5 = (Value.pointer (some ⟨b5, 0, none⟩)) ∧ b4 ≠ b5 ∧ N + 3 ≤ b4 ∧ N + 3 ≤ b5 ∧ Has wx b4 71 11 (arC p.A) ∧ Has wx b5 71 11 (arC p.B) ∧ Has wx N 93 26 (prC p) ∧ Has wx (N + 1) 71 11 (arC zeroA) ∧ Has wx (N + 1 + 1) 71 11 (arC zeroA) ∧ Below N w wx)
  case first =>
    refine wp_region_inn (fun w' => Has w' N 93 26 (prC p)) hz.drew (by kernel_rfl) ?_
    have hne := inn_ne (I := fun w' => Has w' N 93 26 (prC p)) hz
    refine anyI_reads [0, 1, 2, 3] _ _ _ hz.drew (by kernel_rfl) (fun _ _ _ d _ h => by cases d <;> exact h) ?_
    simp only [pickO, List.map_cons, List.map_nil, List.getElem?_toArray, List.getElem?_cons_succ, List.getElem?_cons_zero, Option.getD_some, Act.put, List.setIfInBounds_toArray, List.set_cons_succ, List.set_cons_zero]
    go_big_quiet_step (fail)
    refine inn_val (fun x => run_rwP 71 (.tmp 6) rfl N 0 rfl 93 26 (prC p) x.h 11 (by omega) (arC p.A) (pr_A p) undAr szAr) (by rfl) ?_; simp only [Act.put, List.setIfInBounds_toArray, List.set_cons_succ, List.set_cons_zero]
    go_big_quiet_step (fail)
    refine inn_val (fun x => run_rwP 71 (.tmp 8) rfl N 11 rfl 93 26 (prC p) x.h 11 (by omega) (arC p.B) (pr_B p) undAr szAr) (by rfl) ?_; simp only [Act.put, List.setIfInBounds_toArray, List.set_cons_succ, List.set_cons_zero]
    refine wpQuiet_nil ?_
    clear hne
    obtain ⟨v0, ev⟩ : ∃ x, x = w3.drew := ⟨_, rfl⟩
    replace hz : Has v0 N 93 26 (prC p) := by rw [ev]; exact hz
    replace h2 : Has v0 (N + 1) 71 11 (arC zeroA) := by rw [ev]; exact h2
    replace h3 : Has v0 (N + 1 + 1) 71 11 (arC zeroA) := by rw [ev]; exact h3
    have hV0 : Sz v0 (N + 1 + 1 + 1) := by rw [ev]; exact hN3
    replace hb3 : Below N w v0 := by rw [ev]; exact hb3.drew
    rw [← ev]
    clear ev hN3
    refine anyI_two 4 5 _ _ _ _ (by kernel_rfl) ?_ ?_
    · simp only [List.filterMap_cons, List.filterMap_nil, List.getElem?_toArray, List.getElem?_cons_succ, List.getElem?_cons_zero]
      change wpList _ _ _ [_] _ _
      refine wpl_alloc rfl 71 rfl 11 (arC zeroA) zeAr (N + 1 + 1 + 1) hV0 ?_
      intro v1 hV1 hc1 k1
      replace hz := hz.below hc1 (by omega)
      replace h2 := h2.below hc1 (by omega)
      replace h3 := h3.below hc1 (by omega)
      replace hb3 := hb3.trans (hc1.mono (by omega))
      clear hV0 hc1
      refine ⟨hz, ?_⟩
      try simp only [Act.put, List.setIfInBounds_toArray, List.set_cons_succ, List.set_cons_zero, List.getElem_toArray, List.getElem_cons_succ, List.getElem_cons_zero]
      refine anyI_part [5, 6, 7] _ _ _ _ (by kernel_rfl) ?_
      simp only [List.filterMap_cons, List.filterMap_nil, List.getElem?_toArray, List.getElem?_cons_succ, List.getElem?_cons_zero]
      change wpList _ _ _ [_] _ _
      refine wpl_alloc rfl 71 rfl 11 (arC zeroA) zeAr (N + 1 + 1 + 1 + 1) hV1 ?_
      intro v2 hV2 hc2 k2
      replace hz := hz.below hc2 (by omega)
      replace h2 := h2.below hc2 (by omega)
      replace h3 := h3.below hc2 (by omega)
      replace hb3 := hb3.trans (hc2.mono (by omega))
      replace k1 := k1.below hc2 (by omega)
      clear hV1 hc2
      refine ⟨hz, ?_⟩
      change wpList _ _ _ [_] _ _
      refine wpl_store rfl 71 (.tmp 4) (.tmp 7) rfl (N + 1 + 1 + 1) 11 (arC p.A) rfl rfl 71 _ k1 szAr (fun j _ => arC_one _ j) ?_
      intro v3 t3 s3
      replace hz := hz.touch t3 (by omega)
      replace h2 := h2.touch t3 (by omega)
      replace h3 := h3.touch t3 (by omega)
      replace hb3 := t3.below hb3 (by omega)
      replace k2 := k2.touch t3 (by omega)
      clear k1 t3
      refine ⟨hz, ?_⟩
      change wpList _ _ _ [_] _ _
      refine wpl_store rfl 71 (.tmp 5) (.tmp 9) rfl (N + 1 + 1 + 1 + 1) 11 (arC p.B) rfl rfl 71 _ k2 szAr (fun j _ => arC_one _ j) ?_
      intro v4 t4 s4
      replace hz := hz.touch t4 (by omega)
      replace h2 := h2.touch t4 (by omega)
      replace h3 := h3.touch t4 (by omega)
      replace hb3 := t4.below hb3 (by omega)
      replace s3 := s3.touch t4 (by omega)
      clear k2 t4
      refine ⟨hz, ?_⟩
      change anyI _ _ _ _ _ _ _ _ _
      try simp only [Act.put, List.setIfInBounds_toArray, List.set_cons_succ, List.set_cons_zero, List.getElem_toArray, List.getElem_cons_succ, List.getElem_cons_zero]
      refine anyI_done (by kernel_rfl) ?_
      try simp only [Act.put, List.setIfInBounds_toArray, List.set_cons_succ, List.set_cons_zero, List.getElem_toArray, List.getElem_cons_succ, List.getElem_cons_zero]
      go_wp2_with fail
      go_meet
      exact ⟨N + 1 + 1 + 1, N + 1 + 1 + 1 + 1, rfl, rfl, by omega, by omega, by omega, s3, s4, hz, h2, h3, hb3⟩
    · simp only [List.filterMap_cons, List.filterMap_nil, List.getElem?_toArray, List.getElem?_cons_succ, List.getElem?_cons_zero]
      change wpList _ _ _ [_] _ _
      refine wpl_alloc rfl 71 rfl 11 (arC zeroA) zeAr (N + 1 + 1 + 1) hV0 ?_
      intro v1 hV1 hc1 k1
      replace hz := hz.below hc1 (by omega)
      replace h2 := h2.below hc1 (by omega)
      replace h3 := h3.below hc1 (by omega)
      replace hb3 := hb3.trans (hc1.mono (by omega))
      clear hV0 hc1
      refine ⟨hz, ?_⟩
      try simp only [Act.put, List.setIfInBounds_toArray, List.set_cons_succ, List.set_cons_zero, List.getElem_toArray, List.getElem_cons_succ, List.getElem_cons_zero]
      refine anyI_part [4, 6, 7] _ _ _ _ (by kernel_rfl) ?_
      simp only [List.filterMap_cons, List.filterMap_nil, List.getElem?_toArray, List.getElem?_cons_succ, List.getElem?_cons_zero]
      change wpList _ _ _ [_] _ _
      refine wpl_alloc rfl 71 rfl 11 (arC zeroA) zeAr (N + 1 + 1 + 1 + 1) hV1 ?_
      intro v2 hV2 hc2 k2
      replace hz := hz.below hc2 (by omega)
      replace h2 := h2.below hc2 (by omega)
      replace h3 := h3.below hc2 (by omega)
      replace hb3 := hb3.trans (hc2.mono (by omega))
      replace k1 := k1.below hc2 (by omega)
      clear hV1 hc2
      refine ⟨hz, ?_⟩
      change wpList _ _ _ [_] _ _
      refine wpl_store rfl 71 (.tmp 4) (.tmp 7) rfl (N + 1 + 1 + 1 + 1) 11 (arC p.A) rfl rfl 71 _ k2 szAr (fun j _ => arC_one _ j) ?_
      intro v3 t3 s3
      replace hz := hz.touch t3 (by omega)
      replace h2 := h2.touch t3 (by omega)
      replace h3 := h3.touch t3 (by omega)
      replace hb3 := t3.below hb3 (by omega)
      replace k1 := k1.touch t3 (by omega)
      clear k2 t3
      refine ⟨hz, ?_⟩
      change wpList _ _ _ [_] _ _
      refine wpl_store rfl 71 (.tmp 5) (.tmp 9) rfl (N + 1 + 1 + 1) 11 (arC p.B) rfl rfl 71 _ k1 szAr (fun j _ => arC_one _ j) ?_
      intro v4 t4 s4
      replace hz := hz.touch t4 (by omega)
      replace h2 := h2.touch t4 (by omega)
      replace h3 := h3.touch t4 (by omega)
      replace hb3 := t4.below hb3 (by omega)
      replace s3 := s3.touch t4 (by omega)
      clear k1 t4
      refine ⟨hz, ?_⟩
      change anyI _ _ _ _ _ _ _ _ _
      try simp only [Act.put, List.setIfInBounds_toArray, List.set_cons_succ, List.set_cons_zero, List.getElem_toArray, List.getElem_cons_succ, List.getElem_cons_zero]
      refine anyI_done (by kernel_rfl) ?_
      try simp only [Act.put, List.setIfInBounds_toArray, List.set_cons_succ, List.set_cons_zero, List.getElem_toArray, List.getElem_cons_succ, List.getElem_cons_zero]
      go_wp2_with fail
      go_meet
      exact ⟨N + 1 + 1 + 1 + 1, N + 1 + 1 + 1, rfl, rfl, by omega, by omega, by omega, s3, s4, hz, h2, h3, hb3⟩
  case rest =>
    clear hz h2 h3 hb3 hN3
    obtain ⟨b4, b5, rfl, rfl, n45, l4, l5, k4, k5, hz, h2, h3, hb⟩ := hcut
    obtain ⟨M, hM⟩ := sz_some wc
    have g4 := k4.ltN hM
    have g5 := k5.ltN hM
    go_upto_region 2 with fail
    refine wp_region_till 13 (fun w' => Has w' b5 71 11 (arC p.B)) (by kernel_rfl) ?_
    have hne := inn_ne (I := fun w' => Has w' b5 71 11 (arC p.B)) k5
    refine anyT_reads [5, 6, 7, 8, 9] _ _ _ k5.drew (by kernel_rfl) (fun _ _ _ d _ h => by cases d <;> exact h) ?_
    simp only [pickO, List.map_cons, List.map_nil, List.getElem?_toArray, List.getElem?_cons_succ, List.getElem?_cons_zero, Option.getD_some, Act.put, List.setIfInBounds_toArray, List.set_cons_succ, List.set_cons_zero]
    go_big_quiet_step (fail)
    refine inn_val (fun x => run_c1 3 (.tmp 15) rfl ⟨b5, 0, none⟩ rfl undInt rfl (x.h.cell (j := 0) (by omega))) (by rfl) ?_; simp only [Act.put, List.setIfInBounds_toArray, List.set_cons_succ, List.set_cons_zero]
    refine inn_val (fun x => run_iu (x := (.tmp 16)) (z := p.B.k) rfl undInt und64 rfl _) (by rfl) ?_; simp only [Act.put, List.setIfInBounds_toArray, List.set_cons_succ, List.set_cons_zero]
    refine inn_val (fun x => bin_rem _ (BitVec.ofInt 64 p.B.k) 7#64 (by decide) _ _ _ _ _ _ rfl rfl rfl) (by rfl) ?_; simp only [Act.put, List.setIfInBounds_toArray, List.set_cons_succ, List.set_cons_zero]
    refine inn_val (fun x => run_rm (x := (.tmp 18)) rfl und64 undInt (z := p.B.k) (m := 7) (by omega) rfl _) (by rfl) ?_; simp only [Act.put, List.setIfInBounds_toArray, List.set_cons_succ, List.set_cons_zero]
    refine wpQuiet_nil ?_
    clear hne
    obtain ⟨v0, ev⟩ : ∃ x, x = wc.drew := ⟨_, rfl⟩
    replace hz : Has v0 N 93 26 (prC p) := by rw [ev]; exact hz
    replace h2 : Has v0 (N + 1) 71 11 (arC zeroA) := by rw [ev]; exact h2
    replace h3 : Has v0 (N + 1 + 1) 71 11 (arC zeroA) := by rw [ev]; exact h3
    replace k4 : Has v0 b4 71 11 (arC p.A) := by rw [ev]; exact k4
    replace k5 : Has v0 b5 71 11 (arC p.B) := by rw [ev]; exact k5
    replace hM : Sz v0 M := by rw [ev]; exact hM
    replace hb : Below N w v0 := by rw [ev]; exact hb.drew
    rw [← ev]
    clear ev
    refine anyT_one 0 _ _ _ _ (by kernel_rfl) ?_
    simp only [List.filterMap_cons, List.filterMap_nil, List.getElem?_toArray, List.getElem?_cons_succ, List.getElem?_cons_zero]
    change wpList _ _ _ [_] _ _
    refine wpl_run rfl (.pointer (some ⟨b4, 0, none⟩)) _ (run_fa 71 (.tmp 4) 0 0 rfl rfl faAr0) ?_
    refine ⟨fun _ => k5, ?_⟩
    try simp only [Act.put, List.setIfInBounds_toArray, List.set_cons_succ, List.set_cons_zero, List.getElem_toArray, List.getElem_cons_succ, List.getElem_cons_zero]
    refine anyT_one 1 _ _ _ _ (by kernel_rfl) ?_
    simp only [List.filterMap_cons, List.filterMap_nil, List.getElem?_toArray, List.getElem?_cons_succ, List.getElem?_cons_zero]
    change wpList _ _ _ [_] _ _
    refine wpl_run rfl (.int .i64 p.A.k) _ (run_c1 3 (.tmp 10) rfl ⟨b4, 0, none⟩ rfl undInt rfl (k4.cell (j := 0) (by omega))) ?_
    refine ⟨fun _ => k5, ?_⟩
    try simp only [Act.put, List.setIfInBounds_toArray, List.set_cons_succ, List.set_cons_zero, List.getElem_toArray, List.getElem_cons_succ, List.getElem_cons_zero]
    refine anyT_one 2 _ _ _ _ (by kernel_rfl) ?_
    simp only [List.filterMap_cons, List.filterMap_nil, List.getElem?_toArray, List.getElem?_cons_succ, List.getElem?_cons_zero]
    change wpList _ _ _ [_] _ _
    refine wpl_run rfl _ _ (run_iu (x := (.tmp 11)) (z := p.A.k) rfl undInt und64 rfl _) ?_
    refine ⟨fun _ => k5, ?_⟩
    try simp only [Act.put, List.setIfInBounds_toArray, List.set_cons_succ, List.set_cons_zero, List.getElem_toArray, List.getElem_cons_succ, List.getElem_cons_zero]
    refine anyT_one 3 _ _ _ _ (by kernel_rfl) ?_
    simp only [List.filterMap_cons, List.filterMap_nil, List.getElem?_toArray, List.getElem?_cons_succ, List.getElem?_cons_zero]
    change wpList _ _ _ [_] _ _
    refine wpl_run rfl _ _ (bin_rem _ (BitVec.ofInt 64 p.A.k) 7#64 (by decide) _ _ _ _ _ _ rfl rfl rfl) ?_
    refine ⟨fun _ => k5, ?_⟩
    try simp only [Act.put, List.setIfInBounds_toArray, List.set_cons_succ, List.set_cons_zero, List.getElem_toArray, List.getElem_cons_succ, List.getElem_cons_zero]
    refine anyT_one 4 _ _ _ _ (by kernel_rfl) ?_
    simp only [List.filterMap_cons, List.filterMap_nil, List.getElem?_toArray, List.getElem?_cons_succ, List.getElem?_cons_zero]
    change wpList _ _ _ [_] _ _
    refine wpl_run rfl _ _ (run_rm (x := (.tmp 13)) rfl und64 undInt (z := p.A.k) (m := 7) (by omega) rfl _) ?_
    refine ⟨fun _ => k5, ?_⟩
    try simp only [Act.put, List.setIfInBounds_toArray, List.set_cons_succ, List.set_cons_zero, List.getElem_toArray, List.getElem_cons_succ, List.getElem_cons_zero]
    refine anyT_one 10 _ _ _ _ (by kernel_rfl) ?_
    simp only [List.filterMap_cons, List.filterMap_nil, List.getElem?_toArray, List.getElem?_cons_succ, List.getElem?_cons_zero]
    change wpList _ _ _ [_] _ _
    refine wpl_run rfl (.pointer (some ⟨b4, 0, none⟩)) _ (run_fa 71 (.tmp 4) 0 0 rfl rfl faAr0) ?_
    refine ⟨fun _ => k5, ?_⟩
    try simp only [Act.put, List.setIfInBounds_toArray, List.set_cons_succ, List.set_cons_zero, List.getElem_toArray, List.getElem_cons_succ, List.getElem_cons_zero]
    refine anyT_one 11 _ _ _ _ (by kernel_rfl) ?_
    simp only [List.filterMap_cons, List.filterMap_nil, List.getElem?_toArray, List.getElem?_cons_succ, List.getElem?_cons_zero]
    change wpList _ _ _ [_] _ _
    refine wpl_set rfl 3 (.tmp 20) (.tmp 14) rfl b4 0 rfl (.int .i64 ((rm p.A.k 7 : Nat) : Int)) rfl szI1 rfl rfl 71 11 _ k4 (by omega) ?_
    intro v1 t1 s1
    replace s1 := s1.congr (fun j hj => kd_upd p.A j hj)
    replace hz := hz.touch t1 (by omega)
    replace h2 := h2.touch t1 (by omega)
    replace h3 := h3.touch t1 (by omega)
    replace hb := t1.below hb (by omega)
    replace hM := t1.sz hM
    replace k5 := k5.touch t1 (by omega)
    clear k4 t1
    refine ⟨fun _ => k5, ?_⟩
    try simp only [Act.put, List.setIfInBounds_toArray, List.set_cons_succ, List.set_cons_zero, List.getElem_toArray, List.getElem_cons_succ, List.getElem_cons_zero]
    refine anyT_one 12 _ _ _ _ (by kernel_rfl) ?_
    simp only [List.filterMap_cons, List.filterMap_nil, List.getElem?_toArray, List.getElem?_cons_succ, List.getElem?_cons_zero]
    change wpList _ _ _ [_] _ _
    refine wpl_run rfl (.pointer (some ⟨b5, 0, none⟩)) _ (run_fa 71 (.tmp 5) 0 0 rfl rfl faAr0) ?_
    refine ⟨fun _ => k5, ?_⟩
    try simp only [Act.put, List.setIfInBounds_toArray, List.set_cons_succ, List.set_cons_zero, List.getElem_toArray, List.getElem_cons_succ, List.getElem_cons_zero]
    refine anyT_one 13 _ _ _ _ (by kernel_rfl) ?_
    simp only [List.filterMap_cons, List.filterMap_nil, List.getElem?_toArray, List.getElem?_cons_succ, List.getElem?_cons_zero]
    change wpList _ _ _ [_] _ _
    refine wpl_set rfl 3 (.tmp 21) (.tmp 19) rfl b5 0 rfl (.int .i64 ((rm p.B.k 7 : Nat) : Int)) rfl szI1 rfl rfl 71 11 _ k5 (by omega) ?_
    intro v2 t2 s2
    replace s2 := s2.congr (fun j hj => kd_upd p.B j hj)
    replace hz := hz.touch t2 (by omega)
    replace h2 := h2.touch t2 (by omega)
    replace h3 := h3.touch t2 (by omega)
    replace hb := t2.below hb (by omega)
    replace hM := t2.sz hM
    replace s1 := s1.touch t2 (by omega)
    clear k5 t2
    refine ⟨fun e => (by cases e), ?_⟩
    try simp only [Act.put, List.setIfInBounds_toArray, List.set_cons_succ, List.set_cons_zero, List.getElem_toArray, List.getElem_cons_succ, List.getElem_cons_zero]
    refine anyT_done (by kernel_rfl) ?_
    try simp only [Act.put, List.setIfInBounds_toArray, List.set_cons_succ, List.set_cons_zero, List.getElem_toArray, List.getElem_cons_succ, List.getElem_cons_zero]
    go_upto_region 3 with fail
    refine wp_region_later_tail M 9 (by kernel_rfl) (by kernel_rfl) ?_
    simp only [List.take_succ_cons, List.take_zero, List.drop_succ_cons, List.drop_zero]
    try simp only [pA]
    go_big_quiet_step (fail)
    go_big_quiet_step (fail)
    refine later_c1 hM 22 (.tmp 23) rfl (b := N) (k := 22) rfl und64 rfl (v := Q (p.N 0)) (hz.cell (j := 22) (by omega)) (by rfl) ?_; simp only [pA]
    go_big_quiet_step ((go_at_call 28; exact later_of hM _ (fun K hK hKN => SConst_any (p.N 0) _ K hK)))
    go_big_quiet_step (fail)
    go_big_quiet_step (fail)
    refine later_c1 hM 22 (.tmp 27) rfl (b := N) (k := 23) rfl und64 rfl (v := Q (p.N 1)) (hz.cell (j := 23) (by omega)) (by rfl) ?_; simp only [pA]
    go_big_quiet_step ((go_at_call 28; exact later_of hM _ (fun K hK hKN => SConst_any (p.N 1) _ K hK)))
    go_big_quiet_step ((go_at_call 29; exact later_of hM _ (fun K hK hKN => SJoin_any (cR (p.N 0)) (cR (p.N 1)) _ K hK)))
    refine wpQuiet_nil (laterE hM ?_)
    intro x5 M5 hx5 hM5 lM5
    replace hz := hz.below hx5 (by omega)
    replace h2 := h2.below hx5 (by omega)
    replace h3 := h3.below hx5 (by omega)
    replace s1 := s1.below hx5 (by omega)
    replace s2 := s2.below hx5 (by omega)
    replace hb := hb.trans (hx5.mono (by omega))
    clear hx5 hM
    have hM := hM5
    clear hM5
    go_upto_region 4 with (first | (refine wpl_store_part rfl 41 (.tmp 31) (.tmp 30) rfl b4 1 rfl 6 (rC (joinR (cR (p.N 0)) (cR (p.N 1)))) rfl 71 11 _ s1 (by omega) szR (fun j _ => rC_one _ j) ?_; intro y5 ty5 q5; replace q5 := q5.congr (fun j hj => rg_lay p.A p.N j hj); replace hz := hz.touch ty5 (by omega); replace h2 := h2.touch ty5 (by omega); replace h3 := h3.touch ty5 (by omega); replace hb := ty5.below hb (by omega); replace hM := ty5.sz hM; replace s2 := s2.touch ty5 (by omega); clear s1 ty5) | fail)
    refine wp_region_later_tail M5 9 (by kernel_rfl) (by kernel_rfl) ?_
    simp only [List.take_succ_cons, List.take_zero, List.drop_succ_cons, List.drop_zero]
    try simp only [pA]
    go_big_quiet_step (fail)
    go_big_quiet_step (fail)
    refine later_c1 hM 22 (.tmp 33) rfl (b := N) (k := 24) rfl und64 rfl (v := Q (p.M 0)) (hz.cell (j := 24) (by omega)) (by rfl) ?_; simp only [pA]
    go_big_quiet_step ((go_at_call 28; exact later_of hM _ (fun K hK hKN => SConst_any (p.M 0) _ K hK)))
    go_big_quiet_step (fail)
    go_big_quiet_step (fail)
    refine later_c1 hM 22 (.tmp 37) rfl (b := N) (k := 25) rfl und64 rfl (v := Q (p.M 1)) (hz.cell (j := 25) (by omega)) (by rfl) ?_; simp only [pA]
    go_big_quiet_step ((go_at_call 28; exact later_of hM _ (fun K hK hKN => SConst_any (p.M 1) _ K hK)))
    go_big_quiet_step ((go_at_call 29; exact later_of hM _ (fun K hK hKN => SJoin_any (cR (p.M 0)) (cR (p.M 1)) _ K hK)))
    refine wpQuiet_nil (laterE hM ?_)
    intro x6 M6 hx6 hM6 lM6
    replace hz := hz.below hx6 (by omega)
    replace h2 := h2.below hx6 (by omega)
    replace h3 := h3.below hx6 (by omega)
    replace q5 := q5.below hx6 (by omega)
    replace s2 := s2.below hx6 (by omega)
    replace hb := hb.trans (hx6.mono (by omega))
    clear hx6 hM
    have hM := hM6
    clear hM6
    go_upto_region 5 with (first | (refine wpl_store_part rfl 41 (.tmp 41) (.tmp 40) rfl b5 1 rfl 6 (rC (joinR (cR (p.M 0)) (cR (p.M 1)))) rfl 71 11 _ s2 (by omega) szR (fun j _ => rC_one _ j) ?_; intro y6 ty6 q6; replace q6 := q6.congr (fun j hj => rg_lay p.B p.M j hj); replace hz := hz.touch ty6 (by omega); replace h2 := h2.touch ty6 (by omega); replace h3 := h3.touch ty6 (by omega); replace hb := ty6.below hb (by omega); replace hM := ty6.sz hM; replace q5 := q5.touch ty6 (by omega); clear s2 ty6) | fail)
    refine wp_region_inn (fun w' => Has w' b4 71 11 (arC (rgP p.A p.N)) ∧ Has w' b5 71 11 (arC (rgP p.B p.M))) ⟨q5.drew, q6.drew⟩ (by kernel_rfl) ?_
    have hne := inn_ne (I := fun w' => Has w' b4 71 11 (arC (rgP p.A p.N)) ∧ Has w' b5 71 11 (arC (rgP p.B p.M))) ⟨q5, q6⟩
    refine anyI_reads [0, 1] _ _ _ ⟨q5.drew, q6.drew⟩ (by kernel_rfl) (fun _ _ _ d _ h => by cases d <;> exact h) ?_
    simp only [pickO, List.map_cons, List.map_nil, List.getElem?_toArray, List.getElem?_cons_succ, List.getElem?_cons_zero, Option.getD_some, Act.put, List.setIfInBounds_toArray, List.set_cons_succ, List.set_cons_zero]
    refine inn_val (fun x => run_ld 71 (.tmp 4) rfl b4 rfl 71 11 _ x.h.1 _ undAr.choose_spec.1 undAr.choose_spec.2 szAr) (by rfl) ?_; simp only [Act.put, List.setIfInBounds_toArray, List.set_cons_succ, List.set_cons_zero]
    refine inn_val (fun x => run_ld 71 (.tmp 5) rfl b5 rfl 71 11 _ x.h.2 _ undAr.choose_spec.1 undAr.choose_spec.2 szAr) (by rfl) ?_; simp only [Act.put, List.setIfInBounds_toArray, List.set_cons_succ, List.set_cons_zero]
    refine wpQuiet_nil ?_
    clear hne
    obtain ⟨v7, ev⟩ : ∃ x, x = y6.drew := ⟨_, rfl⟩
    replace h2 : Has v7 (N + 1) 71 11 (arC zeroA) := by rw [ev]; exact h2
    replace h3 : Has v7 (N + 1 + 1) 71 11 (arC zeroA) := by rw [ev]; exact h3
    replace q5 : Has v7 b4 71 11 (arC (rgP p.A p.N)) := by rw [ev]; exact q5
    replace q6 : Has v7 b5 71 11 (arC (rgP p.B p.M)) := by rw [ev]; exact q6
    replace hb : Below N w v7 := by rw [ev]; exact hb.drew
    rw [← ev]
    clear ev hz hM
    refine anyI_part [2, 3] _ _ _ _ (by kernel_rfl) ?_
    simp only [List.filterMap_cons, List.filterMap_nil, List.getElem?_toArray, List.getElem?_cons_succ, List.getElem?_cons_zero]
    change wpList _ _ _ [_] _ _
    refine wpl_store rfl 71 (.tmp 2) (.tmp 42) rfl (N + 1) 11 (arC (rgP p.A p.N)) rfl rfl 71 _ h2 szAr (fun j _ => arC_one _ j) ?_
    intro v8 t8 s8
    replace q5 := q5.touch t8 (by omega)
    replace q6 := q6.touch t8 (by omega)
    replace hb := t8.below hb (by omega)
    replace h3 := h3.touch t8 (by omega)
    clear h2 t8
    refine ⟨⟨q5, q6⟩, ?_⟩
    change wpList _ _ _ [_] _ _
    refine wpl_store rfl 71 (.tmp 3) (.tmp 43) rfl (N + 1 + 1) 11 (arC (rgP p.B p.M)) rfl rfl 71 _ h3 szAr (fun j _ => arC_one _ j) ?_
    intro v9 t9 s9
    replace q5 := q5.touch t9 (by omega)
    replace q6 := q6.touch t9 (by omega)
    replace hb := t9.below hb (by omega)
    replace s8 := s8.touch t9 (by omega)
    clear h3 t9
    refine ⟨⟨q5, q6⟩, ?_⟩
    change anyI _ _ _ _ _ _ _ _ _
    try simp only [Act.put, List.setIfInBounds_toArray, List.set_cons_succ, List.set_cons_zero, List.getElem_toArray, List.getElem_cons_succ, List.getElem_cons_zero]
    refine anyI_done (by kernel_rfl) ?_
    try simp only [Act.put, List.setIfInBounds_toArray, List.set_cons_succ, List.set_cons_zero, List.getElem_toArray, List.getElem_cons_succ, List.getElem_cons_zero]
    go_wp2_with fail
    exact post_cc rfl (N + 1) (N + 1 + 1) rfl rfl s8 s9 undAr szAr rfl ⟨rfl, hb⟩
end Go.Proofs.Ytaeggclcjpcnoaa
