/- The law LamportSigns: its walk. -/
import Derived.Test.YtneffelpdaigoaaDoorLaw12
namespace Go.Proofs.YtneffelpdaigoaaDoor
open Go Go.RowKit Sha
theorem zer39s : (Tryd.prog.info? 39).map (fun i => (i.zero, i.size)) = some (some (.agg (cellsOf (rtK 0 0) 72)), 72) := zer39
set_option maxRecDepth 100000 in
set_option maxHeartbeats 1000000 in
theorem law_lsigns (p : Option Addr) (n cap : Nat) (D s : Nat → BitVec 8) (w : World) (N : Nat) (hN : Sz w N) (hT : Tabs w) (hcap : n ≤ cap) (hD : Bytes w p n D) :
    Calls Tryd.prog 7 #[.slice p n cap, .agg (cellsOf (fun j => By (s j)) 32)] w fun e w' => e = .returned (.bool true) ∧ Below N w w' := by
  have hTN := hT.ltN hN
  obtain ⟨fs, hfs⟩ := und39
  obtain ⟨c, hc⟩ : ∃ c, c = min n 40 := ⟨_, rfl⟩
  have Hc := hid hc
  have hc1 : c ≤ n := by omega
  have hc2 : c ≤ 40 := by omega
  clear hc
  have hsl : ∀ w, (Instr.sliceAt 22 (.slice p n cap) none (some (.int .i64 (c : Int))) none).run Tryd.prog w = .ok (.slice p c cap) w := run_cut_head 22 5 und22 inf5 p n cap c (by omega)
  have hDc : Bytes w p c D := fun h0 => by
    obtain ⟨bb, off, e, h⟩ := hD (by omega)
    exact ⟨bb, off, e, fun j hj => h j (by omega)⟩
  go_enter Tryd.func7, Tryd.ntmps7
  go_wp2_with (first
    | (refine wpl_box rfl 23 (.tmp 1) rfl 32 _ rfl N hN ?_; intro w1 hN1 hb1 h1)
    | (refine wpl_lit0 rfl 22 5 rfl und22 inf5 (N + 1) hN1 (fun j => By (D j)) ?_; intro w2 hN2 hb2 h2; have hD2 := (hDc.below hN hb1).below hN1 hb2)
    | (refine wpl_min rfl (.tmp 12) (.const (.int .i64 40)) 3 rfl n 40 c rfl rfl Hc ?_)
    | (refine wpl_app rfl (.tmp 9) (.tmp 14) 22 rfl 5 und22 one5 _ 0 0 rfl _ h2 p c cap rfl (fun j => By (D j)) (bytes_cells hD2) (fun _ _ => rfl) (by omega) ?_; intro p3 c3 w3 o3 g3 k3 n3; rw [Nat.zero_add] at o3; have o3' := o3.congr (f' := fun j => By (D j)) (fun j hj => by simp only [cat]; rw [if_neg (by omega), Nat.sub_zero]); have b3 := g3.below ((Below.refl (N + 1) w1).trans hb2) (by have e : w2.heap.size = N + 1 + 1 := hN2; omega) (fun g hg => by simp [blk] at hg; omega); obtain ⟨M3, hM3⟩ := sz_some w3; have hMN3 := below_sz b3 hN1 hM3; have hB3 := own_bytes o3'; have hcv3 := run_string (P := Tryd.prog) w3 22 9 5 und22 und5 und9 p3 c c3 D o3'.ats)
    | (go_at_call 24; refine (Make_any w3 M3 hM3).mono ?_; rintro e w4 ⟨rfl, hb4⟩; obtain ⟨M4, hM4⟩ := sz_some w4; have hMM4 := below_sz hb4 hM3 hM4)
    | (refine wpl_alloc rfl 39 rfl 72 _ zer39 M4 hM4 ?_; intro w5 hM5 hb5 h5)
    | (refine wpl_store rfl 39 (.tmp 6) (.tmp 18) rfl M4 72 _ rfl rfl 39 _ h5 inf39 (fun j _ => one_rt j) ?_; intro w6 ht6 h6)
    | fail)
  have b6 : Below M3 w3 w6 := ht6.below (hb4.trans (hb5.mono (by omega))) (by omega)
  have q6 := b3.trans (b6.mono hMN3)
  have hM6 := ht6.sz hM5
  have h16 := h1.below q6 (by omega)
  have hB6 := hB3.below hM3 b6
  have hle := o3'.le
  have bN6 := hb1.trans (q6.mono (by omega))
  have hT6 := hT.below bN6 hTN
  have I6 : Below (M4 + 1) w6 w6 := Below.refl _ _
  clear hb4 hb5 h5 ht6 b6 q6 hb1 hb2 hcv3 o3' o3 g3 k3 n3 h2 hD2 hsl h1 hB3
  try simp only [Act.put, List.setIfInBounds_toArray, List.set_cons_succ, List.set_cons_zero, List.getElem_toArray, List.getElem_cons_succ, List.getElem_cons_zero]
  refine wp_mid (fun a (x : Nat × Option Addr × Nat) => (((((((a.put (some 19) (.slice p3 c c3)).put (some 20) (.agg (cellsOf (fun j => By (keyD c D j)) 32))).put (some 21) (.slice p3 c c3)).put (some 22) (.agg (cellsOf (fun j => By (s j)) 32))).put (some 23) (.slice x.2.1 2048 x.2.2)).put (some 7) (.pointer (some ⟨x.1, 0, none⟩))).put (some 8) (.slice x.2.1 2048 x.2.2)))
    (fun x w' => Has w' x.1 23 32 (fun j => By (keyD c D j)) ∧ Own w' 5 x.2.1 2048 x.2.2 (fun j => By (sigD c D s j)) ∧ Below (M4 + 1) w6 w') ?_ ?_
  · refine wp_region_inn (fun w' => Below (M4 + 1) w6 w') I6.drew (by kernel_rfl) ?_
    have hne := inn_ne (I := fun w' => Below (M4 + 1) w6 w') I6
    refine anyI_reads [0, 2, 3] _ _ _ I6.drew (by kernel_rfl) (fun _ _ _ d _ h => by obtain ⟨h, _⟩ := h; cases h) ?_
    simp only [pickO, List.map_cons, List.map_nil, List.getElem?_toArray, List.getElem?_cons_succ, List.getElem?_cons_zero, Option.getD_some, Act.put, List.setIfInBounds_toArray, List.set_cons_succ, List.set_cons_zero]
    repeat first
      | (refine inn_val (fun x => run_ld 23 (.tmp 3) rfl N rfl 23 32 _ (h16.below x.h (by omega)) _ und23 rfl inf23) (by rfl) ?_; simp only [Act.put, List.setIfInBounds_toArray, List.set_cons_succ, List.set_cons_zero])
      | go_big_quiet_step (fail)
    refine wpQuiet_nil ?_
    clear hne
    refine anyI_two 1 5 _ _ _ _ (by kernel_rfl) ?_ ?_
    · simp only [List.filterMap_cons, List.filterMap_nil, List.getElem?_toArray, List.getElem?_cons_succ, List.getElem?_cons_zero]
      go_wp2_with fail
      refine (Key_any p3 c c3 D w6.drew (M4 + 1) (show Sz w6.drew (M4 + 1) from hM6) (hT6.below I6.drew (hT6.ltN hM6)) hle (by omega) (hB6.below hM6 I6.drew)).mono ?_
      rintro e x1 ⟨rfl, hb1⟩
      obtain ⟨X1, hX1⟩ := sz_some x1
      have lX1 := below_sz hb1 (show Sz w6.drew (M4 + 1) from hM6) hX1
      have b1 := I6.drew.trans (hb1.mono (Nat.le_refl (M4 + 1)))
      have le1 := Nat.le_trans (Nat.le_refl (M4 + 1)) lX1
      dsimp only
      go_step
      refine ⟨b1, ?_⟩
      change anyI _ _ _ _ _ _ _ _ _
      try simp only [Act.put, List.setIfInBounds_toArray, List.set_cons_succ, List.set_cons_zero, List.getElem_toArray, List.getElem_cons_succ, List.getElem_cons_zero]
      refine anyI_two 4 5 _ _ _ _ (by kernel_rfl) ?_ ?_
      · simp only [List.filterMap_cons, List.filterMap_nil, List.getElem?_toArray, List.getElem?_cons_succ, List.getElem?_cons_zero]
        go_wp2_with fail
        refine (Sign_any p3 c c3 D s x1 X1 hX1 (hT6.below b1 (hT6.ltN hM6)) hle (by omega) (hB6.below hM6 b1)).mono ?_
        rintro e x2 ⟨ps, cs, rfl, os2, hps, hb2⟩
        obtain ⟨X2, hX2⟩ := sz_some x2
        have lX2 := below_sz hb2 hX1 hX2
        have b2 := b1.trans (hb2.mono le1)
        have le2 := Nat.le_trans le1 lX2
        dsimp only
        go_step
        refine ⟨b2, ?_⟩
        change anyI _ _ _ _ _ _ _ _ _
        try simp only [Act.put, List.setIfInBounds_toArray, List.set_cons_succ, List.set_cons_zero, List.getElem_toArray, List.getElem_cons_succ, List.getElem_cons_zero]
        refine anyI_part [5, 6, 7] _ _ _ _ (by kernel_rfl) ?_
        simp only [List.filterMap_cons, List.filterMap_nil, List.getElem?_toArray, List.getElem?_cons_succ, List.getElem?_cons_zero]
        change wpList _ _ _ [_] _ _
        refine wpl_alloc rfl 23 rfl 32 _ zer23 X2 hX2 ?_
        intro x3 hX3 hb3 has3
        have b3 := b2.trans (hb3.mono le2)
        have le3 := Nat.le_succ_of_le le2
        have hne3 : ∀ g, blk ps = some g → g ≠ X2 := fun g hg => by have := os2.lt g hg; have e : (x2).heap.size = X2 := hX2; omega
        have os3 := os2.below hb3 (Nat.le_of_eq hX2)
        refine ⟨b3, ?_⟩
        change wpList _ _ _ [_] _ _
        refine wpl_store rfl 23 (.tmp 7) (.tmp 20) rfl X2 32 _ rfl rfl 23 _ has3 inf23 (fun _ _ => rfl) ?_
        intro x4 ht4 has4
        have b4 := ht4.below b3 (by omega)
        have os4 := os3.touch ht4 hne3
        refine ⟨b4, ?_⟩
        change wpList _ _ _ [_] _ _
        refine wpl_pure rfl (v := .slice ps 2048 cs) (by intro w; rfl) ?_
        refine ⟨b4, ?_⟩
        change anyI _ _ _ _ _ _ _ _ _
        try simp only [Act.put, List.setIfInBounds_toArray, List.set_cons_succ, List.set_cons_zero, List.getElem_toArray, List.getElem_cons_succ, List.getElem_cons_zero]
        refine anyI_done (by kernel_rfl) ?_
        try simp only [Act.put, List.setIfInBounds_toArray, List.set_cons_succ, List.set_cons_zero, List.getElem_toArray, List.getElem_cons_succ, List.getElem_cons_zero]
        exact ⟨trivial, (X2, ps, cs), rfl, has4, os4, b4⟩
      · simp only [List.filterMap_cons, List.filterMap_nil, List.getElem?_toArray, List.getElem?_cons_succ, List.getElem?_cons_zero]
        refine wpl_alloc rfl 23 rfl 32 _ zer23 X1 hX1 ?_
        intro x2 hX2 hb2 has2
        have b2 := b1.trans (hb2.mono le1)
        have le2 := Nat.le_succ_of_le le1
        refine ⟨b2, ?_⟩
        change anyI _ _ _ _ _ _ _ _ _
        try simp only [Act.put, List.setIfInBounds_toArray, List.set_cons_succ, List.set_cons_zero, List.getElem_toArray, List.getElem_cons_succ, List.getElem_cons_zero]
        refine anyI_part [4, 6, 7] _ _ _ _ (by kernel_rfl) ?_
        simp only [List.filterMap_cons, List.filterMap_nil, List.getElem?_toArray, List.getElem?_cons_succ, List.getElem?_cons_zero]
        change wpList _ _ _ [_] _ _
        go_wp2_with fail
        refine (Sign_any p3 c c3 D s x2 (X1 + 1) hX2 (hT6.below b2 (hT6.ltN hM6)) hle (by omega) (hB6.below hM6 b2)).mono ?_
        rintro e x3 ⟨ps, cs, rfl, os3, hps, hb3⟩
        obtain ⟨X3, hX3⟩ := sz_some x3
        have lX3 := below_sz hb3 hX2 hX3
        have b3 := b2.trans (hb3.mono le2)
        have le3 := Nat.le_trans le2 lX3
        have has3 := has2.below hb3 (by omega)
        have hne3 : ∀ g, blk ps = some g → g ≠ X1 := fun g hg => by have := hps g hg; omega
        dsimp only
        go_step
        refine ⟨b3, ?_⟩
        change wpList _ _ _ [_] _ _
        refine wpl_store rfl 23 (.tmp 7) (.tmp 20) rfl X1 32 _ rfl rfl 23 _ has3 inf23 (fun _ _ => rfl) ?_
        intro x4 ht4 has4
        have b4 := ht4.below b3 (by omega)
        have os4 := os3.touch ht4 hne3
        refine ⟨b4, ?_⟩
        change wpList _ _ _ [_] _ _
        refine wpl_pure rfl (v := .slice ps 2048 cs) (by intro w; rfl) ?_
        refine ⟨b4, ?_⟩
        change anyI _ _ _ _ _ _ _ _ _
        try simp only [Act.put, List.setIfInBounds_toArray, List.set_cons_succ, List.set_cons_zero, List.getElem_toArray, List.getElem_cons_succ, List.getElem_cons_zero]
        refine anyI_done (by kernel_rfl) ?_
        try simp only [Act.put, List.setIfInBounds_toArray, List.set_cons_succ, List.set_cons_zero, List.getElem_toArray, List.getElem_cons_succ, List.getElem_cons_zero]
        exact ⟨trivial, (X1, ps, cs), rfl, has4, os4, b4⟩
    · simp only [List.filterMap_cons, List.filterMap_nil, List.getElem?_toArray, List.getElem?_cons_succ, List.getElem?_cons_zero]
      refine wpl_alloc rfl 23 rfl 32 _ zer23 (M4 + 1) (show Sz w6.drew (M4 + 1) from hM6) ?_
      intro x1 hX1 hb1 has1
      have b1 := I6.drew.trans (hb1.mono (Nat.le_refl (M4 + 1)))
      have le1 := Nat.le_succ_of_le (Nat.le_refl (M4 + 1))
      refine ⟨b1, ?_⟩
      change anyI _ _ _ _ _ _ _ _ _
      try simp only [Act.put, List.setIfInBounds_toArray, List.set_cons_succ, List.set_cons_zero, List.getElem_toArray, List.getElem_cons_succ, List.getElem_cons_zero]
      refine anyI_part [1, 4, 6, 7] _ _ _ _ (by kernel_rfl) ?_
      simp only [List.filterMap_cons, List.filterMap_nil, List.getElem?_toArray, List.getElem?_cons_succ, List.getElem?_cons_zero]
      change wpList _ _ _ [_] _ _
      go_wp2_with fail
      refine (Key_any p3 c c3 D x1 ((M4 + 1) + 1) hX1 (hT6.below b1 (hT6.ltN hM6)) hle (by omega) (hB6.below hM6 b1)).mono ?_
      rintro e x2 ⟨rfl, hb2⟩
      obtain ⟨X2, hX2⟩ := sz_some x2
      have lX2 := below_sz hb2 hX1 hX2
      have b2 := b1.trans (hb2.mono le1)
      have le2 := Nat.le_trans le1 lX2
      have has2 := has1.below hb2 (by omega)
      dsimp only
      go_step
      refine ⟨b2, ?_⟩
      change wpList _ _ _ [_] _ _
      go_wp2_with fail
      refine (Sign_any p3 c c3 D s x2 X2 hX2 (hT6.below b2 (hT6.ltN hM6)) hle (by omega) (hB6.below hM6 b2)).mono ?_
      rintro e x3 ⟨ps, cs, rfl, os3, hps, hb3⟩
      obtain ⟨X3, hX3⟩ := sz_some x3
      have lX3 := below_sz hb3 hX2 hX3
      have b3 := b2.trans (hb3.mono le2)
      have le3 := Nat.le_trans le2 lX3
      have has3 := has2.below hb3 (by omega)
      have hne3 : ∀ g, blk ps = some g → g ≠ (M4 + 1) := fun g hg => by have := hps g hg; omega
      dsimp only
      go_step
      refine ⟨b3, ?_⟩
      change wpList _ _ _ [_] _ _
      refine wpl_store rfl 23 (.tmp 7) (.tmp 20) rfl (M4 + 1) 32 _ rfl rfl 23 _ has3 inf23 (fun _ _ => rfl) ?_
      intro x4 ht4 has4
      have b4 := ht4.below b3 (by omega)
      have os4 := os3.touch ht4 hne3
      refine ⟨b4, ?_⟩
      change wpList _ _ _ [_] _ _
      refine wpl_pure rfl (v := .slice ps 2048 cs) (by intro w; rfl) ?_
      refine ⟨b4, ?_⟩
      change anyI _ _ _ _ _ _ _ _ _
      try simp only [Act.put, List.setIfInBounds_toArray, List.set_cons_succ, List.set_cons_zero, List.getElem_toArray, List.getElem_cons_succ, List.getElem_cons_zero]
      refine anyI_done (by kernel_rfl) ?_
      try simp only [Act.put, List.setIfInBounds_toArray, List.set_cons_succ, List.set_cons_zero, List.getElem_toArray, List.getElem_cons_succ, List.getElem_cons_zero]
      exact ⟨trivial, ((M4 + 1), ps, cs), rfl, has4, os4, b4⟩
  · rintro ⟨gk, ps, cs⟩ w7 ⟨hk7, os7, b7⟩
    dsimp only at hk7 os7
    dsimp only
    try simp only [Act.put, List.setIfInBounds_toArray, List.set_cons_succ, List.set_cons_zero, List.getElem_toArray, List.getElem_cons_succ, List.getElem_cons_zero]
    obtain ⟨M7, hM7⟩ := sz_some w7
    have hM47 := below_sz b7 hM6 hM7
    have h17 := h16.below b7 (by omega)
    have h67 := h6.below b7 (by omega)
    have hB7 := hB6.below hM6 b7
    have hT7 := hT6.below b7 (hT6.ltN hM6)
    have bN7 := bN6.trans (b7.mono (by have := h16.ltN hM6; omega))
    have hNM7 : N ≤ M7 := Nat.le_trans (below_le bN7 hN) (Nat.le_of_eq hM7)
    have hos := own_bytes os7
    have hole := os7.le
    have heq := run_eq_same (P := Tryd.prog) 23 5 32 und23 und5 inf5 cof5 (keyD c D)
    have HEQ := hid heq
    clear heq I6 b7
    go_wp2_with fail
    refine wp_region_inn (fun w' => Below M7 w7 w') (Below.refl M7 w7).drew (by kernel_rfl) ?_
    have hne := inn_ne (I := fun w' => Below M7 w7 w') (Below.refl M7 w7)
    have hcs : ∀ x : Inn (fun w' => Below M7 w7 w'), (convert 22 9 (.slice ps 2048 cs)).run Tryd.prog x.w' = .ok (.string (strOf (sigD c D s) 2048)) x.w' := fun x => run_string (P := Tryd.prog) x.w' 22 9 5 und22 und5 und9 ps 2048 cs (sigD c D s) (hos.below hM7 x.h)
    have hcd : ∀ x : Inn (fun w' => Below M7 w7 w'), (convert 22 9 (.slice p3 c c3)).run Tryd.prog x.w' = .ok (.string (strOf D c)) x.w' := fun x => run_string (P := Tryd.prog) x.w' 22 9 5 und22 und5 und9 p3 c c3 D (hB7.below hM7 x.h)
    refine anyI_part [0, 1] _ _ _ _ (by kernel_rfl) ?_
    simp only [List.filterMap_cons, List.filterMap_nil, List.getElem?_toArray, List.getElem?_cons_succ, List.getElem?_cons_zero]
    change wpList _ _ _ [_] _ _
    go_wp2_with fail
    refine (signs_any w7.drew M7 (by exact hM7) (by exact hT7.drew)).mono ?_
    rintro e w8 ⟨rfl, hb8⟩
    have b8 : Below M7 w7 w8 := mod_belowdrew hb8
    dsimp only
    go_step
    refine ⟨b8, ?_⟩
    change wpList _ _ _ [_] _ _
    refine wpl_pure rfl (v := .bool true) (by intro w; rfl) ?_
    refine ⟨b8, ?_⟩
    change anyI _ _ _ _ _ _ _ _ _
    try simp only [Act.put, List.setIfInBounds_toArray, List.set_cons_succ, List.set_cons_zero, List.getElem_toArray, List.getElem_cons_succ, List.getElem_cons_zero]
    refine anyI_reads [2, 3, 4] _ _ _ b8 (by kernel_rfl) (fun _ _ _ d _ h => by cases d <;> exact h) ?_
    simp only [pickO, List.map_cons, List.map_nil, List.getElem?_toArray, List.getElem?_cons_succ, List.getElem?_cons_zero, Option.getD_some]
    repeat first
      | (refine inn_val (fun x => run_ld 23 (.tmp 3) rfl N rfl 23 32 _ (h17.below x.h (h17.ltN hM7)) _ und23 rfl inf23) (by rfl) ?_; simp only [Act.put, List.setIfInBounds_toArray, List.set_cons_succ, List.set_cons_zero])
      | (refine inn_val (fun x => run_ld 23 (.tmp 7) rfl gk rfl 23 32 _ (hk7.below x.h (hk7.ltN hM7)) _ und23 rfl inf23) (by rfl) ?_; simp only [Act.put, List.setIfInBounds_toArray, List.set_cons_succ, List.set_cons_zero])
      | (refine inn_val (fun x => run_ld 39 (.tmp 6) rfl M4 rfl 39 72 _ (h67.below x.h (h67.ltN hM7)) _ hfs rfl inf39) (by rfl) ?_; simp only [Act.put, List.setIfInBounds_toArray, List.set_cons_succ, List.set_cons_zero])
      | (refine inn_val (fun x => run_eql_op 23 23 (.tmp 26) (.tmp 29) rfl _ _ rfl rfl true (by kernel_rfl) (HEQ.out x.w')) (by rfl) ?_; simp only [Act.put, List.setIfInBounds_toArray, List.set_cons_succ, List.set_cons_zero])
      | go_big_quiet_step (fail)
    refine wpQuiet_nil ?_
    refine anyI_part [5] _ _ _ _ (by kernel_rfl) ?_
    simp only [List.filterMap_cons, List.filterMap_nil, List.getElem?_toArray, List.getElem?_cons_succ, List.getElem?_cons_zero]
    change wpList _ _ _ [_] _ _
    refine wpl_want (by rfl) ?_
    obtain ⟨M8, hM8⟩ := sz_some w8
    have hMM8 := below_sz b8 hM7 hM8
    go_wp2_with fail
    refine (RKey_any p3 c c3 D w8 M8 hM8 hle (by omega) (hB7.below hM7 b8)).mono ?_
    rintro e w9 ⟨rfl, hb9⟩
    have b9 := b8.trans (hb9.mono hMM8)
    dsimp only
    go_step
    refine ⟨b9, ?_⟩
    change anyI _ _ _ _ _ _ _ _ _
    try simp only [Act.put, List.setIfInBounds_toArray, List.set_cons_succ, List.set_cons_zero, List.getElem_toArray, List.getElem_cons_succ, List.getElem_cons_zero]
    refine anyI_reads [6, 7, 8, 9, 10, 11, 12, 13] _ _ _ b9 (by kernel_rfl) (fun _ _ _ d _ h => by cases d <;> exact h) ?_
    simp only [pickO, List.map_cons, List.map_nil, List.getElem?_toArray, List.getElem?_cons_succ, List.getElem?_cons_zero, Option.getD_some]
    repeat first
      | (refine inn_val (fun x => run_ld 23 (.tmp 3) rfl N rfl 23 32 _ (h17.below x.h (h17.ltN hM7)) _ und23 rfl inf23) (by rfl) ?_; simp only [Act.put, List.setIfInBounds_toArray, List.set_cons_succ, List.set_cons_zero])
      | (refine inn_val (fun x => run_ld 23 (.tmp 7) rfl gk rfl 23 32 _ (hk7.below x.h (hk7.ltN hM7)) _ und23 rfl inf23) (by rfl) ?_; simp only [Act.put, List.setIfInBounds_toArray, List.set_cons_succ, List.set_cons_zero])
      | (refine inn_val (fun x => run_ld 39 (.tmp 6) rfl M4 rfl 39 72 _ (h67.below x.h (h67.ltN hM7)) _ hfs rfl inf39) (by rfl) ?_; simp only [Act.put, List.setIfInBounds_toArray, List.set_cons_succ, List.set_cons_zero])
      | (refine inn_val (fun x => run_eql_op 23 23 (.tmp 26) (.tmp 29) rfl _ _ rfl rfl true (by kernel_rfl) (HEQ.out x.w')) (by rfl) ?_; simp only [Act.put, List.setIfInBounds_toArray, List.set_cons_succ, List.set_cons_zero])
      | go_big_quiet_step (fail)
    refine wpQuiet_nil ?_
    refine anyI_part [14, 15] _ _ _ _ (by kernel_rfl) ?_
    simp only [List.filterMap_cons, List.filterMap_nil, List.getElem?_toArray, List.getElem?_cons_succ, List.getElem?_cons_zero]
    change wpList _ _ _ [_] _ _
    refine wpl_want (by rfl) ?_
    obtain ⟨M9, hM9⟩ := sz_some w9
    have hMM9 := below_sz b9 hM7 hM9
    go_wp2_with fail
    refine (RSign_any p3 c c3 D s w9 M9 hM9 hle (by omega) (hB7.below hM7 b9)).mono ?_
    rintro e w10 ⟨pn, cn, rfl, on, _, hb10⟩
    have b10 := b9.trans (hb10.mono hMM9)
    dsimp only
    go_step
    refine ⟨b10, ?_⟩
    change wpList _ _ _ [_] _ _
    refine wpl_want (by rfl) ?_
    refine wpl_conv rfl 22 9 (.tmp 38) rfl _ (.string (strOf (sigD c D s) 2048)) rfl (run_string (P := Tryd.prog) w10 22 9 5 und22 und5 und9 pn 2048 cn (sigD c D s) on.ats) ?_
    refine ⟨b10, ?_⟩
    change anyI _ _ _ _ _ _ _ _ _
    try simp only [Act.put, List.setIfInBounds_toArray, List.set_cons_succ, List.set_cons_zero, List.getElem_toArray, List.getElem_cons_succ, List.getElem_cons_zero]
    refine anyI_reads [16, 17, 18, 19, 20, 21] _ _ _ b10 (by kernel_rfl) (fun _ _ _ d _ h => by cases d <;> exact h) ?_
    simp only [pickO, List.map_cons, List.map_nil, List.getElem?_toArray, List.getElem?_cons_succ, List.getElem?_cons_zero, Option.getD_some]
    repeat first
      | (refine inn_val (fun x => run_ld 23 (.tmp 3) rfl N rfl 23 32 _ (h17.below x.h (h17.ltN hM7)) _ und23 rfl inf23) (by rfl) ?_; simp only [Act.put, List.setIfInBounds_toArray, List.set_cons_succ, List.set_cons_zero])
      | (refine inn_val (fun x => run_ld 23 (.tmp 7) rfl gk rfl 23 32 _ (hk7.below x.h (hk7.ltN hM7)) _ und23 rfl inf23) (by rfl) ?_; simp only [Act.put, List.setIfInBounds_toArray, List.set_cons_succ, List.set_cons_zero])
      | (refine inn_val (fun x => run_ld 39 (.tmp 6) rfl M4 rfl 39 72 _ (h67.below x.h (h67.ltN hM7)) _ hfs rfl inf39) (by rfl) ?_; simp only [Act.put, List.setIfInBounds_toArray, List.set_cons_succ, List.set_cons_zero])
      | (refine inn_val (fun x => run_eql_op 23 23 (.tmp 26) (.tmp 29) rfl _ _ rfl rfl true (by kernel_rfl) (HEQ.out x.w')) (by rfl) ?_; simp only [Act.put, List.setIfInBounds_toArray, List.set_cons_succ, List.set_cons_zero])
      | go_big_quiet_step (fail)
    refine wpQuiet_nil ?_
    refine anyI_part [22] _ _ _ _ (by kernel_rfl) ?_
    simp only [List.filterMap_cons, List.filterMap_nil, List.getElem?_toArray, List.getElem?_cons_succ, List.getElem?_cons_zero]
    change wpList _ _ _ [_] _ _
    refine wpl_want (by rfl) ?_
    obtain ⟨M10, hM10⟩ := sz_some w10
    have hMM10 := below_sz b10 hM7 hM10
    go_wp2_with fail
    refine (Verify_any (keyD c D) s (sigD c D s) ps cs hole w10 M10 hM10 (hT7.below b10 (hT7.ltN hM7)) (hos.below hM7 b10)).mono ?_
    rintro e w11 ⟨rfl, hb11⟩
    rw [ver_true]
    have b11 := b10.trans (hb11.mono hMM10)
    dsimp only
    go_step
    refine ⟨b11, ?_⟩
    change anyI _ _ _ _ _ _ _ _ _
    try simp only [Act.put, List.setIfInBounds_toArray, List.set_cons_succ, List.set_cons_zero, List.getElem_toArray, List.getElem_cons_succ, List.getElem_cons_zero]
    refine anyI_reads [23, 24, 25, 26, 27, 28, 29, 30, 31] _ _ _ b11 (by kernel_rfl) (fun _ _ _ d _ h => by cases d <;> exact h) ?_
    simp only [pickO, List.map_cons, List.map_nil, List.getElem?_toArray, List.getElem?_cons_succ, List.getElem?_cons_zero, Option.getD_some]
    repeat first
      | (refine inn_val (fun x => run_ld 23 (.tmp 3) rfl N rfl 23 32 _ (h17.below x.h (h17.ltN hM7)) _ und23 rfl inf23) (by rfl) ?_; simp only [Act.put, List.setIfInBounds_toArray, List.set_cons_succ, List.set_cons_zero])
      | (refine inn_val (fun x => run_ld 23 (.tmp 7) rfl gk rfl 23 32 _ (hk7.below x.h (hk7.ltN hM7)) _ und23 rfl inf23) (by rfl) ?_; simp only [Act.put, List.setIfInBounds_toArray, List.set_cons_succ, List.set_cons_zero])
      | (refine inn_val (fun x => run_ld 39 (.tmp 6) rfl M4 rfl 39 72 _ (h67.below x.h (h67.ltN hM7)) _ hfs rfl inf39) (by rfl) ?_; simp only [Act.put, List.setIfInBounds_toArray, List.set_cons_succ, List.set_cons_zero])
      | (refine inn_val (fun x => run_eql_op 23 23 (.tmp 26) (.tmp 29) rfl _ _ rfl rfl true (by kernel_rfl) (HEQ.out x.w')) (by rfl) ?_; simp only [Act.put, List.setIfInBounds_toArray, List.set_cons_succ, List.set_cons_zero])
      | go_big_quiet_step (fail)
    refine wpQuiet_nil ?_
    refine anyI_done (by kernel_rfl) ?_
    go_wp2_with fail
    go_ret
    exact ⟨rfl, bN7.trans (b11.mono hNM7)⟩
end Go.Proofs.YtneffelpdaigoaaDoor
