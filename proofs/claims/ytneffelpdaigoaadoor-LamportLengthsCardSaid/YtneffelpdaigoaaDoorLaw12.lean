/- The law LamportLengths: its walk. -/
import Derived.Test.YtneffelpdaigoaaDoorLaw11
namespace Go.Proofs.YtneffelpdaigoaaDoor
open Go Go.RowKit Sha
theorem nought_bytes {w : World} {g n : Nat} {T : TypeId} (h : Has w g T n (fun _ => .int .u8 0)) : Bytes w (some ⟨g, 0, none⟩) n (fun _ => 0) := fun _ => ⟨g, 0, rfl, fun j hj => by rw [Nat.zero_add, h.cell hj]; rfl⟩
set_option maxRecDepth 100000 in
set_option maxHeartbeats 1000000 in
theorem law_lengths (key s : Nat → BitVec 8) (z : Int) (w : World) (N : Nat) (hN : Sz w N) (hT : Tabs w) :
    Calls Tryd.prog 11 #[.agg (cellsOf (fun j => By (key j)) 32), .agg (cellsOf (fun j => By (s j)) 32), .int .i64 z] w fun e w' => e = .returned (.bool true) ∧ Below N w w' := by
  have hTN := hT.ltN hN
  obtain ⟨q, hq⟩ := u64_nat z
  obtain ⟨k, hk⟩ : ∃ k : Nat, k = q % 5000 := ⟨_, rfl⟩
  have e1 : (q : Int) % 5000 = (k : Int) := by omega
  have hk5 : k < 5000 := by omega
  have q0 : (0 : Int) ≤ (q : Int) := by omega
  have k0 : (0 : Int) ≤ (k : Int) := by omega
  have k1 : (k : Int) < 5000 := by omega
  clear hk
  have hcase : (k ≠ 2048 ∧ ((k : Int) != 2048) = true) ∨ (k = 2048 ∧ ((k : Int) != 2048) = false) := by
    by_cases e : k = 2048
    · exact .inr ⟨e, by rw [bne_eq_false_iff_eq]; omega⟩
    · exact .inl ⟨e, by rw [bne_iff_ne]; omega⟩
  have HCASE := hid hcase
  clear hcase
  go_enter Tryd.func11, Tryd.ntmps11
  go_wp2_with (first
    | (refine wpl_box rfl 23 (.tmp 0) rfl 32 _ rfl N hN ?_; intro w1 hN1 hb1 h1)
    | (refine wpl_box rfl 23 (.tmp 1) rfl 32 _ rfl (N + 1) hN1 ?_; intro w2 hN2 hb2 h2)
    | fail)
  have b2 := hb1.trans (hb2.mono (by omega))
  have h12 := h1.below hb2 (by omega)
  have hT2 := hT.below b2 hTN
  have I2 : Below (N + 2) w2 w2 := Below.refl _ _
  clear h1 hb1 hb2 e1 hq q0
  refine wp_region_inn (fun w' => Below (N + 2) w2 w') I2.drew (by kernel_rfl) ?_
  have hne := inn_ne (I := fun w' => Below (N + 2) w2 w') I2
  refine anyI_reads [0, 1, 2] _ _ _ I2.drew (by kernel_rfl) (fun _ _ _ d _ h => by cases d <;> exact h) ?_
  simp only [pickO, List.map_cons, List.map_nil, List.getElem?_toArray, List.getElem?_cons_succ, List.getElem?_cons_zero, Option.getD_some, Act.put, List.setIfInBounds_toArray, List.set_cons_succ, List.set_cons_zero]
  repeat first
    | (refine inn_val (fun x => run_ld 23 (.tmp 3) rfl N rfl 23 32 _ (h12.below x.h (by omega)) _ und23 rfl inf23) (by rfl) ?_; simp only [Act.put, List.setIfInBounds_toArray, List.set_cons_succ, List.set_cons_zero])
    | (refine inn_val (fun x => run_ld 23 (.tmp 4) rfl (N + 1) rfl 23 32 _ (h2.below x.h (by omega)) _ und23 rfl inf23) (by rfl) ?_; simp only [Act.put, List.setIfInBounds_toArray, List.set_cons_succ, List.set_cons_zero])
    | go_big_quiet_step (fail)
  refine wpQuiet_nil ?_
  refine anyI_part [3, 4, 5] _ _ _ _ (by kernel_rfl) ?_
  simp only [List.filterMap_cons, List.filterMap_nil, List.getElem?_toArray, List.getElem?_cons_succ, List.getElem?_cons_zero]
  change wpList _ _ _ [_] _ _
  refine wpl_makeN rfl 22 (.tmp 15) (.tmp 15) rfl k _ rfl rfl rfl 5 1 _ und22 zer5 (by omega) rfl (by omega) (N + 2) (by exact hN2) ?_
  intro w3 hN3 hb3 h3
  have b3 : Below (N + 2) w2 w3 := mod_belowdrew hb3
  have hT3 := hT2.below b3 (by omega)
  refine ⟨b3, ?_⟩
  change wpList _ _ _ [_] _ _
  obtain ⟨v, hv⟩ : ∃ v : Int, (k ≠ 2048 → v = 22) ∧ (k = 2048 → v = verAns key s (fun _ => 0)) := by
    by_cases e : k = 2048
    · exact ⟨verAns key s (fun _ => 0), fun h => absurd e h, fun _ => rfl⟩
    · exact ⟨22, fun _ => rfl, fun h => absurd h e⟩
  have HV := hid hv
  clear hv
  have hcall : Calls Tryd.prog 30 #[.agg (cellsOf (fun j => By (key j)) 32), .agg (cellsOf (fun j => By (s j)) 32), .slice (some ⟨N + 2, 0, none⟩) k k] w3 fun e w' => e = .returned (.int .i64 v) ∧ Below (N + 3) w3 w' := by
    by_cases e : k = 2048
    · rw [HV.out.2 e]; exact Verify_at key s (fun _ => 0) _ k k e (Nat.le_refl _) w3 (N + 3) hN3 hT3 (nought_bytes h3)
    · rw [HV.out.1 e]; exact Verify_long key s _ k k e w3 (N + 3) hN3
  have HCALL := hid hcall
  clear hcall
  go_wp2_with fail
  refine HCALL.out.mono ?_
  rintro e w4 ⟨rfl, hb4⟩
  have b4 := b3.trans (hb4.mono (by omega))
  dsimp only
  go_step
  refine ⟨b4, ?_⟩
  change wpList _ _ _ [_] _ _
  refine wpl_pure rfl (v := .int .i64 v) (by intro w; rfl) ?_
  refine ⟨b4, ?_⟩
  change anyI _ _ _ _ _ _ _ _ _
  refine anyI_done (by kernel_rfl) ?_
  try simp only [Act.put, List.setIfInBounds_toArray, List.set_cons_succ, List.set_cons_zero, List.getElem_toArray, List.getElem_cons_succ, List.getElem_cons_zero]
  clear h3 HCALL hb3 hne I2
  obtain ⟨M4, hM4⟩ := sz_some w4
  have hMM4 := below_sz b4 hN2 hM4
  have hT4 := hT2.below b4 (by omega)
  rcases HCASE.out with ⟨e, he⟩ | ⟨e, he⟩
  · have hv := HV.out.1 e
    subst hv
    go_wp2_with (first
      | (go_at_call 27; refine (signs_any w4 M4 hM4 hT4).mono ?_; rintro e w6 ⟨rfl, hb6⟩)
      | fail)
    go_ret
    exact ⟨rfl, b2.trans ((b4.trans (hb6.mono (by omega))).mono (by omega))⟩
  · have hv := hid (HV.out.2 e)
    have HE := hid e
    clear e
    have hf : (fitsB key s (fun _ => 0) = true ∧ v = 0) ∨ (fitsB key s (fun _ => 0) = false ∧ v = 129) := by
      rw [hv.out]
      unfold verAns
      cases fitsB key s (fun _ => 0)
      · exact .inr ⟨rfl, rfl⟩
      · exact .inl ⟨rfl, rfl⟩
    clear hv HV HCASE
    go_wp2_with fail
    rcases hf with ⟨hf, hv⟩ | ⟨hf, hv⟩
    all_goals
      subst hv
      have HF := hid hf
      clear hf he
      refine wp_region_inn (fun w' => Below (N + 2) w2 w') b4.drew (by kernel_rfl) ?_
      refine anyI_part [0, 1] _ _ _ _ (by kernel_rfl) ?_
      simp only [List.filterMap_cons, List.filterMap_nil, List.getElem?_toArray, List.getElem?_cons_succ, List.getElem?_cons_zero]
      change wpList _ _ _ [_] _ _
      go_wp2_with fail
      refine (signs_any w4.drew M4 (by exact hM4) (by exact hT4.drew)).mono ?_
      rintro e w5 ⟨rfl, hb5⟩
      have b5 := b4.drew.trans (hb5.mono (by omega))
      dsimp only
      go_step
      refine ⟨b5, ?_⟩
      change wpList _ _ _ [_] _ _
      refine wpl_pure rfl (v := .bool true) (by intro w; rfl) ?_
      refine ⟨b5, ?_⟩
      change anyI _ _ _ _ _ _ _ _ _
      try simp only [Act.put, List.setIfInBounds_toArray, List.set_cons_succ, List.set_cons_zero, List.getElem_toArray, List.getElem_cons_succ, List.getElem_cons_zero]
      have hne := inn_ne (I := fun w' => Below (N + 2) w2 w') b5
      refine anyI_reads [2, 3, 5, 6, 7] _ _ _ b5 (by kernel_rfl) (fun _ _ _ d _ h => by cases d <;> exact h) ?_
      simp only [pickO, List.map_cons, List.map_nil, List.getElem?_toArray, List.getElem?_cons_succ, List.getElem?_cons_zero, Option.getD_some]
      repeat first
        | (refine inn_val (fun x => run_ld 23 (.tmp 3) rfl N rfl 23 32 _ (h12.below x.h (by omega)) _ und23 rfl inf23) (by rfl) ?_; simp only [Act.put, List.setIfInBounds_toArray, List.set_cons_succ, List.set_cons_zero])
        | (refine inn_val (fun x => run_ld 23 (.tmp 4) rfl (N + 1) rfl 23 32 _ (h2.below x.h (by omega)) _ und23 rfl inf23) (by rfl) ?_; simp only [Act.put, List.setIfInBounds_toArray, List.set_cons_succ, List.set_cons_zero])
        | go_big_quiet_step (fail)
      refine wpQuiet_nil ?_
      clear hne
      obtain ⟨M5, hM5⟩ := sz_some w5
      have hMM5 := below_sz b5 hN2 hM5
      refine anyI_two 4 8 _ _ _ _ (by kernel_rfl) ?_ ?_
      · simp only [List.filterMap_cons, List.filterMap_nil, List.getElem?_toArray, List.getElem?_cons_succ, List.getElem?_cons_zero]
        refine wpl_want (by rfl) ?_
        go_wp2_with fail
        refine (Make_any w5 M5 hM5).mono ?_
        rintro e w6 ⟨rfl, hb6⟩
        obtain ⟨M6, hM6⟩ := sz_some w6
        have hMM6 := below_sz hb6 hM5 hM6
        have b6 := b5.trans (hb6.mono (by omega))
        dsimp only
        go_step
        refine ⟨b6, ?_⟩
        change anyI _ _ _ _ _ _ _ _ _
        try simp only [Act.put, List.setIfInBounds_toArray, List.set_cons_succ, List.set_cons_zero, List.getElem_toArray, List.getElem_cons_succ, List.getElem_cons_zero]
        refine anyI_part [8, 9, 10, 11, 12] _ _ _ _ (by kernel_rfl) ?_
        simp only [List.filterMap_cons, List.filterMap_nil, List.getElem?_toArray, List.getElem?_cons_succ, List.getElem?_cons_zero]
        change wpList _ _ _ [_] _ _
        refine wpl_want (by rfl) ?_
        refine wpl_makeN rfl 22 (.tmp 32) (.tmp 32) rfl k _ rfl rfl rfl 5 1 _ und22 zer5 (by omega) rfl (by omega) M6 hM6 ?_
        intro w7 hM7 hb7 h7
        have b7 := b6.trans (hb7.mono (by omega))
        refine ⟨b7, ?_⟩
        change wpList _ _ _ [_] _ _
        refine wpl_want (by rfl) ?_
        go_wp2_with fail
        refine (RFits_at key s (fun _ => 0) _ k k HE.out (Nat.le_refl _) w7 (M6 + 1) hM7 (nought_bytes h7)).mono ?_
        rintro e w9 ⟨rfl, hb9⟩
        rw [HF.out]
        have b9 := b7.trans (hb9.mono (by omega))
        dsimp only
        go_step
        refine ⟨b9, ?_⟩
        change wpList _ _ _ [_] _ _
        refine wpl_want (by rfl) ?_
        refine wpl_pure rfl (v := .bool true) (by intro w; rfl) ?_
        refine ⟨b9, ?_⟩
        change wpList _ _ _ [_] _ _
        refine wpl_pure rfl (v := .bool true) (by intro w; rfl) ?_
        refine ⟨b9, ?_⟩
        change wpList _ _ _ [_] _ _
        refine wpl_pure rfl (v := .bool true) (by intro w; rfl) ?_
        refine ⟨b9, ?_⟩
        change anyI _ _ _ _ _ _ _ _ _
        refine anyI_done (by kernel_rfl) ?_
        try simp only [Act.put, List.setIfInBounds_toArray, List.set_cons_succ, List.set_cons_zero, List.getElem_toArray, List.getElem_cons_succ, List.getElem_cons_zero]
        go_wp2_with fail
        go_ret
        exact ⟨rfl, b2.trans (b9.mono (by omega))⟩
      · simp only [List.filterMap_cons, List.filterMap_nil, List.getElem?_toArray, List.getElem?_cons_succ, List.getElem?_cons_zero]
        refine wpl_want (by rfl) ?_
        refine wpl_makeN rfl 22 (.tmp 32) (.tmp 32) rfl k _ rfl rfl rfl 5 1 _ und22 zer5 (by omega) rfl (by omega) M5 hM5 ?_
        intro w6 hM6 hb6 h6
        have b6 := b5.trans (hb6.mono (by omega))
        refine ⟨b6, ?_⟩
        change anyI _ _ _ _ _ _ _ _ _
        try simp only [Act.put, List.setIfInBounds_toArray, List.set_cons_succ, List.set_cons_zero, List.getElem_toArray, List.getElem_cons_succ, List.getElem_cons_zero]
        refine anyI_part [4, 9, 10, 11, 12] _ _ _ _ (by kernel_rfl) ?_
        simp only [List.filterMap_cons, List.filterMap_nil, List.getElem?_toArray, List.getElem?_cons_succ, List.getElem?_cons_zero]
        change wpList _ _ _ [_] _ _
        refine wpl_want (by rfl) ?_
        go_wp2_with fail
        refine (Make_any w6 (M5 + 1) hM6).mono ?_
        rintro e w7 ⟨rfl, hb7⟩
        obtain ⟨M7, hM7⟩ := sz_some w7
        have hMM7 := below_sz hb7 hM6 hM7
        have b7 := b6.trans (hb7.mono (by omega))
        have h7 := h6.below hb7 (by omega)
        dsimp only
        go_step
        refine ⟨b7, ?_⟩
        change wpList _ _ _ [_] _ _
        refine wpl_want (by rfl) ?_
        go_wp2_with fail
        refine (RFits_at key s (fun _ => 0) _ k k HE.out (Nat.le_refl _) w7 M7 hM7 (nought_bytes h7)).mono ?_
        rintro e w9 ⟨rfl, hb9⟩
        rw [HF.out]
        have b9 := b7.trans (hb9.mono (by omega))
        dsimp only
        go_step
        refine ⟨b9, ?_⟩
        change wpList _ _ _ [_] _ _
        refine wpl_want (by rfl) ?_
        refine wpl_pure rfl (v := .bool true) (by intro w; rfl) ?_
        refine ⟨b9, ?_⟩
        change wpList _ _ _ [_] _ _
        refine wpl_pure rfl (v := .bool true) (by intro w; rfl) ?_
        refine ⟨b9, ?_⟩
        change wpList _ _ _ [_] _ _
        refine wpl_pure rfl (v := .bool true) (by intro w; rfl) ?_
        refine ⟨b9, ?_⟩
        change anyI _ _ _ _ _ _ _ _ _
        refine anyI_done (by kernel_rfl) ?_
        try simp only [Act.put, List.setIfInBounds_toArray, List.set_cons_succ, List.set_cons_zero, List.getElem_toArray, List.getElem_cons_succ, List.getElem_cons_zero]
        go_wp2_with fail
        go_ret
        exact ⟨rfl, b2.trans (b9.mono (by omega))⟩
end Go.Proofs.YtneffelpdaigoaaDoor
