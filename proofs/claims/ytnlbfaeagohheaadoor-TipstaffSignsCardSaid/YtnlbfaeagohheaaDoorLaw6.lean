/- The law TipstaffSigns: its walk, where another seed is tried. -/
import Derived.Test.YtnlbfaeagohheaaDoorLaw5
namespace Go.Proofs.YtnlbfaeagohheaaDoor
open Go Go.RowKit Sha
set_option maxRecDepth 100000 in
set_option maxHeartbeats 1000000 in
theorem law_top_other (p : Option Addr) (n cap : Nat) (D : Nat → BitVec 8) (x y : BitVec 8) (hxy : x ≠ y) (w : World) (N : Nat) (hN : Sz w N) (hT : Tabs w) (hcap : n ≤ cap) (hD : Bytes w p n D) :
    Calls Tryd.prog 16 #[.slice p n cap, .int .u8 (v8 x), .int .u8 (v8 y)] w fun e w' => e = .returned (.bool true) ∧ Below N w w' := by
  have hTN := hT.ltN hN
  have hne := v8_ne hxy
  go_enter Tryd.func16, Tryd.ntmps16
  go_wp2_with fail
  refine (cut_any p n cap 200 D w N hN hcap (by omega) hD).mono ?_
  rintro e w1 ⟨pc, cc, rfl, oc, hpc, hb1⟩
  obtain ⟨M1, hM1⟩ := sz_some w1
  have hNM1 := below_sz hb1 hN hM1
  go_wp2_with fail
  refine (Sum_any pc (min n 200) cc D w1 M1 hM1 (hT.below hb1 hTN) oc.le (by omega) (own_bytes oc)).mono ?_
  rintro e w2 ⟨rfl, hb2⟩
  obtain ⟨M2, hM2⟩ := sz_some w2
  have hMM2 := below_sz hb2 hM1 hM2
  obtain ⟨s, hs⟩ : ∃ s, s = shaD D (min n 200) := ⟨_, rfl⟩
  rw [← hs]
  clear hs
  go_wp2_with (first
    | (refine wpl_alloc rfl 23 rfl 32 _ zer23 M2 hM2 ?_; intro w3 hM3 hb3 h3)
    | (refine wpl_store rfl 23 (.tmp 7) (.tmp 18) rfl M2 32 _ rfl rfl 23 _ h3 inf23 (fun _ _ => rfl) ?_; intro w4 ht4 h4)
    | fail)
  have hM4 := ht4.sz hM3
  have q4 : Below N w w4 := ht4.below ((hb1.trans (hb2.mono (by omega))).trans (hb3.mono (by omega))) (by omega)
  refine (New_any w4 (M2 + 1) hM4).mono ?_
  rintro e w5 ⟨rfl, hb5, r5, hM5⟩
  have S5 : St2 w N M2 (M2 + 1) s rg0 w5 := ⟨q4.trans (hb5.mono (by omega)), h4.below hb5 (by omega), r5, hT.below (q4.trans (hb5.mono (by omega))) hTN⟩
  have hb0 : N ≤ M2 + 1 := by omega
  have hBb : M2 ≠ M2 + 1 := by omega
  clear hb1 oc hb2 hb3 h3 ht4 h4 hb5 r5 q4
  go_wp2_with fail
  refine (stands_any w5 _ hM5 S5.t).mono ?_
  rintro e w6 ⟨rfl, hb6⟩
  have S6 := S5.below hb0 hM5 hb6
  obtain ⟨M6, hM6⟩ := sz_some w6
  go_wp2_with fail
  refine (Key_any _ 1 1 (fun _ => x) _ (M6 + 1) (sz_alloc hM6 _) (S6.t.below (below_new w6 _ _ hM6) (S6.t.ltN hM6)) (by omega) (by omega) (bytes_one w6 x _ rfl _ _)).mono ?_
  rintro e w7 ⟨rfl, hb7⟩
  have S7 := S6.below hb0 hM6 ((below_new w6 _ _ hM6).trans (hb7.mono (Nat.le_succ _)))
  obtain ⟨M7, hM7⟩ := sz_some w7
  go_wp2_with fail
  refine (Add_ok rg0 (M2 + 1) (kD x) w7 M7 hM7 S7.r (by decide) rfl).mono ?_
  rintro e w8 ⟨rfl, hm8, r8⟩
  have S8 := S7.mod hTN hb0 hBb hm8 r8
  clear S5 S6 S7 hb6 hb7 hm8 r8
  go_wp2_with fail
  refine wp_region_any (by kernel_rfl) ?_
  change wpAny _ _ _ _ _ _ _ (World.drew _)
  have Sd8 := S8.drew
  generalize World.drew w8 = wd8 at *
  clear S8 hne
  obtain ⟨M8, hM8⟩ := sz_some wd8
  refine anyI_any (I := fun w => Has w M2 23 32 (fun j => By (s j))) _ _ _ _ ?_
  refine anyI_take (i := 0) (v := .pointer (some ⟨M2 + 1, 0, none⟩)) rfl (by kernel_rfl) (by kernel_rfl) (by kernel_rfl) (fun _ _ _ h => h) ⟨by rfl, fun w _ => by rfl⟩ Sd8.a ?_
  refine anyI_take (i := 1) (v := .agg (cellsOf (fun j => By (s j)) 32)) rfl (by kernel_rfl) (by kernel_rfl) (by kernel_rfl) (fun _ _ _ h => h) ⟨by rfl, fun w hw => run_ld 23 (.tmp 7) rfl M2 rfl 23 32 _ hw _ und23 rfl inf23⟩ Sd8.a ?_
  refine anyI_take (i := 4) (v := .agg (cellsOf (fun j => By (s j)) 32)) rfl (by kernel_rfl) (by kernel_rfl) (by kernel_rfl) (fun _ _ _ h => h) ⟨by rfl, fun w hw => run_ld 23 (.tmp 7) rfl M2 rfl 23 32 _ hw _ und23 rfl inf23⟩ Sd8.a ?_
  refine anyI_take (i := 2) (v := .int .u8 (v8 y)) rfl (by kernel_rfl) (by kernel_rfl) (by kernel_rfl) (fun _ _ _ h => h) ⟨by rfl, fun w _ => by rfl⟩ Sd8.a ?_
  try simp only [Act.put, List.setIfInBounds_toArray, List.set_cons_succ, List.set_cons_zero, List.getElem_toArray, List.getElem_cons_succ, List.getElem_cons_zero]
  refine anyI_part [3, 5, 6, 7] _ _ _ _ (by kernel_rfl) ?_
  simp only [List.filterMap_cons, List.filterMap_nil, List.getElem?_toArray, List.getElem?_cons_succ, List.getElem?_cons_zero]
  change wpList _ _ _ [_] _ _
  refine wpl_run rfl (.slice (some ⟨wd8.heap.size, 0, none⟩) 1 1) (wd8.alloc (.cells #[.int .u8 (v8 y)] 5)) (by go_simp) ?_
  refine ⟨Has.alloc Sd8.a _, ?_⟩
  change wpList _ _ _ [_] _ _
  go_wp2_with fail
  refine (Sign_any _ 1 1 (fun _ => y) s _ (M8 + 1) (sz_alloc hM8 _) (Sd8.t.below (below_new wd8 _ _ hM8) (Sd8.t.ltN hM8)) (by omega) (by omega) (bytes_one wd8 y _ rfl _ _)).mono ?_
  rintro e we8 ⟨ps8, cs8, rfl, o8, _, hb8⟩
  have Se8 := Sd8.below hb0 hM8 ((below_new wd8 _ _ hM8).trans (hb8.mono (Nat.le_succ _)))
  obtain ⟨Me8, hMe8⟩ := sz_some we8
  dsimp only
  go_step
  refine ⟨Se8.a, ?_⟩
  change wpList _ _ _ [_] _ _
  go_wp2_with fail
  refine (Find_any (addR rg0 (kD x)) (M2 + 1) s (sD y s) ps8 cs8 o8.le we8 Me8 hMe8 Se8.t (own_bytes o8) Se8.r (by show 1 ≤ 32; omega)).mono ?_
  rintro e w9 ⟨rfl, hbf8⟩
  rw [fr_wrong x y hxy s]
  have S9 := Se8.below hb0 hMe8 hbf8
  clear Sd8 Se8 hb8 hbf8 o8
  dsimp only
  go_step
  refine ⟨S9.a, ?_⟩
  change wpList _ _ _ [_] _ _
  refine wpl_pure rfl (v := .tuple #[.int .i64 0, .int .i64 129]) (by intro w; rfl) ?_
  refine ⟨S9.a, ?_⟩
  change anyI _ _ _ _ _ _ _ _ _
  try simp only [Act.put, List.setIfInBounds_toArray, List.set_cons_succ, List.set_cons_zero, List.getElem_toArray, List.getElem_cons_succ, List.getElem_cons_zero]
  refine anyI_take (i := 8) (v := .int .i64 0) rfl (by kernel_rfl) (by kernel_rfl) (by kernel_rfl) (fun _ _ _ h => h) ⟨by rfl, fun w _ => by rfl⟩ S9.a ?_
  refine anyI_take (i := 9) (v := .int .i64 129) rfl (by kernel_rfl) (by kernel_rfl) (by kernel_rfl) (fun _ _ _ h => h) ⟨by rfl, fun w _ => by rfl⟩ S9.a ?_
  try simp only [Act.put, List.setIfInBounds_toArray, List.set_cons_succ, List.set_cons_zero, List.getElem_toArray, List.getElem_cons_succ, List.getElem_cons_zero]
  refine anyI_part [10, 11] _ _ _ _ (by kernel_rfl) ?_
  simp only [List.filterMap_cons, List.filterMap_nil, List.getElem?_toArray, List.getElem?_cons_succ, List.getElem?_cons_zero]
  change wpList _ _ _ [_] _ _
  refine wpl_pure rfl (v := .int .i64 0) (by intro w; rfl) ?_
  refine ⟨S9.a, ?_⟩
  change wpList _ _ _ [_] _ _
  refine wpl_pure rfl (v := .int .i64 129) (by intro w; rfl) ?_
  refine ⟨S9.a, ?_⟩
  change anyI _ _ _ _ _ _ _ _ _
  refine anyI_done (by kernel_rfl) ?_
  try simp only [Act.put, List.setIfInBounds_toArray, List.set_cons_succ, List.set_cons_zero, List.getElem_toArray, List.getElem_cons_succ, List.getElem_cons_zero]
  obtain ⟨M9, hM9⟩ := sz_some w9
  go_wp2_with (first
    | (refine wpl_load rfl 23 (.tmp 7) rfl M2 rfl 23 32 _ (by exact S9.a.alloc _) _ und23 rfl inf23 ?_)
    | fail)
  refine (Sign_any _ 1 1 (fun _ => x) s _ (M9 + 1) (sz_alloc hM9 _) (S9.t.below (below_new w9 _ _ hM9) (S9.t.ltN hM9)) (by omega) (by omega) (bytes_one w9 x _ rfl _ _)).mono ?_
  rintro e w10 ⟨ps, cs, rfl, o10, hps, hb10⟩
  have S10 := S9.below hb0 hM9 ((below_new w9 _ _ hM9).trans (hb10.mono (Nat.le_succ _)))
  have hps' : ∀ g, blk ps = some g → g ≠ M2 + 1 := fun g hg => by have := hps g hg; have := S9.r.ltN hM9; omega
  obtain ⟨M10, hM10⟩ := sz_some w10
  have hcs := o10.le
  clear hps hb10 S9
  go_wp2_with (first
    | (refine wpl_load rfl 23 (.tmp 7) rfl M2 rfl 23 32 _ S10.a _ und23 rfl inf23 ?_)
    | fail)
  refine (Find_any (addR rg0 (kD x)) (M2 + 1) s (sD x s) ps cs hcs w10 M10 hM10 S10.t (own_bytes o10) S10.r (by show 1 ≤ 32; omega)).mono ?_
  rintro e w11 ⟨rfl, hb11⟩
  rw [show frV (frO (addR rg0 (kD x)) s (sD x s)) = .tuple #[.int .i64 0, .int .i64 0] from fr_one _ _ _ (fits_sig 1 (fun _ => x) s)]
  have S11 := S10.below hb0 hM10 hb11
  have o11 := o10.below hb11 (Nat.le_of_eq hM10)
  obtain ⟨M11, hM11⟩ := sz_some w11
  clear S10 o10 hb11
  go_wp2_with fail
  refine (Key_any _ 1 1 (fun _ => x) _ (M11 + 1) (sz_alloc hM11 _) (S11.t.below (below_new w11 _ _ hM11) (S11.t.ltN hM11)) (by omega) (by omega) (bytes_one w11 x _ rfl _ _)).mono ?_
  rintro e w12 ⟨rfl, hb12'⟩
  have hb12 := (below_new w11 _ _ hM11).trans (hb12'.mono (Nat.le_succ _))
  have S12 := S11.below hb0 hM11 hb12
  have o12 := o11.below hb12 (Nat.le_of_eq hM11)
  obtain ⟨M12, hM12⟩ := sz_some w12
  clear S11 o11 hb12 hb12'
  go_wp2_with fail
  refine (Has_any (addR rg0 (kD x)) (M2 + 1) (kD x) w12 M12 hM12 S12.r (by show 1 ≤ 32; omega)).mono ?_
  rintro e w13 ⟨rfl, hb13⟩
  rw [has_one]
  have S13 := S12.below hb0 hM12 hb13
  have o13 := o12.below hb13 (Nat.le_of_eq hM12)
  clear S12 o12 hb13
  go_wp2_with fail
  refine (Spend_ok (addR rg0 (kD x)) (M2 + 1) 0 w13 S13.r (by show 0 < 1; omega) (by show 1 ≤ 32; omega) rfl).mono ?_
  rintro e w14 ⟨rfl, ht14, r14⟩
  have S14 := S13.mod hTN hb0 hBb ht14.mod r14
  have o14 := o13.touch ht14 hps'
  obtain ⟨M14, hM14⟩ := sz_some w14
  clear S13 o13 ht14 r14
  go_wp2_with (first
    | (refine wpl_load rfl 23 (.tmp 7) rfl M2 rfl 23 32 _ S14.a _ und23 rfl inf23 ?_)
    | fail)
  refine (Find_any (spendR (addR rg0 (kD x)) 0) (M2 + 1) s (sD x s) ps cs hcs w14 M14 hM14 S14.t (own_bytes o14) S14.r (by show 1 ≤ 32; omega)).mono ?_
  rintro e w15 ⟨rfl, hb15⟩
  rw [fr_gone]
  have S15 := S14.below hb0 hM14 hb15
  obtain ⟨M15, hM15⟩ := sz_some w15
  clear S14 o14 hb15
  go_wp2_with fail
  refine (Key_any _ 1 1 (fun _ => x) _ (M15 + 1) (sz_alloc hM15 _) (S15.t.below (below_new w15 _ _ hM15) (S15.t.ltN hM15)) (by omega) (by omega) (bytes_one w15 x _ rfl _ _)).mono ?_
  rintro e w16 ⟨rfl, hb16⟩
  have S16 := S15.below hb0 hM15 ((below_new w15 _ _ hM15).trans (hb16.mono (Nat.le_succ _)))
  obtain ⟨M16, hM16⟩ := sz_some w16
  go_wp2_with fail
  refine (Has_any (spendR (addR rg0 (kD x)) 0) (M2 + 1) (kD x) w16 M16 hM16 S16.r (by show 1 ≤ 32; omega)).mono ?_
  rintro e w17 ⟨rfl, hb17⟩
  rw [has_gone]
  have S17 := S16.below hb0 hM16 hb17
  go_wp2_with fail
  refine (Len_any (spendR (addR rg0 (kD x)) 0) (M2 + 1) w17 S17.r).mono ?_
  rintro e w18 ⟨rfl, rfl⟩
  rw [show (spendR (addR rg0 (kD x)) 0).c = 1 from rfl]
  go_wp2_with fail
  go_ret
  exact ⟨rfl, S17.q⟩
theorem law_top (p : Option Addr) (n cap : Nat) (D : Nat → BitVec 8) (x y : BitVec 8) (w : World) (N : Nat) (hN : Sz w N) (hT : Tabs w) (hcap : n ≤ cap) (hD : Bytes w p n D) :
    Calls Tryd.prog 16 #[.slice p n cap, .int .u8 (v8 x), .int .u8 (v8 y)] w fun e w' => e = .returned (.bool true) ∧ Below N w w' := by
  by_cases h : x = y
  · subst h; exact law_top_same p n cap D x w N hN hT hcap hD
  · exact law_top_other p n cap D x y h w N hN hT hcap hD
end Go.Proofs.YtnlbfaeagohheaaDoor
