/- The law RegistryAgain: its walk. -/
import Derived.Test.YtnlbfaeagohheaaDoorRg4
import Derived.Test.YtnlbfaeagohheaaDoorFloat
namespace Go.Proofs.YtnlbfaeagohheaaDoor
open Go Go.RowKit Sha
def kD (x : BitVec 8) : Nat → BitVec 8 := keyD 1 (fun _ => x)
def sD (x : BitVec 8) (s : Nat → BitVec 8) : Nat → BitVec 8 := sigD 1 (fun _ => x) s
/-- Two keys. -/
def twoR (x y : BitVec 8) : Rg := addR (addR rg0 (kD x)) (kD y)
theorem eq_key (x y : BitVec 8) (h : x ≠ y) : ((List.range 32).all fun j => kD x j == kD y j) = false := by
  rw [List.all_eq_false]
  obtain ⟨j, hj, hn⟩ := keys_apart x y h
  exact ⟨j, by simpa using hj, by simpa [kD] using hn⟩
theorem eq_key_self (x : BitVec 8) : ((List.range 32).all fun j => kD x j == kD x j) = true := by simp
theorem pl_one (x y : BitVec 8) (h : x ≠ y) : plB (addR rg0 (kD x)) (kD y) = false := by
  unfold plB plO
  rw [find_none _ (addR rg0 (kD x)).c (fun i hi => by
    have : i = 0 := by
      have e : (addR rg0 (kD x)).c = 1 := rfl
      omega
    subst this
    exact eq_key x y h)]
  rfl
theorem lt_two {x y : BitVec 8} {i : Nat} (h : i < (twoR x y).c) : i = 0 ∨ i = 1 := by
  have e : (twoR x y).c = 2 := rfl
  omega
theorem has_first (x y : BitVec 8) : hasB (spendR (twoR x y) 0) (kD x) = false := by
  have e : plO (spendR (twoR x y) 0) (kD x) = some 0 := find_first _ _ _ (by show 0 < 2; omega) (fun j hj => by omega) (eq_key_self x)
  unfold hasB plB plI
  rw [e]
  rfl
theorem has_second (x y : BitVec 8) (h : x ≠ y) : hasB (spendR (twoR x y) 0) (kD y) = true := by
  have e : plO (spendR (twoR x y) 0) (kD y) = some 1 := find_first _ _ _ (by show 1 < 2; omega) (fun j hj => by
    obtain rfl : j = 0 := by omega
    exact eq_key x y h) (eq_key_self y)
  unfold hasB plB plI
  rw [e]
  rfl
theorem fr_first (x y : BitVec 8) (h : x ≠ y) (s : Nat → BitVec 8) : frV (frO (spendR (twoR x y) 0) s (sD x s)) = .tuple #[.int .i64 0, .int .i64 129] := by
  rw [fr_none _ _ _ (fun i hi => by
    rcases lt_two (x := x) (y := y) hi with rfl | rfl
    · rfl
    · show (!false && fitsB (kD y) s (sD x s)) = false
      rw [show fitsB (kD y) s (sD x s) = false from fits_other y x s (Ne.symm h)]
      rfl)]
  rfl
theorem fr_second (x y : BitVec 8) (s : Nat → BitVec 8) : frV (frO (spendR (twoR x y) 0) s (sD y s)) = .tuple #[.int .i64 1, .int .i64 0] := by
  rw [fr_some _ _ _ 1 (by show 1 < 2; omega) (fun i hi => by
    obtain rfl : i = 0 := by omega
    rfl) (by
    show (!false && fitsB (kD y) s (sD y s)) = true
    rw [show fitsB (kD y) s (sD y s) = true from fits_sig 1 (fun _ => y) s]
    rfl)]
  rfl
/-- Where the law stands: both sums' boxes, and the registry. -/
structure St (w : World) (N : Nat) (sa sb : Nat → BitVec 8) (R : Rg) (w' : World) : Prop where
  q : Below N w w'
  a : Has w' N 23 32 (fun j => By (sa j))
  b : Has w' (N + 1) 23 32 (fun j => By (sb j))
  r : Has w' (N + 1 + 1) 98 1057 (rgC R)
  t : Tabs w'
theorem St.sz {w w' : World} {N : Nat} {sa sb : Nat → BitVec 8} {R : Rg} (h : St w N sa sb R w') {M : Nat} (hM : Sz w' M) : N + 2 < M := h.r.ltN hM
theorem St.below {w w' w'' : World} {N M : Nat} {sa sb : Nat → BitVec 8} {R : Rg} (h : St w N sa sb R w') (hM : Sz w' M) (hb : Below M w' w'') : St w N sa sb R w'' := by
  have hz := h.sz hM
  exact ⟨h.q.trans (hb.mono (by omega)), h.a.below hb (by omega), h.b.below hb (by omega), h.r.below hb (by omega), h.t.below hb (h.t.ltN hM)⟩
theorem St.mod {w w' w'' : World} {N : Nat} {sa sb : Nat → BitVec 8} {R R' : Rg} (hT : 1 < N) (h : St w N sa sb R w') (m : Mod (N + 1 + 1) w' w'') (r : Has w'' (N + 1 + 1) 98 1057 (rgC R')) : St w N sa sb R' w'' := by
  have hz : N + 2 < w'.heap.size := h.r.lt
  exact ⟨m.below h.q (by omega) (by omega), h.a.mod m (by omega), h.b.mod m (by omega), r, h.t.mod m (by omega)⟩
theorem St.drew {w w' : World} {N : Nat} {sa sb : Nat → BitVec 8} {R : Rg} (h : St w N sa sb R w') : St w N sa sb R (World.drew w') := ⟨below_drew1 h.q, h.a, h.b, h.r, ⟨h.t.h, h.t.k⟩⟩
set_option maxRecDepth 100000 in
set_option maxHeartbeats 1000000 in
theorem law_again (sa sb : Nat → BitVec 8) (w : World) (N : Nat) (hN : Sz w N) (hT : Tabs w) :
    Calls Tryd.prog 15 #[.agg (cellsOf (fun j => By (sa j)) 32), .agg (cellsOf (fun j => By (sb j)) 32)] w fun e w' => e = .returned (.bool true) ∧ Below N w w' := by
  have hTN := hT.ltN hN
  have kc := fun (w : World) (C : Array Value) (n c : Nat) => Lib.run_convert_bytes_const (P := Tryd.prog) w 22 5 C n c und22 und5
  go_enter Tryd.func15, Tryd.ntmps15
  go_wp2_with (first
    | (refine wpl_box rfl 23 (.tmp 0) rfl 32 _ rfl N hN ?_; intro w1 hN1 hb1 h1)
    | (refine wpl_box rfl 23 (.tmp 1) rfl 32 _ rfl (N + 1) hN1 ?_; intro w2 hN2 hb2 h2)
    | (go_at_call 39; refine (New_any _ (N + 1 + 1) hN2).mono ?_; rintro e w3 ⟨rfl, hb3, r3, hN3⟩)
    | (go_at_call 34; have q3 : Below N w w3 := (hb1.trans (hb2.mono (by omega))).trans (hb3.mono (by omega)); refine (keeps_any _ (N + 1 + 1 + 1) hN3 (hT.below q3 hTN)).mono ?_; rintro e w4 ⟨rfl, hb4⟩)
    | fail)
  have S4 : St w N sa sb rg0 w4 := ⟨q3.trans (hb4.mono (by omega)), ((h1.below hb2 (by omega)).below hb3 (by omega)).below hb4 (by omega), (h2.below hb3 (by omega)).below hb4 (by omega), r3.below hb4 (by omega), hT.below (q3.trans (hb4.mono (by omega))) hTN⟩
  clear hb1 h1 hb2 h2 hb3 r3 q3 hb4
  obtain ⟨M4, hM4⟩ := sz_some w4
  refine (Key_any _ 1 1 (fun _ => 120) _ (M4 + 1) (sz_alloc hM4 _) (S4.t.below (below_new w4 _ _ hM4) (S4.t.ltN hM4)) (by omega) (by omega) (bytes_one w4 120 _ rfl _ _)).mono ?_
  rintro e w5 ⟨rfl, hb5⟩
  have S5 := S4.below hM4 ((below_new w4 _ _ hM4).trans (hb5.mono (Nat.le_succ _)))
  obtain ⟨M5, hM5⟩ := sz_some w5
  clear hb5
  go_wp2_with fail
  refine (Add_ok rg0 (N + 1 + 1) (kD 120) w5 M5 hM5 S5.r (by decide) rfl).mono ?_
  rintro e w6 ⟨rfl, hm6, r6⟩
  have S6 := S5.mod hTN hm6 r6
  obtain ⟨M6, hM6⟩ := sz_some w6
  go_wp2_with fail
  refine (Key_any _ 1 1 (fun _ => 121) _ (M6 + 1) (sz_alloc hM6 _) (S6.t.below (below_new w6 _ _ hM6) (S6.t.ltN hM6)) (by omega) (by omega) (bytes_one w6 121 _ rfl _ _)).mono ?_
  rintro e w7 ⟨rfl, hb7⟩
  have S7 := S6.below hM6 ((below_new w6 _ _ hM6).trans (hb7.mono (Nat.le_succ _)))
  obtain ⟨M7, hM7⟩ := sz_some w7
  clear hb7
  go_wp2_with fail
  refine (Add_ok (addR rg0 (kD 120)) (N + 1 + 1) (kD 121) w7 M7 hM7 S7.r (by show 1 < 32; omega) (pl_one 120 121 (by decide))).mono ?_
  rintro e w8 ⟨rfl, hm8, r8⟩
  have S8 := S7.mod hTN hm8 r8
  go_wp2_with fail
  refine (Spend_ok (twoR 120 121) (N + 1 + 1) 0 w8 S8.r (by show 0 < 2; omega) (by show 2 ≤ 32; omega) rfl).mono ?_
  rintro e w9 ⟨rfl, ht9, r9⟩
  have S9 := S8.mod hTN ht9.mod r9
  clear S4 S5 S6 S7 S8 hm6 r6 hm8 r8 ht9 r9
  go_wp2_with fail
  refine wp_region_any (by kernel_rfl) ?_
  change wpAny _ _ _ _ _ _ _ (World.drew _)
  have Sd9 := S9.drew
  generalize World.drew w9 = wd9 at *
  clear S9
  obtain ⟨M9, hM9⟩ := sz_some wd9
  refine anyI_any (I := fun w => Has w N 23 32 (fun j => By (sa j))) _ _ _ _ ?_
  refine anyI_take (i := 0) (v := .pointer (some ⟨N + 1 + 1, 0, none⟩)) rfl (by kernel_rfl) (by kernel_rfl) (by kernel_rfl) (fun _ _ _ h => h) ⟨by rfl, fun w _ => by rfl⟩ Sd9.a ?_
  refine anyI_take (i := 1) (v := .agg (cellsOf (fun j => By (sa j)) 32)) rfl (by kernel_rfl) (by kernel_rfl) (by kernel_rfl) (fun _ _ _ h => h) ⟨by rfl, fun w hw => run_ld 23 (.tmp 2) rfl N rfl 23 32 _ hw _ und23 rfl inf23⟩ Sd9.a ?_
  refine anyI_take (i := 4) (v := .agg (cellsOf (fun j => By (sa j)) 32)) rfl (by kernel_rfl) (by kernel_rfl) (by kernel_rfl) (fun _ _ _ h => h) ⟨by rfl, fun w hw => run_ld 23 (.tmp 2) rfl N rfl 23 32 _ hw _ und23 rfl inf23⟩ Sd9.a ?_
  try simp only [Act.put, List.setIfInBounds_toArray, List.set_cons_succ, List.set_cons_zero, List.getElem_toArray, List.getElem_cons_succ, List.getElem_cons_zero]
  refine anyI_part [2, 3, 5, 6, 7] _ _ _ _ (by kernel_rfl) ?_
  simp only [List.filterMap_cons, List.filterMap_nil, List.getElem?_toArray, List.getElem?_cons_succ, List.getElem?_cons_zero]
  change wpList _ _ _ [_] _ _
  refine wpl_run rfl (.slice (some ⟨wd9.heap.size, 0, none⟩) 1 1) (wd9.alloc (.cells #[.int .u8 120] 5)) (by go_simp) ?_
  refine ⟨Has.alloc Sd9.a _, ?_⟩
  change wpList _ _ _ [_] _ _
  refine wpl_conv2 rfl 22 22 (.tmp 39) rfl _ _ _ rfl (kc wd9 #[.int .u8 120] 1 1) ?_
  refine ⟨Has.alloc Sd9.a _, ?_⟩
  change wpList _ _ _ [_] _ _
  go_wp2_with fail
  refine (Sign_any _ 1 1 (fun _ => 120) sa _ (M9 + 1) (sz_alloc hM9 _) (Sd9.t.below (below_new wd9 _ _ hM9) (Sd9.t.ltN hM9)) (by omega) (by omega) (bytes_one wd9 120 _ rfl _ _)).mono ?_
  rintro e we9 ⟨ps9, cs9, rfl, o9, _, hb9⟩
  have Se9 := Sd9.below hM9 ((below_new wd9 _ _ hM9).trans (hb9.mono (Nat.le_succ _)))
  obtain ⟨Me9, hMe9⟩ := sz_some we9
  dsimp only
  go_step
  refine ⟨Se9.a, ?_⟩
  change wpList _ _ _ [_] _ _
  go_wp2_with fail
  refine (Find_any (spendR (twoR 120 121) 0) (N + 1 + 1) sa (sD 120 sa) ps9 cs9 o9.le we9 Me9 hMe9 Se9.t (own_bytes o9) Se9.r (by show 2 ≤ 32; omega)).mono ?_
  rintro e w10 ⟨rfl, hbf9⟩
  rw [fr_first 120 121 (by decide) sa]
  have S10 := Se9.below hMe9 hbf9
  clear Sd9 Se9 hb9 hbf9 o9
  dsimp only
  go_step
  refine ⟨S10.a, ?_⟩
  change wpList _ _ _ [_] _ _
  refine wpl_pure rfl (v := .tuple #[.int .i64 0, .int .i64 129]) (by intro w; rfl) ?_
  refine ⟨S10.a, ?_⟩
  change anyI _ _ _ _ _ _ _ _ _
  try simp only [Act.put, List.setIfInBounds_toArray, List.set_cons_succ, List.set_cons_zero, List.getElem_toArray, List.getElem_cons_succ, List.getElem_cons_zero]
  refine anyI_take (i := 8) (v := .int .i64 0) rfl (by kernel_rfl) (by kernel_rfl) (by kernel_rfl) (fun _ _ _ h => h) ⟨by rfl, fun w _ => by rfl⟩ S10.a ?_
  refine anyI_take (i := 9) (v := .int .i64 129) rfl (by kernel_rfl) (by kernel_rfl) (by kernel_rfl) (fun _ _ _ h => h) ⟨by rfl, fun w _ => by rfl⟩ S10.a ?_
  try simp only [Act.put, List.setIfInBounds_toArray, List.set_cons_succ, List.set_cons_zero, List.getElem_toArray, List.getElem_cons_succ, List.getElem_cons_zero]
  refine anyI_part [10, 11] _ _ _ _ (by kernel_rfl) ?_
  simp only [List.filterMap_cons, List.filterMap_nil, List.getElem?_toArray, List.getElem?_cons_succ, List.getElem?_cons_zero]
  change wpList _ _ _ [_] _ _
  refine wpl_pure rfl (v := .int .i64 0) (by intro w; rfl) ?_
  refine ⟨S10.a, ?_⟩
  change wpList _ _ _ [_] _ _
  refine wpl_pure rfl (v := .int .i64 129) (by intro w; rfl) ?_
  refine ⟨S10.a, ?_⟩
  change anyI _ _ _ _ _ _ _ _ _
  refine anyI_done (by kernel_rfl) ?_
  try simp only [Act.put, List.setIfInBounds_toArray, List.set_cons_succ, List.set_cons_zero, List.getElem_toArray, List.getElem_cons_succ, List.getElem_cons_zero]
  go_wp2_with fail
  refine wp_region_any (by kernel_rfl) ?_
  change wpAny _ _ _ _ _ _ _ (World.drew _)
  have Sd10 := S10.drew
  generalize World.drew w10 = wd10 at *
  clear S10
  obtain ⟨M10, hM10⟩ := sz_some wd10
  refine anyI_any (I := fun w => Has w (N + 1) 23 32 (fun j => By (sb j))) _ _ _ _ ?_
  refine anyI_take (i := 0) (v := .pointer (some ⟨N + 1 + 1, 0, none⟩)) rfl (by kernel_rfl) (by kernel_rfl) (by kernel_rfl) (fun _ _ _ h => h) ⟨by rfl, fun w _ => by rfl⟩ Sd10.b ?_
  refine anyI_take (i := 1) (v := .agg (cellsOf (fun j => By (sb j)) 32)) rfl (by kernel_rfl) (by kernel_rfl) (by kernel_rfl) (fun _ _ _ h => h) ⟨by rfl, fun w hw => run_ld 23 (.tmp 3) rfl (N + 1) rfl 23 32 _ hw _ und23 rfl inf23⟩ Sd10.b ?_
  refine anyI_take (i := 4) (v := .agg (cellsOf (fun j => By (sb j)) 32)) rfl (by kernel_rfl) (by kernel_rfl) (by kernel_rfl) (fun _ _ _ h => h) ⟨by rfl, fun w hw => run_ld 23 (.tmp 3) rfl (N + 1) rfl 23 32 _ hw _ und23 rfl inf23⟩ Sd10.b ?_
  try simp only [Act.put, List.setIfInBounds_toArray, List.set_cons_succ, List.set_cons_zero, List.getElem_toArray, List.getElem_cons_succ, List.getElem_cons_zero]
  refine anyI_part [2, 3, 5, 6, 7] _ _ _ _ (by kernel_rfl) ?_
  simp only [List.filterMap_cons, List.filterMap_nil, List.getElem?_toArray, List.getElem?_cons_succ, List.getElem?_cons_zero]
  change wpList _ _ _ [_] _ _
  refine wpl_run rfl (.slice (some ⟨wd10.heap.size, 0, none⟩) 1 1) (wd10.alloc (.cells #[.int .u8 120] 5)) (by go_simp) ?_
  refine ⟨Has.alloc Sd10.b _, ?_⟩
  change wpList _ _ _ [_] _ _
  refine wpl_conv2 rfl 22 22 (.tmp 49) rfl _ _ _ rfl (kc wd10 #[.int .u8 120] 1 1) ?_
  refine ⟨Has.alloc Sd10.b _, ?_⟩
  change wpList _ _ _ [_] _ _
  go_wp2_with fail
  refine (Sign_any _ 1 1 (fun _ => 120) sb _ (M10 + 1) (sz_alloc hM10 _) (Sd10.t.below (below_new wd10 _ _ hM10) (Sd10.t.ltN hM10)) (by omega) (by omega) (bytes_one wd10 120 _ rfl _ _)).mono ?_
  rintro e we10 ⟨ps10, cs10, rfl, o10, _, hb10⟩
  have Se10 := Sd10.below hM10 ((below_new wd10 _ _ hM10).trans (hb10.mono (Nat.le_succ _)))
  obtain ⟨Me10, hMe10⟩ := sz_some we10
  dsimp only
  go_step
  refine ⟨Se10.b, ?_⟩
  change wpList _ _ _ [_] _ _
  go_wp2_with fail
  refine (Find_any (spendR (twoR 120 121) 0) (N + 1 + 1) sb (sD 120 sb) ps10 cs10 o10.le we10 Me10 hMe10 Se10.t (own_bytes o10) Se10.r (by show 2 ≤ 32; omega)).mono ?_
  rintro e w11 ⟨rfl, hbf10⟩
  rw [fr_first 120 121 (by decide) sb]
  have S11 := Se10.below hMe10 hbf10
  clear Sd10 Se10 hb10 hbf10 o10
  dsimp only
  go_step
  refine ⟨S11.b, ?_⟩
  change wpList _ _ _ [_] _ _
  refine wpl_pure rfl (v := .tuple #[.int .i64 0, .int .i64 129]) (by intro w; rfl) ?_
  refine ⟨S11.b, ?_⟩
  change anyI _ _ _ _ _ _ _ _ _
  try simp only [Act.put, List.setIfInBounds_toArray, List.set_cons_succ, List.set_cons_zero, List.getElem_toArray, List.getElem_cons_succ, List.getElem_cons_zero]
  refine anyI_take (i := 8) (v := .int .i64 0) rfl (by kernel_rfl) (by kernel_rfl) (by kernel_rfl) (fun _ _ _ h => h) ⟨by rfl, fun w _ => by rfl⟩ S11.b ?_
  refine anyI_take (i := 9) (v := .int .i64 129) rfl (by kernel_rfl) (by kernel_rfl) (by kernel_rfl) (fun _ _ _ h => h) ⟨by rfl, fun w _ => by rfl⟩ S11.b ?_
  try simp only [Act.put, List.setIfInBounds_toArray, List.set_cons_succ, List.set_cons_zero, List.getElem_toArray, List.getElem_cons_succ, List.getElem_cons_zero]
  refine anyI_part [10, 11] _ _ _ _ (by kernel_rfl) ?_
  simp only [List.filterMap_cons, List.filterMap_nil, List.getElem?_toArray, List.getElem?_cons_succ, List.getElem?_cons_zero]
  change wpList _ _ _ [_] _ _
  refine wpl_pure rfl (v := .int .i64 0) (by intro w; rfl) ?_
  refine ⟨S11.b, ?_⟩
  change wpList _ _ _ [_] _ _
  refine wpl_pure rfl (v := .int .i64 129) (by intro w; rfl) ?_
  refine ⟨S11.b, ?_⟩
  change anyI _ _ _ _ _ _ _ _ _
  refine anyI_done (by kernel_rfl) ?_
  try simp only [Act.put, List.setIfInBounds_toArray, List.set_cons_succ, List.set_cons_zero, List.getElem_toArray, List.getElem_cons_succ, List.getElem_cons_zero]
  go_wp2_with fail
  refine wp_region_any (by kernel_rfl) ?_
  change wpAny _ _ _ _ _ _ _ (World.drew _)
  have Sd11 := S11.drew
  generalize World.drew w11 = wd11 at *
  clear S11
  obtain ⟨M11, hM11⟩ := sz_some wd11
  refine anyI_any (I := fun w => Has w (N + 1) 23 32 (fun j => By (sb j))) _ _ _ _ ?_
  refine anyI_take (i := 0) (v := .pointer (some ⟨N + 1 + 1, 0, none⟩)) rfl (by kernel_rfl) (by kernel_rfl) (by kernel_rfl) (fun _ _ _ h => h) ⟨by rfl, fun w _ => by rfl⟩ Sd11.b ?_
  refine anyI_take (i := 1) (v := .agg (cellsOf (fun j => By (sb j)) 32)) rfl (by kernel_rfl) (by kernel_rfl) (by kernel_rfl) (fun _ _ _ h => h) ⟨by rfl, fun w hw => run_ld 23 (.tmp 3) rfl (N + 1) rfl 23 32 _ hw _ und23 rfl inf23⟩ Sd11.b ?_
  refine anyI_take (i := 4) (v := .agg (cellsOf (fun j => By (sb j)) 32)) rfl (by kernel_rfl) (by kernel_rfl) (by kernel_rfl) (fun _ _ _ h => h) ⟨by rfl, fun w hw => run_ld 23 (.tmp 3) rfl (N + 1) rfl 23 32 _ hw _ und23 rfl inf23⟩ Sd11.b ?_
  try simp only [Act.put, List.setIfInBounds_toArray, List.set_cons_succ, List.set_cons_zero, List.getElem_toArray, List.getElem_cons_succ, List.getElem_cons_zero]
  refine anyI_part [2, 3, 5, 6, 7] _ _ _ _ (by kernel_rfl) ?_
  simp only [List.filterMap_cons, List.filterMap_nil, List.getElem?_toArray, List.getElem?_cons_succ, List.getElem?_cons_zero]
  change wpList _ _ _ [_] _ _
  refine wpl_run rfl (.slice (some ⟨wd11.heap.size, 0, none⟩) 1 1) (wd11.alloc (.cells #[.int .u8 121] 5)) (by go_simp) ?_
  refine ⟨Has.alloc Sd11.b _, ?_⟩
  change wpList _ _ _ [_] _ _
  refine wpl_conv2 rfl 22 22 (.tmp 59) rfl _ _ _ rfl (kc wd11 #[.int .u8 121] 1 1) ?_
  refine ⟨Has.alloc Sd11.b _, ?_⟩
  change wpList _ _ _ [_] _ _
  go_wp2_with fail
  refine (Sign_any _ 1 1 (fun _ => 121) sb _ (M11 + 1) (sz_alloc hM11 _) (Sd11.t.below (below_new wd11 _ _ hM11) (Sd11.t.ltN hM11)) (by omega) (by omega) (bytes_one wd11 121 _ rfl _ _)).mono ?_
  rintro e we11 ⟨ps11, cs11, rfl, o11, _, hb11⟩
  have Se11 := Sd11.below hM11 ((below_new wd11 _ _ hM11).trans (hb11.mono (Nat.le_succ _)))
  obtain ⟨Me11, hMe11⟩ := sz_some we11
  dsimp only
  go_step
  refine ⟨Se11.b, ?_⟩
  change wpList _ _ _ [_] _ _
  go_wp2_with fail
  refine (Find_any (spendR (twoR 120 121) 0) (N + 1 + 1) sb (sD 121 sb) ps11 cs11 o11.le we11 Me11 hMe11 Se11.t (own_bytes o11) Se11.r (by show 2 ≤ 32; omega)).mono ?_
  rintro e w12 ⟨rfl, hbf11⟩
  rw [fr_second 120 121 sb]
  have S12 := Se11.below hMe11 hbf11
  clear Sd11 Se11 hb11 hbf11 o11
  dsimp only
  go_step
  refine ⟨S12.b, ?_⟩
  change wpList _ _ _ [_] _ _
  refine wpl_pure rfl (v := .tuple #[.int .i64 1, .int .i64 0]) (by intro w; rfl) ?_
  refine ⟨S12.b, ?_⟩
  change anyI _ _ _ _ _ _ _ _ _
  try simp only [Act.put, List.setIfInBounds_toArray, List.set_cons_succ, List.set_cons_zero, List.getElem_toArray, List.getElem_cons_succ, List.getElem_cons_zero]
  refine anyI_take (i := 8) (v := .int .i64 1) rfl (by kernel_rfl) (by kernel_rfl) (by kernel_rfl) (fun _ _ _ h => h) ⟨by rfl, fun w _ => by rfl⟩ S12.b ?_
  refine anyI_take (i := 9) (v := .int .i64 0) rfl (by kernel_rfl) (by kernel_rfl) (by kernel_rfl) (fun _ _ _ h => h) ⟨by rfl, fun w _ => by rfl⟩ S12.b ?_
  try simp only [Act.put, List.setIfInBounds_toArray, List.set_cons_succ, List.set_cons_zero, List.getElem_toArray, List.getElem_cons_succ, List.getElem_cons_zero]
  refine anyI_part [10, 11] _ _ _ _ (by kernel_rfl) ?_
  simp only [List.filterMap_cons, List.filterMap_nil, List.getElem?_toArray, List.getElem?_cons_succ, List.getElem?_cons_zero]
  change wpList _ _ _ [_] _ _
  refine wpl_pure rfl (v := .int .i64 1) (by intro w; rfl) ?_
  refine ⟨S12.b, ?_⟩
  change wpList _ _ _ [_] _ _
  refine wpl_pure rfl (v := .int .i64 0) (by intro w; rfl) ?_
  refine ⟨S12.b, ?_⟩
  change anyI _ _ _ _ _ _ _ _ _
  refine anyI_done (by kernel_rfl) ?_
  try simp only [Act.put, List.setIfInBounds_toArray, List.set_cons_succ, List.set_cons_zero, List.getElem_toArray, List.getElem_cons_succ, List.getElem_cons_zero]
  go_wp2_with fail
  obtain ⟨M12, hM12⟩ := sz_some w12
  refine (Key_any _ 1 1 (fun _ => 120) _ (M12 + 1) (sz_alloc hM12 _) (S12.t.below (below_new w12 _ _ hM12) (S12.t.ltN hM12)) (by omega) (by omega) (bytes_one w12 120 _ rfl _ _)).mono ?_
  rintro e w13 ⟨rfl, hb13⟩
  have S13 := S12.below hM12 ((below_new w12 _ _ hM12).trans (hb13.mono (Nat.le_succ _)))
  obtain ⟨M13, hM13⟩ := sz_some w13
  go_wp2_with fail
  refine (Has_any (spendR (twoR 120 121) 0) (N + 1 + 1) (kD 120) w13 M13 hM13 S13.r (by show 2 ≤ 32; omega)).mono ?_
  rintro e w14 ⟨rfl, hb14⟩
  rw [has_first]
  have S14 := S13.below hM13 hb14
  obtain ⟨M14, hM14⟩ := sz_some w14
  clear S12 S13 hb13 hb14
  go_wp2_with fail
  refine (Key_any _ 1 1 (fun _ => 121) _ (M14 + 1) (sz_alloc hM14 _) (S14.t.below (below_new w14 _ _ hM14) (S14.t.ltN hM14)) (by omega) (by omega) (bytes_one w14 121 _ rfl _ _)).mono ?_
  rintro e w15 ⟨rfl, hb15⟩
  have S15 := S14.below hM14 ((below_new w14 _ _ hM14).trans (hb15.mono (Nat.le_succ _)))
  obtain ⟨M15, hM15⟩ := sz_some w15
  go_wp2_with fail
  refine (Has_any (spendR (twoR 120 121) 0) (N + 1 + 1) (kD 121) w15 M15 hM15 S15.r (by show 2 ≤ 32; omega)).mono ?_
  rintro e w16 ⟨rfl, hb16⟩
  rw [has_second 120 121 (by decide)]
  have S16 := S15.below hM15 hb16
  clear S14 S15 hb15 hb16
  go_wp2_with fail
  refine (Spend_out (spendR (twoR 120 121) 0) (N + 1 + 1) 2 w16 S16.r (.inr (by show ((2 : Nat) : Int) ≤ 2; omega))).mono ?_
  rintro e w17 ⟨rfl, rfl⟩
  go_wp2_with fail
  refine (Spend_out (spendR (twoR 120 121) 0) (N + 1 + 1) (-1) w16 S16.r (.inl (by omega))).mono ?_
  rintro e w17 ⟨rfl, rfl⟩
  go_wp2_with fail
  go_ret
  exact ⟨rfl, S16.q⟩
end Go.Proofs.YtnlbfaeagohheaaDoor
