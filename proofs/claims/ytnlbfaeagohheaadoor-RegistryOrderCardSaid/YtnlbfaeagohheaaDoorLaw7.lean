/- The law RegistryOrder: its walk. -/
import Derived.Test.YtnlbfaeagohheaaDoorLaw5
import Derived.Test.YtnlbfaeagohheaaDoorLaw3
namespace Go.Proofs.YtnlbfaeagohheaaDoor
open Go Go.RowKit Sha
def kB (i : Nat) : Nat → BitVec 8 := kD (BitVec.ofNat 8 i)
def keysR (k : Nat) : Rg := ⟨fun i => if i < k then kB i else fun _ => 0, fun _ => false, k⟩
theorem addR_keys (k : Nat) : addR (keysR k) (kB k) = keysR (k + 1) := by
  unfold addR keysR
  congr 1
  · funext i
    by_cases h : i = k
    · subst h; simp
    · by_cases h2 : i < k
      · have : i < k + 1 := by omega
        simp [h, h2, this]
      · have : ¬ i < k + 1 := by omega
        simp [h, h2, this]
  · funext i; simp
theorem rg0_keys : rg0 = keysR 0 := by unfold rg0 keysR; congr 1
theorem byte_ne {i j : Nat} (hi : i < 256) (hj : j < 256) (h : i ≠ j) : BitVec.ofNat 8 i ≠ BitVec.ofNat 8 j := fun e => by
  have := congrArg BitVec.toNat e
  rw [BitVec.toNat_ofNat, BitVec.toNat_ofNat] at this
  omega
theorem pl_keys (k : Nat) (hk : k < 256) : plB (keysR k) (kB k) = false := by
  unfold plB plO
  rw [find_none _ (keysR k).c (fun i hi => by
    have hi' : i < k := hi
    unfold eqK keysR
    simp only [if_pos hi']
    exact eq_key _ _ (byte_ne (by omega) hk (by omega)))]
  rfl
/-- The four keys, of which some are spent. -/
def ordR (sp : Nat → Bool) : Rg := ⟨(keysR 4).K, sp, 4⟩
theorem fit_ord (sp : Nat → Bool) (s : Nat → BitVec 8) (y i : Nat) (hy : y < 4) (hi : i < 4) : fitR (ordR sp) s (sD (BitVec.ofNat 8 y) s) i = (!sp i && decide (i = y)) := by
  unfold fitR
  have e : (ordR sp).K i = kB i := by unfold ordR keysR; simp only [if_pos hi]
  rw [e]
  show (!sp i && fitsB (kB i) s (sD (BitVec.ofNat 8 y) s)) = _
  by_cases h : i = y
  · subst h
    rw [decide_eq_true rfl, show fitsB (kB i) s (sD (BitVec.ofNat 8 i) s) = true from fits_sig 1 (fun _ => BitVec.ofNat 8 i) s]
  · rw [decide_eq_false h, show fitsB (kB i) s (sD (BitVec.ofNat 8 y) s) = false from fits_other _ _ s (byte_ne (by omega) (by omega) h)]
theorem fr_ord_no (sp : Nat → Bool) (s : Nat → BitVec 8) (y : Nat) (hy : y < 4) (h : sp y = true) : frV (frO (ordR sp) s (sD (BitVec.ofNat 8 y) s)) = .tuple #[.int .i64 0, .int .i64 129] := by
  rw [fr_none _ _ _ (fun i hi => by
    rw [fit_ord sp s y i hy hi]
    by_cases e : i = y
    · subst e; rw [h]; rfl
    · rw [decide_eq_false e, Bool.and_false])]
  rfl
theorem fr_ord_yes (sp : Nat → Bool) (s : Nat → BitVec 8) (y : Nat) (hy : y < 4) (h : sp y = false) : frV (frO (ordR sp) s (sD (BitVec.ofNat 8 y) s)) = .tuple #[.int .i64 (y : Int), .int .i64 0] := by
  rw [fr_some _ _ _ y hy (fun i hi => by
    rw [fit_ord sp s y i hy (by omega), decide_eq_false (by omega), Bool.and_false]) (by rw [fit_ord sp s y y hy hy, h]; simp)]
  rfl
theorem zer74 : (Tryd.prog.info? 74).map (fun i => (i.zero, i.size)) = some (some (.agg (cellsOf (fun _ => .bool false) 4)), 4) := by kernel_rfl
def spent1 (sp : Nat → Bool) (y : Nat) : Nat → Bool := fun i => if i = y then true else sp i
theorem upd_spent (sp : Nat → Bool) (y j : Nat) : upd (fun j => .bool (sp j)) y (.bool true) j = (.bool (spent1 sp y j) : Value) := by
  unfold upd spent1
  by_cases h : j = y
  · rw [if_pos h, if_pos h]
  · rw [if_neg h, if_neg h]
theorem v8_byte (y : Nat) (h : y < 256) : (y : Int) = v8 (BitVec.ofNat 8 y) := by
  unfold v8; rw [BitVec.toNat_ofNat, Nat.mod_eq_of_lt (by omega)]
set_option maxRecDepth 100000 in
set_option maxHeartbeats 1000000 in
theorem law_order (s : Nat → BitVec 8) (p : Option Addr) (n cap : Nat) (Z : Nat → Int) (w : World) (N : Nat) (hN : Sz w N) (hT : Tabs w) (hZ : Ats w p n (fun j => .int .i64 (Z j))) :
    Calls Tryd.prog 14 #[.agg (cellsOf (fun j => By (s j)) 32), .slice p n cap] w fun e w' => e = .returned (.bool true) ∧ Below N w w' := by
  have hTN := hT.ltN hN
  go_enter Tryd.func14, Tryd.ntmps14
  go_wp2_with (first
    | (refine wpl_box rfl 23 (.tmp 0) rfl 32 _ rfl N hN ?_; intro w1 hN1 hb1 h1)
    | (go_at_call 39; refine (New_any _ (N + 1) hN1).mono ?_; rintro e w2 ⟨rfl, hb2, r2, hN2⟩)
    | (go_at_call 34; have q2 : Below N w w2 := hb1.trans (hb2.mono (by omega)); refine (keeps_any _ (N + 1 + 1) hN2 (hT.below q2 hTN)).mono ?_; rintro e w3 ⟨rfl, hb3⟩)
    | fail)
  have S3 : St2 w N N (N + 1) s (keysR 0) w3 := by
    rw [← rg0_keys]
    exact ⟨q2.trans (hb3.mono (by omega)), (h1.below hb2 (by omega)).below hb3 (by omega), r2.below hb3 (by omega), hT.below (q2.trans (hb3.mono (by omega))) hTN⟩
  clear hb1 h1 hb2 r2 q2 hb3
  go_loopw [6] (fun i wr => ∃ k : Nat, k ≤ 4 ∧ i = .int .i64 k ∧ St2 w N N (N + 1) s (keysR k) wr)
    (fun i _ => 4 - (intOf i).toNat)
  case atStart => exact ⟨0, by omega, rfl, S3⟩
  case round =>
    clear S3
    obtain ⟨k, hk, rfl, S⟩ := hrel
    obtain ⟨M, hM⟩ := sz_some wr
    by_cases hlt : k < 4
    · have k0 : (0 : Int) ≤ (k : Int) := by omega
      have k1 : (k : Int) < 256 := by omega
      go_wp2_with fail
      refine (Key_any _ 1 1 (fun _ => BitVec.ofNat 8 k) _ (M + 1) (sz_alloc hM _) (S.t.below (below_new wr _ _ hM) (S.t.ltN hM)) (by omega) (by omega) (bytes_one wr (BitVec.ofNat 8 k) _ (v8_byte k (by omega)) _ _)).mono ?_
      rintro e w4 ⟨rfl, hb4⟩
      have S4 := S.below (by omega) hM ((below_new wr _ _ hM).trans (hb4.mono (Nat.le_succ _)))
      obtain ⟨M4, hM4⟩ := sz_some w4
      go_wp2_with fail
      refine (Add_ok (keysR k) (N + 1) (kB k) w4 M4 hM4 S4.r (by show k < 32; omega) (pl_keys k (by omega))).mono ?_
      rintro e w5 ⟨rfl, hm5, r5⟩
      rw [addR_keys] at r5
      have S5 := S4.mod hTN (by omega) (by omega) hm5 r5
      go_wp2_with fail
      exact ⟨⟨k + 1, by omega, by go_num, S5⟩, by simp [intOf]; omega⟩
    · obtain rfl : k = 4 := by omega
      go_wp2_with (first
        | (refine wpl_alloc rfl 74 rfl 4 _ zer74 M hM ?_; intro w4 hM4 hb4 h4)
        | fail)
      have S4 : St2 w N N (N + 1) s (ordR (fun _ => false)) w4 := S.below (by omega) hM hb4
      have hNM : N + 1 < M := S.r.ltN hM
      clear S hb4 hM4
      go_loopw [8] (fun i wr => ∃ (k : Nat) (sp : Nat → Bool), k ≤ n ∧ k ≤ 7 ∧ i = .int .i64 k ∧ St2 w N N (N + 1) s (ordR sp) wr ∧ Has wr M 74 4 (fun j => .bool (sp j)))
        (fun i _ => 7 - (intOf i).toNat)
      case atStart => exact ⟨0, fun _ => false, by omega, by omega, rfl, S4, h4⟩
      case round =>
        clear S4 h4
        obtain ⟨k, sp, hk, hk7, rfl, S, hsp⟩ := hrel
        obtain ⟨Bs, hBs⟩ : ∃ Bs, Bs = M := ⟨_, rfl⟩
        rw [← hBs] at hsp hNM ⊢
        clear hBs hM
        by_cases hlt : k < n ∧ k < 7
        · obtain ⟨hlt1, hlt2⟩ := hlt
          obtain ⟨bb, off, rfl, hcells⟩ := hZ (by omega)
          have hc1 := hcells k hlt1
          have hbb : bb < N := by
            have := World.block_lt_of_cell? w _ hc1
            have e : w.heap.size = N := hN
            simp only at this
            omega
          have d1 : wr.cell? ⟨bb, off + k, none⟩ = some (.int .i64 (Z k)) := by rw [S.q.cell (p := ⟨bb, off + k, none⟩) hbb]; exact hc1
          obtain ⟨y, hy, ey⟩ := wmod (Z k) 4 (by omega) (by omega)
          rw [show ((4 : Nat) : Int) = 4 from rfl] at ey
          have hl3 : decide ((k : Int) < (n : Int)) = true := by simp; omega
          have hl4 : decide ((k : Int) < 7) = true := by simp; omega
          have y0 : (0 : Int) ≤ (y : Int) := by omega
          have y1 : (y : Int) < 256 := by omega
          have y4 : (y : Int) < 4 := by omega
          have y4n : y < 4 := hy
          clear hcells
          go_wp2_with fail
          try rw [ey]
          clear ey hl3 hl4
          cases hsv : sp y
          · have hsy := hid hsv
            clear hsv
            refine wp_region_any (by kernel_rfl) ?_
            change wpAny _ _ _ _ _ _ _ (World.drew _)
            have Sd := S.drew
            have Hd : Has (World.drew wr) Bs 74 4 (fun j => .bool (sp j)) := hsp
            generalize World.drew wr = wd at *
            clear S hsp d1
            obtain ⟨M8, hM8⟩ := sz_some wd
            refine anyI_any (I := fun w => Has w N 23 32 (fun j => By (s j))) _ _ _ _ ?_
            refine anyI_take (i := 0) (v := .pointer (some ⟨N + 1, 0, none⟩)) rfl (by kernel_rfl) (by kernel_rfl) (by kernel_rfl) (fun _ _ _ h => h) ⟨by rfl, fun w _ => by rfl⟩ Sd.a ?_
            refine anyI_take (i := 1) (v := .agg (cellsOf (fun j => By (s j)) 32)) rfl (by kernel_rfl) (by kernel_rfl) (by kernel_rfl) (fun _ _ _ h => h) ⟨by rfl, fun w hw => run_ld 23 (.tmp 2) rfl N rfl 23 32 _ hw _ und23 rfl inf23⟩ Sd.a ?_
            refine anyI_take (i := 5) (v := .agg (cellsOf (fun j => By (s j)) 32)) rfl (by kernel_rfl) (by kernel_rfl) (by kernel_rfl) (fun _ _ _ h => h) ⟨by rfl, fun w hw => run_ld 23 (.tmp 2) rfl N rfl 23 32 _ hw _ und23 rfl inf23⟩ Sd.a ?_
            refine anyI_take (i := 2) (v := .int .i64 (y : Int)) rfl (by kernel_rfl) (by kernel_rfl) (by kernel_rfl) (fun _ _ _ h => h) ⟨by rfl, fun w _ => by rfl⟩ Sd.a ?_
            try simp only [Act.put, List.setIfInBounds_toArray, List.set_cons_succ, List.set_cons_zero, List.getElem_toArray, List.getElem_cons_succ, List.getElem_cons_zero]
            refine anyI_take (i := 3) (v := .int .u8 (y : Int)) rfl (by kernel_rfl) (by kernel_rfl) (by kernel_rfl) (fun _ _ _ h => h) ⟨by rfl, fun w _ => by go_simp; exact IntWalk.u8_in _ (by omega)⟩ Sd.a ?_
            try simp only [Act.put, List.setIfInBounds_toArray, List.set_cons_succ, List.set_cons_zero, List.getElem_toArray, List.getElem_cons_succ, List.getElem_cons_zero]
            refine anyI_part [4, 6, 7, 8] _ _ _ _ (by kernel_rfl) ?_
            simp only [List.filterMap_cons, List.filterMap_nil, List.getElem?_toArray, List.getElem?_cons_succ, List.getElem?_cons_zero]
            change wpList _ _ _ [_] _ _
            refine wpl_run rfl (.slice (some ⟨wd.heap.size, 0, none⟩) 1 1) (wd.alloc (.cells #[.int .u8 (y : Int)] 5)) (by go_simp) ?_
            refine ⟨Has.alloc Sd.a _, ?_⟩
            change wpList _ _ _ [_] _ _
            go_wp2_with fail
            refine (Sign_any _ 1 1 (fun _ => BitVec.ofNat 8 y) s _ (M8 + 1) (sz_alloc hM8 _) (Sd.t.below (below_new wd _ _ hM8) (Sd.t.ltN hM8)) (by omega) (by omega) (bytes_one wd (BitVec.ofNat 8 y) _ (v8_byte y (by omega)) _ _)).mono ?_
            rintro e we ⟨ps8, cs8, rfl, o8, _, hb8'⟩
            have hb8 := (below_new wd (.cells #[.int .u8 (y : Int)] 5) _ hM8).trans (hb8'.mono (Nat.le_succ _))
            have Se := Sd.below (by omega) hM8 hb8
            have He := Hd.below hb8 (Hd.ltN hM8)
            obtain ⟨Me, hMe⟩ := sz_some we
            dsimp only
            go_step
            refine ⟨Se.a, ?_⟩
            change wpList _ _ _ [_] _ _
            go_wp2_with fail
            refine (Find_any (ordR sp) (N + 1) s (sD (BitVec.ofNat 8 y) s) ps8 cs8 o8.le we Me hMe Se.t (own_bytes o8) Se.r (by show 4 ≤ 32; omega)).mono ?_
            rintro e wf ⟨rfl, hbf⟩
            rw [fr_ord_yes sp s y hy (by exact hsy.out)]
            have Sf := Se.below (by omega) hMe hbf
            have Hf := He.below hbf (He.ltN hMe)
            clear Sd Se hb8 hb8' hbf o8 Hd He
            dsimp only
            go_step
            refine ⟨Sf.a, ?_⟩
            change wpList _ _ _ [_] _ _
            refine wpl_pure rfl (v := .tuple #[.int .i64 (y : Int), .int .i64 0]) (by intro w; rfl) ?_
            refine ⟨Sf.a, ?_⟩
            change anyI _ _ _ _ _ _ _ _ _
            try simp only [Act.put, List.setIfInBounds_toArray, List.set_cons_succ, List.set_cons_zero, List.getElem_toArray, List.getElem_cons_succ, List.getElem_cons_zero]
            refine anyI_take (i := 9) (v := .int .i64 (y : Int)) rfl (by kernel_rfl) (by kernel_rfl) (by kernel_rfl) (fun _ _ _ h => h) ⟨by rfl, fun w _ => by rfl⟩ Sf.a ?_
            refine anyI_take (i := 10) (v := .int .i64 0) rfl (by kernel_rfl) (by kernel_rfl) (by kernel_rfl) (fun _ _ _ h => h) ⟨by rfl, fun w _ => by rfl⟩ Sf.a ?_
            try simp only [Act.put, List.setIfInBounds_toArray, List.set_cons_succ, List.set_cons_zero, List.getElem_toArray, List.getElem_cons_succ, List.getElem_cons_zero]
            refine anyI_part [11, 12] _ _ _ _ (by kernel_rfl) ?_
            simp only [List.filterMap_cons, List.filterMap_nil, List.getElem?_toArray, List.getElem?_cons_succ, List.getElem?_cons_zero]
            change wpList _ _ _ [_] _ _
            refine wpl_pure rfl (v := .int .i64 (y : Int)) (by intro w; rfl) ?_
            refine ⟨Sf.a, ?_⟩
            change wpList _ _ _ [_] _ _
            refine wpl_pure rfl (v := .int .i64 0) (by intro w; rfl) ?_
            refine ⟨Sf.a, ?_⟩
            change anyI _ _ _ _ _ _ _ _ _
            refine anyI_done (by kernel_rfl) ?_
            try simp only [Act.put, List.setIfInBounds_toArray, List.set_cons_succ, List.set_cons_zero, List.getElem_toArray, List.getElem_cons_succ, List.getElem_cons_zero]
            have c3 : wf.cell? ⟨Bs, y, none⟩ = some (.bool false) := by have := Hf.cell (j := y) (by omega); rw [hsy.out] at this; exact this
            go_wp2_with fail
            refine (Spend_ok (ordR sp) (N + 1) y wf Sf.r (by show y < 4; omega) (by show 4 ≤ 32; omega) hsy.out).mono ?_
            rintro e wg ⟨rfl, htg, rg⟩
            have Sg : St2 w N N (N + 1) s (ordR (spent1 sp y)) wg := Sf.mod hTN (by omega) (by omega) htg.mod rg
            have Hg := Hf.touch htg (by omega)
            clear c3 Sf Hf htg rg
            go_wp2_with (first
              | (refine wpl_set rfl 4 (.tmp 73) (.const (.bool true)) rfl Bs y rfl (.bool true) rfl inf4 rfl rfl 74 4 _ Hg (by omega) ?_; intro wh hth hh)
              | fail)
            have hNB : N + 1 < Bs := hNM
            exact ⟨⟨k + 1, spent1 sp y, by omega, by omega, by go_num, ⟨hth.below Sg.q (by omega), Sg.a.touch hth (by omega), Sg.r.touch hth (by omega), Sg.t.mod hth.mod (by omega)⟩, hh.congr (fun j _ => upd_spent sp y j)⟩, by simp [intOf]; omega⟩
          · have hsy := hid hsv
            clear hsv
            refine wp_region_any (by kernel_rfl) ?_
            change wpAny _ _ _ _ _ _ _ (World.drew _)
            have Sd := S.drew
            have Hd : Has (World.drew wr) Bs 74 4 (fun j => .bool (sp j)) := hsp
            generalize World.drew wr = wd at *
            clear S hsp d1
            obtain ⟨M8, hM8⟩ := sz_some wd
            refine anyI_any (I := fun w => Has w N 23 32 (fun j => By (s j))) _ _ _ _ ?_
            refine anyI_take (i := 0) (v := .pointer (some ⟨N + 1, 0, none⟩)) rfl (by kernel_rfl) (by kernel_rfl) (by kernel_rfl) (fun _ _ _ h => h) ⟨by rfl, fun w _ => by rfl⟩ Sd.a ?_
            refine anyI_take (i := 1) (v := .agg (cellsOf (fun j => By (s j)) 32)) rfl (by kernel_rfl) (by kernel_rfl) (by kernel_rfl) (fun _ _ _ h => h) ⟨by rfl, fun w hw => run_ld 23 (.tmp 2) rfl N rfl 23 32 _ hw _ und23 rfl inf23⟩ Sd.a ?_
            refine anyI_take (i := 5) (v := .agg (cellsOf (fun j => By (s j)) 32)) rfl (by kernel_rfl) (by kernel_rfl) (by kernel_rfl) (fun _ _ _ h => h) ⟨by rfl, fun w hw => run_ld 23 (.tmp 2) rfl N rfl 23 32 _ hw _ und23 rfl inf23⟩ Sd.a ?_
            refine anyI_take (i := 2) (v := .int .i64 (y : Int)) rfl (by kernel_rfl) (by kernel_rfl) (by kernel_rfl) (fun _ _ _ h => h) ⟨by rfl, fun w _ => by rfl⟩ Sd.a ?_
            try simp only [Act.put, List.setIfInBounds_toArray, List.set_cons_succ, List.set_cons_zero, List.getElem_toArray, List.getElem_cons_succ, List.getElem_cons_zero]
            refine anyI_take (i := 3) (v := .int .u8 (y : Int)) rfl (by kernel_rfl) (by kernel_rfl) (by kernel_rfl) (fun _ _ _ h => h) ⟨by rfl, fun w _ => by go_simp; exact IntWalk.u8_in _ (by omega)⟩ Sd.a ?_
            try simp only [Act.put, List.setIfInBounds_toArray, List.set_cons_succ, List.set_cons_zero, List.getElem_toArray, List.getElem_cons_succ, List.getElem_cons_zero]
            refine anyI_part [4, 6, 7, 8] _ _ _ _ (by kernel_rfl) ?_
            simp only [List.filterMap_cons, List.filterMap_nil, List.getElem?_toArray, List.getElem?_cons_succ, List.getElem?_cons_zero]
            change wpList _ _ _ [_] _ _
            refine wpl_run rfl (.slice (some ⟨wd.heap.size, 0, none⟩) 1 1) (wd.alloc (.cells #[.int .u8 (y : Int)] 5)) (by go_simp) ?_
            refine ⟨Has.alloc Sd.a _, ?_⟩
            change wpList _ _ _ [_] _ _
            go_wp2_with fail
            refine (Sign_any _ 1 1 (fun _ => BitVec.ofNat 8 y) s _ (M8 + 1) (sz_alloc hM8 _) (Sd.t.below (below_new wd _ _ hM8) (Sd.t.ltN hM8)) (by omega) (by omega) (bytes_one wd (BitVec.ofNat 8 y) _ (v8_byte y (by omega)) _ _)).mono ?_
            rintro e we ⟨ps8, cs8, rfl, o8, _, hb8'⟩
            have hb8 := (below_new wd (.cells #[.int .u8 (y : Int)] 5) _ hM8).trans (hb8'.mono (Nat.le_succ _))
            have Se := Sd.below (by omega) hM8 hb8
            have He := Hd.below hb8 (Hd.ltN hM8)
            obtain ⟨Me, hMe⟩ := sz_some we
            dsimp only
            go_step
            refine ⟨Se.a, ?_⟩
            change wpList _ _ _ [_] _ _
            go_wp2_with fail
            refine (Find_any (ordR sp) (N + 1) s (sD (BitVec.ofNat 8 y) s) ps8 cs8 o8.le we Me hMe Se.t (own_bytes o8) Se.r (by show 4 ≤ 32; omega)).mono ?_
            rintro e wf ⟨rfl, hbf⟩
            rw [fr_ord_no sp s y hy (by exact hsy.out)]
            have Sf := Se.below (by omega) hMe hbf
            have Hf := He.below hbf (He.ltN hMe)
            clear Sd Se hb8 hb8' hbf o8 Hd He
            dsimp only
            go_step
            refine ⟨Sf.a, ?_⟩
            change wpList _ _ _ [_] _ _
            refine wpl_pure rfl (v := .tuple #[.int .i64 0, .int .i64 129]) (by intro w; rfl) ?_
            refine ⟨Sf.a, ?_⟩
            change anyI _ _ _ _ _ _ _ _ _
            try simp only [Act.put, List.setIfInBounds_toArray, List.set_cons_succ, List.set_cons_zero, List.getElem_toArray, List.getElem_cons_succ, List.getElem_cons_zero]
            refine anyI_take (i := 9) (v := .int .i64 0) rfl (by kernel_rfl) (by kernel_rfl) (by kernel_rfl) (fun _ _ _ h => h) ⟨by rfl, fun w _ => by rfl⟩ Sf.a ?_
            refine anyI_take (i := 10) (v := .int .i64 129) rfl (by kernel_rfl) (by kernel_rfl) (by kernel_rfl) (fun _ _ _ h => h) ⟨by rfl, fun w _ => by rfl⟩ Sf.a ?_
            try simp only [Act.put, List.setIfInBounds_toArray, List.set_cons_succ, List.set_cons_zero, List.getElem_toArray, List.getElem_cons_succ, List.getElem_cons_zero]
            refine anyI_part [11, 12] _ _ _ _ (by kernel_rfl) ?_
            simp only [List.filterMap_cons, List.filterMap_nil, List.getElem?_toArray, List.getElem?_cons_succ, List.getElem?_cons_zero]
            change wpList _ _ _ [_] _ _
            refine wpl_pure rfl (v := .int .i64 0) (by intro w; rfl) ?_
            refine ⟨Sf.a, ?_⟩
            change wpList _ _ _ [_] _ _
            refine wpl_pure rfl (v := .int .i64 129) (by intro w; rfl) ?_
            refine ⟨Sf.a, ?_⟩
            change anyI _ _ _ _ _ _ _ _ _
            refine anyI_done (by kernel_rfl) ?_
            try simp only [Act.put, List.setIfInBounds_toArray, List.set_cons_succ, List.set_cons_zero, List.getElem_toArray, List.getElem_cons_succ, List.getElem_cons_zero]
            have c3 : wf.cell? ⟨Bs, y, none⟩ = some (.bool true) := by have := Hf.cell (j := y) (by omega); rw [hsy.out] at this; exact this
            go_wp2_with fail
            exact ⟨⟨k + 1, sp, by omega, by omega, by go_num, Sf, Hf⟩, by simp [intOf]; omega⟩
        · have hend : (¬ k < n) ∨ (k < n ∧ ¬ k < 7) := by omega
          rcases hend with hc | ⟨hc, hc7⟩
          · have hl3 : decide ((k : Int) < (n : Int)) = false := by simp; omega
            go_wp2_with fail
            refine (Len_any (ordR sp) (N + 1) wr S.r).mono ?_
            rintro e wz ⟨rfl, rfl⟩
            rw [show (ordR sp).c = 4 from rfl]
            go_wp2_with fail
            go_ret
            exact ⟨rfl, S.q⟩
          · have hl3 : decide ((k : Int) < (n : Int)) = true := by simp; omega
            have hl4 : decide ((k : Int) < 7) = false := by simp; omega
            go_wp2_with fail
            refine (Len_any (ordR sp) (N + 1) wr S.r).mono ?_
            rintro e wz ⟨rfl, rfl⟩
            rw [show (ordR sp).c = 4 from rfl]
            go_wp2_with fail
            go_ret
            exact ⟨rfl, S.q⟩
end Go.Proofs.YtnlbfaeagohheaaDoor
