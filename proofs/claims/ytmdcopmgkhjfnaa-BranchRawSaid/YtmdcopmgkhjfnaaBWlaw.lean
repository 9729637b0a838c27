/- BranchRaw: the walk. -/
import Derived.Test.YtmdcopmgkhjfnaaBWx
namespace Go.Proofs.Ytmdcopmgkhjfnaa
open Go Go.RowKit
set_option maxRecDepth 100000 in
set_option maxHeartbeats 8000000 in
theorem law_braw (a : Rn) (b : Rn) (d : Nat → W) (w : World) (N : Nat) (hN : Sz w N) : Calls Try.prog 12 #[rV a, rV b, (Value.agg (cellsOf (dC d) 2))] w fun e w' => e = .returned (.bool true) ∧ Below N w w' := by
 unfold rV
 go_enter Try.func12, Try.ntmps12
 go_upto_region 1 with (first
  | (refine wpl_box rfl 34 (.tmp 0) rfl 6 _ rfl (N) hN ?_; intro w1 hN1 hb1 hh1)
  | (refine wpl_box rfl 34 (.tmp 1) rfl 6 _ rfl (N + 1) hN1 ?_; intro w2 hN2 hb2 hh2)
  | (refine wpl_box rfl 23 (.tmp 2) rfl 2 _ rfl (N + 1 + 1) hN2 ?_; intro w3 hN3 hb3 hh3)
  | fail)
 have lo0 : Below N w w3 := ((hb1.trans (hb2.mono (by omega))).trans (hb3.mono (by omega)))
 have k1 := ((hh1.below hb2 (by omega)).below hb3 (by omega))
 have k2 := (hh2.below hb3 (by omega))
 have k3 := hh3
 clear hh1 hb1 hh2 hb2 hh3 hb3 hN1 hN2
 go_wp2_with fail
 go_loopg [7, 8, 9, 10, 11, 12, 13] (15) (fun g x7 x8 x9 x10 x11 x12 x13 wr => ∃ k : Nat, k ≤ 15 ∧ g = 15 - k ∧ x7 = .int .i64 (k : Int) ∧ Has wr N 34 6 (rC a) ∧ Has wr (N + 1) 34 6 (rC b) ∧ Has wr (N + 1 + 1) 23 2 (dC d) ∧ Below N w wr)
 case atStart => exact ⟨0, by omega, rfl, rfl, k1, k2, k3, lo0⟩
 case round =>
  clear k1 k2 k3 lo0
  obtain ⟨k, hkk, rfl, rfl, k4, k5, k6, lo7⟩ := hrel
  obtain ⟨M8, hM8⟩ := sz_some wr
  have lt_9 := k4.ltN hM8
  have lt_10 := k5.ltN hM8
  have lt_11 := k6.ltN hM8
  have k0 : (0 : Int) ≤ (k : Int) := by omega
  by_cases hlt : k < 15
  ·have t1 : (k : Int) < 15 := by omega
   go_upto_region 2 with fail
   refine wp_region_later1 (M8) ?_
   try simp only [pA]
   iterate 2 (go_big_quiet_step (fail))
   refine wpQuiet_nil (laterE hM8 ?_)
   intro xw12 M13 hbxw12 hM13 lM13
   have k14 := k4.below hbxw12 (by omega)
   have k15 := k5.below hbxw12 (by omega)
   have k16 := k6.below hbxw12 (by omega)
   have lo17 := lo7.trans (hbxw12.mono (by omega))
   clear k4 k5 k6 lo7 hbxw12
   go_upto_region 4 with fail
   refine wp_region_later1 (M13) ?_
   try simp only [pA]
   go_big_quiet_step (fail)
   refine wpQuiet_nil (laterE hM13 ?_)
   intro xw18 M19 hbxw18 hM19 lM19
   have k20 := k14.below hbxw18 (by omega)
   have k21 := k15.below hbxw18 (by omega)
   have k22 := k16.below hbxw18 (by omega)
   have lo23 := lo17.trans (hbxw18.mono (by omega))
   clear k14 k15 k16 lo17 hbxw18
   go_wp2_with fail
   go_loopg [8, 9, 10, 11, 12, 13] (4) (fun g x8 x9 x10 x11 x12 x13 wr => ∃ i : Nat, i ≤ 4 ∧ g = 4 - i ∧ x8 = .int .i64 (i : Int) ∧ Has wr N 34 6 (rC a) ∧ Has wr (N + 1) 34 6 (rC b) ∧ Has wr (N + 1 + 1) 23 2 (dC d) ∧ Below N w wr)
   case atStart => exact ⟨0, by omega, rfl, rfl, k20, k21, k22, lo23⟩
   case round =>
    clear k20 k21 k22 lo23
    obtain ⟨i, hki, rfl, rfl, k24, k25, k26, lo27⟩ := hrel
    obtain ⟨M28, hM28⟩ := sz_some wr
    have lt_29 := k24.ltN hM28
    have lt_30 := k25.ltN hM28
    have lt_31 := k26.ltN hM28
    have i0 : (0 : Int) ≤ (i : Int) := by omega
    by_cases hli : i < 4
    ·have t2 : (i : Int) < 4 := by omega
     go_upto_region 5 with fail
     refine wp_region_later1 (M28) ?_
     try simp only [pA]
     iterate 2 (go_big_quiet_step (fail))
     refine wpQuiet_nil (laterE hM28 ?_)
     intro xw32 M33 hbxw32 hM33 lM33
     have k34 := k24.below hbxw32 (by omega)
     have k35 := k25.below hbxw32 (by omega)
     have k36 := k26.below hbxw32 (by omega)
     have lo37 := lo27.trans (hbxw32.mono (by omega))
     clear k24 k25 k26 lo27 hbxw32
     go_upto_region 7 with fail
     refine wp_region_later1 (M33) ?_
     try simp only [pA]
     go_big_quiet_step (fail)
     refine later_val (fun q => run_remK (x := (.tmp 22)) (y := (.const (.int .i64 2))) rfl rfl rfl (n := i) (m := 2) (by omega) q.w') (by rfl) ?_; simp only [pA]
     refine later_val (fun q => run_eqlI (x := (.tmp 23)) (y := (.const (.int .i64 0))) rfl rfl rfl (p := (((i % 2) : Nat) : Int)) (q := 0) (r := ((((i % 2) : Nat) : Int) == 0)) rfl q.w') (by rfl) ?_; simp only [pA]
     go_big_quiet_step (fail)
     refine later_val (fun q => run_quoK (x := (.tmp 25)) (y := (.const (.int .i64 2))) rfl rfl rfl (n := i) (m := 2) (by omega) q.w') (by rfl) ?_; simp only [pA]
     refine later_val (fun q => run_eqlI (x := (.tmp 26)) (y := (.const (.int .i64 0))) rfl rfl rfl (p := (((i / 2) : Nat) : Int)) (q := 0) (r := ((((i / 2) : Nat) : Int) == 0)) rfl q.w') (by rfl) ?_; simp only [pA]
     iterate 2 (go_big_quiet_step (fail))
     refine wpQuiet_nil (laterE hM33 ?_)
     intro xw38 M39 hbxw38 hM39 lM39
     have k40 := k34.below hbxw38 (by omega)
     have k41 := k35.below hbxw38 (by omega)
     have k42 := k36.below hbxw38 (by omega)
     have lo43 := lo37.trans (hbxw38.mono (by omega))
     clear k34 k35 k36 lo37 hbxw38
     go_upto_region 8 with fail
     refine wp_mid (fun ac (zb : Nat × Nat) => (((((((((((((((ac.put (some 29) (Value.int .i64 (k : Int))).put (some 30) (Value.bool ((((i % 2) : Nat) : Int) == 0))).put (some 31) (Value.agg (cellsOf (rC a) 6))).put (some 32) (Value.agg (cellsOf (rC a) 6))).put (some 33) (Value.agg (cellsOf (rC b) 6))).put (some 34) (Value.agg (cellsOf (rC b) 6))).put (some 35) (Value.bool ((((i / 2) : Nat) : Int) == 0))).put (some 36) (Value.tuple #[(Value.agg (cellsOf (rC (refF k ((((i % 2) : Nat) : Int) == 0) a b ((((i / 2) : Nat) : Int) == 0)).1) 6)), (Value.agg (cellsOf (rC (refF k ((((i % 2) : Nat) : Int) == 0) a b ((((i / 2) : Nat) : Int) == 0)).2.1) 6)), (Value.bool (refF k ((((i % 2) : Nat) : Int) == 0) a b ((((i / 2) : Nat) : Int) == 0)).2.2)])).put (some 28) (Value.tuple #[(Value.agg (cellsOf (rC (refF k ((((i % 2) : Nat) : Int) == 0) a b ((((i / 2) : Nat) : Int) == 0)).1) 6)), (Value.agg (cellsOf (rC (refF k ((((i % 2) : Nat) : Int) == 0) a b ((((i / 2) : Nat) : Int) == 0)).2.1) 6)), (Value.bool (refF k ((((i % 2) : Nat) : Int) == 0) a b ((((i / 2) : Nat) : Int) == 0)).2.2)])).put (some 37) (Value.agg (cellsOf (rC (refF k ((((i % 2) : Nat) : Int) == 0) a b ((((i / 2) : Nat) : Int) == 0)).1) 6))).put (some 38) (Value.agg (cellsOf (rC (refF k ((((i % 2) : Nat) : Int) == 0) a b ((((i / 2) : Nat) : Int) == 0)).2.1) 6))).put (some 39) (Value.bool (refF k ((((i % 2) : Nat) : Int) == 0) a b ((((i / 2) : Nat) : Int) == 0)).2.2)).put (some 11) (.pointer (some ⟨zb.1, 0, none⟩))).put (some 12) (.pointer (some ⟨zb.2, 0, none⟩))).put (some 13) (Value.bool (refF k ((((i % 2) : Nat) : Int) == 0) a b ((((i / 2) : Nat) : Int) == 0)).2.2))) (fun zb w' => Has w' zb.1 41 6 (rC (refF k ((((i % 2) : Nat) : Int) == 0) a b ((((i / 2) : Nat) : Int) == 0)).1) ∧ Has w' zb.2 41 6 (rC (refF k ((((i % 2) : Nat) : Int) == 0) a b ((((i / 2) : Nat) : Int) == 0)).2.1) ∧ zb.2 ≠ zb.1 ∧ M39 ≤ zb.1 ∧ M39 ≤ zb.2 ∧ Has w' N 34 6 (rC a) ∧ Has w' (N + 1) 34 6 (rC b) ∧ Has w' (N + 1 + 1) 23 2 (dC d) ∧ Below N w w') ?_ ?_
     ·refine wp_region_any (by kernel_rfl) ?_
      replace k40 : Has xw38.drew N 34 6 (rC a) := k40
      replace k41 : Has xw38.drew (N + 1) 34 6 (rC b) := k41
      replace k42 : Has xw38.drew (N + 1 + 1) 23 2 (dC d) := k42
      replace hM39 : Sz xw38.drew M39 := hM39
      replace lo43 : Below N w xw38.drew := lo43.drew
      change wpAny _ _ _ _ _ _ _ (World.drew _)
      generalize xw38.drew = xw45 at *
      refine wpAny_potL (lt := [10, 11]) (rem := [0, 1, 2, 3, 4, 5, 6, 7, 8, 9, 10, 11, 12, 13]) (FG M39 (fun j => if j = 0 then some (Value.int .i64 (k : Int)) else if j = 1 then some (Value.bool ((((i % 2) : Nat) : Int) == 0)) else if j = 2 then some (Value.agg (cellsOf (rC a) 6)) else if j = 3 then some (Value.agg (cellsOf (rC a) 6)) else if j = 4 then some (Value.agg (cellsOf (rC b) 6)) else if j = 5 then some (Value.agg (cellsOf (rC b) 6)) else if j = 6 then some (Value.bool ((((i / 2) : Nat) : Int) == 0)) else if j = 7 then some (Value.tuple #[(Value.agg (cellsOf (rC (refF k ((((i % 2) : Nat) : Int) == 0) a b ((((i / 2) : Nat) : Int) == 0)).1) 6)), (Value.agg (cellsOf (rC (refF k ((((i % 2) : Nat) : Int) == 0) a b ((((i / 2) : Nat) : Int) == 0)).2.1) 6)), (Value.bool (refF k ((((i % 2) : Nat) : Int) == 0) a b ((((i / 2) : Nat) : Int) == 0)).2.2)]) else if j = 8 then some (Value.tuple #[(Value.agg (cellsOf (rC (refF k ((((i % 2) : Nat) : Int) == 0) a b ((((i / 2) : Nat) : Int) == 0)).1) 6)), (Value.agg (cellsOf (rC (refF k ((((i % 2) : Nat) : Int) == 0) a b ((((i / 2) : Nat) : Int) == 0)).2.1) 6)), (Value.bool (refF k ((((i % 2) : Nat) : Int) == 0) a b ((((i / 2) : Nat) : Int) == 0)).2.2)]) else if j = 9 then some (Value.agg (cellsOf (rC (refF k ((((i % 2) : Nat) : Int) == 0) a b ((((i / 2) : Nat) : Int) == 0)).1) 6)) else if j = 10 then some (Value.agg (cellsOf (rC (refF k ((((i % 2) : Nat) : Int) == 0) a b ((((i / 2) : Nat) : Int) == 0)).2.1) 6)) else if j = 11 then some (Value.bool (refF k ((((i % 2) : Nat) : Int) == 0) a b ((((i / 2) : Nat) : Int) == 0)).2.2) else if j = 12 then none else none) (fun j => if j = 12 then (41, 6, rC zeroR) else (41, 6, rC zeroR))) (TwoN (fun j => if j = 0 then some (Value.int .i64 (k : Int)) else if j = 1 then some (Value.bool ((((i % 2) : Nat) : Int) == 0)) else if j = 2 then some (Value.agg (cellsOf (rC a) 6)) else if j = 3 then some (Value.agg (cellsOf (rC a) 6)) else if j = 4 then some (Value.agg (cellsOf (rC b) 6)) else if j = 5 then some (Value.agg (cellsOf (rC b) 6)) else if j = 6 then some (Value.bool ((((i / 2) : Nat) : Int) == 0)) else if j = 7 then some (Value.tuple #[(Value.agg (cellsOf (rC (refF k ((((i % 2) : Nat) : Int) == 0) a b ((((i / 2) : Nat) : Int) == 0)).1) 6)), (Value.agg (cellsOf (rC (refF k ((((i % 2) : Nat) : Int) == 0) a b ((((i / 2) : Nat) : Int) == 0)).2.1) 6)), (Value.bool (refF k ((((i % 2) : Nat) : Int) == 0) a b ((((i / 2) : Nat) : Int) == 0)).2.2)]) else if j = 8 then some (Value.tuple #[(Value.agg (cellsOf (rC (refF k ((((i % 2) : Nat) : Int) == 0) a b ((((i / 2) : Nat) : Int) == 0)).1) 6)), (Value.agg (cellsOf (rC (refF k ((((i % 2) : Nat) : Int) == 0) a b ((((i / 2) : Nat) : Int) == 0)).2.1) 6)), (Value.bool (refF k ((((i % 2) : Nat) : Int) == 0) a b ((((i / 2) : Nat) : Int) == 0)).2.2)]) else if j = 9 then some (Value.agg (cellsOf (rC (refF k ((((i % 2) : Nat) : Int) == 0) a b ((((i / 2) : Nat) : Int) == 0)).1) 6)) else if j = 10 then some (Value.agg (cellsOf (rC (refF k ((((i % 2) : Nat) : Int) == 0) a b ((((i / 2) : Nat) : Int) == 0)).2.1) 6)) else if j = 11 then some (Value.bool (refF k ((((i % 2) : Nat) : Int) == 0) a b ((((i / 2) : Nat) : Int) == 0)).2.2) else if j = 12 then none else none)) (Below M39 xw45) _ _ _ _ (by kernel_rfl) (size_dstG (by kernel_rfl)) (Below.refl _ _) ?_ ?_
      ·intro i hi ac wa hI ha hv
       simp only [List.mem_cons, List.not_mem_nil, or_false] at hi
       rcases hi with rfl | rfl | rfl | rfl | rfl | rfl | rfl | rfl | rfl | rfl | rfl | rfl | rfl | rfl
       ·exact potg_run rfl rfl (Value.int .i64 (k : Int)) rfl (run_mv (x := (.tmp 7)) rfl _ (ha 7 (not_dstG (by kernel_rfl)))) hM39 hI
       ·exact potg_run rfl rfl (Value.bool ((((i % 2) : Nat) : Int) == 0)) rfl (run_mv (x := (.tmp 9)) rfl _ (ha 9 (not_dstG (by kernel_rfl)))) hM39 hI
       ·exact potg_run rfl rfl (Value.agg (cellsOf (rC a) 6)) rfl (run_rw 34 (.tmp 3) rfl N (ha 3 (not_dstG (by kernel_rfl))) 34 6 _ (Has.below k40 hI (Has.ltN k40 hM39)) undRU szRU) hM39 hI
       ·obtain ⟨v2, hv2a, hv2b⟩ := hv 2 (by simp) (by kernel_rfl)
        have ev2 := hv2b.val rfl
        subst ev2
        exact potg_cl rfl rfl 38 _ _ rfl #[(Value.agg (cellsOf (rC a) 6))] (by simp only [List.map_toArray, List.map_cons, List.map_nil, (show ac.eval (.tmp 31) = (Value.agg (cellsOf (rC a) 6)) from (hv2a 31 rfl))] <;> rfl) (by kernel_rfl) (Value.agg (cellsOf (rC a) 6)) (fun K hK => To15_any a wa K hK) rfl hM39 hI
       ·exact potg_run rfl rfl (Value.agg (cellsOf (rC b) 6)) rfl (run_rw 34 (.tmp 4) rfl (N + 1) (ha 4 (not_dstG (by kernel_rfl))) 34 6 _ (Has.below k41 hI (Has.ltN k41 hM39)) undRU szRU) hM39 hI
       ·obtain ⟨v4, hv4a, hv4b⟩ := hv 4 (by simp) (by kernel_rfl)
        have ev4 := hv4b.val rfl
        subst ev4
        exact potg_cl rfl rfl 38 _ _ rfl #[(Value.agg (cellsOf (rC b) 6))] (by simp only [List.map_toArray, List.map_cons, List.map_nil, (show ac.eval (.tmp 33) = (Value.agg (cellsOf (rC b) 6)) from (hv4a 33 rfl))] <;> rfl) (by kernel_rfl) (Value.agg (cellsOf (rC b) 6)) (fun K hK => To15_any b wa K hK) rfl hM39 hI
       ·exact potg_run rfl rfl (Value.bool ((((i / 2) : Nat) : Int) == 0)) rfl (run_mv (x := (.tmp 10)) rfl _ (ha 10 (not_dstG (by kernel_rfl)))) hM39 hI
       ·obtain ⟨v0, hv0a, hv0b⟩ := hv 0 (by simp) (by kernel_rfl)
        have ev0 := hv0b.val rfl
        subst ev0
        obtain ⟨v1, hv1a, hv1b⟩ := hv 1 (by simp) (by kernel_rfl)
        have ev1 := hv1b.val rfl
        subst ev1
        obtain ⟨v3, hv3a, hv3b⟩ := hv 3 (by simp) (by kernel_rfl)
        have ev3 := hv3b.val rfl
        subst ev3
        obtain ⟨v5, hv5a, hv5b⟩ := hv 5 (by simp) (by kernel_rfl)
        have ev5 := hv5b.val rfl
        subst ev5
        obtain ⟨v6, hv6a, hv6b⟩ := hv 6 (by simp) (by kernel_rfl)
        have ev6 := hv6b.val rfl
        subst ev6
        exact potg_cl rfl rfl 40 _ _ rfl #[(Value.int .i64 (k : Int)), (Value.bool ((((i % 2) : Nat) : Int) == 0)), (Value.agg (cellsOf (rC a) 6)), (Value.agg (cellsOf (rC b) 6)), (Value.bool ((((i / 2) : Nat) : Int) == 0))] (by simp only [List.map_toArray, List.map_cons, List.map_nil, (show ac.eval (.tmp 29) = (Value.int .i64 (k : Int)) from (hv0a 29 rfl)), (show ac.eval (.tmp 30) = (Value.bool ((((i % 2) : Nat) : Int) == 0)) from (hv1a 30 rfl)), (show ac.eval (.tmp 32) = (Value.agg (cellsOf (rC a) 6)) from (hv3a 32 rfl)), (show ac.eval (.tmp 34) = (Value.agg (cellsOf (rC b) 6)) from (hv5a 34 rfl)), (show ac.eval (.tmp 35) = (Value.bool ((((i / 2) : Nat) : Int) == 0)) from (hv6a 35 rfl))] <;> rfl) (by kernel_rfl) (Value.tuple #[(Value.agg (cellsOf (rC (refF k ((((i % 2) : Nat) : Int) == 0) a b ((((i / 2) : Nat) : Int) == 0)).1) 6)), (Value.agg (cellsOf (rC (refF k ((((i % 2) : Nat) : Int) == 0) a b ((((i / 2) : Nat) : Int) == 0)).2.1) 6)), (Value.bool (refF k ((((i % 2) : Nat) : Int) == 0) a b ((((i / 2) : Nat) : Int) == 0)).2.2)]) (fun K hK => Refine_all k ((((i % 2) : Nat) : Int) == 0) a b ((((i / 2) : Nat) : Int) == 0) wa K hK) rfl hM39 hI
       ·obtain ⟨v7, hv7a, hv7b⟩ := hv 7 (by simp) (by kernel_rfl)
        have ev7 := hv7b.val rfl
        subst ev7
        exact potg_run rfl rfl (Value.tuple #[(Value.agg (cellsOf (rC (refF k ((((i % 2) : Nat) : Int) == 0) a b ((((i / 2) : Nat) : Int) == 0)).1) 6)), (Value.agg (cellsOf (rC (refF k ((((i % 2) : Nat) : Int) == 0) a b ((((i / 2) : Nat) : Int) == 0)).2.1) 6)), (Value.bool (refF k ((((i % 2) : Nat) : Int) == 0) a b ((((i / 2) : Nat) : Int) == 0)).2.2)]) rfl (run_mv (x := (.tmp 36)) rfl _ (hv7a 36 rfl)) hM39 hI
       ·obtain ⟨v8, hv8a, hv8b⟩ := hv 8 (by simp) (by kernel_rfl)
        have ev8 := hv8b.val rfl
        subst ev8
        exact potg_run rfl rfl (Value.agg (cellsOf (rC (refF k ((((i % 2) : Nat) : Int) == 0) a b ((((i / 2) : Nat) : Int) == 0)).1) 6)) rfl (run_ex (x := (.tmp 28)) rfl _ (hv8a 28 rfl) rfl) hM39 hI
       ·obtain ⟨v8, hv8a, hv8b⟩ := hv 8 (by simp) (by kernel_rfl)
        have ev8 := hv8b.val rfl
        subst ev8
        exact potg_run rfl rfl (Value.agg (cellsOf (rC (refF k ((((i % 2) : Nat) : Int) == 0) a b ((((i / 2) : Nat) : Int) == 0)).2.1) 6)) rfl (run_ex (x := (.tmp 28)) rfl _ (hv8a 28 rfl) rfl) hM39 hI
       ·obtain ⟨v8, hv8a, hv8b⟩ := hv 8 (by simp) (by kernel_rfl)
        have ev8 := hv8b.val rfl
        subst ev8
        exact potg_run rfl rfl (Value.bool (refF k ((((i % 2) : Nat) : Int) == 0) a b ((((i / 2) : Nat) : Int) == 0)).2.2) rfl (run_ex (x := (.tmp 28)) rfl _ (hv8a 28 rfl) rfl) hM39 hI
       ·exact potg_al rfl rfl rfl zeR rfl rfl hM39 hI
       ·exact potg_al rfl rfl rfl zeR rfl rfl hM39 hI
      ·intro L vals w5_44_ hb5_44_ hF hG hL
       have l0 := hL 0 (by simp) rfl
       have l1 := hL 1 (by simp) rfl
       have l2 := hL 2 (by simp) rfl
       have l3 := hL 3 (by simp) rfl
       have l4 := hL 4 (by simp) rfl
       have l5 := hL 5 (by simp) rfl
       have l6 := hL 6 (by simp) rfl
       have l7 := hL 7 (by simp) rfl
       have l8 := hL 8 (by simp) rfl
       have l9 := hL 9 (by simp) rfl
       have l12 := hL 12 (by simp) rfl
       have l13 := hL 13 (by simp) rfl
       clear hL
       cases c10 : L 10
       ·cases c11 : L 11
        ·have e_44_0 := (hF 0 (by simp) l0).val rfl
         have e_44_1 := (hF 1 (by simp) l1).val rfl
         have e_44_2 := (hF 2 (by simp) l2).val rfl
         have e_44_3 := (hF 3 (by simp) l3).val rfl
         have e_44_4 := (hF 4 (by simp) l4).val rfl
         have e_44_5 := (hF 5 (by simp) l5).val rfl
         have e_44_6 := (hF 6 (by simp) l6).val rfl
         have e_44_7 := (hF 7 (by simp) l7).val rfl
         have e_44_8 := (hF 8 (by simp) l8).val rfl
         have e_44_9 := (hF 9 (by simp) l9).val rfl
         obtain ⟨b_44_12, bl_44_12, e_44_12, h_44_12⟩ := (hF 12 (by simp) l12).al rfl rfl
         obtain ⟨b_44_13, bl_44_13, e_44_13, h_44_13⟩ := (hF 13 (by simp) l13).al rfl rfl
         have n_44_12_13 := hG 12 (by simp) 13 (by simp) (by omega) l12 l13 rfl rfl b_44_12 b_44_13 e_44_12 e_44_13
         clear hF hG
         rw [show left L [0, 1, 2, 3, 4, 5, 6, 7, 8, 9, 10, 11, 12, 13] = 2 from by simp [left, l0, l1, l2, l3, l4, l5, l6, l7, l8, l9, l12, l13, c10, c11]]
         refine wpAny_fuel (n := 5) (by kernel_rfl) ?_
         simp only [marks, puts, l0, l1, l2, l3, l4, l5, l6, l7, l8, l9, l12, l13, c10, c11, if_true, if_false, Bool.false_eq_true, dstOf, List.getElem?_toArray, List.getElem?_cons_succ, List.getElem?_cons_zero, Option.bind_some, Act.put, List.setIfInBounds_toArray, List.set_cons_succ, List.set_cons_zero, e_44_0, e_44_1, e_44_2, e_44_3, e_44_4, e_44_5, e_44_6, e_44_7, e_44_8, e_44_9, e_44_12, e_44_13]
         clear e_44_0 e_44_1 e_44_2 e_44_3 e_44_4 e_44_5 e_44_6 e_44_7 e_44_8 e_44_9 e_44_12 e_44_13 l0 l1 l2 l3 l4 l5 l6 l7 l8 l9 l12 l13 c10 c11
         have k46 := k40.below hb5_44_ (by omega)
         have k47 := k41.below hb5_44_ (by omega)
         have k48 := k42.below hb5_44_ (by omega)
         have lo49 := lo43.trans (hb5_44_.mono (by omega))
         obtain ⟨M5, hM5⟩ := sz_some w5_44_
         have lM5 := below_sz hb5_44_ hM39 hM5
         clear k40 k41 k42 lo43 hb5_44_
         refine wpAny_of_held (S := fun _ => True) _ _ _ _ ?_
         refine held_take (i := 10) (v := (Value.agg (cellsOf (rC (refF k ((((i % 2) : Nat) : Int) == 0) a b ((((i / 2) : Nat) : Int) == 0)).2.1) 6))) (d := some 38) rfl (by kernel_rfl) (by kernel_rfl) (by kernel_rfl) (by kernel_rfl) (fun _ _ _ h => by cases h.1) (Or.inl ⟨by rfl, fun wq _ => run_ex (x := (.tmp 28)) rfl wq rfl rfl⟩) trivial ?_; simp only [pA]
         refine held_take (i := 11) (v := (Value.bool (refF k ((((i % 2) : Nat) : Int) == 0) a b ((((i / 2) : Nat) : Int) == 0)).2.2)) (d := some 39) rfl (by kernel_rfl) (by kernel_rfl) (by kernel_rfl) (by kernel_rfl) (fun _ _ _ h => by cases h.1) (Or.inl ⟨by rfl, fun wq _ => run_ex (x := (.tmp 28)) rfl wq rfl rfl⟩) trivial ?_; simp only [pA]
         refine wpAnyH_all (rs := [14]) (by kernel_rfl) (by simp) ?_
         intro iq hiq; simp only [List.mem_singleton] at hiq; subst hiq
         refine opg_list rfl ?_
         refine wpl_storeN (by rfl) (by kernel_rfl) 41 (.tmp 11) (.tmp 37) rfl b_44_12 6 (rC (refF k ((((i % 2) : Nat) : Int) == 0) a b ((((i / 2) : Nat) : Int) == 0)).1) rfl rfl 41 _ h_44_12 szR (fun j _ => rC_one _ j) ?_
         intro xw50 t51 k52; try simp only [pA]
         have k53 := k46.touch t51 (by omega)
         have k54 := k47.touch t51 (by omega)
         have k55 := k48.touch t51 (by omega)
         have k56 := h_44_13.touch t51 (by omega)
         have lo57 := t51.below lo49 (by omega)
         have h58 := t51.sz hM5
         clear h_44_12 k46 k47 k48 h_44_13 lo49 hM5 t51
         refine ⟨trivial, ?_⟩
         refine wpAnyH_all (rs := [15]) (by kernel_rfl) (by simp) ?_
         intro iq hiq; simp only [List.mem_singleton] at hiq; subst hiq
         refine opg_list rfl ?_
         refine wpl_storeN (by rfl) (by kernel_rfl) 41 (.tmp 12) (.tmp 38) rfl b_44_13 6 (rC (refF k ((((i % 2) : Nat) : Int) == 0) a b ((((i / 2) : Nat) : Int) == 0)).2.1) rfl rfl 41 _ k56 szR (fun j _ => rC_one _ j) ?_
         intro xw59 t60 k61; try simp only [pA]
         have k62 := k53.touch t60 (by omega)
         have k63 := k54.touch t60 (by omega)
         have k64 := k55.touch t60 (by omega)
         have k65 := k52.touch t60 (by omega)
         have lo66 := t60.below lo57 (by omega)
         have h67 := t60.sz h58
         clear k56 k53 k54 k55 k52 lo57 h58 t60
         refine ⟨trivial, ?_⟩
         refine wpAnyH_all (rs := [16]) (by kernel_rfl) (by simp) ?_
         intro iq hiq; simp only [List.mem_singleton] at hiq; subst hiq
         refine opg_list rfl ?_
         refine wpl_runD rfl (d := some 13) rfl (Value.bool (refF k ((((i % 2) : Nat) : Int) == 0) a b ((((i / 2) : Nat) : Int) == 0)).2.2) (run_as (x := (.tmp 39)) rfl _ rfl) ?_; simp only [pA]
         refine ⟨trivial, ?_⟩
         refine wpAnyH_done (by kernel_rfl) ?_ _
         refine ⟨rfl, (b_44_12, b_44_13), (by simp only [pA]), k65, k61, (Ne.symm n_44_12_13), bl_44_12, bl_44_13, k62, k63, k64, lo66⟩
        ·have e_44_0 := (hF 0 (by simp) l0).val rfl
         have e_44_1 := (hF 1 (by simp) l1).val rfl
         have e_44_2 := (hF 2 (by simp) l2).val rfl
         have e_44_3 := (hF 3 (by simp) l3).val rfl
         have e_44_4 := (hF 4 (by simp) l4).val rfl
         have e_44_5 := (hF 5 (by simp) l5).val rfl
         have e_44_6 := (hF 6 (by simp) l6).val rfl
         have e_44_7 := (hF 7 (by simp) l7).val rfl
         have e_44_8 := (hF 8 (by simp) l8).val rfl
         have e_44_9 := (hF 9 (by simp) l9).val rfl
         have e_44_11 := (hF 11 (by simp) c11).val rfl
         obtain ⟨b_44_12, bl_44_12, e_44_12, h_44_12⟩ := (hF 12 (by simp) l12).al rfl rfl
         obtain ⟨b_44_13, bl_44_13, e_44_13, h_44_13⟩ := (hF 13 (by simp) l13).al rfl rfl
         have n_44_12_13 := hG 12 (by simp) 13 (by simp) (by omega) l12 l13 rfl rfl b_44_12 b_44_13 e_44_12 e_44_13
         clear hF hG
         rw [show left L [0, 1, 2, 3, 4, 5, 6, 7, 8, 9, 10, 11, 12, 13] = 1 from by simp [left, l0, l1, l2, l3, l4, l5, l6, l7, l8, l9, l12, l13, c10, c11]]
         refine wpAny_fuel (n := 4) (by kernel_rfl) ?_
         simp only [marks, puts, l0, l1, l2, l3, l4, l5, l6, l7, l8, l9, l12, l13, c10, c11, if_true, if_false, Bool.false_eq_true, dstOf, List.getElem?_toArray, List.getElem?_cons_succ, List.getElem?_cons_zero, Option.bind_some, Act.put, List.setIfInBounds_toArray, List.set_cons_succ, List.set_cons_zero, e_44_0, e_44_1, e_44_2, e_44_3, e_44_4, e_44_5, e_44_6, e_44_7, e_44_8, e_44_9, e_44_11, e_44_12, e_44_13]
         clear e_44_0 e_44_1 e_44_2 e_44_3 e_44_4 e_44_5 e_44_6 e_44_7 e_44_8 e_44_9 e_44_11 e_44_12 e_44_13 l0 l1 l2 l3 l4 l5 l6 l7 l8 l9 l12 l13 c10 c11
         have k46 := k40.below hb5_44_ (by omega)
         have k47 := k41.below hb5_44_ (by omega)
         have k48 := k42.below hb5_44_ (by omega)
         have lo49 := lo43.trans (hb5_44_.mono (by omega))
         obtain ⟨M5, hM5⟩ := sz_some w5_44_
         have lM5 := below_sz hb5_44_ hM39 hM5
         clear k40 k41 k42 lo43 hb5_44_
         refine wpAny_of_held (S := fun _ => True) _ _ _ _ ?_
         refine held_take (i := 10) (v := (Value.agg (cellsOf (rC (refF k ((((i % 2) : Nat) : Int) == 0) a b ((((i / 2) : Nat) : Int) == 0)).2.1) 6))) (d := some 38) rfl (by kernel_rfl) (by kernel_rfl) (by kernel_rfl) (by kernel_rfl) (fun _ _ _ h => by cases h.1) (Or.inl ⟨by rfl, fun wq _ => run_ex (x := (.tmp 28)) rfl wq rfl rfl⟩) trivial ?_; simp only [pA]
         refine wpAnyH_all (rs := [14]) (by kernel_rfl) (by simp) ?_
         intro iq hiq; simp only [List.mem_singleton] at hiq; subst hiq
         refine opg_list rfl ?_
         refine wpl_storeN (by rfl) (by kernel_rfl) 41 (.tmp 11) (.tmp 37) rfl b_44_12 6 (rC (refF k ((((i % 2) : Nat) : Int) == 0) a b ((((i / 2) : Nat) : Int) == 0)).1) rfl rfl 41 _ h_44_12 szR (fun j _ => rC_one _ j) ?_
         intro xw50 t51 k52; try simp only [pA]
         have k53 := k46.touch t51 (by omega)
         have k54 := k47.touch t51 (by omega)
         have k55 := k48.touch t51 (by omega)
         have k56 := h_44_13.touch t51 (by omega)
         have lo57 := t51.below lo49 (by omega)
         have h58 := t51.sz hM5
         clear h_44_12 k46 k47 k48 h_44_13 lo49 hM5 t51
         refine ⟨trivial, ?_⟩
         refine wpAnyH_all (rs := [15]) (by kernel_rfl) (by simp) ?_
         intro iq hiq; simp only [List.mem_singleton] at hiq; subst hiq
         refine opg_list rfl ?_
         refine wpl_storeN (by rfl) (by kernel_rfl) 41 (.tmp 12) (.tmp 38) rfl b_44_13 6 (rC (refF k ((((i % 2) : Nat) : Int) == 0) a b ((((i / 2) : Nat) : Int) == 0)).2.1) rfl rfl 41 _ k56 szR (fun j _ => rC_one _ j) ?_
         intro xw59 t60 k61; try simp only [pA]
         have k62 := k53.touch t60 (by omega)
         have k63 := k54.touch t60 (by omega)
         have k64 := k55.touch t60 (by omega)
         have k65 := k52.touch t60 (by omega)
         have lo66 := t60.below lo57 (by omega)
         have h67 := t60.sz h58
         clear k56 k53 k54 k55 k52 lo57 h58 t60
         refine ⟨trivial, ?_⟩
         refine wpAnyH_all (rs := [16]) (by kernel_rfl) (by simp) ?_
         intro iq hiq; simp only [List.mem_singleton] at hiq; subst hiq
         refine opg_list rfl ?_
         refine wpl_runD rfl (d := some 13) rfl (Value.bool (refF k ((((i % 2) : Nat) : Int) == 0) a b ((((i / 2) : Nat) : Int) == 0)).2.2) (run_as (x := (.tmp 39)) rfl _ rfl) ?_; simp only [pA]
         refine ⟨trivial, ?_⟩
         refine wpAnyH_done (by kernel_rfl) ?_ _
         refine ⟨rfl, (b_44_12, b_44_13), (by simp only [pA]), k65, k61, (Ne.symm n_44_12_13), bl_44_12, bl_44_13, k62, k63, k64, lo66⟩
       ·cases c11 : L 11
        ·have e_44_0 := (hF 0 (by simp) l0).val rfl
         have e_44_1 := (hF 1 (by simp) l1).val rfl
         have e_44_2 := (hF 2 (by simp) l2).val rfl
         have e_44_3 := (hF 3 (by simp) l3).val rfl
         have e_44_4 := (hF 4 (by simp) l4).val rfl
         have e_44_5 := (hF 5 (by simp) l5).val rfl
         have e_44_6 := (hF 6 (by simp) l6).val rfl
         have e_44_7 := (hF 7 (by simp) l7).val rfl
         have e_44_8 := (hF 8 (by simp) l8).val rfl
         have e_44_9 := (hF 9 (by simp) l9).val rfl
         have e_44_10 := (hF 10 (by simp) c10).val rfl
         obtain ⟨b_44_12, bl_44_12, e_44_12, h_44_12⟩ := (hF 12 (by simp) l12).al rfl rfl
         obtain ⟨b_44_13, bl_44_13, e_44_13, h_44_13⟩ := (hF 13 (by simp) l13).al rfl rfl
         have n_44_12_13 := hG 12 (by simp) 13 (by simp) (by omega) l12 l13 rfl rfl b_44_12 b_44_13 e_44_12 e_44_13
         clear hF hG
         rw [show left L [0, 1, 2, 3, 4, 5, 6, 7, 8, 9, 10, 11, 12, 13] = 1 from by simp [left, l0, l1, l2, l3, l4, l5, l6, l7, l8, l9, l12, l13, c10, c11]]
         refine wpAny_fuel (n := 4) (by kernel_rfl) ?_
         simp only [marks, puts, l0, l1, l2, l3, l4, l5, l6, l7, l8, l9, l12, l13, c10, c11, if_true, if_false, Bool.false_eq_true, dstOf, List.getElem?_toArray, List.getElem?_cons_succ, List.getElem?_cons_zero, Option.bind_some, Act.put, List.setIfInBounds_toArray, List.set_cons_succ, List.set_cons_zero, e_44_0, e_44_1, e_44_2, e_44_3, e_44_4, e_44_5, e_44_6, e_44_7, e_44_8, e_44_9, e_44_10, e_44_12, e_44_13]
         clear e_44_0 e_44_1 e_44_2 e_44_3 e_44_4 e_44_5 e_44_6 e_44_7 e_44_8 e_44_9 e_44_10 e_44_12 e_44_13 l0 l1 l2 l3 l4 l5 l6 l7 l8 l9 l12 l13 c10 c11
         have k46 := k40.below hb5_44_ (by omega)
         have k47 := k41.below hb5_44_ (by omega)
         have k48 := k42.below hb5_44_ (by omega)
         have lo49 := lo43.trans (hb5_44_.mono (by omega))
         obtain ⟨M5, hM5⟩ := sz_some w5_44_
         have lM5 := below_sz hb5_44_ hM39 hM5
         clear k40 k41 k42 lo43 hb5_44_
         refine wpAny_of_held (S := fun _ => True) _ _ _ _ ?_
         refine held_take (i := 11) (v := (Value.bool (refF k ((((i % 2) : Nat) : Int) == 0) a b ((((i / 2) : Nat) : Int) == 0)).2.2)) (d := some 39) rfl (by kernel_rfl) (by kernel_rfl) (by kernel_rfl) (by kernel_rfl) (fun _ _ _ h => by cases h.1) (Or.inl ⟨by rfl, fun wq _ => run_ex (x := (.tmp 28)) rfl wq rfl rfl⟩) trivial ?_; simp only [pA]
         refine wpAnyH_all (rs := [14]) (by kernel_rfl) (by simp) ?_
         intro iq hiq; simp only [List.mem_singleton] at hiq; subst hiq
         refine opg_list rfl ?_
         refine wpl_storeN (by rfl) (by kernel_rfl) 41 (.tmp 11) (.tmp 37) rfl b_44_12 6 (rC (refF k ((((i % 2) : Nat) : Int) == 0) a b ((((i / 2) : Nat) : Int) == 0)).1) rfl rfl 41 _ h_44_12 szR (fun j _ => rC_one _ j) ?_
         intro xw50 t51 k52; try simp only [pA]
         have k53 := k46.touch t51 (by omega)
         have k54 := k47.touch t51 (by omega)
         have k55 := k48.touch t51 (by omega)
         have k56 := h_44_13.touch t51 (by omega)
         have lo57 := t51.below lo49 (by omega)
         have h58 := t51.sz hM5
         clear h_44_12 k46 k47 k48 h_44_13 lo49 hM5 t51
         refine ⟨trivial, ?_⟩
         refine wpAnyH_all (rs := [15]) (by kernel_rfl) (by simp) ?_
         intro iq hiq; simp only [List.mem_singleton] at hiq; subst hiq
         refine opg_list rfl ?_
         refine wpl_storeN (by rfl) (by kernel_rfl) 41 (.tmp 12) (.tmp 38) rfl b_44_13 6 (rC (refF k ((((i % 2) : Nat) : Int) == 0) a b ((((i / 2) : Nat) : Int) == 0)).2.1) rfl rfl 41 _ k56 szR (fun j _ => rC_one _ j) ?_
         intro xw59 t60 k61; try simp only [pA]
         have k62 := k53.touch t60 (by omega)
         have k63 := k54.touch t60 (by omega)
         have k64 := k55.touch t60 (by omega)
         have k65 := k52.touch t60 (by omega)
         have lo66 := t60.below lo57 (by omega)
         have h67 := t60.sz h58
         clear k56 k53 k54 k55 k52 lo57 h58 t60
         refine ⟨trivial, ?_⟩
         refine wpAnyH_all (rs := [16]) (by kernel_rfl) (by simp) ?_
         intro iq hiq; simp only [List.mem_singleton] at hiq; subst hiq
         refine opg_list rfl ?_
         refine wpl_runD rfl (d := some 13) rfl (Value.bool (refF k ((((i % 2) : Nat) : Int) == 0) a b ((((i / 2) : Nat) : Int) == 0)).2.2) (run_as (x := (.tmp 39)) rfl _ rfl) ?_; simp only [pA]
         refine ⟨trivial, ?_⟩
         refine wpAnyH_done (by kernel_rfl) ?_ _
         refine ⟨rfl, (b_44_12, b_44_13), (by simp only [pA]), k65, k61, (Ne.symm n_44_12_13), bl_44_12, bl_44_13, k62, k63, k64, lo66⟩
        ·have e_44_0 := (hF 0 (by simp) l0).val rfl
         have e_44_1 := (hF 1 (by simp) l1).val rfl
         have e_44_2 := (hF 2 (by simp) l2).val rfl
         have e_44_3 := (hF 3 (by simp) l3).val rfl
         have e_44_4 := (hF 4 (by simp) l4).val rfl
         have e_44_5 := (hF 5 (by simp) l5).val rfl
         have e_44_6 := (hF 6 (by simp) l6).val rfl
         have e_44_7 := (hF 7 (by simp) l7).val rfl
         have e_44_8 := (hF 8 (by simp) l8).val rfl
         have e_44_9 := (hF 9 (by simp) l9).val rfl
         have e_44_10 := (hF 10 (by simp) c10).val rfl
         have e_44_11 := (hF 11 (by simp) c11).val rfl
         obtain ⟨b_44_12, bl_44_12, e_44_12, h_44_12⟩ := (hF 12 (by simp) l12).al rfl rfl
         obtain ⟨b_44_13, bl_44_13, e_44_13, h_44_13⟩ := (hF 13 (by simp) l13).al rfl rfl
         have n_44_12_13 := hG 12 (by simp) 13 (by simp) (by omega) l12 l13 rfl rfl b_44_12 b_44_13 e_44_12 e_44_13
         clear hF hG
         rw [show left L [0, 1, 2, 3, 4, 5, 6, 7, 8, 9, 10, 11, 12, 13] = 0 from by simp [left, l0, l1, l2, l3, l4, l5, l6, l7, l8, l9, l12, l13, c10, c11]]
         refine wpAny_fuel (n := 3) (by kernel_rfl) ?_
         simp only [marks, puts, l0, l1, l2, l3, l4, l5, l6, l7, l8, l9, l12, l13, c10, c11, if_true, if_false, Bool.false_eq_true, dstOf, List.getElem?_toArray, List.getElem?_cons_succ, List.getElem?_cons_zero, Option.bind_some, Act.put, List.setIfInBounds_toArray, List.set_cons_succ, List.set_cons_zero, e_44_0, e_44_1, e_44_2, e_44_3, e_44_4, e_44_5, e_44_6, e_44_7, e_44_8, e_44_9, e_44_10, e_44_11, e_44_12, e_44_13]
         clear e_44_0 e_44_1 e_44_2 e_44_3 e_44_4 e_44_5 e_44_6 e_44_7 e_44_8 e_44_9 e_44_10 e_44_11 e_44_12 e_44_13 l0 l1 l2 l3 l4 l5 l6 l7 l8 l9 l12 l13 c10 c11
         have k46 := k40.below hb5_44_ (by omega)
         have k47 := k41.below hb5_44_ (by omega)
         have k48 := k42.below hb5_44_ (by omega)
         have lo49 := lo43.trans (hb5_44_.mono (by omega))
         obtain ⟨M5, hM5⟩ := sz_some w5_44_
         have lM5 := below_sz hb5_44_ hM39 hM5
         clear k40 k41 k42 lo43 hb5_44_
         refine wpAny_of_held (S := fun _ => True) _ _ _ _ ?_
         refine wpAnyH_all (rs := [14]) (by kernel_rfl) (by simp) ?_
         intro iq hiq; simp only [List.mem_singleton] at hiq; subst hiq
         refine opg_list rfl ?_
         refine wpl_storeN (by rfl) (by kernel_rfl) 41 (.tmp 11) (.tmp 37) rfl b_44_12 6 (rC (refF k ((((i % 2) : Nat) : Int) == 0) a b ((((i / 2) : Nat) : Int) == 0)).1) rfl rfl 41 _ h_44_12 szR (fun j _ => rC_one _ j) ?_
         intro xw50 t51 k52; try simp only [pA]
         have k53 := k46.touch t51 (by omega)
         have k54 := k47.touch t51 (by omega)
         have k55 := k48.touch t51 (by omega)
         have k56 := h_44_13.touch t51 (by omega)
         have lo57 := t51.below lo49 (by omega)
         have h58 := t51.sz hM5
         clear h_44_12 k46 k47 k48 h_44_13 lo49 hM5 t51
         refine ⟨trivial, ?_⟩
         refine wpAnyH_all (rs := [15]) (by kernel_rfl) (by simp) ?_
         intro iq hiq; simp only [List.mem_singleton] at hiq; subst hiq
         refine opg_list rfl ?_
         refine wpl_storeN (by rfl) (by kernel_rfl) 41 (.tmp 12) (.tmp 38) rfl b_44_13 6 (rC (refF k ((((i % 2) : Nat) : Int) == 0) a b ((((i / 2) : Nat) : Int) == 0)).2.1) rfl rfl 41 _ k56 szR (fun j _ => rC_one _ j) ?_
         intro xw59 t60 k61; try simp only [pA]
         have k62 := k53.touch t60 (by omega)
         have k63 := k54.touch t60 (by omega)
         have k64 := k55.touch t60 (by omega)
         have k65 := k52.touch t60 (by omega)
         have lo66 := t60.below lo57 (by omega)
         have h67 := t60.sz h58
         clear k56 k53 k54 k55 k52 lo57 h58 t60
         refine ⟨trivial, ?_⟩
         refine wpAnyH_all (rs := [16]) (by kernel_rfl) (by simp) ?_
         intro iq hiq; simp only [List.mem_singleton] at hiq; subst hiq
         refine opg_list rfl ?_
         refine wpl_runD rfl (d := some 13) rfl (Value.bool (refF k ((((i % 2) : Nat) : Int) == 0) a b ((((i / 2) : Nat) : Int) == 0)).2.2) (run_as (x := (.tmp 39)) rfl _ rfl) ?_; simp only [pA]
         refine ⟨trivial, ?_⟩
         refine wpAnyH_done (by kernel_rfl) ?_ _
         refine ⟨rfl, (b_44_12, b_44_13), (by simp only [pA]), k65, k61, (Ne.symm n_44_12_13), bl_44_12, bl_44_13, k62, k63, k64, lo66⟩
     ·clear k40 k41 k42 lo43
      rintro ⟨b_44_x0, b_44_x1⟩ xw51 ⟨k45, k46, ne52, lb_44_x0, lb_44_x1, k47, k48, k49, lo50⟩
      try dsimp only at *
      try simp only [pA]
      obtain ⟨M53, hM53⟩ := sz_some xw51
      have lt_54 := k47.ltN hM53
      have lt_55 := k48.ltN hM53
      have lt_56 := k49.ltN hM53
      have lt_57 := k45.ltN hM53
      have lt_58 := k46.ltN hM53
      go_upto_region 9 with fail
      obtain ⟨sok, esok⟩ : ∃ s, s = (refF k ((((i % 2) : Nat) : Int) == 0) a b ((((i / 2) : Nat) : Int) == 0)).2.2 := ⟨_, rfl⟩
      rw [← esok]
      have Esok := hid esok
      clear esok
      go_cut [94] (fun v wx => v = (Value.bool false) ∧ Below M53 xw51 wx)
      case first =>
       have lc := Below.refl M53 xw51
       cases h1_ : (sHas a (d 0))
       ·have H1_ := hid h1_
        clear h1_
        go_upto_region 9 with fail
        obtain ⟨c59, c60⟩ := d_cells k49
        first | refine wp_region_later1 (M53) ?_ | refine wp_region_laterL (M53) (by kernel_rfl) (by kernel_rfl) ?_
        try simp only [pA]
        refine later_row hM53 34 (.tmp 3) rfl (N) rfl 34 6 _ k47 undRU szRU (by rfl) ?_; simp only [pA]
        go_big_quiet_step (fail)
        refine later_c1 hM53 22 (.tmp 41) rfl rfl und64 rfl c59 (by rfl) ?_; simp only [pA]
        go_big_quiet_step ((go_at_call 34; exact later_of hM53 _ (fun K hK hKN => ret_is H1_.out (RSHas_any a (d 0)) _ K hK)))
        iterate 51 (go_big_quiet_step (fail))
        refine wpQuiet_nil (laterE hM53 ?_)
        intro xw61 M62 hbxw61 hM62 lM62
        have k63 := k47.below hbxw61 (by omega)
        have k64 := k48.below hbxw61 (by omega)
        have k65 := k49.below hbxw61 (by omega)
        have k66 := k45.below hbxw61 (by omega)
        have k67 := k46.below hbxw61 (by omega)
        have lo68 := lc.trans (hbxw61.mono (by omega))
        clear k47 k48 k49 c59 c60 k45 k46 lc hbxw61
        go_wp2_with fail
        go_meet
        exact ⟨by first | rfl | (simp only [H1_.out, bB] <;> rfl), lo68⟩
       ·have H1_ := hid h1_
        clear h1_
        cases h2_ : (sHas b (d 1))
        ·have H2_ := hid h2_
         clear h2_
         go_upto_region 9 with fail
         obtain ⟨c59, c60⟩ := d_cells k49
         first | refine wp_region_later1 (M53) ?_ | refine wp_region_laterL (M53) (by kernel_rfl) (by kernel_rfl) ?_
         try simp only [pA]
         refine later_row hM53 34 (.tmp 3) rfl (N) rfl 34 6 _ k47 undRU szRU (by rfl) ?_; simp only [pA]
         go_big_quiet_step (fail)
         refine later_c1 hM53 22 (.tmp 41) rfl rfl und64 rfl c59 (by rfl) ?_; simp only [pA]
         go_big_quiet_step ((go_at_call 34; exact later_of hM53 _ (fun K hK hKN => ret_is H1_.out (RSHas_any a (d 0)) _ K hK)))
         go_big_quiet_step (fail)
         refine later_row hM53 34 (.tmp 4) rfl ((N + 1)) rfl 34 6 _ k48 undRU szRU (by rfl) ?_; simp only [pA]
         go_big_quiet_step (fail)
         refine later_c1 hM53 22 (.tmp 46) rfl rfl und64 rfl c60 (by rfl) ?_; simp only [pA]
         go_big_quiet_step ((go_at_call 34; exact later_of hM53 _ (fun K hK hKN => ret_is H2_.out (RSHas_any b (d 1)) _ K hK)))
         iterate 46 (go_big_quiet_step (fail))
         refine wpQuiet_nil (laterE hM53 ?_)
         intro xw61 M62 hbxw61 hM62 lM62
         have k63 := k47.below hbxw61 (by omega)
         have k64 := k48.below hbxw61 (by omega)
         have k65 := k49.below hbxw61 (by omega)
         have k66 := k45.below hbxw61 (by omega)
         have k67 := k46.below hbxw61 (by omega)
         have lo68 := lc.trans (hbxw61.mono (by omega))
         clear k47 k48 k49 c59 c60 k45 k46 lc hbxw61
         go_wp2_with fail
         go_meet
         exact ⟨by first | rfl | (simp only [H1_.out, H2_.out, bB] <;> rfl), lo68⟩
        ·have H2_ := hid h2_
         clear h2_
         cases h3_ : (((k : Nat) : Int) != 0)
         ·have H3_ := hid h3_
          clear h3_
          go_upto_region 9 with fail
          obtain ⟨c59, c60⟩ := d_cells k49
          first | refine wp_region_later1 (M53) ?_ | refine wp_region_laterL (M53) (by kernel_rfl) (by kernel_rfl) ?_
          try simp only [pA]
          refine later_row hM53 34 (.tmp 3) rfl (N) rfl 34 6 _ k47 undRU szRU (by rfl) ?_; simp only [pA]
          go_big_quiet_step (fail)
          refine later_c1 hM53 22 (.tmp 41) rfl rfl und64 rfl c59 (by rfl) ?_; simp only [pA]
          go_big_quiet_step ((go_at_call 34; exact later_of hM53 _ (fun K hK hKN => ret_is H1_.out (RSHas_any a (d 0)) _ K hK)))
          go_big_quiet_step (fail)
          refine later_row hM53 34 (.tmp 4) rfl ((N + 1)) rfl 34 6 _ k48 undRU szRU (by rfl) ?_; simp only [pA]
          go_big_quiet_step (fail)
          refine later_c1 hM53 22 (.tmp 46) rfl rfl und64 rfl c60 (by rfl) ?_; simp only [pA]
          go_big_quiet_step ((go_at_call 34; exact later_of hM53 _ (fun K hK hKN => ret_is H2_.out (RSHas_any b (d 1)) _ K hK)))
          iterate 3 (go_big_quiet_step (fail))
          refine later_val (fun q => run_neqI (x := (.tmp 51)) (y := (.const (.int .i64 0))) rfl rfl rfl (p := ((k : Nat) : Int)) (q := 0) (r := false) H3_.out q.w') (by rfl) ?_; simp only [pA]
          iterate 42 (go_big_quiet_step (fail))
          refine wpQuiet_nil (laterE hM53 ?_)
          intro xw61 M62 hbxw61 hM62 lM62
          have k63 := k47.below hbxw61 (by omega)
          have k64 := k48.below hbxw61 (by omega)
          have k65 := k49.below hbxw61 (by omega)
          have k66 := k45.below hbxw61 (by omega)
          have k67 := k46.below hbxw61 (by omega)
          have lo68 := lc.trans (hbxw61.mono (by omega))
          clear k47 k48 k49 c59 c60 k45 k46 lc hbxw61
          go_wp2_with fail
          go_meet
          exact ⟨by first | rfl | (simp only [H1_.out, H2_.out, H3_.out, bB] <;> rfl), lo68⟩
         ·have H3_ := hid h3_
          clear h3_
          cases h4_ : (((k : Nat) : Int) != 8)
          ·have H4_ := hid h4_
           clear h4_
           go_upto_region 9 with fail
           obtain ⟨c59, c60⟩ := d_cells k49
           first | refine wp_region_later1 (M53) ?_ | refine wp_region_laterL (M53) (by kernel_rfl) (by kernel_rfl) ?_
           try simp only [pA]
           refine later_row hM53 34 (.tmp 3) rfl (N) rfl 34 6 _ k47 undRU szRU (by rfl) ?_; simp only [pA]
           go_big_quiet_step (fail)
           refine later_c1 hM53 22 (.tmp 41) rfl rfl und64 rfl c59 (by rfl) ?_; simp only [pA]
           go_big_quiet_step ((go_at_call 34; exact later_of hM53 _ (fun K hK hKN => ret_is H1_.out (RSHas_any a (d 0)) _ K hK)))
           go_big_quiet_step (fail)
           refine later_row hM53 34 (.tmp 4) rfl ((N + 1)) rfl 34 6 _ k48 undRU szRU (by rfl) ?_; simp only [pA]
           go_big_quiet_step (fail)
           refine later_c1 hM53 22 (.tmp 46) rfl rfl und64 rfl c60 (by rfl) ?_; simp only [pA]
           go_big_quiet_step ((go_at_call 34; exact later_of hM53 _ (fun K hK hKN => ret_is H2_.out (RSHas_any b (d 1)) _ K hK)))
           iterate 3 (go_big_quiet_step (fail))
           refine later_val (fun q => run_neqI (x := (.tmp 51)) (y := (.const (.int .i64 0))) rfl rfl rfl (p := ((k : Nat) : Int)) (q := 0) (r := true) H3_.out q.w') (by rfl) ?_; simp only [pA]
           iterate 3 (go_big_quiet_step (fail))
           refine later_val (fun q => run_neqI (x := (.tmp 55)) (y := (.const (.int .i64 8))) rfl rfl rfl (p := ((k : Nat) : Int)) (q := 8) (r := false) H4_.out q.w') (by rfl) ?_; simp only [pA]
           iterate 38 (go_big_quiet_step (fail))
           refine wpQuiet_nil (laterE hM53 ?_)
           intro xw61 M62 hbxw61 hM62 lM62
           have k63 := k47.below hbxw61 (by omega)
           have k64 := k48.below hbxw61 (by omega)
           have k65 := k49.below hbxw61 (by omega)
           have k66 := k45.below hbxw61 (by omega)
           have k67 := k46.below hbxw61 (by omega)
           have lo68 := lc.trans (hbxw61.mono (by omega))
           clear k47 k48 k49 c59 c60 k45 k46 lc hbxw61
           go_wp2_with fail
           go_meet
           exact ⟨by first | rfl | (simp only [H1_.out, H2_.out, H3_.out, H4_.out, bB] <;> rfl), lo68⟩
          ·have H4_ := hid h4_
           clear h4_
           cases h5_ : (((k : Nat) : Int) != 9)
           ·have H5_ := hid h5_
            clear h5_
            go_upto_region 9 with fail
            obtain ⟨c59, c60⟩ := d_cells k49
            first | refine wp_region_later1 (M53) ?_ | refine wp_region_laterL (M53) (by kernel_rfl) (by kernel_rfl) ?_
            try simp only [pA]
            refine later_row hM53 34 (.tmp 3) rfl (N) rfl 34 6 _ k47 undRU szRU (by rfl) ?_; simp only [pA]
            go_big_quiet_step (fail)
            refine later_c1 hM53 22 (.tmp 41) rfl rfl und64 rfl c59 (by rfl) ?_; simp only [pA]
            go_big_quiet_step ((go_at_call 34; exact later_of hM53 _ (fun K hK hKN => ret_is H1_.out (RSHas_any a (d 0)) _ K hK)))
            go_big_quiet_step (fail)
            refine later_row hM53 34 (.tmp 4) rfl ((N + 1)) rfl 34 6 _ k48 undRU szRU (by rfl) ?_; simp only [pA]
            go_big_quiet_step (fail)
            refine later_c1 hM53 22 (.tmp 46) rfl rfl und64 rfl c60 (by rfl) ?_; simp only [pA]
            go_big_quiet_step ((go_at_call 34; exact later_of hM53 _ (fun K hK hKN => ret_is H2_.out (RSHas_any b (d 1)) _ K hK)))
            iterate 3 (go_big_quiet_step (fail))
            refine later_val (fun q => run_neqI (x := (.tmp 51)) (y := (.const (.int .i64 0))) rfl rfl rfl (p := ((k : Nat) : Int)) (q := 0) (r := true) H3_.out q.w') (by rfl) ?_; simp only [pA]
            iterate 3 (go_big_quiet_step (fail))
            refine later_val (fun q => run_neqI (x := (.tmp 55)) (y := (.const (.int .i64 8))) rfl rfl rfl (p := ((k : Nat) : Int)) (q := 8) (r := true) H4_.out q.w') (by rfl) ?_; simp only [pA]
            iterate 3 (go_big_quiet_step (fail))
            refine later_val (fun q => run_neqI (x := (.tmp 59)) (y := (.const (.int .i64 9))) rfl rfl rfl (p := ((k : Nat) : Int)) (q := 9) (r := false) H5_.out q.w') (by rfl) ?_; simp only [pA]
            iterate 34 (go_big_quiet_step (fail))
            refine wpQuiet_nil (laterE hM53 ?_)
            intro xw61 M62 hbxw61 hM62 lM62
            have k63 := k47.below hbxw61 (by omega)
            have k64 := k48.below hbxw61 (by omega)
            have k65 := k49.below hbxw61 (by omega)
            have k66 := k45.below hbxw61 (by omega)
            have k67 := k46.below hbxw61 (by omega)
            have lo68 := lc.trans (hbxw61.mono (by omega))
            clear k47 k48 k49 c59 c60 k45 k46 lc hbxw61
            go_wp2_with fail
            go_meet
            exact ⟨by first | rfl | (simp only [H1_.out, H2_.out, H3_.out, H4_.out, H5_.out, bB] <;> rfl), lo68⟩
           ·have H5_ := hid h5_
            clear h5_
            cases h6_ : (((k : Nat) : Int) != 14)
            ·have H6_ := hid h6_
             clear h6_
             go_upto_region 9 with fail
             obtain ⟨c59, c60⟩ := d_cells k49
             first | refine wp_region_later1 (M53) ?_ | refine wp_region_laterL (M53) (by kernel_rfl) (by kernel_rfl) ?_
             try simp only [pA]
             refine later_row hM53 34 (.tmp 3) rfl (N) rfl 34 6 _ k47 undRU szRU (by rfl) ?_; simp only [pA]
             go_big_quiet_step (fail)
             refine later_c1 hM53 22 (.tmp 41) rfl rfl und64 rfl c59 (by rfl) ?_; simp only [pA]
             go_big_quiet_step ((go_at_call 34; exact later_of hM53 _ (fun K hK hKN => ret_is H1_.out (RSHas_any a (d 0)) _ K hK)))
             go_big_quiet_step (fail)
             refine later_row hM53 34 (.tmp 4) rfl ((N + 1)) rfl 34 6 _ k48 undRU szRU (by rfl) ?_; simp only [pA]
             go_big_quiet_step (fail)
             refine later_c1 hM53 22 (.tmp 46) rfl rfl und64 rfl c60 (by rfl) ?_; simp only [pA]
             go_big_quiet_step ((go_at_call 34; exact later_of hM53 _ (fun K hK hKN => ret_is H2_.out (RSHas_any b (d 1)) _ K hK)))
             iterate 3 (go_big_quiet_step (fail))
             refine later_val (fun q => run_neqI (x := (.tmp 51)) (y := (.const (.int .i64 0))) rfl rfl rfl (p := ((k : Nat) : Int)) (q := 0) (r := true) H3_.out q.w') (by rfl) ?_; simp only [pA]
             iterate 3 (go_big_quiet_step (fail))
             refine later_val (fun q => run_neqI (x := (.tmp 55)) (y := (.const (.int .i64 8))) rfl rfl rfl (p := ((k : Nat) : Int)) (q := 8) (r := true) H4_.out q.w') (by rfl) ?_; simp only [pA]
             iterate 3 (go_big_quiet_step (fail))
             refine later_val (fun q => run_neqI (x := (.tmp 59)) (y := (.const (.int .i64 9))) rfl rfl rfl (p := ((k : Nat) : Int)) (q := 9) (r := true) H5_.out q.w') (by rfl) ?_; simp only [pA]
             iterate 3 (go_big_quiet_step (fail))
             refine later_val (fun q => run_neqI (x := (.tmp 63)) (y := (.const (.int .i64 14))) rfl rfl rfl (p := ((k : Nat) : Int)) (q := 14) (r := false) H6_.out q.w') (by rfl) ?_; simp only [pA]
             iterate 30 (go_big_quiet_step (fail))
             refine wpQuiet_nil (laterE hM53 ?_)
             intro xw61 M62 hbxw61 hM62 lM62
             have k63 := k47.below hbxw61 (by omega)
             have k64 := k48.below hbxw61 (by omega)
             have k65 := k49.below hbxw61 (by omega)
             have k66 := k45.below hbxw61 (by omega)
             have k67 := k46.below hbxw61 (by omega)
             have lo68 := lc.trans (hbxw61.mono (by omega))
             clear k47 k48 k49 c59 c60 k45 k46 lc hbxw61
             go_wp2_with fail
             go_meet
             exact ⟨by first | rfl | (simp only [H1_.out, H2_.out, H3_.out, H4_.out, H5_.out, H6_.out, bB] <;> rfl), lo68⟩
            ·have H6_ := hid h6_
             clear h6_
             cases h7_ : ((holF k ((((i % 2) : Nat) : Int) == 0) (d 0) (d 1)) == ((((i / 2) : Nat) : Int) == 0))
             ·have H7_ := hid h7_
              clear h7_
              go_upto_region 9 with fail
              obtain ⟨c59, c60⟩ := d_cells k49
              first | refine wp_region_later1 (M53) ?_ | refine wp_region_laterL (M53) (by kernel_rfl) (by kernel_rfl) ?_
              try simp only [pA]
              refine later_row hM53 34 (.tmp 3) rfl (N) rfl 34 6 _ k47 undRU szRU (by rfl) ?_; simp only [pA]
              go_big_quiet_step (fail)
              refine later_c1 hM53 22 (.tmp 41) rfl rfl und64 rfl c59 (by rfl) ?_; simp only [pA]
              go_big_quiet_step ((go_at_call 34; exact later_of hM53 _ (fun K hK hKN => ret_is H1_.out (RSHas_any a (d 0)) _ K hK)))
              go_big_quiet_step (fail)
              refine later_row hM53 34 (.tmp 4) rfl ((N + 1)) rfl 34 6 _ k48 undRU szRU (by rfl) ?_; simp only [pA]
              go_big_quiet_step (fail)
              refine later_c1 hM53 22 (.tmp 46) rfl rfl und64 rfl c60 (by rfl) ?_; simp only [pA]
              go_big_quiet_step ((go_at_call 34; exact later_of hM53 _ (fun K hK hKN => ret_is H2_.out (RSHas_any b (d 1)) _ K hK)))
              iterate 3 (go_big_quiet_step (fail))
              refine later_val (fun q => run_neqI (x := (.tmp 51)) (y := (.const (.int .i64 0))) rfl rfl rfl (p := ((k : Nat) : Int)) (q := 0) (r := true) H3_.out q.w') (by rfl) ?_; simp only [pA]
              iterate 3 (go_big_quiet_step (fail))
              refine later_val (fun q => run_neqI (x := (.tmp 55)) (y := (.const (.int .i64 8))) rfl rfl rfl (p := ((k : Nat) : Int)) (q := 8) (r := true) H4_.out q.w') (by rfl) ?_; simp only [pA]
              iterate 3 (go_big_quiet_step (fail))
              refine later_val (fun q => run_neqI (x := (.tmp 59)) (y := (.const (.int .i64 9))) rfl rfl rfl (p := ((k : Nat) : Int)) (q := 9) (r := true) H5_.out q.w') (by rfl) ?_; simp only [pA]
              iterate 3 (go_big_quiet_step (fail))
              refine later_val (fun q => run_neqI (x := (.tmp 63)) (y := (.const (.int .i64 14))) rfl rfl rfl (p := ((k : Nat) : Int)) (q := 14) (r := true) H6_.out q.w') (by rfl) ?_; simp only [pA]
              iterate 5 (go_big_quiet_step (fail))
              refine later_c1 hM53 22 (.tmp 69) rfl rfl und64 rfl c59 (by rfl) ?_; simp only [pA]
              go_big_quiet_step (fail)
              refine later_c1 hM53 22 (.tmp 71) rfl rfl und64 rfl c60 (by rfl) ?_; simp only [pA]
              go_big_quiet_step ((go_at_call 37; exact later_of hM53 _ (fun K hK hKN => RHol_h k ((((i % 2) : Nat) : Int) == 0) (d 0) (d 1) _ K hK)))
              go_big_quiet_step (fail)
              refine later_val (fun q => run_eqb 4 4 (.tmp 73) (.tmp 74) rfl undBool (p := (holF k ((((i % 2) : Nat) : Int) == 0) (d 0) (d 1))) (q := ((((i / 2) : Nat) : Int) == 0)) (r := false) rfl rfl H7_.out) (by rfl) ?_; simp only [pA]
              iterate 19 (go_big_quiet_step (fail))
              refine wpQuiet_nil (laterE hM53 ?_)
              intro xw61 M62 hbxw61 hM62 lM62
              have k63 := k47.below hbxw61 (by omega)
              have k64 := k48.below hbxw61 (by omega)
              have k65 := k49.below hbxw61 (by omega)
              have k66 := k45.below hbxw61 (by omega)
              have k67 := k46.below hbxw61 (by omega)
              have lo68 := lc.trans (hbxw61.mono (by omega))
              clear k47 k48 k49 c59 c60 k45 k46 lc hbxw61
              go_wp2_with fail
              go_meet
              exact ⟨by first | rfl | (simp only [H1_.out, H2_.out, H3_.out, H4_.out, H5_.out, H6_.out, H7_.out, bB] <;> rfl), lo68⟩
             ·have H7_ := hid h7_
              clear h7_
              have FR := hid (ref_in (in_iff.1 H1_.out) (in_iff.1 H2_.out) (beq_iff_eq.1 H7_.out))
              obtain rfl : sok = true := Esok.out.trans FR.out.1
              go_upto_region 9 with fail
              obtain ⟨c59, c60⟩ := d_cells k49
              first | refine wp_region_later1 (M53) ?_ | refine wp_region_laterL (M53) (by kernel_rfl) (by kernel_rfl) ?_
              try simp only [pA]
              refine later_row hM53 34 (.tmp 3) rfl (N) rfl 34 6 _ k47 undRU szRU (by rfl) ?_; simp only [pA]
              go_big_quiet_step (fail)
              refine later_c1 hM53 22 (.tmp 41) rfl rfl und64 rfl c59 (by rfl) ?_; simp only [pA]
              go_big_quiet_step ((go_at_call 34; exact later_of hM53 _ (fun K hK hKN => ret_is H1_.out (RSHas_any a (d 0)) _ K hK)))
              go_big_quiet_step (fail)
              refine later_row hM53 34 (.tmp 4) rfl ((N + 1)) rfl 34 6 _ k48 undRU szRU (by rfl) ?_; simp only [pA]
              go_big_quiet_step (fail)
              refine later_c1 hM53 22 (.tmp 46) rfl rfl und64 rfl c60 (by rfl) ?_; simp only [pA]
              go_big_quiet_step ((go_at_call 34; exact later_of hM53 _ (fun K hK hKN => ret_is H2_.out (RSHas_any b (d 1)) _ K hK)))
              iterate 3 (go_big_quiet_step (fail))
              refine later_val (fun q => run_neqI (x := (.tmp 51)) (y := (.const (.int .i64 0))) rfl rfl rfl (p := ((k : Nat) : Int)) (q := 0) (r := true) H3_.out q.w') (by rfl) ?_; simp only [pA]
              iterate 3 (go_big_quiet_step (fail))
              refine later_val (fun q => run_neqI (x := (.tmp 55)) (y := (.const (.int .i64 8))) rfl rfl rfl (p := ((k : Nat) : Int)) (q := 8) (r := true) H4_.out q.w') (by rfl) ?_; simp only [pA]
              iterate 3 (go_big_quiet_step (fail))
              refine later_val (fun q => run_neqI (x := (.tmp 59)) (y := (.const (.int .i64 9))) rfl rfl rfl (p := ((k : Nat) : Int)) (q := 9) (r := true) H5_.out q.w') (by rfl) ?_; simp only [pA]
              iterate 3 (go_big_quiet_step (fail))
              refine later_val (fun q => run_neqI (x := (.tmp 63)) (y := (.const (.int .i64 14))) rfl rfl rfl (p := ((k : Nat) : Int)) (q := 14) (r := true) H6_.out q.w') (by rfl) ?_; simp only [pA]
              iterate 5 (go_big_quiet_step (fail))
              refine later_c1 hM53 22 (.tmp 69) rfl rfl und64 rfl c59 (by rfl) ?_; simp only [pA]
              go_big_quiet_step (fail)
              refine later_c1 hM53 22 (.tmp 71) rfl rfl und64 rfl c60 (by rfl) ?_; simp only [pA]
              go_big_quiet_step ((go_at_call 37; exact later_of hM53 _ (fun K hK hKN => RHol_h k ((((i % 2) : Nat) : Int) == 0) (d 0) (d 1) _ K hK)))
              go_big_quiet_step (fail)
              refine later_val (fun q => run_eqb 4 4 (.tmp 73) (.tmp 74) rfl undBool (p := (holF k ((((i % 2) : Nat) : Int) == 0) (d 0) (d 1))) (q := ((((i / 2) : Nat) : Int) == 0)) (r := true) rfl rfl H7_.out) (by rfl) ?_; simp only [pA]
              iterate 5 (go_big_quiet_step (fail))
              refine later_row hM53 41 (.tmp 11) rfl (b_44_x0) rfl 41 6 _ k45 undR szR (by rfl) ?_; simp only [pA]
              go_big_quiet_step (fail)
              refine later_c1 hM53 22 (.tmp 82) rfl rfl und64 rfl c59 (by rfl) ?_; simp only [pA]
              go_big_quiet_step ((go_at_call 25; exact later_of hM53 _ (fun K hK hKN => ret_is FR.out.2.1.has (SHas_any (refF k ((((i % 2) : Nat) : Int) == 0) a b ((((i / 2) : Nat) : Int) == 0)).1 (d 0)) _ K hK)))
              iterate 3 (go_big_quiet_step (fail))
              refine later_row hM53 41 (.tmp 12) rfl (b_44_x1) rfl 41 6 _ k46 undR szR (by rfl) ?_; simp only [pA]
              go_big_quiet_step (fail)
              refine later_c1 hM53 22 (.tmp 89) rfl rfl und64 rfl c60 (by rfl) ?_; simp only [pA]
              go_big_quiet_step ((go_at_call 25; exact later_of hM53 _ (fun K hK hKN => ret_is FR.out.2.2.has (SHas_any (refF k ((((i % 2) : Nat) : Int) == 0) a b ((((i / 2) : Nat) : Int) == 0)).2.1 (d 1)) _ K hK)))
              iterate 3 (go_big_quiet_step (fail))
              refine wpQuiet_nil (laterE hM53 ?_)
              intro xw61 M62 hbxw61 hM62 lM62
              have k63 := k47.below hbxw61 (by omega)
              have k64 := k48.below hbxw61 (by omega)
              have k65 := k49.below hbxw61 (by omega)
              have k66 := k45.below hbxw61 (by omega)
              have k67 := k46.below hbxw61 (by omega)
              have lo68 := lc.trans (hbxw61.mono (by omega))
              clear k47 k48 k49 c59 c60 k45 k46 lc hbxw61
              go_wp2_with fail
              go_meet
              exact ⟨by first | rfl | (simp only [H1_.out, H2_.out, H3_.out, H4_.out, H5_.out, H6_.out, H7_.out, bB] <;> rfl), lo68⟩
      case rest =>
       obtain ⟨rfl, hbxc1_⟩ := hcut
       obtain ⟨M59, hM59⟩ := sz_some wc
       have lM59 := below_sz hbxc1_ hM53 hM59
       have k60 := k47.below hbxc1_ (by omega)
       have k61 := k48.below hbxc1_ (by omega)
       have k62 := k49.below hbxc1_ (by omega)
       have k63 := k45.below hbxc1_ (by omega)
       have k64 := k46.below hbxc1_ (by omega)
       have lo65 := lo50.trans (hbxc1_.mono (by omega))
       clear k47 k48 k49 k45 k46 lo50 hbxc1_
       go_upto_region 6 with fail
       go_upto_region 6 with fail
       refine wp_region_later1 (M59) ?_
       try simp only [pA]
       iterate 3 (go_big_quiet_step (fail))
       refine wpQuiet_nil (laterE hM59 ?_)
       intro xw66 M67 hbxw66 hM67 lM67
       have k68 := k60.below hbxw66 (by omega)
       have k69 := k61.below hbxw66 (by omega)
       have k70 := k62.below hbxw66 (by omega)
       have k71 := k63.below hbxw66 (by omega)
       have k72 := k64.below hbxw66 (by omega)
       have lo73 := lo65.trans (hbxw66.mono (by omega))
       clear k60 k61 k62 k63 k64 lo65 hbxw66
       go_wp2_with fail
       go_roundg (4 - (i + 1))
       case rel => exact ⟨i + 1, by omega, rfl, by simp, k68, k69, k70, lo73⟩
       case measure => omega
    ·obtain rfl : i = 4 := by omega
     clear hli
     go_upto_region 5 with fail
     refine wp_region_later1 (M28) ?_
     try simp only [pA]
     iterate 2 (go_big_quiet_step (fail))
     refine wpQuiet_nil (laterE hM28 ?_)
     intro xw32 M33 hbxw32 hM33 lM33
     have k34 := k24.below hbxw32 (by omega)
     have k35 := k25.below hbxw32 (by omega)
     have k36 := k26.below hbxw32 (by omega)
     have lo37 := lo27.trans (hbxw32.mono (by omega))
     clear k24 k25 k26 lo27 hbxw32
     go_upto_region 3 with fail
     refine wp_region_later1 (M33) ?_
     try simp only [pA]
     iterate 3 (go_big_quiet_step (fail))
     refine wpQuiet_nil (laterE hM33 ?_)
     intro xw38 M39 hbxw38 hM39 lM39
     have k40 := k34.below hbxw38 (by omega)
     have k41 := k35.below hbxw38 (by omega)
     have k42 := k36.below hbxw38 (by omega)
     have lo43 := lo37.trans (hbxw38.mono (by omega))
     clear k34 k35 k36 lo37 hbxw38
     go_wp2_with fail
     go_roundg (15 - (k + 1))
     case rel => exact ⟨k + 1, by omega, rfl, by simp, k40, k41, k42, lo43⟩
     case measure => omega
  ·obtain rfl : k = 15 := by omega
   clear hlt
   go_upto_region 2 with fail
   refine wp_region_later1 (M8) ?_
   try simp only [pA]
   iterate 2 (go_big_quiet_step (fail))
   refine wpQuiet_nil (laterE hM8 ?_)
   intro xw12 M13 hbxw12 hM13 lM13
   have k14 := k4.below hbxw12 (by omega)
   have k15 := k5.below hbxw12 (by omega)
   have k16 := k6.below hbxw12 (by omega)
   have lo17 := lo7.trans (hbxw12.mono (by omega))
   clear k4 k5 k6 lo7 hbxw12
   go_upto_region 11 with fail
   refine wp_region_later1 (M13) ?_
   try simp only [pA]
   go_big_quiet_step ((go_at_call 35; exact later_of hM13 _ (fun K hK hKN => tells_any _ K hK)))
   go_big_quiet_step (fail)
   refine wpQuiet_nil (laterE hM13 ?_)
   intro xw18 M19 hbxw18 hM19 lM19
   have k20 := k14.below hbxw18 (by omega)
   have k21 := k15.below hbxw18 (by omega)
   have k22 := k16.below hbxw18 (by omega)
   have lo23 := lo17.trans (hbxw18.mono (by omega))
   clear k14 k15 k16 lo17 hbxw18
   go_wp2_with fail
   go_ret
   exact ⟨rfl, lo23⟩
end Go.Proofs.Ytmdcopmgkhjfnaa
