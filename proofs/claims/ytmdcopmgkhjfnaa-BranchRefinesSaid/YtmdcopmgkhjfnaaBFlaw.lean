/- BranchRefines: the walk. -/
import Derived.Test.YtmdcopmgkhjfnaaBX0
import Derived.Test.YtmdcopmgkhjfnaaSm11
namespace Go.Proofs.Ytmdcopmgkhjfnaa
open Go Go.RowKit
theorem faCe0 (b : Nat) (w : World) : (Instr.fieldAt 58 (.pointer (some ⟨b, 0, none⟩)) 0).run Try.prog w = .ok (.pointer (some ⟨b, 0, none⟩)) w := by go_simp
theorem faCe1 (b : Nat) (w : World) : (Instr.fieldAt 58 (.pointer (some ⟨b, 0, none⟩)) 1).run Try.prog w = .ok (.pointer (some ⟨b, 1, none⟩)) w := by go_simp
theorem faCe2 (b : Nat) (w : World) : (Instr.fieldAt 58 (.pointer (some ⟨b, 0, none⟩)) 2).run Try.prog w = .ok (.pointer (some ⟨b, 2, none⟩)) w := by go_simp
theorem faCe3 (b : Nat) (w : World) : (Instr.fieldAt 58 (.pointer (some ⟨b, 0, none⟩)) 3).run Try.prog w = .ok (.pointer (some ⟨b, 4, none⟩)) w := by go_simp
theorem faCe4 (b : Nat) (w : World) : (Instr.fieldAt 58 (.pointer (some ⟨b, 0, none⟩)) 4).run Try.prog w = .ok (.pointer (some ⟨b, 6, none⟩)) w := by go_simp
theorem faCe5 (b : Nat) (w : World) : (Instr.fieldAt 58 (.pointer (some ⟨b, 0, none⟩)) 5).run Try.prog w = .ok (.pointer (some ⟨b, 7, none⟩)) w := by go_simp
set_option maxRecDepth 100000 in
set_option maxHeartbeats 8000000 in
theorem law_bref (Z0 Z1 : Nat → W) (p0 p1 : Option Addr) (n0 c0 n1 c1 : Nat) (z0 z1 : Int) (u0 u1 : W) (op : Int) (l : Bool) (w : World) (N : Nat) (hN : Sz w N) (hc0 : n0 ≤ c0) (hc1 : n1 ≤ c1) (hw0 : Ats w p0 n0 (fun j => Q (Z0 j))) (hw1 : Ats w p1 n1 (fun j => Q (Z1 j))) : Calls Try.prog 10 #[(Value.agg (cellsOf (ceC ⟨p0, n0, c0, p1, n1, c1, z0, z1, u0, u1, op, l⟩) 8))] w fun e w' => e = .returned (.bool true) ∧ Below N w w' := by
 go_enter Try.func10, Try.ntmps10
 go_upto_region 1 with (first
  | (refine wpl_box rfl 58 (.tmp 0) rfl 8 _ rfl (N) hN ?_; intro w1 hN1 hb1 hh1)
  | fail)
 have lo0 : Below N w w1 := hb1
 have k1 := hh1
 clear hh1 hb1
 go_upto_region 1 with fail
 refine wp_region_lit ?_
 try simp only [pA]
 refine wpl_bs0 rfl rfl (N + 1) hN1 ?_
 intro xb1 hMxb1 hbxb1 hoxb1; simp only [pA]
 have k2 := k1.below hbxb1 (by omega)
 have lo3 := lo0.trans (hbxb1.mono (by omega))
 clear k1 lo0
 clear hbxb1
 obtain ⟨c4, c5, c6, c7, c8, c9, c10, c11⟩ := ce_cells k2
 refine wpl_run rfl (.pointer (some ⟨N, 0, none⟩)) _ (run_fa 58 (.tmp 1) 0 0 rfl rfl faCe0) ?_; simp only [pA]
 refine wpl_run rfl (.slice p0 n0 c0) _ (run_c1 27 (.tmp 19) rfl ⟨N, 0, none⟩ rfl undSQ rfl c4) ?_; simp only [pA]
 refine wpl_run rfl (.pointer (some ⟨N, 0, none⟩)) _ (run_fa 58 (.tmp 1) 0 0 rfl rfl faCe0) ?_; simp only [pA]
 refine wpl_run rfl (.slice p0 n0 c0) _ (run_c1 27 (.tmp 21) rfl ⟨N, 0, none⟩ rfl undSQ rfl c4) ?_; simp only [pA]
 refine wpl_run rfl (.int .i64 (n0 : Int)) _ (run_lenS undSQ (x := .tmp 22) rfl rfl _) ?_; simp only [pA]
 refine wpl_run rfl (.int .i64 ((min n0 8 : Nat) : Int)) _ (run_minN (n := n0) (m := 8) (x := .tmp 23) (y := .const (.int .i64 8)) rfl rfl rfl _) ?_; simp only [pA]
 refine wpl_run rfl (.slice p0 (min n0 8) c0) _ (run_slTo 27 22 undSQ szQ1 (.tmp 20) (.tmp 24) rfl rfl rfl (k := min n0 8) (by omega) _) ?_; simp only [pA]
 have hq1 := (hw0.below hN lo3).cut (m := min n0 8) (by omega)
 refine wpl_app rfl (.tmp 18) (.tmp 25) 27 rfl 22 undSQ oneQ _ 0 0 rfl _ hoxb1 _ (min n0 8) c0 rfl (fun j => Q (Z0 j)) hq1.cells (fun j _ => rfl) (by omega) ?_
 intro poa capoa xa1 oa hgr hbk hnn; simp only [pA]
 have k12 := k2.grew hgr (ne_some (by omega))
 have lo13 : Below N w xa1 := hgr.below lo3 (by have e2 : xb1.heap.size = _ := hMxb1; omega) (ge_some (by omega))
 have hgeoa : ∀ k, blk poa = some k → (N + 1) ≤ k := fun k hk => by
  have e2 : xb1.heap.size = _ := hMxb1
  rcases hbk with e | e <;> rw [e] at hk
  ·have := Option.some.inj hk; simp only at this; omega
  ·have := Option.some.inj hk; omega
 have hsz : (N + 1) + 1 ≤ xa1.heap.size := by have e2 : xb1.heap.size = _ := hMxb1; have := hgr.size; omega
 clear k2 c4 c5 c6 c7 c8 c9 c10 c11 lo3 hq1 hoxb1 hgr hbk hnn hMxb1
 obtain ⟨M14, hM14⟩ := sz_some xa1
 have lt_15 := k12.ltN hM14
 have lgoa : (N + 1) + 1 ≤ M14 := by have e3 : xa1.heap.size = _ := hM14; omega
 clear hsz
 have hltoa : ∀ k, blk poa = some k → k < M14 := fun k hk => by have := oa.lt k hk; have e2 : xa1.heap.size = _ := hM14; omega
 have nboa0 : ∀ k, blk poa = some k → k ≠ N := fun k hk => by have := hgeoa k hk; omega
 refine wpl_bsQ rfl (.const (.int .u64 5)) rfl 5#64 rfl M14 hM14 ?_
 intro xc1 hMxc1 hbxc1 hoxc1; simp only [pA]
 have k16 := k12.below hbxc1 (by omega)
 have lo17 := lo13.trans (hbxc1.mono (by omega))
 have oa2 := oa.below hbxc1 (Nat.le_of_eq hM14)
 clear k12 lo13 oa
 have oa := oa2
 clear oa2
 refine wpl_app rfl (.tmp 26) (.tmp 27) 27 rfl 22 undSQ oneQ _ _ _ rfl _ oa _ 1 1 rfl (fun _ => Q 5#64) hoxc1.ats.cells (fun j _ => rfl) (by omega) ?_
 intro qoa caqoa xd1 oaq hgr hbk hnn; simp only [pA]
 have k18 := k16.grew hgr (fun e => nboa0 _ e.symm rfl)
 have lo19 : Below N w xd1 := hgr.below lo17 (by have e2 : xc1.heap.size = _ := hMxc1; omega) (fun g hg => by have := hgeoa g hg; omega)
 have hgqoa : ∀ k, blk qoa = some k → (N + 1) ≤ k := fun k hk => by
  have e2 : xc1.heap.size = _ := hMxc1
  rcases hbk with e | e <;> rw [e] at hk
  ·exact hgeoa k hk
  ·have := Option.some.inj hk; omega
 have hsz : M14 + 1 ≤ xd1.heap.size := by have e2 : xc1.heap.size = _ := hMxc1; have := hgr.size; omega
 clear k16 lo17 oa hoxc1 hbxc1 hgr hbk hnn hltoa hMxc1 nboa0
 refine wpl_run rfl (.slice qoa (0 + min n0 8 + 1) caqoa) _ (run_as (x := .tmp 28) rfl _ rfl) ?_; simp only [pA]
 obtain ⟨M20, hM20⟩ := sz_some xd1
 have lt_21 := k18.ltN hM20
 have lhoa : M14 + 1 ≤ M20 := by have e3 : xd1.heap.size = _ := hM20; omega
 clear hsz
 have hltoaq : ∀ k, blk qoa = some k → k < M20 := fun k hk => by have := oaq.lt k hk; have e2 : xd1.heap.size = _ := hM20; omega
 clear hgeoa
 go_upto_region 2 with fail
 refine wp_region_lit ?_
 try simp only [pA]
 refine wpl_bs0 rfl rfl M20 hM20 ?_
 intro xb2 hMxb2 hbxb2 hoxb2; simp only [pA]
 have k22 := k18.below hbxb2 (by omega)
 have lo23 := lo19.trans (hbxb2.mono (by omega))
 have oaq2 := oaq.below hbxb2 (Nat.le_of_eq hM20)
 clear k18 lo19 oaq
 have oaq := oaq2
 clear oaq2
 clear hbxb2
 obtain ⟨c24, c25, c26, c27, c28, c29, c30, c31⟩ := ce_cells k22
 refine wpl_run rfl (.pointer (some ⟨N, 1, none⟩)) _ (run_fa 58 (.tmp 1) 1 1 rfl rfl faCe1) ?_; simp only [pA]
 refine wpl_run rfl (.slice p1 n1 c1) _ (run_c1 27 (.tmp 30) rfl ⟨N, 1, none⟩ rfl undSQ rfl c25) ?_; simp only [pA]
 refine wpl_run rfl (.pointer (some ⟨N, 1, none⟩)) _ (run_fa 58 (.tmp 1) 1 1 rfl rfl faCe1) ?_; simp only [pA]
 refine wpl_run rfl (.slice p1 n1 c1) _ (run_c1 27 (.tmp 32) rfl ⟨N, 1, none⟩ rfl undSQ rfl c25) ?_; simp only [pA]
 refine wpl_run rfl (.int .i64 (n1 : Int)) _ (run_lenS undSQ (x := .tmp 33) rfl rfl _) ?_; simp only [pA]
 refine wpl_run rfl (.int .i64 ((min n1 8 : Nat) : Int)) _ (run_minN (n := n1) (m := 8) (x := .tmp 34) (y := .const (.int .i64 8)) rfl rfl rfl _) ?_; simp only [pA]
 refine wpl_run rfl (.slice p1 (min n1 8) c1) _ (run_slTo 27 22 undSQ szQ1 (.tmp 31) (.tmp 35) rfl rfl rfl (k := min n1 8) (by omega) _) ?_; simp only [pA]
 have hq2 := (hw1.below hN lo23).cut (m := min n1 8) (by omega)
 refine wpl_app rfl (.tmp 29) (.tmp 36) 27 rfl 22 undSQ oneQ _ 0 0 rfl _ hoxb2 _ (min n1 8) c1 rfl (fun j => Q (Z1 j)) hq2.cells (fun j _ => rfl) (by omega) ?_
 intro pob capob xa2 ob hgr hbk hnn; simp only [pA]
 have k32 := k22.grew hgr (ne_some (by omega))
 have oaq2 := oaq.grew hgr (Or.inr (ne_blk hltoaq))
 have lo33 : Below N w xa2 := hgr.below lo23 (by have e2 : xb2.heap.size = _ := hMxb2; omega) (ge_some (by omega))
 have hgeob : ∀ k, blk pob = some k → M20 ≤ k := fun k hk => by
  have e2 : xb2.heap.size = _ := hMxb2
  rcases hbk with e | e <;> rw [e] at hk
  ·have := Option.some.inj hk; simp only at this; omega
  ·have := Option.some.inj hk; omega
 have hsz : M20 + 1 ≤ xa2.heap.size := by have e2 : xb2.heap.size = _ := hMxb2; have := hgr.size; omega
 clear k22 c24 c25 c26 c27 c28 c29 c30 c31 oaq lo23 hq2 hoxb2 hgr hbk hnn hMxb2
 have oaq := oaq2
 clear oaq2
 obtain ⟨M34, hM34⟩ := sz_some xa2
 have lt_35 := k32.ltN hM34
 have lgob : M20 + 1 ≤ M34 := by have e3 : xa2.heap.size = _ := hM34; omega
 clear hsz
 have hltob : ∀ k, blk pob = some k → k < M34 := fun k hk => by have := ob.lt k hk; have e2 : xa2.heap.size = _ := hM34; omega
 have nbob0 : ∀ k, blk pob = some k → k ≠ N := fun k hk => by have := hgeob k hk; omega
 refine wpl_bsQ rfl (.const (.int .u64 3)) rfl 3#64 rfl M34 hM34 ?_
 intro xc2 hMxc2 hbxc2 hoxc2; simp only [pA]
 have k36 := k32.below hbxc2 (by omega)
 have lo37 := lo33.trans (hbxc2.mono (by omega))
 have oaq2 := oaq.below hbxc2 (Nat.le_of_eq hM34)
 have ob2 := ob.below hbxc2 (Nat.le_of_eq hM34)
 clear k32 lo33 oaq ob
 have oaq := oaq2
 clear oaq2
 have ob := ob2
 clear ob2
 refine wpl_app rfl (.tmp 37) (.tmp 38) 27 rfl 22 undSQ oneQ _ _ _ rfl _ ob _ 1 1 rfl (fun _ => Q 3#64) hoxc2.ats.cells (fun j _ => rfl) (by omega) ?_
 intro qob caqob xd2 obq hgr hbk hnn; simp only [pA]
 have k38 := k36.grew hgr (fun e => nbob0 _ e.symm rfl)
 have oaq2 := oaq.grew hgr (apart_blk hltoaq hgeob)
 have lo39 : Below N w xd2 := hgr.below lo37 (by have e2 : xc2.heap.size = _ := hMxc2; omega) (fun g hg => by have := hgeob g hg; omega)
 have hgqob : ∀ k, blk qob = some k → M20 ≤ k := fun k hk => by
  have e2 : xc2.heap.size = _ := hMxc2
  rcases hbk with e | e <;> rw [e] at hk
  ·exact hgeob k hk
  ·have := Option.some.inj hk; omega
 have hsz : M34 + 1 ≤ xd2.heap.size := by have e2 : xc2.heap.size = _ := hMxc2; have := hgr.size; omega
 clear k36 oaq lo37 ob hoxc2 hbxc2 hgr hbk hnn hltob hMxc2 nbob0
 have oaq := oaq2
 clear oaq2
 refine wpl_run rfl (.slice qob (0 + min n1 8 + 1) caqob) _ (run_as (x := .tmp 39) rfl _ rfl) ?_; simp only [pA]
 obtain ⟨M40, hM40⟩ := sz_some xd2
 have lt_41 := k38.ltN hM40
 have lhob : M34 + 1 ≤ M40 := by have e3 : xd2.heap.size = _ := hM40; omega
 clear hsz
 clear hgeob hltoaq
 have hleoa := oaq.le
 obtain ⟨goa, rfl, hcoa⟩ := oaq.cell (by omega)
 have Loa : Ats xd2 (some ⟨goa, 0, none⟩) (0 + min n0 8 + 1) (fun j => Q (rfE n0 Z0 5#64 j)) := Ats.congr (fun _ => ⟨goa, 0, rfl, hcoa⟩) (fun j hj => rf_cells _ _ _ j hj)
 clear hcoa oaq
 obtain ⟨loa, eloa⟩ : ∃ l, l = 0 + min n0 8 + 1 := ⟨_, rfl⟩
 rw [← eloa] at Loa hleoa ⊢
 have ELoa := hid (show loa = min n0 8 + 1 by omega)
 have lboa : 1 ≤ loa ∧ loa ≤ 9 := by omega
 clear eloa
 have hleob := obq.le
 obtain ⟨gob, rfl, hcob⟩ := obq.cell (by omega)
 have Lob : Ats xd2 (some ⟨gob, 0, none⟩) (0 + min n1 8 + 1) (fun j => Q (rfE n1 Z1 3#64 j)) := Ats.congr (fun _ => ⟨gob, 0, rfl, hcob⟩) (fun j hj => rf_cells _ _ _ j hj)
 clear hcob obq
 obtain ⟨lob, elob⟩ : ∃ l, l = 0 + min n1 8 + 1 := ⟨_, rfl⟩
 rw [← elob] at Lob hleob ⊢
 have ELob := hid (show lob = min n1 8 + 1 by omega)
 have lbob : 1 ≤ lob ∧ lob ≤ 9 := by omega
 clear elob
 go_upto_region 3 with fail
 obtain ⟨c42, c43, c44, c45, c46, c47, c48, c49⟩ := ce_cells k38
 refine wp_region_later1 (M40) ?_
 try simp only [pA]
 go_big_quiet_step (fail)
 refine later_c1 hM40 27 (.tmp 40) rfl rfl undSQ rfl c43 (by rfl) ?_; simp only [pA]
 refine later_val (fun q => run_lenS undSQ (x := (.tmp 41)) rfl rfl q.w') (by rfl) ?_; simp only [pA]
 refine later_val (fun q => run_eqlI (x := (.tmp 42)) (y := (.const (.int .i64 1))) rfl rfl rfl (p := ((n1 : Nat) : Int)) (q := 1) (r := (((n1 : Nat) : Int) == 1)) rfl q.w') (by rfl) ?_; simp only [pA]
 refine wpQuiet_nil ?_
 rintro xw50 ⟨qxw50, exw50⟩
 have hbxw50 := qxw50.b
 rw [← exw50] at hbxw50
 clear qxw50 exw50
 have Loa2 := Loa.below hM40 hbxw50
 clear Loa
 have Loa := Loa2
 clear Loa2
 have Lob2 := Lob.below hM40 hbxw50
 clear Lob
 have Lob := Lob2
 clear Lob2
 obtain ⟨M51, hM51⟩ := sz_some xw50
 have lM51 := below_sz hbxw50 hM40 hM51
 have k52 := k38.below hbxw50 (by omega)
 have lo53 := lo39.trans (hbxw50.mono (by omega))
 clear k38 c42 c43 c44 c45 c46 c47 c48 c49 lo39 hbxw50
 go_upto_if 43 with fail
 obtain ⟨s43, es43⟩ : ∃ s, s = (((n1 : Nat) : Int) == 1) := ⟨_, rfl⟩
 rw [← es43]
 have Es43 := hid es43
 clear es43
 go_cut [4] (fun v wx => ∃ m c : Nat, v = .slice (some ⟨gob, 0, none⟩) m c ∧ Hid (m = rfN n1) ∧ wx = xw50)
 case first =>
  cases s43
  ·go_wp2_with fail
   go_meet
   exact ⟨lob, caqob, rfl, hid (by rw [ELob.out]; unfold rfN; rw [if_neg (fun e => by have := Es43.out; rw [e] at this; cases this)]), rfl⟩
  ·have hn1 : n1 = 1 := by have := Es43.out; have e := eq_of_beq this.symm; omega
   go_upto_region 4 with fail
   refine wp_region_lit ?_
   try simp only [pA]
   refine wpl_run rfl (.slice (some ⟨gob, 0, none⟩) lob caqob) _ (run_mv (x := .tmp 4) rfl _ rfl) ?_; simp only [pA]
   refine wpl_run rfl (.slice (some ⟨gob, 0, none⟩) 1 caqob) _ (run_slTo 27 22 undSQ szQ1 (.tmp 44) (.const (.int .i64 1)) rfl rfl rfl (k := 1) (by omega) _) ?_; simp only [pA]
   refine wpl_run rfl (.slice (some ⟨gob, 0, none⟩) 1 caqob) _ (run_as (x := .tmp 45) rfl _ rfl) ?_; simp only [pA]
   go_wp2_with fail
   go_meet
   exact ⟨1, caqob, rfl, hid (by rw [hn1]; rfl), rfl⟩
 case rest =>
  obtain ⟨mb, cmb, rfl, EMB, rfl⟩ := hcut
  have bmb : 1 ≤ mb ∧ mb ≤ lob := by have := EMB.out; have := ELob.out; have := rfN_le n1; omega
  have L2 := Ats.cut Lob bmb.2
  clear Lob
  have Lob := L2
  clear L2
  have IA := hid (arA_in (rfE n0 Z0 5#64) loa u0 (rm z0 loa) (rm_lt _ _ (by omega)))
  have IB := hid (arA_in (rfE n1 Z1 3#64) mb u1 (rm z1 mb) (rm_lt _ _ (by omega)))
  have OV := hid (ops11_ok (rm op 11) (rm_lt op 11 (by decide)))
  have RI := hid (ref_in (op := (ops11 (rm op 11))) (l := l) (h := (holF (ops11 (rm op 11)) l ((rfE n0 Z0 5#64) (rm z0 loa)) ((rfE n1 Z1 3#64) (rm z1 mb)))) IA.out IB.out rfl)
  have RN := hid (ref_nar RI.out.1)
  have F1 := hid (show (refF (ops11 (rm op 11)) l (arA (rfE n0 Z0 5#64) loa u0) (arA (rfE n1 Z1 3#64) mb u1) (holF (ops11 (rm op 11)) l ((rfE n0 Z0 5#64) (rm z0 loa)) ((rfE n1 Z1 3#64) (rm z1 mb)))).2.2 = true from RI.out.1)
  have F2 := hid (show (sHas (refF (ops11 (rm op 11)) l (arA (rfE n0 Z0 5#64) loa u0) (arA (rfE n1 Z1 3#64) mb u1) (holF (ops11 (rm op 11)) l ((rfE n0 Z0 5#64) (rm z0 loa)) ((rfE n1 Z1 3#64) (rm z1 mb)))).1 ((rfE n0 Z0 5#64) (rm z0 loa))) = true from RI.out.2.1.has)
  have F3 := hid (show (sHas (refF (ops11 (rm op 11)) l (arA (rfE n0 Z0 5#64) loa u0) (arA (rfE n1 Z1 3#64) mb u1) (holF (ops11 (rm op 11)) l ((rfE n0 Z0 5#64) (rm z0 loa)) ((rfE n1 Z1 3#64) (rm z1 mb)))).2.1 ((rfE n1 Z1 3#64) (rm z1 mb))) = true from RI.out.2.2.has)
  have F4 := hid (show (sWithin (refF (ops11 (rm op 11)) l (arA (rfE n0 Z0 5#64) loa u0) (arA (rfE n1 Z1 3#64) mb u1) (holF (ops11 (rm op 11)) l ((rfE n0 Z0 5#64) (rm z0 loa)) ((rfE n1 Z1 3#64) (rm z1 mb)))).1 (arA (rfE n0 Z0 5#64) loa u0)) = true from nar_iff.2 RN.out.1)
  have F5 := hid (show (sWithin (refF (ops11 (rm op 11)) l (arA (rfE n0 Z0 5#64) loa u0) (arA (rfE n1 Z1 3#64) mb u1) (holF (ops11 (rm op 11)) l ((rfE n0 Z0 5#64) (rm z0 loa)) ((rfE n1 Z1 3#64) (rm z1 mb)))).2.1 (arA (rfE n1 Z1 3#64) mb u1)) = true from nar_iff.2 RN.out.2)
  have ltoa := Loa.ltN (by omega) hM51
  have ltob := Lob.ltN (by omega) hM51
  go_upto_region 5 with fail
  refine wp_region_any (by kernel_rfl) ?_
  replace k52 : Has wc.drew N 58 8 (ceC ⟨p0, n0, c0, p1, n1, c1, z0, z1, u0, u1, op, l⟩) := k52
  replace hM51 : Sz wc.drew M51 := hM51
  replace Loa := Ats.drew Loa
  replace Lob := Ats.drew Lob
  replace lo53 : Below N w wc.drew := lo53.drew
  change wpAny _ _ _ _ _ _ _ (World.drew _)
  generalize wc.drew = xw54 at *
  obtain ⟨c55, c56, c57, c58, c59, c60, c61, c62⟩ := ce_cells k52
  refine wpAny_pot (rem := [0, 1, 2, 3, 4, 5, 6, 7, 8, 9, 10, 11, 12, 13]) (FG M51 (fun j => if j = 0 then some (.slice (some ⟨goa, 0, none⟩) loa caqoa) else if j = 1 then some (Value.pointer (some ⟨N, 4, none⟩)) else if j = 2 then some (Value.pointer (some ⟨N, 4, none⟩)) else if j = 3 then some (Q u0) else if j = 4 then some (Value.agg (cellsOf (rC (arA (rfE n0 Z0 5#64) loa u0)) 6)) else if j = 5 then some (Value.agg (cellsOf (rC (arA (rfE n0 Z0 5#64) loa u0)) 6)) else if j = 6 then some (.slice (some ⟨gob, 0, none⟩) mb cmb) else if j = 7 then some (Value.pointer (some ⟨N, 4, none⟩)) else if j = 8 then some (Value.pointer (some ⟨N, 5, none⟩)) else if j = 9 then some (Q u1) else if j = 10 then some (Value.agg (cellsOf (rC (arA (rfE n1 Z1 3#64) mb u1)) 6)) else if j = 11 then some (Value.agg (cellsOf (rC (arA (rfE n1 Z1 3#64) mb u1)) 6)) else if j = 12 then none else none) (fun j => if j = 12 then (41, 6, rC zeroR) else (41, 6, rC zeroR))) (TwoN (fun j => if j = 0 then some (.slice (some ⟨goa, 0, none⟩) loa caqoa) else if j = 1 then some (Value.pointer (some ⟨N, 4, none⟩)) else if j = 2 then some (Value.pointer (some ⟨N, 4, none⟩)) else if j = 3 then some (Q u0) else if j = 4 then some (Value.agg (cellsOf (rC (arA (rfE n0 Z0 5#64) loa u0)) 6)) else if j = 5 then some (Value.agg (cellsOf (rC (arA (rfE n0 Z0 5#64) loa u0)) 6)) else if j = 6 then some (.slice (some ⟨gob, 0, none⟩) mb cmb) else if j = 7 then some (Value.pointer (some ⟨N, 4, none⟩)) else if j = 8 then some (Value.pointer (some ⟨N, 5, none⟩)) else if j = 9 then some (Q u1) else if j = 10 then some (Value.agg (cellsOf (rC (arA (rfE n1 Z1 3#64) mb u1)) 6)) else if j = 11 then some (Value.agg (cellsOf (rC (arA (rfE n1 Z1 3#64) mb u1)) 6)) else if j = 12 then none else none)) (Below M51 xw54) _ _ _ _ (by kernel_rfl) (size_dstG (by kernel_rfl)) (Below.refl _ _) ?_ ?_
  ·intro i hi ac wa hI ha hv
   simp only [List.mem_cons, List.not_mem_nil, or_false] at hi
   rcases hi with rfl | rfl | rfl | rfl | rfl | rfl | rfl | rfl | rfl | rfl | rfl | rfl | rfl | rfl
   ·exact potg_run rfl rfl (.slice (some ⟨goa, 0, none⟩) loa caqoa) rfl (run_mv (x := (.tmp 3)) rfl _ (ha 3 (not_dstG (by kernel_rfl)))) hM51 hI
   ·exact potg_run rfl rfl (Value.pointer (some ⟨N, 4, none⟩)) rfl (run_fa 58 (.tmp 1) 3 4 rfl (ha 1 (not_dstG (by kernel_rfl))) faCe3) hM51 hI
   ·obtain ⟨v1, hv1a, hv1b⟩ := hv 1 (by simp) (by kernel_rfl)
    have ev1 := hv1b.val rfl
    subst ev1
    exact potg_run rfl rfl (Value.pointer (some ⟨N, 4, none⟩)) rfl (run_iaO 23 (.tmp 47) (.const (.int .i64 0)) rfl (hv1a 47 rfl) rfl (k := 0) (r := 4) (by kernel_rfl) rfl wa) hM51 hI
   ·obtain ⟨v2, hv2a, hv2b⟩ := hv 2 (by simp) (by kernel_rfl)
    have ev2 := hv2b.val rfl
    subst ev2
    exact potg_run rfl rfl (Q u0) rfl (run_c1 22 (.tmp 48) rfl ⟨N, 4, none⟩ (hv2a 48 rfl) und64 rfl (keep_c hI hM51 c59)) hM51 hI
   ·obtain ⟨v0, hv0a, hv0b⟩ := hv 0 (by simp) (by kernel_rfl)
    have ev0 := hv0b.val rfl
    subst ev0
    obtain ⟨v3, hv3a, hv3b⟩ := hv 3 (by simp) (by kernel_rfl)
    have ev3 := hv3b.val rfl
    subst ev3
    exact potg_cl rfl rfl 39 _ _ rfl #[(.slice (some ⟨goa, 0, none⟩) loa caqoa), (Q u0)] (by simp only [List.map_toArray, List.map_cons, List.map_nil, (show ac.eval (.tmp 46) = (.slice (some ⟨goa, 0, none⟩) loa caqoa) from (hv0a 46 rfl)), (show ac.eval (.tmp 49) = (Q u0) from (hv3a 49 rfl))] <;> rfl) (by kernel_rfl) (Value.agg (cellsOf (rC (arA (rfE n0 Z0 5#64) loa u0)) 6)) (fun K hK => Around_any (rfE n0 Z0 5#64) loa (by omega) (by omega) goa 0 caqoa u0 wa K hK (Loa.below hM51 hI)) rfl hM51 hI
   ·obtain ⟨v4, hv4a, hv4b⟩ := hv 4 (by simp) (by kernel_rfl)
    have ev4 := hv4b.val rfl
    subst ev4
    exact potg_cl rfl rfl 38 _ _ rfl #[(Value.agg (cellsOf (rC (arA (rfE n0 Z0 5#64) loa u0)) 6))] (by simp only [List.map_toArray, List.map_cons, List.map_nil, (show ac.eval (.tmp 50) = (Value.agg (cellsOf (rC (arA (rfE n0 Z0 5#64) loa u0)) 6)) from (hv4a 50 rfl))] <;> rfl) (by kernel_rfl) (Value.agg (cellsOf (rC (arA (rfE n0 Z0 5#64) loa u0)) 6)) (fun K hK => To15_any (arA (rfE n0 Z0 5#64) loa u0) wa K hK) rfl hM51 hI
   ·exact potg_run rfl rfl (.slice (some ⟨gob, 0, none⟩) mb cmb) rfl (run_mv (x := (.tmp 4)) rfl _ (ha 4 (not_dstG (by kernel_rfl)))) hM51 hI
   ·exact potg_run rfl rfl (Value.pointer (some ⟨N, 4, none⟩)) rfl (run_fa 58 (.tmp 1) 3 4 rfl (ha 1 (not_dstG (by kernel_rfl))) faCe3) hM51 hI
   ·obtain ⟨v7, hv7a, hv7b⟩ := hv 7 (by simp) (by kernel_rfl)
    have ev7 := hv7b.val rfl
    subst ev7
    exact potg_run rfl rfl (Value.pointer (some ⟨N, 5, none⟩)) rfl (run_iaO 23 (.tmp 53) (.const (.int .i64 1)) rfl (hv7a 53 rfl) rfl (k := 1) (r := 5) (by kernel_rfl) rfl wa) hM51 hI
   ·obtain ⟨v8, hv8a, hv8b⟩ := hv 8 (by simp) (by kernel_rfl)
    have ev8 := hv8b.val rfl
    subst ev8
    exact potg_run rfl rfl (Q u1) rfl (run_c1 22 (.tmp 54) rfl ⟨N, 5, none⟩ (hv8a 54 rfl) und64 rfl (keep_c hI hM51 c60)) hM51 hI
   ·obtain ⟨v6, hv6a, hv6b⟩ := hv 6 (by simp) (by kernel_rfl)
    have ev6 := hv6b.val rfl
    subst ev6
    obtain ⟨v9, hv9a, hv9b⟩ := hv 9 (by simp) (by kernel_rfl)
    have ev9 := hv9b.val rfl
    subst ev9
    exact potg_cl rfl rfl 39 _ _ rfl #[(.slice (some ⟨gob, 0, none⟩) mb cmb), (Q u1)] (by simp only [List.map_toArray, List.map_cons, List.map_nil, (show ac.eval (.tmp 52) = (.slice (some ⟨gob, 0, none⟩) mb cmb) from (hv6a 52 rfl)), (show ac.eval (.tmp 55) = (Q u1) from (hv9a 55 rfl))] <;> rfl) (by kernel_rfl) (Value.agg (cellsOf (rC (arA (rfE n1 Z1 3#64) mb u1)) 6)) (fun K hK => Around_any (rfE n1 Z1 3#64) mb (by omega) (by omega) gob 0 cmb u1 wa K hK (Lob.below hM51 hI)) rfl hM51 hI
   ·obtain ⟨v10, hv10a, hv10b⟩ := hv 10 (by simp) (by kernel_rfl)
    have ev10 := hv10b.val rfl
    subst ev10
    exact potg_cl rfl rfl 38 _ _ rfl #[(Value.agg (cellsOf (rC (arA (rfE n1 Z1 3#64) mb u1)) 6))] (by simp only [List.map_toArray, List.map_cons, List.map_nil, (show ac.eval (.tmp 56) = (Value.agg (cellsOf (rC (arA (rfE n1 Z1 3#64) mb u1)) 6)) from (hv10a 56 rfl))] <;> rfl) (by kernel_rfl) (Value.agg (cellsOf (rC (arA (rfE n1 Z1 3#64) mb u1)) 6)) (fun K hK => To15_any (arA (rfE n1 Z1 3#64) mb u1) wa K hK) rfl hM51 hI
   ·exact potg_al rfl rfl rfl zeR rfl rfl hM51 hI
   ·exact potg_al rfl rfl rfl zeR rfl rfl hM51 hI
  ·intro vals w5_63_ hb5_63_ hF hG
   have e_63_0 := (hF 0 (by simp)).val rfl
   have e_63_1 := (hF 1 (by simp)).val rfl
   have e_63_2 := (hF 2 (by simp)).val rfl
   have e_63_3 := (hF 3 (by simp)).val rfl
   have e_63_4 := (hF 4 (by simp)).val rfl
   have e_63_5 := (hF 5 (by simp)).val rfl
   have e_63_6 := (hF 6 (by simp)).val rfl
   have e_63_7 := (hF 7 (by simp)).val rfl
   have e_63_8 := (hF 8 (by simp)).val rfl
   have e_63_9 := (hF 9 (by simp)).val rfl
   have e_63_10 := (hF 10 (by simp)).val rfl
   have e_63_11 := (hF 11 (by simp)).val rfl
   obtain ⟨b_63_12, l_63_12, e_63_12, h_63_12⟩ := (hF 12 (by simp)).al rfl rfl
   obtain ⟨b_63_13, l_63_13, e_63_13, h_63_13⟩ := (hF 13 (by simp)).al rfl rfl
   have n_63_12_13 := hG 12 (by simp) 13 (by simp) (by omega) rfl rfl b_63_12 b_63_13 e_63_12 e_63_13
   clear hF hG
   simp only [List.foldl_cons, List.foldl_nil, dstOf, List.getElem?_toArray, List.getElem?_cons_succ, List.getElem?_cons_zero, Option.bind_some, Act.put, List.setIfInBounds_toArray, List.set_cons_succ, List.set_cons_zero, e_63_0, e_63_1, e_63_2, e_63_3, e_63_4, e_63_5, e_63_6, e_63_7, e_63_8, e_63_9, e_63_10, e_63_11, e_63_12, e_63_13]
   clear e_63_0 e_63_1 e_63_2 e_63_3 e_63_4 e_63_5 e_63_6 e_63_7 e_63_8 e_63_9 e_63_10 e_63_11 e_63_12 e_63_13
   refine wpAny_chain [14, 15] _ _ _ _ (by kernel_rfl) (by decide) ?_
   simp only [List.filterMap_cons, List.filterMap_nil, List.getElem?_toArray, List.getElem?_cons_succ, List.getElem?_cons_zero]
   have k64 := k52.below hb5_63_ (by omega)
   have lo65 := lo53.trans (hb5_63_.mono (by omega))
   have Loa2 := Loa.below hM51 hb5_63_
   clear Loa
   have Loa := Loa2
   clear Loa2
   have Lob2 := Lob.below hM51 hb5_63_
   clear Lob
   have Lob := Lob2
   clear Lob2
   clear k52 c55 c56 c57 c58 c59 c60 c61 c62 lo53 hb5_63_
   refine wpl_store rfl 41 (.tmp 5) (.tmp 51) rfl b_63_12 6 (rC (arA (rfE n0 Z0 5#64) loa u0)) rfl rfl 41 _ h_63_12 szR (fun j _ => rC_one _ j) ?_
   intro xw66 t67 k68
   have Loa2 := Loa.touch t67 (fun b hb => by have e := Option.some.inj hb; simp only at e; omega)
   clear Loa
   have Loa := Loa2
   clear Loa2
   have Lob2 := Lob.touch t67 (fun b hb => by have e := Option.some.inj hb; simp only at e; omega)
   clear Lob
   have Lob := Lob2
   clear Lob2
   have k69 := k64.touch t67 (by omega)
   have k70 := h_63_13.touch t67 (by omega)
   have lo71 := t67.below lo65 (by omega)
   clear h_63_12 k64 h_63_13 lo65 t67
   refine wpl_store rfl 41 (.tmp 6) (.tmp 57) rfl b_63_13 6 (rC (arA (rfE n1 Z1 3#64) mb u1)) rfl rfl 41 _ k70 szR (fun j _ => rC_one _ j) ?_
   intro xw72 t73 k74
   have Loa2 := Loa.touch t73 (fun b hb => by have e := Option.some.inj hb; simp only at e; omega)
   clear Loa
   have Loa := Loa2
   clear Loa2
   have Lob2 := Lob.touch t73 (fun b hb => by have e := Option.some.inj hb; simp only at e; omega)
   clear Lob
   have Lob := Lob2
   clear Lob2
   have k75 := k69.touch t73 (by omega)
   have k76 := k68.touch t73 (by omega)
   have lo77 := t73.below lo71 (by omega)
   clear k70 k69 k68 lo71 t73
   obtain ⟨M78, hM78⟩ := sz_some xw72
   have lt_79 := k75.ltN hM78
   have lt_80 := k76.ltN hM78
   have lt_81 := k74.ltN hM78
   go_upto_region 6 with fail
   obtain ⟨c82, c83, c84, c85, c86, c87, c88, c89⟩ := ce_cells k75
   refine wp_region_later (M78) (by kernel_rfl) (by kernel_rfl) ?_
   try simp only [pA]
   iterate 3 (go_big_quiet_step (fail))
   refine later_c1 hM78 3 (.tmp 60) rfl rfl undInt rfl c84 (by rfl) ?_; simp only [pA]
   refine later_val (fun q => run_iu (x := (.tmp 61)) rfl undInt und64 rfl q.w') (by rfl) ?_; simp only [pA]
   go_big_quiet_step (fail)
   refine later_val (fun q => run_lenS undSQ (x := (.tmp 63)) rfl rfl q.w') (by rfl) ?_; simp only [pA]
   refine later_val (fun q => run_nu (x := (.tmp 64)) rfl undInt und64 rfl q.w') (by rfl) ?_; simp only [pA]
   refine later_b (x := (.tmp 62)) (y := (.tmp 65)) rfl (bin_rem _ (BitVec.ofInt 64 z0) (BitVec.ofNat 64 loa) (nz_of (by omega))) rfl rfl (by rfl) ?_; simp only [pA]
   refine later_val (fun q => run_rm (x := (.tmp 66)) rfl und64 undInt (z := z0) (m := loa) (by omega) rfl q.w') (by rfl) ?_; simp only [pA]
   refine later_val (fun q => run_ixL 27 22 undSQ szQ1 (.tmp 58) (.tmp 67) rfl rfl rfl (k := (rm z0 loa)) (rm_lt _ _ (by omega)) q.w') (by rfl) ?_; simp only [pA]
   refine later_c1 hM78 22 (.tmp 68) rfl rfl und64 rfl (at_L Loa (rm_lt _ _ (by omega))) (by rfl) ?_; simp only [pA]
   iterate 3 (go_big_quiet_step (fail))
   refine later_c1 hM78 3 (.tmp 72) rfl rfl undInt rfl c85 (by rfl) ?_; simp only [pA]
   refine later_val (fun q => run_iu (x := (.tmp 73)) rfl undInt und64 rfl q.w') (by rfl) ?_; simp only [pA]
   go_big_quiet_step (fail)
   refine later_val (fun q => run_lenS undSQ (x := (.tmp 75)) rfl rfl q.w') (by rfl) ?_; simp only [pA]
   refine later_val (fun q => run_nu (x := (.tmp 76)) rfl undInt und64 rfl q.w') (by rfl) ?_; simp only [pA]
   refine later_b (x := (.tmp 74)) (y := (.tmp 77)) rfl (bin_rem _ (BitVec.ofInt 64 z1) (BitVec.ofNat 64 mb) (nz_of (by omega))) rfl rfl (by rfl) ?_; simp only [pA]
   refine later_val (fun q => run_rm (x := (.tmp 78)) rfl und64 undInt (z := z1) (m := mb) (by omega) rfl q.w') (by rfl) ?_; simp only [pA]
   refine later_val (fun q => run_ixL 27 22 undSQ szQ1 (.tmp 70) (.tmp 79) rfl rfl rfl (k := (rm z1 mb)) (rm_lt _ _ (by omega)) q.w') (by rfl) ?_; simp only [pA]
   refine later_c1 hM78 22 (.tmp 80) rfl rfl und64 rfl (at_L Lob (rm_lt _ _ (by omega))) (by rfl) ?_; simp only [pA]
   iterate 2 (go_big_quiet_step (fail))
   refine wpQuiet_nil ?_
   rintro xw90 ⟨qxw90, exw90⟩
   have hbxw90 := qxw90.b
   rw [← exw90] at hbxw90
   clear qxw90 exw90
   have Loa2 := Loa.below hM78 hbxw90
   clear Loa
   have Loa := Loa2
   clear Loa2
   have Lob2 := Lob.below hM78 hbxw90
   clear Lob
   have Lob := Lob2
   clear Lob2
   obtain ⟨M91, hM91⟩ := sz_some xw90
   have lM91 := below_sz hbxw90 hM78 hM91
   have k92 := k75.below hbxw90 (by omega)
   have k93 := k76.below hbxw90 (by omega)
   have k94 := k74.below hbxw90 (by omega)
   have lo95 := lo77.trans (hbxw90.mono (by omega))
   clear k75 c82 c83 c84 c85 c86 c87 c88 c89 k76 k74 lo77 hbxw90
   clear Loa Lob
   go_upto_region 7 with fail
   refine wp_region_lit ?_
   try simp only [pA]
   refine wpl_bsT rfl 60 3 11 1 (fun j => .int .i64 (ops11 j : Int)) (by omega) (fun w => by kernel_rfl) M91 hM91 ?_
   intro xw96 hMxw96 hbxw96 hhxw96; simp only [pA]
   have k97 := k92.below hbxw96 (by omega)
   have k98 := k93.below hbxw96 (by omega)
   have k99 := k94.below hbxw96 (by omega)
   have lo100 := lo95.trans (hbxw96.mono (by omega))
   clear k92 k93 k94 lo95 hbxw96
   have LT : Ats xw96 (some ⟨M91, 0, none⟩) 11 (fun j => .int .i64 (ops11 j : Int)) := (own_has hhxw96).ats
   clear hhxw96
   refine wpl_run rfl (.slice (some ⟨M91, 0, none⟩) 11 11) _ (run_as (x := .tmp 82) rfl _ rfl) ?_; simp only [pA]
   obtain ⟨M101, hM101⟩ := sz_some xw96
   have lt_102 := k97.ltN hM101
   have lt_103 := k98.ltN hM101
   have lt_104 := k99.ltN hM101
   have lN_105 := below_sz lo100 hN hM101
   go_upto_region 8 with fail
   obtain ⟨c106, c107, c108, c109, c110, c111, c112, c113⟩ := ce_cells k97
   refine wp_region_later1 (M101) ?_
   try simp only [pA]
   iterate 2 (go_big_quiet_step (fail))
   refine later_c1 hM101 3 (.tmp 84) rfl rfl undInt rfl c112 (by rfl) ?_; simp only [pA]
   refine later_val (fun q => run_iu (x := (.tmp 85)) rfl undInt und64 rfl q.w') (by rfl) ?_; simp only [pA]
   refine later_b (x := (.tmp 86)) (y := (.const (.int .u64 11))) rfl (bin_rem _ (BitVec.ofInt 64 op) 11#64 (by decide)) rfl rfl (by rfl) ?_; simp only [pA]
   refine later_val (fun q => run_rm (x := (.tmp 87)) rfl und64 undInt (z := op) (m := 11) (by omega) rfl q.w') (by rfl) ?_; simp only [pA]
   refine later_val (fun q => run_ixL 60 3 undSI szI1 (.tmp 83) (.tmp 88) rfl rfl rfl (k := (rm op 11)) (rm_lt _ _ (by omega)) q.w') (by rfl) ?_; simp only [pA]
   refine later_c1 hM101 3 (.tmp 89) rfl rfl undInt rfl (at_L LT (rm_lt _ _ (by omega))) (by rfl) ?_; simp only [pA]
   go_big_quiet_step (fail)
   refine wpQuiet_nil ?_
   rintro xw114 ⟨qxw114, exw114⟩
   have hbxw114 := qxw114.b
   rw [← exw114] at hbxw114
   clear qxw114 exw114
   have LT2 := LT.below hM101 hbxw114
   clear LT
   have LT := LT2
   clear LT2
   obtain ⟨M115, hM115⟩ := sz_some xw114
   have lM115 := below_sz hbxw114 hM101 hM115
   have k116 := k97.below hbxw114 (by omega)
   have k117 := k98.below hbxw114 (by omega)
   have k118 := k99.below hbxw114 (by omega)
   have lo119 := lo100.trans (hbxw114.mono (by omega))
   clear k97 c106 c107 c108 c109 c110 c111 c112 c113 k98 k99 lo100 hbxw114
   clear LT
   go_upto_region 9 with fail
   obtain ⟨c120, c121, c122, c123, c124, c125, c126, c127⟩ := ce_cells k116
   refine wp_region_later1 (M115) ?_
   try simp only [pA]
   iterate 2 (go_big_quiet_step (fail))
   refine later_c1 hM115 4 (.tmp 92) rfl rfl undBool rfl c127 (by rfl) ?_; simp only [pA]
   iterate 2 (go_big_quiet_step (fail))
   go_big_quiet_step ((go_at_call 37; exact later_of hM115 _ (fun K hK hKN => RHol_h (ops11 (rm op 11)) l ((rfE n0 Z0 5#64) (rm z0 loa)) ((rfE n1 Z1 3#64) (rm z1 mb)) _ K hK)))
   go_big_quiet_step (fail)
   refine wpQuiet_nil (laterE hM115 ?_)
   intro xw128 M129 hbxw128 hM129 lM129
   have k130 := k116.below hbxw128 (by omega)
   have k131 := k117.below hbxw128 (by omega)
   have k132 := k118.below hbxw128 (by omega)
   have lo133 := lo119.trans (hbxw128.mono (by omega))
   clear k116 c120 c121 c122 c123 c124 c125 c126 c127 k117 k118 lo119 hbxw128
   have CS134 := fun w N hN => Refine_all (ops11 (rm op 11)) l (arA (rfE n0 Z0 5#64) loa u0) (arA (rfE n1 Z1 3#64) mb u1) (holF (ops11 (rm op 11)) l ((rfE n0 Z0 5#64) (rm z0 loa)) ((rfE n1 Z1 3#64) (rm z1 mb))) w N hN
   rw [F1.out] at CS134
   go_upto_region 10 with fail
   refine wp_region_lit ?_
   try simp only [pA]
   change wpList _ _ _ ((_ :: _ :: _ :: _ :: _ :: _ :: _ :: _ :: _ :: _ :: _ :: []) ++ (_ :: _ :: _ :: _ :: _ :: [])) _ _
   obtain ⟨c135, c136, c137, c138, c139, c140, c141, c142⟩ := ce_cells k130
   refine wpList_prefix (C := fun w' => ∃ x : Later M129 xw128, w' = x.w') _ _ _ _ ⟨⟨_, Below.refl _ _⟩, rfl⟩ ?_
   iterate 2 (go_big_quiet_step (fail))
   refine later_c1 hM129 4 (.tmp 99) rfl rfl undBool rfl c142 (by rfl) ?_; simp only [pA]
   refine later_row hM129 41 (.tmp 5) rfl (b_63_12) rfl 41 6 _ k131 undR szR (by rfl) ?_; simp only [pA]
   refine later_row hM129 41 (.tmp 6) rfl (b_63_13) rfl 41 6 _ k132 undR szR (by rfl) ?_; simp only [pA]
   go_big_quiet_step (fail)
   go_big_quiet_step ((go_at_call 40; exact later_of hM129 _ (fun K hK hKN => CS134 _ K hK)))
   iterate 4 (go_big_quiet_step (fail))
   refine wpQuiet_nil (laterE hM129 ?_)
   intro xw143 M144 hbxw143 hM144 lM144
   have k145 := k130.below hbxw143 (by omega)
   have k146 := k131.below hbxw143 (by omega)
   have k147 := k132.below hbxw143 (by omega)
   have lo148 := lo133.trans (hbxw143.mono (by omega))
   clear k130 c135 c136 c137 c138 c139 c140 c141 c142 k131 k132 lo133 hbxw143
   obtain ⟨b_xw149, eb_xw149⟩ : ∃ b_xw149, b_xw149 = M144 := ⟨_, rfl⟩
   have hzb_xw149 : Sz xw143 b_xw149 := by rw [eb_xw149]; exact hM144
   have lob_xw149 : M144 ≤ b_xw149 := by omega
   have upb_xw149 : b_xw149 ≤ M144 := by omega
   clear eb_xw149
   refine wpl_alloc rfl 41 rfl 6 (rC zeroR) zeR b_xw149 hzb_xw149 ?_
   intro xw149 hMxw149 hbxw149 hhxw149; simp only [pA]
   have k150 := k145.below hbxw149 (by omega)
   have k151 := k146.below hbxw149 (by omega)
   have k152 := k147.below hbxw149 (by omega)
   have lo153 := lo148.trans (hbxw149.mono (by omega))
   clear k145 k146 k147 lo148 hbxw149 hzb_xw149
   obtain ⟨M154, eM154⟩ : ∃ M154, M154 = b_xw149 + 1 := ⟨_, rfl⟩
   rw [← eM154] at hMxw149
   have loM154 : b_xw149 + 1 ≤ M154 := by omega
   have upM154 : M154 ≤ b_xw149 + 1 := by omega
   clear eM154
   obtain ⟨b_xw155, eb_xw155⟩ : ∃ b_xw155, b_xw155 = M154 := ⟨_, rfl⟩
   have hzb_xw155 : Sz xw149 b_xw155 := by rw [eb_xw155]; exact hMxw149
   have lob_xw155 : M154 ≤ b_xw155 := by omega
   have upb_xw155 : b_xw155 ≤ M154 := by omega
   clear eb_xw155
   refine wpl_alloc rfl 41 rfl 6 (rC zeroR) zeR b_xw155 hzb_xw155 ?_
   intro xw155 hMxw155 hbxw155 hhxw155; simp only [pA]
   have k156 := k150.below hbxw155 (by omega)
   have k157 := k151.below hbxw155 (by omega)
   have k158 := k152.below hbxw155 (by omega)
   have k159 := hhxw149.below hbxw155 (by omega)
   have lo160 := lo153.trans (hbxw155.mono (by omega))
   clear k150 k151 k152 hhxw149 lo153 hbxw155 hzb_xw155
   obtain ⟨M161, eM161⟩ : ∃ M161, M161 = b_xw155 + 1 := ⟨_, rfl⟩
   rw [← eM161] at hMxw155
   have loM161 : b_xw155 + 1 ≤ M161 := by omega
   have upM161 : M161 ≤ b_xw155 + 1 := by omega
   clear eM161
   refine wpl_store rfl 41 (.tmp 12) (.tmp 105) rfl b_xw149 6 (rC (refF (ops11 (rm op 11)) l (arA (rfE n0 Z0 5#64) loa u0) (arA (rfE n1 Z1 3#64) mb u1) (holF (ops11 (rm op 11)) l ((rfE n0 Z0 5#64) (rm z0 loa)) ((rfE n1 Z1 3#64) (rm z1 mb)))).1) rfl rfl 41 _ k159 szR (fun j _ => rC_one _ j) ?_
   intro xw162 t163 k164; try simp only [pA]
   have k165 := k156.touch t163 (by omega)
   have k166 := k157.touch t163 (by omega)
   have k167 := k158.touch t163 (by omega)
   have k168 := hhxw155.touch t163 (by omega)
   have lo169 := t163.below lo160 (by omega)
   have h170 := t163.sz hMxw155
   clear k159 k156 k157 k158 hhxw155 lo160 hMxw155 t163
   refine wpl_store rfl 41 (.tmp 13) (.tmp 106) rfl b_xw155 6 (rC (refF (ops11 (rm op 11)) l (arA (rfE n0 Z0 5#64) loa u0) (arA (rfE n1 Z1 3#64) mb u1) (holF (ops11 (rm op 11)) l ((rfE n0 Z0 5#64) (rm z0 loa)) ((rfE n1 Z1 3#64) (rm z1 mb)))).2.1) rfl rfl 41 _ k168 szR (fun j _ => rC_one _ j) ?_
   intro xw171 t172 k173; try simp only [pA]
   have k174 := k165.touch t172 (by omega)
   have k175 := k166.touch t172 (by omega)
   have k176 := k167.touch t172 (by omega)
   have k177 := k164.touch t172 (by omega)
   have lo178 := t172.below lo169 (by omega)
   have h179 := t172.sz h170
   clear k168 k165 k166 k167 k164 lo169 h170 t172
   refine wpl_run rfl (Value.bool true) _ (run_as (x := (.tmp 107)) rfl _ rfl) ?_; simp only [pA]
   obtain ⟨M180, hM180⟩ := sz_some xw171
   have lt_181 := k174.ltN hM180
   have lt_182 := k175.ltN hM180
   have lt_183 := k176.ltN hM180
   have lt_184 := k177.ltN hM180
   have lt_185 := k173.ltN hM180
   cases h1_ : (refF (ops11 (rm op 11)) l (arA (rfE n0 Z0 5#64) loa u0) (arA (rfE n1 Z1 3#64) mb u1) (!(holF (ops11 (rm op 11)) l ((rfE n0 Z0 5#64) (rm z0 loa)) ((rfE n1 Z1 3#64) (rm z1 mb))))).2.2
   ·have H1_ := hid h1_
    clear h1_
    have RM := hid (ref_no H1_.out)
    have CS186 := fun w N hN => Refine_all (ops11 (rm op 11)) l (arA (rfE n0 Z0 5#64) loa u0) (arA (rfE n1 Z1 3#64) mb u1) (!(holF (ops11 (rm op 11)) l ((rfE n0 Z0 5#64) (rm z0 loa)) ((rfE n1 Z1 3#64) (rm z1 mb)))) w N hN
    rw [H1_.out] at CS186
    go_upto_region 11 with fail
    refine wp_region_lit ?_
    try simp only [pA]
    change wpList _ _ _ ((_ :: _ :: _ :: _ :: _ :: _ :: _ :: _ :: _ :: _ :: _ :: _ :: []) ++ (_ :: _ :: _ :: _ :: _ :: [])) _ _
    obtain ⟨c187, c188, c189, c190, c191, c192, c193, c194⟩ := ce_cells k174
    refine wpList_prefix (C := fun w' => ∃ x : Later M180 xw171, w' = x.w') _ _ _ _ ⟨⟨_, Below.refl _ _⟩, rfl⟩ ?_
    iterate 2 (go_big_quiet_step (fail))
    refine later_c1 hM180 4 (.tmp 110) rfl rfl undBool rfl c194 (by rfl) ?_; simp only [pA]
    refine later_row hM180 41 (.tmp 5) rfl (b_63_12) rfl 41 6 _ k175 undR szR (by rfl) ?_; simp only [pA]
    refine later_row hM180 41 (.tmp 6) rfl (b_63_13) rfl 41 6 _ k176 undR szR (by rfl) ?_; simp only [pA]
    iterate 2 (go_big_quiet_step (fail))
    go_big_quiet_step ((go_at_call 40; exact later_of hM180 _ (fun K hK hKN => CS186 _ K hK)))
    iterate 4 (go_big_quiet_step (fail))
    refine wpQuiet_nil (laterE hM180 ?_)
    intro xw195 M196 hbxw195 hM196 lM196
    have k197 := k174.below hbxw195 (by omega)
    have k198 := k175.below hbxw195 (by omega)
    have k199 := k176.below hbxw195 (by omega)
    have k200 := k177.below hbxw195 (by omega)
    have k201 := k173.below hbxw195 (by omega)
    have lo202 := lo178.trans (hbxw195.mono (by omega))
    clear k174 c187 c188 c189 c190 c191 c192 c193 c194 k175 k176 k177 k173 lo178 hbxw195
    obtain ⟨b_xw203, eb_xw203⟩ : ∃ b_xw203, b_xw203 = M196 := ⟨_, rfl⟩
    have hzb_xw203 : Sz xw195 b_xw203 := by rw [eb_xw203]; exact hM196
    have lob_xw203 : M196 ≤ b_xw203 := by omega
    have upb_xw203 : b_xw203 ≤ M196 := by omega
    clear eb_xw203
    refine wpl_alloc rfl 41 rfl 6 (rC zeroR) zeR b_xw203 hzb_xw203 ?_
    intro xw203 hMxw203 hbxw203 hhxw203; simp only [pA]
    have k204 := k197.below hbxw203 (by omega)
    have k205 := k198.below hbxw203 (by omega)
    have k206 := k199.below hbxw203 (by omega)
    have k207 := k200.below hbxw203 (by omega)
    have k208 := k201.below hbxw203 (by omega)
    have lo209 := lo202.trans (hbxw203.mono (by omega))
    clear k197 k198 k199 k200 k201 lo202 hbxw203 hzb_xw203
    obtain ⟨M210, eM210⟩ : ∃ M210, M210 = b_xw203 + 1 := ⟨_, rfl⟩
    rw [← eM210] at hMxw203
    have loM210 : b_xw203 + 1 ≤ M210 := by omega
    have upM210 : M210 ≤ b_xw203 + 1 := by omega
    clear eM210
    obtain ⟨b_xw211, eb_xw211⟩ : ∃ b_xw211, b_xw211 = M210 := ⟨_, rfl⟩
    have hzb_xw211 : Sz xw203 b_xw211 := by rw [eb_xw211]; exact hMxw203
    have lob_xw211 : M210 ≤ b_xw211 := by omega
    have upb_xw211 : b_xw211 ≤ M210 := by omega
    clear eb_xw211
    refine wpl_alloc rfl 41 rfl 6 (rC zeroR) zeR b_xw211 hzb_xw211 ?_
    intro xw211 hMxw211 hbxw211 hhxw211; simp only [pA]
    have k212 := k204.below hbxw211 (by omega)
    have k213 := k205.below hbxw211 (by omega)
    have k214 := k206.below hbxw211 (by omega)
    have k215 := k207.below hbxw211 (by omega)
    have k216 := k208.below hbxw211 (by omega)
    have k217 := hhxw203.below hbxw211 (by omega)
    have lo218 := lo209.trans (hbxw211.mono (by omega))
    clear k204 k205 k206 k207 k208 hhxw203 lo209 hbxw211 hzb_xw211
    obtain ⟨M219, eM219⟩ : ∃ M219, M219 = b_xw211 + 1 := ⟨_, rfl⟩
    rw [← eM219] at hMxw211
    have loM219 : b_xw211 + 1 ≤ M219 := by omega
    have upM219 : M219 ≤ b_xw211 + 1 := by omega
    clear eM219
    refine wpl_store rfl 41 (.tmp 15) (.tmp 117) rfl b_xw203 6 (rC (refF (ops11 (rm op 11)) l (arA (rfE n0 Z0 5#64) loa u0) (arA (rfE n1 Z1 3#64) mb u1) (!(holF (ops11 (rm op 11)) l ((rfE n0 Z0 5#64) (rm z0 loa)) ((rfE n1 Z1 3#64) (rm z1 mb))))).1) rfl rfl 41 _ k217 szR (fun j _ => rC_one _ j) ?_
    intro xw220 t221 k222; try simp only [pA]
    have k223 := k212.touch t221 (by omega)
    have k224 := k213.touch t221 (by omega)
    have k225 := k214.touch t221 (by omega)
    have k226 := k215.touch t221 (by omega)
    have k227 := k216.touch t221 (by omega)
    have k228 := hhxw211.touch t221 (by omega)
    have lo229 := t221.below lo218 (by omega)
    have h230 := t221.sz hMxw211
    clear k217 k212 k213 k214 k215 k216 hhxw211 lo218 hMxw211 t221
    refine wpl_store rfl 41 (.tmp 16) (.tmp 118) rfl b_xw211 6 (rC (refF (ops11 (rm op 11)) l (arA (rfE n0 Z0 5#64) loa u0) (arA (rfE n1 Z1 3#64) mb u1) (!(holF (ops11 (rm op 11)) l ((rfE n0 Z0 5#64) (rm z0 loa)) ((rfE n1 Z1 3#64) (rm z1 mb))))).2.1) rfl rfl 41 _ k228 szR (fun j _ => rC_one _ j) ?_
    intro xw231 t232 k233; try simp only [pA]
    have k234 := k223.touch t232 (by omega)
    have k235 := k224.touch t232 (by omega)
    have k236 := k225.touch t232 (by omega)
    have k237 := k226.touch t232 (by omega)
    have k238 := k227.touch t232 (by omega)
    have k239 := k222.touch t232 (by omega)
    have lo240 := t232.below lo229 (by omega)
    have h241 := t232.sz h230
    clear k228 k223 k224 k225 k226 k227 k222 lo229 h230 t232
    refine wpl_run rfl (Value.bool false) _ (run_as (x := (.tmp 119)) rfl _ rfl) ?_; simp only [pA]
    obtain ⟨M242, hM242⟩ := sz_some xw231
    have lt_243 := k234.ltN hM242
    have lt_244 := k235.ltN hM242
    have lt_245 := k236.ltN hM242
    have lt_246 := k237.ltN hM242
    have lt_247 := k238.ltN hM242
    have lt_248 := k239.ltN hM242
    have lt_249 := k233.ltN hM242
    go_upto_region 12 with fail
    refine wp_region_later1 (M242) ?_
    try simp only [pA]
    go_big_quiet_step ((go_at_call 35; exact later_of hM242 _ (fun K hK hKN => tells_any _ K hK)))
    iterate 6 (go_big_quiet_step (fail))
    refine later_row hM242 41 (.tmp 12) rfl (b_xw149) rfl 41 6 _ k237 undR szR (by rfl) ?_; simp only [pA]
    go_big_quiet_step (fail)
    go_big_quiet_step ((go_at_call 25; exact later_of hM242 _ (fun K hK hKN => ret_is F2.out (SHas_any (refF (ops11 (rm op 11)) l (arA (rfE n0 Z0 5#64) loa u0) (arA (rfE n1 Z1 3#64) mb u1) (holF (ops11 (rm op 11)) l ((rfE n0 Z0 5#64) (rm z0 loa)) ((rfE n1 Z1 3#64) (rm z1 mb)))).1 ((rfE n0 Z0 5#64) (rm z0 loa))) _ K hK)))
    iterate 3 (go_big_quiet_step (fail))
    refine later_row hM242 41 (.tmp 13) rfl (b_xw155) rfl 41 6 _ k238 undR szR (by rfl) ?_; simp only [pA]
    go_big_quiet_step (fail)
    go_big_quiet_step ((go_at_call 25; exact later_of hM242 _ (fun K hK hKN => ret_is F3.out (SHas_any (refF (ops11 (rm op 11)) l (arA (rfE n0 Z0 5#64) loa u0) (arA (rfE n1 Z1 3#64) mb u1) (holF (ops11 (rm op 11)) l ((rfE n0 Z0 5#64) (rm z0 loa)) ((rfE n1 Z1 3#64) (rm z1 mb)))).2.1 ((rfE n1 Z1 3#64) (rm z1 mb))) _ K hK)))
    iterate 3 (go_big_quiet_step (fail))
    refine later_row hM242 41 (.tmp 12) rfl (b_xw149) rfl 41 6 _ k237 undR szR (by rfl) ?_; simp only [pA]
    refine later_row hM242 41 (.tmp 5) rfl (b_63_12) rfl 41 6 _ k235 undR szR (by rfl) ?_; simp only [pA]
    go_big_quiet_step ((go_at_call 32; exact later_of hM242 _ (fun K hK hKN => ret_is F4.out (SWithin_any (refF (ops11 (rm op 11)) l (arA (rfE n0 Z0 5#64) loa u0) (arA (rfE n1 Z1 3#64) mb u1) (holF (ops11 (rm op 11)) l ((rfE n0 Z0 5#64) (rm z0 loa)) ((rfE n1 Z1 3#64) (rm z1 mb)))).1 (arA (rfE n0 Z0 5#64) loa u0)) _ K hK)))
    iterate 3 (go_big_quiet_step (fail))
    refine later_row hM242 41 (.tmp 13) rfl (b_xw155) rfl 41 6 _ k238 undR szR (by rfl) ?_; simp only [pA]
    refine later_row hM242 41 (.tmp 6) rfl (b_63_13) rfl 41 6 _ k236 undR szR (by rfl) ?_; simp only [pA]
    go_big_quiet_step ((go_at_call 32; exact later_of hM242 _ (fun K hK hKN => ret_is F5.out (SWithin_any (refF (ops11 (rm op 11)) l (arA (rfE n0 Z0 5#64) loa u0) (arA (rfE n1 Z1 3#64) mb u1) (holF (ops11 (rm op 11)) l ((rfE n0 Z0 5#64) (rm z0 loa)) ((rfE n1 Z1 3#64) (rm z1 mb)))).2.1 (arA (rfE n1 Z1 3#64) mb u1)) _ K hK)))
    iterate 2 (go_big_quiet_step (fail))
    refine wpQuiet_nil (laterE hM242 ?_)
    intro xw250 M251 hbxw250 hM251 lM251
    have k252 := k234.below hbxw250 (by omega)
    have k253 := k235.below hbxw250 (by omega)
    have k254 := k236.below hbxw250 (by omega)
    have k255 := k237.below hbxw250 (by omega)
    have k256 := k238.below hbxw250 (by omega)
    have k257 := k239.below hbxw250 (by omega)
    have k258 := k233.below hbxw250 (by omega)
    have lo259 := lo240.trans (hbxw250.mono (by omega))
    clear k234 k235 k236 k237 k238 k239 k233 lo240 hbxw250
    go_upto_region 14 with fail
    refine wp_region_later1 (M251) ?_
    try simp only [pA]
    iterate 2 (go_big_quiet_step (fail))
    refine wpQuiet_nil (laterE hM251 ?_)
    intro xw260 M261 hbxw260 hM261 lM261
    have k262 := k252.below hbxw260 (by omega)
    have k263 := k253.below hbxw260 (by omega)
    have k264 := k254.below hbxw260 (by omega)
    have k265 := k255.below hbxw260 (by omega)
    have k266 := k256.below hbxw260 (by omega)
    have k267 := k257.below hbxw260 (by omega)
    have k268 := k258.below hbxw260 (by omega)
    have lo269 := lo259.trans (hbxw260.mono (by omega))
    clear k252 k253 k254 k255 k256 k257 k258 lo259 hbxw260
    go_upto_region 15 with fail
    refine wp_region_later1 (M261) ?_
    try simp only [pA]
    refine later_row hM261 41 (.tmp 15) rfl (b_xw203) rfl 41 6 _ k267 undR szR (by rfl) ?_; simp only [pA]
    refine later_val (fun q => run_bd 41 _ rfl (cellsOf (rC ⟨zeroN, 0#64, 0#64, 0#64, 0#64⟩) 6) (by kernel_rfl) q.w') (by rfl) ?_; simp only [pA]
    refine later_val (fun q => run_eql_op 41 41 (.tmp 152) (.tmp 153) rfl _ _ rfl rfl true (by kernel_rfl) (run_eqR_t RM.out.1 q.w')) (by rfl) ?_; simp only [pA]
    go_big_quiet_step (fail)
    refine later_row hM261 41 (.tmp 16) rfl (b_xw211) rfl 41 6 _ k268 undR szR (by rfl) ?_; simp only [pA]
    refine later_val (fun q => run_bd 41 _ rfl (cellsOf (rC ⟨zeroN, 0#64, 0#64, 0#64, 0#64⟩) 6) (by kernel_rfl) q.w') (by rfl) ?_; simp only [pA]
    refine later_val (fun q => run_eql_op 41 41 (.tmp 156) (.tmp 157) rfl _ _ rfl rfl true (by kernel_rfl) (run_eqR_t RM.out.2 q.w')) (by rfl) ?_; simp only [pA]
    iterate 2 (go_big_quiet_step (fail))
    refine wpQuiet_nil (laterE hM261 ?_)
    intro xw270 M271 hbxw270 hM271 lM271
    have k272 := k262.below hbxw270 (by omega)
    have k273 := k263.below hbxw270 (by omega)
    have k274 := k264.below hbxw270 (by omega)
    have k275 := k265.below hbxw270 (by omega)
    have k276 := k266.below hbxw270 (by omega)
    have k277 := k267.below hbxw270 (by omega)
    have k278 := k268.below hbxw270 (by omega)
    have lo279 := lo269.trans (hbxw270.mono (by omega))
    clear k262 k263 k264 k265 k266 k267 k268 lo269 hbxw270
    go_wp2_with fail
    go_ret
    exact ⟨rfl, lo279⟩
   ·have H1_ := hid h1_
    clear h1_
    have RM := hid (ref_nar H1_.out)
    have G1 := hid (nar_iff.2 RM.out.1)
    have G2 := hid (nar_iff.2 RM.out.2)
    have CS186 := fun w N hN => Refine_all (ops11 (rm op 11)) l (arA (rfE n0 Z0 5#64) loa u0) (arA (rfE n1 Z1 3#64) mb u1) (!(holF (ops11 (rm op 11)) l ((rfE n0 Z0 5#64) (rm z0 loa)) ((rfE n1 Z1 3#64) (rm z1 mb)))) w N hN
    rw [H1_.out] at CS186
    go_upto_region 11 with fail
    refine wp_region_lit ?_
    try simp only [pA]
    change wpList _ _ _ ((_ :: _ :: _ :: _ :: _ :: _ :: _ :: _ :: _ :: _ :: _ :: _ :: []) ++ (_ :: _ :: _ :: _ :: _ :: [])) _ _
    obtain ⟨c187, c188, c189, c190, c191, c192, c193, c194⟩ := ce_cells k174
    refine wpList_prefix (C := fun w' => ∃ x : Later M180 xw171, w' = x.w') _ _ _ _ ⟨⟨_, Below.refl _ _⟩, rfl⟩ ?_
    iterate 2 (go_big_quiet_step (fail))
    refine later_c1 hM180 4 (.tmp 110) rfl rfl undBool rfl c194 (by rfl) ?_; simp only [pA]
    refine later_row hM180 41 (.tmp 5) rfl (b_63_12) rfl 41 6 _ k175 undR szR (by rfl) ?_; simp only [pA]
    refine later_row hM180 41 (.tmp 6) rfl (b_63_13) rfl 41 6 _ k176 undR szR (by rfl) ?_; simp only [pA]
    iterate 2 (go_big_quiet_step (fail))
    go_big_quiet_step ((go_at_call 40; exact later_of hM180 _ (fun K hK hKN => CS186 _ K hK)))
    iterate 4 (go_big_quiet_step (fail))
    refine wpQuiet_nil (laterE hM180 ?_)
    intro xw195 M196 hbxw195 hM196 lM196
    have k197 := k174.below hbxw195 (by omega)
    have k198 := k175.below hbxw195 (by omega)
    have k199 := k176.below hbxw195 (by omega)
    have k200 := k177.below hbxw195 (by omega)
    have k201 := k173.below hbxw195 (by omega)
    have lo202 := lo178.trans (hbxw195.mono (by omega))
    clear k174 c187 c188 c189 c190 c191 c192 c193 c194 k175 k176 k177 k173 lo178 hbxw195
    obtain ⟨b_xw203, eb_xw203⟩ : ∃ b_xw203, b_xw203 = M196 := ⟨_, rfl⟩
    have hzb_xw203 : Sz xw195 b_xw203 := by rw [eb_xw203]; exact hM196
    have lob_xw203 : M196 ≤ b_xw203 := by omega
    have upb_xw203 : b_xw203 ≤ M196 := by omega
    clear eb_xw203
    refine wpl_alloc rfl 41 rfl 6 (rC zeroR) zeR b_xw203 hzb_xw203 ?_
    intro xw203 hMxw203 hbxw203 hhxw203; simp only [pA]
    have k204 := k197.below hbxw203 (by omega)
    have k205 := k198.below hbxw203 (by omega)
    have k206 := k199.below hbxw203 (by omega)
    have k207 := k200.below hbxw203 (by omega)
    have k208 := k201.below hbxw203 (by omega)
    have lo209 := lo202.trans (hbxw203.mono (by omega))
    clear k197 k198 k199 k200 k201 lo202 hbxw203 hzb_xw203
    obtain ⟨M210, eM210⟩ : ∃ M210, M210 = b_xw203 + 1 := ⟨_, rfl⟩
    rw [← eM210] at hMxw203
    have loM210 : b_xw203 + 1 ≤ M210 := by omega
    have upM210 : M210 ≤ b_xw203 + 1 := by omega
    clear eM210
    obtain ⟨b_xw211, eb_xw211⟩ : ∃ b_xw211, b_xw211 = M210 := ⟨_, rfl⟩
    have hzb_xw211 : Sz xw203 b_xw211 := by rw [eb_xw211]; exact hMxw203
    have lob_xw211 : M210 ≤ b_xw211 := by omega
    have upb_xw211 : b_xw211 ≤ M210 := by omega
    clear eb_xw211
    refine wpl_alloc rfl 41 rfl 6 (rC zeroR) zeR b_xw211 hzb_xw211 ?_
    intro xw211 hMxw211 hbxw211 hhxw211; simp only [pA]
    have k212 := k204.below hbxw211 (by omega)
    have k213 := k205.below hbxw211 (by omega)
    have k214 := k206.below hbxw211 (by omega)
    have k215 := k207.below hbxw211 (by omega)
    have k216 := k208.below hbxw211 (by omega)
    have k217 := hhxw203.below hbxw211 (by omega)
    have lo218 := lo209.trans (hbxw211.mono (by omega))
    clear k204 k205 k206 k207 k208 hhxw203 lo209 hbxw211 hzb_xw211
    obtain ⟨M219, eM219⟩ : ∃ M219, M219 = b_xw211 + 1 := ⟨_, rfl⟩
    rw [← eM219] at hMxw211
    have loM219 : b_xw211 + 1 ≤ M219 := by omega
    have upM219 : M219 ≤ b_xw211 + 1 := by omega
    clear eM219
    refine wpl_store rfl 41 (.tmp 15) (.tmp 117) rfl b_xw203 6 (rC (refF (ops11 (rm op 11)) l (arA (rfE n0 Z0 5#64) loa u0) (arA (rfE n1 Z1 3#64) mb u1) (!(holF (ops11 (rm op 11)) l ((rfE n0 Z0 5#64) (rm z0 loa)) ((rfE n1 Z1 3#64) (rm z1 mb))))).1) rfl rfl 41 _ k217 szR (fun j _ => rC_one _ j) ?_
    intro xw220 t221 k222; try simp only [pA]
    have k223 := k212.touch t221 (by omega)
    have k224 := k213.touch t221 (by omega)
    have k225 := k214.touch t221 (by omega)
    have k226 := k215.touch t221 (by omega)
    have k227 := k216.touch t221 (by omega)
    have k228 := hhxw211.touch t221 (by omega)
    have lo229 := t221.below lo218 (by omega)
    have h230 := t221.sz hMxw211
    clear k217 k212 k213 k214 k215 k216 hhxw211 lo218 hMxw211 t221
    refine wpl_store rfl 41 (.tmp 16) (.tmp 118) rfl b_xw211 6 (rC (refF (ops11 (rm op 11)) l (arA (rfE n0 Z0 5#64) loa u0) (arA (rfE n1 Z1 3#64) mb u1) (!(holF (ops11 (rm op 11)) l ((rfE n0 Z0 5#64) (rm z0 loa)) ((rfE n1 Z1 3#64) (rm z1 mb))))).2.1) rfl rfl 41 _ k228 szR (fun j _ => rC_one _ j) ?_
    intro xw231 t232 k233; try simp only [pA]
    have k234 := k223.touch t232 (by omega)
    have k235 := k224.touch t232 (by omega)
    have k236 := k225.touch t232 (by omega)
    have k237 := k226.touch t232 (by omega)
    have k238 := k227.touch t232 (by omega)
    have k239 := k222.touch t232 (by omega)
    have lo240 := t232.below lo229 (by omega)
    have h241 := t232.sz h230
    clear k228 k223 k224 k225 k226 k227 k222 lo229 h230 t232
    refine wpl_run rfl (Value.bool true) _ (run_as (x := (.tmp 119)) rfl _ rfl) ?_; simp only [pA]
    obtain ⟨M242, hM242⟩ := sz_some xw231
    have lt_243 := k234.ltN hM242
    have lt_244 := k235.ltN hM242
    have lt_245 := k236.ltN hM242
    have lt_246 := k237.ltN hM242
    have lt_247 := k238.ltN hM242
    have lt_248 := k239.ltN hM242
    have lt_249 := k233.ltN hM242
    go_upto_region 12 with fail
    refine wp_region_later1 (M242) ?_
    try simp only [pA]
    go_big_quiet_step ((go_at_call 35; exact later_of hM242 _ (fun K hK hKN => tells_any _ K hK)))
    iterate 6 (go_big_quiet_step (fail))
    refine later_row hM242 41 (.tmp 12) rfl (b_xw149) rfl 41 6 _ k237 undR szR (by rfl) ?_; simp only [pA]
    go_big_quiet_step (fail)
    go_big_quiet_step ((go_at_call 25; exact later_of hM242 _ (fun K hK hKN => ret_is F2.out (SHas_any (refF (ops11 (rm op 11)) l (arA (rfE n0 Z0 5#64) loa u0) (arA (rfE n1 Z1 3#64) mb u1) (holF (ops11 (rm op 11)) l ((rfE n0 Z0 5#64) (rm z0 loa)) ((rfE n1 Z1 3#64) (rm z1 mb)))).1 ((rfE n0 Z0 5#64) (rm z0 loa))) _ K hK)))
    iterate 3 (go_big_quiet_step (fail))
    refine later_row hM242 41 (.tmp 13) rfl (b_xw155) rfl 41 6 _ k238 undR szR (by rfl) ?_; simp only [pA]
    go_big_quiet_step (fail)
    go_big_quiet_step ((go_at_call 25; exact later_of hM242 _ (fun K hK hKN => ret_is F3.out (SHas_any (refF (ops11 (rm op 11)) l (arA (rfE n0 Z0 5#64) loa u0) (arA (rfE n1 Z1 3#64) mb u1) (holF (ops11 (rm op 11)) l ((rfE n0 Z0 5#64) (rm z0 loa)) ((rfE n1 Z1 3#64) (rm z1 mb)))).2.1 ((rfE n1 Z1 3#64) (rm z1 mb))) _ K hK)))
    iterate 3 (go_big_quiet_step (fail))
    refine later_row hM242 41 (.tmp 12) rfl (b_xw149) rfl 41 6 _ k237 undR szR (by rfl) ?_; simp only [pA]
    refine later_row hM242 41 (.tmp 5) rfl (b_63_12) rfl 41 6 _ k235 undR szR (by rfl) ?_; simp only [pA]
    go_big_quiet_step ((go_at_call 32; exact later_of hM242 _ (fun K hK hKN => ret_is F4.out (SWithin_any (refF (ops11 (rm op 11)) l (arA (rfE n0 Z0 5#64) loa u0) (arA (rfE n1 Z1 3#64) mb u1) (holF (ops11 (rm op 11)) l ((rfE n0 Z0 5#64) (rm z0 loa)) ((rfE n1 Z1 3#64) (rm z1 mb)))).1 (arA (rfE n0 Z0 5#64) loa u0)) _ K hK)))
    iterate 3 (go_big_quiet_step (fail))
    refine later_row hM242 41 (.tmp 13) rfl (b_xw155) rfl 41 6 _ k238 undR szR (by rfl) ?_; simp only [pA]
    refine later_row hM242 41 (.tmp 6) rfl (b_63_13) rfl 41 6 _ k236 undR szR (by rfl) ?_; simp only [pA]
    go_big_quiet_step ((go_at_call 32; exact later_of hM242 _ (fun K hK hKN => ret_is F5.out (SWithin_any (refF (ops11 (rm op 11)) l (arA (rfE n0 Z0 5#64) loa u0) (arA (rfE n1 Z1 3#64) mb u1) (holF (ops11 (rm op 11)) l ((rfE n0 Z0 5#64) (rm z0 loa)) ((rfE n1 Z1 3#64) (rm z1 mb)))).2.1 (arA (rfE n1 Z1 3#64) mb u1)) _ K hK)))
    iterate 2 (go_big_quiet_step (fail))
    refine wpQuiet_nil (laterE hM242 ?_)
    intro xw250 M251 hbxw250 hM251 lM251
    have k252 := k234.below hbxw250 (by omega)
    have k253 := k235.below hbxw250 (by omega)
    have k254 := k236.below hbxw250 (by omega)
    have k255 := k237.below hbxw250 (by omega)
    have k256 := k238.below hbxw250 (by omega)
    have k257 := k239.below hbxw250 (by omega)
    have k258 := k233.below hbxw250 (by omega)
    have lo259 := lo240.trans (hbxw250.mono (by omega))
    clear k234 k235 k236 k237 k238 k239 k233 lo240 hbxw250
    go_upto_region 14 with fail
    refine wp_region_later1 (M251) ?_
    try simp only [pA]
    iterate 2 (go_big_quiet_step (fail))
    refine wpQuiet_nil (laterE hM251 ?_)
    intro xw260 M261 hbxw260 hM261 lM261
    have k262 := k252.below hbxw260 (by omega)
    have k263 := k253.below hbxw260 (by omega)
    have k264 := k254.below hbxw260 (by omega)
    have k265 := k255.below hbxw260 (by omega)
    have k266 := k256.below hbxw260 (by omega)
    have k267 := k257.below hbxw260 (by omega)
    have k268 := k258.below hbxw260 (by omega)
    have lo269 := lo259.trans (hbxw260.mono (by omega))
    clear k252 k253 k254 k255 k256 k257 k258 lo259 hbxw260
    go_upto_region 16 with fail
    refine wp_region_later1 (M261) ?_
    try simp only [pA]
    refine later_row hM261 41 (.tmp 15) rfl (b_xw203) rfl 41 6 _ k267 undR szR (by rfl) ?_; simp only [pA]
    refine later_row hM261 41 (.tmp 5) rfl (b_63_12) rfl 41 6 _ k263 undR szR (by rfl) ?_; simp only [pA]
    go_big_quiet_step ((go_at_call 32; exact later_of hM261 _ (fun K hK hKN => ret_is G1.out (SWithin_any (refF (ops11 (rm op 11)) l (arA (rfE n0 Z0 5#64) loa u0) (arA (rfE n1 Z1 3#64) mb u1) (!(holF (ops11 (rm op 11)) l ((rfE n0 Z0 5#64) (rm z0 loa)) ((rfE n1 Z1 3#64) (rm z1 mb))))).1 (arA (rfE n0 Z0 5#64) loa u0)) _ K hK)))
    go_big_quiet_step (fail)
    refine later_row hM261 41 (.tmp 16) rfl (b_xw211) rfl 41 6 _ k268 undR szR (by rfl) ?_; simp only [pA]
    refine later_row hM261 41 (.tmp 6) rfl (b_63_13) rfl 41 6 _ k264 undR szR (by rfl) ?_; simp only [pA]
    go_big_quiet_step ((go_at_call 32; exact later_of hM261 _ (fun K hK hKN => ret_is G2.out (SWithin_any (refF (ops11 (rm op 11)) l (arA (rfE n0 Z0 5#64) loa u0) (arA (rfE n1 Z1 3#64) mb u1) (!(holF (ops11 (rm op 11)) l ((rfE n0 Z0 5#64) (rm z0 loa)) ((rfE n1 Z1 3#64) (rm z1 mb))))).2.1 (arA (rfE n1 Z1 3#64) mb u1)) _ K hK)))
    iterate 2 (go_big_quiet_step (fail))
    refine wpQuiet_nil (laterE hM261 ?_)
    intro xw270 M271 hbxw270 hM271 lM271
    have k272 := k262.below hbxw270 (by omega)
    have k273 := k263.below hbxw270 (by omega)
    have k274 := k264.below hbxw270 (by omega)
    have k275 := k265.below hbxw270 (by omega)
    have k276 := k266.below hbxw270 (by omega)
    have k277 := k267.below hbxw270 (by omega)
    have k278 := k268.below hbxw270 (by omega)
    have lo279 := lo269.trans (hbxw270.mono (by omega))
    clear k262 k263 k264 k265 k266 k267 k268 lo269 hbxw270
    go_wp2_with fail
    go_ret
    exact ⟨rfl, lo279⟩
end Go.Proofs.Ytmdcopmgkhjfnaa
