/- Contracts of ranges: the bounds by each other. -/
import Derived.Test.YtbbfdehipgkjmaaDoorScb
import Derived.Laws.ResultCell
namespace Go.Proofs.YtbbfdehipgkjmaaDoor
open Go Go.RowKit
theorem r_cells5 {w : World} {b T : Nat} {n : Nm} {lo hi sl sh : W} (h : Has w b T 6 (rC ⟨n, lo, hi, sl, sh⟩)) : w.cell? ⟨b, 0, none⟩ = some (Q n.v) ∧ w.cell? ⟨b, 1, none⟩ = some (Q n.m) ∧ w.cell? ⟨b, 2, none⟩ = some (Q lo) ∧ w.cell? ⟨b, 3, none⟩ = some (Q hi) ∧ w.cell? ⟨b, 4, none⟩ = some (S sl) ∧ w.cell? ⟨b, 5, none⟩ = some (S sh) := r_cells h
theorem run_bits5 {a : Act} {w : World} {o : Oper} (ty : TypeId) (x : Operand) (ho : o.op = .load ty x) (b : Nat) (hx : a.eval x = .pointer (some ⟨b, 0, none⟩)) (T : TypeId) {n : Nm} {lo hi sl sh : W} (hh : Has w b T 6 (rC ⟨n, lo, hi, sl, sh⟩))
  (hu : ∃ d, Tryd.prog.underlying ty = some d ∧ d.isRow = true) (hi' : (Tryd.prog.info? ty).map (·.size) = some 2) : (execOp a.eval o).run Tryd.prog w = .ok (.value (.agg (cellsOf (nC n) 2))) w := run_bits ty x ho b hx T hh hu hi'
theorem szI : (Tryd.prog.info? 2).map (·.size) = some 1 := by kernel_rfl
theorem faR0 (b : Nat) (w : World) : (Instr.fieldAt 27 (.pointer (some ⟨b, 0, none⟩)) 0).run Tryd.prog w = .ok (.pointer (some ⟨b, 0, none⟩)) w := by go_simp
theorem faR1 (b : Nat) (w : World) : (Instr.fieldAt 27 (.pointer (some ⟨b, 0, none⟩)) 1).run Tryd.prog w = .ok (.pointer (some ⟨b, 2, none⟩)) w := by go_simp
theorem faR2 (b : Nat) (w : World) : (Instr.fieldAt 27 (.pointer (some ⟨b, 0, none⟩)) 2).run Tryd.prog w = .ok (.pointer (some ⟨b, 3, none⟩)) w := by go_simp
theorem post_rb {fn : Func} {R : Ending → World → Prop} {p u : Tmp} {T : TypeId} {a : Act} {w : World} (hr : fn.results = #[.cell p T, .tmp u]) (b : Nat) (hp : a.tmps.getD p undef = .pointer (some ⟨b, 0, none⟩))
  {r : Rn} (hh : Has w b T 6 (rC r)) (hu : ∃ d, Tryd.prog.underlying T = some d ∧ d.isRow = true) (hi : (Tryd.prog.info? T).map (·.size) = some 6) {x : Value} (hx : a.tmps.getD u undef = x)
  (hdef : a.defers = []) (hR : R (.returned (.tuple #[rV r, x])) w) : bodyPost Tryd.prog fn R .ret a w := by
 obtain ⟨d, h1, h2⟩ := hu
 refine bodyPost_ret (v := .tuple #[rV r, x]) ?_ hdef hR
 have hld := run_loadVar_row (P := Tryd.prog) w b T T (cellsOf (rC r) 6) (0, 0) d hh h1 (by cases d <;> simp_all) (by rw [hi, size_cellsOf])
 rw [results_cell_tmp hr a.tmps Tryd.prog w, hp, hx]
 simp [asAddr, hld, rV]
theorem lay_bits (n m : Nm) (lo hi sl sh : W) (j : Nat) : lay (rC ⟨n, lo, hi, sl, sh⟩) 0 2 (nC m) j = rC ⟨m, lo, hi, sl, sh⟩ j := by
 unfold lay rC nC
 by_cases h0 : j = 0
 ·subst h0; simp
 ·by_cases h1 : j = 1
  ·subst h1; simp
  ·have : ¬ (0 ≤ j ∧ j < 0 + 2) := by omega
   simp [h0, h1]
   intro hj; omega
theorem faR3 (b : Nat) (w : World) : (Instr.fieldAt 27 (.pointer (some ⟨b, 0, none⟩)) 3).run Tryd.prog w = .ok (.pointer (some ⟨b, 4, none⟩)) w := by go_simp
theorem faR4 (b : Nat) (w : World) : (Instr.fieldAt 27 (.pointer (some ⟨b, 0, none⟩)) 4).run Tryd.prog w = .ok (.pointer (some ⟨b, 5, none⟩)) w := by go_simp
/-- the bounds of unsigned numbers, by the bits -/
def sT1 (r : Rn) : Rn := ⟨r.b, uMax r.lo r.b.v, uMin r.hi (r.b.v ||| r.b.m), r.sl, r.sh⟩
/-- the signed bounds by the unsigned ones -/
def sT2 (r : Rn) : Rn := bif BitVec.sle r.lo r.hi then ⟨r.b, r.lo, r.hi, sMax r.sl r.lo, sMin r.sh r.hi⟩ else r
/-- the unsigned bounds by the signed ones -/
def sT3 (r : Rn) : Rn := bif BitVec.sle 0#64 r.sl || BitVec.slt r.sh 0#64 then ⟨r.b, uMax r.lo r.sl, uMin r.hi r.sh, r.sl, r.sh⟩ else r
/-- the bits by the unsigned bounds -/
def sT4 (r : Rn) : Rn × Bool := bif meetB r.b (sAlike r.lo r.hi) && (!BitVec.ult r.hi r.lo && !BitVec.slt r.sh r.sl) then (⟨meetN r.b (sAlike r.lo r.hi), r.lo, r.hi, r.sl, r.sh⟩, true) else (zeroR, false)
/-- a range, settled, and whether it has a number -/
def settleF (r : Rn) : Rn × Bool := bif tRight r.b then sT4 (sT3 (sT2 (sT1 r))) else (zeroR, false)
theorem settle_no {r : Rn} (h : tRight r.b = false) : settleF r = (zeroR, false) := by unfold settleF; rw [h]; rfl
theorem settle_ok {r : Rn} (h : tRight r.b = true) : settleF r = sT4 (sT3 (sT2 (sT1 r))) := by unfold settleF; rw [h]; rfl
theorem sT4_no {r : Rn} (h : (!meetB r.b (sAlike r.lo r.hi) || ((BitVec.ult r.hi r.lo) || (BitVec.slt r.sh r.sl))) = true) : sT4 r = (zeroR, false) := by
 unfold sT4
 cases e1 : meetB r.b (sAlike r.lo r.hi) <;> cases e2 : BitVec.ult r.hi r.lo <;> cases e3 : BitVec.slt r.sh r.sl <;> first | rfl | (rw [e1, e2, e3] at h; cases h)
theorem sT4_ok {r : Rn} (h : (!meetB r.b (sAlike r.lo r.hi) || ((BitVec.ult r.hi r.lo) || (BitVec.slt r.sh r.sl))) = false) : sT4 r = (⟨meetN r.b (sAlike r.lo r.hi), r.lo, r.hi, r.sl, r.sh⟩, true) := by
 unfold sT4
 cases e1 : meetB r.b (sAlike r.lo r.hi) <;> cases e2 : BitVec.ult r.hi r.lo <;> cases e3 : BitVec.slt r.sh r.sl <;> first | rfl | (rw [e1, e2, e3] at h; cases h)
set_option maxRecDepth 100000 in
set_option maxHeartbeats 16000000 in
theorem Settle_any (r : Rn) (w : World) (N : Nat) (hN : Sz w N) : Calls Tryd.prog 13 #[rV r] w fun e w' => e = .returned (.tuple #[rV (settleF r).1, .bool (settleF r).2]) ∧ Below N w w' := by
 obtain ⟨rr, er⟩ : ∃ rr, rr = (settleF r) := ⟨_, rfl⟩
 rw [← er]
 have ER := hid er
 clear er
 unfold rV
 go_enter Tryd.func13, Tryd.ntmps13
 go_upto_region 1 with (first
  | (refine wpl_box rfl 27 (.tmp 0) rfl 6 _ rfl (N) hN ?_; intro w1 hN1 hb1 hh1)
  | (refine wpl_alloc rfl 27 rfl 6 (rC zeroR) zeR (N + 1) hN1 ?_; intro w2 hN2 hb2 hh2)
  | fail)
 have lo0 : Below N w w2 := (hb1.trans (hb2.mono (by omega)))
 have k1 := (hh1.below hb2 (by omega))
 have k2 := hh2
 clear hh1 hb1 hh2 hb2 hN1
 cases h1_ : (tRight r.b)
 ·have H1_ := hid h1_
  clear h1_
  go_upto_region 1 with fail
  obtain ⟨c3, c4, c5, c6, c7, c8⟩ := r_cells k1
  refine wp_region_later1 ((N + 1 + 1)) ?_
  try simp only [pA]
  go_big_quiet_step (fail)
  refine later_val (fun qq => run_bits 25 (.tmp 6) rfl N rfl 27 (Later.has hN2 k1 qq) undT szT) (by rfl) ?_; simp only [pA]
  go_big_quiet_step ((go_at_call 35; exact later_of hN2 _ (fun K hK hKN => ret_is H1_.out (Right_any r.b) _ K hK)))
  go_big_quiet_step (fail)
  refine wpQuiet_nil (laterE hN2 ?_)
  intro xw9 M10 hbxw9 hM10 lM10
  have k11 := k1.below hbxw9 (by omega)
  have k12 := k2.below hbxw9 (by omega)
  have lo13 := lo0.trans (hbxw9.mono (by omega))
  clear k1 c3 c4 c5 c6 c7 c8 k2 lo0 hbxw9
  go_upto_region 2 with fail
  refine wp_region_lit ?_
  try simp only [pA]
  change wpList _ _ _ ((_ :: []) ++ (_ :: _ :: [])) _ _
  refine wpList_prefix (C := fun w' => ∃ x : Later M10 xw9, w' = x.w') _ _ _ _ ⟨⟨_, Below.refl _ _⟩, rfl⟩ ?_
  refine later_val (fun q => run_bd 27 _ rfl (cellsOf (rC ⟨zeroN, 0#64, 0#64, 0#64, 0#64⟩) 6) (by kernel_rfl) q.w') (by rfl) ?_; simp only [pA]
  refine wpQuiet_nil (laterE hM10 ?_)
  intro xw14 M15 hbxw14 hM15 lM15
  have k16 := k11.below hbxw14 (by omega)
  have k17 := k12.below hbxw14 (by omega)
  have lo18 := lo13.trans (hbxw14.mono (by omega))
  clear k11 k12 lo13 hbxw14
  refine wpl_store rfl 27 (.tmp 2) (.tmp 10) rfl (N + 1) 6 (rC ⟨zeroN, 0#64, 0#64, 0#64, 0#64⟩) rfl rfl 27 _ k17 szR (fun j _ => rC_one _ j) ?_
  intro xw19 t20 k21; try simp only [pA]
  have k22 := k16.touch t20 (by omega)
  have lo23 := t20.below lo18 (by omega)
  have h24 := t20.sz hM15
  clear k17 k16 lo18 hM15 t20
  refine wpl_run rfl (Value.bool false) _ (run_as (x := (.const (.bool false))) rfl _ rfl) ?_; simp only [pA]
  obtain ⟨M25, hM25⟩ := sz_some xw19
  have lt_26 := k22.ltN hM25
  have lt_27 := k21.ltN hM25
  go_wp2_with fail
  refine post_rb rfl (N + 1) rfl k21 undR szR rfl rfl ?_
  exact ⟨by rw [ER.out, settle_no H1_.out] <;> rfl, lo23⟩
 ·have H1_ := hid h1_
  clear h1_
  go_upto_region 1 with fail
  obtain ⟨c3, c4, c5, c6, c7, c8⟩ := r_cells k1
  refine wp_region_later1 ((N + 1 + 1)) ?_
  try simp only [pA]
  go_big_quiet_step (fail)
  refine later_val (fun qq => run_bits 25 (.tmp 6) rfl N rfl 27 (Later.has hN2 k1 qq) undT szT) (by rfl) ?_; simp only [pA]
  go_big_quiet_step ((go_at_call 35; exact later_of hN2 _ (fun K hK hKN => ret_is H1_.out (Right_any r.b) _ K hK)))
  go_big_quiet_step (fail)
  refine wpQuiet_nil (laterE hN2 ?_)
  intro xw9 M10 hbxw9 hM10 lM10
  have k11 := k1.below hbxw9 (by omega)
  have k12 := k2.below hbxw9 (by omega)
  have lo13 := lo0.trans (hbxw9.mono (by omega))
  clear k1 c3 c4 c5 c6 c7 c8 k2 lo0 hbxw9
  go_upto_region 3 with fail
  refine wp_region_lit ?_
  try simp only [pA]
  change wpList _ _ _ ((_ :: _ :: _ :: _ :: _ :: _ :: _ :: _ :: _ :: _ :: _ :: _ :: _ :: _ :: _ :: _ :: _ :: []) ++ (_ :: _ :: _ :: [])) _ _
  obtain ⟨c14, c15, c16, c17, c18, c19⟩ := r_cells k11
  refine wpList_prefix (C := fun w' => ∃ x : Later M10 xw9, w' = x.w') _ _ _ _ ⟨⟨_, Below.refl _ _⟩, rfl⟩ ?_
  go_big_quiet_step (fail)
  refine later_c1 hM10 23 (.tmp 11) rfl rfl und64 rfl c16 (by rfl) ?_; simp only [pA]
  iterate 2 (go_big_quiet_step (fail))
  refine later_c1 hM10 23 (.tmp 14) rfl rfl und64 rfl c14 (by rfl) ?_; simp only [pA]
  refine later_val (fun qq => run_maxQ (x := (.tmp 12)) (y := (.tmp 15)) (p := r.lo) (q := r.b.v) rfl rfl rfl qq.w') (by rfl) ?_; simp only [pA]
  go_big_quiet_step (fail)
  refine later_c1 hM10 23 (.tmp 17) rfl rfl und64 rfl c17 (by rfl) ?_; simp only [pA]
  iterate 2 (go_big_quiet_step (fail))
  refine later_c1 hM10 23 (.tmp 20) rfl rfl und64 rfl c14 (by rfl) ?_; simp only [pA]
  iterate 2 (go_big_quiet_step (fail))
  refine later_c1 hM10 23 (.tmp 23) rfl rfl und64 rfl c15 (by rfl) ?_; simp only [pA]
  refine later_b (x := (.tmp 21)) (y := (.tmp 24)) rfl (bin_or _ r.b.v r.b.m) rfl rfl (by rfl) ?_; simp only [pA]
  refine later_val (fun qq => run_minQ (x := (.tmp 18)) (y := (.tmp 25)) (p := r.hi) (q := (r.b.v ||| r.b.m)) rfl rfl rfl qq.w') (by rfl) ?_; simp only [pA]
  go_big_quiet_step (fail)
  refine wpQuiet_nil (laterE hM10 ?_)
  intro xw20 M21 hbxw20 hM21 lM21
  have k22 := k11.below hbxw20 (by omega)
  have k23 := k12.below hbxw20 (by omega)
  have lo24 := lo13.trans (hbxw20.mono (by omega))
  clear k11 c14 c15 c16 c17 c18 c19 k12 lo13 hbxw20
  refine wpl_set rfl 23 (.tmp 27) (.tmp 16) rfl N 2 rfl _ rfl sz64 rfl rfl 27 6 _ k22 (by omega) ?_
  intro xw25 t26 k27_; try simp only [pA]
  have k27 : Has xw25 N 27 6 (rC ⟨r.b, (uMax r.lo r.b.v), r.hi, r.sl, r.sh⟩) := k27_.congr (fun j hj => set_lo _ _ j)
  have k28 := k23.touch t26 (by omega)
  have lo29 := t26.below lo24 (by omega)
  have h30 := t26.sz hM21
  clear k22 k27_ k23 lo24 hM21 t26
  refine wpl_run rfl (Value.pointer (some ⟨N, 3, none⟩)) _ (run_fa 27 (.tmp 1) 2 3 rfl rfl faR2) ?_; simp only [pA]
  refine wpl_set rfl 23 (.tmp 28) (.tmp 26) rfl N 3 rfl _ rfl sz64 rfl rfl 27 6 _ k27 (by omega) ?_
  intro xw31 t32 k33_; try simp only [pA]
  have k33 : Has xw31 N 27 6 (rC ⟨r.b, (uMax r.lo r.b.v), (uMin r.hi (r.b.v ||| r.b.m)), r.sl, r.sh⟩) := k33_.congr (fun j hj => set_hi _ _ j)
  have k34 := k28.touch t32 (by omega)
  have lo35 := t32.below lo29 (by omega)
  have h36 := t32.sz h30
  clear k27 k33_ k28 lo29 h30 t32
  obtain ⟨M37, hM37⟩ := sz_some xw31
  have lt_38 := k33.ltN hM37
  have lt_39 := k34.ltN hM37
  have kT1 : Has xw31 N 27 6 (rC (sT1 r)) := k33
  clear k33
  go_upto_region 4 with fail
  go_cut [35] (fun v wx => v = (Value.bool (BitVec.sle (sT1 r).lo (sT1 r).hi)) ∧ Below M37 xw31 wx)
  case first =>
   have lc := Below.refl M37 xw31
   cases h2_ : (BitVec.sle (sT1 r).lo (sT1 r).hi)
   ·have H2_ := hid h2_
    clear h2_
    go_upto_region 4 with fail
    obtain ⟨c40, c41, c42, c43, c44, c45⟩ := r_cells kT1
    refine wp_region_later1 (M37) ?_
    try simp only [pA]
    go_big_quiet_step (fail)
    refine later_c1 hM37 23 (.tmp 29) rfl rfl und64 rfl c42 (by rfl) ?_; simp only [pA]
    refine later_val (fun q => run_us (x := (.tmp 30)) rfl und64 undI64 rfl q.w') (by rfl) ?_; simp only [pA]
    go_big_quiet_step (fail)
    refine later_c1 hM37 23 (.tmp 32) rfl rfl und64 rfl c43 (by rfl) ?_; simp only [pA]
    refine later_val (fun q => run_us (x := (.tmp 33)) rfl und64 undI64 rfl q.w') (by rfl) ?_; simp only [pA]
    refine later_b (x := (.tmp 31)) (y := (.tmp 34)) rfl (BinRun.is H2_.out (bin_sleq _ (sT1 r).lo (sT1 r).hi)) rfl rfl (by rfl) ?_; simp only [pA]
    refine wpQuiet_nil (laterE hM37 ?_)
    intro xw46 M47 hbxw46 hM47 lM47
    have k48 := kT1.below hbxw46 (by omega)
    have k49 := k34.below hbxw46 (by omega)
    have lo50 := lc.trans (hbxw46.mono (by omega))
    clear kT1 c40 c41 c42 c43 c44 c45 k34 lc hbxw46
    go_wp2_with fail
    go_meet
    exact ⟨by first | rfl | (simp only [H1_.out, H2_.out, bB] <;> rfl), lo50⟩
   ·have H2_ := hid h2_
    clear h2_
    go_upto_region 4 with fail
    obtain ⟨c40, c41, c42, c43, c44, c45⟩ := r_cells kT1
    refine wp_region_later1 (M37) ?_
    try simp only [pA]
    go_big_quiet_step (fail)
    refine later_c1 hM37 23 (.tmp 29) rfl rfl und64 rfl c42 (by rfl) ?_; simp only [pA]
    refine later_val (fun q => run_us (x := (.tmp 30)) rfl und64 undI64 rfl q.w') (by rfl) ?_; simp only [pA]
    go_big_quiet_step (fail)
    refine later_c1 hM37 23 (.tmp 32) rfl rfl und64 rfl c43 (by rfl) ?_; simp only [pA]
    refine later_val (fun q => run_us (x := (.tmp 33)) rfl und64 undI64 rfl q.w') (by rfl) ?_; simp only [pA]
    refine later_b (x := (.tmp 31)) (y := (.tmp 34)) rfl (BinRun.is H2_.out (bin_sleq _ (sT1 r).lo (sT1 r).hi)) rfl rfl (by rfl) ?_; simp only [pA]
    refine wpQuiet_nil (laterE hM37 ?_)
    intro xw46 M47 hbxw46 hM47 lM47
    have k48 := kT1.below hbxw46 (by omega)
    have k49 := k34.below hbxw46 (by omega)
    have lo50 := lc.trans (hbxw46.mono (by omega))
    clear kT1 c40 c41 c42 c43 c44 c45 k34 lc hbxw46
    go_wp2_with fail
    go_meet
    exact ⟨by first | rfl | (simp only [H1_.out, H2_.out, bB] <;> rfl), lo50⟩
  case rest =>
   obtain ⟨rfl, hbxc1_⟩ := hcut
   obtain ⟨M40, hM40⟩ := sz_some wc
   have lM40 := below_sz hbxc1_ hM37 hM40
   have k41 := kT1.below hbxc1_ (by omega)
   have k42 := k34.below hbxc1_ (by omega)
   have lo43 := lo35.trans (hbxc1_.mono (by omega))
   clear kT1 k34 lo35 hbxc1_
   go_upto_if 35 with fail
   obtain ⟨s35, es35⟩ : ∃ s, s = (BitVec.sle (sT1 r).lo (sT1 r).hi) := ⟨_, rfl⟩
   rw [← es35]
   have Es35 := hid es35
   clear es35
   go_cut [] (fun wx => Has wx N 27 6 (rC (sT2 (sT1 r))) ∧ Has wx (N + 1) 27 6 (rC zeroR) ∧ Below N w wx)
   case first =>
    cases s35
    ·skip
     go_wp2_with fail
     go_meet
     have kq44 : Has wc N 27 6 (rC (sT2 (sT1 r))) := by have e_ := Es35.out; rw [show sT2 (sT1 r) = (sT1 r) from by unfold sT2; rw [← e_]; rfl]; exact k41
     exact ⟨kq44, k42, lo43⟩
    ·skip
     go_upto_region 5 with fail
     refine wp_region_lit ?_
     try simp only [pA]
     change wpList _ _ _ ((_ :: _ :: _ :: _ :: _ :: _ :: _ :: _ :: _ :: _ :: _ :: _ :: _ :: []) ++ (_ :: _ :: _ :: [])) _ _
     obtain ⟨c44, c45, c46, c47, c48, c49⟩ := r_cells k41
     refine wpList_prefix (C := fun w' => ∃ x : Later M40 wc, w' = x.w') _ _ _ _ ⟨⟨_, Below.refl _ _⟩, rfl⟩ ?_
     go_big_quiet_step (fail)
     refine later_c1 hM40 2 (.tmp 36) rfl rfl undI64 rfl c48 (by rfl) ?_; simp only [pA]
     go_big_quiet_step (fail)
     refine later_c1 hM40 23 (.tmp 38) rfl rfl und64 rfl c46 (by rfl) ?_; simp only [pA]
     refine later_val (fun q => run_us (x := (.tmp 39)) rfl und64 undI64 rfl q.w') (by rfl) ?_; simp only [pA]
     refine later_val (fun qq => run_maxS (x := (.tmp 37)) (y := (.tmp 40)) (p := (sT1 r).sl) (q := (sT1 r).lo) rfl rfl rfl qq.w') (by rfl) ?_; simp only [pA]
     go_big_quiet_step (fail)
     refine later_c1 hM40 2 (.tmp 42) rfl rfl undI64 rfl c49 (by rfl) ?_; simp only [pA]
     go_big_quiet_step (fail)
     refine later_c1 hM40 23 (.tmp 44) rfl rfl und64 rfl c47 (by rfl) ?_; simp only [pA]
     refine later_val (fun q => run_us (x := (.tmp 45)) rfl und64 undI64 rfl q.w') (by rfl) ?_; simp only [pA]
     refine later_val (fun qq => run_minS (x := (.tmp 43)) (y := (.tmp 46)) (p := (sT1 r).sh) (q := (sT1 r).hi) rfl rfl rfl qq.w') (by rfl) ?_; simp only [pA]
     go_big_quiet_step (fail)
     refine wpQuiet_nil (laterE hM40 ?_)
     intro xw50 M51 hbxw50 hM51 lM51
     have k52 := k41.below hbxw50 (by omega)
     have k53 := k42.below hbxw50 (by omega)
     have lo54 := lo43.trans (hbxw50.mono (by omega))
     clear k41 c44 c45 c46 c47 c48 c49 k42 lo43 hbxw50
     refine wpl_set rfl 2 (.tmp 48) (.tmp 41) rfl N 4 rfl _ rfl szI rfl rfl 27 6 _ k52 (by omega) ?_
     intro xw55 t56 k57_; try simp only [pA]
     have k57 : Has xw55 N 27 6 (rC ⟨(sT1 r).b, (sT1 r).lo, (sT1 r).hi, (sMax (sT1 r).sl (sT1 r).lo), (sT1 r).sh⟩) := k57_.congr (fun j hj => set_sl _ _ j)
     have k58 := k53.touch t56 (by omega)
     have lo59 := t56.below lo54 (by omega)
     have h60 := t56.sz hM51
     clear k52 k57_ k53 lo54 hM51 t56
     refine wpl_run rfl (Value.pointer (some ⟨N, 5, none⟩)) _ (run_fa 27 (.tmp 1) 4 5 rfl rfl faR4) ?_; simp only [pA]
     refine wpl_set rfl 2 (.tmp 49) (.tmp 47) rfl N 5 rfl _ rfl szI rfl rfl 27 6 _ k57 (by omega) ?_
     intro xw61 t62 k63_; try simp only [pA]
     have k63 : Has xw61 N 27 6 (rC ⟨(sT1 r).b, (sT1 r).lo, (sT1 r).hi, (sMax (sT1 r).sl (sT1 r).lo), (sMin (sT1 r).sh (sT1 r).hi)⟩) := k63_.congr (fun j hj => set_sh _ _ j hj)
     have k64 := k58.touch t62 (by omega)
     have lo65 := t62.below lo59 (by omega)
     have h66 := t62.sz h60
     clear k57 k63_ k58 lo59 h60 t62
     obtain ⟨M67, hM67⟩ := sz_some xw61
     have lt_68 := k63.ltN hM67
     have lt_69 := k64.ltN hM67
     go_wp2_with fail
     go_meet
     have kq70 : Has xw61 N 27 6 (rC (sT2 (sT1 r))) := by have e_ := Es35.out; rw [show sT2 (sT1 r) = ⟨(sT1 r).b, (sT1 r).lo, (sT1 r).hi, (sMax (sT1 r).sl (sT1 r).lo), (sMin (sT1 r).sh (sT1 r).hi)⟩ from by unfold sT2; rw [← e_]; rfl]; exact k63
     exact ⟨kq70, k64, lo65⟩
   case rest =>
    clear k41 k42 lo43 hM40
    obtain ⟨k44, k45, lo46⟩ := hcut
    obtain ⟨M47, hM47⟩ := sz_some wc
    have lt_48 := k44.ltN hM47
    have lt_49 := k45.ltN hM47
    have lN_50 := below_sz lo46 hN hM47
    go_upto_region 6 with fail
    go_cut [57] (fun v wx => v = (Value.bool ((BitVec.sle 0#64 (sT2 (sT1 r)).sl) || (BitVec.slt (sT2 (sT1 r)).sh 0#64))) ∧ Below M47 wc wx)
    case first =>
     have lc := Below.refl M47 wc
     cases h2_ : (BitVec.sle 0#64 (sT2 (sT1 r)).sl)
     ·have H2_ := hid h2_
      clear h2_
      cases h3_ : (BitVec.slt (sT2 (sT1 r)).sh 0#64)
      ·have H3_ := hid h3_
       clear h3_
       go_upto_region 6 with fail
       obtain ⟨c51, c52, c53, c54, c55, c56⟩ := r_cells k44
       refine wp_region_later1 (M47) ?_
       try simp only [pA]
       go_big_quiet_step (fail)
       refine later_c1 hM47 2 (.tmp 50) rfl rfl undI64 rfl c55 (by rfl) ?_; simp only [pA]
       refine later_b (x := (.tmp 51)) (y := (.const (.int .i64 0))) rfl (BinRun.is H2_.out (bin_sgeq _ (sT2 (sT1 r)).sl 0#64)) rfl rfl (by rfl) ?_; simp only [pA]
       iterate 2 (go_big_quiet_step (fail))
       refine later_c1 hM47 2 (.tmp 54) rfl rfl undI64 rfl c56 (by rfl) ?_; simp only [pA]
       refine later_b (x := (.tmp 55)) (y := (.const (.int .i64 0))) rfl (BinRun.is H3_.out (bin_slss _ (sT2 (sT1 r)).sh 0#64)) rfl rfl (by rfl) ?_; simp only [pA]
       go_big_quiet_step (fail)
       refine wpQuiet_nil (laterE hM47 ?_)
       intro xw57 M58 hbxw57 hM58 lM58
       have k59 := k44.below hbxw57 (by omega)
       have k60 := k45.below hbxw57 (by omega)
       have lo61 := lc.trans (hbxw57.mono (by omega))
       clear k44 c51 c52 c53 c54 c55 c56 k45 lc hbxw57
       go_wp2_with fail
       go_meet
       exact ⟨by first | rfl | (simp only [H1_.out, H2_.out, H3_.out, bB] <;> rfl), lo61⟩
      ·have H3_ := hid h3_
       clear h3_
       go_upto_region 6 with fail
       obtain ⟨c51, c52, c53, c54, c55, c56⟩ := r_cells k44
       refine wp_region_later1 (M47) ?_
       try simp only [pA]
       go_big_quiet_step (fail)
       refine later_c1 hM47 2 (.tmp 50) rfl rfl undI64 rfl c55 (by rfl) ?_; simp only [pA]
       refine later_b (x := (.tmp 51)) (y := (.const (.int .i64 0))) rfl (BinRun.is H2_.out (bin_sgeq _ (sT2 (sT1 r)).sl 0#64)) rfl rfl (by rfl) ?_; simp only [pA]
       iterate 2 (go_big_quiet_step (fail))
       refine later_c1 hM47 2 (.tmp 54) rfl rfl undI64 rfl c56 (by rfl) ?_; simp only [pA]
       refine later_b (x := (.tmp 55)) (y := (.const (.int .i64 0))) rfl (BinRun.is H3_.out (bin_slss _ (sT2 (sT1 r)).sh 0#64)) rfl rfl (by rfl) ?_; simp only [pA]
       go_big_quiet_step (fail)
       refine wpQuiet_nil (laterE hM47 ?_)
       intro xw57 M58 hbxw57 hM58 lM58
       have k59 := k44.below hbxw57 (by omega)
       have k60 := k45.below hbxw57 (by omega)
       have lo61 := lc.trans (hbxw57.mono (by omega))
       clear k44 c51 c52 c53 c54 c55 c56 k45 lc hbxw57
       go_wp2_with fail
       go_meet
       exact ⟨by first | rfl | (simp only [H1_.out, H2_.out, H3_.out, bB] <;> rfl), lo61⟩
     ·have H2_ := hid h2_
      clear h2_
      go_upto_region 6 with fail
      obtain ⟨c51, c52, c53, c54, c55, c56⟩ := r_cells k44
      refine wp_region_later1 (M47) ?_
      try simp only [pA]
      go_big_quiet_step (fail)
      refine later_c1 hM47 2 (.tmp 50) rfl rfl undI64 rfl c55 (by rfl) ?_; simp only [pA]
      refine later_b (x := (.tmp 51)) (y := (.const (.int .i64 0))) rfl (BinRun.is H2_.out (bin_sgeq _ (sT2 (sT1 r)).sl 0#64)) rfl rfl (by rfl) ?_; simp only [pA]
      iterate 5 (go_big_quiet_step (fail))
      refine wpQuiet_nil (laterE hM47 ?_)
      intro xw57 M58 hbxw57 hM58 lM58
      have k59 := k44.below hbxw57 (by omega)
      have k60 := k45.below hbxw57 (by omega)
      have lo61 := lc.trans (hbxw57.mono (by omega))
      clear k44 c51 c52 c53 c54 c55 c56 k45 lc hbxw57
      go_wp2_with fail
      go_meet
      exact ⟨by first | rfl | (simp only [H1_.out, H2_.out, bB] <;> rfl), lo61⟩
    case rest =>
     obtain ⟨rfl, hbxc2_⟩ := hcut
     obtain ⟨M51, hM51⟩ := sz_some wc
     have lM51 := below_sz hbxc2_ hM47 hM51
     have k52 := k44.below hbxc2_ (by omega)
     have k53 := k45.below hbxc2_ (by omega)
     have lo54 := lo46.trans (hbxc2_.mono (by omega))
     clear k44 k45 lo46 hbxc2_
     go_upto_if 57 with fail
     obtain ⟨s57, es57⟩ : ∃ s, s = ((BitVec.sle 0#64 (sT2 (sT1 r)).sl) || (BitVec.slt (sT2 (sT1 r)).sh 0#64)) := ⟨_, rfl⟩
     rw [← es57]
     have Es57 := hid es57
     clear es57
     go_cut [] (fun wx => Has wx N 27 6 (rC (sT3 (sT2 (sT1 r)))) ∧ Has wx (N + 1) 27 6 (rC zeroR) ∧ Below N w wx)
     case first =>
      cases s57
      ·skip
       go_wp2_with fail
       go_meet
       have kq55 : Has wc N 27 6 (rC (sT3 (sT2 (sT1 r)))) := by have e_ := Es57.out; rw [show sT3 (sT2 (sT1 r)) = (sT2 (sT1 r)) from by unfold sT3; rw [← e_]; rfl]; exact k52
       exact ⟨kq55, k53, lo54⟩
      ·skip
       go_upto_region 7 with fail
       refine wp_region_lit ?_
       try simp only [pA]
       change wpList _ _ _ ((_ :: _ :: _ :: _ :: _ :: _ :: _ :: _ :: _ :: _ :: _ :: _ :: _ :: []) ++ (_ :: _ :: _ :: [])) _ _
       obtain ⟨c55, c56, c57, c58, c59, c60⟩ := r_cells k52
       refine wpList_prefix (C := fun w' => ∃ x : Later M51 wc, w' = x.w') _ _ _ _ ⟨⟨_, Below.refl _ _⟩, rfl⟩ ?_
       go_big_quiet_step (fail)
       refine later_c1 hM51 23 (.tmp 58) rfl rfl und64 rfl c57 (by rfl) ?_; simp only [pA]
       go_big_quiet_step (fail)
       refine later_c1 hM51 2 (.tmp 60) rfl rfl undI64 rfl c59 (by rfl) ?_; simp only [pA]
       refine later_val (fun q => run_su (x := (.tmp 61)) rfl undI64 und64 rfl q.w') (by rfl) ?_; simp only [pA]
       refine later_val (fun qq => run_maxQ (x := (.tmp 59)) (y := (.tmp 62)) (p := (sT2 (sT1 r)).lo) (q := (sT2 (sT1 r)).sl) rfl rfl rfl qq.w') (by rfl) ?_; simp only [pA]
       go_big_quiet_step (fail)
       refine later_c1 hM51 23 (.tmp 64) rfl rfl und64 rfl c58 (by rfl) ?_; simp only [pA]
       go_big_quiet_step (fail)
       refine later_c1 hM51 2 (.tmp 66) rfl rfl undI64 rfl c60 (by rfl) ?_; simp only [pA]
       refine later_val (fun q => run_su (x := (.tmp 67)) rfl undI64 und64 rfl q.w') (by rfl) ?_; simp only [pA]
       refine later_val (fun qq => run_minQ (x := (.tmp 65)) (y := (.tmp 68)) (p := (sT2 (sT1 r)).hi) (q := (sT2 (sT1 r)).sh) rfl rfl rfl qq.w') (by rfl) ?_; simp only [pA]
       go_big_quiet_step (fail)
       refine wpQuiet_nil (laterE hM51 ?_)
       intro xw61 M62 hbxw61 hM62 lM62
       have k63 := k52.below hbxw61 (by omega)
       have k64 := k53.below hbxw61 (by omega)
       have lo65 := lo54.trans (hbxw61.mono (by omega))
       clear k52 c55 c56 c57 c58 c59 c60 k53 lo54 hbxw61
       refine wpl_set rfl 23 (.tmp 70) (.tmp 63) rfl N 2 rfl _ rfl sz64 rfl rfl 27 6 _ k63 (by omega) ?_
       intro xw66 t67 k68_; try simp only [pA]
       have k68 : Has xw66 N 27 6 (rC ⟨(sT2 (sT1 r)).b, (uMax (sT2 (sT1 r)).lo (sT2 (sT1 r)).sl), (sT2 (sT1 r)).hi, (sT2 (sT1 r)).sl, (sT2 (sT1 r)).sh⟩) := k68_.congr (fun j hj => set_lo _ _ j)
       have k69 := k64.touch t67 (by omega)
       have lo70 := t67.below lo65 (by omega)
       have h71 := t67.sz hM62
       clear k63 k68_ k64 lo65 hM62 t67
       refine wpl_run rfl (Value.pointer (some ⟨N, 3, none⟩)) _ (run_fa 27 (.tmp 1) 2 3 rfl rfl faR2) ?_; simp only [pA]
       refine wpl_set rfl 23 (.tmp 71) (.tmp 69) rfl N 3 rfl _ rfl sz64 rfl rfl 27 6 _ k68 (by omega) ?_
       intro xw72 t73 k74_; try simp only [pA]
       have k74 : Has xw72 N 27 6 (rC ⟨(sT2 (sT1 r)).b, (uMax (sT2 (sT1 r)).lo (sT2 (sT1 r)).sl), (uMin (sT2 (sT1 r)).hi (sT2 (sT1 r)).sh), (sT2 (sT1 r)).sl, (sT2 (sT1 r)).sh⟩) := k74_.congr (fun j hj => set_hi _ _ j)
       have k75 := k69.touch t73 (by omega)
       have lo76 := t73.below lo70 (by omega)
       have h77 := t73.sz h71
       clear k68 k74_ k69 lo70 h71 t73
       obtain ⟨M78, hM78⟩ := sz_some xw72
       have lt_79 := k74.ltN hM78
       have lt_80 := k75.ltN hM78
       go_wp2_with fail
       go_meet
       have kq81 : Has xw72 N 27 6 (rC (sT3 (sT2 (sT1 r)))) := by have e_ := Es57.out; rw [show sT3 (sT2 (sT1 r)) = ⟨(sT2 (sT1 r)).b, (uMax (sT2 (sT1 r)).lo (sT2 (sT1 r)).sl), (uMin (sT2 (sT1 r)).hi (sT2 (sT1 r)).sh), (sT2 (sT1 r)).sl, (sT2 (sT1 r)).sh⟩ from by unfold sT3; rw [← e_]; rfl]; exact k74
       exact ⟨kq81, k75, lo76⟩
     case rest =>
      clear k52 k53 lo54 hM51
      obtain ⟨k55, k56, lo57⟩ := hcut
      obtain ⟨M58, hM58⟩ := sz_some wc
      have lt_59 := k55.ltN hM58
      have lt_60 := k56.ltN hM58
      have lN_61 := below_sz lo57 hN hM58
      go_upto_region 8 with fail
      refine wp_mid (fun ac (x : Nat) => (((((((((((((ac.put (some 73) (Value.pointer (some ⟨N, 0, none⟩))).put (some 74) (Value.agg (cellsOf (nC (sT3 (sT2 (sT1 r))).b) 2))).put (some 75) (Value.pointer (some ⟨N, 2, none⟩))).put (some 76) (Q (sT3 (sT2 (sT1 r))).lo)).put (some 77) (Value.pointer (some ⟨N, 3, none⟩))).put (some 78) (Q (sT3 (sT2 (sT1 r))).hi)).put (some 79) (Value.agg (cellsOf (nC (sAlike (sT3 (sT2 (sT1 r))).lo (sT3 (sT2 (sT1 r))).hi)) 2))).put (some 80) (Value.tuple #[(Value.agg (cellsOf (nC (meetN (sT3 (sT2 (sT1 r))).b (sAlike (sT3 (sT2 (sT1 r))).lo (sT3 (sT2 (sT1 r))).hi))) 2)), (Value.bool (meetB (sT3 (sT2 (sT1 r))).b (sAlike (sT3 (sT2 (sT1 r))).lo (sT3 (sT2 (sT1 r))).hi)))])).put (some 72) (Value.tuple #[(Value.agg (cellsOf (nC (meetN (sT3 (sT2 (sT1 r))).b (sAlike (sT3 (sT2 (sT1 r))).lo (sT3 (sT2 (sT1 r))).hi))) 2)), (Value.bool (meetB (sT3 (sT2 (sT1 r))).b (sAlike (sT3 (sT2 (sT1 r))).lo (sT3 (sT2 (sT1 r))).hi)))])).put (some 81) (Value.agg (cellsOf (nC (meetN (sT3 (sT2 (sT1 r))).b (sAlike (sT3 (sT2 (sT1 r))).lo (sT3 (sT2 (sT1 r))).hi))) 2))).put (some 82) (Value.bool (meetB (sT3 (sT2 (sT1 r))).b (sAlike (sT3 (sT2 (sT1 r))).lo (sT3 (sT2 (sT1 r))).hi)))).put (some 4) (.pointer (some ⟨x, 0, none⟩))).put (some 5) (Value.bool (meetB (sT3 (sT2 (sT1 r))).b (sAlike (sT3 (sT2 (sT1 r))).lo (sT3 (sT2 (sT1 r))).hi))))) (fun x w' => Has w' x 25 2 (nC (meetN (sT3 (sT2 (sT1 r))).b (sAlike (sT3 (sT2 (sT1 r))).lo (sT3 (sT2 (sT1 r))).hi))) ∧ Has w' N 27 6 (rC (sT3 (sT2 (sT1 r)))) ∧ Has w' (N + 1) 27 6 (rC zeroR) ∧ M58 ≤ x ∧ Below N w w') ?_ ?_
      ·refine wp_region_any (by kernel_rfl) ?_
       replace k55 : Has wc.drew N 27 6 (rC (sT3 (sT2 (sT1 r)))) := k55
       replace k56 : Has wc.drew (N + 1) 27 6 (rC zeroR) := k56
       replace hM58 : Sz wc.drew M58 := hM58
       replace lo57 : Below N w wc.drew := lo57.drew
       change wpAny _ _ _ _ _ _ _ (World.drew _)
       generalize wc.drew = xw63 at *
       obtain ⟨c64, c65, c66, c67, c68, c69⟩ := r_cells k55
       refine wpAny_potO (rem := [0, 1, 2, 3, 4, 5, 6, 7, 8, 9, 10, 11]) 10 (FG M58 (fun j => if j = 0 then some (Value.pointer (some ⟨N, 0, none⟩)) else if j = 1 then some (Value.agg (cellsOf (nC (sT3 (sT2 (sT1 r))).b) 2)) else if j = 2 then some (Value.pointer (some ⟨N, 2, none⟩)) else if j = 3 then some (Q (sT3 (sT2 (sT1 r))).lo) else if j = 4 then some (Value.pointer (some ⟨N, 3, none⟩)) else if j = 5 then some (Q (sT3 (sT2 (sT1 r))).hi) else if j = 6 then some (Value.agg (cellsOf (nC (sAlike (sT3 (sT2 (sT1 r))).lo (sT3 (sT2 (sT1 r))).hi)) 2)) else if j = 7 then some (Value.tuple #[(Value.agg (cellsOf (nC (meetN (sT3 (sT2 (sT1 r))).b (sAlike (sT3 (sT2 (sT1 r))).lo (sT3 (sT2 (sT1 r))).hi))) 2)), (Value.bool (meetB (sT3 (sT2 (sT1 r))).b (sAlike (sT3 (sT2 (sT1 r))).lo (sT3 (sT2 (sT1 r))).hi)))]) else if j = 8 then some (Value.tuple #[(Value.agg (cellsOf (nC (meetN (sT3 (sT2 (sT1 r))).b (sAlike (sT3 (sT2 (sT1 r))).lo (sT3 (sT2 (sT1 r))).hi))) 2)), (Value.bool (meetB (sT3 (sT2 (sT1 r))).b (sAlike (sT3 (sT2 (sT1 r))).lo (sT3 (sT2 (sT1 r))).hi)))]) else if j = 9 then some (Value.agg (cellsOf (nC (meetN (sT3 (sT2 (sT1 r))).b (sAlike (sT3 (sT2 (sT1 r))).lo (sT3 (sT2 (sT1 r))).hi))) 2)) else if j = 10 then some (Value.bool (meetB (sT3 (sT2 (sT1 r))).b (sAlike (sT3 (sT2 (sT1 r))).lo (sT3 (sT2 (sT1 r))).hi))) else none) (fun j => (25, 2, nC zeroN))) (TwoN (fun j => if j = 0 then some (Value.pointer (some ⟨N, 0, none⟩)) else if j = 1 then some (Value.agg (cellsOf (nC (sT3 (sT2 (sT1 r))).b) 2)) else if j = 2 then some (Value.pointer (some ⟨N, 2, none⟩)) else if j = 3 then some (Q (sT3 (sT2 (sT1 r))).lo) else if j = 4 then some (Value.pointer (some ⟨N, 3, none⟩)) else if j = 5 then some (Q (sT3 (sT2 (sT1 r))).hi) else if j = 6 then some (Value.agg (cellsOf (nC (sAlike (sT3 (sT2 (sT1 r))).lo (sT3 (sT2 (sT1 r))).hi)) 2)) else if j = 7 then some (Value.tuple #[(Value.agg (cellsOf (nC (meetN (sT3 (sT2 (sT1 r))).b (sAlike (sT3 (sT2 (sT1 r))).lo (sT3 (sT2 (sT1 r))).hi))) 2)), (Value.bool (meetB (sT3 (sT2 (sT1 r))).b (sAlike (sT3 (sT2 (sT1 r))).lo (sT3 (sT2 (sT1 r))).hi)))]) else if j = 8 then some (Value.tuple #[(Value.agg (cellsOf (nC (meetN (sT3 (sT2 (sT1 r))).b (sAlike (sT3 (sT2 (sT1 r))).lo (sT3 (sT2 (sT1 r))).hi))) 2)), (Value.bool (meetB (sT3 (sT2 (sT1 r))).b (sAlike (sT3 (sT2 (sT1 r))).lo (sT3 (sT2 (sT1 r))).hi)))]) else if j = 9 then some (Value.agg (cellsOf (nC (meetN (sT3 (sT2 (sT1 r))).b (sAlike (sT3 (sT2 (sT1 r))).lo (sT3 (sT2 (sT1 r))).hi))) 2)) else if j = 10 then some (Value.bool (meetB (sT3 (sT2 (sT1 r))).b (sAlike (sT3 (sT2 (sT1 r))).lo (sT3 (sT2 (sT1 r))).hi))) else none)) (Below M58 xw63) _ _ _ _ (by kernel_rfl) (size_dstG (by kernel_rfl)) (Below.refl _ _) ?_ ?_ ?_
       ·intro i hi ac wa hI ha hv
        simp only [List.mem_cons, List.not_mem_nil, or_false] at hi
        rcases hi with rfl | rfl | rfl | rfl | rfl | rfl | rfl | rfl | rfl | rfl | rfl | rfl
        ·exact potg_run rfl rfl (Value.pointer (some ⟨N, 0, none⟩)) rfl (run_fa 27 (.tmp 1) 0 0 rfl (ha 1 (not_dstG (by kernel_rfl))) faR0) hM58 hI
        ·obtain ⟨v0, hv0a, hv0b⟩ := hv 0 (by simp) (by kernel_rfl)
         have ev0 := hv0b.val rfl
         subst ev0
         exact potg_run rfl rfl (Value.agg (cellsOf (nC (sT3 (sT2 (sT1 r))).b) 2)) rfl (run_bits 25 (.tmp 73) rfl N (hv0a 73 rfl) 27 (Has.below k55 hI (Has.ltN k55 hM58)) undT szT) hM58 hI
        ·exact potg_run rfl rfl (Value.pointer (some ⟨N, 2, none⟩)) rfl (run_fa 27 (.tmp 1) 1 2 rfl (ha 1 (not_dstG (by kernel_rfl))) faR1) hM58 hI
        ·obtain ⟨v2, hv2a, hv2b⟩ := hv 2 (by simp) (by kernel_rfl)
         have ev2 := hv2b.val rfl
         subst ev2
         exact potg_run rfl rfl (Q (sT3 (sT2 (sT1 r))).lo) rfl (run_c1 23 (.tmp 75) rfl ⟨N, 2, none⟩ (hv2a 75 rfl) und64 rfl (keep_c hI hM58 c66)) hM58 hI
        ·exact potg_run rfl rfl (Value.pointer (some ⟨N, 3, none⟩)) rfl (run_fa 27 (.tmp 1) 2 3 rfl (ha 1 (not_dstG (by kernel_rfl))) faR2) hM58 hI
        ·obtain ⟨v4, hv4a, hv4b⟩ := hv 4 (by simp) (by kernel_rfl)
         have ev4 := hv4b.val rfl
         subst ev4
         exact potg_run rfl rfl (Q (sT3 (sT2 (sT1 r))).hi) rfl (run_c1 23 (.tmp 77) rfl ⟨N, 3, none⟩ (hv4a 77 rfl) und64 rfl (keep_c hI hM58 c67)) hM58 hI
        ·obtain ⟨v3, hv3a, hv3b⟩ := hv 3 (by simp) (by kernel_rfl)
         have ev3 := hv3b.val rfl
         subst ev3
         obtain ⟨v5, hv5a, hv5b⟩ := hv 5 (by simp) (by kernel_rfl)
         have ev5 := hv5b.val rfl
         subst ev5
         exact potg_cl rfl rfl 37 _ _ rfl #[(Q (sT3 (sT2 (sT1 r))).lo), (Q (sT3 (sT2 (sT1 r))).hi)] (by simp only [List.map_toArray, List.map_cons, List.map_nil, (show ac.eval (.tmp 76) = (Q (sT3 (sT2 (sT1 r))).lo) from (hv3a 76 rfl)), (show ac.eval (.tmp 78) = (Q (sT3 (sT2 (sT1 r))).hi) from (hv5a 78 rfl))] <;> rfl) (by kernel_rfl) (Value.agg (cellsOf (nC (sAlike (sT3 (sT2 (sT1 r))).lo (sT3 (sT2 (sT1 r))).hi)) 2)) (fun K hK => Alike_any (sT3 (sT2 (sT1 r))).lo (sT3 (sT2 (sT1 r))).hi wa K hK) rfl hM58 hI
        ·obtain ⟨v1, hv1a, hv1b⟩ := hv 1 (by simp) (by kernel_rfl)
         have ev1 := hv1b.val rfl
         subst ev1
         obtain ⟨v6, hv6a, hv6b⟩ := hv 6 (by simp) (by kernel_rfl)
         have ev6 := hv6b.val rfl
         subst ev6
         exact potg_cl rfl rfl 36 _ _ rfl #[(Value.agg (cellsOf (nC (sT3 (sT2 (sT1 r))).b) 2)), (Value.agg (cellsOf (nC (sAlike (sT3 (sT2 (sT1 r))).lo (sT3 (sT2 (sT1 r))).hi)) 2))] (by simp only [List.map_toArray, List.map_cons, List.map_nil, (show ac.eval (.tmp 74) = (Value.agg (cellsOf (nC (sT3 (sT2 (sT1 r))).b) 2)) from (hv1a 74 rfl)), (show ac.eval (.tmp 79) = (Value.agg (cellsOf (nC (sAlike (sT3 (sT2 (sT1 r))).lo (sT3 (sT2 (sT1 r))).hi)) 2)) from (hv6a 79 rfl))] <;> rfl) (by kernel_rfl) (Value.tuple #[(Value.agg (cellsOf (nC (meetN (sT3 (sT2 (sT1 r))).b (sAlike (sT3 (sT2 (sT1 r))).lo (sT3 (sT2 (sT1 r))).hi))) 2)), (Value.bool (meetB (sT3 (sT2 (sT1 r))).b (sAlike (sT3 (sT2 (sT1 r))).lo (sT3 (sT2 (sT1 r))).hi)))]) (fun K hK => Meet_any (sT3 (sT2 (sT1 r))).b (sAlike (sT3 (sT2 (sT1 r))).lo (sT3 (sT2 (sT1 r))).hi) wa K hK) rfl hM58 hI
        ·obtain ⟨v7, hv7a, hv7b⟩ := hv 7 (by simp) (by kernel_rfl)
         have ev7 := hv7b.val rfl
         subst ev7
         exact potg_run rfl rfl (Value.tuple #[(Value.agg (cellsOf (nC (meetN (sT3 (sT2 (sT1 r))).b (sAlike (sT3 (sT2 (sT1 r))).lo (sT3 (sT2 (sT1 r))).hi))) 2)), (Value.bool (meetB (sT3 (sT2 (sT1 r))).b (sAlike (sT3 (sT2 (sT1 r))).lo (sT3 (sT2 (sT1 r))).hi)))]) rfl (run_mv (x := (.tmp 80)) rfl _ (hv7a 80 rfl)) hM58 hI
        ·obtain ⟨v8, hv8a, hv8b⟩ := hv 8 (by simp) (by kernel_rfl)
         have ev8 := hv8b.val rfl
         subst ev8
         exact potg_run rfl rfl (Value.agg (cellsOf (nC (meetN (sT3 (sT2 (sT1 r))).b (sAlike (sT3 (sT2 (sT1 r))).lo (sT3 (sT2 (sT1 r))).hi))) 2)) rfl (run_ex (x := (.tmp 72)) rfl _ (hv8a 72 rfl) rfl) hM58 hI
        ·obtain ⟨v8, hv8a, hv8b⟩ := hv 8 (by simp) (by kernel_rfl)
         have ev8 := hv8b.val rfl
         subst ev8
         exact potg_run rfl rfl (Value.bool (meetB (sT3 (sT2 (sT1 r))).b (sAlike (sT3 (sT2 (sT1 r))).lo (sT3 (sT2 (sT1 r))).hi))) rfl (run_ex (x := (.tmp 72)) rfl _ (hv8a 72 rfl) rfl) hM58 hI
        ·exact potg_al rfl rfl rfl zeT rfl rfl hM58 hI
       ·intro vals w5_62_ hb5_62_ hF hG
        have e_62_0 := (hF 0 (by simp)).val rfl
        have e_62_1 := (hF 1 (by simp)).val rfl
        have e_62_2 := (hF 2 (by simp)).val rfl
        have e_62_3 := (hF 3 (by simp)).val rfl
        have e_62_4 := (hF 4 (by simp)).val rfl
        have e_62_5 := (hF 5 (by simp)).val rfl
        have e_62_6 := (hF 6 (by simp)).val rfl
        have e_62_7 := (hF 7 (by simp)).val rfl
        have e_62_8 := (hF 8 (by simp)).val rfl
        have e_62_9 := (hF 9 (by simp)).val rfl
        have e_62_10 := (hF 10 (by simp)).val rfl
        obtain ⟨b_62_11, l_62_11, e_62_11, h_62_11⟩ := (hF 11 (by simp)).al rfl rfl
        clear hF hG
        simp only [List.foldl_cons, List.foldl_nil, dstOf, List.getElem?_toArray, List.getElem?_cons_succ, List.getElem?_cons_zero, Option.bind_some, Act.put, List.setIfInBounds_toArray, List.set_cons_succ, List.set_cons_zero, e_62_0, e_62_1, e_62_2, e_62_3, e_62_4, e_62_5, e_62_6, e_62_7, e_62_8, e_62_9, e_62_10, e_62_11]
        clear e_62_0 e_62_1 e_62_2 e_62_3 e_62_4 e_62_5 e_62_6 e_62_7 e_62_8 e_62_9 e_62_10 e_62_11
        have k70 := k55.below hb5_62_ (by omega)
        have k71 := k56.below hb5_62_ (by omega)
        have lo72 := lo57.trans (hb5_62_.mono (by omega))
        clear k55 c64 c65 c66 c67 c68 c69 k56 lo57 hb5_62_
        refine wpAny_chain [12, 13] _ _ _ _ (by kernel_rfl) (by decide) ?_
        simp only [List.filterMap_cons, List.filterMap_nil, List.getElem?_toArray, List.getElem?_cons_succ, List.getElem?_cons_zero]
        refine wpl_store rfl 25 (.tmp 4) (.tmp 81) rfl b_62_11 2 (nC (meetN (sT3 (sT2 (sT1 r))).b (sAlike (sT3 (sT2 (sT1 r))).lo (sT3 (sT2 (sT1 r))).hi))) rfl rfl 25 _ h_62_11 szT (fun j _ => nC_one _ j) ?_
        intro xw73 t74 k75
        have k76 := k70.touch t74 (by omega)
        have k77 := k71.touch t74 (by omega)
        have lo78 := t74.below lo72 (by omega)
        clear h_62_11 k70 k71 lo72 t74
        refine wpl_run rfl (Value.bool (meetB (sT3 (sT2 (sT1 r))).b (sAlike (sT3 (sT2 (sT1 r))).lo (sT3 (sT2 (sT1 r))).hi))) _ (run_as (x := (.tmp 82)) rfl _ rfl) ?_; simp only [pA]
        refine ⟨rfl, b_62_11, (by simp only [pA]), k75, k76, k77, (by omega), lo78⟩
       ·intro vals w5_62_ hb5_62_ hF hG
        have e_62_0 := (hF 0 (by simp) (by omega)).val rfl
        have e_62_1 := (hF 1 (by simp) (by omega)).val rfl
        have e_62_2 := (hF 2 (by simp) (by omega)).val rfl
        have e_62_3 := (hF 3 (by simp) (by omega)).val rfl
        have e_62_4 := (hF 4 (by simp) (by omega)).val rfl
        have e_62_5 := (hF 5 (by simp) (by omega)).val rfl
        have e_62_6 := (hF 6 (by simp) (by omega)).val rfl
        have e_62_7 := (hF 7 (by simp) (by omega)).val rfl
        have e_62_8 := (hF 8 (by simp) (by omega)).val rfl
        have e_62_9 := (hF 9 (by simp) (by omega)).val rfl
        obtain ⟨b_62_11, l_62_11, e_62_11, h_62_11⟩ := (hF 11 (by simp) (by omega)).al rfl rfl
        clear hF hG
        rw [show (List.filter (fun j => !(j == 10)) [0, 1, 2, 3, 4, 5, 6, 7, 8, 9, 10, 11]) = [0, 1, 2, 3, 4, 5, 6, 7, 8, 9, 11] from rfl]
        simp only [List.foldl_cons, List.foldl_nil, dstOf, List.getElem?_toArray, List.getElem?_cons_succ, List.getElem?_cons_zero, Option.bind_some, Act.put, List.setIfInBounds_toArray, List.set_cons_succ, List.set_cons_zero, e_62_0, e_62_1, e_62_2, e_62_3, e_62_4, e_62_5, e_62_6, e_62_7, e_62_8, e_62_9, e_62_11]
        clear e_62_0 e_62_1 e_62_2 e_62_3 e_62_4 e_62_5 e_62_6 e_62_7 e_62_8 e_62_9 e_62_11
        have k70 := k55.below hb5_62_ (by omega)
        have k71 := k56.below hb5_62_ (by omega)
        have lo72 := lo57.trans (hb5_62_.mono (by omega))
        clear k55 c64 c65 c66 c67 c68 c69 k56 lo57 hb5_62_
        refine wpAny_fork 10 12 [12, 13] [10, 13] 2 _ _ _ (by kernel_rfl) (by kernel_rfl) ?_ ?_
        ·simp only [List.filterMap_cons, List.filterMap_nil, List.getElem?_toArray, List.getElem?_cons_succ, List.getElem?_cons_zero]
         refine wpl_run rfl (Value.bool (meetB (sT3 (sT2 (sT1 r))).b (sAlike (sT3 (sT2 (sT1 r))).lo (sT3 (sT2 (sT1 r))).hi))) _ (run_ex (x := (.tmp 72)) rfl _ rfl rfl) ?_; simp only [pA]
         refine wpl_store rfl 25 (.tmp 4) (.tmp 81) rfl b_62_11 2 (nC (meetN (sT3 (sT2 (sT1 r))).b (sAlike (sT3 (sT2 (sT1 r))).lo (sT3 (sT2 (sT1 r))).hi))) rfl rfl 25 _ h_62_11 szT (fun j _ => nC_one _ j) ?_
         intro xw73 t74 k75
         have k76 := k70.touch t74 (by omega)
         have k77 := k71.touch t74 (by omega)
         have lo78 := t74.below lo72 (by omega)
         clear h_62_11 k70 k71 lo72 t74
         refine wpl_run rfl (Value.bool (meetB (sT3 (sT2 (sT1 r))).b (sAlike (sT3 (sT2 (sT1 r))).lo (sT3 (sT2 (sT1 r))).hi))) _ (run_as (x := (.tmp 82)) rfl _ rfl) ?_; simp only [pA]
         refine ⟨rfl, b_62_11, (by simp only [pA]), k75, k76, k77, (by omega), lo78⟩
        ·simp only [List.filterMap_cons, List.filterMap_nil, List.getElem?_toArray, List.getElem?_cons_succ, List.getElem?_cons_zero]
         refine wpl_store rfl 25 (.tmp 4) (.tmp 81) rfl b_62_11 2 (nC (meetN (sT3 (sT2 (sT1 r))).b (sAlike (sT3 (sT2 (sT1 r))).lo (sT3 (sT2 (sT1 r))).hi))) rfl rfl 25 _ h_62_11 szT (fun j _ => nC_one _ j) ?_
         intro xw73 t74 k75
         have k76 := k70.touch t74 (by omega)
         have k77 := k71.touch t74 (by omega)
         have lo78 := t74.below lo72 (by omega)
         clear h_62_11 k70 k71 lo72 t74
         refine wpl_run rfl (Value.bool (meetB (sT3 (sT2 (sT1 r))).b (sAlike (sT3 (sT2 (sT1 r))).lo (sT3 (sT2 (sT1 r))).hi))) _ (run_ex (x := (.tmp 72)) rfl _ rfl rfl) ?_; simp only [pA]
         refine wpl_run rfl (Value.bool (meetB (sT3 (sT2 (sT1 r))).b (sAlike (sT3 (sT2 (sT1 r))).lo (sT3 (sT2 (sT1 r))).hi))) _ (run_as (x := (.tmp 82)) rfl _ rfl) ?_; simp only [pA]
         refine ⟨rfl, b_62_11, (by simp only [pA]), k75, k76, k77, (by omega), lo78⟩
      ·clear k55 k56 lo57
       rintro b_62_x xw67 ⟨k63, k64, k65, lb_62_x, lo66⟩
       try dsimp only
       try simp only [pA]
       obtain ⟨M68, hM68⟩ := sz_some xw67
       have lt_69 := k64.ltN hM68
       have lt_70 := k65.ltN hM68
       have lt_71 := k63.ltN hM68
       go_upto_region 9 with fail
       obtain ⟨sm, esm⟩ : ∃ s, s = (meetB (sT3 (sT2 (sT1 r))).b (sAlike (sT3 (sT2 (sT1 r))).lo (sT3 (sT2 (sT1 r))).hi)) := ⟨_, rfl⟩
       rw [← esm]
       have Esm := hid esm
       clear esm
       go_cut [98] (fun v wx => v = (Value.bool (!sm || ((BitVec.ult (sT3 (sT2 (sT1 r))).hi (sT3 (sT2 (sT1 r))).lo) || (BitVec.slt (sT3 (sT2 (sT1 r))).sh (sT3 (sT2 (sT1 r))).sl)))) ∧ Below M68 xw67 wx)
       case first =>
        have lc := Below.refl M68 xw67
        cases sm
        ·skip
         go_upto_region 9 with fail
         obtain ⟨c72, c73, c74, c75, c76, c77⟩ := r_cells k64
         refine wp_region_later1 (M68) ?_
         try simp only [pA]
         iterate 16 (go_big_quiet_step (fail))
         refine wpQuiet_nil (laterE hM68 ?_)
         intro xw78 M79 hbxw78 hM79 lM79
         have k80 := k64.below hbxw78 (by omega)
         have k81 := k65.below hbxw78 (by omega)
         have k82 := k63.below hbxw78 (by omega)
         have lo83 := lc.trans (hbxw78.mono (by omega))
         clear k64 c72 c73 c74 c75 c76 c77 k65 k63 lc hbxw78
         go_wp2_with fail
         go_meet
         exact ⟨by first | rfl | (simp only [H1_.out, bB] <;> rfl), lo83⟩
        ·skip
         cases h3_ : (BitVec.ult (sT3 (sT2 (sT1 r))).hi (sT3 (sT2 (sT1 r))).lo)
         ·have H3_ := hid h3_
          clear h3_
          cases h4_ : (BitVec.slt (sT3 (sT2 (sT1 r))).sh (sT3 (sT2 (sT1 r))).sl)
          ·have H4_ := hid h4_
           clear h4_
           go_upto_region 9 with fail
           obtain ⟨c72, c73, c74, c75, c76, c77⟩ := r_cells k64
           refine wp_region_later1 (M68) ?_
           try simp only [pA]
           iterate 4 (go_big_quiet_step (fail))
           refine later_c1 hM68 23 (.tmp 86) rfl rfl und64 rfl c74 (by rfl) ?_; simp only [pA]
           go_big_quiet_step (fail)
           refine later_c1 hM68 23 (.tmp 88) rfl rfl und64 rfl c75 (by rfl) ?_; simp only [pA]
           refine later_b (x := (.tmp 87)) (y := (.tmp 89)) rfl (BinRun.is H3_.out (bin_gtr _ (sT3 (sT2 (sT1 r))).lo (sT3 (sT2 (sT1 r))).hi)) rfl rfl (by rfl) ?_; simp only [pA]
           iterate 3 (go_big_quiet_step (fail))
           refine later_c1 hM68 2 (.tmp 93) rfl rfl undI64 rfl c76 (by rfl) ?_; simp only [pA]
           go_big_quiet_step (fail)
           refine later_c1 hM68 2 (.tmp 95) rfl rfl undI64 rfl c77 (by rfl) ?_; simp only [pA]
           refine later_b (x := (.tmp 94)) (y := (.tmp 96)) rfl (BinRun.is H4_.out (bin_sgtr _ (sT3 (sT2 (sT1 r))).sl (sT3 (sT2 (sT1 r))).sh)) rfl rfl (by rfl) ?_; simp only [pA]
           go_big_quiet_step (fail)
           refine wpQuiet_nil (laterE hM68 ?_)
           intro xw78 M79 hbxw78 hM79 lM79
           have k80 := k64.below hbxw78 (by omega)
           have k81 := k65.below hbxw78 (by omega)
           have k82 := k63.below hbxw78 (by omega)
           have lo83 := lc.trans (hbxw78.mono (by omega))
           clear k64 c72 c73 c74 c75 c76 c77 k65 k63 lc hbxw78
           go_wp2_with fail
           go_meet
           exact ⟨by first | rfl | (simp only [H1_.out, H3_.out, H4_.out, bB] <;> rfl), lo83⟩
          ·have H4_ := hid h4_
           clear h4_
           go_upto_region 9 with fail
           obtain ⟨c72, c73, c74, c75, c76, c77⟩ := r_cells k64
           refine wp_region_later1 (M68) ?_
           try simp only [pA]
           iterate 4 (go_big_quiet_step (fail))
           refine later_c1 hM68 23 (.tmp 86) rfl rfl und64 rfl c74 (by rfl) ?_; simp only [pA]
           go_big_quiet_step (fail)
           refine later_c1 hM68 23 (.tmp 88) rfl rfl und64 rfl c75 (by rfl) ?_; simp only [pA]
           refine later_b (x := (.tmp 87)) (y := (.tmp 89)) rfl (BinRun.is H3_.out (bin_gtr _ (sT3 (sT2 (sT1 r))).lo (sT3 (sT2 (sT1 r))).hi)) rfl rfl (by rfl) ?_; simp only [pA]
           iterate 3 (go_big_quiet_step (fail))
           refine later_c1 hM68 2 (.tmp 93) rfl rfl undI64 rfl c76 (by rfl) ?_; simp only [pA]
           go_big_quiet_step (fail)
           refine later_c1 hM68 2 (.tmp 95) rfl rfl undI64 rfl c77 (by rfl) ?_; simp only [pA]
           refine later_b (x := (.tmp 94)) (y := (.tmp 96)) rfl (BinRun.is H4_.out (bin_sgtr _ (sT3 (sT2 (sT1 r))).sl (sT3 (sT2 (sT1 r))).sh)) rfl rfl (by rfl) ?_; simp only [pA]
           go_big_quiet_step (fail)
           refine wpQuiet_nil (laterE hM68 ?_)
           intro xw78 M79 hbxw78 hM79 lM79
           have k80 := k64.below hbxw78 (by omega)
           have k81 := k65.below hbxw78 (by omega)
           have k82 := k63.below hbxw78 (by omega)
           have lo83 := lc.trans (hbxw78.mono (by omega))
           clear k64 c72 c73 c74 c75 c76 c77 k65 k63 lc hbxw78
           go_wp2_with fail
           go_meet
           exact ⟨by first | rfl | (simp only [H1_.out, H3_.out, H4_.out, bB] <;> rfl), lo83⟩
         ·have H3_ := hid h3_
          clear h3_
          go_upto_region 9 with fail
          obtain ⟨c72, c73, c74, c75, c76, c77⟩ := r_cells k64
          refine wp_region_later1 (M68) ?_
          try simp only [pA]
          iterate 4 (go_big_quiet_step (fail))
          refine later_c1 hM68 23 (.tmp 86) rfl rfl und64 rfl c74 (by rfl) ?_; simp only [pA]
          go_big_quiet_step (fail)
          refine later_c1 hM68 23 (.tmp 88) rfl rfl und64 rfl c75 (by rfl) ?_; simp only [pA]
          refine later_b (x := (.tmp 87)) (y := (.tmp 89)) rfl (BinRun.is H3_.out (bin_gtr _ (sT3 (sT2 (sT1 r))).lo (sT3 (sT2 (sT1 r))).hi)) rfl rfl (by rfl) ?_; simp only [pA]
          iterate 8 (go_big_quiet_step (fail))
          refine wpQuiet_nil (laterE hM68 ?_)
          intro xw78 M79 hbxw78 hM79 lM79
          have k80 := k64.below hbxw78 (by omega)
          have k81 := k65.below hbxw78 (by omega)
          have k82 := k63.below hbxw78 (by omega)
          have lo83 := lc.trans (hbxw78.mono (by omega))
          clear k64 c72 c73 c74 c75 c76 c77 k65 k63 lc hbxw78
          go_wp2_with fail
          go_meet
          exact ⟨by first | rfl | (simp only [H1_.out, H3_.out, bB] <;> rfl), lo83⟩
       case rest =>
        obtain ⟨rfl, hbxc3_⟩ := hcut
        obtain ⟨M72, hM72⟩ := sz_some wc
        have lM72 := below_sz hbxc3_ hM68 hM72
        have k73 := k64.below hbxc3_ (by omega)
        have k74 := k65.below hbxc3_ (by omega)
        have k75 := k63.below hbxc3_ (by omega)
        have lo76 := lo66.trans (hbxc3_.mono (by omega))
        clear k64 k65 k63 lo66 hbxc3_
        cases h2_ : (!sm || ((BitVec.ult (sT3 (sT2 (sT1 r))).hi (sT3 (sT2 (sT1 r))).lo) || (BitVec.slt (sT3 (sT2 (sT1 r))).sh (sT3 (sT2 (sT1 r))).sl)))
        ·have H2_ := hid h2_
         clear h2_
         go_upto_region 11 with fail
         refine wp_region_lit ?_
         try simp only [pA]
         refine wpl_run rfl (.agg (cellsOf (nC (meetN (sT3 (sT2 (sT1 r))).b (sAlike (sT3 (sT2 (sT1 r))).lo (sT3 (sT2 (sT1 r))).hi))) 2)) _ (run_rw 25 (.tmp 4) rfl b_62_x rfl 25 2 _ k75 undT szT) ?_; simp only [pA]
         refine wpl_run rfl (.pointer (some ⟨N, 0, none⟩)) wc (by kernel_rfl) ?_; simp only [pA]
         refine wpl_store_part rfl 25 (.tmp 101) (.tmp 100) rfl N 0 rfl 2 (nC (meetN (sT3 (sT2 (sT1 r))).b (sAlike (sT3 (sT2 (sT1 r))).lo (sT3 (sT2 (sT1 r))).hi))) rfl 27 6 _ k73 (by omega) szT (fun j _ => nC_one _ j) ?_
         intro xw77 t78 k79_; try simp only [pA]
         have k79 : Has xw77 N 27 6 (rC ⟨(meetN (sT3 (sT2 (sT1 r))).b (sAlike (sT3 (sT2 (sT1 r))).lo (sT3 (sT2 (sT1 r))).hi)), (sT3 (sT2 (sT1 r))).lo, (sT3 (sT2 (sT1 r))).hi, (sT3 (sT2 (sT1 r))).sl, (sT3 (sT2 (sT1 r))).sh⟩) := k79_.congr (fun j hj => lay_bits _ _ _ _ _ _ j)
         have k80 := k74.touch t78 (by omega)
         have k81 := k75.touch t78 (by omega)
         have lo82 := t78.below lo76 (by omega)
         clear k73 k79_ k74 k75 lo76 t78
         obtain ⟨M83, hM83⟩ := sz_some xw77
         have lt_84 := k79.ltN hM83
         have lt_85 := k80.ltN hM83
         have lt_86 := k81.ltN hM83
         go_upto_region 12 with fail
         refine wp_region_lit ?_
         try simp only [pA]
         change wpList _ _ _ ((_ :: []) ++ (_ :: _ :: [])) _ _
         refine wpList_prefix (C := fun w' => ∃ x : Later M83 xw77, w' = x.w') _ _ _ _ ⟨⟨_, Below.refl _ _⟩, rfl⟩ ?_
         refine later_row hM83 27 (.tmp 1) rfl (N) rfl 27 6 _ k79 undR szR (by rfl) ?_; simp only [pA]
         refine wpQuiet_nil (laterE hM83 ?_)
         intro xw87 M88 hbxw87 hM88 lM88
         have k89 := k79.below hbxw87 (by omega)
         have k90 := k80.below hbxw87 (by omega)
         have k91 := k81.below hbxw87 (by omega)
         have lo92 := lo82.trans (hbxw87.mono (by omega))
         clear k79 k80 k81 lo82 hbxw87
         refine wpl_store rfl 27 (.tmp 2) (.tmp 102) rfl (N + 1) 6 (rC ⟨(meetN (sT3 (sT2 (sT1 r))).b (sAlike (sT3 (sT2 (sT1 r))).lo (sT3 (sT2 (sT1 r))).hi)), (sT3 (sT2 (sT1 r))).lo, (sT3 (sT2 (sT1 r))).hi, (sT3 (sT2 (sT1 r))).sl, (sT3 (sT2 (sT1 r))).sh⟩) rfl rfl 27 _ k90 szR (fun j _ => rC_one _ j) ?_
         intro xw93 t94 k95; try simp only [pA]
         have k96 := k89.touch t94 (by omega)
         have k97 := k91.touch t94 (by omega)
         have lo98 := t94.below lo92 (by omega)
         have h99 := t94.sz hM88
         clear k90 k89 k91 lo92 hM88 t94
         refine wpl_run rfl (Value.bool true) _ (run_as (x := (.const (.bool true))) rfl _ rfl) ?_; simp only [pA]
         obtain ⟨M100, hM100⟩ := sz_some xw93
         have lt_101 := k96.ltN hM100
         have lt_102 := k95.ltN hM100
         have lt_103 := k97.ltN hM100
         go_wp2_with fail
         refine post_rb rfl (N + 1) rfl k95 undR szR rfl rfl ?_
         have eg_ := Esm.out
         subst eg_
         have eg_ := Es57.out
         subst eg_
         have eg_ := Es35.out
         subst eg_
         exact ⟨by rw [ER.out, settle_ok H1_.out, sT4_ok H2_.out] <;> rfl, lo98⟩
        ·have H2_ := hid h2_
         clear h2_
         go_upto_region 10 with fail
         refine wp_region_lit ?_
         try simp only [pA]
         change wpList _ _ _ ((_ :: []) ++ (_ :: _ :: [])) _ _
         refine wpList_prefix (C := fun w' => ∃ x : Later M72 wc, w' = x.w') _ _ _ _ ⟨⟨_, Below.refl _ _⟩, rfl⟩ ?_
         refine later_val (fun q => run_bd 27 _ rfl (cellsOf (rC ⟨zeroN, 0#64, 0#64, 0#64, 0#64⟩) 6) (by kernel_rfl) q.w') (by rfl) ?_; simp only [pA]
         refine wpQuiet_nil (laterE hM72 ?_)
         intro xw77 M78 hbxw77 hM78 lM78
         have k79 := k73.below hbxw77 (by omega)
         have k80 := k74.below hbxw77 (by omega)
         have k81 := k75.below hbxw77 (by omega)
         have lo82 := lo76.trans (hbxw77.mono (by omega))
         clear k73 k74 k75 lo76 hbxw77
         refine wpl_store rfl 27 (.tmp 2) (.tmp 99) rfl (N + 1) 6 (rC ⟨zeroN, 0#64, 0#64, 0#64, 0#64⟩) rfl rfl 27 _ k80 szR (fun j _ => rC_one _ j) ?_
         intro xw83 t84 k85; try simp only [pA]
         have k86 := k79.touch t84 (by omega)
         have k87 := k81.touch t84 (by omega)
         have lo88 := t84.below lo82 (by omega)
         have h89 := t84.sz hM78
         clear k80 k79 k81 lo82 hM78 t84
         refine wpl_run rfl (Value.bool false) _ (run_as (x := (.const (.bool false))) rfl _ rfl) ?_; simp only [pA]
         obtain ⟨M90, hM90⟩ := sz_some xw83
         have lt_91 := k86.ltN hM90
         have lt_92 := k85.ltN hM90
         have lt_93 := k87.ltN hM90
         go_wp2_with fail
         refine post_rb rfl (N + 1) rfl k85 undR szR rfl rfl ?_
         have eg_ := Esm.out
         subst eg_
         have eg_ := Es57.out
         subst eg_
         have eg_ := Es35.out
         subst eg_
         exact ⟨by rw [ER.out, settle_ok H1_.out, sT4_no H2_.out] <;> rfl, lo88⟩
end Go.Proofs.YtbbfdehipgkjmaaDoor
