/- Contracts of ranges: the bounds by each other. -/
import Derived.Test.YtmdcopmgkhjfnaaScb
import Derived.Laws.ResultCell
namespace Go.Proofs.Ytmdcopmgkhjfnaa
open Go Go.RowKit
theorem r_cells5 {w : World} {b T : Nat} {n : Nm} {lo hi sl sh : W} (h : Has w b T 6 (rC ⟨n, lo, hi, sl, sh⟩)) : w.cell? ⟨b, 0, none⟩ = some (Q n.v) ∧ w.cell? ⟨b, 1, none⟩ = some (Q n.m) ∧ w.cell? ⟨b, 2, none⟩ = some (Q lo) ∧ w.cell? ⟨b, 3, none⟩ = some (Q hi) ∧ w.cell? ⟨b, 4, none⟩ = some (S sl) ∧ w.cell? ⟨b, 5, none⟩ = some (S sh) := r_cells h
theorem run_bits5 {a : Act} {w : World} {o : Oper} (ty : TypeId) (x : Operand) (ho : o.op = .load ty x) (b : Nat) (hx : a.eval x = .pointer (some ⟨b, 0, none⟩)) (T : TypeId) {n : Nm} {lo hi sl sh : W} (hh : Has w b T 6 (rC ⟨n, lo, hi, sl, sh⟩))
  (hu : ∃ d, Try.prog.underlying ty = some d ∧ d.isRow = true) (hi' : (Try.prog.info? ty).map (·.size) = some 2) : (execOp a.eval o).run Try.prog w = .ok (.value (.agg (cellsOf (nC n) 2))) w := run_bits ty x ho b hx T hh hu hi'
theorem szI : (Try.prog.info? 2).map (·.size) = some 1 := by kernel_rfl
theorem faR0 (b : Nat) (w : World) : (Instr.fieldAt 41 (.pointer (some ⟨b, 0, none⟩)) 0).run Try.prog w = .ok (.pointer (some ⟨b, 0, none⟩)) w := by go_simp
theorem faR1 (b : Nat) (w : World) : (Instr.fieldAt 41 (.pointer (some ⟨b, 0, none⟩)) 1).run Try.prog w = .ok (.pointer (some ⟨b, 2, none⟩)) w := by go_simp
theorem faR2 (b : Nat) (w : World) : (Instr.fieldAt 41 (.pointer (some ⟨b, 0, none⟩)) 2).run Try.prog w = .ok (.pointer (some ⟨b, 3, none⟩)) w := by go_simp
theorem post_rb {fn : Func} {R : Ending → World → Prop} {p u : Tmp} {T : TypeId} {a : Act} {w : World} (hr : fn.results = #[.cell p T, .tmp u]) (b : Nat) (hp : a.tmps.getD p undef = .pointer (some ⟨b, 0, none⟩))
  {r : Rn} (hh : Has w b T 6 (rC r)) (hu : ∃ d, Try.prog.underlying T = some d ∧ d.isRow = true) (hi : (Try.prog.info? T).map (·.size) = some 6) {x : Value} (hx : a.tmps.getD u undef = x)
  (hdef : a.defers = []) (hR : R (.returned (.tuple #[rV r, x])) w) : bodyPost Try.prog fn R .ret a w := by
 obtain ⟨d, h1, h2⟩ := hu
 refine bodyPost_ret (v := .tuple #[rV r, x]) ?_ hdef hR
 have hld := run_loadVar_row (P := Try.prog) w b T T (cellsOf (rC r) 6) (0, 0) d hh h1 (by cases d <;> simp_all) (by rw [hi, size_cellsOf])
 rw [results_cell_tmp hr a.tmps Try.prog w, hp, hx]
 simp [asAddr, hld, rV]
theorem lay_bits (n m : Nm) (lo hi sl sh : W) (j : Nat) : lay (rC ⟨n, lo, hi, sl, sh⟩) 0 2 (nC m) j = rC ⟨m, lo, hi, sl, sh⟩ j := by
 unfold lay rC nC
 by_cases h0 : j = 0
 ·subst h0; simp
 ·by_cases h1 : j = 1
  ·subst h1; simp
  ·have : ¬ (0 ≤ j ∧ j < 0 + 2) := by omega
   simp [h0, h1]
   intro hj; omega
theorem faR3 (b : Nat) (w : World) : (Instr.fieldAt 41 (.pointer (some ⟨b, 0, none⟩)) 3).run Try.prog w = .ok (.pointer (some ⟨b, 4, none⟩)) w := by go_simp
theorem faR4 (b : Nat) (w : World) : (Instr.fieldAt 41 (.pointer (some ⟨b, 0, none⟩)) 4).run Try.prog w = .ok (.pointer (some ⟨b, 5, none⟩)) w := by go_simp
/-- the bounds of unsigned numbers, by the bits -/
def sT1 (r : Rn) : Rn := ⟨r.b, uMax r.lo r.b.v, uMin r.hi (r.b.v ||| r.b.m), r.sl, r.sh⟩
/-- the signed bounds by the unsigned ones -/
def sT2 (r : Rn) : Rn := bif BitVec.sle r.lo r.hi then ⟨r.b, r.lo, r.hi, sMax r.sl r.lo, sMin r.sh r.hi⟩ else r
/-- the unsigned bounds by the signed ones -/
def sT3 (r : Rn) : Rn := bif BitVec.sle 0#64 r.sl || BitVec.slt r.sh 0#64 then ⟨r.b, uMax r.lo r.sl, uMin r.hi r.sh, r.sl, r.sh⟩ else r
/-- the bits by the unsigned bounds -/
def sT4 (r : Rn) : Rn × Bool := bif meetB r.b (sAlike r.lo r.hi) && (!BitVec.ult r.hi r.lo && !BitVec.slt r.sh r.sl) then (⟨meetN r.b (sAlike r.lo r.hi), r.lo, r.hi, r.sl, r.sh⟩, true) else (zeroR, false)
/-- a range, settled, and whether it has a number -/
def settleF (r : Rn) : Rn × Bool := bif tRight r.b then sT4 (sT3 (sT2 (sT1 r))) else (zeroR, false)
set_option maxRecDepth 100000 in
set_option maxHeartbeats 16000000 in
theorem Settle_any (r : Rn) (w : World) (N : Nat) (hN : Sz w N) : Calls Try.prog 30 #[rV r] w fun e w' => e = .returned (.tuple #[rV (settleF r).1, .bool (settleF r).2]) ∧ Below N w w' := by
 obtain ⟨rr, er⟩ : ∃ rr, rr = (settleF r) := ⟨_, rfl⟩
 rw [← er]
 have ER := hid er
 clear er
 unfold rV
 go_enter Try.func30, Try.ntmps30
 go_upto_region 1 with (first
  | (refine wpl_box rfl 41 (.tmp 0) rfl 6 _ rfl (N) hN ?_; intro w1 hN1 hb1 hh1)
  | (refine wpl_alloc rfl 41 rfl 6 (rC zeroR) zeR (N + 1) hN1 ?_; intro w2 hN2 hb2 hh2)
  | fail)
 have lo0 : Below N w w2 := (hb1.trans (hb2.mono (by omega)))
 have k1 := (hh1.below hb2 (by omega))
 have k2 := hh2
 clear hh1 hb1 hh2 hb2 hN1
 cases h1_ : (tRight r.b)
 ·have H1_ := hid h1_
  clear h1_
  go_upto_region 1 with fail
  obtain ⟨c3, c4, c5, c6, c7, c8⟩ := r_cells k1
  refine wp_region_later1 ((N + 1 + 1)) ?_
  try simp only [pA]
  go_big_quiet_step (fail)
  refine later_val (fun qq => run_bits 39 (.tmp 6) rfl N rfl 41 (Later.has hN2 k1 qq) undT szT) (by rfl) ?_; simp only [pA]
  go_big_quiet_step ((go_at_call 59; exact later_of hN2 _ (fun K hK hKN => ret_is H1_.out (Right_any r.b) _ K hK)))
  go_big_quiet_step (fail)
  refine wpQuiet_nil (laterE hN2 ?_)
  intro xw9 M10 hbxw9 hM10 lM10
  have k11 := k1.below hbxw9 (by omega)
  have k12 := k2.below hbxw9 (by omega)
  have lo13 := lo0.trans (hbxw9.mono (by omega))
  clear k1 c3 c4 c5 c6 c7 c8 k2 lo0 hbxw9
  go_upto_region 2 with fail
  refine wp_region_lit ?_
  try simp only [pA]
  change wpList _ _ _ ((_ :: []) ++ (_ :: _ :: [])) _ _
  refine wpList_prefix (C := fun w' => ∃ x : Later M10 xw9, w' = x.w') _ _ _ _ ⟨⟨_, Below.refl _ _⟩, rfl⟩ ?_
  refine later_val (fun q => run_bd 41 _ rfl (cellsOf (rC ⟨zeroN, 0#64, 0#64, 0#64, 0#64⟩) 6) (by kernel_rfl) q.w') (by rfl) ?_; simp only [pA]
  refine wpQuiet_nil (laterE hM10 ?_)
  intro xw14 M15 hbxw14 hM15 lM15
  have k16 := k11.below hbxw14 (by omega)
  have k17 := k12.below hbxw14 (by omega)
  have lo18 := lo13.trans (hbxw14.mono (by omega))
  clear k11 k12 lo13 hbxw14
  refine wpl_store rfl 41 (.tmp 2) (.tmp 10) rfl (N + 1) 6 (rC ⟨zeroN, 0#64, 0#64, 0#64, 0#64⟩) rfl rfl 41 _ k17 szR (fun j _ => rC_one _ j) ?_
  intro xw19 t20 k21; try simp only [pA]
  have k22 := k16.touch t20 (by omega)
  have lo23 := t20.below lo18 (by omega)
  have h24 := t20.sz hM15
  clear k17 k16 lo18 hM15 t20
  refine wpl_run rfl (Value.bool false) _ (run_as (x := (.const (.bool false))) rfl _ rfl) ?_; simp only [pA]
  obtain ⟨M25, hM25⟩ := sz_some xw19
  have lt_26 := k22.ltN hM25
  have lt_27 := k21.ltN hM25
  go_wp2_with fail
  refine post_rb rfl (N + 1) rfl k21 undR szR rfl rfl ?_
  exact ⟨by rw [ER.out]; first | rfl | (simp only [settleF, sT1, sT2, sT3, sT4, H1_.out, bB] <;> rfl), lo23⟩
 ·have H1_ := hid h1_
  clear h1_
  go_upto_region 1 with fail
  obtain ⟨c3, c4, c5, c6, c7, c8⟩ := r_cells k1
  refine wp_region_later1 ((N + 1 + 1)) ?_
  try simp only [pA]
  go_big_quiet_step (fail)
  refine later_val (fun qq => run_bits 39 (.tmp 6) rfl N rfl 41 (Later.has hN2 k1 qq) undT szT) (by rfl) ?_; simp only [pA]
  go_big_quiet_step ((go_at_call 59; exact later_of hN2 _ (fun K hK hKN => ret_is H1_.out (Right_any r.b) _ K hK)))
  go_big_quiet_step (fail)
  refine wpQuiet_nil (laterE hN2 ?_)
  intro xw9 M10 hbxw9 hM10 lM10
  have k11 := k1.below hbxw9 (by omega)
  have k12 := k2.below hbxw9 (by omega)
  have lo13 := lo0.trans (hbxw9.mono (by omega))
  clear k1 c3 c4 c5 c6 c7 c8 k2 lo0 hbxw9
  go_upto_region 3 with fail
  refine wp_region_lit ?_
  try simp only [pA]
  change wpList _ _ _ ((_ :: _ :: _ :: _ :: _ :: _ :: _ :: _ :: _ :: _ :: _ :: _ :: _ :: _ :: _ :: _ :: _ :: []) ++ (_ :: _ :: _ :: [])) _ _
  obtain ⟨c14, c15, c16, c17, c18, c19⟩ := r_cells k11
  refine wpList_prefix (C := fun w' => ∃ x : Later M10 xw9, w' = x.w') _ _ _ _ ⟨⟨_, Below.refl _ _⟩, rfl⟩ ?_
  go_big_quiet_step (fail)
  refine later_c1 hM10 22 (.tmp 11) rfl rfl und64 rfl c16 (by rfl) ?_; simp only [pA]
  iterate 2 (go_big_quiet_step (fail))
  refine later_c1 hM10 22 (.tmp 14) rfl rfl und64 rfl c14 (by rfl) ?_; simp only [pA]
  refine later_val (fun qq => run_maxQ (x := (.tmp 12)) (y := (.tmp 15)) (p := r.lo) (q := r.b.v) rfl rfl rfl qq.w') (by rfl) ?_; simp only [pA]
  go_big_quiet_step (fail)
  refine later_c1 hM10 22 (.tmp 17) rfl rfl und64 rfl c17 (by rfl) ?_; simp only [pA]
  iterate 2 (go_big_quiet_step (fail))
  refine later_c1 hM10 22 (.tmp 20) rfl rfl und64 rfl c14 (by rfl) ?_; simp only [pA]
  iterate 2 (go_big_quiet_step (fail))
  refine later_c1 hM10 22 (.tmp 23) rfl rfl und64 rfl c15 (by rfl) ?_; simp only [pA]
  refine later_b (x := (.tmp 21)) (y := (.tmp 24)) rfl (bin_or _ r.b.v r.b.m) rfl rfl (by rfl) ?_; simp only [pA]
  refine later_val (fun qq => run_minQ (x := (.tmp 18)) (y := (.tmp 25)) (p := r.hi) (q := (r.b.v ||| r.b.m)) rfl rfl rfl qq.w') (by rfl) ?_; simp only [pA]
  go_big_quiet_step (fail)
  refine wpQuiet_nil (laterE hM10 ?_)
  intro xw20 M21 hbxw20 hM21 lM21
  have k22 := k11.below hbxw20 (by omega)
  have k23 := k12.below hbxw20 (by omega)
  have lo24 := lo13.trans (hbxw20.mono (by omega))
  clear k11 c14 c15 c16 c17 c18 c19 k12 lo13 hbxw20
  refine wpl_set rfl 22 (.tmp 27) (.tmp 16) rfl N 2 rfl _ rfl sz64 rfl rfl 41 6 _ k22 (by omega) ?_
  intro xw25 t26 k27_; try simp only [pA]
  have k27 : Has xw25 N 41 6 (rC ⟨r.b, (uMax r.lo r.b.v), r.hi, r.sl, r.sh⟩) := k27_.congr (fun j hj => set_lo _ _ j)
  have k28 := k23.touch t26 (by omega)
  have lo29 := t26.below lo24 (by omega)
  have h30 := t26.sz hM21
  clear k22 k27_ k23 lo24 hM21 t26
  refine wpl_run rfl (Value.pointer (some ⟨N, 3, none⟩)) _ (run_fa 41 (.tmp 1) 2 3 rfl rfl faR2) ?_; simp only [pA]
  refine wpl_set rfl 22 (.tmp 28) (.tmp 26) rfl N 3 rfl _ rfl sz64 rfl rfl 41 6 _ k27 (by omega) ?_
  intro xw31 t32 k33_; try simp only [pA]
  have k33 : Has xw31 N 41 6 (rC ⟨r.b, (uMax r.lo r.b.v), (uMin r.hi (r.b.v ||| r.b.m)), r.sl, r.sh⟩) := k33_.congr (fun j hj => set_hi _ _ j)
  have k34 := k28.touch t32 (by omega)
  have lo35 := t32.below lo29 (by omega)
  have h36 := t32.sz h30
  clear k27 k33_ k28 lo29 h30 t32
  obtain ⟨M37, hM37⟩ := sz_some xw31
  have lt_38 := k33.ltN hM37
  have lt_39 := k34.ltN hM37
  cases h2_ : (BitVec.sle (uMax r.lo r.b.v) (uMin r.hi (r.b.v ||| r.b.m)))
  ·have H2_ := hid h2_
   clear h2_
   go_upto_region 4 with fail
   obtain ⟨c40, c41, c42, c43, c44, c45⟩ := r_cells5 k33
   refine wp_region_later1 (M37) ?_
   try simp only [pA]
   go_big_quiet_step (fail)
   refine later_c1 hM37 22 (.tmp 29) rfl rfl und64 rfl c42 (by rfl) ?_; simp only [pA]
   refine later_val (fun q => run_us (x := (.tmp 30)) rfl und64 undI64 rfl q.w') (by rfl) ?_; simp only [pA]
   go_big_quiet_step (fail)
   refine later_c1 hM37 22 (.tmp 32) rfl rfl und64 rfl c43 (by rfl) ?_; simp only [pA]
   refine later_val (fun q => run_us (x := (.tmp 33)) rfl und64 undI64 rfl q.w') (by rfl) ?_; simp only [pA]
   refine later_b (x := (.tmp 31)) (y := (.tmp 34)) rfl (BinRun.is H2_.out (bin_sleq _ (uMax r.lo r.b.v) (uMin r.hi (r.b.v ||| r.b.m)))) rfl rfl (by rfl) ?_; simp only [pA]
   refine wpQuiet_nil (laterE hM37 ?_)
   intro xw46 M47 hbxw46 hM47 lM47
   have k48 := k33.below hbxw46 (by omega)
   have k49 := k34.below hbxw46 (by omega)
   have lo50 := lo35.trans (hbxw46.mono (by omega))
   clear k33 c40 c41 c42 c43 c44 c45 k34 lo35 hbxw46
   cases h3_ : (BitVec.sle 0#64 r.sl)
   ·have H3_ := hid h3_
    clear h3_
    cases h4_ : (BitVec.slt r.sh 0#64)
    ·have H4_ := hid h4_
     clear h4_
     go_upto_region 6 with fail
     obtain ⟨c51, c52, c53, c54, c55, c56⟩ := r_cells5 k48
     refine wp_region_later1 (M47) ?_
     try simp only [pA]
     go_big_quiet_step (fail)
     refine later_c1 hM47 2 (.tmp 50) rfl rfl undI64 rfl c55 (by rfl) ?_; simp only [pA]
     refine later_b (x := (.tmp 51)) (y := (.const (.int .i64 0))) rfl (BinRun.is H3_.out (bin_sgeq _ r.sl 0#64)) rfl rfl (by rfl) ?_; simp only [pA]
     iterate 2 (go_big_quiet_step (fail))
     refine later_c1 hM47 2 (.tmp 54) rfl rfl undI64 rfl c56 (by rfl) ?_; simp only [pA]
     refine later_b (x := (.tmp 55)) (y := (.const (.int .i64 0))) rfl (BinRun.is H4_.out (bin_slss _ r.sh 0#64)) rfl rfl (by rfl) ?_; simp only [pA]
     go_big_quiet_step (fail)
     refine wpQuiet_nil (laterE hM47 ?_)
     intro xw57 M58 hbxw57 hM58 lM58
     have k59 := k48.below hbxw57 (by omega)
     have k60 := k49.below hbxw57 (by omega)
     have lo61 := lo50.trans (hbxw57.mono (by omega))
     clear k48 c51 c52 c53 c54 c55 c56 k49 lo50 hbxw57
     go_upto_region 8 with fail
     refine wp_mid (fun ac (x : Nat) => (((((((((((((ac.put (some 73) (Value.pointer (some ⟨N, 0, none⟩))).put (some 74) (Value.agg (cellsOf (nC r.b) 2))).put (some 75) (Value.pointer (some ⟨N, 2, none⟩))).put (some 76) (Q (uMax r.lo r.b.v))).put (some 77) (Value.pointer (some ⟨N, 3, none⟩))).put (some 78) (Q (uMin r.hi (r.b.v ||| r.b.m)))).put (some 79) (Value.agg (cellsOf (nC (sAlike (uMax r.lo r.b.v) (uMin r.hi (r.b.v ||| r.b.m)))) 2))).put (some 80) (Value.tuple #[(Value.agg (cellsOf (nC (meetN r.b (sAlike (uMax r.lo r.b.v) (uMin r.hi (r.b.v ||| r.b.m))))) 2)), (Value.bool (meetB r.b (sAlike (uMax r.lo r.b.v) (uMin r.hi (r.b.v ||| r.b.m)))))])).put (some 72) (Value.tuple #[(Value.agg (cellsOf (nC (meetN r.b (sAlike (uMax r.lo r.b.v) (uMin r.hi (r.b.v ||| r.b.m))))) 2)), (Value.bool (meetB r.b (sAlike (uMax r.lo r.b.v) (uMin r.hi (r.b.v ||| r.b.m)))))])).put (some 81) (Value.agg (cellsOf (nC (meetN r.b (sAlike (uMax r.lo r.b.v) (uMin r.hi (r.b.v ||| r.b.m))))) 2))).put (some 82) (Value.bool (meetB r.b (sAlike (uMax r.lo r.b.v) (uMin r.hi (r.b.v ||| r.b.m)))))).put (some 4) (.pointer (some ⟨x, 0, none⟩))).put (some 5) (Value.bool (meetB r.b (sAlike (uMax r.lo r.b.v) (uMin r.hi (r.b.v ||| r.b.m))))))) (fun x w' => Has w' x 39 2 (nC (meetN r.b (sAlike (uMax r.lo r.b.v) (uMin r.hi (r.b.v ||| r.b.m))))) ∧ Has w' N 41 6 (rC ⟨r.b, (uMax r.lo r.b.v), (uMin r.hi (r.b.v ||| r.b.m)), r.sl, r.sh⟩) ∧ Has w' (N + 1) 41 6 (rC zeroR) ∧ M58 ≤ x ∧ Below N w w') ?_ ?_
     ·refine wp_region_any (by kernel_rfl) ?_
      replace k59 : Has xw57.drew N 41 6 (rC ⟨r.b, (uMax r.lo r.b.v), (uMin r.hi (r.b.v ||| r.b.m)), r.sl, r.sh⟩) := k59
      replace k60 : Has xw57.drew (N + 1) 41 6 (rC zeroR) := k60
      replace hM58 : Sz xw57.drew M58 := hM58
      replace lo61 : Below N w xw57.drew := lo61.drew
      change wpAny _ _ _ _ _ _ _ (World.drew _)
      generalize xw57.drew = xw63 at *
      obtain ⟨c64, c65, c66, c67, c68, c69⟩ := r_cells5 k59
      refine wpAny_potO (rem := [0, 1, 2, 3, 4, 5, 6, 7, 8, 9, 10, 11]) 10 (FG M58 (fun j => if j = 0 then some (Value.pointer (some ⟨N, 0, none⟩)) else if j = 1 then some (Value.agg (cellsOf (nC r.b) 2)) else if j = 2 then some (Value.pointer (some ⟨N, 2, none⟩)) else if j = 3 then some (Q (uMax r.lo r.b.v)) else if j = 4 then some (Value.pointer (some ⟨N, 3, none⟩)) else if j = 5 then some (Q (uMin r.hi (r.b.v ||| r.b.m))) else if j = 6 then some (Value.agg (cellsOf (nC (sAlike (uMax r.lo r.b.v) (uMin r.hi (r.b.v ||| r.b.m)))) 2)) else if j = 7 then some (Value.tuple #[(Value.agg (cellsOf (nC (meetN r.b (sAlike (uMax r.lo r.b.v) (uMin r.hi (r.b.v ||| r.b.m))))) 2)), (Value.bool (meetB r.b (sAlike (uMax r.lo r.b.v) (uMin r.hi (r.b.v ||| r.b.m)))))]) else if j = 8 then some (Value.tuple #[(Value.agg (cellsOf (nC (meetN r.b (sAlike (uMax r.lo r.b.v) (uMin r.hi (r.b.v ||| r.b.m))))) 2)), (Value.bool (meetB r.b (sAlike (uMax r.lo r.b.v) (uMin r.hi (r.b.v ||| r.b.m)))))]) else if j = 9 then some (Value.agg (cellsOf (nC (meetN r.b (sAlike (uMax r.lo r.b.v) (uMin r.hi (r.b.v ||| r.b.m))))) 2)) else if j = 10 then some (Value.bool (meetB r.b (sAlike (uMax r.lo r.b.v) (uMin r.hi (r.b.v ||| r.b.m))))) else none) (fun j => (39, 2, nC zeroN))) (TwoN (fun j => if j = 0 then some (Value.pointer (some ⟨N, 0, none⟩)) else if j = 1 then some (Value.agg (cellsOf (nC r.b) 2)) else if j = 2 then some (Value.pointer (some ⟨N, 2, none⟩)) else if j = 3 then some (Q (uMax r.lo r.b.v)) else if j = 4 then some (Value.pointer (some ⟨N, 3, none⟩)) else if j = 5 then some (Q (uMin r.hi (r.b.v ||| r.b.m))) else if j = 6 then some (Value.agg (cellsOf (nC (sAlike (uMax r.lo r.b.v) (uMin r.hi (r.b.v ||| r.b.m)))) 2)) else if j = 7 then some (Value.tuple #[(Value.agg (cellsOf (nC (meetN r.b (sAlike (uMax r.lo r.b.v) (uMin r.hi (r.b.v ||| r.b.m))))) 2)), (Value.bool (meetB r.b (sAlike (uMax r.lo r.b.v) (uMin r.hi (r.b.v ||| r.b.m)))))]) else if j = 8 then some (Value.tuple #[(Value.agg (cellsOf (nC (meetN r.b (sAlike (uMax r.lo r.b.v) (uMin r.hi (r.b.v ||| r.b.m))))) 2)), (Value.bool (meetB r.b (sAlike (uMax r.lo r.b.v) (uMin r.hi (r.b.v ||| r.b.m)))))]) else if j = 9 then some (Value.agg (cellsOf (nC (meetN r.b (sAlike (uMax r.lo r.b.v) (uMin r.hi (r.b.v ||| r.b.m))))) 2)) else if j = 10 then some (Value.bool (meetB r.b (sAlike (uMax r.lo r.b.v) (uMin r.hi (r.b.v ||| r.b.m))))) else none)) (Below M58 xw63) _ _ _ _ (by kernel_rfl) (size_dstG (by kernel_rfl)) (Below.refl _ _) ?_ ?_ ?_
      ·intro i hi ac wa hI ha hv
       simp only [List.mem_cons, List.not_mem_nil, or_false] at hi
       rcases hi with rfl | rfl | rfl | rfl | rfl | rfl | rfl | rfl | rfl | rfl | rfl | rfl
       ·exact potg_run rfl rfl (Value.pointer (some ⟨N, 0, none⟩)) rfl (run_fa 41 (.tmp 1) 0 0 rfl (ha 1 (not_dstG (by kernel_rfl))) faR0) hM58 hI
       ·obtain ⟨v0, hv0a, hv0b⟩ := hv 0 (by simp) (by kernel_rfl)
        have ev0 := hv0b.val rfl
        subst ev0
        exact potg_run rfl rfl (Value.agg (cellsOf (nC r.b) 2)) rfl (run_bits5 39 (.tmp 73) rfl N (hv0a 73 rfl) 41 (Has.below k59 hI (Has.ltN k59 hM58)) undT szT) hM58 hI
       ·exact potg_run rfl rfl (Value.pointer (some ⟨N, 2, none⟩)) rfl (run_fa 41 (.tmp 1) 1 2 rfl (ha 1 (not_dstG (by kernel_rfl))) faR1) hM58 hI
       ·obtain ⟨v2, hv2a, hv2b⟩ := hv 2 (by simp) (by kernel_rfl)
        have ev2 := hv2b.val rfl
        subst ev2
        exact potg_run rfl rfl (Q (uMax r.lo r.b.v)) rfl (run_c1 22 (.tmp 75) rfl ⟨N, 2, none⟩ (hv2a 75 rfl) und64 rfl (keep_c hI hM58 c66)) hM58 hI
       ·exact potg_run rfl rfl (Value.pointer (some ⟨N, 3, none⟩)) rfl (run_fa 41 (.tmp 1) 2 3 rfl (ha 1 (not_dstG (by kernel_rfl))) faR2) hM58 hI
       ·obtain ⟨v4, hv4a, hv4b⟩ := hv 4 (by simp) (by kernel_rfl)
        have ev4 := hv4b.val rfl
        subst ev4
        exact potg_run rfl rfl (Q (uMin r.hi (r.b.v ||| r.b.m))) rfl (run_c1 22 (.tmp 77) rfl ⟨N, 3, none⟩ (hv4a 77 rfl) und64 rfl (keep_c hI hM58 c67)) hM58 hI
       ·obtain ⟨v3, hv3a, hv3b⟩ := hv 3 (by simp) (by kernel_rfl)
        have ev3 := hv3b.val rfl
        subst ev3
        obtain ⟨v5, hv5a, hv5b⟩ := hv 5 (by simp) (by kernel_rfl)
        have ev5 := hv5b.val rfl
        subst ev5
        exact potg_cl rfl rfl 61 _ _ rfl #[(Q (uMax r.lo r.b.v)), (Q (uMin r.hi (r.b.v ||| r.b.m)))] (by simp only [List.map_toArray, List.map_cons, List.map_nil, (show ac.eval (.tmp 76) = (Q (uMax r.lo r.b.v)) from (hv3a 76 rfl)), (show ac.eval (.tmp 78) = (Q (uMin r.hi (r.b.v ||| r.b.m))) from (hv5a 78 rfl))] <;> rfl) (by kernel_rfl) (Value.agg (cellsOf (nC (sAlike (uMax r.lo r.b.v) (uMin r.hi (r.b.v ||| r.b.m)))) 2)) (fun K hK => Alike_any (uMax r.lo r.b.v) (uMin r.hi (r.b.v ||| r.b.m)) wa K hK) rfl hM58 hI
       ·obtain ⟨v1, hv1a, hv1b⟩ := hv 1 (by simp) (by kernel_rfl)
        have ev1 := hv1b.val rfl
        subst ev1
        obtain ⟨v6, hv6a, hv6b⟩ := hv 6 (by simp) (by kernel_rfl)
        have ev6 := hv6b.val rfl
        subst ev6
        exact potg_cl rfl rfl 60 _ _ rfl #[(Value.agg (cellsOf (nC r.b) 2)), (Value.agg (cellsOf (nC (sAlike (uMax r.lo r.b.v) (uMin r.hi (r.b.v ||| r.b.m)))) 2))] (by simp only [List.map_toArray, List.map_cons, List.map_nil, (show ac.eval (.tmp 74) = (Value.agg (cellsOf (nC r.b) 2)) from (hv1a 74 rfl)), (show ac.eval (.tmp 79) = (Value.agg (cellsOf (nC (sAlike (uMax r.lo r.b.v) (uMin r.hi (r.b.v ||| r.b.m)))) 2)) from (hv6a 79 rfl))] <;> rfl) (by kernel_rfl) (Value.tuple #[(Value.agg (cellsOf (nC (meetN r.b (sAlike (uMax r.lo r.b.v) (uMin r.hi (r.b.v ||| r.b.m))))) 2)), (Value.bool (meetB r.b (sAlike (uMax r.lo r.b.v) (uMin r.hi (r.b.v ||| r.b.m)))))]) (fun K hK => Meet_any r.b (sAlike (uMax r.lo r.b.v) (uMin r.hi (r.b.v ||| r.b.m))) wa K hK) rfl hM58 hI
       ·obtain ⟨v7, hv7a, hv7b⟩ := hv 7 (by simp) (by kernel_rfl)
        have ev7 := hv7b.val rfl
        subst ev7
        exact potg_run rfl rfl (Value.tuple #[(Value.agg (cellsOf (nC (meetN r.b (sAlike (uMax r.lo r.b.v) (uMin r.hi (r.b.v ||| r.b.m))))) 2)), (Value.bool (meetB r.b (sAlike (uMax r.lo r.b.v) (uMin r.hi (r.b.v ||| r.b.m)))))]) rfl (run_mv (x := (.tmp 80)) rfl _ (hv7a 80 rfl)) hM58 hI
       ·obtain ⟨v8, hv8a, hv8b⟩ := hv 8 (by simp) (by kernel_rfl)
        have ev8 := hv8b.val rfl
        subst ev8
        exact potg_run rfl rfl (Value.agg (cellsOf (nC (meetN r.b (sAlike (uMax r.lo r.b.v) (uMin r.hi (r.b.v ||| r.b.m))))) 2)) rfl (run_ex (x := (.tmp 72)) rfl _ (hv8a 72 rfl) rfl) hM58 hI
       ·obtain ⟨v8, hv8a, hv8b⟩ := hv 8 (by simp) (by kernel_rfl)
        have ev8 := hv8b.val rfl
        subst ev8
        exact potg_run rfl rfl (Value.bool (meetB r.b (sAlike (uMax r.lo r.b.v) (uMin r.hi (r.b.v ||| r.b.m))))) rfl (run_ex (x := (.tmp 72)) rfl _ (hv8a 72 rfl) rfl) hM58 hI
       ·exact potg_al rfl rfl rfl zeT rfl rfl hM58 hI
      ·intro vals w5_62_ hb5_62_ hF hG
       have e_62_0 := (hF 0 (by simp)).val rfl
       have e_62_1 := (hF 1 (by simp)).val rfl
       have e_62_2 := (hF 2 (by simp)).val rfl
       have e_62_3 := (hF 3 (by simp)).val rfl
       have e_62_4 := (hF 4 (by simp)).val rfl
       have e_62_5 := (hF 5 (by simp)).val rfl
       have e_62_6 := (hF 6 (by simp)).val rfl
       have e_62_7 := (hF 7 (by simp)).val rfl
       have e_62_8 := (hF 8 (by simp)).val rfl
       have e_62_9 := (hF 9 (by simp)).val rfl
       have e_62_10 := (hF 10 (by simp)).val rfl
       obtain ⟨b_62_11, l_62_11, e_62_11, h_62_11⟩ := (hF 11 (by simp)).al rfl rfl
       clear hF hG
       simp only [List.foldl_cons, List.foldl_nil, dstOf, List.getElem?_toArray, List.getElem?_cons_succ, List.getElem?_cons_zero, Option.bind_some, Act.put, List.setIfInBounds_toArray, List.set_cons_succ, List.set_cons_zero, e_62_0, e_62_1, e_62_2, e_62_3, e_62_4, e_62_5, e_62_6, e_62_7, e_62_8, e_62_9, e_62_10, e_62_11]
       clear e_62_0 e_62_1 e_62_2 e_62_3 e_62_4 e_62_5 e_62_6 e_62_7 e_62_8 e_62_9 e_62_10 e_62_11
       have k70 := k59.below hb5_62_ (by omega)
       have k71 := k60.below hb5_62_ (by omega)
       have lo72 := lo61.trans (hb5_62_.mono (by omega))
       clear k59 c64 c65 c66 c67 c68 c69 k60 lo61 hb5_62_
       refine wpAny_chain [12, 13] _ _ _ _ (by kernel_rfl) (by decide) ?_
       simp only [List.filterMap_cons, List.filterMap_nil, List.getElem?_toArray, List.getElem?_cons_succ, List.getElem?_cons_zero]
       refine wpl_store rfl 39 (.tmp 4) (.tmp 81) rfl b_62_11 2 (nC (meetN r.b (sAlike (uMax r.lo r.b.v) (uMin r.hi (r.b.v ||| r.b.m))))) rfl rfl 39 _ h_62_11 szT (fun j _ => nC_one _ j) ?_
       intro xw73 t74 k75
       have k76 := k70.touch t74 (by omega)
       have k77 := k71.touch t74 (by omega)
       have lo78 := t74.below lo72 (by omega)
       clear h_62_11 k70 k71 lo72 t74
       refine wpl_run rfl (Value.bool (meetB r.b (sAlike (uMax r.lo r.b.v) (uMin r.hi (r.b.v ||| r.b.m))))) _ (run_as (x := (.tmp 82)) rfl _ rfl) ?_; simp only [pA]
       refine ⟨rfl, b_62_11, (by simp only [pA]), k75, k76, k77, (by omega), lo78⟩
      ·intro vals w5_62_ hb5_62_ hF hG
       have e_62_0 := (hF 0 (by simp) (by omega)).val rfl
       have e_62_1 := (hF 1 (by simp) (by omega)).val rfl
       have e_62_2 := (hF 2 (by simp) (by omega)).val rfl
       have e_62_3 := (hF 3 (by simp) (by omega)).val rfl
       have e_62_4 := (hF 4 (by simp) (by omega)).val rfl
       have e_62_5 := (hF 5 (by simp) (by omega)).val rfl
       have e_62_6 := (hF 6 (by simp) (by omega)).val rfl
       have e_62_7 := (hF 7 (by simp) (by omega)).val rfl
       have e_62_8 := (hF 8 (by simp) (by omega)).val rfl
       have e_62_9 := (hF 9 (by simp) (by omega)).val rfl
       obtain ⟨b_62_11, l_62_11, e_62_11, h_62_11⟩ := (hF 11 (by simp) (by omega)).al rfl rfl
       clear hF hG
       rw [show (List.filter (fun j => !(j == 10)) [0, 1, 2, 3, 4, 5, 6, 7, 8, 9, 10, 11]) = [0, 1, 2, 3, 4, 5, 6, 7, 8, 9, 11] from rfl]
       simp only [List.foldl_cons, List.foldl_nil, dstOf, List.getElem?_toArray, List.getElem?_cons_succ, List.getElem?_cons_zero, Option.bind_some, Act.put, List.setIfInBounds_toArray, List.set_cons_succ, List.set_cons_zero, e_62_0, e_62_1, e_62_2, e_62_3, e_62_4, e_62_5, e_62_6, e_62_7, e_62_8, e_62_9, e_62_11]
       clear e_62_0 e_62_1 e_62_2 e_62_3 e_62_4 e_62_5 e_62_6 e_62_7 e_62_8 e_62_9 e_62_11
       have k70 := k59.below hb5_62_ (by omega)
       have k71 := k60.below hb5_62_ (by omega)
       have lo72 := lo61.trans (hb5_62_.mono (by omega))
       clear k59 c64 c65 c66 c67 c68 c69 k60 lo61 hb5_62_
       refine wpAny_fork 10 12 [12, 13] [10, 13] 2 _ _ _ (by kernel_rfl) (by kernel_rfl) ?_ ?_
       ·simp only [List.filterMap_cons, List.filterMap_nil, List.getElem?_toArray, List.getElem?_cons_succ, List.getElem?_cons_zero]
        refine wpl_run rfl (Value.bool (meetB r.b (sAlike (uMax r.lo r.b.v) (uMin r.hi (r.b.v ||| r.b.m))))) _ (run_ex (x := (.tmp 72)) rfl _ rfl rfl) ?_; simp only [pA]
        refine wpl_store rfl 39 (.tmp 4) (.tmp 81) rfl b_62_11 2 (nC (meetN r.b (sAlike (uMax r.lo r.b.v) (uMin r.hi (r.b.v ||| r.b.m))))) rfl rfl 39 _ h_62_11 szT (fun j _ => nC_one _ j) ?_
        intro xw73 t74 k75
        have k76 := k70.touch t74 (by omega)
        have k77 := k71.touch t74 (by omega)
        have lo78 := t74.below lo72 (by omega)
        clear h_62_11 k70 k71 lo72 t74
        refine wpl_run rfl (Value.bool (meetB r.b (sAlike (uMax r.lo r.b.v) (uMin r.hi (r.b.v ||| r.b.m))))) _ (run_as (x := (.tmp 82)) rfl _ rfl) ?_; simp only [pA]
        refine ⟨rfl, b_62_11, (by simp only [pA]), k75, k76, k77, (by omega), lo78⟩
       ·simp only [List.filterMap_cons, List.filterMap_nil, List.getElem?_toArray, List.getElem?_cons_succ, List.getElem?_cons_zero]
        refine wpl_store rfl 39 (.tmp 4) (.tmp 81) rfl b_62_11 2 (nC (meetN r.b (sAlike (uMax r.lo r.b.v) (uMin r.hi (r.b.v ||| r.b.m))))) rfl rfl 39 _ h_62_11 szT (fun j _ => nC_one _ j) ?_
        intro xw73 t74 k75
        have k76 := k70.touch t74 (by omega)
        have k77 := k71.touch t74 (by omega)
        have lo78 := t74.below lo72 (by omega)
        clear h_62_11 k70 k71 lo72 t74
        refine wpl_run rfl (Value.bool (meetB r.b (sAlike (uMax r.lo r.b.v) (uMin r.hi (r.b.v ||| r.b.m))))) _ (run_ex (x := (.tmp 72)) rfl _ rfl rfl) ?_; simp only [pA]
        refine wpl_run rfl (Value.bool (meetB r.b (sAlike (uMax r.lo r.b.v) (uMin r.hi (r.b.v ||| r.b.m))))) _ (run_as (x := (.tmp 82)) rfl _ rfl) ?_; simp only [pA]
        refine ⟨rfl, b_62_11, (by simp only [pA]), k75, k76, k77, (by omega), lo78⟩
     ·clear k59 k60 lo61
      rintro b_62_x xw67 ⟨k63, k64, k65, lb_62_x, lo66⟩
      try dsimp only
      try simp only [pA]
      obtain ⟨M68, hM68⟩ := sz_some xw67
      have lt_69 := k64.ltN hM68
      have lt_70 := k65.ltN hM68
      have lt_71 := k63.ltN hM68
      cases h5_ : (meetB r.b (sAlike (uMax r.lo r.b.v) (uMin r.hi (r.b.v ||| r.b.m))))
      ·have H5_ := hid h5_
       clear h5_
       go_upto_region 9 with fail
       obtain ⟨c72, c73, c74, c75, c76, c77⟩ := r_cells5 k64
       refine wp_region_later1 (M68) ?_
       try simp only [pA]
       iterate 16 (go_big_quiet_step (fail))
       refine wpQuiet_nil (laterE hM68 ?_)
       intro xw78 M79 hbxw78 hM79 lM79
       have k80 := k64.below hbxw78 (by omega)
       have k81 := k65.below hbxw78 (by omega)
       have k82 := k63.below hbxw78 (by omega)
       have lo83 := lo66.trans (hbxw78.mono (by omega))
       clear k64 c72 c73 c74 c75 c76 c77 k65 k63 lo66 hbxw78
       go_upto_region 10 with fail
       refine wp_region_lit ?_
       try simp only [pA]
       change wpList _ _ _ ((_ :: []) ++ (_ :: _ :: [])) _ _
       refine wpList_prefix (C := fun w' => ∃ x : Later M79 xw78, w' = x.w') _ _ _ _ ⟨⟨_, Below.refl _ _⟩, rfl⟩ ?_
       refine later_val (fun q => run_bd 41 _ rfl (cellsOf (rC ⟨zeroN, 0#64, 0#64, 0#64, 0#64⟩) 6) (by kernel_rfl) q.w') (by rfl) ?_; simp only [pA]
       refine wpQuiet_nil (laterE hM79 ?_)
       intro xw84 M85 hbxw84 hM85 lM85
       have k86 := k80.below hbxw84 (by omega)
       have k87 := k81.below hbxw84 (by omega)
       have k88 := k82.below hbxw84 (by omega)
       have lo89 := lo83.trans (hbxw84.mono (by omega))
       clear k80 k81 k82 lo83 hbxw84
       refine wpl_store rfl 41 (.tmp 2) (.tmp 99) rfl (N + 1) 6 (rC ⟨zeroN, 0#64, 0#64, 0#64, 0#64⟩) rfl rfl 41 _ k87 szR (fun j _ => rC_one _ j) ?_
       intro xw90 t91 k92; try simp only [pA]
       have k93 := k86.touch t91 (by omega)
       have k94 := k88.touch t91 (by omega)
       have lo95 := t91.below lo89 (by omega)
       have h96 := t91.sz hM85
       clear k87 k86 k88 lo89 hM85 t91
       refine wpl_run rfl (Value.bool false) _ (run_as (x := (.const (.bool false))) rfl _ rfl) ?_; simp only [pA]
       obtain ⟨M97, hM97⟩ := sz_some xw90
       have lt_98 := k93.ltN hM97
       have lt_99 := k92.ltN hM97
       have lt_100 := k94.ltN hM97
       go_wp2_with fail
       refine post_rb rfl (N + 1) rfl k92 undR szR rfl rfl ?_
       exact ⟨by rw [ER.out]; first | rfl | (simp only [settleF, sT1, sT2, sT3, sT4, H1_.out, H2_.out, H3_.out, H4_.out, H5_.out, bB] <;> rfl), lo95⟩
      ·have H5_ := hid h5_
       clear h5_
       cases h6_ : (BitVec.ult (uMin r.hi (r.b.v ||| r.b.m)) (uMax r.lo r.b.v))
       ·have H6_ := hid h6_
        clear h6_
        cases h7_ : (BitVec.slt r.sh r.sl)
        ·have H7_ := hid h7_
         clear h7_
         go_upto_region 9 with fail
         obtain ⟨c72, c73, c74, c75, c76, c77⟩ := r_cells5 k64
         refine wp_region_later1 (M68) ?_
         try simp only [pA]
         iterate 4 (go_big_quiet_step (fail))
         refine later_c1 hM68 22 (.tmp 86) rfl rfl und64 rfl c74 (by rfl) ?_; simp only [pA]
         go_big_quiet_step (fail)
         refine later_c1 hM68 22 (.tmp 88) rfl rfl und64 rfl c75 (by rfl) ?_; simp only [pA]
         refine later_b (x := (.tmp 87)) (y := (.tmp 89)) rfl (BinRun.is H6_.out (bin_gtr _ (uMax r.lo r.b.v) (uMin r.hi (r.b.v ||| r.b.m)))) rfl rfl (by rfl) ?_; simp only [pA]
         iterate 3 (go_big_quiet_step (fail))
         refine later_c1 hM68 2 (.tmp 93) rfl rfl undI64 rfl c76 (by rfl) ?_; simp only [pA]
         go_big_quiet_step (fail)
         refine later_c1 hM68 2 (.tmp 95) rfl rfl undI64 rfl c77 (by rfl) ?_; simp only [pA]
         refine later_b (x := (.tmp 94)) (y := (.tmp 96)) rfl (BinRun.is H7_.out (bin_sgtr _ r.sl r.sh)) rfl rfl (by rfl) ?_; simp only [pA]
         go_big_quiet_step (fail)
         refine wpQuiet_nil (laterE hM68 ?_)
         intro xw78 M79 hbxw78 hM79 lM79
         have k80 := k64.below hbxw78 (by omega)
         have k81 := k65.below hbxw78 (by omega)
         have k82 := k63.below hbxw78 (by omega)
         have lo83 := lo66.trans (hbxw78.mono (by omega))
         clear k64 c72 c73 c74 c75 c76 c77 k65 k63 lo66 hbxw78
         go_upto_region 11 with fail
         refine wp_region_lit ?_
         try simp only [pA]
         refine wpl_run rfl (.agg (cellsOf (nC (meetN r.b (sAlike (uMax r.lo r.b.v) (uMin r.hi (r.b.v ||| r.b.m))))) 2)) _ (run_rw 39 (.tmp 4) rfl b_62_x rfl 39 2 _ k82 undT szT) ?_; simp only [pA]
         refine wpl_run rfl (.pointer (some ⟨N, 0, none⟩)) xw78 (by kernel_rfl) ?_; simp only [pA]
         refine wpl_store_part rfl 39 (.tmp 101) (.tmp 100) rfl N 0 rfl 2 (nC (meetN r.b (sAlike (uMax r.lo r.b.v) (uMin r.hi (r.b.v ||| r.b.m))))) rfl 41 6 _ k80 (by omega) szT (fun j _ => nC_one _ j) ?_
         intro xw84 t85 k86_; try simp only [pA]
         have k86 : Has xw84 N 41 6 (rC ⟨(meetN r.b (sAlike (uMax r.lo r.b.v) (uMin r.hi (r.b.v ||| r.b.m)))), (uMax r.lo r.b.v), (uMin r.hi (r.b.v ||| r.b.m)), r.sl, r.sh⟩) := k86_.congr (fun j hj => lay_bits _ _ _ _ _ _ j)
         have k87 := k81.touch t85 (by omega)
         have k88 := k82.touch t85 (by omega)
         have lo89 := t85.below lo83 (by omega)
         clear k80 k86_ k81 k82 lo83 t85
         obtain ⟨M90, hM90⟩ := sz_some xw84
         have lt_91 := k86.ltN hM90
         have lt_92 := k87.ltN hM90
         have lt_93 := k88.ltN hM90
         go_upto_region 12 with fail
         refine wp_region_lit ?_
         try simp only [pA]
         change wpList _ _ _ ((_ :: []) ++ (_ :: _ :: [])) _ _
         refine wpList_prefix (C := fun w' => ∃ x : Later M90 xw84, w' = x.w') _ _ _ _ ⟨⟨_, Below.refl _ _⟩, rfl⟩ ?_
         refine later_row hM90 41 (.tmp 1) rfl (N) rfl 41 6 _ k86 undR szR (by rfl) ?_; simp only [pA]
         refine wpQuiet_nil (laterE hM90 ?_)
         intro xw94 M95 hbxw94 hM95 lM95
         have k96 := k86.below hbxw94 (by omega)
         have k97 := k87.below hbxw94 (by omega)
         have k98 := k88.below hbxw94 (by omega)
         have lo99 := lo89.trans (hbxw94.mono (by omega))
         clear k86 k87 k88 lo89 hbxw94
         refine wpl_store rfl 41 (.tmp 2) (.tmp 102) rfl (N + 1) 6 (rC ⟨(meetN r.b (sAlike (uMax r.lo r.b.v) (uMin r.hi (r.b.v ||| r.b.m)))), (uMax r.lo r.b.v), (uMin r.hi (r.b.v ||| r.b.m)), r.sl, r.sh⟩) rfl rfl 41 _ k97 szR (fun j _ => rC_one _ j) ?_
         intro xw100 t101 k102; try simp only [pA]
         have k103 := k96.touch t101 (by omega)
         have k104 := k98.touch t101 (by omega)
         have lo105 := t101.below lo99 (by omega)
         have h106 := t101.sz hM95
         clear k97 k96 k98 lo99 hM95 t101
         refine wpl_run rfl (Value.bool true) _ (run_as (x := (.const (.bool true))) rfl _ rfl) ?_; simp only [pA]
         obtain ⟨M107, hM107⟩ := sz_some xw100
         have lt_108 := k103.ltN hM107
         have lt_109 := k102.ltN hM107
         have lt_110 := k104.ltN hM107
         go_wp2_with fail
         refine post_rb rfl (N + 1) rfl k102 undR szR rfl rfl ?_
         exact ⟨by rw [ER.out]; first | rfl | (simp only [settleF, sT1, sT2, sT3, sT4, H1_.out, H2_.out, H3_.out, H4_.out, H5_.out, H6_.out, H7_.out, bB] <;> rfl), lo105⟩
        ·have H7_ := hid h7_
         clear h7_
         go_upto_region 9 with fail
         obtain ⟨c72, c73, c74, c75, c76, c77⟩ := r_cells5 k64
         refine wp_region_later1 (M68) ?_
         try simp only [pA]
         iterate 4 (go_big_quiet_step (fail))
         refine later_c1 hM68 22 (.tmp 86) rfl rfl und64 rfl c74 (by rfl) ?_; simp only [pA]
         go_big_quiet_step (fail)
         refine later_c1 hM68 22 (.tmp 88) rfl rfl und64 rfl c75 (by rfl) ?_; simp only [pA]
         refine later_b (x := (.tmp 87)) (y := (.tmp 89)) rfl (BinRun.is H6_.out (bin_gtr _ (uMax r.lo r.b.v) (uMin r.hi (r.b.v ||| r.b.m)))) rfl rfl (by rfl) ?_; simp only [pA]
         iterate 3 (go_big_quiet_step (fail))
         refine later_c1 hM68 2 (.tmp 93) rfl rfl undI64 rfl c76 (by rfl) ?_; simp only [pA]
         go_big_quiet_step (fail)
         refine later_c1 hM68 2 (.tmp 95) rfl rfl undI64 rfl c77 (by rfl) ?_; simp only [pA]
         refine later_b (x := (.tmp 94)) (y := (.tmp 96)) rfl (BinRun.is H7_.out (bin_sgtr _ r.sl r.sh)) rfl rfl (by rfl) ?_; simp only [pA]
         go_big_quiet_step (fail)
         refine wpQuiet_nil (laterE hM68 ?_)
         intro xw78 M79 hbxw78 hM79 lM79
         have k80 := k64.below hbxw78 (by omega)
         have k81 := k65.below hbxw78 (by omega)
         have k82 := k63.below hbxw78 (by omega)
         have lo83 := lo66.trans (hbxw78.mono (by omega))
         clear k64 c72 c73 c74 c75 c76 c77 k65 k63 lo66 hbxw78
         go_upto_region 10 with fail
         refine wp_region_lit ?_
         try simp only [pA]
         change wpList _ _ _ ((_ :: []) ++ (_ :: _ :: [])) _ _
         refine wpList_prefix (C := fun w' => ∃ x : Later M79 xw78, w' = x.w') _ _ _ _ ⟨⟨_, Below.refl _ _⟩, rfl⟩ ?_
         refine later_val (fun q => run_bd 41 _ rfl (cellsOf (rC ⟨zeroN, 0#64, 0#64, 0#64, 0#64⟩) 6) (by kernel_rfl) q.w') (by rfl) ?_; simp only [pA]
         refine wpQuiet_nil (laterE hM79 ?_)
         intro xw84 M85 hbxw84 hM85 lM85
         have k86 := k80.below hbxw84 (by omega)
         have k87 := k81.below hbxw84 (by omega)
         have k88 := k82.below hbxw84 (by omega)
         have lo89 := lo83.trans (hbxw84.mono (by omega))
         clear k80 k81 k82 lo83 hbxw84
         refine wpl_store rfl 41 (.tmp 2) (.tmp 99) rfl (N + 1) 6 (rC ⟨zeroN, 0#64, 0#64, 0#64, 0#64⟩) rfl rfl 41 _ k87 szR (fun j _ => rC_one _ j) ?_
         intro xw90 t91 k92; try simp only [pA]
         have k93 := k86.touch t91 (by omega)
         have k94 := k88.touch t91 (by omega)
         have lo95 := t91.below lo89 (by omega)
         have h96 := t91.sz hM85
         clear k87 k86 k88 lo89 hM85 t91
         refine wpl_run rfl (Value.bool false) _ (run_as (x := (.const (.bool false))) rfl _ rfl) ?_; simp only [pA]
         obtain ⟨M97, hM97⟩ := sz_some xw90
         have lt_98 := k93.ltN hM97
         have lt_99 := k92.ltN hM97
         have lt_100 := k94.ltN hM97
         go_wp2_with fail
         refine post_rb rfl (N + 1) rfl k92 undR szR rfl rfl ?_
         exact ⟨by rw [ER.out]; first | rfl | (simp only [settleF, sT1, sT2, sT3, sT4, H1_.out, H2_.out, H3_.out, H4_.out, H5_.out, H6_.out, H7_.out, bB] <;> rfl), lo95⟩
       ·have H6_ := hid h6_
        clear h6_
        go_upto_region 9 with fail
        obtain ⟨c72, c73, c74, c75, c76, c77⟩ := r_cells5 k64
        refine wp_region_later1 (M68) ?_
        try simp only [pA]
        iterate 4 (go_big_quiet_step (fail))
        refine later_c1 hM68 22 (.tmp 86) rfl rfl und64 rfl c74 (by rfl) ?_; simp only [pA]
        go_big_quiet_step (fail)
        refine later_c1 hM68 22 (.tmp 88) rfl rfl und64 rfl c75 (by rfl) ?_; simp only [pA]
        refine later_b (x := (.tmp 87)) (y := (.tmp 89)) rfl (BinRun.is H6_.out (bin_gtr _ (uMax r.lo r.b.v) (uMin r.hi (r.b.v ||| r.b.m)))) rfl rfl (by rfl) ?_; simp only [pA]
        iterate 8 (go_big_quiet_step (fail))
        refine wpQuiet_nil (laterE hM68 ?_)
        intro xw78 M79 hbxw78 hM79 lM79
        have k80 := k64.below hbxw78 (by omega)
        have k81 := k65.below hbxw78 (by omega)
        have k82 := k63.below hbxw78 (by omega)
        have lo83 := lo66.trans (hbxw78.mono (by omega))
        clear k64 c72 c73 c74 c75 c76 c77 k65 k63 lo66 hbxw78
        go_upto_region 10 with fail
        refine wp_region_lit ?_
        try simp only [pA]
        change wpList _ _ _ ((_ :: []) ++ (_ :: _ :: [])) _ _
        refine wpList_prefix (C := fun w' => ∃ x : Later M79 xw78, w' = x.w') _ _ _ _ ⟨⟨_, Below.refl _ _⟩, rfl⟩ ?_
        refine later_val (fun q => run_bd 41 _ rfl (cellsOf (rC ⟨zeroN, 0#64, 0#64, 0#64, 0#64⟩) 6) (by kernel_rfl) q.w') (by rfl) ?_; simp only [pA]
        refine wpQuiet_nil (laterE hM79 ?_)
        intro xw84 M85 hbxw84 hM85 lM85
        have k86 := k80.below hbxw84 (by omega)
        have k87 := k81.below hbxw84 (by omega)
        have k88 := k82.below hbxw84 (by omega)
        have lo89 := lo83.trans (hbxw84.mono (by omega))
        clear k80 k81 k82 lo83 hbxw84
        refine wpl_store rfl 41 (.tmp 2) (.tmp 99) rfl (N + 1) 6 (rC ⟨zeroN, 0#64, 0#64, 0#64, 0#64⟩) rfl rfl 41 _ k87 szR (fun j _ => rC_one _ j) ?_
        intro xw90 t91 k92; try simp only [pA]
        have k93 := k86.touch t91 (by omega)
        have k94 := k88.touch t91 (by omega)
        have lo95 := t91.below lo89 (by omega)
        have h96 := t91.sz hM85
        clear k87 k86 k88 lo89 hM85 t91
        refine wpl_run rfl (Value.bool false) _ (run_as (x := (.const (.bool false))) rfl _ rfl) ?_; simp only [pA]
        obtain ⟨M97, hM97⟩ := sz_some xw90
        have lt_98 := k93.ltN hM97
        have lt_99 := k92.ltN hM97
        have lt_100 := k94.ltN hM97
        go_wp2_with fail
        refine post_rb rfl (N + 1) rfl k92 undR szR rfl rfl ?_
        exact ⟨by rw [ER.out]; first | rfl | (simp only [settleF, sT1, sT2, sT3, sT4, H1_.out, H2_.out, H3_.out, H4_.out, H5_.out, H6_.out, bB] <;> rfl), lo95⟩
    ·have H4_ := hid h4_
     clear h4_
     go_upto_region 6 with fail
     obtain ⟨c51, c52, c53, c54, c55, c56⟩ := r_cells5 k48
     refine wp_region_later1 (M47) ?_
     try simp only [pA]
     go_big_quiet_step (fail)
     refine later_c1 hM47 2 (.tmp 50) rfl rfl undI64 rfl c55 (by rfl) ?_; simp only [pA]
     refine later_b (x := (.tmp 51)) (y := (.const (.int .i64 0))) rfl (BinRun.is H3_.out (bin_sgeq _ r.sl 0#64)) rfl rfl (by rfl) ?_; simp only [pA]
     iterate 2 (go_big_quiet_step (fail))
     refine later_c1 hM47 2 (.tmp 54) rfl rfl undI64 rfl c56 (by rfl) ?_; simp only [pA]
     refine later_b (x := (.tmp 55)) (y := (.const (.int .i64 0))) rfl (BinRun.is H4_.out (bin_slss _ r.sh 0#64)) rfl rfl (by rfl) ?_; simp only [pA]
     go_big_quiet_step (fail)
     refine wpQuiet_nil (laterE hM47 ?_)
     intro xw57 M58 hbxw57 hM58 lM58
     have k59 := k48.below hbxw57 (by omega)
     have k60 := k49.below hbxw57 (by omega)
     have lo61 := lo50.trans (hbxw57.mono (by omega))
     clear k48 c51 c52 c53 c54 c55 c56 k49 lo50 hbxw57
     go_upto_region 7 with fail
     refine wp_region_lit ?_
     try simp only [pA]
     change wpList _ _ _ ((_ :: _ :: _ :: _ :: _ :: _ :: _ :: _ :: _ :: _ :: _ :: _ :: _ :: []) ++ (_ :: _ :: _ :: [])) _ _
     obtain ⟨c62, c63, c64, c65, c66, c67⟩ := r_cells5 k59
     refine wpList_prefix (C := fun w' => ∃ x : Later M58 xw57, w' = x.w') _ _ _ _ ⟨⟨_, Below.refl _ _⟩, rfl⟩ ?_
     go_big_quiet_step (fail)
     refine later_c1 hM58 22 (.tmp 58) rfl rfl und64 rfl c64 (by rfl) ?_; simp only [pA]
     go_big_quiet_step (fail)
     refine later_c1 hM58 2 (.tmp 60) rfl rfl undI64 rfl c66 (by rfl) ?_; simp only [pA]
     refine later_val (fun q => run_su (x := (.tmp 61)) rfl undI64 und64 rfl q.w') (by rfl) ?_; simp only [pA]
     refine later_val (fun qq => run_maxQ (x := (.tmp 59)) (y := (.tmp 62)) (p := (uMax r.lo r.b.v)) (q := r.sl) rfl rfl rfl qq.w') (by rfl) ?_; simp only [pA]
     go_big_quiet_step (fail)
     refine later_c1 hM58 22 (.tmp 64) rfl rfl und64 rfl c65 (by rfl) ?_; simp only [pA]
     go_big_quiet_step (fail)
     refine later_c1 hM58 2 (.tmp 66) rfl rfl undI64 rfl c67 (by rfl) ?_; simp only [pA]
     refine later_val (fun q => run_su (x := (.tmp 67)) rfl undI64 und64 rfl q.w') (by rfl) ?_; simp only [pA]
     refine later_val (fun qq => run_minQ (x := (.tmp 65)) (y := (.tmp 68)) (p := (uMin r.hi (r.b.v ||| r.b.m))) (q := r.sh) rfl rfl rfl qq.w') (by rfl) ?_; simp only [pA]
     go_big_quiet_step (fail)
     refine wpQuiet_nil (laterE hM58 ?_)
     intro xw68 M69 hbxw68 hM69 lM69
     have k70 := k59.below hbxw68 (by omega)
     have k71 := k60.below hbxw68 (by omega)
     have lo72 := lo61.trans (hbxw68.mono (by omega))
     clear k59 c62 c63 c64 c65 c66 c67 k60 lo61 hbxw68
     refine wpl_set rfl 22 (.tmp 70) (.tmp 63) rfl N 2 rfl _ rfl sz64 rfl rfl 41 6 _ k70 (by omega) ?_
     intro xw73 t74 k75_; try simp only [pA]
     have k75 : Has xw73 N 41 6 (rC ⟨r.b, (uMax (uMax r.lo r.b.v) r.sl), (uMin r.hi (r.b.v ||| r.b.m)), r.sl, r.sh⟩) := k75_.congr (fun j hj => set_lo _ _ j)
     have k76 := k71.touch t74 (by omega)
     have lo77 := t74.below lo72 (by omega)
     have h78 := t74.sz hM69
     clear k70 k75_ k71 lo72 hM69 t74
     refine wpl_run rfl (Value.pointer (some ⟨N, 3, none⟩)) _ (run_fa 41 (.tmp 1) 2 3 rfl rfl faR2) ?_; simp only [pA]
     refine wpl_set rfl 22 (.tmp 71) (.tmp 69) rfl N 3 rfl _ rfl sz64 rfl rfl 41 6 _ k75 (by omega) ?_
     intro xw79 t80 k81_; try simp only [pA]
     have k81 : Has xw79 N 41 6 (rC ⟨r.b, (uMax (uMax r.lo r.b.v) r.sl), (uMin (uMin r.hi (r.b.v ||| r.b.m)) r.sh), r.sl, r.sh⟩) := k81_.congr (fun j hj => set_hi _ _ j)
     have k82 := k76.touch t80 (by omega)
     have lo83 := t80.below lo77 (by omega)
     have h84 := t80.sz h78
     clear k75 k81_ k76 lo77 h78 t80
     obtain ⟨M85, hM85⟩ := sz_some xw79
     have lt_86 := k81.ltN hM85
     have lt_87 := k82.ltN hM85
     go_upto_region 8 with fail
     refine wp_mid (fun ac (x : Nat) => (((((((((((((ac.put (some 73) (Value.pointer (some ⟨N, 0, none⟩))).put (some 74) (Value.agg (cellsOf (nC r.b) 2))).put (some 75) (Value.pointer (some ⟨N, 2, none⟩))).put (some 76) (Q (uMax (uMax r.lo r.b.v) r.sl))).put (some 77) (Value.pointer (some ⟨N, 3, none⟩))).put (some 78) (Q (uMin (uMin r.hi (r.b.v ||| r.b.m)) r.sh))).put (some 79) (Value.agg (cellsOf (nC (sAlike (uMax (uMax r.lo r.b.v) r.sl) (uMin (uMin r.hi (r.b.v ||| r.b.m)) r.sh))) 2))).put (some 80) (Value.tuple #[(Value.agg (cellsOf (nC (meetN r.b (sAlike (uMax (uMax r.lo r.b.v) r.sl) (uMin (uMin r.hi (r.b.v ||| r.b.m)) r.sh)))) 2)), (Value.bool (meetB r.b (sAlike (uMax (uMax r.lo r.b.v) r.sl) (uMin (uMin r.hi (r.b.v ||| r.b.m)) r.sh))))])).put (some 72) (Value.tuple #[(Value.agg (cellsOf (nC (meetN r.b (sAlike (uMax (uMax r.lo r.b.v) r.sl) (uMin (uMin r.hi (r.b.v ||| r.b.m)) r.sh)))) 2)), (Value.bool (meetB r.b (sAlike (uMax (uMax r.lo r.b.v) r.sl) (uMin (uMin r.hi (r.b.v ||| r.b.m)) r.sh))))])).put (some 81) (Value.agg (cellsOf (nC (meetN r.b (sAlike (uMax (uMax r.lo r.b.v) r.sl) (uMin (uMin r.hi (r.b.v ||| r.b.m)) r.sh)))) 2))).put (some 82) (Value.bool (meetB r.b (sAlike (uMax (uMax r.lo r.b.v) r.sl) (uMin (uMin r.hi (r.b.v ||| r.b.m)) r.sh))))).put (some 4) (.pointer (some ⟨x, 0, none⟩))).put (some 5) (Value.bool (meetB r.b (sAlike (uMax (uMax r.lo r.b.v) r.sl) (uMin (uMin r.hi (r.b.v ||| r.b.m)) r.sh)))))) (fun x w' => Has w' x 39 2 (nC (meetN r.b (sAlike (uMax (uMax r.lo r.b.v) r.sl) (uMin (uMin r.hi (r.b.v ||| r.b.m)) r.sh)))) ∧ Has w' N 41 6 (rC ⟨r.b, (uMax (uMax r.lo r.b.v) r.sl), (uMin (uMin r.hi (r.b.v ||| r.b.m)) r.sh), r.sl, r.sh⟩) ∧ Has w' (N + 1) 41 6 (rC zeroR) ∧ M85 ≤ x ∧ Below N w w') ?_ ?_
     ·refine wp_region_any (by kernel_rfl) ?_
      replace k81 : Has xw79.drew N 41 6 (rC ⟨r.b, (uMax (uMax r.lo r.b.v) r.sl), (uMin (uMin r.hi (r.b.v ||| r.b.m)) r.sh), r.sl, r.sh⟩) := k81
      replace k82 : Has xw79.drew (N + 1) 41 6 (rC zeroR) := k82
      replace hM85 : Sz xw79.drew M85 := hM85
      replace lo83 : Below N w xw79.drew := lo83.drew
      change wpAny _ _ _ _ _ _ _ (World.drew _)
      generalize xw79.drew = xw89 at *
      obtain ⟨c90, c91, c92, c93, c94, c95⟩ := r_cells5 k81
      refine wpAny_potO (rem := [0, 1, 2, 3, 4, 5, 6, 7, 8, 9, 10, 11]) 10 (FG M85 (fun j => if j = 0 then some (Value.pointer (some ⟨N, 0, none⟩)) else if j = 1 then some (Value.agg (cellsOf (nC r.b) 2)) else if j = 2 then some (Value.pointer (some ⟨N, 2, none⟩)) else if j = 3 then some (Q (uMax (uMax r.lo r.b.v) r.sl)) else if j = 4 then some (Value.pointer (some ⟨N, 3, none⟩)) else if j = 5 then some (Q (uMin (uMin r.hi (r.b.v ||| r.b.m)) r.sh)) else if j = 6 then some (Value.agg (cellsOf (nC (sAlike (uMax (uMax r.lo r.b.v) r.sl) (uMin (uMin r.hi (r.b.v ||| r.b.m)) r.sh))) 2)) else if j = 7 then some (Value.tuple #[(Value.agg (cellsOf (nC (meetN r.b (sAlike (uMax (uMax r.lo r.b.v) r.sl) (uMin (uMin r.hi (r.b.v ||| r.b.m)) r.sh)))) 2)), (Value.bool (meetB r.b (sAlike (uMax (uMax r.lo r.b.v) r.sl) (uMin (uMin r.hi (r.b.v ||| r.b.m)) r.sh))))]) else if j = 8 then some (Value.tuple #[(Value.agg (cellsOf (nC (meetN r.b (sAlike (uMax (uMax r.lo r.b.v) r.sl) (uMin (uMin r.hi (r.b.v ||| r.b.m)) r.sh)))) 2)), (Value.bool (meetB r.b (sAlike (uMax (uMax r.lo r.b.v) r.sl) (uMin (uMin r.hi (r.b.v ||| r.b.m)) r.sh))))]) else if j = 9 then some (Value.agg (cellsOf (nC (meetN r.b (sAlike (uMax (uMax r.lo r.b.v) r.sl) (uMin (uMin r.hi (r.b.v ||| r.b.m)) r.sh)))) 2)) else if j = 10 then some (Value.bool (meetB r.b (sAlike (uMax (uMax r.lo r.b.v) r.sl) (uMin (uMin r.hi (r.b.v ||| r.b.m)) r.sh)))) else none) (fun j => (39, 2, nC zeroN))) (TwoN (fun j => if j = 0 then some (Value.pointer (some ⟨N, 0, none⟩)) else if j = 1 then some (Value.agg (cellsOf (nC r.b) 2)) else if j = 2 then some (Value.pointer (some ⟨N, 2, none⟩)) else if j = 3 then some (Q (uMax (uMax r.lo r.b.v) r.sl)) else if j = 4 then some (Value.pointer (some ⟨N, 3, none⟩)) else if j = 5 then some (Q (uMin (uMin r.hi (r.b.v ||| r.b.m)) r.sh)) else if j = 6 then some (Value.agg (cellsOf (nC (sAlike (uMax (uMax r.lo r.b.v) r.sl) (uMin (uMin r.hi (r.b.v ||| r.b.m)) r.sh))) 2)) else if j = 7 then some (Value.tuple #[(Value.agg (cellsOf (nC (meetN r.b (sAlike (uMax (uMax r.lo r.b.v) r.sl) (uMin (uMin r.hi (r.b.v ||| r.b.m)) r.sh)))) 2)), (Value.bool (meetB r.b (sAlike (uMax (uMax r.lo r.b.v) r.sl) (uMin (uMin r.hi (r.b.v ||| r.b.m)) r.sh))))]) else if j = 8 then some (Value.tuple #[(Value.agg (cellsOf (nC (meetN r.b (sAlike (uMax (uMax r.lo r.b.v) r.sl) (uMin (uMin r.hi (r.b.v ||| r.b.m)) r.sh)))) 2)), (Value.bool (meetB r.b (sAlike (uMax (uMax r.lo r.b.v) r.sl) (uMin (uMin r.hi (r.b.v ||| r.b.m)) r.sh))))]) else if j = 9 then some (Value.agg (cellsOf (nC (meetN r.b (sAlike (uMax (uMax r.lo r.b.v) r.sl) (uMin (uMin r.hi (r.b.v ||| r.b.m)) r.sh)))) 2)) else if j = 10 then some (Value.bool (meetB r.b (sAlike (uMax (uMax r.lo r.b.v) r.sl) (uMin (uMin r.hi (r.b.v ||| r.b.m)) r.sh)))) else none)) (Below M85 xw89) _ _ _ _ (by kernel_rfl) (size_dstG (by kernel_rfl)) (Below.refl _ _) ?_ ?_ ?_
      ·intro i hi ac wa hI ha hv
       simp only [List.mem_cons, List.not_mem_nil, or_false] at hi
       rcases hi with rfl | rfl | rfl | rfl | rfl | rfl | rfl | rfl | rfl | rfl | rfl | rfl
       ·exact potg_run rfl rfl (Value.pointer (some ⟨N, 0, none⟩)) rfl (run_fa 41 (.tmp 1) 0 0 rfl (ha 1 (not_dstG (by kernel_rfl))) faR0) hM85 hI
       ·obtain ⟨v0, hv0a, hv0b⟩ := hv 0 (by simp) (by kernel_rfl)
        have ev0 := hv0b.val rfl
        subst ev0
        exact potg_run rfl rfl (Value.agg (cellsOf (nC r.b) 2)) rfl (run_bits5 39 (.tmp 73) rfl N (hv0a 73 rfl) 41 (Has.below k81 hI (Has.ltN k81 hM85)) undT szT) hM85 hI
       ·exact potg_run rfl rfl (Value.pointer (some ⟨N, 2, none⟩)) rfl (run_fa 41 (.tmp 1) 1 2 rfl (ha 1 (not_dstG (by kernel_rfl))) faR1) hM85 hI
       ·obtain ⟨v2, hv2a, hv2b⟩ := hv 2 (by simp) (by kernel_rfl)
        have ev2 := hv2b.val rfl
        subst ev2
        exact potg_run rfl rfl (Q (uMax (uMax r.lo r.b.v) r.sl)) rfl (run_c1 22 (.tmp 75) rfl ⟨N, 2, none⟩ (hv2a 75 rfl) und64 rfl (keep_c hI hM85 c92)) hM85 hI
       ·exact potg_run rfl rfl (Value.pointer (some ⟨N, 3, none⟩)) rfl (run_fa 41 (.tmp 1) 2 3 rfl (ha 1 (not_dstG (by kernel_rfl))) faR2) hM85 hI
       ·obtain ⟨v4, hv4a, hv4b⟩ := hv 4 (by simp) (by kernel_rfl)
        have ev4 := hv4b.val rfl
        subst ev4
        exact potg_run rfl rfl (Q (uMin (uMin r.hi (r.b.v ||| r.b.m)) r.sh)) rfl (run_c1 22 (.tmp 77) rfl ⟨N, 3, none⟩ (hv4a 77 rfl) und64 rfl (keep_c hI hM85 c93)) hM85 hI
       ·obtain ⟨v3, hv3a, hv3b⟩ := hv 3 (by simp) (by kernel_rfl)
        have ev3 := hv3b.val rfl
        subst ev3
        obtain ⟨v5, hv5a, hv5b⟩ := hv 5 (by simp) (by kernel_rfl)
        have ev5 := hv5b.val rfl
        subst ev5
        exact potg_cl rfl rfl 61 _ _ rfl #[(Q (uMax (uMax r.lo r.b.v) r.sl)), (Q (uMin (uMin r.hi (r.b.v ||| r.b.m)) r.sh))] (by simp only [List.map_toArray, List.map_cons, List.map_nil, (show ac.eval (.tmp 76) = (Q (uMax (uMax r.lo r.b.v) r.sl)) from (hv3a 76 rfl)), (show ac.eval (.tmp 78) = (Q (uMin (uMin r.hi (r.b.v ||| r.b.m)) r.sh)) from (hv5a 78 rfl))] <;> rfl) (by kernel_rfl) (Value.agg (cellsOf (nC (sAlike (uMax (uMax r.lo r.b.v) r.sl) (uMin (uMin r.hi (r.b.v ||| r.b.m)) r.sh))) 2)) (fun K hK => Alike_any (uMax (uMax r.lo r.b.v) r.sl) (uMin (uMin r.hi (r.b.v ||| r.b.m)) r.sh) wa K hK) rfl hM85 hI
       ·obtain ⟨v1, hv1a, hv1b⟩ := hv 1 (by simp) (by kernel_rfl)
        have ev1 := hv1b.val rfl
        subst ev1
        obtain ⟨v6, hv6a, hv6b⟩ := hv 6 (by simp) (by kernel_rfl)
        have ev6 := hv6b.val rfl
        subst ev6
        exact potg_cl rfl rfl 60 _ _ rfl #[(Value.agg (cellsOf (nC r.b) 2)), (Value.agg (cellsOf (nC (sAlike (uMax (uMax r.lo r.b.v) r.sl) (uMin (uMin r.hi (r.b.v ||| r.b.m)) r.sh))) 2))] (by simp only [List.map_toArray, List.map_cons, List.map_nil, (show ac.eval (.tmp 74) = (Value.agg (cellsOf (nC r.b) 2)) from (hv1a 74 rfl)), (show ac.eval (.tmp 79) = (Value.agg (cellsOf (nC (sAlike (uMax (uMax r.lo r.b.v) r.sl) (uMin (uMin r.hi (r.b.v ||| r.b.m)) r.sh))) 2)) from (hv6a 79 rfl))] <;> rfl) (by kernel_rfl) (Value.tuple #[(Value.agg (cellsOf (nC (meetN r.b (sAlike (uMax (uMax r.lo r.b.v) r.sl) (uMin (uMin r.hi (r.b.v ||| r.b.m)) r.sh)))) 2)), (Value.bool (meetB r.b (sAlike (uMax (uMax r.lo r.b.v) r.sl) (uMin (uMin r.hi (r.b.v ||| r.b.m)) r.sh))))]) (fun K hK => Meet_any r.b (sAlike (uMax (uMax r.lo r.b.v) r.sl) (uMin (uMin r.hi (r.b.v ||| r.b.m)) r.sh)) wa K hK) rfl hM85 hI
       ·obtain ⟨v7, hv7a, hv7b⟩ := hv 7 (by simp) (by kernel_rfl)
        have ev7 := hv7b.val rfl
        subst ev7
        exact potg_run rfl rfl (Value.tuple #[(Value.agg (cellsOf (nC (meetN r.b (sAlike (uMax (uMax r.lo r.b.v) r.sl) (uMin (uMin r.hi (r.b.v ||| r.b.m)) r.sh)))) 2)), (Value.bool (meetB r.b (sAlike (uMax (uMax r.lo r.b.v) r.sl) (uMin (uMin r.hi (r.b.v ||| r.b.m)) r.sh))))]) rfl (run_mv (x := (.tmp 80)) rfl _ (hv7a 80 rfl)) hM85 hI
       ·obtain ⟨v8, hv8a, hv8b⟩ := hv 8 (by simp) (by kernel_rfl)
        have ev8 := hv8b.val rfl
        subst ev8
        exact potg_run rfl rfl (Value.agg (cellsOf (nC (meetN r.b (sAlike (uMax (uMax r.lo r.b.v) r.sl) (uMin (uMin r.hi (r.b.v ||| r.b.m)) r.sh)))) 2)) rfl (run_ex (x := (.tmp 72)) rfl _ (hv8a 72 rfl) rfl) hM85 hI
       ·obtain ⟨v8, hv8a, hv8b⟩ := hv 8 (by simp) (by kernel_rfl)
        have ev8 := hv8b.val rfl
        subst ev8
        exact potg_run rfl rfl (Value.bool (meetB r.b (sAlike (uMax (uMax r.lo r.b.v) r.sl) (uMin (uMin r.hi (r.b.v ||| r.b.m)) r.sh)))) rfl (run_ex (x := (.tmp 72)) rfl _ (hv8a 72 rfl) rfl) hM85 hI
       ·exact potg_al rfl rfl rfl zeT rfl rfl hM85 hI
      ·intro vals w5_88_ hb5_88_ hF hG
       have e_88_0 := (hF 0 (by simp)).val rfl
       have e_88_1 := (hF 1 (by simp)).val rfl
       have e_88_2 := (hF 2 (by simp)).val rfl
       have e_88_3 := (hF 3 (by simp)).val rfl
       have e_88_4 := (hF 4 (by simp)).val rfl
       have e_88_5 := (hF 5 (by simp)).val rfl
       have e_88_6 := (hF 6 (by simp)).val rfl
       have e_88_7 := (hF 7 (by simp)).val rfl
       have e_88_8 := (hF 8 (by simp)).val rfl
       have e_88_9 := (hF 9 (by simp)).val rfl
       have e_88_10 := (hF 10 (by simp)).val rfl
       obtain ⟨b_88_11, l_88_11, e_88_11, h_88_11⟩ := (hF 11 (by simp)).al rfl rfl
       clear hF hG
       simp only [List.foldl_cons, List.foldl_nil, dstOf, List.getElem?_toArray, List.getElem?_cons_succ, List.getElem?_cons_zero, Option.bind_some, Act.put, List.setIfInBounds_toArray, List.set_cons_succ, List.set_cons_zero, e_88_0, e_88_1, e_88_2, e_88_3, e_88_4, e_88_5, e_88_6, e_88_7, e_88_8, e_88_9, e_88_10, e_88_11]
       clear e_88_0 e_88_1 e_88_2 e_88_3 e_88_4 e_88_5 e_88_6 e_88_7 e_88_8 e_88_9 e_88_10 e_88_11
       have k96 := k81.below hb5_88_ (by omega)
       have k97 := k82.below hb5_88_ (by omega)
       have lo98 := lo83.trans (hb5_88_.mono (by omega))
       clear k81 c90 c91 c92 c93 c94 c95 k82 lo83 hb5_88_
       refine wpAny_chain [12, 13] _ _ _ _ (by kernel_rfl) (by decide) ?_
       simp only [List.filterMap_cons, List.filterMap_nil, List.getElem?_toArray, List.getElem?_cons_succ, List.getElem?_cons_zero]
       refine wpl_store rfl 39 (.tmp 4) (.tmp 81) rfl b_88_11 2 (nC (meetN r.b (sAlike (uMax (uMax r.lo r.b.v) r.sl) (uMin (uMin r.hi (r.b.v ||| r.b.m)) r.sh)))) rfl rfl 39 _ h_88_11 szT (fun j _ => nC_one _ j) ?_
       intro xw99 t100 k101
       have k102 := k96.touch t100 (by omega)
       have k103 := k97.touch t100 (by omega)
       have lo104 := t100.below lo98 (by omega)
       clear h_88_11 k96 k97 lo98 t100
       refine wpl_run rfl (Value.bool (meetB r.b (sAlike (uMax (uMax r.lo r.b.v) r.sl) (uMin (uMin r.hi (r.b.v ||| r.b.m)) r.sh)))) _ (run_as (x := (.tmp 82)) rfl _ rfl) ?_; simp only [pA]
       refine ⟨rfl, b_88_11, (by simp only [pA]), k101, k102, k103, (by omega), lo104⟩
      ·intro vals w5_88_ hb5_88_ hF hG
       have e_88_0 := (hF 0 (by simp) (by omega)).val rfl
       have e_88_1 := (hF 1 (by simp) (by omega)).val rfl
       have e_88_2 := (hF 2 (by simp) (by omega)).val rfl
       have e_88_3 := (hF 3 (by simp) (by omega)).val rfl
       have e_88_4 := (hF 4 (by simp) (by omega)).val rfl
       have e_88_5 := (hF 5 (by simp) (by omega)).val rfl
       have e_88_6 := (hF 6 (by simp) (by omega)).val rfl
       have e_88_7 := (hF 7 (by simp) (by omega)).val rfl
       have e_88_8 := (hF 8 (by simp) (by omega)).val rfl
       have e_88_9 := (hF 9 (by simp) (by omega)).val rfl
       obtain ⟨b_88_11, l_88_11, e_88_11, h_88_11⟩ := (hF 11 (by simp) (by omega)).al rfl rfl
       clear hF hG
       rw [show (List.filter (fun j => !(j == 10)) [0, 1, 2, 3, 4, 5, 6, 7, 8, 9, 10, 11]) = [0, 1, 2, 3, 4, 5, 6, 7, 8, 9, 11] from rfl]
       simp only [List.foldl_cons, List.foldl_nil, dstOf, List.getElem?_toArray, List.getElem?_cons_succ, List.getElem?_cons_zero, Option.bind_some, Act.put, List.setIfInBounds_toArray, List.set_cons_succ, List.set_cons_zero, e_88_0, e_88_1, e_88_2, e_88_3, e_88_4, e_88_5, e_88_6, e_88_7, e_88_8, e_88_9, e_88_11]
       clear e_88_0 e_88_1 e_88_2 e_88_3 e_88_4 e_88_5 e_88_6 e_88_7 e_88_8 e_88_9 e_88_11
       have k96 := k81.below hb5_88_ (by omega)
       have k97 := k82.below hb5_88_ (by omega)
       have lo98 := lo83.trans (hb5_88_.mono (by omega))
       clear k81 c90 c91 c92 c93 c94 c95 k82 lo83 hb5_88_
       refine wpAny_fork 10 12 [12, 13] [10, 13] 2 _ _ _ (by kernel_rfl) (by kernel_rfl) ?_ ?_
       ·simp only [List.filterMap_cons, List.filterMap_nil, List.getElem?_toArray, List.getElem?_cons_succ, List.getElem?_cons_zero]
        refine wpl_run rfl (Value.bool (meetB r.b (sAlike (uMax (uMax r.lo r.b.v) r.sl) (uMin (uMin r.hi (r.b.v ||| r.b.m)) r.sh)))) _ (run_ex (x := (.tmp 72)) rfl _ rfl rfl) ?_; simp only [pA]
        refine wpl_store rfl 39 (.tmp 4) (.tmp 81) rfl b_88_11 2 (nC (meetN r.b (sAlike (uMax (uMax r.lo r.b.v) r.sl) (uMin (uMin r.hi (r.b.v ||| r.b.m)) r.sh)))) rfl rfl 39 _ h_88_11 szT (fun j _ => nC_one _ j) ?_
        intro xw99 t100 k101
        have k102 := k96.touch t100 (by omega)
        have k103 := k97.touch t100 (by omega)
        have lo104 := t100.below lo98 (by omega)
        clear h_88_11 k96 k97 lo98 t100
        refine wpl_run rfl (Value.bool (meetB r.b (sAlike (uMax (uMax r.lo r.b.v) r.sl) (uMin (uMin r.hi (r.b.v ||| r.b.m)) r.sh)))) _ (run_as (x := (.tmp 82)) rfl _ rfl) ?_; simp only [pA]
        refine ⟨rfl, b_88_11, (by simp only [pA]), k101, k102, k103, (by omega), lo104⟩
       ·simp only [List.filterMap_cons, List.filterMap_nil, List.getElem?_toArray, List.getElem?_cons_succ, List.getElem?_cons_zero]
        refine wpl_store rfl 39 (.tmp 4) (.tmp 81) rfl b_88_11 2 (nC (meetN r.b (sAlike (uMax (uMax r.lo r.b.v) r.sl) (uMin (uMin r.hi (r.b.v ||| r.b.m)) r.sh)))) rfl rfl 39 _ h_88_11 szT (fun j _ => nC_one _ j) ?_
        intro xw99 t100 k101
        have k102 := k96.touch t100 (by omega)
        have k103 := k97.touch t100 (by omega)
        have lo104 := t100.below lo98 (by omega)
        clear h_88_11 k96 k97 lo98 t100
        refine wpl_run rfl (Value.bool (meetB r.b (sAlike (uMax (uMax r.lo r.b.v) r.sl) (uMin (uMin r.hi (r.b.v ||| r.b.m)) r.sh)))) _ (run_ex (x := (.tmp 72)) rfl _ rfl rfl) ?_; simp only [pA]
        refine wpl_run rfl (Value.bool (meetB r.b (sAlike (uMax (uMax r.lo r.b.v) r.sl) (uMin (uMin r.hi (r.b.v ||| r.b.m)) r.sh)))) _ (run_as (x := (.tmp 82)) rfl _ rfl) ?_; simp only [pA]
        refine ⟨rfl, b_88_11, (by simp only [pA]), k101, k102, k103, (by omega), lo104⟩
     ·clear k81 k82 lo83
      rintro b_88_x xw93 ⟨k89, k90, k91, lb_88_x, lo92⟩
      try dsimp only
      try simp only [pA]
      obtain ⟨M94, hM94⟩ := sz_some xw93
      have lt_95 := k90.ltN hM94
      have lt_96 := k91.ltN hM94
      have lt_97 := k89.ltN hM94
      cases h5_ : (meetB r.b (sAlike (uMax (uMax r.lo r.b.v) r.sl) (uMin (uMin r.hi (r.b.v ||| r.b.m)) r.sh)))
      ·have H5_ := hid h5_
       clear h5_
       go_upto_region 9 with fail
       obtain ⟨c98, c99, c100, c101, c102, c103⟩ := r_cells5 k90
       refine wp_region_later1 (M94) ?_
       try simp only [pA]
       iterate 16 (go_big_quiet_step (fail))
       refine wpQuiet_nil (laterE hM94 ?_)
       intro xw104 M105 hbxw104 hM105 lM105
       have k106 := k90.below hbxw104 (by omega)
       have k107 := k91.below hbxw104 (by omega)
       have k108 := k89.below hbxw104 (by omega)
       have lo109 := lo92.trans (hbxw104.mono (by omega))
       clear k90 c98 c99 c100 c101 c102 c103 k91 k89 lo92 hbxw104
       go_upto_region 10 with fail
       refine wp_region_lit ?_
       try simp only [pA]
       change wpList _ _ _ ((_ :: []) ++ (_ :: _ :: [])) _ _
       refine wpList_prefix (C := fun w' => ∃ x : Later M105 xw104, w' = x.w') _ _ _ _ ⟨⟨_, Below.refl _ _⟩, rfl⟩ ?_
       refine later_val (fun q => run_bd 41 _ rfl (cellsOf (rC ⟨zeroN, 0#64, 0#64, 0#64, 0#64⟩) 6) (by kernel_rfl) q.w') (by rfl) ?_; simp only [pA]
       refine wpQuiet_nil (laterE hM105 ?_)
       intro xw110 M111 hbxw110 hM111 lM111
       have k112 := k106.below hbxw110 (by omega)
       have k113 := k107.below hbxw110 (by omega)
       have k114 := k108.below hbxw110 (by omega)
       have lo115 := lo109.trans (hbxw110.mono (by omega))
       clear k106 k107 k108 lo109 hbxw110
       refine wpl_store rfl 41 (.tmp 2) (.tmp 99) rfl (N + 1) 6 (rC ⟨zeroN, 0#64, 0#64, 0#64, 0#64⟩) rfl rfl 41 _ k113 szR (fun j _ => rC_one _ j) ?_
       intro xw116 t117 k118; try simp only [pA]
       have k119 := k112.touch t117 (by omega)
       have k120 := k114.touch t117 (by omega)
       have lo121 := t117.below lo115 (by omega)
       have h122 := t117.sz hM111
       clear k113 k112 k114 lo115 hM111 t117
       refine wpl_run rfl (Value.bool false) _ (run_as (x := (.const (.bool false))) rfl _ rfl) ?_; simp only [pA]
       obtain ⟨M123, hM123⟩ := sz_some xw116
       have lt_124 := k119.ltN hM123
       have lt_125 := k118.ltN hM123
       have lt_126 := k120.ltN hM123
       go_wp2_with fail
       refine post_rb rfl (N + 1) rfl k118 undR szR rfl rfl ?_
       exact ⟨by rw [ER.out]; first | rfl | (simp only [settleF, sT1, sT2, sT3, sT4, H1_.out, H2_.out, H3_.out, H4_.out, H5_.out, bB] <;> rfl), lo121⟩
      ·have H5_ := hid h5_
       clear h5_
       cases h6_ : (BitVec.ult (uMin (uMin r.hi (r.b.v ||| r.b.m)) r.sh) (uMax (uMax r.lo r.b.v) r.sl))
       ·have H6_ := hid h6_
        clear h6_
        cases h7_ : (BitVec.slt r.sh r.sl)
        ·have H7_ := hid h7_
         clear h7_
         go_upto_region 9 with fail
         obtain ⟨c98, c99, c100, c101, c102, c103⟩ := r_cells5 k90
         refine wp_region_later1 (M94) ?_
         try simp only [pA]
         iterate 4 (go_big_quiet_step (fail))
         refine later_c1 hM94 22 (.tmp 86) rfl rfl und64 rfl c100 (by rfl) ?_; simp only [pA]
         go_big_quiet_step (fail)
         refine later_c1 hM94 22 (.tmp 88) rfl rfl und64 rfl c101 (by rfl) ?_; simp only [pA]
         refine later_b (x := (.tmp 87)) (y := (.tmp 89)) rfl (BinRun.is H6_.out (bin_gtr _ (uMax (uMax r.lo r.b.v) r.sl) (uMin (uMin r.hi (r.b.v ||| r.b.m)) r.sh))) rfl rfl (by rfl) ?_; simp only [pA]
         iterate 3 (go_big_quiet_step (fail))
         refine later_c1 hM94 2 (.tmp 93) rfl rfl undI64 rfl c102 (by rfl) ?_; simp only [pA]
         go_big_quiet_step (fail)
         refine later_c1 hM94 2 (.tmp 95) rfl rfl undI64 rfl c103 (by rfl) ?_; simp only [pA]
         refine later_b (x := (.tmp 94)) (y := (.tmp 96)) rfl (BinRun.is H7_.out (bin_sgtr _ r.sl r.sh)) rfl rfl (by rfl) ?_; simp only [pA]
         go_big_quiet_step (fail)
         refine wpQuiet_nil (laterE hM94 ?_)
         intro xw104 M105 hbxw104 hM105 lM105
         have k106 := k90.below hbxw104 (by omega)
         have k107 := k91.below hbxw104 (by omega)
         have k108 := k89.below hbxw104 (by omega)
         have lo109 := lo92.trans (hbxw104.mono (by omega))
         clear k90 c98 c99 c100 c101 c102 c103 k91 k89 lo92 hbxw104
         go_upto_region 11 with fail
         refine wp_region_lit ?_
         try simp only [pA]
         refine wpl_run rfl (.agg (cellsOf (nC (meetN r.b (sAlike (uMax (uMax r.lo r.b.v) r.sl) (uMin (uMin r.hi (r.b.v ||| r.b.m)) r.sh)))) 2)) _ (run_rw 39 (.tmp 4) rfl b_88_x rfl 39 2 _ k108 undT szT) ?_; simp only [pA]
         refine wpl_run rfl (.pointer (some ⟨N, 0, none⟩)) xw104 (by kernel_rfl) ?_; simp only [pA]
         refine wpl_store_part rfl 39 (.tmp 101) (.tmp 100) rfl N 0 rfl 2 (nC (meetN r.b (sAlike (uMax (uMax r.lo r.b.v) r.sl) (uMin (uMin r.hi (r.b.v ||| r.b.m)) r.sh)))) rfl 41 6 _ k106 (by omega) szT (fun j _ => nC_one _ j) ?_
         intro xw110 t111 k112_; try simp only [pA]
         have k112 : Has xw110 N 41 6 (rC ⟨(meetN r.b (sAlike (uMax (uMax r.lo r.b.v) r.sl) (uMin (uMin r.hi (r.b.v ||| r.b.m)) r.sh))), (uMax (uMax r.lo r.b.v) r.sl), (uMin (uMin r.hi (r.b.v ||| r.b.m)) r.sh), r.sl, r.sh⟩) := k112_.congr (fun j hj => lay_bits _ _ _ _ _ _ j)
         have k113 := k107.touch t111 (by omega)
         have k114 := k108.touch t111 (by omega)
         have lo115 := t111.below lo109 (by omega)
         clear k106 k112_ k107 k108 lo109 t111
         obtain ⟨M116, hM116⟩ := sz_some xw110
         have lt_117 := k112.ltN hM116
         have lt_118 := k113.ltN hM116
         have lt_119 := k114.ltN hM116
         go_upto_region 12 with fail
         refine wp_region_lit ?_
         try simp only [pA]
         change wpList _ _ _ ((_ :: []) ++ (_ :: _ :: [])) _ _
         refine wpList_prefix (C := fun w' => ∃ x : Later M116 xw110, w' = x.w') _ _ _ _ ⟨⟨_, Below.refl _ _⟩, rfl⟩ ?_
         refine later_row hM116 41 (.tmp 1) rfl (N) rfl 41 6 _ k112 undR szR (by rfl) ?_; simp only [pA]
         refine wpQuiet_nil (laterE hM116 ?_)
         intro xw120 M121 hbxw120 hM121 lM121
         have k122 := k112.below hbxw120 (by omega)
         have k123 := k113.below hbxw120 (by omega)
         have k124 := k114.below hbxw120 (by omega)
         have lo125 := lo115.trans (hbxw120.mono (by omega))
         clear k112 k113 k114 lo115 hbxw120
         refine wpl_store rfl 41 (.tmp 2) (.tmp 102) rfl (N + 1) 6 (rC ⟨(meetN r.b (sAlike (uMax (uMax r.lo r.b.v) r.sl) (uMin (uMin r.hi (r.b.v ||| r.b.m)) r.sh))), (uMax (uMax r.lo r.b.v) r.sl), (uMin (uMin r.hi (r.b.v ||| r.b.m)) r.sh), r.sl, r.sh⟩) rfl rfl 41 _ k123 szR (fun j _ => rC_one _ j) ?_
         intro xw126 t127 k128; try simp only [pA]
         have k129 := k122.touch t127 (by omega)
         have k130 := k124.touch t127 (by omega)
         have lo131 := t127.below lo125 (by omega)
         have h132 := t127.sz hM121
         clear k123 k122 k124 lo125 hM121 t127
         refine wpl_run rfl (Value.bool true) _ (run_as (x := (.const (.bool true))) rfl _ rfl) ?_; simp only [pA]
         obtain ⟨M133, hM133⟩ := sz_some xw126
         have lt_134 := k129.ltN hM133
         have lt_135 := k128.ltN hM133
         have lt_136 := k130.ltN hM133
         go_wp2_with fail
         refine post_rb rfl (N + 1) rfl k128 undR szR rfl rfl ?_
         exact ⟨by rw [ER.out]; first | rfl | (simp only [settleF, sT1, sT2, sT3, sT4, H1_.out, H2_.out, H3_.out, H4_.out, H5_.out, H6_.out, H7_.out, bB] <;> rfl), lo131⟩
        ·have H7_ := hid h7_
         clear h7_
         go_upto_region 9 with fail
         obtain ⟨c98, c99, c100, c101, c102, c103⟩ := r_cells5 k90
         refine wp_region_later1 (M94) ?_
         try simp only [pA]
         iterate 4 (go_big_quiet_step (fail))
         refine later_c1 hM94 22 (.tmp 86) rfl rfl und64 rfl c100 (by rfl) ?_; simp only [pA]
         go_big_quiet_step (fail)
         refine later_c1 hM94 22 (.tmp 88) rfl rfl und64 rfl c101 (by rfl) ?_; simp only [pA]
         refine later_b (x := (.tmp 87)) (y := (.tmp 89)) rfl (BinRun.is H6_.out (bin_gtr _ (uMax (uMax r.lo r.b.v) r.sl) (uMin (uMin r.hi (r.b.v ||| r.b.m)) r.sh))) rfl rfl (by rfl) ?_; simp only [pA]
         iterate 3 (go_big_quiet_step (fail))
         refine later_c1 hM94 2 (.tmp 93) rfl rfl undI64 rfl c102 (by rfl) ?_; simp only [pA]
         go_big_quiet_step (fail)
         refine later_c1 hM94 2 (.tmp 95) rfl rfl undI64 rfl c103 (by rfl) ?_; simp only [pA]
         refine later_b (x := (.tmp 94)) (y := (.tmp 96)) rfl (BinRun.is H7_.out (bin_sgtr _ r.sl r.sh)) rfl rfl (by rfl) ?_; simp only [pA]
         go_big_quiet_step (fail)
         refine wpQuiet_nil (laterE hM94 ?_)
         intro xw104 M105 hbxw104 hM105 lM105
         have k106 := k90.below hbxw104 (by omega)
         have k107 := k91.below hbxw104 (by omega)
         have k108 := k89.below hbxw104 (by omega)
         have lo109 := lo92.trans (hbxw104.mono (by omega))
         clear k90 c98 c99 c100 c101 c102 c103 k91 k89 lo92 hbxw104
         go_upto_region 10 with fail
         refine wp_region_lit ?_
         try simp only [pA]
         change wpList _ _ _ ((_ :: []) ++ (_ :: _ :: [])) _ _
         refine wpList_prefix (C := fun w' => ∃ x : Later M105 xw104, w' = x.w') _ _ _ _ ⟨⟨_, Below.refl _ _⟩, rfl⟩ ?_
         refine later_val (fun q => run_bd 41 _ rfl (cellsOf (rC ⟨zeroN, 0#64, 0#64, 0#64, 0#64⟩) 6) (by kernel_rfl) q.w') (by rfl) ?_; simp only [pA]
         refine wpQuiet_nil (laterE hM105 ?_)
         intro xw110 M111 hbxw110 hM111 lM111
         have k112 := k106.below hbxw110 (by omega)
         have k113 := k107.below hbxw110 (by omega)
         have k114 := k108.below hbxw110 (by omega)
         have lo115 := lo109.trans (hbxw110.mono (by omega))
         clear k106 k107 k108 lo109 hbxw110
         refine wpl_store rfl 41 (.tmp 2) (.tmp 99) rfl (N + 1) 6 (rC ⟨zeroN, 0#64, 0#64, 0#64, 0#64⟩) rfl rfl 41 _ k113 szR (fun j _ => rC_one _ j) ?_
         intro xw116 t117 k118; try simp only [pA]
         have k119 := k112.touch t117 (by omega)
         have k120 := k114.touch t117 (by omega)
         have lo121 := t117.below lo115 (by omega)
         have h122 := t117.sz hM111
         clear k113 k112 k114 lo115 hM111 t117
         refine wpl_run rfl (Value.bool false) _ (run_as (x := (.const (.bool false))) rfl _ rfl) ?_; simp only [pA]
         obtain ⟨M123, hM123⟩ := sz_some xw116
         have lt_124 := k119.ltN hM123
         have lt_125 := k118.ltN hM123
         have lt_126 := k120.ltN hM123
         go_wp2_with fail
         refine post_rb rfl (N + 1) rfl k118 undR szR rfl rfl ?_
         exact ⟨by rw [ER.out]; first | rfl | (simp only [settleF, sT1, sT2, sT3, sT4, H1_.out, H2_.out, H3_.out, H4_.out, H5_.out, H6_.out, H7_.out, bB] <;> rfl), lo121⟩
       ·have H6_ := hid h6_
        clear h6_
        go_upto_region 9 with fail
        obtain ⟨c98, c99, c100, c101, c102, c103⟩ := r_cells5 k90
        refine wp_region_later1 (M94) ?_
        try simp only [pA]
        iterate 4 (go_big_quiet_step (fail))
        refine later_c1 hM94 22 (.tmp 86) rfl rfl und64 rfl c100 (by rfl) ?_; simp only [pA]
        go_big_quiet_step (fail)
        refine later_c1 hM94 22 (.tmp 88) rfl rfl und64 rfl c101 (by rfl) ?_; simp only [pA]
        refine later_b (x := (.tmp 87)) (y := (.tmp 89)) rfl (BinRun.is H6_.out (bin_gtr _ (uMax (uMax r.lo r.b.v) r.sl) (uMin (uMin r.hi (r.b.v ||| r.b.m)) r.sh))) rfl rfl (by rfl) ?_; simp only [pA]
        iterate 8 (go_big_quiet_step (fail))
        refine wpQuiet_nil (laterE hM94 ?_)
        intro xw104 M105 hbxw104 hM105 lM105
        have k106 := k90.below hbxw104 (by omega)
        have k107 := k91.below hbxw104 (by omega)
        have k108 := k89.below hbxw104 (by omega)
        have lo109 := lo92.trans (hbxw104.mono (by omega))
        clear k90 c98 c99 c100 c101 c102 c103 k91 k89 lo92 hbxw104
        go_upto_region 10 with fail
        refine wp_region_lit ?_
        try simp only [pA]
        change wpList _ _ _ ((_ :: []) ++ (_ :: _ :: [])) _ _
        refine wpList_prefix (C := fun w' => ∃ x : Later M105 xw104, w' = x.w') _ _ _ _ ⟨⟨_, Below.refl _ _⟩, rfl⟩ ?_
        refine later_val (fun q => run_bd 41 _ rfl (cellsOf (rC ⟨zeroN, 0#64, 0#64, 0#64, 0#64⟩) 6) (by kernel_rfl) q.w') (by rfl) ?_; simp only [pA]
        refine wpQuiet_nil (laterE hM105 ?_)
        intro xw110 M111 hbxw110 hM111 lM111
        have k112 := k106.below hbxw110 (by omega)
        have k113 := k107.below hbxw110 (by omega)
        have k114 := k108.below hbxw110 (by omega)
        have lo115 := lo109.trans (hbxw110.mono (by omega))
        clear k106 k107 k108 lo109 hbxw110
        refine wpl_store rfl 41 (.tmp 2) (.tmp 99) rfl (N + 1) 6 (rC ⟨zeroN, 0#64, 0#64, 0#64, 0#64⟩) rfl rfl 41 _ k113 szR (fun j _ => rC_one _ j) ?_
        intro xw116 t117 k118; try simp only [pA]
        have k119 := k112.touch t117 (by omega)
        have k120 := k114.touch t117 (by omega)
        have lo121 := t117.below lo115 (by omega)
        have h122 := t117.sz hM111
        clear k113 k112 k114 lo115 hM111 t117
        refine wpl_run rfl (Value.bool false) _ (run_as (x := (.const (.bool false))) rfl _ rfl) ?_; simp only [pA]
        obtain ⟨M123, hM123⟩ := sz_some xw116
        have lt_124 := k119.ltN hM123
        have lt_125 := k118.ltN hM123
        have lt_126 := k120.ltN hM123
        go_wp2_with fail
        refine post_rb rfl (N + 1) rfl k118 undR szR rfl rfl ?_
        exact ⟨by rw [ER.out]; first | rfl | (simp only [settleF, sT1, sT2, sT3, sT4, H1_.out, H2_.out, H3_.out, H4_.out, H5_.out, H6_.out, bB] <;> rfl), lo121⟩
   ·have H3_ := hid h3_
    clear h3_
    go_upto_region 6 with fail
    obtain ⟨c51, c52, c53, c54, c55, c56⟩ := r_cells5 k48
    refine wp_region_later1 (M47) ?_
    try simp only [pA]
    go_big_quiet_step (fail)
    refine later_c1 hM47 2 (.tmp 50) rfl rfl undI64 rfl c55 (by rfl) ?_; simp only [pA]
    refine later_b (x := (.tmp 51)) (y := (.const (.int .i64 0))) rfl (BinRun.is H3_.out (bin_sgeq _ r.sl 0#64)) rfl rfl (by rfl) ?_; simp only [pA]
    iterate 5 (go_big_quiet_step (fail))
    refine wpQuiet_nil (laterE hM47 ?_)
    intro xw57 M58 hbxw57 hM58 lM58
    have k59 := k48.below hbxw57 (by omega)
    have k60 := k49.below hbxw57 (by omega)
    have lo61 := lo50.trans (hbxw57.mono (by omega))
    clear k48 c51 c52 c53 c54 c55 c56 k49 lo50 hbxw57
    go_upto_region 7 with fail
    refine wp_region_lit ?_
    try simp only [pA]
    change wpList _ _ _ ((_ :: _ :: _ :: _ :: _ :: _ :: _ :: _ :: _ :: _ :: _ :: _ :: _ :: []) ++ (_ :: _ :: _ :: [])) _ _
    obtain ⟨c62, c63, c64, c65, c66, c67⟩ := r_cells5 k59
    refine wpList_prefix (C := fun w' => ∃ x : Later M58 xw57, w' = x.w') _ _ _ _ ⟨⟨_, Below.refl _ _⟩, rfl⟩ ?_
    go_big_quiet_step (fail)
    refine later_c1 hM58 22 (.tmp 58) rfl rfl und64 rfl c64 (by rfl) ?_; simp only [pA]
    go_big_quiet_step (fail)
    refine later_c1 hM58 2 (.tmp 60) rfl rfl undI64 rfl c66 (by rfl) ?_; simp only [pA]
    refine later_val (fun q => run_su (x := (.tmp 61)) rfl undI64 und64 rfl q.w') (by rfl) ?_; simp only [pA]
    refine later_val (fun qq => run_maxQ (x := (.tmp 59)) (y := (.tmp 62)) (p := (uMax r.lo r.b.v)) (q := r.sl) rfl rfl rfl qq.w') (by rfl) ?_; simp only [pA]
    go_big_quiet_step (fail)
    refine later_c1 hM58 22 (.tmp 64) rfl rfl und64 rfl c65 (by rfl) ?_; simp only [pA]
    go_big_quiet_step (fail)
    refine later_c1 hM58 2 (.tmp 66) rfl rfl undI64 rfl c67 (by rfl) ?_; simp only [pA]
    refine later_val (fun q => run_su (x := (.tmp 67)) rfl undI64 und64 rfl q.w') (by rfl) ?_; simp only [pA]
    refine later_val (fun qq => run_minQ (x := (.tmp 65)) (y := (.tmp 68)) (p := (uMin r.hi (r.b.v ||| r.b.m))) (q := r.sh) rfl rfl rfl qq.w') (by rfl) ?_; simp only [pA]
    go_big_quiet_step (fail)
    refine wpQuiet_nil (laterE hM58 ?_)
    intro xw68 M69 hbxw68 hM69 lM69
    have k70 := k59.below hbxw68 (by omega)
    have k71 := k60.below hbxw68 (by omega)
    have lo72 := lo61.trans (hbxw68.mono (by omega))
    clear k59 c62 c63 c64 c65 c66 c67 k60 lo61 hbxw68
    refine wpl_set rfl 22 (.tmp 70) (.tmp 63) rfl N 2 rfl _ rfl sz64 rfl rfl 41 6 _ k70 (by omega) ?_
    intro xw73 t74 k75_; try simp only [pA]
    have k75 : Has xw73 N 41 6 (rC ⟨r.b, (uMax (uMax r.lo r.b.v) r.sl), (uMin r.hi (r.b.v ||| r.b.m)), r.sl, r.sh⟩) := k75_.congr (fun j hj => set_lo _ _ j)
    have k76 := k71.touch t74 (by omega)
    have lo77 := t74.below lo72 (by omega)
    have h78 := t74.sz hM69
    clear k70 k75_ k71 lo72 hM69 t74
    refine wpl_run rfl (Value.pointer (some ⟨N, 3, none⟩)) _ (run_fa 41 (.tmp 1) 2 3 rfl rfl faR2) ?_; simp only [pA]
    refine wpl_set rfl 22 (.tmp 71) (.tmp 69) rfl N 3 rfl _ rfl sz64 rfl rfl 41 6 _ k75 (by omega) ?_
    intro xw79 t80 k81_; try simp only [pA]
    have k81 : Has xw79 N 41 6 (rC ⟨r.b, (uMax (uMax r.lo r.b.v) r.sl), (uMin (uMin r.hi (r.b.v ||| r.b.m)) r.sh), r.sl, r.sh⟩) := k81_.congr (fun j hj => set_hi _ _ j)
    have k82 := k76.touch t80 (by omega)
    have lo83 := t80.below lo77 (by omega)
    have h84 := t80.sz h78
    clear k75 k81_ k76 lo77 h78 t80
    obtain ⟨M85, hM85⟩ := sz_some xw79
    have lt_86 := k81.ltN hM85
    have lt_87 := k82.ltN hM85
    go_upto_region 8 with fail
    refine wp_mid (fun ac (x : Nat) => (((((((((((((ac.put (some 73) (Value.pointer (some ⟨N, 0, none⟩))).put (some 74) (Value.agg (cellsOf (nC r.b) 2))).put (some 75) (Value.pointer (some ⟨N, 2, none⟩))).put (some 76) (Q (uMax (uMax r.lo r.b.v) r.sl))).put (some 77) (Value.pointer (some ⟨N, 3, none⟩))).put (some 78) (Q (uMin (uMin r.hi (r.b.v ||| r.b.m)) r.sh))).put (some 79) (Value.agg (cellsOf (nC (sAlike (uMax (uMax r.lo r.b.v) r.sl) (uMin (uMin r.hi (r.b.v ||| r.b.m)) r.sh))) 2))).put (some 80) (Value.tuple #[(Value.agg (cellsOf (nC (meetN r.b (sAlike (uMax (uMax r.lo r.b.v) r.sl) (uMin (uMin r.hi (r.b.v ||| r.b.m)) r.sh)))) 2)), (Value.bool (meetB r.b (sAlike (uMax (uMax r.lo r.b.v) r.sl) (uMin (uMin r.hi (r.b.v ||| r.b.m)) r.sh))))])).put (some 72) (Value.tuple #[(Value.agg (cellsOf (nC (meetN r.b (sAlike (uMax (uMax r.lo r.b.v) r.sl) (uMin (uMin r.hi (r.b.v ||| r.b.m)) r.sh)))) 2)), (Value.bool (meetB r.b (sAlike (uMax (uMax r.lo r.b.v) r.sl) (uMin (uMin r.hi (r.b.v ||| r.b.m)) r.sh))))])).put (some 81) (Value.agg (cellsOf (nC (meetN r.b (sAlike (uMax (uMax r.lo r.b.v) r.sl) (uMin (uMin r.hi (r.b.v ||| r.b.m)) r.sh)))) 2))).put (some 82) (Value.bool (meetB r.b (sAlike (uMax (uMax r.lo r.b.v) r.sl) (uMin (uMin r.hi (r.b.v ||| r.b.m)) r.sh))))).put (some 4) (.pointer (some ⟨x, 0, none⟩))).put (some 5) (Value.bool (meetB r.b (sAlike (uMax (uMax r.lo r.b.v) r.sl) (uMin (uMin r.hi (r.b.v ||| r.b.m)) r.sh)))))) (fun x w' => Has w' x 39 2 (nC (meetN r.b (sAlike (uMax (uMax r.lo r.b.v) r.sl) (uMin (uMin r.hi (r.b.v ||| r.b.m)) r.sh)))) ∧ Has w' N 41 6 (rC ⟨r.b, (uMax (uMax r.lo r.b.v) r.sl), (uMin (uMin r.hi (r.b.v ||| r.b.m)) r.sh), r.sl, r.sh⟩) ∧ Has w' (N + 1) 41 6 (rC zeroR) ∧ M85 ≤ x ∧ Below N w w') ?_ ?_
    ·refine wp_region_any (by kernel_rfl) ?_
     replace k81 : Has xw79.drew N 41 6 (rC ⟨r.b, (uMax (uMax r.lo r.b.v) r.sl), (uMin (uMin r.hi (r.b.v ||| r.b.m)) r.sh), r.sl, r.sh⟩) := k81
     replace k82 : Has xw79.drew (N + 1) 41 6 (rC zeroR) := k82
     replace hM85 : Sz xw79.drew M85 := hM85
     replace lo83 : Below N w xw79.drew := lo83.drew
     change wpAny _ _ _ _ _ _ _ (World.drew _)
     generalize xw79.drew = xw89 at *
     obtain ⟨c90, c91, c92, c93, c94, c95⟩ := r_cells5 k81
     refine wpAny_potO (rem := [0, 1, 2, 3, 4, 5, 6, 7, 8, 9, 10, 11]) 10 (FG M85 (fun j => if j = 0 then some (Value.pointer (some ⟨N, 0, none⟩)) else if j = 1 then some (Value.agg (cellsOf (nC r.b) 2)) else if j = 2 then some (Value.pointer (some ⟨N, 2, none⟩)) else if j = 3 then some (Q (uMax (uMax r.lo r.b.v) r.sl)) else if j = 4 then some (Value.pointer (some ⟨N, 3, none⟩)) else if j = 5 then some (Q (uMin (uMin r.hi (r.b.v ||| r.b.m)) r.sh)) else if j = 6 then some (Value.agg (cellsOf (nC (sAlike (uMax (uMax r.lo r.b.v) r.sl) (uMin (uMin r.hi (r.b.v ||| r.b.m)) r.sh))) 2)) else if j = 7 then some (Value.tuple #[(Value.agg (cellsOf (nC (meetN r.b (sAlike (uMax (uMax r.lo r.b.v) r.sl) (uMin (uMin r.hi (r.b.v ||| r.b.m)) r.sh)))) 2)), (Value.bool (meetB r.b (sAlike (uMax (uMax r.lo r.b.v) r.sl) (uMin (uMin r.hi (r.b.v ||| r.b.m)) r.sh))))]) else if j = 8 then some (Value.tuple #[(Value.agg (cellsOf (nC (meetN r.b (sAlike (uMax (uMax r.lo r.b.v) r.sl) (uMin (uMin r.hi (r.b.v ||| r.b.m)) r.sh)))) 2)), (Value.bool (meetB r.b (sAlike (uMax (uMax r.lo r.b.v) r.sl) (uMin (uMin r.hi (r.b.v ||| r.b.m)) r.sh))))]) else if j = 9 then some (Value.agg (cellsOf (nC (meetN r.b (sAlike (uMax (uMax r.lo r.b.v) r.sl) (uMin (uMin r.hi (r.b.v ||| r.b.m)) r.sh)))) 2)) else if j = 10 then some (Value.bool (meetB r.b (sAlike (uMax (uMax r.lo r.b.v) r.sl) (uMin (uMin r.hi (r.b.v ||| r.b.m)) r.sh)))) else none) (fun j => (39, 2, nC zeroN))) (TwoN (fun j => if j = 0 then some (Value.pointer (some ⟨N, 0, none⟩)) else if j = 1 then some (Value.agg (cellsOf (nC r.b) 2)) else if j = 2 then some (Value.pointer (some ⟨N, 2, none⟩)) else if j = 3 then some (Q (uMax (uMax r.lo r.b.v) r.sl)) else if j = 4 then some (Value.pointer (some ⟨N, 3, none⟩)) else if j = 5 then some (Q (uMin (uMin r.hi (r.b.v ||| r.b.m)) r.sh)) else if j = 6 then some (Value.agg (cellsOf (nC (sAlike (uMax (uMax r.lo r.b.v) r.sl) (uMin (uMin r.hi (r.b.v ||| r.b.m)) r.sh))) 2)) else if j = 7 then some (Value.tuple #[(Value.agg (cellsOf (nC (meetN r.b (sAlike (uMax (uMax r.lo r.b.v) r.sl) (uMin (uMin r.hi (r.b.v ||| r.b.m)) r.sh)))) 2)), (Value.bool (meetB r.b (sAlike (uMax (uMax r.lo r.b.v) r.sl) (uMin (uMin r.hi (r.b.v ||| r.b.m)) r.sh))))]) else if j = 8 then some (Value.tuple #[(Value.agg (cellsOf (nC (meetN r.b (sAlike (uMax (uMax r.lo r.b.v) r.sl) (uMin (uMin r.hi (r.b.v ||| r.b.m)) r.sh)))) 2)), (Value.bool (meetB r.b (sAlike (uMax (uMax r.lo r.b.v) r.sl) (uMin (uMin r.hi (r.b.v ||| r.b.m)) r.sh))))]) else if j = 9 then some (Value.agg (cellsOf (nC (meetN r.b (sAlike (uMax (uMax r.lo r.b.v) r.sl) (uMin (uMin r.hi (r.b.v ||| r.b.m)) r.sh)))) 2)) else if j = 10 then some (Value.bool (meetB r.b (sAlike (uMax (uMax r.lo r.b.v) r.sl) (uMin (uMin r.hi (r.b.v ||| r.b.m)) r.sh)))) else none)) (Below M85 xw89) _ _ _ _ (by kernel_rfl) (size_dstG (by kernel_rfl)) (Below.refl _ _) ?_ ?_ ?_
     ·intro i hi ac wa hI ha hv
      simp only [List.mem_cons, List.not_mem_nil, or_false] at hi
      rcases hi with rfl | rfl | rfl | rfl | rfl | rfl | rfl | rfl | rfl | rfl | rfl | rfl
      ·exact potg_run rfl rfl (Value.pointer (some ⟨N, 0, none⟩)) rfl (run_fa 41 (.tmp 1) 0 0 rfl (ha 1 (not_dstG (by kernel_rfl))) faR0) hM85 hI
      ·obtain ⟨v0, hv0a, hv0b⟩ := hv 0 (by simp) (by kernel_rfl)
       have ev0 := hv0b.val rfl
       subst ev0
       exact potg_run rfl rfl (Value.agg (cellsOf (nC r.b) 2)) rfl (run_bits5 39 (.tmp 73) rfl N (hv0a 73 rfl) 41 (Has.below k81 hI (Has.ltN k81 hM85)) undT szT) hM85 hI
      ·exact potg_run rfl rfl (Value.pointer (some ⟨N, 2, none⟩)) rfl (run_fa 41 (.tmp 1) 1 2 rfl (ha 1 (not_dstG (by kernel_rfl))) faR1) hM85 hI
      ·obtain ⟨v2, hv2a, hv2b⟩ := hv 2 (by simp) (by kernel_rfl)
       have ev2 := hv2b.val rfl
       subst ev2
       exact potg_run rfl rfl (Q (uMax (uMax r.lo r.b.v) r.sl)) rfl (run_c1 22 (.tmp 75) rfl ⟨N, 2, none⟩ (hv2a 75 rfl) und64 rfl (keep_c hI hM85 c92)) hM85 hI
      ·exact potg_run rfl rfl (Value.pointer (some ⟨N, 3, none⟩)) rfl (run_fa 41 (.tmp 1) 2 3 rfl (ha 1 (not_dstG (by kernel_rfl))) faR2) hM85 hI
      ·obtain ⟨v4, hv4a, hv4b⟩ := hv 4 (by simp) (by kernel_rfl)
       have ev4 := hv4b.val rfl
       subst ev4
       exact potg_run rfl rfl (Q (uMin (uMin r.hi (r.b.v ||| r.b.m)) r.sh)) rfl (run_c1 22 (.tmp 77) rfl ⟨N, 3, none⟩ (hv4a 77 rfl) und64 rfl (keep_c hI hM85 c93)) hM85 hI
      ·obtain ⟨v3, hv3a, hv3b⟩ := hv 3 (by simp) (by kernel_rfl)
       have ev3 := hv3b.val rfl
       subst ev3
       obtain ⟨v5, hv5a, hv5b⟩ := hv 5 (by simp) (by kernel_rfl)
       have ev5 := hv5b.val rfl
       subst ev5
       exact potg_cl rfl rfl 61 _ _ rfl #[(Q (uMax (uMax r.lo r.b.v) r.sl)), (Q (uMin (uMin r.hi (r.b.v ||| r.b.m)) r.sh))] (by simp only [List.map_toArray, List.map_cons, List.map_nil, (show ac.eval (.tmp 76) = (Q (uMax (uMax r.lo r.b.v) r.sl)) from (hv3a 76 rfl)), (show ac.eval (.tmp 78) = (Q (uMin (uMin r.hi (r.b.v ||| r.b.m)) r.sh)) from (hv5a 78 rfl))] <;> rfl) (by kernel_rfl) (Value.agg (cellsOf (nC (sAlike (uMax (uMax r.lo r.b.v) r.sl) (uMin (uMin r.hi (r.b.v ||| r.b.m)) r.sh))) 2)) (fun K hK => Alike_any (uMax (uMax r.lo r.b.v) r.sl) (uMin (uMin r.hi (r.b.v ||| r.b.m)) r.sh) wa K hK) rfl hM85 hI
      ·obtain ⟨v1, hv1a, hv1b⟩ := hv 1 (by simp) (by kernel_rfl)
       have ev1 := hv1b.val rfl
       subst ev1
       obtain ⟨v6, hv6a, hv6b⟩ := hv 6 (by simp) (by kernel_rfl)
       have ev6 := hv6b.val rfl
       subst ev6
       exact potg_cl rfl rfl 60 _ _ rfl #[(Value.agg (cellsOf (nC r.b) 2)), (Value.agg (cellsOf (nC (sAlike (uMax (uMax r.lo r.b.v) r.sl) (uMin (uMin r.hi (r.b.v ||| r.b.m)) r.sh))) 2))] (by simp only [List.map_toArray, List.map_cons, List.map_nil, (show ac.eval (.tmp 74) = (Value.agg (cellsOf (nC r.b) 2)) from (hv1a 74 rfl)), (show ac.eval (.tmp 79) = (Value.agg (cellsOf (nC (sAlike (uMax (uMax r.lo r.b.v) r.sl) (uMin (uMin r.hi (r.b.v ||| r.b.m)) r.sh))) 2)) from (hv6a 79 rfl))] <;> rfl) (by kernel_rfl) (Value.tuple #[(Value.agg (cellsOf (nC (meetN r.b (sAlike (uMax (uMax r.lo r.b.v) r.sl) (uMin (uMin r.hi (r.b.v ||| r.b.m)) r.sh)))) 2)), (Value.bool (meetB r.b (sAlike (uMax (uMax r.lo r.b.v) r.sl) (uMin (uMin r.hi (r.b.v ||| r.b.m)) r.sh))))]) (fun K hK => Meet_any r.b (sAlike (uMax (uMax r.lo r.b.v) r.sl) (uMin (uMin r.hi (r.b.v ||| r.b.m)) r.sh)) wa K hK) rfl hM85 hI
      ·obtain ⟨v7, hv7a, hv7b⟩ := hv 7 (by simp) (by kernel_rfl)
       have ev7 := hv7b.val rfl
       subst ev7
       exact potg_run rfl rfl (Value.tuple #[(Value.agg (cellsOf (nC (meetN r.b (sAlike (uMax (uMax r.lo r.b.v) r.sl) (uMin (uMin r.hi (r.b.v ||| r.b.m)) r.sh)))) 2)), (Value.bool (meetB r.b (sAlike (uMax (uMax r.lo r.b.v) r.sl) (uMin (uMin r.hi (r.b.v ||| r.b.m)) r.sh))))]) rfl (run_mv (x := (.tmp 80)) rfl _ (hv7a 80 rfl)) hM85 hI
      ·obtain ⟨v8, hv8a, hv8b⟩ := hv 8 (by simp) (by kernel_rfl)
       have ev8 := hv8b.val rfl
       subst ev8
       exact potg_run rfl rfl (Value.agg (cellsOf (nC (meetN r.b (sAlike (uMax (uMax r.lo r.b.v) r.sl) (uMin (uMin r.hi (r.b.v ||| r.b.m)) r.sh)))) 2)) rfl (run_ex (x := (.tmp 72)) rfl _ (hv8a 72 rfl) rfl) hM85 hI
      ·obtain ⟨v8, hv8a, hv8b⟩ := hv 8 (by simp) (by kernel_rfl)
       have ev8 := hv8b.val rfl
       subst ev8
       exact potg_run rfl rfl (Value.bool (meetB r.b (sAlike (uMax (uMax r.lo r.b.v) r.sl) (uMin (uMin r.hi (r.b.v ||| r.b.m)) r.sh)))) rfl (run_ex (x := (.tmp 72)) rfl _ (hv8a 72 rfl) rfl) hM85 hI
      ·exact potg_al rfl rfl rfl zeT rfl rfl hM85 hI
     ·intro vals w5_88_ hb5_88_ hF hG
      have e_88_0 := (hF 0 (by simp)).val rfl
      have e_88_1 := (hF 1 (by simp)).val rfl
      have e_88_2 := (hF 2 (by simp)).val rfl
      have e_88_3 := (hF 3 (by simp)).val rfl
      have e_88_4 := (hF 4 (by simp)).val rfl
      have e_88_5 := (hF 5 (by simp)).val rfl
      have e_88_6 := (hF 6 (by simp)).val rfl
      have e_88_7 := (hF 7 (by simp)).val rfl
      have e_88_8 := (hF 8 (by simp)).val rfl
      have e_88_9 := (hF 9 (by simp)).val rfl
      have e_88_10 := (hF 10 (by simp)).val rfl
      obtain ⟨b_88_11, l_88_11, e_88_11, h_88_11⟩ := (hF 11 (by simp)).al rfl rfl
      clear hF hG
      simp only [List.foldl_cons, List.foldl_nil, dstOf, List.getElem?_toArray, List.getElem?_cons_succ, List.getElem?_cons_zero, Option.bind_some, Act.put, List.setIfInBounds_toArray, List.set_cons_succ, List.set_cons_zero, e_88_0, e_88_1, e_88_2, e_88_3, e_88_4, e_88_5, e_88_6, e_88_7, e_88_8, e_88_9, e_88_10, e_88_11]
      clear e_88_0 e_88_1 e_88_2 e_88_3 e_88_4 e_88_5 e_88_6 e_88_7 e_88_8 e_88_9 e_88_10 e_88_11
      have k96 := k81.below hb5_88_ (by omega)
      have k97 := k82.below hb5_88_ (by omega)
      have lo98 := lo83.trans (hb5_88_.mono (by omega))
      clear k81 c90 c91 c92 c93 c94 c95 k82 lo83 hb5_88_
      refine wpAny_chain [12, 13] _ _ _ _ (by kernel_rfl) (by decide) ?_
      simp only [List.filterMap_cons, List.filterMap_nil, List.getElem?_toArray, List.getElem?_cons_succ, List.getElem?_cons_zero]
      refine wpl_store rfl 39 (.tmp 4) (.tmp 81) rfl b_88_11 2 (nC (meetN r.b (sAlike (uMax (uMax r.lo r.b.v) r.sl) (uMin (uMin r.hi (r.b.v ||| r.b.m)) r.sh)))) rfl rfl 39 _ h_88_11 szT (fun j _ => nC_one _ j) ?_
      intro xw99 t100 k101
      have k102 := k96.touch t100 (by omega)
      have k103 := k97.touch t100 (by omega)
      have lo104 := t100.below lo98 (by omega)
      clear h_88_11 k96 k97 lo98 t100
      refine wpl_run rfl (Value.bool (meetB r.b (sAlike (uMax (uMax r.lo r.b.v) r.sl) (uMin (uMin r.hi (r.b.v ||| r.b.m)) r.sh)))) _ (run_as (x := (.tmp 82)) rfl _ rfl) ?_; simp only [pA]
      refine ⟨rfl, b_88_11, (by simp only [pA]), k101, k102, k103, (by omega), lo104⟩
     ·intro vals w5_88_ hb5_88_ hF hG
      have e_88_0 := (hF 0 (by simp) (by omega)).val rfl
      have e_88_1 := (hF 1 (by simp) (by omega)).val rfl
      have e_88_2 := (hF 2 (by simp) (by omega)).val rfl
      have e_88_3 := (hF 3 (by simp) (by omega)).val rfl
      have e_88_4 := (hF 4 (by simp) (by omega)).val rfl
      have e_88_5 := (hF 5 (by simp) (by omega)).val rfl
      have e_88_6 := (hF 6 (by simp) (by omega)).val rfl
      have e_88_7 := (hF 7 (by simp) (by omega)).val rfl
      have e_88_8 := (hF 8 (by simp) (by omega)).val rfl
      have e_88_9 := (hF 9 (by simp) (by omega)).val rfl
      obtain ⟨b_88_11, l_88_11, e_88_11, h_88_11⟩ := (hF 11 (by simp) (by omega)).al rfl rfl
      clear hF hG
      rw [show (List.filter (fun j => !(j == 10)) [0, 1, 2, 3, 4, 5, 6, 7, 8, 9, 10, 11]) = [0, 1, 2, 3, 4, 5, 6, 7, 8, 9, 11] from rfl]
      simp only [List.foldl_cons, List.foldl_nil, dstOf, List.getElem?_toArray, List.getElem?_cons_succ, List.getElem?_cons_zero, Option.bind_some, Act.put, List.setIfInBounds_toArray, List.set_cons_succ, List.set_cons_zero, e_88_0, e_88_1, e_88_2, e_88_3, e_88_4, e_88_5, e_88_6, e_88_7, e_88_8, e_88_9, e_88_11]
      clear e_88_0 e_88_1 e_88_2 e_88_3 e_88_4 e_88_5 e_88_6 e_88_7 e_88_8 e_88_9 e_88_11
      have k96 := k81.below hb5_88_ (by omega)
      have k97 := k82.below hb5_88_ (by omega)
      have lo98 := lo83.trans (hb5_88_.mono (by omega))
      clear k81 c90 c91 c92 c93 c94 c95 k82 lo83 hb5_88_
      refine wpAny_fork 10 12 [12, 13] [10, 13] 2 _ _ _ (by kernel_rfl) (by kernel_rfl) ?_ ?_
      ·simp only [List.filterMap_cons, List.filterMap_nil, List.getElem?_toArray, List.getElem?_cons_succ, List.getElem?_cons_zero]
       refine wpl_run rfl (Value.bool (meetB r.b (sAlike (uMax (uMax r.lo r.b.v) r.sl) (uMin (uMin r.hi (r.b.v ||| r.b.m)) r.sh)))) _ (run_ex (x := (.tmp 72)) rfl _ rfl rfl) ?_; simp only [pA]
       refine wpl_store rfl 39 (.tmp 4) (.tmp 81) rfl b_88_11 2 (nC (meetN r.b (sAlike (uMax (uMax r.lo r.b.v) r.sl) (uMin (uMin r.hi (r.b.v ||| r.b.m)) r.sh)))) rfl rfl 39 _ h_88_11 szT (fun j _ => nC_one _ j) ?_
       intro xw99 t100 k101
       have k102 := k96.touch t100 (by omega)
       have k103 := k97.touch t100 (by omega)
       have lo104 := t100.below lo98 (by omega)
       clear h_88_11 k96 k97 lo98 t100
       refine wpl_run rfl (Value.bool (meetB r.b (sAlike (uMax (uMax r.lo r.b.v) r.sl) (uMin (uMin r.hi (r.b.v ||| r.b.m)) r.sh)))) _ (run_as (x := (.tmp 82)) rfl _ rfl) ?_; simp only [pA]
       refine ⟨rfl, b_88_11, (by simp only [pA]), k101, k102, k103, (by omega), lo104⟩
      ·simp only [List.filterMap_cons, List.filterMap_nil, List.getElem?_toArray, List.getElem?_cons_succ, List.getElem?_cons_zero]
       refine wpl_store rfl 39 (.tmp 4) (.tmp 81) rfl b_88_11 2 (nC (meetN r.b (sAlike (uMax (uMax r.lo r.b.v) r.sl) (uMin (uMin r.hi (r.b.v ||| r.b.m)) r.sh)))) rfl rfl 39 _ h_88_11 szT (fun j _ => nC_one _ j) ?_
       intro xw99 t100 k101
       have k102 := k96.touch t100 (by omega)
       have k103 := k97.touch t100 (by omega)
       have lo104 := t100.below lo98 (by omega)
       clear h_88_11 k96 k97 lo98 t100
       refine wpl_run rfl (Value.bool (meetB r.b (sAlike (uMax (uMax r.lo r.b.v) r.sl) (uMin (uMin r.hi (r.b.v ||| r.b.m)) r.sh)))) _ (run_ex (x := (.tmp 72)) rfl _ rfl rfl) ?_; simp only [pA]
       refine wpl_run rfl (Value.bool (meetB r.b (sAlike (uMax (uMax r.lo r.b.v) r.sl) (uMin (uMin r.hi (r.b.v ||| r.b.m)) r.sh)))) _ (run_as (x := (.tmp 82)) rfl _ rfl) ?_; simp only [pA]
       refine ⟨rfl, b_88_11, (by simp only [pA]), k101, k102, k103, (by omega), lo104⟩
    ·clear k81 k82 lo83
     rintro b_88_x xw93 ⟨k89, k90, k91, lb_88_x, lo92⟩
     try dsimp only
     try simp only [pA]
     obtain ⟨M94, hM94⟩ := sz_some xw93
     have lt_95 := k90.ltN hM94
     have lt_96 := k91.ltN hM94
     have lt_97 := k89.ltN hM94
     cases h4_ : (meetB r.b (sAlike (uMax (uMax r.lo r.b.v) r.sl) (uMin (uMin r.hi (r.b.v ||| r.b.m)) r.sh)))
     ·have H4_ := hid h4_
      clear h4_
      go_upto_region 9 with fail
      obtain ⟨c98, c99, c100, c101, c102, c103⟩ := r_cells5 k90
      refine wp_region_later1 (M94) ?_
      try simp only [pA]
      iterate 16 (go_big_quiet_step (fail))
      refine wpQuiet_nil (laterE hM94 ?_)
      intro xw104 M105 hbxw104 hM105 lM105
      have k106 := k90.below hbxw104 (by omega)
      have k107 := k91.below hbxw104 (by omega)
      have k108 := k89.below hbxw104 (by omega)
      have lo109 := lo92.trans (hbxw104.mono (by omega))
      clear k90 c98 c99 c100 c101 c102 c103 k91 k89 lo92 hbxw104
      go_upto_region 10 with fail
      refine wp_region_lit ?_
      try simp only [pA]
      change wpList _ _ _ ((_ :: []) ++ (_ :: _ :: [])) _ _
      refine wpList_prefix (C := fun w' => ∃ x : Later M105 xw104, w' = x.w') _ _ _ _ ⟨⟨_, Below.refl _ _⟩, rfl⟩ ?_
      refine later_val (fun q => run_bd 41 _ rfl (cellsOf (rC ⟨zeroN, 0#64, 0#64, 0#64, 0#64⟩) 6) (by kernel_rfl) q.w') (by rfl) ?_; simp only [pA]
      refine wpQuiet_nil (laterE hM105 ?_)
      intro xw110 M111 hbxw110 hM111 lM111
      have k112 := k106.below hbxw110 (by omega)
      have k113 := k107.below hbxw110 (by omega)
      have k114 := k108.below hbxw110 (by omega)
      have lo115 := lo109.trans (hbxw110.mono (by omega))
      clear k106 k107 k108 lo109 hbxw110
      refine wpl_store rfl 41 (.tmp 2) (.tmp 99) rfl (N + 1) 6 (rC ⟨zeroN, 0#64, 0#64, 0#64, 0#64⟩) rfl rfl 41 _ k113 szR (fun j _ => rC_one _ j) ?_
      intro xw116 t117 k118; try simp only [pA]
      have k119 := k112.touch t117 (by omega)
      have k120 := k114.touch t117 (by omega)
      have lo121 := t117.below lo115 (by omega)
      have h122 := t117.sz hM111
      clear k113 k112 k114 lo115 hM111 t117
      refine wpl_run rfl (Value.bool false) _ (run_as (x := (.const (.bool false))) rfl _ rfl) ?_; simp only [pA]
      obtain ⟨M123, hM123⟩ := sz_some xw116
      have lt_124 := k119.ltN hM123
      have lt_125 := k118.ltN hM123
      have lt_126 := k120.ltN hM123
      go_wp2_with fail
      refine post_rb rfl (N + 1) rfl k118 undR szR rfl rfl ?_
      exact ⟨by rw [ER.out]; first | rfl | (simp only [settleF, sT1, sT2, sT3, sT4, H1_.out, H2_.out, H3_.out, H4_.out, bB] <;> rfl), lo121⟩
     ·have H4_ := hid h4_
      clear h4_
      cases h5_ : (BitVec.ult (uMin (uMin r.hi (r.b.v ||| r.b.m)) r.sh) (uMax (uMax r.lo r.b.v) r.sl))
      ·have H5_ := hid h5_
       clear h5_
       cases h6_ : (BitVec.slt r.sh r.sl)
       ·have H6_ := hid h6_
        clear h6_
        go_upto_region 9 with fail
        obtain ⟨c98, c99, c100, c101, c102, c103⟩ := r_cells5 k90
        refine wp_region_later1 (M94) ?_
        try simp only [pA]
        iterate 4 (go_big_quiet_step (fail))
        refine later_c1 hM94 22 (.tmp 86) rfl rfl und64 rfl c100 (by rfl) ?_; simp only [pA]
        go_big_quiet_step (fail)
        refine later_c1 hM94 22 (.tmp 88) rfl rfl und64 rfl c101 (by rfl) ?_; simp only [pA]
        refine later_b (x := (.tmp 87)) (y := (.tmp 89)) rfl (BinRun.is H5_.out (bin_gtr _ (uMax (uMax r.lo r.b.v) r.sl) (uMin (uMin r.hi (r.b.v ||| r.b.m)) r.sh))) rfl rfl (by rfl) ?_; simp only [pA]
        iterate 3 (go_big_quiet_step (fail))
        refine later_c1 hM94 2 (.tmp 93) rfl rfl undI64 rfl c102 (by rfl) ?_; simp only [pA]
        go_big_quiet_step (fail)
        refine later_c1 hM94 2 (.tmp 95) rfl rfl undI64 rfl c103 (by rfl) ?_; simp only [pA]
        refine later_b (x := (.tmp 94)) (y := (.tmp 96)) rfl (BinRun.is H6_.out (bin_sgtr _ r.sl r.sh)) rfl rfl (by rfl) ?_; simp only [pA]
        go_big_quiet_step (fail)
        refine wpQuiet_nil (laterE hM94 ?_)
        intro xw104 M105 hbxw104 hM105 lM105
        have k106 := k90.below hbxw104 (by omega)
        have k107 := k91.below hbxw104 (by omega)
        have k108 := k89.below hbxw104 (by omega)
        have lo109 := lo92.trans (hbxw104.mono (by omega))
        clear k90 c98 c99 c100 c101 c102 c103 k91 k89 lo92 hbxw104
        go_upto_region 11 with fail
        refine wp_region_lit ?_
        try simp only [pA]
        refine wpl_run rfl (.agg (cellsOf (nC (meetN r.b (sAlike (uMax (uMax r.lo r.b.v) r.sl) (uMin (uMin r.hi (r.b.v ||| r.b.m)) r.sh)))) 2)) _ (run_rw 39 (.tmp 4) rfl b_88_x rfl 39 2 _ k108 undT szT) ?_; simp only [pA]
        refine wpl_run rfl (.pointer (some ⟨N, 0, none⟩)) xw104 (by kernel_rfl) ?_; simp only [pA]
        refine wpl_store_part rfl 39 (.tmp 101) (.tmp 100) rfl N 0 rfl 2 (nC (meetN r.b (sAlike (uMax (uMax r.lo r.b.v) r.sl) (uMin (uMin r.hi (r.b.v ||| r.b.m)) r.sh)))) rfl 41 6 _ k106 (by omega) szT (fun j _ => nC_one _ j) ?_
        intro xw110 t111 k112_; try simp only [pA]
        have k112 : Has xw110 N 41 6 (rC ⟨(meetN r.b (sAlike (uMax (uMax r.lo r.b.v) r.sl) (uMin (uMin r.hi (r.b.v ||| r.b.m)) r.sh))), (uMax (uMax r.lo r.b.v) r.sl), (uMin (uMin r.hi (r.b.v ||| r.b.m)) r.sh), r.sl, r.sh⟩) := k112_.congr (fun j hj => lay_bits _ _ _ _ _ _ j)
        have k113 := k107.touch t111 (by omega)
        have k114 := k108.touch t111 (by omega)
        have lo115 := t111.below lo109 (by omega)
        clear k106 k112_ k107 k108 lo109 t111
        obtain ⟨M116, hM116⟩ := sz_some xw110
        have lt_117 := k112.ltN hM116
        have lt_118 := k113.ltN hM116
        have lt_119 := k114.ltN hM116
        go_upto_region 12 with fail
        refine wp_region_lit ?_
        try simp only [pA]
        change wpList _ _ _ ((_ :: []) ++ (_ :: _ :: [])) _ _
        refine wpList_prefix (C := fun w' => ∃ x : Later M116 xw110, w' = x.w') _ _ _ _ ⟨⟨_, Below.refl _ _⟩, rfl⟩ ?_
        refine later_row hM116 41 (.tmp 1) rfl (N) rfl 41 6 _ k112 undR szR (by rfl) ?_; simp only [pA]
        refine wpQuiet_nil (laterE hM116 ?_)
        intro xw120 M121 hbxw120 hM121 lM121
        have k122 := k112.below hbxw120 (by omega)
        have k123 := k113.below hbxw120 (by omega)
        have k124 := k114.below hbxw120 (by omega)
        have lo125 := lo115.trans (hbxw120.mono (by omega))
        clear k112 k113 k114 lo115 hbxw120
        refine wpl_store rfl 41 (.tmp 2) (.tmp 102) rfl (N + 1) 6 (rC ⟨(meetN r.b (sAlike (uMax (uMax r.lo r.b.v) r.sl) (uMin (uMin r.hi (r.b.v ||| r.b.m)) r.sh))), (uMax (uMax r.lo r.b.v) r.sl), (uMin (uMin r.hi (r.b.v ||| r.b.m)) r.sh), r.sl, r.sh⟩) rfl rfl 41 _ k123 szR (fun j _ => rC_one _ j) ?_
        intro xw126 t127 k128; try simp only [pA]
        have k129 := k122.touch t127 (by omega)
        have k130 := k124.touch t127 (by omega)
        have lo131 := t127.below lo125 (by omega)
        have h132 := t127.sz hM121
        clear k123 k122 k124 lo125 hM121 t127
        refine wpl_run rfl (Value.bool true) _ (run_as (x := (.const (.bool true))) rfl _ rfl) ?_; simp only [pA]
        obtain ⟨M133, hM133⟩ := sz_some xw126
        have lt_134 := k129.ltN hM133
        have lt_135 := k128.ltN hM133
        have lt_136 := k130.ltN hM133
        go_wp2_with fail
        refine post_rb rfl (N + 1) rfl k128 undR szR rfl rfl ?_
        exact ⟨by rw [ER.out]; first | rfl | (simp only [settleF, sT1, sT2, sT3, sT4, H1_.out, H2_.out, H3_.out, H4_.out, H5_.out, H6_.out, bB] <;> rfl), lo131⟩
       ·have H6_ := hid h6_
        clear h6_
        go_upto_region 9 with fail
        obtain ⟨c98, c99, c100, c101, c102, c103⟩ := r_cells5 k90
        refine wp_region_later1 (M94) ?_
        try simp only [pA]
        iterate 4 (go_big_quiet_step (fail))
        refine later_c1 hM94 22 (.tmp 86) rfl rfl und64 rfl c100 (by rfl) ?_; simp only [pA]
        go_big_quiet_step (fail)
        refine later_c1 hM94 22 (.tmp 88) rfl rfl und64 rfl c101 (by rfl) ?_; simp only [pA]
        refine later_b (x := (.tmp 87)) (y := (.tmp 89)) rfl (BinRun.is H5_.out (bin_gtr _ (uMax (uMax r.lo r.b.v) r.sl) (uMin (uMin r.hi (r.b.v ||| r.b.m)) r.sh))) rfl rfl (by rfl) ?_; simp only [pA]
        iterate 3 (go_big_quiet_step (fail))
        refine later_c1 hM94 2 (.tmp 93) rfl rfl undI64 rfl c102 (by rfl) ?_; simp only [pA]
        go_big_quiet_step (fail)
        refine later_c1 hM94 2 (.tmp 95) rfl rfl undI64 rfl c103 (by rfl) ?_; simp only [pA]
        refine later_b (x := (.tmp 94)) (y := (.tmp 96)) rfl (BinRun.is H6_.out (bin_sgtr _ r.sl r.sh)) rfl rfl (by rfl) ?_; simp only [pA]
        go_big_quiet_step (fail)
        refine wpQuiet_nil (laterE hM94 ?_)
        intro xw104 M105 hbxw104 hM105 lM105
        have k106 := k90.below hbxw104 (by omega)
        have k107 := k91.below hbxw104 (by omega)
        have k108 := k89.below hbxw104 (by omega)
        have lo109 := lo92.trans (hbxw104.mono (by omega))
        clear k90 c98 c99 c100 c101 c102 c103 k91 k89 lo92 hbxw104
        go_upto_region 10 with fail
        refine wp_region_lit ?_
        try simp only [pA]
        change wpList _ _ _ ((_ :: []) ++ (_ :: _ :: [])) _ _
        refine wpList_prefix (C := fun w' => ∃ x : Later M105 xw104, w' = x.w') _ _ _ _ ⟨⟨_, Below.refl _ _⟩, rfl⟩ ?_
        refine later_val (fun q => run_bd 41 _ rfl (cellsOf (rC ⟨zeroN, 0#64, 0#64, 0#64, 0#64⟩) 6) (by kernel_rfl) q.w') (by rfl) ?_; simp only [pA]
        refine wpQuiet_nil (laterE hM105 ?_)
        intro xw110 M111 hbxw110 hM111 lM111
        have k112 := k106.below hbxw110 (by omega)
        have k113 := k107.below hbxw110 (by omega)
        have k114 := k108.below hbxw110 (by omega)
        have lo115 := lo109.trans (hbxw110.mono (by omega))
        clear k106 k107 k108 lo109 hbxw110
        refine wpl_store rfl 41 (.tmp 2) (.tmp 99) rfl (N + 1) 6 (rC ⟨zeroN, 0#64, 0#64, 0#64, 0#64⟩) rfl rfl 41 _ k113 szR (fun j _ => rC_one _ j) ?_
        intro xw116 t117 k118; try simp only [pA]
        have k119 := k112.touch t117 (by omega)
        have k120 := k114.touch t117 (by omega)
        have lo121 := t117.below lo115 (by omega)
        have h122 := t117.sz hM111
        clear k113 k112 k114 lo115 hM111 t117
        refine wpl_run rfl (Value.bool false) _ (run_as (x := (.const (.bool false))) rfl _ rfl) ?_; simp only [pA]
        obtain ⟨M123, hM123⟩ := sz_some xw116
        have lt_124 := k119.ltN hM123
        have lt_125 := k118.ltN hM123
        have lt_126 := k120.ltN hM123
        go_wp2_with fail
        refine post_rb rfl (N + 1) rfl k118 undR szR rfl rfl ?_
        exact ⟨by rw [ER.out]; first | rfl | (simp only [settleF, sT1, sT2, sT3, sT4, H1_.out, H2_.out, H3_.out, H4_.out, H5_.out, H6_.out, bB] <;> rfl), lo121⟩
      ·have H5_ := hid h5_
       clear h5_
       go_upto_region 9 with fail
       obtain ⟨c98, c99, c100, c101, c102, c103⟩ := r_cells5 k90
       refine wp_region_later1 (M94) ?_
       try simp only [pA]
       iterate 4 (go_big_quiet_step (fail))
       refine later_c1 hM94 22 (.tmp 86) rfl rfl und64 rfl c100 (by rfl) ?_; simp only [pA]
       go_big_quiet_step (fail)
       refine later_c1 hM94 22 (.tmp 88) rfl rfl und64 rfl c101 (by rfl) ?_; simp only [pA]
       refine later_b (x := (.tmp 87)) (y := (.tmp 89)) rfl (BinRun.is H5_.out (bin_gtr _ (uMax (uMax r.lo r.b.v) r.sl) (uMin (uMin r.hi (r.b.v ||| r.b.m)) r.sh))) rfl rfl (by rfl) ?_; simp only [pA]
       iterate 8 (go_big_quiet_step (fail))
       refine wpQuiet_nil (laterE hM94 ?_)
       intro xw104 M105 hbxw104 hM105 lM105
       have k106 := k90.below hbxw104 (by omega)
       have k107 := k91.below hbxw104 (by omega)
       have k108 := k89.below hbxw104 (by omega)
       have lo109 := lo92.trans (hbxw104.mono (by omega))
       clear k90 c98 c99 c100 c101 c102 c103 k91 k89 lo92 hbxw104
       go_upto_region 10 with fail
       refine wp_region_lit ?_
       try simp only [pA]
       change wpList _ _ _ ((_ :: []) ++ (_ :: _ :: [])) _ _
       refine wpList_prefix (C := fun w' => ∃ x : Later M105 xw104, w' = x.w') _ _ _ _ ⟨⟨_, Below.refl _ _⟩, rfl⟩ ?_
       refine later_val (fun q => run_bd 41 _ rfl (cellsOf (rC ⟨zeroN, 0#64, 0#64, 0#64, 0#64⟩) 6) (by kernel_rfl) q.w') (by rfl) ?_; simp only [pA]
       refine wpQuiet_nil (laterE hM105 ?_)
       intro xw110 M111 hbxw110 hM111 lM111
       have k112 := k106.below hbxw110 (by omega)
       have k113 := k107.below hbxw110 (by omega)
       have k114 := k108.below hbxw110 (by omega)
       have lo115 := lo109.trans (hbxw110.mono (by omega))
       clear k106 k107 k108 lo109 hbxw110
       refine wpl_store rfl 41 (.tmp 2) (.tmp 99) rfl (N + 1) 6 (rC ⟨zeroN, 0#64, 0#64, 0#64, 0#64⟩) rfl rfl 41 _ k113 szR (fun j _ => rC_one _ j) ?_
       intro xw116 t117 k118; try simp only [pA]
       have k119 := k112.touch t117 (by omega)
       have k120 := k114.touch t117 (by omega)
       have lo121 := t117.below lo115 (by omega)
       have h122 := t117.sz hM111
       clear k113 k112 k114 lo115 hM111 t117
       refine wpl_run rfl (Value.bool false) _ (run_as (x := (.const (.bool false))) rfl _ rfl) ?_; simp only [pA]
       obtain ⟨M123, hM123⟩ := sz_some xw116
       have lt_124 := k119.ltN hM123
       have lt_125 := k118.ltN hM123
       have lt_126 := k120.ltN hM123
       go_wp2_with fail
       refine post_rb rfl (N + 1) rfl k118 undR szR rfl rfl ?_
       exact ⟨by rw [ER.out]; first | rfl | (simp only [settleF, sT1, sT2, sT3, sT4, H1_.out, H2_.out, H3_.out, H4_.out, H5_.out, bB] <;> rfl), lo121⟩
  ·have H2_ := hid h2_
   clear h2_
   go_upto_region 4 with fail
   obtain ⟨c40, c41, c42, c43, c44, c45⟩ := r_cells5 k33
   refine wp_region_later1 (M37) ?_
   try simp only [pA]
   go_big_quiet_step (fail)
   refine later_c1 hM37 22 (.tmp 29) rfl rfl und64 rfl c42 (by rfl) ?_; simp only [pA]
   refine later_val (fun q => run_us (x := (.tmp 30)) rfl und64 undI64 rfl q.w') (by rfl) ?_; simp only [pA]
   go_big_quiet_step (fail)
   refine later_c1 hM37 22 (.tmp 32) rfl rfl und64 rfl c43 (by rfl) ?_; simp only [pA]
   refine later_val (fun q => run_us (x := (.tmp 33)) rfl und64 undI64 rfl q.w') (by rfl) ?_; simp only [pA]
   refine later_b (x := (.tmp 31)) (y := (.tmp 34)) rfl (BinRun.is H2_.out (bin_sleq _ (uMax r.lo r.b.v) (uMin r.hi (r.b.v ||| r.b.m)))) rfl rfl (by rfl) ?_; simp only [pA]
   refine wpQuiet_nil (laterE hM37 ?_)
   intro xw46 M47 hbxw46 hM47 lM47
   have k48 := k33.below hbxw46 (by omega)
   have k49 := k34.below hbxw46 (by omega)
   have lo50 := lo35.trans (hbxw46.mono (by omega))
   clear k33 c40 c41 c42 c43 c44 c45 k34 lo35 hbxw46
   go_upto_region 5 with fail
   refine wp_region_lit ?_
   try simp only [pA]
   change wpList _ _ _ ((_ :: _ :: _ :: _ :: _ :: _ :: _ :: _ :: _ :: _ :: _ :: _ :: _ :: []) ++ (_ :: _ :: _ :: [])) _ _
   obtain ⟨c51, c52, c53, c54, c55, c56⟩ := r_cells5 k48
   refine wpList_prefix (C := fun w' => ∃ x : Later M47 xw46, w' = x.w') _ _ _ _ ⟨⟨_, Below.refl _ _⟩, rfl⟩ ?_
   go_big_quiet_step (fail)
   refine later_c1 hM47 2 (.tmp 36) rfl rfl undI64 rfl c55 (by rfl) ?_; simp only [pA]
   go_big_quiet_step (fail)
   refine later_c1 hM47 22 (.tmp 38) rfl rfl und64 rfl c53 (by rfl) ?_; simp only [pA]
   refine later_val (fun q => run_us (x := (.tmp 39)) rfl und64 undI64 rfl q.w') (by rfl) ?_; simp only [pA]
   refine later_val (fun qq => run_maxS (x := (.tmp 37)) (y := (.tmp 40)) (p := r.sl) (q := (uMax r.lo r.b.v)) rfl rfl rfl qq.w') (by rfl) ?_; simp only [pA]
   go_big_quiet_step (fail)
   refine later_c1 hM47 2 (.tmp 42) rfl rfl undI64 rfl c56 (by rfl) ?_; simp only [pA]
   go_big_quiet_step (fail)
   refine later_c1 hM47 22 (.tmp 44) rfl rfl und64 rfl c54 (by rfl) ?_; simp only [pA]
   refine later_val (fun q => run_us (x := (.tmp 45)) rfl und64 undI64 rfl q.w') (by rfl) ?_; simp only [pA]
   refine later_val (fun qq => run_minS (x := (.tmp 43)) (y := (.tmp 46)) (p := r.sh) (q := (uMin r.hi (r.b.v ||| r.b.m))) rfl rfl rfl qq.w') (by rfl) ?_; simp only [pA]
   go_big_quiet_step (fail)
   refine wpQuiet_nil (laterE hM47 ?_)
   intro xw57 M58 hbxw57 hM58 lM58
   have k59 := k48.below hbxw57 (by omega)
   have k60 := k49.below hbxw57 (by omega)
   have lo61 := lo50.trans (hbxw57.mono (by omega))
   clear k48 c51 c52 c53 c54 c55 c56 k49 lo50 hbxw57
   refine wpl_set rfl 2 (.tmp 48) (.tmp 41) rfl N 4 rfl _ rfl szI rfl rfl 41 6 _ k59 (by omega) ?_
   intro xw62 t63 k64_; try simp only [pA]
   have k64 : Has xw62 N 41 6 (rC ⟨r.b, (uMax r.lo r.b.v), (uMin r.hi (r.b.v ||| r.b.m)), (sMax r.sl (uMax r.lo r.b.v)), r.sh⟩) := k64_.congr (fun j hj => set_sl _ _ j)
   have k65 := k60.touch t63 (by omega)
   have lo66 := t63.below lo61 (by omega)
   have h67 := t63.sz hM58
   clear k59 k64_ k60 lo61 hM58 t63
   refine wpl_run rfl (Value.pointer (some ⟨N, 5, none⟩)) _ (run_fa 41 (.tmp 1) 4 5 rfl rfl faR4) ?_; simp only [pA]
   refine wpl_set rfl 2 (.tmp 49) (.tmp 47) rfl N 5 rfl _ rfl szI rfl rfl 41 6 _ k64 (by omega) ?_
   intro xw68 t69 k70_; try simp only [pA]
   have k70 : Has xw68 N 41 6 (rC ⟨r.b, (uMax r.lo r.b.v), (uMin r.hi (r.b.v ||| r.b.m)), (sMax r.sl (uMax r.lo r.b.v)), (sMin r.sh (uMin r.hi (r.b.v ||| r.b.m)))⟩) := k70_.congr (fun j hj => set_sh _ _ j hj)
   have k71 := k65.touch t69 (by omega)
   have lo72 := t69.below lo66 (by omega)
   have h73 := t69.sz h67
   clear k64 k70_ k65 lo66 h67 t69
   obtain ⟨M74, hM74⟩ := sz_some xw68
   have lt_75 := k70.ltN hM74
   have lt_76 := k71.ltN hM74
   cases h3_ : (BitVec.sle 0#64 (sMax r.sl (uMax r.lo r.b.v)))
   ·have H3_ := hid h3_
    clear h3_
    cases h4_ : (BitVec.slt (sMin r.sh (uMin r.hi (r.b.v ||| r.b.m))) 0#64)
    ·have H4_ := hid h4_
     clear h4_
     go_upto_region 6 with fail
     obtain ⟨c77, c78, c79, c80, c81, c82⟩ := r_cells5 k70
     refine wp_region_later1 (M74) ?_
     try simp only [pA]
     go_big_quiet_step (fail)
     refine later_c1 hM74 2 (.tmp 50) rfl rfl undI64 rfl c81 (by rfl) ?_; simp only [pA]
     refine later_b (x := (.tmp 51)) (y := (.const (.int .i64 0))) rfl (BinRun.is H3_.out (bin_sgeq _ (sMax r.sl (uMax r.lo r.b.v)) 0#64)) rfl rfl (by rfl) ?_; simp only [pA]
     iterate 2 (go_big_quiet_step (fail))
     refine later_c1 hM74 2 (.tmp 54) rfl rfl undI64 rfl c82 (by rfl) ?_; simp only [pA]
     refine later_b (x := (.tmp 55)) (y := (.const (.int .i64 0))) rfl (BinRun.is H4_.out (bin_slss _ (sMin r.sh (uMin r.hi (r.b.v ||| r.b.m))) 0#64)) rfl rfl (by rfl) ?_; simp only [pA]
     go_big_quiet_step (fail)
     refine wpQuiet_nil (laterE hM74 ?_)
     intro xw83 M84 hbxw83 hM84 lM84
     have k85 := k70.below hbxw83 (by omega)
     have k86 := k71.below hbxw83 (by omega)
     have lo87 := lo72.trans (hbxw83.mono (by omega))
     clear k70 c77 c78 c79 c80 c81 c82 k71 lo72 hbxw83
     go_upto_region 8 with fail
     refine wp_mid (fun ac (x : Nat) => (((((((((((((ac.put (some 73) (Value.pointer (some ⟨N, 0, none⟩))).put (some 74) (Value.agg (cellsOf (nC r.b) 2))).put (some 75) (Value.pointer (some ⟨N, 2, none⟩))).put (some 76) (Q (uMax r.lo r.b.v))).put (some 77) (Value.pointer (some ⟨N, 3, none⟩))).put (some 78) (Q (uMin r.hi (r.b.v ||| r.b.m)))).put (some 79) (Value.agg (cellsOf (nC (sAlike (uMax r.lo r.b.v) (uMin r.hi (r.b.v ||| r.b.m)))) 2))).put (some 80) (Value.tuple #[(Value.agg (cellsOf (nC (meetN r.b (sAlike (uMax r.lo r.b.v) (uMin r.hi (r.b.v ||| r.b.m))))) 2)), (Value.bool (meetB r.b (sAlike (uMax r.lo r.b.v) (uMin r.hi (r.b.v ||| r.b.m)))))])).put (some 72) (Value.tuple #[(Value.agg (cellsOf (nC (meetN r.b (sAlike (uMax r.lo r.b.v) (uMin r.hi (r.b.v ||| r.b.m))))) 2)), (Value.bool (meetB r.b (sAlike (uMax r.lo r.b.v) (uMin r.hi (r.b.v ||| r.b.m)))))])).put (some 81) (Value.agg (cellsOf (nC (meetN r.b (sAlike (uMax r.lo r.b.v) (uMin r.hi (r.b.v ||| r.b.m))))) 2))).put (some 82) (Value.bool (meetB r.b (sAlike (uMax r.lo r.b.v) (uMin r.hi (r.b.v ||| r.b.m)))))).put (some 4) (.pointer (some ⟨x, 0, none⟩))).put (some 5) (Value.bool (meetB r.b (sAlike (uMax r.lo r.b.v) (uMin r.hi (r.b.v ||| r.b.m))))))) (fun x w' => Has w' x 39 2 (nC (meetN r.b (sAlike (uMax r.lo r.b.v) (uMin r.hi (r.b.v ||| r.b.m))))) ∧ Has w' N 41 6 (rC ⟨r.b, (uMax r.lo r.b.v), (uMin r.hi (r.b.v ||| r.b.m)), (sMax r.sl (uMax r.lo r.b.v)), (sMin r.sh (uMin r.hi (r.b.v ||| r.b.m)))⟩) ∧ Has w' (N + 1) 41 6 (rC zeroR) ∧ M84 ≤ x ∧ Below N w w') ?_ ?_
     ·refine wp_region_any (by kernel_rfl) ?_
      replace k85 : Has xw83.drew N 41 6 (rC ⟨r.b, (uMax r.lo r.b.v), (uMin r.hi (r.b.v ||| r.b.m)), (sMax r.sl (uMax r.lo r.b.v)), (sMin r.sh (uMin r.hi (r.b.v ||| r.b.m)))⟩) := k85
      replace k86 : Has xw83.drew (N + 1) 41 6 (rC zeroR) := k86
      replace hM84 : Sz xw83.drew M84 := hM84
      replace lo87 : Below N w xw83.drew := lo87.drew
      change wpAny _ _ _ _ _ _ _ (World.drew _)
      generalize xw83.drew = xw89 at *
      obtain ⟨c90, c91, c92, c93, c94, c95⟩ := r_cells5 k85
      refine wpAny_potO (rem := [0, 1, 2, 3, 4, 5, 6, 7, 8, 9, 10, 11]) 10 (FG M84 (fun j => if j = 0 then some (Value.pointer (some ⟨N, 0, none⟩)) else if j = 1 then some (Value.agg (cellsOf (nC r.b) 2)) else if j = 2 then some (Value.pointer (some ⟨N, 2, none⟩)) else if j = 3 then some (Q (uMax r.lo r.b.v)) else if j = 4 then some (Value.pointer (some ⟨N, 3, none⟩)) else if j = 5 then some (Q (uMin r.hi (r.b.v ||| r.b.m))) else if j = 6 then some (Value.agg (cellsOf (nC (sAlike (uMax r.lo r.b.v) (uMin r.hi (r.b.v ||| r.b.m)))) 2)) else if j = 7 then some (Value.tuple #[(Value.agg (cellsOf (nC (meetN r.b (sAlike (uMax r.lo r.b.v) (uMin r.hi (r.b.v ||| r.b.m))))) 2)), (Value.bool (meetB r.b (sAlike (uMax r.lo r.b.v) (uMin r.hi (r.b.v ||| r.b.m)))))]) else if j = 8 then some (Value.tuple #[(Value.agg (cellsOf (nC (meetN r.b (sAlike (uMax r.lo r.b.v) (uMin r.hi (r.b.v ||| r.b.m))))) 2)), (Value.bool (meetB r.b (sAlike (uMax r.lo r.b.v) (uMin r.hi (r.b.v ||| r.b.m)))))]) else if j = 9 then some (Value.agg (cellsOf (nC (meetN r.b (sAlike (uMax r.lo r.b.v) (uMin r.hi (r.b.v ||| r.b.m))))) 2)) else if j = 10 then some (Value.bool (meetB r.b (sAlike (uMax r.lo r.b.v) (uMin r.hi (r.b.v ||| r.b.m))))) else none) (fun j => (39, 2, nC zeroN))) (TwoN (fun j => if j = 0 then some (Value.pointer (some ⟨N, 0, none⟩)) else if j = 1 then some (Value.agg (cellsOf (nC r.b) 2)) else if j = 2 then some (Value.pointer (some ⟨N, 2, none⟩)) else if j = 3 then some (Q (uMax r.lo r.b.v)) else if j = 4 then some (Value.pointer (some ⟨N, 3, none⟩)) else if j = 5 then some (Q (uMin r.hi (r.b.v ||| r.b.m))) else if j = 6 then some (Value.agg (cellsOf (nC (sAlike (uMax r.lo r.b.v) (uMin r.hi (r.b.v ||| r.b.m)))) 2)) else if j = 7 then some (Value.tuple #[(Value.agg (cellsOf (nC (meetN r.b (sAlike (uMax r.lo r.b.v) (uMin r.hi (r.b.v ||| r.b.m))))) 2)), (Value.bool (meetB r.b (sAlike (uMax r.lo r.b.v) (uMin r.hi (r.b.v ||| r.b.m)))))]) else if j = 8 then some (Value.tuple #[(Value.agg (cellsOf (nC (meetN r.b (sAlike (uMax r.lo r.b.v) (uMin r.hi (r.b.v ||| r.b.m))))) 2)), (Value.bool (meetB r.b (sAlike (uMax r.lo r.b.v) (uMin r.hi (r.b.v ||| r.b.m)))))]) else if j = 9 then some (Value.agg (cellsOf (nC (meetN r.b (sAlike (uMax r.lo r.b.v) (uMin r.hi (r.b.v ||| r.b.m))))) 2)) else if j = 10 then some (Value.bool (meetB r.b (sAlike (uMax r.lo r.b.v) (uMin r.hi (r.b.v ||| r.b.m))))) else none)) (Below M84 xw89) _ _ _ _ (by kernel_rfl) (size_dstG (by kernel_rfl)) (Below.refl _ _) ?_ ?_ ?_
      ·intro i hi ac wa hI ha hv
       simp only [List.mem_cons, List.not_mem_nil, or_false] at hi
       rcases hi with rfl | rfl | rfl | rfl | rfl | rfl | rfl | rfl | rfl | rfl | rfl | rfl
       ·exact potg_run rfl rfl (Value.pointer (some ⟨N, 0, none⟩)) rfl (run_fa 41 (.tmp 1) 0 0 rfl (ha 1 (not_dstG (by kernel_rfl))) faR0) hM84 hI
       ·obtain ⟨v0, hv0a, hv0b⟩ := hv 0 (by simp) (by kernel_rfl)
        have ev0 := hv0b.val rfl
        subst ev0
        exact potg_run rfl rfl (Value.agg (cellsOf (nC r.b) 2)) rfl (run_bits5 39 (.tmp 73) rfl N (hv0a 73 rfl) 41 (Has.below k85 hI (Has.ltN k85 hM84)) undT szT) hM84 hI
       ·exact potg_run rfl rfl (Value.pointer (some ⟨N, 2, none⟩)) rfl (run_fa 41 (.tmp 1) 1 2 rfl (ha 1 (not_dstG (by kernel_rfl))) faR1) hM84 hI
       ·obtain ⟨v2, hv2a, hv2b⟩ := hv 2 (by simp) (by kernel_rfl)
        have ev2 := hv2b.val rfl
        subst ev2
        exact potg_run rfl rfl (Q (uMax r.lo r.b.v)) rfl (run_c1 22 (.tmp 75) rfl ⟨N, 2, none⟩ (hv2a 75 rfl) und64 rfl (keep_c hI hM84 c92)) hM84 hI
       ·exact potg_run rfl rfl (Value.pointer (some ⟨N, 3, none⟩)) rfl (run_fa 41 (.tmp 1) 2 3 rfl (ha 1 (not_dstG (by kernel_rfl))) faR2) hM84 hI
       ·obtain ⟨v4, hv4a, hv4b⟩ := hv 4 (by simp) (by kernel_rfl)
        have ev4 := hv4b.val rfl
        subst ev4
        exact potg_run rfl rfl (Q (uMin r.hi (r.b.v ||| r.b.m))) rfl (run_c1 22 (.tmp 77) rfl ⟨N, 3, none⟩ (hv4a 77 rfl) und64 rfl (keep_c hI hM84 c93)) hM84 hI
       ·obtain ⟨v3, hv3a, hv3b⟩ := hv 3 (by simp) (by kernel_rfl)
        have ev3 := hv3b.val rfl
        subst ev3
        obtain ⟨v5, hv5a, hv5b⟩ := hv 5 (by simp) (by kernel_rfl)
        have ev5 := hv5b.val rfl
        subst ev5
        exact potg_cl rfl rfl 61 _ _ rfl #[(Q (uMax r.lo r.b.v)), (Q (uMin r.hi (r.b.v ||| r.b.m)))] (by simp only [List.map_toArray, List.map_cons, List.map_nil, (show ac.eval (.tmp 76) = (Q (uMax r.lo r.b.v)) from (hv3a 76 rfl)), (show ac.eval (.tmp 78) = (Q (uMin r.hi (r.b.v ||| r.b.m))) from (hv5a 78 rfl))] <;> rfl) (by kernel_rfl) (Value.agg (cellsOf (nC (sAlike (uMax r.lo r.b.v) (uMin r.hi (r.b.v ||| r.b.m)))) 2)) (fun K hK => Alike_any (uMax r.lo r.b.v) (uMin r.hi (r.b.v ||| r.b.m)) wa K hK) rfl hM84 hI
       ·obtain ⟨v1, hv1a, hv1b⟩ := hv 1 (by simp) (by kernel_rfl)
        have ev1 := hv1b.val rfl
        subst ev1
        obtain ⟨v6, hv6a, hv6b⟩ := hv 6 (by simp) (by kernel_rfl)
        have ev6 := hv6b.val rfl
        subst ev6
        exact potg_cl rfl rfl 60 _ _ rfl #[(Value.agg (cellsOf (nC r.b) 2)), (Value.agg (cellsOf (nC (sAlike (uMax r.lo r.b.v) (uMin r.hi (r.b.v ||| r.b.m)))) 2))] (by simp only [List.map_toArray, List.map_cons, List.map_nil, (show ac.eval (.tmp 74) = (Value.agg (cellsOf (nC r.b) 2)) from (hv1a 74 rfl)), (show ac.eval (.tmp 79) = (Value.agg (cellsOf (nC (sAlike (uMax r.lo r.b.v) (uMin r.hi (r.b.v ||| r.b.m)))) 2)) from (hv6a 79 rfl))] <;> rfl) (by kernel_rfl) (Value.tuple #[(Value.agg (cellsOf (nC (meetN r.b (sAlike (uMax r.lo r.b.v) (uMin r.hi (r.b.v ||| r.b.m))))) 2)), (Value.bool (meetB r.b (sAlike (uMax r.lo r.b.v) (uMin r.hi (r.b.v ||| r.b.m)))))]) (fun K hK => Meet_any r.b (sAlike (uMax r.lo r.b.v) (uMin r.hi (r.b.v ||| r.b.m))) wa K hK) rfl hM84 hI
       ·obtain ⟨v7, hv7a, hv7b⟩ := hv 7 (by simp) (by kernel_rfl)
        have ev7 := hv7b.val rfl
        subst ev7
        exact potg_run rfl rfl (Value.tuple #[(Value.agg (cellsOf (nC (meetN r.b (sAlike (uMax r.lo r.b.v) (uMin r.hi (r.b.v ||| r.b.m))))) 2)), (Value.bool (meetB r.b (sAlike (uMax r.lo r.b.v) (uMin r.hi (r.b.v ||| r.b.m)))))]) rfl (run_mv (x := (.tmp 80)) rfl _ (hv7a 80 rfl)) hM84 hI
       ·obtain ⟨v8, hv8a, hv8b⟩ := hv 8 (by simp) (by kernel_rfl)
        have ev8 := hv8b.val rfl
        subst ev8
        exact potg_run rfl rfl (Value.agg (cellsOf (nC (meetN r.b (sAlike (uMax r.lo r.b.v) (uMin r.hi (r.b.v ||| r.b.m))))) 2)) rfl (run_ex (x := (.tmp 72)) rfl _ (hv8a 72 rfl) rfl) hM84 hI
       ·obtain ⟨v8, hv8a, hv8b⟩ := hv 8 (by simp) (by kernel_rfl)
        have ev8 := hv8b.val rfl
        subst ev8
        exact potg_run rfl rfl (Value.bool (meetB r.b (sAlike (uMax r.lo r.b.v) (uMin r.hi (r.b.v ||| r.b.m))))) rfl (run_ex (x := (.tmp 72)) rfl _ (hv8a 72 rfl) rfl) hM84 hI
       ·exact potg_al rfl rfl rfl zeT rfl rfl hM84 hI
      ·intro vals w5_88_ hb5_88_ hF hG
       have e_88_0 := (hF 0 (by simp)).val rfl
       have e_88_1 := (hF 1 (by simp)).val rfl
       have e_88_2 := (hF 2 (by simp)).val rfl
       have e_88_3 := (hF 3 (by simp)).val rfl
       have e_88_4 := (hF 4 (by simp)).val rfl
       have e_88_5 := (hF 5 (by simp)).val rfl
       have e_88_6 := (hF 6 (by simp)).val rfl
       have e_88_7 := (hF 7 (by simp)).val rfl
       have e_88_8 := (hF 8 (by simp)).val rfl
       have e_88_9 := (hF 9 (by simp)).val rfl
       have e_88_10 := (hF 10 (by simp)).val rfl
       obtain ⟨b_88_11, l_88_11, e_88_11, h_88_11⟩ := (hF 11 (by simp)).al rfl rfl
       clear hF hG
       simp only [List.foldl_cons, List.foldl_nil, dstOf, List.getElem?_toArray, List.getElem?_cons_succ, List.getElem?_cons_zero, Option.bind_some, Act.put, List.setIfInBounds_toArray, List.set_cons_succ, List.set_cons_zero, e_88_0, e_88_1, e_88_2, e_88_3, e_88_4, e_88_5, e_88_6, e_88_7, e_88_8, e_88_9, e_88_10, e_88_11]
       clear e_88_0 e_88_1 e_88_2 e_88_3 e_88_4 e_88_5 e_88_6 e_88_7 e_88_8 e_88_9 e_88_10 e_88_11
       have k96 := k85.below hb5_88_ (by omega)
       have k97 := k86.below hb5_88_ (by omega)
       have lo98 := lo87.trans (hb5_88_.mono (by omega))
       clear k85 c90 c91 c92 c93 c94 c95 k86 lo87 hb5_88_
       refine wpAny_chain [12, 13] _ _ _ _ (by kernel_rfl) (by decide) ?_
       simp only [List.filterMap_cons, List.filterMap_nil, List.getElem?_toArray, List.getElem?_cons_succ, List.getElem?_cons_zero]
       refine wpl_store rfl 39 (.tmp 4) (.tmp 81) rfl b_88_11 2 (nC (meetN r.b (sAlike (uMax r.lo r.b.v) (uMin r.hi (r.b.v ||| r.b.m))))) rfl rfl 39 _ h_88_11 szT (fun j _ => nC_one _ j) ?_
       intro xw99 t100 k101
       have k102 := k96.touch t100 (by omega)
       have k103 := k97.touch t100 (by omega)
       have lo104 := t100.below lo98 (by omega)
       clear h_88_11 k96 k97 lo98 t100
       refine wpl_run rfl (Value.bool (meetB r.b (sAlike (uMax r.lo r.b.v) (uMin r.hi (r.b.v ||| r.b.m))))) _ (run_as (x := (.tmp 82)) rfl _ rfl) ?_; simp only [pA]
       refine ⟨rfl, b_88_11, (by simp only [pA]), k101, k102, k103, (by omega), lo104⟩
      ·intro vals w5_88_ hb5_88_ hF hG
       have e_88_0 := (hF 0 (by simp) (by omega)).val rfl
       have e_88_1 := (hF 1 (by simp) (by omega)).val rfl
       have e_88_2 := (hF 2 (by simp) (by omega)).val rfl
       have e_88_3 := (hF 3 (by simp) (by omega)).val rfl
       have e_88_4 := (hF 4 (by simp) (by omega)).val rfl
       have e_88_5 := (hF 5 (by simp) (by omega)).val rfl
       have e_88_6 := (hF 6 (by simp) (by omega)).val rfl
       have e_88_7 := (hF 7 (by simp) (by omega)).val rfl
       have e_88_8 := (hF 8 (by simp) (by omega)).val rfl
       have e_88_9 := (hF 9 (by simp) (by omega)).val rfl
       obtain ⟨b_88_11, l_88_11, e_88_11, h_88_11⟩ := (hF 11 (by simp) (by omega)).al rfl rfl
       clear hF hG
       rw [show (List.filter (fun j => !(j == 10)) [0, 1, 2, 3, 4, 5, 6, 7, 8, 9, 10, 11]) = [0, 1, 2, 3, 4, 5, 6, 7, 8, 9, 11] from rfl]
       simp only [List.foldl_cons, List.foldl_nil, dstOf, List.getElem?_toArray, List.getElem?_cons_succ, List.getElem?_cons_zero, Option.bind_some, Act.put, List.setIfInBounds_toArray, List.set_cons_succ, List.set_cons_zero, e_88_0, e_88_1, e_88_2, e_88_3, e_88_4, e_88_5, e_88_6, e_88_7, e_88_8, e_88_9, e_88_11]
       clear e_88_0 e_88_1 e_88_2 e_88_3 e_88_4 e_88_5 e_88_6 e_88_7 e_88_8 e_88_9 e_88_11
       have k96 := k85.below hb5_88_ (by omega)
       have k97 := k86.below hb5_88_ (by omega)
       have lo98 := lo87.trans (hb5_88_.mono (by omega))
       clear k85 c90 c91 c92 c93 c94 c95 k86 lo87 hb5_88_
       refine wpAny_fork 10 12 [12, 13] [10, 13] 2 _ _ _ (by kernel_rfl) (by kernel_rfl) ?_ ?_
       ·simp only [List.filterMap_cons, List.filterMap_nil, List.getElem?_toArray, List.getElem?_cons_succ, List.getElem?_cons_zero]
        refine wpl_run rfl (Value.bool (meetB r.b (sAlike (uMax r.lo r.b.v) (uMin r.hi (r.b.v ||| r.b.m))))) _ (run_ex (x := (.tmp 72)) rfl _ rfl rfl) ?_; simp only [pA]
        refine wpl_store rfl 39 (.tmp 4) (.tmp 81) rfl b_88_11 2 (nC (meetN r.b (sAlike (uMax r.lo r.b.v) (uMin r.hi (r.b.v ||| r.b.m))))) rfl rfl 39 _ h_88_11 szT (fun j _ => nC_one _ j) ?_
        intro xw99 t100 k101
        have k102 := k96.touch t100 (by omega)
        have k103 := k97.touch t100 (by omega)
        have lo104 := t100.below lo98 (by omega)
        clear h_88_11 k96 k97 lo98 t100
        refine wpl_run rfl (Value.bool (meetB r.b (sAlike (uMax r.lo r.b.v) (uMin r.hi (r.b.v ||| r.b.m))))) _ (run_as (x := (.tmp 82)) rfl _ rfl) ?_; simp only [pA]
        refine ⟨rfl, b_88_11, (by simp only [pA]), k101, k102, k103, (by omega), lo104⟩
       ·simp only [List.filterMap_cons, List.filterMap_nil, List.getElem?_toArray, List.getElem?_cons_succ, List.getElem?_cons_zero]
        refine wpl_store rfl 39 (.tmp 4) (.tmp 81) rfl b_88_11 2 (nC (meetN r.b (sAlike (uMax r.lo r.b.v) (uMin r.hi (r.b.v ||| r.b.m))))) rfl rfl 39 _ h_88_11 szT (fun j _ => nC_one _ j) ?_
        intro xw99 t100 k101
        have k102 := k96.touch t100 (by omega)
        have k103 := k97.touch t100 (by omega)
        have lo104 := t100.below lo98 (by omega)
        clear h_88_11 k96 k97 lo98 t100
        refine wpl_run rfl (Value.bool (meetB r.b (sAlike (uMax r.lo r.b.v) (uMin r.hi (r.b.v ||| r.b.m))))) _ (run_ex (x := (.tmp 72)) rfl _ rfl rfl) ?_; simp only [pA]
        refine wpl_run rfl (Value.bool (meetB r.b (sAlike (uMax r.lo r.b.v) (uMin r.hi (r.b.v ||| r.b.m))))) _ (run_as (x := (.tmp 82)) rfl _ rfl) ?_; simp only [pA]
        refine ⟨rfl, b_88_11, (by simp only [pA]), k101, k102, k103, (by omega), lo104⟩
     ·clear k85 k86 lo87
      rintro b_88_x xw93 ⟨k89, k90, k91, lb_88_x, lo92⟩
      try dsimp only
      try simp only [pA]
      obtain ⟨M94, hM94⟩ := sz_some xw93
      have lt_95 := k90.ltN hM94
      have lt_96 := k91.ltN hM94
      have lt_97 := k89.ltN hM94
      cases h5_ : (meetB r.b (sAlike (uMax r.lo r.b.v) (uMin r.hi (r.b.v ||| r.b.m))))
      ·have H5_ := hid h5_
       clear h5_
       go_upto_region 9 with fail
       obtain ⟨c98, c99, c100, c101, c102, c103⟩ := r_cells5 k90
       refine wp_region_later1 (M94) ?_
       try simp only [pA]
       iterate 16 (go_big_quiet_step (fail))
       refine wpQuiet_nil (laterE hM94 ?_)
       intro xw104 M105 hbxw104 hM105 lM105
       have k106 := k90.below hbxw104 (by omega)
       have k107 := k91.below hbxw104 (by omega)
       have k108 := k89.below hbxw104 (by omega)
       have lo109 := lo92.trans (hbxw104.mono (by omega))
       clear k90 c98 c99 c100 c101 c102 c103 k91 k89 lo92 hbxw104
       go_upto_region 10 with fail
       refine wp_region_lit ?_
       try simp only [pA]
       change wpList _ _ _ ((_ :: []) ++ (_ :: _ :: [])) _ _
       refine wpList_prefix (C := fun w' => ∃ x : Later M105 xw104, w' = x.w') _ _ _ _ ⟨⟨_, Below.refl _ _⟩, rfl⟩ ?_
       refine later_val (fun q => run_bd 41 _ rfl (cellsOf (rC ⟨zeroN, 0#64, 0#64, 0#64, 0#64⟩) 6) (by kernel_rfl) q.w') (by rfl) ?_; simp only [pA]
       refine wpQuiet_nil (laterE hM105 ?_)
       intro xw110 M111 hbxw110 hM111 lM111
       have k112 := k106.below hbxw110 (by omega)
       have k113 := k107.below hbxw110 (by omega)
       have k114 := k108.below hbxw110 (by omega)
       have lo115 := lo109.trans (hbxw110.mono (by omega))
       clear k106 k107 k108 lo109 hbxw110
       refine wpl_store rfl 41 (.tmp 2) (.tmp 99) rfl (N + 1) 6 (rC ⟨zeroN, 0#64, 0#64, 0#64, 0#64⟩) rfl rfl 41 _ k113 szR (fun j _ => rC_one _ j) ?_
       intro xw116 t117 k118; try simp only [pA]
       have k119 := k112.touch t117 (by omega)
       have k120 := k114.touch t117 (by omega)
       have lo121 := t117.below lo115 (by omega)
       have h122 := t117.sz hM111
       clear k113 k112 k114 lo115 hM111 t117
       refine wpl_run rfl (Value.bool false) _ (run_as (x := (.const (.bool false))) rfl _ rfl) ?_; simp only [pA]
       obtain ⟨M123, hM123⟩ := sz_some xw116
       have lt_124 := k119.ltN hM123
       have lt_125 := k118.ltN hM123
       have lt_126 := k120.ltN hM123
       go_wp2_with fail
       refine post_rb rfl (N + 1) rfl k118 undR szR rfl rfl ?_
       exact ⟨by rw [ER.out]; first | rfl | (simp only [settleF, sT1, sT2, sT3, sT4, H1_.out, H2_.out, H3_.out, H4_.out, H5_.out, bB] <;> rfl), lo121⟩
      ·have H5_ := hid h5_
       clear h5_
       cases h6_ : (BitVec.ult (uMin r.hi (r.b.v ||| r.b.m)) (uMax r.lo r.b.v))
       ·have H6_ := hid h6_
        clear h6_
        cases h7_ : (BitVec.slt (sMin r.sh (uMin r.hi (r.b.v ||| r.b.m))) (sMax r.sl (uMax r.lo r.b.v)))
        ·have H7_ := hid h7_
         clear h7_
         go_upto_region 9 with fail
         obtain ⟨c98, c99, c100, c101, c102, c103⟩ := r_cells5 k90
         refine wp_region_later1 (M94) ?_
         try simp only [pA]
         iterate 4 (go_big_quiet_step (fail))
         refine later_c1 hM94 22 (.tmp 86) rfl rfl und64 rfl c100 (by rfl) ?_; simp only [pA]
         go_big_quiet_step (fail)
         refine later_c1 hM94 22 (.tmp 88) rfl rfl und64 rfl c101 (by rfl) ?_; simp only [pA]
         refine later_b (x := (.tmp 87)) (y := (.tmp 89)) rfl (BinRun.is H6_.out (bin_gtr _ (uMax r.lo r.b.v) (uMin r.hi (r.b.v ||| r.b.m)))) rfl rfl (by rfl) ?_; simp only [pA]
         iterate 3 (go_big_quiet_step (fail))
         refine later_c1 hM94 2 (.tmp 93) rfl rfl undI64 rfl c102 (by rfl) ?_; simp only [pA]
         go_big_quiet_step (fail)
         refine later_c1 hM94 2 (.tmp 95) rfl rfl undI64 rfl c103 (by rfl) ?_; simp only [pA]
         refine later_b (x := (.tmp 94)) (y := (.tmp 96)) rfl (BinRun.is H7_.out (bin_sgtr _ (sMax r.sl (uMax r.lo r.b.v)) (sMin r.sh (uMin r.hi (r.b.v ||| r.b.m))))) rfl rfl (by rfl) ?_; simp only [pA]
         go_big_quiet_step (fail)
         refine wpQuiet_nil (laterE hM94 ?_)
         intro xw104 M105 hbxw104 hM105 lM105
         have k106 := k90.below hbxw104 (by omega)
         have k107 := k91.below hbxw104 (by omega)
         have k108 := k89.below hbxw104 (by omega)
         have lo109 := lo92.trans (hbxw104.mono (by omega))
         clear k90 c98 c99 c100 c101 c102 c103 k91 k89 lo92 hbxw104
         go_upto_region 11 with fail
         refine wp_region_lit ?_
         try simp only [pA]
         refine wpl_run rfl (.agg (cellsOf (nC (meetN r.b (sAlike (uMax r.lo r.b.v) (uMin r.hi (r.b.v ||| r.b.m))))) 2)) _ (run_rw 39 (.tmp 4) rfl b_88_x rfl 39 2 _ k108 undT szT) ?_; simp only [pA]
         refine wpl_run rfl (.pointer (some ⟨N, 0, none⟩)) xw104 (by kernel_rfl) ?_; simp only [pA]
         refine wpl_store_part rfl 39 (.tmp 101) (.tmp 100) rfl N 0 rfl 2 (nC (meetN r.b (sAlike (uMax r.lo r.b.v) (uMin r.hi (r.b.v ||| r.b.m))))) rfl 41 6 _ k106 (by omega) szT (fun j _ => nC_one _ j) ?_
         intro xw110 t111 k112_; try simp only [pA]
         have k112 : Has xw110 N 41 6 (rC ⟨(meetN r.b (sAlike (uMax r.lo r.b.v) (uMin r.hi (r.b.v ||| r.b.m)))), (uMax r.lo r.b.v), (uMin r.hi (r.b.v ||| r.b.m)), (sMax r.sl (uMax r.lo r.b.v)), (sMin r.sh (uMin r.hi (r.b.v ||| r.b.m)))⟩) := k112_.congr (fun j hj => lay_bits _ _ _ _ _ _ j)
         have k113 := k107.touch t111 (by omega)
         have k114 := k108.touch t111 (by omega)
         have lo115 := t111.below lo109 (by omega)
         clear k106 k112_ k107 k108 lo109 t111
         obtain ⟨M116, hM116⟩ := sz_some xw110
         have lt_117 := k112.ltN hM116
         have lt_118 := k113.ltN hM116
         have lt_119 := k114.ltN hM116
         go_upto_region 12 with fail
         refine wp_region_lit ?_
         try simp only [pA]
         change wpList _ _ _ ((_ :: []) ++ (_ :: _ :: [])) _ _
         refine wpList_prefix (C := fun w' => ∃ x : Later M116 xw110, w' = x.w') _ _ _ _ ⟨⟨_, Below.refl _ _⟩, rfl⟩ ?_
         refine later_row hM116 41 (.tmp 1) rfl (N) rfl 41 6 _ k112 undR szR (by rfl) ?_; simp only [pA]
         refine wpQuiet_nil (laterE hM116 ?_)
         intro xw120 M121 hbxw120 hM121 lM121
         have k122 := k112.below hbxw120 (by omega)
         have k123 := k113.below hbxw120 (by omega)
         have k124 := k114.below hbxw120 (by omega)
         have lo125 := lo115.trans (hbxw120.mono (by omega))
         clear k112 k113 k114 lo115 hbxw120
         refine wpl_store rfl 41 (.tmp 2) (.tmp 102) rfl (N + 1) 6 (rC ⟨(meetN r.b (sAlike (uMax r.lo r.b.v) (uMin r.hi (r.b.v ||| r.b.m)))), (uMax r.lo r.b.v), (uMin r.hi (r.b.v ||| r.b.m)), (sMax r.sl (uMax r.lo r.b.v)), (sMin r.sh (uMin r.hi (r.b.v ||| r.b.m)))⟩) rfl rfl 41 _ k123 szR (fun j _ => rC_one _ j) ?_
         intro xw126 t127 k128; try simp only [pA]
         have k129 := k122.touch t127 (by omega)
         have k130 := k124.touch t127 (by omega)
         have lo131 := t127.below lo125 (by omega)
         have h132 := t127.sz hM121
         clear k123 k122 k124 lo125 hM121 t127
         refine wpl_run rfl (Value.bool true) _ (run_as (x := (.const (.bool true))) rfl _ rfl) ?_; simp only [pA]
         obtain ⟨M133, hM133⟩ := sz_some xw126
         have lt_134 := k129.ltN hM133
         have lt_135 := k128.ltN hM133
         have lt_136 := k130.ltN hM133
         go_wp2_with fail
         refine post_rb rfl (N + 1) rfl k128 undR szR rfl rfl ?_
         exact ⟨by rw [ER.out]; first | rfl | (simp only [settleF, sT1, sT2, sT3, sT4, H1_.out, H2_.out, H3_.out, H4_.out, H5_.out, H6_.out, H7_.out, bB] <;> rfl), lo131⟩
        ·have H7_ := hid h7_
         clear h7_
         go_upto_region 9 with fail
         obtain ⟨c98, c99, c100, c101, c102, c103⟩ := r_cells5 k90
         refine wp_region_later1 (M94) ?_
         try simp only [pA]
         iterate 4 (go_big_quiet_step (fail))
         refine later_c1 hM94 22 (.tmp 86) rfl rfl und64 rfl c100 (by rfl) ?_; simp only [pA]
         go_big_quiet_step (fail)
         refine later_c1 hM94 22 (.tmp 88) rfl rfl und64 rfl c101 (by rfl) ?_; simp only [pA]
         refine later_b (x := (.tmp 87)) (y := (.tmp 89)) rfl (BinRun.is H6_.out (bin_gtr _ (uMax r.lo r.b.v) (uMin r.hi (r.b.v ||| r.b.m)))) rfl rfl (by rfl) ?_; simp only [pA]
         iterate 3 (go_big_quiet_step (fail))
         refine later_c1 hM94 2 (.tmp 93) rfl rfl undI64 rfl c102 (by rfl) ?_; simp only [pA]
         go_big_quiet_step (fail)
         refine later_c1 hM94 2 (.tmp 95) rfl rfl undI64 rfl c103 (by rfl) ?_; simp only [pA]
         refine later_b (x := (.tmp 94)) (y := (.tmp 96)) rfl (BinRun.is H7_.out (bin_sgtr _ (sMax r.sl (uMax r.lo r.b.v)) (sMin r.sh (uMin r.hi (r.b.v ||| r.b.m))))) rfl rfl (by rfl) ?_; simp only [pA]
         go_big_quiet_step (fail)
         refine wpQuiet_nil (laterE hM94 ?_)
         intro xw104 M105 hbxw104 hM105 lM105
         have k106 := k90.below hbxw104 (by omega)
         have k107 := k91.below hbxw104 (by omega)
         have k108 := k89.below hbxw104 (by omega)
         have lo109 := lo92.trans (hbxw104.mono (by omega))
         clear k90 c98 c99 c100 c101 c102 c103 k91 k89 lo92 hbxw104
         go_upto_region 10 with fail
         refine wp_region_lit ?_
         try simp only [pA]
         change wpList _ _ _ ((_ :: []) ++ (_ :: _ :: [])) _ _
         refine wpList_prefix (C := fun w' => ∃ x : Later M105 xw104, w' = x.w') _ _ _ _ ⟨⟨_, Below.refl _ _⟩, rfl⟩ ?_
         refine later_val (fun q => run_bd 41 _ rfl (cellsOf (rC ⟨zeroN, 0#64, 0#64, 0#64, 0#64⟩) 6) (by kernel_rfl) q.w') (by rfl) ?_; simp only [pA]
         refine wpQuiet_nil (laterE hM105 ?_)
         intro xw110 M111 hbxw110 hM111 lM111
         have k112 := k106.below hbxw110 (by omega)
         have k113 := k107.below hbxw110 (by omega)
         have k114 := k108.below hbxw110 (by omega)
         have lo115 := lo109.trans (hbxw110.mono (by omega))
         clear k106 k107 k108 lo109 hbxw110
         refine wpl_store rfl 41 (.tmp 2) (.tmp 99) rfl (N + 1) 6 (rC ⟨zeroN, 0#64, 0#64, 0#64, 0#64⟩) rfl rfl 41 _ k113 szR (fun j _ => rC_one _ j) ?_
         intro xw116 t117 k118; try simp only [pA]
         have k119 := k112.touch t117 (by omega)
         have k120 := k114.touch t117 (by omega)
         have lo121 := t117.below lo115 (by omega)
         have h122 := t117.sz hM111
         clear k113 k112 k114 lo115 hM111 t117
         refine wpl_run rfl (Value.bool false) _ (run_as (x := (.const (.bool false))) rfl _ rfl) ?_; simp only [pA]
         obtain ⟨M123, hM123⟩ := sz_some xw116
         have lt_124 := k119.ltN hM123
         have lt_125 := k118.ltN hM123
         have lt_126 := k120.ltN hM123
         go_wp2_with fail
         refine post_rb rfl (N + 1) rfl k118 undR szR rfl rfl ?_
         exact ⟨by rw [ER.out]; first | rfl | (simp only [settleF, sT1, sT2, sT3, sT4, H1_.out, H2_.out, H3_.out, H4_.out, H5_.out, H6_.out, H7_.out, bB] <;> rfl), lo121⟩
       ·have H6_ := hid h6_
        clear h6_
        go_upto_region 9 with fail
        obtain ⟨c98, c99, c100, c101, c102, c103⟩ := r_cells5 k90
        refine wp_region_later1 (M94) ?_
        try simp only [pA]
        iterate 4 (go_big_quiet_step (fail))
        refine later_c1 hM94 22 (.tmp 86) rfl rfl und64 rfl c100 (by rfl) ?_; simp only [pA]
        go_big_quiet_step (fail)
        refine later_c1 hM94 22 (.tmp 88) rfl rfl und64 rfl c101 (by rfl) ?_; simp only [pA]
        refine later_b (x := (.tmp 87)) (y := (.tmp 89)) rfl (BinRun.is H6_.out (bin_gtr _ (uMax r.lo r.b.v) (uMin r.hi (r.b.v ||| r.b.m)))) rfl rfl (by rfl) ?_; simp only [pA]
        iterate 8 (go_big_quiet_step (fail))
        refine wpQuiet_nil (laterE hM94 ?_)
        intro xw104 M105 hbxw104 hM105 lM105
        have k106 := k90.below hbxw104 (by omega)
        have k107 := k91.below hbxw104 (by omega)
        have k108 := k89.below hbxw104 (by omega)
        have lo109 := lo92.trans (hbxw104.mono (by omega))
        clear k90 c98 c99 c100 c101 c102 c103 k91 k89 lo92 hbxw104
        go_upto_region 10 with fail
        refine wp_region_lit ?_
        try simp only [pA]
        change wpList _ _ _ ((_ :: []) ++ (_ :: _ :: [])) _ _
        refine wpList_prefix (C := fun w' => ∃ x : Later M105 xw104, w' = x.w') _ _ _ _ ⟨⟨_, Below.refl _ _⟩, rfl⟩ ?_
        refine later_val (fun q => run_bd 41 _ rfl (cellsOf (rC ⟨zeroN, 0#64, 0#64, 0#64, 0#64⟩) 6) (by kernel_rfl) q.w') (by rfl) ?_; simp only [pA]
        refine wpQuiet_nil (laterE hM105 ?_)
        intro xw110 M111 hbxw110 hM111 lM111
        have k112 := k106.below hbxw110 (by omega)
        have k113 := k107.below hbxw110 (by omega)
        have k114 := k108.below hbxw110 (by omega)
        have lo115 := lo109.trans (hbxw110.mono (by omega))
        clear k106 k107 k108 lo109 hbxw110
        refine wpl_store rfl 41 (.tmp 2) (.tmp 99) rfl (N + 1) 6 (rC ⟨zeroN, 0#64, 0#64, 0#64, 0#64⟩) rfl rfl 41 _ k113 szR (fun j _ => rC_one _ j) ?_
        intro xw116 t117 k118; try simp only [pA]
        have k119 := k112.touch t117 (by omega)
        have k120 := k114.touch t117 (by omega)
        have lo121 := t117.below lo115 (by omega)
        have h122 := t117.sz hM111
        clear k113 k112 k114 lo115 hM111 t117
        refine wpl_run rfl (Value.bool false) _ (run_as (x := (.const (.bool false))) rfl _ rfl) ?_; simp only [pA]
        obtain ⟨M123, hM123⟩ := sz_some xw116
        have lt_124 := k119.ltN hM123
        have lt_125 := k118.ltN hM123
        have lt_126 := k120.ltN hM123
        go_wp2_with fail
        refine post_rb rfl (N + 1) rfl k118 undR szR rfl rfl ?_
        exact ⟨by rw [ER.out]; first | rfl | (simp only [settleF, sT1, sT2, sT3, sT4, H1_.out, H2_.out, H3_.out, H4_.out, H5_.out, H6_.out, bB] <;> rfl), lo121⟩
    ·have H4_ := hid h4_
     clear h4_
     go_upto_region 6 with fail
     obtain ⟨c77, c78, c79, c80, c81, c82⟩ := r_cells5 k70
     refine wp_region_later1 (M74) ?_
     try simp only [pA]
     go_big_quiet_step (fail)
     refine later_c1 hM74 2 (.tmp 50) rfl rfl undI64 rfl c81 (by rfl) ?_; simp only [pA]
     refine later_b (x := (.tmp 51)) (y := (.const (.int .i64 0))) rfl (BinRun.is H3_.out (bin_sgeq _ (sMax r.sl (uMax r.lo r.b.v)) 0#64)) rfl rfl (by rfl) ?_; simp only [pA]
     iterate 2 (go_big_quiet_step (fail))
     refine later_c1 hM74 2 (.tmp 54) rfl rfl undI64 rfl c82 (by rfl) ?_; simp only [pA]
     refine later_b (x := (.tmp 55)) (y := (.const (.int .i64 0))) rfl (BinRun.is H4_.out (bin_slss _ (sMin r.sh (uMin r.hi (r.b.v ||| r.b.m))) 0#64)) rfl rfl (by rfl) ?_; simp only [pA]
     go_big_quiet_step (fail)
     refine wpQuiet_nil (laterE hM74 ?_)
     intro xw83 M84 hbxw83 hM84 lM84
     have k85 := k70.below hbxw83 (by omega)
     have k86 := k71.below hbxw83 (by omega)
     have lo87 := lo72.trans (hbxw83.mono (by omega))
     clear k70 c77 c78 c79 c80 c81 c82 k71 lo72 hbxw83
     go_upto_region 7 with fail
     refine wp_region_lit ?_
     try simp only [pA]
     change wpList _ _ _ ((_ :: _ :: _ :: _ :: _ :: _ :: _ :: _ :: _ :: _ :: _ :: _ :: _ :: []) ++ (_ :: _ :: _ :: [])) _ _
     obtain ⟨c88, c89, c90, c91, c92, c93⟩ := r_cells5 k85
     refine wpList_prefix (C := fun w' => ∃ x : Later M84 xw83, w' = x.w') _ _ _ _ ⟨⟨_, Below.refl _ _⟩, rfl⟩ ?_
     go_big_quiet_step (fail)
     refine later_c1 hM84 22 (.tmp 58) rfl rfl und64 rfl c90 (by rfl) ?_; simp only [pA]
     go_big_quiet_step (fail)
     refine later_c1 hM84 2 (.tmp 60) rfl rfl undI64 rfl c92 (by rfl) ?_; simp only [pA]
     refine later_val (fun q => run_su (x := (.tmp 61)) rfl undI64 und64 rfl q.w') (by rfl) ?_; simp only [pA]
     refine later_val (fun qq => run_maxQ (x := (.tmp 59)) (y := (.tmp 62)) (p := (uMax r.lo r.b.v)) (q := (sMax r.sl (uMax r.lo r.b.v))) rfl rfl rfl qq.w') (by rfl) ?_; simp only [pA]
     go_big_quiet_step (fail)
     refine later_c1 hM84 22 (.tmp 64) rfl rfl und64 rfl c91 (by rfl) ?_; simp only [pA]
     go_big_quiet_step (fail)
     refine later_c1 hM84 2 (.tmp 66) rfl rfl undI64 rfl c93 (by rfl) ?_; simp only [pA]
     refine later_val (fun q => run_su (x := (.tmp 67)) rfl undI64 und64 rfl q.w') (by rfl) ?_; simp only [pA]
     refine later_val (fun qq => run_minQ (x := (.tmp 65)) (y := (.tmp 68)) (p := (uMin r.hi (r.b.v ||| r.b.m))) (q := (sMin r.sh (uMin r.hi (r.b.v ||| r.b.m)))) rfl rfl rfl qq.w') (by rfl) ?_; simp only [pA]
     go_big_quiet_step (fail)
     refine wpQuiet_nil (laterE hM84 ?_)
     intro xw94 M95 hbxw94 hM95 lM95
     have k96 := k85.below hbxw94 (by omega)
     have k97 := k86.below hbxw94 (by omega)
     have lo98 := lo87.trans (hbxw94.mono (by omega))
     clear k85 c88 c89 c90 c91 c92 c93 k86 lo87 hbxw94
     refine wpl_set rfl 22 (.tmp 70) (.tmp 63) rfl N 2 rfl _ rfl sz64 rfl rfl 41 6 _ k96 (by omega) ?_
     intro xw99 t100 k101_; try simp only [pA]
     have k101 : Has xw99 N 41 6 (rC ⟨r.b, (uMax (uMax r.lo r.b.v) (sMax r.sl (uMax r.lo r.b.v))), (uMin r.hi (r.b.v ||| r.b.m)), (sMax r.sl (uMax r.lo r.b.v)), (sMin r.sh (uMin r.hi (r.b.v ||| r.b.m)))⟩) := k101_.congr (fun j hj => set_lo _ _ j)
     have k102 := k97.touch t100 (by omega)
     have lo103 := t100.below lo98 (by omega)
     have h104 := t100.sz hM95
     clear k96 k101_ k97 lo98 hM95 t100
     refine wpl_run rfl (Value.pointer (some ⟨N, 3, none⟩)) _ (run_fa 41 (.tmp 1) 2 3 rfl rfl faR2) ?_; simp only [pA]
     refine wpl_set rfl 22 (.tmp 71) (.tmp 69) rfl N 3 rfl _ rfl sz64 rfl rfl 41 6 _ k101 (by omega) ?_
     intro xw105 t106 k107_; try simp only [pA]
     have k107 : Has xw105 N 41 6 (rC ⟨r.b, (uMax (uMax r.lo r.b.v) (sMax r.sl (uMax r.lo r.b.v))), (uMin (uMin r.hi (r.b.v ||| r.b.m)) (sMin r.sh (uMin r.hi (r.b.v ||| r.b.m)))), (sMax r.sl (uMax r.lo r.b.v)), (sMin r.sh (uMin r.hi (r.b.v ||| r.b.m)))⟩) := k107_.congr (fun j hj => set_hi _ _ j)
     have k108 := k102.touch t106 (by omega)
     have lo109 := t106.below lo103 (by omega)
     have h110 := t106.sz h104
     clear k101 k107_ k102 lo103 h104 t106
     obtain ⟨M111, hM111⟩ := sz_some xw105
     have lt_112 := k107.ltN hM111
     have lt_113 := k108.ltN hM111
     go_upto_region 8 with fail
     refine wp_mid (fun ac (x : Nat) => (((((((((((((ac.put (some 73) (Value.pointer (some ⟨N, 0, none⟩))).put (some 74) (Value.agg (cellsOf (nC r.b) 2))).put (some 75) (Value.pointer (some ⟨N, 2, none⟩))).put (some 76) (Q (uMax (uMax r.lo r.b.v) (sMax r.sl (uMax r.lo r.b.v))))).put (some 77) (Value.pointer (some ⟨N, 3, none⟩))).put (some 78) (Q (uMin (uMin r.hi (r.b.v ||| r.b.m)) (sMin r.sh (uMin r.hi (r.b.v ||| r.b.m)))))).put (some 79) (Value.agg (cellsOf (nC (sAlike (uMax (uMax r.lo r.b.v) (sMax r.sl (uMax r.lo r.b.v))) (uMin (uMin r.hi (r.b.v ||| r.b.m)) (sMin r.sh (uMin r.hi (r.b.v ||| r.b.m)))))) 2))).put (some 80) (Value.tuple #[(Value.agg (cellsOf (nC (meetN r.b (sAlike (uMax (uMax r.lo r.b.v) (sMax r.sl (uMax r.lo r.b.v))) (uMin (uMin r.hi (r.b.v ||| r.b.m)) (sMin r.sh (uMin r.hi (r.b.v ||| r.b.m))))))) 2)), (Value.bool (meetB r.b (sAlike (uMax (uMax r.lo r.b.v) (sMax r.sl (uMax r.lo r.b.v))) (uMin (uMin r.hi (r.b.v ||| r.b.m)) (sMin r.sh (uMin r.hi (r.b.v ||| r.b.m)))))))])).put (some 72) (Value.tuple #[(Value.agg (cellsOf (nC (meetN r.b (sAlike (uMax (uMax r.lo r.b.v) (sMax r.sl (uMax r.lo r.b.v))) (uMin (uMin r.hi (r.b.v ||| r.b.m)) (sMin r.sh (uMin r.hi (r.b.v ||| r.b.m))))))) 2)), (Value.bool (meetB r.b (sAlike (uMax (uMax r.lo r.b.v) (sMax r.sl (uMax r.lo r.b.v))) (uMin (uMin r.hi (r.b.v ||| r.b.m)) (sMin r.sh (uMin r.hi (r.b.v ||| r.b.m)))))))])).put (some 81) (Value.agg (cellsOf (nC (meetN r.b (sAlike (uMax (uMax r.lo r.b.v) (sMax r.sl (uMax r.lo r.b.v))) (uMin (uMin r.hi (r.b.v ||| r.b.m)) (sMin r.sh (uMin r.hi (r.b.v ||| r.b.m))))))) 2))).put (some 82) (Value.bool (meetB r.b (sAlike (uMax (uMax r.lo r.b.v) (sMax r.sl (uMax r.lo r.b.v))) (uMin (uMin r.hi (r.b.v ||| r.b.m)) (sMin r.sh (uMin r.hi (r.b.v ||| r.b.m)))))))).put (some 4) (.pointer (some ⟨x, 0, none⟩))).put (some 5) (Value.bool (meetB r.b (sAlike (uMax (uMax r.lo r.b.v) (sMax r.sl (uMax r.lo r.b.v))) (uMin (uMin r.hi (r.b.v ||| r.b.m)) (sMin r.sh (uMin r.hi (r.b.v ||| r.b.m))))))))) (fun x w' => Has w' x 39 2 (nC (meetN r.b (sAlike (uMax (uMax r.lo r.b.v) (sMax r.sl (uMax r.lo r.b.v))) (uMin (uMin r.hi (r.b.v ||| r.b.m)) (sMin r.sh (uMin r.hi (r.b.v ||| r.b.m))))))) ∧ Has w' N 41 6 (rC ⟨r.b, (uMax (uMax r.lo r.b.v) (sMax r.sl (uMax r.lo r.b.v))), (uMin (uMin r.hi (r.b.v ||| r.b.m)) (sMin r.sh (uMin r.hi (r.b.v ||| r.b.m)))), (sMax r.sl (uMax r.lo r.b.v)), (sMin r.sh (uMin r.hi (r.b.v ||| r.b.m)))⟩) ∧ Has w' (N + 1) 41 6 (rC zeroR) ∧ M111 ≤ x ∧ Below N w w') ?_ ?_
     ·refine wp_region_any (by kernel_rfl) ?_
      replace k107 : Has xw105.drew N 41 6 (rC ⟨r.b, (uMax (uMax r.lo r.b.v) (sMax r.sl (uMax r.lo r.b.v))), (uMin (uMin r.hi (r.b.v ||| r.b.m)) (sMin r.sh (uMin r.hi (r.b.v ||| r.b.m)))), (sMax r.sl (uMax r.lo r.b.v)), (sMin r.sh (uMin r.hi (r.b.v ||| r.b.m)))⟩) := k107
      replace k108 : Has xw105.drew (N + 1) 41 6 (rC zeroR) := k108
      replace hM111 : Sz xw105.drew M111 := hM111
      replace lo109 : Below N w xw105.drew := lo109.drew
      change wpAny _ _ _ _ _ _ _ (World.drew _)
      generalize xw105.drew = xw115 at *
      obtain ⟨c116, c117, c118, c119, c120, c121⟩ := r_cells5 k107
      refine wpAny_potO (rem := [0, 1, 2, 3, 4, 5, 6, 7, 8, 9, 10, 11]) 10 (FG M111 (fun j => if j = 0 then some (Value.pointer (some ⟨N, 0, none⟩)) else if j = 1 then some (Value.agg (cellsOf (nC r.b) 2)) else if j = 2 then some (Value.pointer (some ⟨N, 2, none⟩)) else if j = 3 then some (Q (uMax (uMax r.lo r.b.v) (sMax r.sl (uMax r.lo r.b.v)))) else if j = 4 then some (Value.pointer (some ⟨N, 3, none⟩)) else if j = 5 then some (Q (uMin (uMin r.hi (r.b.v ||| r.b.m)) (sMin r.sh (uMin r.hi (r.b.v ||| r.b.m))))) else if j = 6 then some (Value.agg (cellsOf (nC (sAlike (uMax (uMax r.lo r.b.v) (sMax r.sl (uMax r.lo r.b.v))) (uMin (uMin r.hi (r.b.v ||| r.b.m)) (sMin r.sh (uMin r.hi (r.b.v ||| r.b.m)))))) 2)) else if j = 7 then some (Value.tuple #[(Value.agg (cellsOf (nC (meetN r.b (sAlike (uMax (uMax r.lo r.b.v) (sMax r.sl (uMax r.lo r.b.v))) (uMin (uMin r.hi (r.b.v ||| r.b.m)) (sMin r.sh (uMin r.hi (r.b.v ||| r.b.m))))))) 2)), (Value.bool (meetB r.b (sAlike (uMax (uMax r.lo r.b.v) (sMax r.sl (uMax r.lo r.b.v))) (uMin (uMin r.hi (r.b.v ||| r.b.m)) (sMin r.sh (uMin r.hi (r.b.v ||| r.b.m)))))))]) else if j = 8 then some (Value.tuple #[(Value.agg (cellsOf (nC (meetN r.b (sAlike (uMax (uMax r.lo r.b.v) (sMax r.sl (uMax r.lo r.b.v))) (uMin (uMin r.hi (r.b.v ||| r.b.m)) (sMin r.sh (uMin r.hi (r.b.v ||| r.b.m))))))) 2)), (Value.bool (meetB r.b (sAlike (uMax (uMax r.lo r.b.v) (sMax r.sl (uMax r.lo r.b.v))) (uMin (uMin r.hi (r.b.v ||| r.b.m)) (sMin r.sh (uMin r.hi (r.b.v ||| r.b.m)))))))]) else if j = 9 then some (Value.agg (cellsOf (nC (meetN r.b (sAlike (uMax (uMax r.lo r.b.v) (sMax r.sl (uMax r.lo r.b.v))) (uMin (uMin r.hi (r.b.v ||| r.b.m)) (sMin r.sh (uMin r.hi (r.b.v ||| r.b.m))))))) 2)) else if j = 10 then some (Value.bool (meetB r.b (sAlike (uMax (uMax r.lo r.b.v) (sMax r.sl (uMax r.lo r.b.v))) (uMin (uMin r.hi (r.b.v ||| r.b.m)) (sMin r.sh (uMin r.hi (r.b.v ||| r.b.m))))))) else none) (fun j => (39, 2, nC zeroN))) (TwoN (fun j => if j = 0 then some (Value.pointer (some ⟨N, 0, none⟩)) else if j = 1 then some (Value.agg (cellsOf (nC r.b) 2)) else if j = 2 then some (Value.pointer (some ⟨N, 2, none⟩)) else if j = 3 then some (Q (uMax (uMax r.lo r.b.v) (sMax r.sl (uMax r.lo r.b.v)))) else if j = 4 then some (Value.pointer (some ⟨N, 3, none⟩)) else if j = 5 then some (Q (uMin (uMin r.hi (r.b.v ||| r.b.m)) (sMin r.sh (uMin r.hi (r.b.v ||| r.b.m))))) else if j = 6 then some (Value.agg (cellsOf (nC (sAlike (uMax (uMax r.lo r.b.v) (sMax r.sl (uMax r.lo r.b.v))) (uMin (uMin r.hi (r.b.v ||| r.b.m)) (sMin r.sh (uMin r.hi (r.b.v ||| r.b.m)))))) 2)) else if j = 7 then some (Value.tuple #[(Value.agg (cellsOf (nC (meetN r.b (sAlike (uMax (uMax r.lo r.b.v) (sMax r.sl (uMax r.lo r.b.v))) (uMin (uMin r.hi (r.b.v ||| r.b.m)) (sMin r.sh (uMin r.hi (r.b.v ||| r.b.m))))))) 2)), (Value.bool (meetB r.b (sAlike (uMax (uMax r.lo r.b.v) (sMax r.sl (uMax r.lo r.b.v))) (uMin (uMin r.hi (r.b.v ||| r.b.m)) (sMin r.sh (uMin r.hi (r.b.v ||| r.b.m)))))))]) else if j = 8 then some (Value.tuple #[(Value.agg (cellsOf (nC (meetN r.b (sAlike (uMax (uMax r.lo r.b.v) (sMax r.sl (uMax r.lo r.b.v))) (uMin (uMin r.hi (r.b.v ||| r.b.m)) (sMin r.sh (uMin r.hi (r.b.v ||| r.b.m))))))) 2)), (Value.bool (meetB r.b (sAlike (uMax (uMax r.lo r.b.v) (sMax r.sl (uMax r.lo r.b.v))) (uMin (uMin r.hi (r.b.v ||| r.b.m)) (sMin r.sh (uMin r.hi (r.b.v ||| r.b.m)))))))]) else if j = 9 then some (Value.agg (cellsOf (nC (meetN r.b (sAlike (uMax (uMax r.lo r.b.v) (sMax r.sl (uMax r.lo r.b.v))) (uMin (uMin r.hi (r.b.v ||| r.b.m)) (sMin r.sh (uMin r.hi (r.b.v ||| r.b.m))))))) 2)) else if j = 10 then some (Value.bool (meetB r.b (sAlike (uMax (uMax r.lo r.b.v) (sMax r.sl (uMax r.lo r.b.v))) (uMin (uMin r.hi (r.b.v ||| r.b.m)) (sMin r.sh (uMin r.hi (r.b.v ||| r.b.m))))))) else none)) (Below M111 xw115) _ _ _ _ (by kernel_rfl) (size_dstG (by kernel_rfl)) (Below.refl _ _) ?_ ?_ ?_
      ·intro i hi ac wa hI ha hv
       simp only [List.mem_cons, List.not_mem_nil, or_false] at hi
       rcases hi with rfl | rfl | rfl | rfl | rfl | rfl | rfl | rfl | rfl | rfl | rfl | rfl
       ·exact potg_run rfl rfl (Value.pointer (some ⟨N, 0, none⟩)) rfl (run_fa 41 (.tmp 1) 0 0 rfl (ha 1 (not_dstG (by kernel_rfl))) faR0) hM111 hI
       ·obtain ⟨v0, hv0a, hv0b⟩ := hv 0 (by simp) (by kernel_rfl)
        have ev0 := hv0b.val rfl
        subst ev0
        exact potg_run rfl rfl (Value.agg (cellsOf (nC r.b) 2)) rfl (run_bits5 39 (.tmp 73) rfl N (hv0a 73 rfl) 41 (Has.below k107 hI (Has.ltN k107 hM111)) undT szT) hM111 hI
       ·exact potg_run rfl rfl (Value.pointer (some ⟨N, 2, none⟩)) rfl (run_fa 41 (.tmp 1) 1 2 rfl (ha 1 (not_dstG (by kernel_rfl))) faR1) hM111 hI
       ·obtain ⟨v2, hv2a, hv2b⟩ := hv 2 (by simp) (by kernel_rfl)
        have ev2 := hv2b.val rfl
        subst ev2
        exact potg_run rfl rfl (Q (uMax (uMax r.lo r.b.v) (sMax r.sl (uMax r.lo r.b.v)))) rfl (run_c1 22 (.tmp 75) rfl ⟨N, 2, none⟩ (hv2a 75 rfl) und64 rfl (keep_c hI hM111 c118)) hM111 hI
       ·exact potg_run rfl rfl (Value.pointer (some ⟨N, 3, none⟩)) rfl (run_fa 41 (.tmp 1) 2 3 rfl (ha 1 (not_dstG (by kernel_rfl))) faR2) hM111 hI
       ·obtain ⟨v4, hv4a, hv4b⟩ := hv 4 (by simp) (by kernel_rfl)
        have ev4 := hv4b.val rfl
        subst ev4
        exact potg_run rfl rfl (Q (uMin (uMin r.hi (r.b.v ||| r.b.m)) (sMin r.sh (uMin r.hi (r.b.v ||| r.b.m))))) rfl (run_c1 22 (.tmp 77) rfl ⟨N, 3, none⟩ (hv4a 77 rfl) und64 rfl (keep_c hI hM111 c119)) hM111 hI
       ·obtain ⟨v3, hv3a, hv3b⟩ := hv 3 (by simp) (by kernel_rfl)
        have ev3 := hv3b.val rfl
        subst ev3
        obtain ⟨v5, hv5a, hv5b⟩ := hv 5 (by simp) (by kernel_rfl)
        have ev5 := hv5b.val rfl
        subst ev5
        exact potg_cl rfl rfl 61 _ _ rfl #[(Q (uMax (uMax r.lo r.b.v) (sMax r.sl (uMax r.lo r.b.v)))), (Q (uMin (uMin r.hi (r.b.v ||| r.b.m)) (sMin r.sh (uMin r.hi (r.b.v ||| r.b.m)))))] (by simp only [List.map_toArray, List.map_cons, List.map_nil, (show ac.eval (.tmp 76) = (Q (uMax (uMax r.lo r.b.v) (sMax r.sl (uMax r.lo r.b.v)))) from (hv3a 76 rfl)), (show ac.eval (.tmp 78) = (Q (uMin (uMin r.hi (r.b.v ||| r.b.m)) (sMin r.sh (uMin r.hi (r.b.v ||| r.b.m))))) from (hv5a 78 rfl))] <;> rfl) (by kernel_rfl) (Value.agg (cellsOf (nC (sAlike (uMax (uMax r.lo r.b.v) (sMax r.sl (uMax r.lo r.b.v))) (uMin (uMin r.hi (r.b.v ||| r.b.m)) (sMin r.sh (uMin r.hi (r.b.v ||| r.b.m)))))) 2)) (fun K hK => Alike_any (uMax (uMax r.lo r.b.v) (sMax r.sl (uMax r.lo r.b.v))) (uMin (uMin r.hi (r.b.v ||| r.b.m)) (sMin r.sh (uMin r.hi (r.b.v ||| r.b.m)))) wa K hK) rfl hM111 hI
       ·obtain ⟨v1, hv1a, hv1b⟩ := hv 1 (by simp) (by kernel_rfl)
        have ev1 := hv1b.val rfl
        subst ev1
        obtain ⟨v6, hv6a, hv6b⟩ := hv 6 (by simp) (by kernel_rfl)
        have ev6 := hv6b.val rfl
        subst ev6
        exact potg_cl rfl rfl 60 _ _ rfl #[(Value.agg (cellsOf (nC r.b) 2)), (Value.agg (cellsOf (nC (sAlike (uMax (uMax r.lo r.b.v) (sMax r.sl (uMax r.lo r.b.v))) (uMin (uMin r.hi (r.b.v ||| r.b.m)) (sMin r.sh (uMin r.hi (r.b.v ||| r.b.m)))))) 2))] (by simp only [List.map_toArray, List.map_cons, List.map_nil, (show ac.eval (.tmp 74) = (Value.agg (cellsOf (nC r.b) 2)) from (hv1a 74 rfl)), (show ac.eval (.tmp 79) = (Value.agg (cellsOf (nC (sAlike (uMax (uMax r.lo r.b.v) (sMax r.sl (uMax r.lo r.b.v))) (uMin (uMin r.hi (r.b.v ||| r.b.m)) (sMin r.sh (uMin r.hi (r.b.v ||| r.b.m)))))) 2)) from (hv6a 79 rfl))] <;> rfl) (by kernel_rfl) (Value.tuple #[(Value.agg (cellsOf (nC (meetN r.b (sAlike (uMax (uMax r.lo r.b.v) (sMax r.sl (uMax r.lo r.b.v))) (uMin (uMin r.hi (r.b.v ||| r.b.m)) (sMin r.sh (uMin r.hi (r.b.v ||| r.b.m))))))) 2)), (Value.bool (meetB r.b (sAlike (uMax (uMax r.lo r.b.v) (sMax r.sl (uMax r.lo r.b.v))) (uMin (uMin r.hi (r.b.v ||| r.b.m)) (sMin r.sh (uMin r.hi (r.b.v ||| r.b.m)))))))]) (fun K hK => Meet_any r.b (sAlike (uMax (uMax r.lo r.b.v) (sMax r.sl (uMax r.lo r.b.v))) (uMin (uMin r.hi (r.b.v ||| r.b.m)) (sMin r.sh (uMin r.hi (r.b.v ||| r.b.m))))) wa K hK) rfl hM111 hI
       ·obtain ⟨v7, hv7a, hv7b⟩ := hv 7 (by simp) (by kernel_rfl)
        have ev7 := hv7b.val rfl
        subst ev7
        exact potg_run rfl rfl (Value.tuple #[(Value.agg (cellsOf (nC (meetN r.b (sAlike (uMax (uMax r.lo r.b.v) (sMax r.sl (uMax r.lo r.b.v))) (uMin (uMin r.hi (r.b.v ||| r.b.m)) (sMin r.sh (uMin r.hi (r.b.v ||| r.b.m))))))) 2)), (Value.bool (meetB r.b (sAlike (uMax (uMax r.lo r.b.v) (sMax r.sl (uMax r.lo r.b.v))) (uMin (uMin r.hi (r.b.v ||| r.b.m)) (sMin r.sh (uMin r.hi (r.b.v ||| r.b.m)))))))]) rfl (run_mv (x := (.tmp 80)) rfl _ (hv7a 80 rfl)) hM111 hI
       ·obtain ⟨v8, hv8a, hv8b⟩ := hv 8 (by simp) (by kernel_rfl)
        have ev8 := hv8b.val rfl
        subst ev8
        exact potg_run rfl rfl (Value.agg (cellsOf (nC (meetN r.b (sAlike (uMax (uMax r.lo r.b.v) (sMax r.sl (uMax r.lo r.b.v))) (uMin (uMin r.hi (r.b.v ||| r.b.m)) (sMin r.sh (uMin r.hi (r.b.v ||| r.b.m))))))) 2)) rfl (run_ex (x := (.tmp 72)) rfl _ (hv8a 72 rfl) rfl) hM111 hI
       ·obtain ⟨v8, hv8a, hv8b⟩ := hv 8 (by simp) (by kernel_rfl)
        have ev8 := hv8b.val rfl
        subst ev8
        exact potg_run rfl rfl (Value.bool (meetB r.b (sAlike (uMax (uMax r.lo r.b.v) (sMax r.sl (uMax r.lo r.b.v))) (uMin (uMin r.hi (r.b.v ||| r.b.m)) (sMin r.sh (uMin r.hi (r.b.v ||| r.b.m))))))) rfl (run_ex (x := (.tmp 72)) rfl _ (hv8a 72 rfl) rfl) hM111 hI
       ·exact potg_al rfl rfl rfl zeT rfl rfl hM111 hI
      ·intro vals w5_114_ hb5_114_ hF hG
       have e_114_0 := (hF 0 (by simp)).val rfl
       have e_114_1 := (hF 1 (by simp)).val rfl
       have e_114_2 := (hF 2 (by simp)).val rfl
       have e_114_3 := (hF 3 (by simp)).val rfl
       have e_114_4 := (hF 4 (by simp)).val rfl
       have e_114_5 := (hF 5 (by simp)).val rfl
       have e_114_6 := (hF 6 (by simp)).val rfl
       have e_114_7 := (hF 7 (by simp)).val rfl
       have e_114_8 := (hF 8 (by simp)).val rfl
       have e_114_9 := (hF 9 (by simp)).val rfl
       have e_114_10 := (hF 10 (by simp)).val rfl
       obtain ⟨b_114_11, l_114_11, e_114_11, h_114_11⟩ := (hF 11 (by simp)).al rfl rfl
       clear hF hG
       simp only [List.foldl_cons, List.foldl_nil, dstOf, List.getElem?_toArray, List.getElem?_cons_succ, List.getElem?_cons_zero, Option.bind_some, Act.put, List.setIfInBounds_toArray, List.set_cons_succ, List.set_cons_zero, e_114_0, e_114_1, e_114_2, e_114_3, e_114_4, e_114_5, e_114_6, e_114_7, e_114_8, e_114_9, e_114_10, e_114_11]
       clear e_114_0 e_114_1 e_114_2 e_114_3 e_114_4 e_114_5 e_114_6 e_114_7 e_114_8 e_114_9 e_114_10 e_114_11
       have k122 := k107.below hb5_114_ (by omega)
       have k123 := k108.below hb5_114_ (by omega)
       have lo124 := lo109.trans (hb5_114_.mono (by omega))
       clear k107 c116 c117 c118 c119 c120 c121 k108 lo109 hb5_114_
       refine wpAny_chain [12, 13] _ _ _ _ (by kernel_rfl) (by decide) ?_
       simp only [List.filterMap_cons, List.filterMap_nil, List.getElem?_toArray, List.getElem?_cons_succ, List.getElem?_cons_zero]
       refine wpl_store rfl 39 (.tmp 4) (.tmp 81) rfl b_114_11 2 (nC (meetN r.b (sAlike (uMax (uMax r.lo r.b.v) (sMax r.sl (uMax r.lo r.b.v))) (uMin (uMin r.hi (r.b.v ||| r.b.m)) (sMin r.sh (uMin r.hi (r.b.v ||| r.b.m))))))) rfl rfl 39 _ h_114_11 szT (fun j _ => nC_one _ j) ?_
       intro xw125 t126 k127
       have k128 := k122.touch t126 (by omega)
       have k129 := k123.touch t126 (by omega)
       have lo130 := t126.below lo124 (by omega)
       clear h_114_11 k122 k123 lo124 t126
       refine wpl_run rfl (Value.bool (meetB r.b (sAlike (uMax (uMax r.lo r.b.v) (sMax r.sl (uMax r.lo r.b.v))) (uMin (uMin r.hi (r.b.v ||| r.b.m)) (sMin r.sh (uMin r.hi (r.b.v ||| r.b.m))))))) _ (run_as (x := (.tmp 82)) rfl _ rfl) ?_; simp only [pA]
       refine ⟨rfl, b_114_11, (by simp only [pA]), k127, k128, k129, (by omega), lo130⟩
      ·intro vals w5_114_ hb5_114_ hF hG
       have e_114_0 := (hF 0 (by simp) (by omega)).val rfl
       have e_114_1 := (hF 1 (by simp) (by omega)).val rfl
       have e_114_2 := (hF 2 (by simp) (by omega)).val rfl
       have e_114_3 := (hF 3 (by simp) (by omega)).val rfl
       have e_114_4 := (hF 4 (by simp) (by omega)).val rfl
       have e_114_5 := (hF 5 (by simp) (by omega)).val rfl
       have e_114_6 := (hF 6 (by simp) (by omega)).val rfl
       have e_114_7 := (hF 7 (by simp) (by omega)).val rfl
       have e_114_8 := (hF 8 (by simp) (by omega)).val rfl
       have e_114_9 := (hF 9 (by simp) (by omega)).val rfl
       obtain ⟨b_114_11, l_114_11, e_114_11, h_114_11⟩ := (hF 11 (by simp) (by omega)).al rfl rfl
       clear hF hG
       rw [show (List.filter (fun j => !(j == 10)) [0, 1, 2, 3, 4, 5, 6, 7, 8, 9, 10, 11]) = [0, 1, 2, 3, 4, 5, 6, 7, 8, 9, 11] from rfl]
       simp only [List.foldl_cons, List.foldl_nil, dstOf, List.getElem?_toArray, List.getElem?_cons_succ, List.getElem?_cons_zero, Option.bind_some, Act.put, List.setIfInBounds_toArray, List.set_cons_succ, List.set_cons_zero, e_114_0, e_114_1, e_114_2, e_114_3, e_114_4, e_114_5, e_114_6, e_114_7, e_114_8, e_114_9, e_114_11]
       clear e_114_0 e_114_1 e_114_2 e_114_3 e_114_4 e_114_5 e_114_6 e_114_7 e_114_8 e_114_9 e_114_11
       have k122 := k107.below hb5_114_ (by omega)
       have k123 := k108.below hb5_114_ (by omega)
       have lo124 := lo109.trans (hb5_114_.mono (by omega))
       clear k107 c116 c117 c118 c119 c120 c121 k108 lo109 hb5_114_
       refine wpAny_fork 10 12 [12, 13] [10, 13] 2 _ _ _ (by kernel_rfl) (by kernel_rfl) ?_ ?_
       ·simp only [List.filterMap_cons, List.filterMap_nil, List.getElem?_toArray, List.getElem?_cons_succ, List.getElem?_cons_zero]
        refine wpl_run rfl (Value.bool (meetB r.b (sAlike (uMax (uMax r.lo r.b.v) (sMax r.sl (uMax r.lo r.b.v))) (uMin (uMin r.hi (r.b.v ||| r.b.m)) (sMin r.sh (uMin r.hi (r.b.v ||| r.b.m))))))) _ (run_ex (x := (.tmp 72)) rfl _ rfl rfl) ?_; simp only [pA]
        refine wpl_store rfl 39 (.tmp 4) (.tmp 81) rfl b_114_11 2 (nC (meetN r.b (sAlike (uMax (uMax r.lo r.b.v) (sMax r.sl (uMax r.lo r.b.v))) (uMin (uMin r.hi (r.b.v ||| r.b.m)) (sMin r.sh (uMin r.hi (r.b.v ||| r.b.m))))))) rfl rfl 39 _ h_114_11 szT (fun j _ => nC_one _ j) ?_
        intro xw125 t126 k127
        have k128 := k122.touch t126 (by omega)
        have k129 := k123.touch t126 (by omega)
        have lo130 := t126.below lo124 (by omega)
        clear h_114_11 k122 k123 lo124 t126
        refine wpl_run rfl (Value.bool (meetB r.b (sAlike (uMax (uMax r.lo r.b.v) (sMax r.sl (uMax r.lo r.b.v))) (uMin (uMin r.hi (r.b.v ||| r.b.m)) (sMin r.sh (uMin r.hi (r.b.v ||| r.b.m))))))) _ (run_as (x := (.tmp 82)) rfl _ rfl) ?_; simp only [pA]
        refine ⟨rfl, b_114_11, (by simp only [pA]), k127, k128, k129, (by omega), lo130⟩
       ·simp only [List.filterMap_cons, List.filterMap_nil, List.getElem?_toArray, List.getElem?_cons_succ, List.getElem?_cons_zero]
        refine wpl_store rfl 39 (.tmp 4) (.tmp 81) rfl b_114_11 2 (nC (meetN r.b (sAlike (uMax (uMax r.lo r.b.v) (sMax r.sl (uMax r.lo r.b.v))) (uMin (uMin r.hi (r.b.v ||| r.b.m)) (sMin r.sh (uMin r.hi (r.b.v ||| r.b.m))))))) rfl rfl 39 _ h_114_11 szT (fun j _ => nC_one _ j) ?_
        intro xw125 t126 k127
        have k128 := k122.touch t126 (by omega)
        have k129 := k123.touch t126 (by omega)
        have lo130 := t126.below lo124 (by omega)
        clear h_114_11 k122 k123 lo124 t126
        refine wpl_run rfl (Value.bool (meetB r.b (sAlike (uMax (uMax r.lo r.b.v) (sMax r.sl (uMax r.lo r.b.v))) (uMin (uMin r.hi (r.b.v ||| r.b.m)) (sMin r.sh (uMin r.hi (r.b.v ||| r.b.m))))))) _ (run_ex (x := (.tmp 72)) rfl _ rfl rfl) ?_; simp only [pA]
        refine wpl_run rfl (Value.bool (meetB r.b (sAlike (uMax (uMax r.lo r.b.v) (sMax r.sl (uMax r.lo r.b.v))) (uMin (uMin r.hi (r.b.v ||| r.b.m)) (sMin r.sh (uMin r.hi (r.b.v ||| r.b.m))))))) _ (run_as (x := (.tmp 82)) rfl _ rfl) ?_; simp only [pA]
        refine ⟨rfl, b_114_11, (by simp only [pA]), k127, k128, k129, (by omega), lo130⟩
     ·clear k107 k108 lo109
      rintro b_114_x xw119 ⟨k115, k116, k117, lb_114_x, lo118⟩
      try dsimp only
      try simp only [pA]
      obtain ⟨M120, hM120⟩ := sz_some xw119
      have lt_121 := k116.ltN hM120
      have lt_122 := k117.ltN hM120
      have lt_123 := k115.ltN hM120
      cases h5_ : (meetB r.b (sAlike (uMax (uMax r.lo r.b.v) (sMax r.sl (uMax r.lo r.b.v))) (uMin (uMin r.hi (r.b.v ||| r.b.m)) (sMin r.sh (uMin r.hi (r.b.v ||| r.b.m))))))
      ·have H5_ := hid h5_
       clear h5_
       go_upto_region 9 with fail
       obtain ⟨c124, c125, c126, c127, c128, c129⟩ := r_cells5 k116
       refine wp_region_later1 (M120) ?_
       try simp only [pA]
       iterate 16 (go_big_quiet_step (fail))
       refine wpQuiet_nil (laterE hM120 ?_)
       intro xw130 M131 hbxw130 hM131 lM131
       have k132 := k116.below hbxw130 (by omega)
       have k133 := k117.below hbxw130 (by omega)
       have k134 := k115.below hbxw130 (by omega)
       have lo135 := lo118.trans (hbxw130.mono (by omega))
       clear k116 c124 c125 c126 c127 c128 c129 k117 k115 lo118 hbxw130
       go_upto_region 10 with fail
       refine wp_region_lit ?_
       try simp only [pA]
       change wpList _ _ _ ((_ :: []) ++ (_ :: _ :: [])) _ _
       refine wpList_prefix (C := fun w' => ∃ x : Later M131 xw130, w' = x.w') _ _ _ _ ⟨⟨_, Below.refl _ _⟩, rfl⟩ ?_
       refine later_val (fun q => run_bd 41 _ rfl (cellsOf (rC ⟨zeroN, 0#64, 0#64, 0#64, 0#64⟩) 6) (by kernel_rfl) q.w') (by rfl) ?_; simp only [pA]
       refine wpQuiet_nil (laterE hM131 ?_)
       intro xw136 M137 hbxw136 hM137 lM137
       have k138 := k132.below hbxw136 (by omega)
       have k139 := k133.below hbxw136 (by omega)
       have k140 := k134.below hbxw136 (by omega)
       have lo141 := lo135.trans (hbxw136.mono (by omega))
       clear k132 k133 k134 lo135 hbxw136
       refine wpl_store rfl 41 (.tmp 2) (.tmp 99) rfl (N + 1) 6 (rC ⟨zeroN, 0#64, 0#64, 0#64, 0#64⟩) rfl rfl 41 _ k139 szR (fun j _ => rC_one _ j) ?_
       intro xw142 t143 k144; try simp only [pA]
       have k145 := k138.touch t143 (by omega)
       have k146 := k140.touch t143 (by omega)
       have lo147 := t143.below lo141 (by omega)
       have h148 := t143.sz hM137
       clear k139 k138 k140 lo141 hM137 t143
       refine wpl_run rfl (Value.bool false) _ (run_as (x := (.const (.bool false))) rfl _ rfl) ?_; simp only [pA]
       obtain ⟨M149, hM149⟩ := sz_some xw142
       have lt_150 := k145.ltN hM149
       have lt_151 := k144.ltN hM149
       have lt_152 := k146.ltN hM149
       go_wp2_with fail
       refine post_rb rfl (N + 1) rfl k144 undR szR rfl rfl ?_
       exact ⟨by rw [ER.out]; first | rfl | (simp only [settleF, sT1, sT2, sT3, sT4, H1_.out, H2_.out, H3_.out, H4_.out, H5_.out, bB] <;> rfl), lo147⟩
      ·have H5_ := hid h5_
       clear h5_
       cases h6_ : (BitVec.ult (uMin (uMin r.hi (r.b.v ||| r.b.m)) (sMin r.sh (uMin r.hi (r.b.v ||| r.b.m)))) (uMax (uMax r.lo r.b.v) (sMax r.sl (uMax r.lo r.b.v))))
       ·have H6_ := hid h6_
        clear h6_
        cases h7_ : (BitVec.slt (sMin r.sh (uMin r.hi (r.b.v ||| r.b.m))) (sMax r.sl (uMax r.lo r.b.v)))
        ·have H7_ := hid h7_
         clear h7_
         go_upto_region 9 with fail
         obtain ⟨c124, c125, c126, c127, c128, c129⟩ := r_cells5 k116
         refine wp_region_later1 (M120) ?_
         try simp only [pA]
         iterate 4 (go_big_quiet_step (fail))
         refine later_c1 hM120 22 (.tmp 86) rfl rfl und64 rfl c126 (by rfl) ?_; simp only [pA]
         go_big_quiet_step (fail)
         refine later_c1 hM120 22 (.tmp 88) rfl rfl und64 rfl c127 (by rfl) ?_; simp only [pA]
         refine later_b (x := (.tmp 87)) (y := (.tmp 89)) rfl (BinRun.is H6_.out (bin_gtr _ (uMax (uMax r.lo r.b.v) (sMax r.sl (uMax r.lo r.b.v))) (uMin (uMin r.hi (r.b.v ||| r.b.m)) (sMin r.sh (uMin r.hi (r.b.v ||| r.b.m)))))) rfl rfl (by rfl) ?_; simp only [pA]
         iterate 3 (go_big_quiet_step (fail))
         refine later_c1 hM120 2 (.tmp 93) rfl rfl undI64 rfl c128 (by rfl) ?_; simp only [pA]
         go_big_quiet_step (fail)
         refine later_c1 hM120 2 (.tmp 95) rfl rfl undI64 rfl c129 (by rfl) ?_; simp only [pA]
         refine later_b (x := (.tmp 94)) (y := (.tmp 96)) rfl (BinRun.is H7_.out (bin_sgtr _ (sMax r.sl (uMax r.lo r.b.v)) (sMin r.sh (uMin r.hi (r.b.v ||| r.b.m))))) rfl rfl (by rfl) ?_; simp only [pA]
         go_big_quiet_step (fail)
         refine wpQuiet_nil (laterE hM120 ?_)
         intro xw130 M131 hbxw130 hM131 lM131
         have k132 := k116.below hbxw130 (by omega)
         have k133 := k117.below hbxw130 (by omega)
         have k134 := k115.below hbxw130 (by omega)
         have lo135 := lo118.trans (hbxw130.mono (by omega))
         clear k116 c124 c125 c126 c127 c128 c129 k117 k115 lo118 hbxw130
         go_upto_region 11 with fail
         refine wp_region_lit ?_
         try simp only [pA]
         refine wpl_run rfl (.agg (cellsOf (nC (meetN r.b (sAlike (uMax (uMax r.lo r.b.v) (sMax r.sl (uMax r.lo r.b.v))) (uMin (uMin r.hi (r.b.v ||| r.b.m)) (sMin r.sh (uMin r.hi (r.b.v ||| r.b.m))))))) 2)) _ (run_rw 39 (.tmp 4) rfl b_114_x rfl 39 2 _ k134 undT szT) ?_; simp only [pA]
         refine wpl_run rfl (.pointer (some ⟨N, 0, none⟩)) xw130 (by kernel_rfl) ?_; simp only [pA]
         refine wpl_store_part rfl 39 (.tmp 101) (.tmp 100) rfl N 0 rfl 2 (nC (meetN r.b (sAlike (uMax (uMax r.lo r.b.v) (sMax r.sl (uMax r.lo r.b.v))) (uMin (uMin r.hi (r.b.v ||| r.b.m)) (sMin r.sh (uMin r.hi (r.b.v ||| r.b.m))))))) rfl 41 6 _ k132 (by omega) szT (fun j _ => nC_one _ j) ?_
         intro xw136 t137 k138_; try simp only [pA]
         have k138 : Has xw136 N 41 6 (rC ⟨(meetN r.b (sAlike (uMax (uMax r.lo r.b.v) (sMax r.sl (uMax r.lo r.b.v))) (uMin (uMin r.hi (r.b.v ||| r.b.m)) (sMin r.sh (uMin r.hi (r.b.v ||| r.b.m)))))), (uMax (uMax r.lo r.b.v) (sMax r.sl (uMax r.lo r.b.v))), (uMin (uMin r.hi (r.b.v ||| r.b.m)) (sMin r.sh (uMin r.hi (r.b.v ||| r.b.m)))), (sMax r.sl (uMax r.lo r.b.v)), (sMin r.sh (uMin r.hi (r.b.v ||| r.b.m)))⟩) := k138_.congr (fun j hj => lay_bits _ _ _ _ _ _ j)
         have k139 := k133.touch t137 (by omega)
         have k140 := k134.touch t137 (by omega)
         have lo141 := t137.below lo135 (by omega)
         clear k132 k138_ k133 k134 lo135 t137
         obtain ⟨M142, hM142⟩ := sz_some xw136
         have lt_143 := k138.ltN hM142
         have lt_144 := k139.ltN hM142
         have lt_145 := k140.ltN hM142
         go_upto_region 12 with fail
         refine wp_region_lit ?_
         try simp only [pA]
         change wpList _ _ _ ((_ :: []) ++ (_ :: _ :: [])) _ _
         refine wpList_prefix (C := fun w' => ∃ x : Later M142 xw136, w' = x.w') _ _ _ _ ⟨⟨_, Below.refl _ _⟩, rfl⟩ ?_
         refine later_row hM142 41 (.tmp 1) rfl (N) rfl 41 6 _ k138 undR szR (by rfl) ?_; simp only [pA]
         refine wpQuiet_nil (laterE hM142 ?_)
         intro xw146 M147 hbxw146 hM147 lM147
         have k148 := k138.below hbxw146 (by omega)
         have k149 := k139.below hbxw146 (by omega)
         have k150 := k140.below hbxw146 (by omega)
         have lo151 := lo141.trans (hbxw146.mono (by omega))
         clear k138 k139 k140 lo141 hbxw146
         refine wpl_store rfl 41 (.tmp 2) (.tmp 102) rfl (N + 1) 6 (rC ⟨(meetN r.b (sAlike (uMax (uMax r.lo r.b.v) (sMax r.sl (uMax r.lo r.b.v))) (uMin (uMin r.hi (r.b.v ||| r.b.m)) (sMin r.sh (uMin r.hi (r.b.v ||| r.b.m)))))), (uMax (uMax r.lo r.b.v) (sMax r.sl (uMax r.lo r.b.v))), (uMin (uMin r.hi (r.b.v ||| r.b.m)) (sMin r.sh (uMin r.hi (r.b.v ||| r.b.m)))), (sMax r.sl (uMax r.lo r.b.v)), (sMin r.sh (uMin r.hi (r.b.v ||| r.b.m)))⟩) rfl rfl 41 _ k149 szR (fun j _ => rC_one _ j) ?_
         intro xw152 t153 k154; try simp only [pA]
         have k155 := k148.touch t153 (by omega)
         have k156 := k150.touch t153 (by omega)
         have lo157 := t153.below lo151 (by omega)
         have h158 := t153.sz hM147
         clear k149 k148 k150 lo151 hM147 t153
         refine wpl_run rfl (Value.bool true) _ (run_as (x := (.const (.bool true))) rfl _ rfl) ?_; simp only [pA]
         obtain ⟨M159, hM159⟩ := sz_some xw152
         have lt_160 := k155.ltN hM159
         have lt_161 := k154.ltN hM159
         have lt_162 := k156.ltN hM159
         go_wp2_with fail
         refine post_rb rfl (N + 1) rfl k154 undR szR rfl rfl ?_
         exact ⟨by rw [ER.out]; first | rfl | (simp only [settleF, sT1, sT2, sT3, sT4, H1_.out, H2_.out, H3_.out, H4_.out, H5_.out, H6_.out, H7_.out, bB] <;> rfl), lo157⟩
        ·have H7_ := hid h7_
         clear h7_
         go_upto_region 9 with fail
         obtain ⟨c124, c125, c126, c127, c128, c129⟩ := r_cells5 k116
         refine wp_region_later1 (M120) ?_
         try simp only [pA]
         iterate 4 (go_big_quiet_step (fail))
         refine later_c1 hM120 22 (.tmp 86) rfl rfl und64 rfl c126 (by rfl) ?_; simp only [pA]
         go_big_quiet_step (fail)
         refine later_c1 hM120 22 (.tmp 88) rfl rfl und64 rfl c127 (by rfl) ?_; simp only [pA]
         refine later_b (x := (.tmp 87)) (y := (.tmp 89)) rfl (BinRun.is H6_.out (bin_gtr _ (uMax (uMax r.lo r.b.v) (sMax r.sl (uMax r.lo r.b.v))) (uMin (uMin r.hi (r.b.v ||| r.b.m)) (sMin r.sh (uMin r.hi (r.b.v ||| r.b.m)))))) rfl rfl (by rfl) ?_; simp only [pA]
         iterate 3 (go_big_quiet_step (fail))
         refine later_c1 hM120 2 (.tmp 93) rfl rfl undI64 rfl c128 (by rfl) ?_; simp only [pA]
         go_big_quiet_step (fail)
         refine later_c1 hM120 2 (.tmp 95) rfl rfl undI64 rfl c129 (by rfl) ?_; simp only [pA]
         refine later_b (x := (.tmp 94)) (y := (.tmp 96)) rfl (BinRun.is H7_.out (bin_sgtr _ (sMax r.sl (uMax r.lo r.b.v)) (sMin r.sh (uMin r.hi (r.b.v ||| r.b.m))))) rfl rfl (by rfl) ?_; simp only [pA]
         go_big_quiet_step (fail)
         refine wpQuiet_nil (laterE hM120 ?_)
         intro xw130 M131 hbxw130 hM131 lM131
         have k132 := k116.below hbxw130 (by omega)
         have k133 := k117.below hbxw130 (by omega)
         have k134 := k115.below hbxw130 (by omega)
         have lo135 := lo118.trans (hbxw130.mono (by omega))
         clear k116 c124 c125 c126 c127 c128 c129 k117 k115 lo118 hbxw130
         go_upto_region 10 with fail
         refine wp_region_lit ?_
         try simp only [pA]
         change wpList _ _ _ ((_ :: []) ++ (_ :: _ :: [])) _ _
         refine wpList_prefix (C := fun w' => ∃ x : Later M131 xw130, w' = x.w') _ _ _ _ ⟨⟨_, Below.refl _ _⟩, rfl⟩ ?_
         refine later_val (fun q => run_bd 41 _ rfl (cellsOf (rC ⟨zeroN, 0#64, 0#64, 0#64, 0#64⟩) 6) (by kernel_rfl) q.w') (by rfl) ?_; simp only [pA]
         refine wpQuiet_nil (laterE hM131 ?_)
         intro xw136 M137 hbxw136 hM137 lM137
         have k138 := k132.below hbxw136 (by omega)
         have k139 := k133.below hbxw136 (by omega)
         have k140 := k134.below hbxw136 (by omega)
         have lo141 := lo135.trans (hbxw136.mono (by omega))
         clear k132 k133 k134 lo135 hbxw136
         refine wpl_store rfl 41 (.tmp 2) (.tmp 99) rfl (N + 1) 6 (rC ⟨zeroN, 0#64, 0#64, 0#64, 0#64⟩) rfl rfl 41 _ k139 szR (fun j _ => rC_one _ j) ?_
         intro xw142 t143 k144; try simp only [pA]
         have k145 := k138.touch t143 (by omega)
         have k146 := k140.touch t143 (by omega)
         have lo147 := t143.below lo141 (by omega)
         have h148 := t143.sz hM137
         clear k139 k138 k140 lo141 hM137 t143
         refine wpl_run rfl (Value.bool false) _ (run_as (x := (.const (.bool false))) rfl _ rfl) ?_; simp only [pA]
         obtain ⟨M149, hM149⟩ := sz_some xw142
         have lt_150 := k145.ltN hM149
         have lt_151 := k144.ltN hM149
         have lt_152 := k146.ltN hM149
         go_wp2_with fail
         refine post_rb rfl (N + 1) rfl k144 undR szR rfl rfl ?_
         exact ⟨by rw [ER.out]; first | rfl | (simp only [settleF, sT1, sT2, sT3, sT4, H1_.out, H2_.out, H3_.out, H4_.out, H5_.out, H6_.out, H7_.out, bB] <;> rfl), lo147⟩
       ·have H6_ := hid h6_
        clear h6_
        go_upto_region 9 with fail
        obtain ⟨c124, c125, c126, c127, c128, c129⟩ := r_cells5 k116
        refine wp_region_later1 (M120) ?_
        try simp only [pA]
        iterate 4 (go_big_quiet_step (fail))
        refine later_c1 hM120 22 (.tmp 86) rfl rfl und64 rfl c126 (by rfl) ?_; simp only [pA]
        go_big_quiet_step (fail)
        refine later_c1 hM120 22 (.tmp 88) rfl rfl und64 rfl c127 (by rfl) ?_; simp only [pA]
        refine later_b (x := (.tmp 87)) (y := (.tmp 89)) rfl (BinRun.is H6_.out (bin_gtr _ (uMax (uMax r.lo r.b.v) (sMax r.sl (uMax r.lo r.b.v))) (uMin (uMin r.hi (r.b.v ||| r.b.m)) (sMin r.sh (uMin r.hi (r.b.v ||| r.b.m)))))) rfl rfl (by rfl) ?_; simp only [pA]
        iterate 8 (go_big_quiet_step (fail))
        refine wpQuiet_nil (laterE hM120 ?_)
        intro xw130 M131 hbxw130 hM131 lM131
        have k132 := k116.below hbxw130 (by omega)
        have k133 := k117.below hbxw130 (by omega)
        have k134 := k115.below hbxw130 (by omega)
        have lo135 := lo118.trans (hbxw130.mono (by omega))
        clear k116 c124 c125 c126 c127 c128 c129 k117 k115 lo118 hbxw130
        go_upto_region 10 with fail
        refine wp_region_lit ?_
        try simp only [pA]
        change wpList _ _ _ ((_ :: []) ++ (_ :: _ :: [])) _ _
        refine wpList_prefix (C := fun w' => ∃ x : Later M131 xw130, w' = x.w') _ _ _ _ ⟨⟨_, Below.refl _ _⟩, rfl⟩ ?_
        refine later_val (fun q => run_bd 41 _ rfl (cellsOf (rC ⟨zeroN, 0#64, 0#64, 0#64, 0#64⟩) 6) (by kernel_rfl) q.w') (by rfl) ?_; simp only [pA]
        refine wpQuiet_nil (laterE hM131 ?_)
        intro xw136 M137 hbxw136 hM137 lM137
        have k138 := k132.below hbxw136 (by omega)
        have k139 := k133.below hbxw136 (by omega)
        have k140 := k134.below hbxw136 (by omega)
        have lo141 := lo135.trans (hbxw136.mono (by omega))
        clear k132 k133 k134 lo135 hbxw136
        refine wpl_store rfl 41 (.tmp 2) (.tmp 99) rfl (N + 1) 6 (rC ⟨zeroN, 0#64, 0#64, 0#64, 0#64⟩) rfl rfl 41 _ k139 szR (fun j _ => rC_one _ j) ?_
        intro xw142 t143 k144; try simp only [pA]
        have k145 := k138.touch t143 (by omega)
        have k146 := k140.touch t143 (by omega)
        have lo147 := t143.below lo141 (by omega)
        have h148 := t143.sz hM137
        clear k139 k138 k140 lo141 hM137 t143
        refine wpl_run rfl (Value.bool false) _ (run_as (x := (.const (.bool false))) rfl _ rfl) ?_; simp only [pA]
        obtain ⟨M149, hM149⟩ := sz_some xw142
        have lt_150 := k145.ltN hM149
        have lt_151 := k144.ltN hM149
        have lt_152 := k146.ltN hM149
        go_wp2_with fail
        refine post_rb rfl (N + 1) rfl k144 undR szR rfl rfl ?_
        exact ⟨by rw [ER.out]; first | rfl | (simp only [settleF, sT1, sT2, sT3, sT4, H1_.out, H2_.out, H3_.out, H4_.out, H5_.out, H6_.out, bB] <;> rfl), lo147⟩
   ·have H3_ := hid h3_
    clear h3_
    go_upto_region 6 with fail
    obtain ⟨c77, c78, c79, c80, c81, c82⟩ := r_cells5 k70
    refine wp_region_later1 (M74) ?_
    try simp only [pA]
    go_big_quiet_step (fail)
    refine later_c1 hM74 2 (.tmp 50) rfl rfl undI64 rfl c81 (by rfl) ?_; simp only [pA]
    refine later_b (x := (.tmp 51)) (y := (.const (.int .i64 0))) rfl (BinRun.is H3_.out (bin_sgeq _ (sMax r.sl (uMax r.lo r.b.v)) 0#64)) rfl rfl (by rfl) ?_; simp only [pA]
    iterate 5 (go_big_quiet_step (fail))
    refine wpQuiet_nil (laterE hM74 ?_)
    intro xw83 M84 hbxw83 hM84 lM84
    have k85 := k70.below hbxw83 (by omega)
    have k86 := k71.below hbxw83 (by omega)
    have lo87 := lo72.trans (hbxw83.mono (by omega))
    clear k70 c77 c78 c79 c80 c81 c82 k71 lo72 hbxw83
    go_upto_region 7 with fail
    refine wp_region_lit ?_
    try simp only [pA]
    change wpList _ _ _ ((_ :: _ :: _ :: _ :: _ :: _ :: _ :: _ :: _ :: _ :: _ :: _ :: _ :: []) ++ (_ :: _ :: _ :: [])) _ _
    obtain ⟨c88, c89, c90, c91, c92, c93⟩ := r_cells5 k85
    refine wpList_prefix (C := fun w' => ∃ x : Later M84 xw83, w' = x.w') _ _ _ _ ⟨⟨_, Below.refl _ _⟩, rfl⟩ ?_
    go_big_quiet_step (fail)
    refine later_c1 hM84 22 (.tmp 58) rfl rfl und64 rfl c90 (by rfl) ?_; simp only [pA]
    go_big_quiet_step (fail)
    refine later_c1 hM84 2 (.tmp 60) rfl rfl undI64 rfl c92 (by rfl) ?_; simp only [pA]
    refine later_val (fun q => run_su (x := (.tmp 61)) rfl undI64 und64 rfl q.w') (by rfl) ?_; simp only [pA]
    refine later_val (fun qq => run_maxQ (x := (.tmp 59)) (y := (.tmp 62)) (p := (uMax r.lo r.b.v)) (q := (sMax r.sl (uMax r.lo r.b.v))) rfl rfl rfl qq.w') (by rfl) ?_; simp only [pA]
    go_big_quiet_step (fail)
    refine later_c1 hM84 22 (.tmp 64) rfl rfl und64 rfl c91 (by rfl) ?_; simp only [pA]
    go_big_quiet_step (fail)
    refine later_c1 hM84 2 (.tmp 66) rfl rfl undI64 rfl c93 (by rfl) ?_; simp only [pA]
    refine later_val (fun q => run_su (x := (.tmp 67)) rfl undI64 und64 rfl q.w') (by rfl) ?_; simp only [pA]
    refine later_val (fun qq => run_minQ (x := (.tmp 65)) (y := (.tmp 68)) (p := (uMin r.hi (r.b.v ||| r.b.m))) (q := (sMin r.sh (uMin r.hi (r.b.v ||| r.b.m)))) rfl rfl rfl qq.w') (by rfl) ?_; simp only [pA]
    go_big_quiet_step (fail)
    refine wpQuiet_nil (laterE hM84 ?_)
    intro xw94 M95 hbxw94 hM95 lM95
    have k96 := k85.below hbxw94 (by omega)
    have k97 := k86.below hbxw94 (by omega)
    have lo98 := lo87.trans (hbxw94.mono (by omega))
    clear k85 c88 c89 c90 c91 c92 c93 k86 lo87 hbxw94
    refine wpl_set rfl 22 (.tmp 70) (.tmp 63) rfl N 2 rfl _ rfl sz64 rfl rfl 41 6 _ k96 (by omega) ?_
    intro xw99 t100 k101_; try simp only [pA]
    have k101 : Has xw99 N 41 6 (rC ⟨r.b, (uMax (uMax r.lo r.b.v) (sMax r.sl (uMax r.lo r.b.v))), (uMin r.hi (r.b.v ||| r.b.m)), (sMax r.sl (uMax r.lo r.b.v)), (sMin r.sh (uMin r.hi (r.b.v ||| r.b.m)))⟩) := k101_.congr (fun j hj => set_lo _ _ j)
    have k102 := k97.touch t100 (by omega)
    have lo103 := t100.below lo98 (by omega)
    have h104 := t100.sz hM95
    clear k96 k101_ k97 lo98 hM95 t100
    refine wpl_run rfl (Value.pointer (some ⟨N, 3, none⟩)) _ (run_fa 41 (.tmp 1) 2 3 rfl rfl faR2) ?_; simp only [pA]
    refine wpl_set rfl 22 (.tmp 71) (.tmp 69) rfl N 3 rfl _ rfl sz64 rfl rfl 41 6 _ k101 (by omega) ?_
    intro xw105 t106 k107_; try simp only [pA]
    have k107 : Has xw105 N 41 6 (rC ⟨r.b, (uMax (uMax r.lo r.b.v) (sMax r.sl (uMax r.lo r.b.v))), (uMin (uMin r.hi (r.b.v ||| r.b.m)) (sMin r.sh (uMin r.hi (r.b.v ||| r.b.m)))), (sMax r.sl (uMax r.lo r.b.v)), (sMin r.sh (uMin r.hi (r.b.v ||| r.b.m)))⟩) := k107_.congr (fun j hj => set_hi _ _ j)
    have k108 := k102.touch t106 (by omega)
    have lo109 := t106.below lo103 (by omega)
    have h110 := t106.sz h104
    clear k101 k107_ k102 lo103 h104 t106
    obtain ⟨M111, hM111⟩ := sz_some xw105
    have lt_112 := k107.ltN hM111
    have lt_113 := k108.ltN hM111
    go_upto_region 8 with fail
    refine wp_mid (fun ac (x : Nat) => (((((((((((((ac.put (some 73) (Value.pointer (some ⟨N, 0, none⟩))).put (some 74) (Value.agg (cellsOf (nC r.b) 2))).put (some 75) (Value.pointer (some ⟨N, 2, none⟩))).put (some 76) (Q (uMax (uMax r.lo r.b.v) (sMax r.sl (uMax r.lo r.b.v))))).put (some 77) (Value.pointer (some ⟨N, 3, none⟩))).put (some 78) (Q (uMin (uMin r.hi (r.b.v ||| r.b.m)) (sMin r.sh (uMin r.hi (r.b.v ||| r.b.m)))))).put (some 79) (Value.agg (cellsOf (nC (sAlike (uMax (uMax r.lo r.b.v) (sMax r.sl (uMax r.lo r.b.v))) (uMin (uMin r.hi (r.b.v ||| r.b.m)) (sMin r.sh (uMin r.hi (r.b.v ||| r.b.m)))))) 2))).put (some 80) (Value.tuple #[(Value.agg (cellsOf (nC (meetN r.b (sAlike (uMax (uMax r.lo r.b.v) (sMax r.sl (uMax r.lo r.b.v))) (uMin (uMin r.hi (r.b.v ||| r.b.m)) (sMin r.sh (uMin r.hi (r.b.v ||| r.b.m))))))) 2)), (Value.bool (meetB r.b (sAlike (uMax (uMax r.lo r.b.v) (sMax r.sl (uMax r.lo r.b.v))) (uMin (uMin r.hi (r.b.v ||| r.b.m)) (sMin r.sh (uMin r.hi (r.b.v ||| r.b.m)))))))])).put (some 72) (Value.tuple #[(Value.agg (cellsOf (nC (meetN r.b (sAlike (uMax (uMax r.lo r.b.v) (sMax r.sl (uMax r.lo r.b.v))) (uMin (uMin r.hi (r.b.v ||| r.b.m)) (sMin r.sh (uMin r.hi (r.b.v ||| r.b.m))))))) 2)), (Value.bool (meetB r.b (sAlike (uMax (uMax r.lo r.b.v) (sMax r.sl (uMax r.lo r.b.v))) (uMin (uMin r.hi (r.b.v ||| r.b.m)) (sMin r.sh (uMin r.hi (r.b.v ||| r.b.m)))))))])).put (some 81) (Value.agg (cellsOf (nC (meetN r.b (sAlike (uMax (uMax r.lo r.b.v) (sMax r.sl (uMax r.lo r.b.v))) (uMin (uMin r.hi (r.b.v ||| r.b.m)) (sMin r.sh (uMin r.hi (r.b.v ||| r.b.m))))))) 2))).put (some 82) (Value.bool (meetB r.b (sAlike (uMax (uMax r.lo r.b.v) (sMax r.sl (uMax r.lo r.b.v))) (uMin (uMin r.hi (r.b.v ||| r.b.m)) (sMin r.sh (uMin r.hi (r.b.v ||| r.b.m)))))))).put (some 4) (.pointer (some ⟨x, 0, none⟩))).put (some 5) (Value.bool (meetB r.b (sAlike (uMax (uMax r.lo r.b.v) (sMax r.sl (uMax r.lo r.b.v))) (uMin (uMin r.hi (r.b.v ||| r.b.m)) (sMin r.sh (uMin r.hi (r.b.v ||| r.b.m))))))))) (fun x w' => Has w' x 39 2 (nC (meetN r.b (sAlike (uMax (uMax r.lo r.b.v) (sMax r.sl (uMax r.lo r.b.v))) (uMin (uMin r.hi (r.b.v ||| r.b.m)) (sMin r.sh (uMin r.hi (r.b.v ||| r.b.m))))))) ∧ Has w' N 41 6 (rC ⟨r.b, (uMax (uMax r.lo r.b.v) (sMax r.sl (uMax r.lo r.b.v))), (uMin (uMin r.hi (r.b.v ||| r.b.m)) (sMin r.sh (uMin r.hi (r.b.v ||| r.b.m)))), (sMax r.sl (uMax r.lo r.b.v)), (sMin r.sh (uMin r.hi (r.b.v ||| r.b.m)))⟩) ∧ Has w' (N + 1) 41 6 (rC zeroR) ∧ M111 ≤ x ∧ Below N w w') ?_ ?_
    ·refine wp_region_any (by kernel_rfl) ?_
     replace k107 : Has xw105.drew N 41 6 (rC ⟨r.b, (uMax (uMax r.lo r.b.v) (sMax r.sl (uMax r.lo r.b.v))), (uMin (uMin r.hi (r.b.v ||| r.b.m)) (sMin r.sh (uMin r.hi (r.b.v ||| r.b.m)))), (sMax r.sl (uMax r.lo r.b.v)), (sMin r.sh (uMin r.hi (r.b.v ||| r.b.m)))⟩) := k107
     replace k108 : Has xw105.drew (N + 1) 41 6 (rC zeroR) := k108
     replace hM111 : Sz xw105.drew M111 := hM111
     replace lo109 : Below N w xw105.drew := lo109.drew
     change wpAny _ _ _ _ _ _ _ (World.drew _)
     generalize xw105.drew = xw115 at *
     obtain ⟨c116, c117, c118, c119, c120, c121⟩ := r_cells5 k107
     refine wpAny_potO (rem := [0, 1, 2, 3, 4, 5, 6, 7, 8, 9, 10, 11]) 10 (FG M111 (fun j => if j = 0 then some (Value.pointer (some ⟨N, 0, none⟩)) else if j = 1 then some (Value.agg (cellsOf (nC r.b) 2)) else if j = 2 then some (Value.pointer (some ⟨N, 2, none⟩)) else if j = 3 then some (Q (uMax (uMax r.lo r.b.v) (sMax r.sl (uMax r.lo r.b.v)))) else if j = 4 then some (Value.pointer (some ⟨N, 3, none⟩)) else if j = 5 then some (Q (uMin (uMin r.hi (r.b.v ||| r.b.m)) (sMin r.sh (uMin r.hi (r.b.v ||| r.b.m))))) else if j = 6 then some (Value.agg (cellsOf (nC (sAlike (uMax (uMax r.lo r.b.v) (sMax r.sl (uMax r.lo r.b.v))) (uMin (uMin r.hi (r.b.v ||| r.b.m)) (sMin r.sh (uMin r.hi (r.b.v ||| r.b.m)))))) 2)) else if j = 7 then some (Value.tuple #[(Value.agg (cellsOf (nC (meetN r.b (sAlike (uMax (uMax r.lo r.b.v) (sMax r.sl (uMax r.lo r.b.v))) (uMin (uMin r.hi (r.b.v ||| r.b.m)) (sMin r.sh (uMin r.hi (r.b.v ||| r.b.m))))))) 2)), (Value.bool (meetB r.b (sAlike (uMax (uMax r.lo r.b.v) (sMax r.sl (uMax r.lo r.b.v))) (uMin (uMin r.hi (r.b.v ||| r.b.m)) (sMin r.sh (uMin r.hi (r.b.v ||| r.b.m)))))))]) else if j = 8 then some (Value.tuple #[(Value.agg (cellsOf (nC (meetN r.b (sAlike (uMax (uMax r.lo r.b.v) (sMax r.sl (uMax r.lo r.b.v))) (uMin (uMin r.hi (r.b.v ||| r.b.m)) (sMin r.sh (uMin r.hi (r.b.v ||| r.b.m))))))) 2)), (Value.bool (meetB r.b (sAlike (uMax (uMax r.lo r.b.v) (sMax r.sl (uMax r.lo r.b.v))) (uMin (uMin r.hi (r.b.v ||| r.b.m)) (sMin r.sh (uMin r.hi (r.b.v ||| r.b.m)))))))]) else if j = 9 then some (Value.agg (cellsOf (nC (meetN r.b (sAlike (uMax (uMax r.lo r.b.v) (sMax r.sl (uMax r.lo r.b.v))) (uMin (uMin r.hi (r.b.v ||| r.b.m)) (sMin r.sh (uMin r.hi (r.b.v ||| r.b.m))))))) 2)) else if j = 10 then some (Value.bool (meetB r.b (sAlike (uMax (uMax r.lo r.b.v) (sMax r.sl (uMax r.lo r.b.v))) (uMin (uMin r.hi (r.b.v ||| r.b.m)) (sMin r.sh (uMin r.hi (r.b.v ||| r.b.m))))))) else none) (fun j => (39, 2, nC zeroN))) (TwoN (fun j => if j = 0 then some (Value.pointer (some ⟨N, 0, none⟩)) else if j = 1 then some (Value.agg (cellsOf (nC r.b) 2)) else if j = 2 then some (Value.pointer (some ⟨N, 2, none⟩)) else if j = 3 then some (Q (uMax (uMax r.lo r.b.v) (sMax r.sl (uMax r.lo r.b.v)))) else if j = 4 then some (Value.pointer (some ⟨N, 3, none⟩)) else if j = 5 then some (Q (uMin (uMin r.hi (r.b.v ||| r.b.m)) (sMin r.sh (uMin r.hi (r.b.v ||| r.b.m))))) else if j = 6 then some (Value.agg (cellsOf (nC (sAlike (uMax (uMax r.lo r.b.v) (sMax r.sl (uMax r.lo r.b.v))) (uMin (uMin r.hi (r.b.v ||| r.b.m)) (sMin r.sh (uMin r.hi (r.b.v ||| r.b.m)))))) 2)) else if j = 7 then some (Value.tuple #[(Value.agg (cellsOf (nC (meetN r.b (sAlike (uMax (uMax r.lo r.b.v) (sMax r.sl (uMax r.lo r.b.v))) (uMin (uMin r.hi (r.b.v ||| r.b.m)) (sMin r.sh (uMin r.hi (r.b.v ||| r.b.m))))))) 2)), (Value.bool (meetB r.b (sAlike (uMax (uMax r.lo r.b.v) (sMax r.sl (uMax r.lo r.b.v))) (uMin (uMin r.hi (r.b.v ||| r.b.m)) (sMin r.sh (uMin r.hi (r.b.v ||| r.b.m)))))))]) else if j = 8 then some (Value.tuple #[(Value.agg (cellsOf (nC (meetN r.b (sAlike (uMax (uMax r.lo r.b.v) (sMax r.sl (uMax r.lo r.b.v))) (uMin (uMin r.hi (r.b.v ||| r.b.m)) (sMin r.sh (uMin r.hi (r.b.v ||| r.b.m))))))) 2)), (Value.bool (meetB r.b (sAlike (uMax (uMax r.lo r.b.v) (sMax r.sl (uMax r.lo r.b.v))) (uMin (uMin r.hi (r.b.v ||| r.b.m)) (sMin r.sh (uMin r.hi (r.b.v ||| r.b.m)))))))]) else if j = 9 then some (Value.agg (cellsOf (nC (meetN r.b (sAlike (uMax (uMax r.lo r.b.v) (sMax r.sl (uMax r.lo r.b.v))) (uMin (uMin r.hi (r.b.v ||| r.b.m)) (sMin r.sh (uMin r.hi (r.b.v ||| r.b.m))))))) 2)) else if j = 10 then some (Value.bool (meetB r.b (sAlike (uMax (uMax r.lo r.b.v) (sMax r.sl (uMax r.lo r.b.v))) (uMin (uMin r.hi (r.b.v ||| r.b.m)) (sMin r.sh (uMin r.hi (r.b.v ||| r.b.m))))))) else none)) (Below M111 xw115) _ _ _ _ (by kernel_rfl) (size_dstG (by kernel_rfl)) (Below.refl _ _) ?_ ?_ ?_
     ·intro i hi ac wa hI ha hv
      simp only [List.mem_cons, List.not_mem_nil, or_false] at hi
      rcases hi with rfl | rfl | rfl | rfl | rfl | rfl | rfl | rfl | rfl | rfl | rfl | rfl
      ·exact potg_run rfl rfl (Value.pointer (some ⟨N, 0, none⟩)) rfl (run_fa 41 (.tmp 1) 0 0 rfl (ha 1 (not_dstG (by kernel_rfl))) faR0) hM111 hI
      ·obtain ⟨v0, hv0a, hv0b⟩ := hv 0 (by simp) (by kernel_rfl)
       have ev0 := hv0b.val rfl
       subst ev0
       exact potg_run rfl rfl (Value.agg (cellsOf (nC r.b) 2)) rfl (run_bits5 39 (.tmp 73) rfl N (hv0a 73 rfl) 41 (Has.below k107 hI (Has.ltN k107 hM111)) undT szT) hM111 hI
      ·exact potg_run rfl rfl (Value.pointer (some ⟨N, 2, none⟩)) rfl (run_fa 41 (.tmp 1) 1 2 rfl (ha 1 (not_dstG (by kernel_rfl))) faR1) hM111 hI
      ·obtain ⟨v2, hv2a, hv2b⟩ := hv 2 (by simp) (by kernel_rfl)
       have ev2 := hv2b.val rfl
       subst ev2
       exact potg_run rfl rfl (Q (uMax (uMax r.lo r.b.v) (sMax r.sl (uMax r.lo r.b.v)))) rfl (run_c1 22 (.tmp 75) rfl ⟨N, 2, none⟩ (hv2a 75 rfl) und64 rfl (keep_c hI hM111 c118)) hM111 hI
      ·exact potg_run rfl rfl (Value.pointer (some ⟨N, 3, none⟩)) rfl (run_fa 41 (.tmp 1) 2 3 rfl (ha 1 (not_dstG (by kernel_rfl))) faR2) hM111 hI
      ·obtain ⟨v4, hv4a, hv4b⟩ := hv 4 (by simp) (by kernel_rfl)
       have ev4 := hv4b.val rfl
       subst ev4
       exact potg_run rfl rfl (Q (uMin (uMin r.hi (r.b.v ||| r.b.m)) (sMin r.sh (uMin r.hi (r.b.v ||| r.b.m))))) rfl (run_c1 22 (.tmp 77) rfl ⟨N, 3, none⟩ (hv4a 77 rfl) und64 rfl (keep_c hI hM111 c119)) hM111 hI
      ·obtain ⟨v3, hv3a, hv3b⟩ := hv 3 (by simp) (by kernel_rfl)
       have ev3 := hv3b.val rfl
       subst ev3
       obtain ⟨v5, hv5a, hv5b⟩ := hv 5 (by simp) (by kernel_rfl)
       have ev5 := hv5b.val rfl
       subst ev5
       exact potg_cl rfl rfl 61 _ _ rfl #[(Q (uMax (uMax r.lo r.b.v) (sMax r.sl (uMax r.lo r.b.v)))), (Q (uMin (uMin r.hi (r.b.v ||| r.b.m)) (sMin r.sh (uMin r.hi (r.b.v ||| r.b.m)))))] (by simp only [List.map_toArray, List.map_cons, List.map_nil, (show ac.eval (.tmp 76) = (Q (uMax (uMax r.lo r.b.v) (sMax r.sl (uMax r.lo r.b.v)))) from (hv3a 76 rfl)), (show ac.eval (.tmp 78) = (Q (uMin (uMin r.hi (r.b.v ||| r.b.m)) (sMin r.sh (uMin r.hi (r.b.v ||| r.b.m))))) from (hv5a 78 rfl))] <;> rfl) (by kernel_rfl) (Value.agg (cellsOf (nC (sAlike (uMax (uMax r.lo r.b.v) (sMax r.sl (uMax r.lo r.b.v))) (uMin (uMin r.hi (r.b.v ||| r.b.m)) (sMin r.sh (uMin r.hi (r.b.v ||| r.b.m)))))) 2)) (fun K hK => Alike_any (uMax (uMax r.lo r.b.v) (sMax r.sl (uMax r.lo r.b.v))) (uMin (uMin r.hi (r.b.v ||| r.b.m)) (sMin r.sh (uMin r.hi (r.b.v ||| r.b.m)))) wa K hK) rfl hM111 hI
      ·obtain ⟨v1, hv1a, hv1b⟩ := hv 1 (by simp) (by kernel_rfl)
       have ev1 := hv1b.val rfl
       subst ev1
       obtain ⟨v6, hv6a, hv6b⟩ := hv 6 (by simp) (by kernel_rfl)
       have ev6 := hv6b.val rfl
       subst ev6
       exact potg_cl rfl rfl 60 _ _ rfl #[(Value.agg (cellsOf (nC r.b) 2)), (Value.agg (cellsOf (nC (sAlike (uMax (uMax r.lo r.b.v) (sMax r.sl (uMax r.lo r.b.v))) (uMin (uMin r.hi (r.b.v ||| r.b.m)) (sMin r.sh (uMin r.hi (r.b.v ||| r.b.m)))))) 2))] (by simp only [List.map_toArray, List.map_cons, List.map_nil, (show ac.eval (.tmp 74) = (Value.agg (cellsOf (nC r.b) 2)) from (hv1a 74 rfl)), (show ac.eval (.tmp 79) = (Value.agg (cellsOf (nC (sAlike (uMax (uMax r.lo r.b.v) (sMax r.sl (uMax r.lo r.b.v))) (uMin (uMin r.hi (r.b.v ||| r.b.m)) (sMin r.sh (uMin r.hi (r.b.v ||| r.b.m)))))) 2)) from (hv6a 79 rfl))] <;> rfl) (by kernel_rfl) (Value.tuple #[(Value.agg (cellsOf (nC (meetN r.b (sAlike (uMax (uMax r.lo r.b.v) (sMax r.sl (uMax r.lo r.b.v))) (uMin (uMin r.hi (r.b.v ||| r.b.m)) (sMin r.sh (uMin r.hi (r.b.v ||| r.b.m))))))) 2)), (Value.bool (meetB r.b (sAlike (uMax (uMax r.lo r.b.v) (sMax r.sl (uMax r.lo r.b.v))) (uMin (uMin r.hi (r.b.v ||| r.b.m)) (sMin r.sh (uMin r.hi (r.b.v ||| r.b.m)))))))]) (fun K hK => Meet_any r.b (sAlike (uMax (uMax r.lo r.b.v) (sMax r.sl (uMax r.lo r.b.v))) (uMin (uMin r.hi (r.b.v ||| r.b.m)) (sMin r.sh (uMin r.hi (r.b.v ||| r.b.m))))) wa K hK) rfl hM111 hI
      ·obtain ⟨v7, hv7a, hv7b⟩ := hv 7 (by simp) (by kernel_rfl)
       have ev7 := hv7b.val rfl
       subst ev7
       exact potg_run rfl rfl (Value.tuple #[(Value.agg (cellsOf (nC (meetN r.b (sAlike (uMax (uMax r.lo r.b.v) (sMax r.sl (uMax r.lo r.b.v))) (uMin (uMin r.hi (r.b.v ||| r.b.m)) (sMin r.sh (uMin r.hi (r.b.v ||| r.b.m))))))) 2)), (Value.bool (meetB r.b (sAlike (uMax (uMax r.lo r.b.v) (sMax r.sl (uMax r.lo r.b.v))) (uMin (uMin r.hi (r.b.v ||| r.b.m)) (sMin r.sh (uMin r.hi (r.b.v ||| r.b.m)))))))]) rfl (run_mv (x := (.tmp 80)) rfl _ (hv7a 80 rfl)) hM111 hI
      ·obtain ⟨v8, hv8a, hv8b⟩ := hv 8 (by simp) (by kernel_rfl)
       have ev8 := hv8b.val rfl
       subst ev8
       exact potg_run rfl rfl (Value.agg (cellsOf (nC (meetN r.b (sAlike (uMax (uMax r.lo r.b.v) (sMax r.sl (uMax r.lo r.b.v))) (uMin (uMin r.hi (r.b.v ||| r.b.m)) (sMin r.sh (uMin r.hi (r.b.v ||| r.b.m))))))) 2)) rfl (run_ex (x := (.tmp 72)) rfl _ (hv8a 72 rfl) rfl) hM111 hI
      ·obtain ⟨v8, hv8a, hv8b⟩ := hv 8 (by simp) (by kernel_rfl)
       have ev8 := hv8b.val rfl
       subst ev8
       exact potg_run rfl rfl (Value.bool (meetB r.b (sAlike (uMax (uMax r.lo r.b.v) (sMax r.sl (uMax r.lo r.b.v))) (uMin (uMin r.hi (r.b.v ||| r.b.m)) (sMin r.sh (uMin r.hi (r.b.v ||| r.b.m))))))) rfl (run_ex (x := (.tmp 72)) rfl _ (hv8a 72 rfl) rfl) hM111 hI
      ·exact potg_al rfl rfl rfl zeT rfl rfl hM111 hI
     ·intro vals w5_114_ hb5_114_ hF hG
      have e_114_0 := (hF 0 (by simp)).val rfl
      have e_114_1 := (hF 1 (by simp)).val rfl
      have e_114_2 := (hF 2 (by simp)).val rfl
      have e_114_3 := (hF 3 (by simp)).val rfl
      have e_114_4 := (hF 4 (by simp)).val rfl
      have e_114_5 := (hF 5 (by simp)).val rfl
      have e_114_6 := (hF 6 (by simp)).val rfl
      have e_114_7 := (hF 7 (by simp)).val rfl
      have e_114_8 := (hF 8 (by simp)).val rfl
      have e_114_9 := (hF 9 (by simp)).val rfl
      have e_114_10 := (hF 10 (by simp)).val rfl
      obtain ⟨b_114_11, l_114_11, e_114_11, h_114_11⟩ := (hF 11 (by simp)).al rfl rfl
      clear hF hG
      simp only [List.foldl_cons, List.foldl_nil, dstOf, List.getElem?_toArray, List.getElem?_cons_succ, List.getElem?_cons_zero, Option.bind_some, Act.put, List.setIfInBounds_toArray, List.set_cons_succ, List.set_cons_zero, e_114_0, e_114_1, e_114_2, e_114_3, e_114_4, e_114_5, e_114_6, e_114_7, e_114_8, e_114_9, e_114_10, e_114_11]
      clear e_114_0 e_114_1 e_114_2 e_114_3 e_114_4 e_114_5 e_114_6 e_114_7 e_114_8 e_114_9 e_114_10 e_114_11
      have k122 := k107.below hb5_114_ (by omega)
      have k123 := k108.below hb5_114_ (by omega)
      have lo124 := lo109.trans (hb5_114_.mono (by omega))
      clear k107 c116 c117 c118 c119 c120 c121 k108 lo109 hb5_114_
      refine wpAny_chain [12, 13] _ _ _ _ (by kernel_rfl) (by decide) ?_
      simp only [List.filterMap_cons, List.filterMap_nil, List.getElem?_toArray, List.getElem?_cons_succ, List.getElem?_cons_zero]
      refine wpl_store rfl 39 (.tmp 4) (.tmp 81) rfl b_114_11 2 (nC (meetN r.b (sAlike (uMax (uMax r.lo r.b.v) (sMax r.sl (uMax r.lo r.b.v))) (uMin (uMin r.hi (r.b.v ||| r.b.m)) (sMin r.sh (uMin r.hi (r.b.v ||| r.b.m))))))) rfl rfl 39 _ h_114_11 szT (fun j _ => nC_one _ j) ?_
      intro xw125 t126 k127
      have k128 := k122.touch t126 (by omega)
      have k129 := k123.touch t126 (by omega)
      have lo130 := t126.below lo124 (by omega)
      clear h_114_11 k122 k123 lo124 t126
      refine wpl_run rfl (Value.bool (meetB r.b (sAlike (uMax (uMax r.lo r.b.v) (sMax r.sl (uMax r.lo r.b.v))) (uMin (uMin r.hi (r.b.v ||| r.b.m)) (sMin r.sh (uMin r.hi (r.b.v ||| r.b.m))))))) _ (run_as (x := (.tmp 82)) rfl _ rfl) ?_; simp only [pA]
      refine ⟨rfl, b_114_11, (by simp only [pA]), k127, k128, k129, (by omega), lo130⟩
     ·intro vals w5_114_ hb5_114_ hF hG
      have e_114_0 := (hF 0 (by simp) (by omega)).val rfl
      have e_114_1 := (hF 1 (by simp) (by omega)).val rfl
      have e_114_2 := (hF 2 (by simp) (by omega)).val rfl
      have e_114_3 := (hF 3 (by simp) (by omega)).val rfl
      have e_114_4 := (hF 4 (by simp) (by omega)).val rfl
      have e_114_5 := (hF 5 (by simp) (by omega)).val rfl
      have e_114_6 := (hF 6 (by simp) (by omega)).val rfl
      have e_114_7 := (hF 7 (by simp) (by omega)).val rfl
      have e_114_8 := (hF 8 (by simp) (by omega)).val rfl
      have e_114_9 := (hF 9 (by simp) (by omega)).val rfl
      obtain ⟨b_114_11, l_114_11, e_114_11, h_114_11⟩ := (hF 11 (by simp) (by omega)).al rfl rfl
      clear hF hG
      rw [show (List.filter (fun j => !(j == 10)) [0, 1, 2, 3, 4, 5, 6, 7, 8, 9, 10, 11]) = [0, 1, 2, 3, 4, 5, 6, 7, 8, 9, 11] from rfl]
      simp only [List.foldl_cons, List.foldl_nil, dstOf, List.getElem?_toArray, List.getElem?_cons_succ, List.getElem?_cons_zero, Option.bind_some, Act.put, List.setIfInBounds_toArray, List.set_cons_succ, List.set_cons_zero, e_114_0, e_114_1, e_114_2, e_114_3, e_114_4, e_114_5, e_114_6, e_114_7, e_114_8, e_114_9, e_114_11]
      clear e_114_0 e_114_1 e_114_2 e_114_3 e_114_4 e_114_5 e_114_6 e_114_7 e_114_8 e_114_9 e_114_11
      have k122 := k107.below hb5_114_ (by omega)
      have k123 := k108.below hb5_114_ (by omega)
      have lo124 := lo109.trans (hb5_114_.mono (by omega))
      clear k107 c116 c117 c118 c119 c120 c121 k108 lo109 hb5_114_
      refine wpAny_fork 10 12 [12, 13] [10, 13] 2 _ _ _ (by kernel_rfl) (by kernel_rfl) ?_ ?_
      ·simp only [List.filterMap_cons, List.filterMap_nil, List.getElem?_toArray, List.getElem?_cons_succ, List.getElem?_cons_zero]
       refine wpl_run rfl (Value.bool (meetB r.b (sAlike (uMax (uMax r.lo r.b.v) (sMax r.sl (uMax r.lo r.b.v))) (uMin (uMin r.hi (r.b.v ||| r.b.m)) (sMin r.sh (uMin r.hi (r.b.v ||| r.b.m))))))) _ (run_ex (x := (.tmp 72)) rfl _ rfl rfl) ?_; simp only [pA]
       refine wpl_store rfl 39 (.tmp 4) (.tmp 81) rfl b_114_11 2 (nC (meetN r.b (sAlike (uMax (uMax r.lo r.b.v) (sMax r.sl (uMax r.lo r.b.v))) (uMin (uMin r.hi (r.b.v ||| r.b.m)) (sMin r.sh (uMin r.hi (r.b.v ||| r.b.m))))))) rfl rfl 39 _ h_114_11 szT (fun j _ => nC_one _ j) ?_
       intro xw125 t126 k127
       have k128 := k122.touch t126 (by omega)
       have k129 := k123.touch t126 (by omega)
       have lo130 := t126.below lo124 (by omega)
       clear h_114_11 k122 k123 lo124 t126
       refine wpl_run rfl (Value.bool (meetB r.b (sAlike (uMax (uMax r.lo r.b.v) (sMax r.sl (uMax r.lo r.b.v))) (uMin (uMin r.hi (r.b.v ||| r.b.m)) (sMin r.sh (uMin r.hi (r.b.v ||| r.b.m))))))) _ (run_as (x := (.tmp 82)) rfl _ rfl) ?_; simp only [pA]
       refine ⟨rfl, b_114_11, (by simp only [pA]), k127, k128, k129, (by omega), lo130⟩
      ·simp only [List.filterMap_cons, List.filterMap_nil, List.getElem?_toArray, List.getElem?_cons_succ, List.getElem?_cons_zero]
       refine wpl_store rfl 39 (.tmp 4) (.tmp 81) rfl b_114_11 2 (nC (meetN r.b (sAlike (uMax (uMax r.lo r.b.v) (sMax r.sl (uMax r.lo r.b.v))) (uMin (uMin r.hi (r.b.v ||| r.b.m)) (sMin r.sh (uMin r.hi (r.b.v ||| r.b.m))))))) rfl rfl 39 _ h_114_11 szT (fun j _ => nC_one _ j) ?_
       intro xw125 t126 k127
       have k128 := k122.touch t126 (by omega)
       have k129 := k123.touch t126 (by omega)
       have lo130 := t126.below lo124 (by omega)
       clear h_114_11 k122 k123 lo124 t126
       refine wpl_run rfl (Value.bool (meetB r.b (sAlike (uMax (uMax r.lo r.b.v) (sMax r.sl (uMax r.lo r.b.v))) (uMin (uMin r.hi (r.b.v ||| r.b.m)) (sMin r.sh (uMin r.hi (r.b.v ||| r.b.m))))))) _ (run_ex (x := (.tmp 72)) rfl _ rfl rfl) ?_; simp only [pA]
       refine wpl_run rfl (Value.bool (meetB r.b (sAlike (uMax (uMax r.lo r.b.v) (sMax r.sl (uMax r.lo r.b.v))) (uMin (uMin r.hi (r.b.v ||| r.b.m)) (sMin r.sh (uMin r.hi (r.b.v ||| r.b.m))))))) _ (run_as (x := (.tmp 82)) rfl _ rfl) ?_; simp only [pA]
       refine ⟨rfl, b_114_11, (by simp only [pA]), k127, k128, k129, (by omega), lo130⟩
    ·clear k107 k108 lo109
     rintro b_114_x xw119 ⟨k115, k116, k117, lb_114_x, lo118⟩
     try dsimp only
     try simp only [pA]
     obtain ⟨M120, hM120⟩ := sz_some xw119
     have lt_121 := k116.ltN hM120
     have lt_122 := k117.ltN hM120
     have lt_123 := k115.ltN hM120
     cases h4_ : (meetB r.b (sAlike (uMax (uMax r.lo r.b.v) (sMax r.sl (uMax r.lo r.b.v))) (uMin (uMin r.hi (r.b.v ||| r.b.m)) (sMin r.sh (uMin r.hi (r.b.v ||| r.b.m))))))
     ·have H4_ := hid h4_
      clear h4_
      go_upto_region 9 with fail
      obtain ⟨c124, c125, c126, c127, c128, c129⟩ := r_cells5 k116
      refine wp_region_later1 (M120) ?_
      try simp only [pA]
      iterate 16 (go_big_quiet_step (fail))
      refine wpQuiet_nil (laterE hM120 ?_)
      intro xw130 M131 hbxw130 hM131 lM131
      have k132 := k116.below hbxw130 (by omega)
      have k133 := k117.below hbxw130 (by omega)
      have k134 := k115.below hbxw130 (by omega)
      have lo135 := lo118.trans (hbxw130.mono (by omega))
      clear k116 c124 c125 c126 c127 c128 c129 k117 k115 lo118 hbxw130
      go_upto_region 10 with fail
      refine wp_region_lit ?_
      try simp only [pA]
      change wpList _ _ _ ((_ :: []) ++ (_ :: _ :: [])) _ _
      refine wpList_prefix (C := fun w' => ∃ x : Later M131 xw130, w' = x.w') _ _ _ _ ⟨⟨_, Below.refl _ _⟩, rfl⟩ ?_
      refine later_val (fun q => run_bd 41 _ rfl (cellsOf (rC ⟨zeroN, 0#64, 0#64, 0#64, 0#64⟩) 6) (by kernel_rfl) q.w') (by rfl) ?_; simp only [pA]
      refine wpQuiet_nil (laterE hM131 ?_)
      intro xw136 M137 hbxw136 hM137 lM137
      have k138 := k132.below hbxw136 (by omega)
      have k139 := k133.below hbxw136 (by omega)
      have k140 := k134.below hbxw136 (by omega)
      have lo141 := lo135.trans (hbxw136.mono (by omega))
      clear k132 k133 k134 lo135 hbxw136
      refine wpl_store rfl 41 (.tmp 2) (.tmp 99) rfl (N + 1) 6 (rC ⟨zeroN, 0#64, 0#64, 0#64, 0#64⟩) rfl rfl 41 _ k139 szR (fun j _ => rC_one _ j) ?_
      intro xw142 t143 k144; try simp only [pA]
      have k145 := k138.touch t143 (by omega)
      have k146 := k140.touch t143 (by omega)
      have lo147 := t143.below lo141 (by omega)
      have h148 := t143.sz hM137
      clear k139 k138 k140 lo141 hM137 t143
      refine wpl_run rfl (Value.bool false) _ (run_as (x := (.const (.bool false))) rfl _ rfl) ?_; simp only [pA]
      obtain ⟨M149, hM149⟩ := sz_some xw142
      have lt_150 := k145.ltN hM149
      have lt_151 := k144.ltN hM149
      have lt_152 := k146.ltN hM149
      go_wp2_with fail
      refine post_rb rfl (N + 1) rfl k144 undR szR rfl rfl ?_
      exact ⟨by rw [ER.out]; first | rfl | (simp only [settleF, sT1, sT2, sT3, sT4, H1_.out, H2_.out, H3_.out, H4_.out, bB] <;> rfl), lo147⟩
     ·have H4_ := hid h4_
      clear h4_
      cases h5_ : (BitVec.ult (uMin (uMin r.hi (r.b.v ||| r.b.m)) (sMin r.sh (uMin r.hi (r.b.v ||| r.b.m)))) (uMax (uMax r.lo r.b.v) (sMax r.sl (uMax r.lo r.b.v))))
      ·have H5_ := hid h5_
       clear h5_
       cases h6_ : (BitVec.slt (sMin r.sh (uMin r.hi (r.b.v ||| r.b.m))) (sMax r.sl (uMax r.lo r.b.v)))
       ·have H6_ := hid h6_
        clear h6_
        go_upto_region 9 with fail
        obtain ⟨c124, c125, c126, c127, c128, c129⟩ := r_cells5 k116
        refine wp_region_later1 (M120) ?_
        try simp only [pA]
        iterate 4 (go_big_quiet_step (fail))
        refine later_c1 hM120 22 (.tmp 86) rfl rfl und64 rfl c126 (by rfl) ?_; simp only [pA]
        go_big_quiet_step (fail)
        refine later_c1 hM120 22 (.tmp 88) rfl rfl und64 rfl c127 (by rfl) ?_; simp only [pA]
        refine later_b (x := (.tmp 87)) (y := (.tmp 89)) rfl (BinRun.is H5_.out (bin_gtr _ (uMax (uMax r.lo r.b.v) (sMax r.sl (uMax r.lo r.b.v))) (uMin (uMin r.hi (r.b.v ||| r.b.m)) (sMin r.sh (uMin r.hi (r.b.v ||| r.b.m)))))) rfl rfl (by rfl) ?_; simp only [pA]
        iterate 3 (go_big_quiet_step (fail))
        refine later_c1 hM120 2 (.tmp 93) rfl rfl undI64 rfl c128 (by rfl) ?_; simp only [pA]
        go_big_quiet_step (fail)
        refine later_c1 hM120 2 (.tmp 95) rfl rfl undI64 rfl c129 (by rfl) ?_; simp only [pA]
        refine later_b (x := (.tmp 94)) (y := (.tmp 96)) rfl (BinRun.is H6_.out (bin_sgtr _ (sMax r.sl (uMax r.lo r.b.v)) (sMin r.sh (uMin r.hi (r.b.v ||| r.b.m))))) rfl rfl (by rfl) ?_; simp only [pA]
        go_big_quiet_step (fail)
        refine wpQuiet_nil (laterE hM120 ?_)
        intro xw130 M131 hbxw130 hM131 lM131
        have k132 := k116.below hbxw130 (by omega)
        have k133 := k117.below hbxw130 (by omega)
        have k134 := k115.below hbxw130 (by omega)
        have lo135 := lo118.trans (hbxw130.mono (by omega))
        clear k116 c124 c125 c126 c127 c128 c129 k117 k115 lo118 hbxw130
        go_upto_region 11 with fail
        refine wp_region_lit ?_
        try simp only [pA]
        refine wpl_run rfl (.agg (cellsOf (nC (meetN r.b (sAlike (uMax (uMax r.lo r.b.v) (sMax r.sl (uMax r.lo r.b.v))) (uMin (uMin r.hi (r.b.v ||| r.b.m)) (sMin r.sh (uMin r.hi (r.b.v ||| r.b.m))))))) 2)) _ (run_rw 39 (.tmp 4) rfl b_114_x rfl 39 2 _ k134 undT szT) ?_; simp only [pA]
        refine wpl_run rfl (.pointer (some ⟨N, 0, none⟩)) xw130 (by kernel_rfl) ?_; simp only [pA]
        refine wpl_store_part rfl 39 (.tmp 101) (.tmp 100) rfl N 0 rfl 2 (nC (meetN r.b (sAlike (uMax (uMax r.lo r.b.v) (sMax r.sl (uMax r.lo r.b.v))) (uMin (uMin r.hi (r.b.v ||| r.b.m)) (sMin r.sh (uMin r.hi (r.b.v ||| r.b.m))))))) rfl 41 6 _ k132 (by omega) szT (fun j _ => nC_one _ j) ?_
        intro xw136 t137 k138_; try simp only [pA]
        have k138 : Has xw136 N 41 6 (rC ⟨(meetN r.b (sAlike (uMax (uMax r.lo r.b.v) (sMax r.sl (uMax r.lo r.b.v))) (uMin (uMin r.hi (r.b.v ||| r.b.m)) (sMin r.sh (uMin r.hi (r.b.v ||| r.b.m)))))), (uMax (uMax r.lo r.b.v) (sMax r.sl (uMax r.lo r.b.v))), (uMin (uMin r.hi (r.b.v ||| r.b.m)) (sMin r.sh (uMin r.hi (r.b.v ||| r.b.m)))), (sMax r.sl (uMax r.lo r.b.v)), (sMin r.sh (uMin r.hi (r.b.v ||| r.b.m)))⟩) := k138_.congr (fun j hj => lay_bits _ _ _ _ _ _ j)
        have k139 := k133.touch t137 (by omega)
        have k140 := k134.touch t137 (by omega)
        have lo141 := t137.below lo135 (by omega)
        clear k132 k138_ k133 k134 lo135 t137
        obtain ⟨M142, hM142⟩ := sz_some xw136
        have lt_143 := k138.ltN hM142
        have lt_144 := k139.ltN hM142
        have lt_145 := k140.ltN hM142
        go_upto_region 12 with fail
        refine wp_region_lit ?_
        try simp only [pA]
        change wpList _ _ _ ((_ :: []) ++ (_ :: _ :: [])) _ _
        refine wpList_prefix (C := fun w' => ∃ x : Later M142 xw136, w' = x.w') _ _ _ _ ⟨⟨_, Below.refl _ _⟩, rfl⟩ ?_
        refine later_row hM142 41 (.tmp 1) rfl (N) rfl 41 6 _ k138 undR szR (by rfl) ?_; simp only [pA]
        refine wpQuiet_nil (laterE hM142 ?_)
        intro xw146 M147 hbxw146 hM147 lM147
        have k148 := k138.below hbxw146 (by omega)
        have k149 := k139.below hbxw146 (by omega)
        have k150 := k140.below hbxw146 (by omega)
        have lo151 := lo141.trans (hbxw146.mono (by omega))
        clear k138 k139 k140 lo141 hbxw146
        refine wpl_store rfl 41 (.tmp 2) (.tmp 102) rfl (N + 1) 6 (rC ⟨(meetN r.b (sAlike (uMax (uMax r.lo r.b.v) (sMax r.sl (uMax r.lo r.b.v))) (uMin (uMin r.hi (r.b.v ||| r.b.m)) (sMin r.sh (uMin r.hi (r.b.v ||| r.b.m)))))), (uMax (uMax r.lo r.b.v) (sMax r.sl (uMax r.lo r.b.v))), (uMin (uMin r.hi (r.b.v ||| r.b.m)) (sMin r.sh (uMin r.hi (r.b.v ||| r.b.m)))), (sMax r.sl (uMax r.lo r.b.v)), (sMin r.sh (uMin r.hi (r.b.v ||| r.b.m)))⟩) rfl rfl 41 _ k149 szR (fun j _ => rC_one _ j) ?_
        intro xw152 t153 k154; try simp only [pA]
        have k155 := k148.touch t153 (by omega)
        have k156 := k150.touch t153 (by omega)
        have lo157 := t153.below lo151 (by omega)
        have h158 := t153.sz hM147
        clear k149 k148 k150 lo151 hM147 t153
        refine wpl_run rfl (Value.bool true) _ (run_as (x := (.const (.bool true))) rfl _ rfl) ?_; simp only [pA]
        obtain ⟨M159, hM159⟩ := sz_some xw152
        have lt_160 := k155.ltN hM159
        have lt_161 := k154.ltN hM159
        have lt_162 := k156.ltN hM159
        go_wp2_with fail
        refine post_rb rfl (N + 1) rfl k154 undR szR rfl rfl ?_
        exact ⟨by rw [ER.out]; first | rfl | (simp only [settleF, sT1, sT2, sT3, sT4, H1_.out, H2_.out, H3_.out, H4_.out, H5_.out, H6_.out, bB] <;> rfl), lo157⟩
       ·have H6_ := hid h6_
        clear h6_
        go_upto_region 9 with fail
        obtain ⟨c124, c125, c126, c127, c128, c129⟩ := r_cells5 k116
        refine wp_region_later1 (M120) ?_
        try simp only [pA]
        iterate 4 (go_big_quiet_step (fail))
        refine later_c1 hM120 22 (.tmp 86) rfl rfl und64 rfl c126 (by rfl) ?_; simp only [pA]
        go_big_quiet_step (fail)
        refine later_c1 hM120 22 (.tmp 88) rfl rfl und64 rfl c127 (by rfl) ?_; simp only [pA]
        refine later_b (x := (.tmp 87)) (y := (.tmp 89)) rfl (BinRun.is H5_.out (bin_gtr _ (uMax (uMax r.lo r.b.v) (sMax r.sl (uMax r.lo r.b.v))) (uMin (uMin r.hi (r.b.v ||| r.b.m)) (sMin r.sh (uMin r.hi (r.b.v ||| r.b.m)))))) rfl rfl (by rfl) ?_; simp only [pA]
        iterate 3 (go_big_quiet_step (fail))
        refine later_c1 hM120 2 (.tmp 93) rfl rfl undI64 rfl c128 (by rfl) ?_; simp only [pA]
        go_big_quiet_step (fail)
        refine later_c1 hM120 2 (.tmp 95) rfl rfl undI64 rfl c129 (by rfl) ?_; simp only [pA]
        refine later_b (x := (.tmp 94)) (y := (.tmp 96)) rfl (BinRun.is H6_.out (bin_sgtr _ (sMax r.sl (uMax r.lo r.b.v)) (sMin r.sh (uMin r.hi (r.b.v ||| r.b.m))))) rfl rfl (by rfl) ?_; simp only [pA]
        go_big_quiet_step (fail)
        refine wpQuiet_nil (laterE hM120 ?_)
        intro xw130 M131 hbxw130 hM131 lM131
        have k132 := k116.below hbxw130 (by omega)
        have k133 := k117.below hbxw130 (by omega)
        have k134 := k115.below hbxw130 (by omega)
        have lo135 := lo118.trans (hbxw130.mono (by omega))
        clear k116 c124 c125 c126 c127 c128 c129 k117 k115 lo118 hbxw130
        go_upto_region 10 with fail
        refine wp_region_lit ?_
        try simp only [pA]
        change wpList _ _ _ ((_ :: []) ++ (_ :: _ :: [])) _ _
        refine wpList_prefix (C := fun w' => ∃ x : Later M131 xw130, w' = x.w') _ _ _ _ ⟨⟨_, Below.refl _ _⟩, rfl⟩ ?_
        refine later_val (fun q => run_bd 41 _ rfl (cellsOf (rC ⟨zeroN, 0#64, 0#64, 0#64, 0#64⟩) 6) (by kernel_rfl) q.w') (by rfl) ?_; simp only [pA]
        refine wpQuiet_nil (laterE hM131 ?_)
        intro xw136 M137 hbxw136 hM137 lM137
        have k138 := k132.below hbxw136 (by omega)
        have k139 := k133.below hbxw136 (by omega)
        have k140 := k134.below hbxw136 (by omega)
        have lo141 := lo135.trans (hbxw136.mono (by omega))
        clear k132 k133 k134 lo135 hbxw136
        refine wpl_store rfl 41 (.tmp 2) (.tmp 99) rfl (N + 1) 6 (rC ⟨zeroN, 0#64, 0#64, 0#64, 0#64⟩) rfl rfl 41 _ k139 szR (fun j _ => rC_one _ j) ?_
        intro xw142 t143 k144; try simp only [pA]
        have k145 := k138.touch t143 (by omega)
        have k146 := k140.touch t143 (by omega)
        have lo147 := t143.below lo141 (by omega)
        have h148 := t143.sz hM137
        clear k139 k138 k140 lo141 hM137 t143
        refine wpl_run rfl (Value.bool false) _ (run_as (x := (.const (.bool false))) rfl _ rfl) ?_; simp only [pA]
        obtain ⟨M149, hM149⟩ := sz_some xw142
        have lt_150 := k145.ltN hM149
        have lt_151 := k144.ltN hM149
        have lt_152 := k146.ltN hM149
        go_wp2_with fail
        refine post_rb rfl (N + 1) rfl k144 undR szR rfl rfl ?_
        exact ⟨by rw [ER.out]; first | rfl | (simp only [settleF, sT1, sT2, sT3, sT4, H1_.out, H2_.out, H3_.out, H4_.out, H5_.out, H6_.out, bB] <;> rfl), lo147⟩
      ·have H5_ := hid h5_
       clear h5_
       go_upto_region 9 with fail
       obtain ⟨c124, c125, c126, c127, c128, c129⟩ := r_cells5 k116
       refine wp_region_later1 (M120) ?_
       try simp only [pA]
       iterate 4 (go_big_quiet_step (fail))
       refine later_c1 hM120 22 (.tmp 86) rfl rfl und64 rfl c126 (by rfl) ?_; simp only [pA]
       go_big_quiet_step (fail)
       refine later_c1 hM120 22 (.tmp 88) rfl rfl und64 rfl c127 (by rfl) ?_; simp only [pA]
       refine later_b (x := (.tmp 87)) (y := (.tmp 89)) rfl (BinRun.is H5_.out (bin_gtr _ (uMax (uMax r.lo r.b.v) (sMax r.sl (uMax r.lo r.b.v))) (uMin (uMin r.hi (r.b.v ||| r.b.m)) (sMin r.sh (uMin r.hi (r.b.v ||| r.b.m)))))) rfl rfl (by rfl) ?_; simp only [pA]
       iterate 8 (go_big_quiet_step (fail))
       refine wpQuiet_nil (laterE hM120 ?_)
       intro xw130 M131 hbxw130 hM131 lM131
       have k132 := k116.below hbxw130 (by omega)
       have k133 := k117.below hbxw130 (by omega)
       have k134 := k115.below hbxw130 (by omega)
       have lo135 := lo118.trans (hbxw130.mono (by omega))
       clear k116 c124 c125 c126 c127 c128 c129 k117 k115 lo118 hbxw130
       go_upto_region 10 with fail
       refine wp_region_lit ?_
       try simp only [pA]
       change wpList _ _ _ ((_ :: []) ++ (_ :: _ :: [])) _ _
       refine wpList_prefix (C := fun w' => ∃ x : Later M131 xw130, w' = x.w') _ _ _ _ ⟨⟨_, Below.refl _ _⟩, rfl⟩ ?_
       refine later_val (fun q => run_bd 41 _ rfl (cellsOf (rC ⟨zeroN, 0#64, 0#64, 0#64, 0#64⟩) 6) (by kernel_rfl) q.w') (by rfl) ?_; simp only [pA]
       refine wpQuiet_nil (laterE hM131 ?_)
       intro xw136 M137 hbxw136 hM137 lM137
       have k138 := k132.below hbxw136 (by omega)
       have k139 := k133.below hbxw136 (by omega)
       have k140 := k134.below hbxw136 (by omega)
       have lo141 := lo135.trans (hbxw136.mono (by omega))
       clear k132 k133 k134 lo135 hbxw136
       refine wpl_store rfl 41 (.tmp 2) (.tmp 99) rfl (N + 1) 6 (rC ⟨zeroN, 0#64, 0#64, 0#64, 0#64⟩) rfl rfl 41 _ k139 szR (fun j _ => rC_one _ j) ?_
       intro xw142 t143 k144; try simp only [pA]
       have k145 := k138.touch t143 (by omega)
       have k146 := k140.touch t143 (by omega)
       have lo147 := t143.below lo141 (by omega)
       have h148 := t143.sz hM137
       clear k139 k138 k140 lo141 hM137 t143
       refine wpl_run rfl (Value.bool false) _ (run_as (x := (.const (.bool false))) rfl _ rfl) ?_; simp only [pA]
       obtain ⟨M149, hM149⟩ := sz_some xw142
       have lt_150 := k145.ltN hM149
       have lt_151 := k144.ltN hM149
       have lt_152 := k146.ltN hM149
       go_wp2_with fail
       refine post_rb rfl (N + 1) rfl k144 undR szR rfl rfl ?_
       exact ⟨by rw [ER.out]; first | rfl | (simp only [settleF, sT1, sT2, sT3, sT4, H1_.out, H2_.out, H3_.out, H4_.out, H5_.out, bB] <;> rfl), lo147⟩
end Go.Proofs.Ytmdcopmgkhjfnaa
