/- The document's ranges: to, Has. -/
import Derived.Test.YtmdcopmgkhjfnaaSe0
import Derived.Test.YtmdcopmgkhjfnaaNrr
namespace Go.Proofs.Ytmdcopmgkhjfnaa
open Go Go.RowKit
theorem undRU : ∃ d, Try.prog.underlying 34 = some d ∧ d.isRow = true := row_ofN (by kernel_rfl)
theorem szRU : (Try.prog.info? 34).map (·.size) = some 6 := by kernel_rfl
theorem zeRU : (Try.prog.info? 34).map (fun i => (i.zero, i.size)) = some (some (.agg (cellsOf (rC zeroR) 6)), 6) := by kernel_rfl
def toR (a : Rn) : Rn := a
theorem faRU0 (b : Nat) (w : World) : (Instr.fieldAt 34 (.pointer (some ⟨b, 0, none⟩)) 0).run Try.prog w = .ok (.pointer (some ⟨b, 0, none⟩)) w := by go_simp
theorem faRU1 (b : Nat) (w : World) : (Instr.fieldAt 34 (.pointer (some ⟨b, 0, none⟩)) 1).run Try.prog w = .ok (.pointer (some ⟨b, 2, none⟩)) w := by go_simp
theorem faRU2 (b : Nat) (w : World) : (Instr.fieldAt 34 (.pointer (some ⟨b, 0, none⟩)) 2).run Try.prog w = .ok (.pointer (some ⟨b, 3, none⟩)) w := by go_simp
theorem faRU3 (b : Nat) (w : World) : (Instr.fieldAt 34 (.pointer (some ⟨b, 0, none⟩)) 3).run Try.prog w = .ok (.pointer (some ⟨b, 4, none⟩)) w := by go_simp
theorem faRU4 (b : Nat) (w : World) : (Instr.fieldAt 34 (.pointer (some ⟨b, 0, none⟩)) 4).run Try.prog w = .ok (.pointer (some ⟨b, 5, none⟩)) w := by go_simp
set_option maxRecDepth 100000 in
set_option maxHeartbeats 4000000 in
theorem To14_ (a : Rn) (w : World) (N : Nat) (hN : Sz w N) : Calls Try.prog 26 #[rV a] w fun e w' => e = .returned (rV (toR a)) ∧ Below N w w' := by
 obtain ⟨rr, er⟩ : ∃ rr, rr = (toR a) := ⟨_, rfl⟩
 rw [← er]
 have ER := hid er
 clear er
 unfold rV
 go_enter Try.func26, Try.ntmps26
 go_upto_region 1 with (first
  | (refine wpl_box rfl 34 (.tmp 0) rfl 6 _ rfl (N) hN ?_; intro w1 hN1 hb1 hh1)
  | (refine wpl_alloc rfl 41 rfl 6 (rC zeroR) zeR (N + 1) hN1 ?_; intro w2 hN2 hb2 hh2)
  | fail)
 have lo0 : Below N w w2 := (hb1.trans (hb2.mono (by omega)))
 have k1 := (hh1.below hb2 (by omega))
 have k2 := hh2
 clear hh1 hb1 hh2 hb2 hN1
 go_upto_region 1 with fail
 refine wp_region_lit ?_
 try simp only [pA]
 change wpList _ _ _ ((_ :: _ :: _ :: _ :: _ :: _ :: _ :: _ :: _ :: _ :: _ :: _ :: _ :: _ :: _ :: _ :: []) ++ (_ :: [])) _ _
 obtain ⟨c3, c4, c5, c6, c7, c8⟩ := r_cells k1
 refine wpList_prefix (C := fun w' => ∃ x : Later (N + 1 + 1) w2, w' = x.w') _ _ _ _ ⟨⟨_, Below.refl _ _⟩, rfl⟩ ?_
 iterate 2 (go_big_quiet_step (fail))
 refine later_c1 hN2 22 (.tmp 4) rfl rfl und64 rfl c3 (by rfl) ?_; simp only [pA]
 iterate 2 (go_big_quiet_step (fail))
 refine later_c1 hN2 22 (.tmp 7) rfl rfl und64 rfl c4 (by rfl) ?_; simp only [pA]
 refine later_val (fun q => run_bd 39 _ rfl (cellsOf (nC ⟨a.b.v, a.b.m⟩) 2) (by kernel_rfl) q.w') (by rfl) ?_; simp only [pA]
 go_big_quiet_step (fail)
 refine later_c1 hN2 22 (.tmp 10) rfl rfl und64 rfl c5 (by rfl) ?_; simp only [pA]
 go_big_quiet_step (fail)
 refine later_c1 hN2 22 (.tmp 12) rfl rfl und64 rfl c6 (by rfl) ?_; simp only [pA]
 go_big_quiet_step (fail)
 refine later_c1 hN2 2 (.tmp 14) rfl rfl undI64 rfl c7 (by rfl) ?_; simp only [pA]
 go_big_quiet_step (fail)
 refine later_c1 hN2 2 (.tmp 16) rfl rfl undI64 rfl c8 (by rfl) ?_; simp only [pA]
 refine later_val (fun q => run_bd 41 _ rfl (cellsOf (rC ⟨⟨a.b.v, a.b.m⟩, a.lo, a.hi, a.sl, a.sh⟩) 6) (by kernel_rfl) q.w') (by rfl) ?_; simp only [pA]
 refine wpQuiet_nil (laterE hN2 ?_)
 intro xw9 M10 hbxw9 hM10 lM10
 have k11 := k1.below hbxw9 (by omega)
 have k12 := k2.below hbxw9 (by omega)
 have lo13 := lo0.trans (hbxw9.mono (by omega))
 clear k1 c3 c4 c5 c6 c7 c8 k2 lo0 hbxw9
 refine wpl_store rfl 41 (.tmp 2) (.tmp 18) rfl (N + 1) 6 (rC ⟨⟨a.b.v, a.b.m⟩, a.lo, a.hi, a.sl, a.sh⟩) rfl rfl 41 _ k12 szR (fun j _ => rC_one _ j) ?_
 intro xw14 t15 k16; try simp only [pA]
 have k17 := k11.touch t15 (by omega)
 have lo18 := t15.below lo13 (by omega)
 have h19 := t15.sz hM10
 clear k12 k11 lo13 hM10 t15
 obtain ⟨M20, hM20⟩ := sz_some xw14
 have lt_21 := k17.ltN hM20
 have lt_22 := k16.ltN hM20
 go_wp2_with fail
 refine post_r rfl (N + 1) rfl k16 undR szR rfl ?_
 exact ⟨by rw [ER.out]; first | rfl | (simp only [toR, bB] <;> rfl), lo18⟩
theorem To14_any (a : Rn) (w : World) (N : Nat) (hN : Sz w N) : Calls Try.prog 26 #[rV a] w fun e w' => e = .returned (rV a) ∧ Below N w w' := To14_ a w N hN
def rsHas (a : Rn) (x : W) : Bool :=
 bif (tHas a.b x) then bif (BitVec.ule a.lo x) then bif (BitVec.ule x a.hi) then bif (BitVec.sle a.sl x) then (BitVec.sle x a.sh)
    else false
   else false
  else false
 else false
set_option maxRecDepth 100000 in
set_option maxHeartbeats 4000000 in
theorem RSHas_ (a : Rn) (x : W) (w : World) (N : Nat) (hN : Sz w N) : Calls Try.prog 34 #[rV a, (Q x)] w fun e w' => e = .returned (.bool (rsHas a x)) ∧ Below N w w' := by
 obtain ⟨rr, er⟩ : ∃ rr, rr = (rsHas a x) := ⟨_, rfl⟩
 rw [← er]
 have ER := hid er
 clear er
 unfold rV
 go_enter Try.func34, Try.ntmps34
 go_upto_region 1 with (first
  | (refine wpl_box rfl 34 (.tmp 0) rfl 6 _ rfl (N) hN ?_; intro w1 hN1 hb1 hh1)
  | fail)
 have lo0 : Below N w w1 := hb1
 have k1 := hh1
 clear hh1 hb1
 cases h1_ : (tHas a.b x)
 ·have H1_ := hid h1_
  clear h1_
  go_upto_region 1 with fail
  obtain ⟨c2, c3, c4, c5, c6, c7⟩ := r_cells k1
  refine wp_region_later1 ((N + 1)) ?_
  try simp only [pA]
  go_big_quiet_step (fail)
  refine later_val (fun qq => run_bits 32 (.tmp 5) rfl N rfl 34 (Later.has hN1 k1 qq) undU szU) (by rfl) ?_; simp only [pA]
  go_big_quiet_step (fail)
  go_big_quiet_step ((go_at_call 66; exact later_of hN1 _ (fun K hK hKN => ret_is H1_.out (RHas_any a.b x) _ K hK)))
  iterate 27 (go_big_quiet_step (fail))
  refine wpQuiet_nil (laterE hN1 ?_)
  intro xw8 M9 hbxw8 hM9 lM9
  have k10 := k1.below hbxw8 (by omega)
  have lo11 := lo0.trans (hbxw8.mono (by omega))
  clear k1 c2 c3 c4 c5 c6 c7 lo0 hbxw8
  go_wp2_with fail
  go_ret
  exact ⟨by rw [ER.out]; first | rfl | (simp only [rsHas, H1_.out, bB] <;> rfl), lo11⟩
 ·have H1_ := hid h1_
  clear h1_
  cases h2_ : (BitVec.ule a.lo x)
  ·have H2_ := hid h2_
   clear h2_
   go_upto_region 1 with fail
   obtain ⟨c2, c3, c4, c5, c6, c7⟩ := r_cells k1
   refine wp_region_later1 ((N + 1)) ?_
   try simp only [pA]
   go_big_quiet_step (fail)
   refine later_val (fun qq => run_bits 32 (.tmp 5) rfl N rfl 34 (Later.has hN1 k1 qq) undU szU) (by rfl) ?_; simp only [pA]
   go_big_quiet_step (fail)
   go_big_quiet_step ((go_at_call 66; exact later_of hN1 _ (fun K hK hKN => ret_is H1_.out (RHas_any a.b x) _ K hK)))
   iterate 2 (go_big_quiet_step (fail))
   refine later_c1 hN1 22 (.tmp 10) rfl rfl und64 rfl c4 (by rfl) ?_; simp only [pA]
   go_big_quiet_step (fail)
   refine later_b (x := (.tmp 11)) (y := (.tmp 12)) rfl (BinRun.is H2_.out (bin_leq _ a.lo x)) rfl rfl (by rfl) ?_; simp only [pA]
   iterate 22 (go_big_quiet_step (fail))
   refine wpQuiet_nil (laterE hN1 ?_)
   intro xw8 M9 hbxw8 hM9 lM9
   have k10 := k1.below hbxw8 (by omega)
   have lo11 := lo0.trans (hbxw8.mono (by omega))
   clear k1 c2 c3 c4 c5 c6 c7 lo0 hbxw8
   go_wp2_with fail
   go_ret
   exact ⟨by rw [ER.out]; first | rfl | (simp only [rsHas, H1_.out, H2_.out, bB] <;> rfl), lo11⟩
  ·have H2_ := hid h2_
   clear h2_
   cases h3_ : (BitVec.ule x a.hi)
   ·have H3_ := hid h3_
    clear h3_
    go_upto_region 1 with fail
    obtain ⟨c2, c3, c4, c5, c6, c7⟩ := r_cells k1
    refine wp_region_later1 ((N + 1)) ?_
    try simp only [pA]
    go_big_quiet_step (fail)
    refine later_val (fun qq => run_bits 32 (.tmp 5) rfl N rfl 34 (Later.has hN1 k1 qq) undU szU) (by rfl) ?_; simp only [pA]
    go_big_quiet_step (fail)
    go_big_quiet_step ((go_at_call 66; exact later_of hN1 _ (fun K hK hKN => ret_is H1_.out (RHas_any a.b x) _ K hK)))
    iterate 2 (go_big_quiet_step (fail))
    refine later_c1 hN1 22 (.tmp 10) rfl rfl und64 rfl c4 (by rfl) ?_; simp only [pA]
    go_big_quiet_step (fail)
    refine later_b (x := (.tmp 11)) (y := (.tmp 12)) rfl (BinRun.is H2_.out (bin_leq _ a.lo x)) rfl rfl (by rfl) ?_; simp only [pA]
    iterate 4 (go_big_quiet_step (fail))
    refine later_c1 hN1 22 (.tmp 17) rfl rfl und64 rfl c5 (by rfl) ?_; simp only [pA]
    refine later_b (x := (.tmp 16)) (y := (.tmp 18)) rfl (BinRun.is H3_.out (bin_leq _ x a.hi)) rfl rfl (by rfl) ?_; simp only [pA]
    iterate 16 (go_big_quiet_step (fail))
    refine wpQuiet_nil (laterE hN1 ?_)
    intro xw8 M9 hbxw8 hM9 lM9
    have k10 := k1.below hbxw8 (by omega)
    have lo11 := lo0.trans (hbxw8.mono (by omega))
    clear k1 c2 c3 c4 c5 c6 c7 lo0 hbxw8
    go_wp2_with fail
    go_ret
    exact ⟨by rw [ER.out]; first | rfl | (simp only [rsHas, H1_.out, H2_.out, H3_.out, bB] <;> rfl), lo11⟩
   ·have H3_ := hid h3_
    clear h3_
    cases h4_ : (BitVec.sle a.sl x)
    ·have H4_ := hid h4_
     clear h4_
     go_upto_region 1 with fail
     obtain ⟨c2, c3, c4, c5, c6, c7⟩ := r_cells k1
     refine wp_region_later1 ((N + 1)) ?_
     try simp only [pA]
     go_big_quiet_step (fail)
     refine later_val (fun qq => run_bits 32 (.tmp 5) rfl N rfl 34 (Later.has hN1 k1 qq) undU szU) (by rfl) ?_; simp only [pA]
     go_big_quiet_step (fail)
     go_big_quiet_step ((go_at_call 66; exact later_of hN1 _ (fun K hK hKN => ret_is H1_.out (RHas_any a.b x) _ K hK)))
     iterate 2 (go_big_quiet_step (fail))
     refine later_c1 hN1 22 (.tmp 10) rfl rfl und64 rfl c4 (by rfl) ?_; simp only [pA]
     go_big_quiet_step (fail)
     refine later_b (x := (.tmp 11)) (y := (.tmp 12)) rfl (BinRun.is H2_.out (bin_leq _ a.lo x)) rfl rfl (by rfl) ?_; simp only [pA]
     iterate 4 (go_big_quiet_step (fail))
     refine later_c1 hN1 22 (.tmp 17) rfl rfl und64 rfl c5 (by rfl) ?_; simp only [pA]
     refine later_b (x := (.tmp 16)) (y := (.tmp 18)) rfl (BinRun.is H3_.out (bin_leq _ x a.hi)) rfl rfl (by rfl) ?_; simp only [pA]
     iterate 3 (go_big_quiet_step (fail))
     refine later_c1 hN1 2 (.tmp 22) rfl rfl undI64 rfl c6 (by rfl) ?_; simp only [pA]
     go_big_quiet_step (fail)
     refine later_val (fun q => run_us (x := (.tmp 24)) rfl und64 undI64 rfl q.w') (by rfl) ?_; simp only [pA]
     refine later_b (x := (.tmp 23)) (y := (.tmp 25)) rfl (BinRun.is H4_.out (bin_sleq _ a.sl x)) rfl rfl (by rfl) ?_; simp only [pA]
     iterate 9 (go_big_quiet_step (fail))
     refine wpQuiet_nil (laterE hN1 ?_)
     intro xw8 M9 hbxw8 hM9 lM9
     have k10 := k1.below hbxw8 (by omega)
     have lo11 := lo0.trans (hbxw8.mono (by omega))
     clear k1 c2 c3 c4 c5 c6 c7 lo0 hbxw8
     go_wp2_with fail
     go_ret
     exact ⟨by rw [ER.out]; first | rfl | (simp only [rsHas, H1_.out, H2_.out, H3_.out, H4_.out, bB] <;> rfl), lo11⟩
    ·have H4_ := hid h4_
     clear h4_
     go_upto_region 1 with fail
     obtain ⟨c2, c3, c4, c5, c6, c7⟩ := r_cells k1
     refine wp_region_later1 ((N + 1)) ?_
     try simp only [pA]
     go_big_quiet_step (fail)
     refine later_val (fun qq => run_bits 32 (.tmp 5) rfl N rfl 34 (Later.has hN1 k1 qq) undU szU) (by rfl) ?_; simp only [pA]
     go_big_quiet_step (fail)
     go_big_quiet_step ((go_at_call 66; exact later_of hN1 _ (fun K hK hKN => ret_is H1_.out (RHas_any a.b x) _ K hK)))
     iterate 2 (go_big_quiet_step (fail))
     refine later_c1 hN1 22 (.tmp 10) rfl rfl und64 rfl c4 (by rfl) ?_; simp only [pA]
     go_big_quiet_step (fail)
     refine later_b (x := (.tmp 11)) (y := (.tmp 12)) rfl (BinRun.is H2_.out (bin_leq _ a.lo x)) rfl rfl (by rfl) ?_; simp only [pA]
     iterate 4 (go_big_quiet_step (fail))
     refine later_c1 hN1 22 (.tmp 17) rfl rfl und64 rfl c5 (by rfl) ?_; simp only [pA]
     refine later_b (x := (.tmp 16)) (y := (.tmp 18)) rfl (BinRun.is H3_.out (bin_leq _ x a.hi)) rfl rfl (by rfl) ?_; simp only [pA]
     iterate 3 (go_big_quiet_step (fail))
     refine later_c1 hN1 2 (.tmp 22) rfl rfl undI64 rfl c6 (by rfl) ?_; simp only [pA]
     go_big_quiet_step (fail)
     refine later_val (fun q => run_us (x := (.tmp 24)) rfl und64 undI64 rfl q.w') (by rfl) ?_; simp only [pA]
     refine later_b (x := (.tmp 23)) (y := (.tmp 25)) rfl (BinRun.is H4_.out (bin_sleq _ a.sl x)) rfl rfl (by rfl) ?_; simp only [pA]
     iterate 3 (go_big_quiet_step (fail))
     refine later_val (fun q => run_us (x := (.tmp 29)) rfl und64 undI64 rfl q.w') (by rfl) ?_; simp only [pA]
     go_big_quiet_step (fail)
     refine later_c1 hN1 2 (.tmp 31) rfl rfl undI64 rfl c7 (by rfl) ?_; simp only [pA]
     refine later_b (x := (.tmp 30)) (y := (.tmp 32)) rfl (bin_sleq _ x a.sh) rfl rfl (by rfl) ?_; simp only [pA]
     iterate 2 (go_big_quiet_step (fail))
     refine wpQuiet_nil (laterE hN1 ?_)
     intro xw8 M9 hbxw8 hM9 lM9
     have k10 := k1.below hbxw8 (by omega)
     have lo11 := lo0.trans (hbxw8.mono (by omega))
     clear k1 c2 c3 c4 c5 c6 c7 lo0 hbxw8
     go_wp2_with fail
     go_ret
     exact ⟨by rw [ER.out]; first | rfl | (simp only [rsHas, H1_.out, H2_.out, H3_.out, H4_.out, bB] <;> rfl), lo11⟩
theorem rsHas_eq (a : Rn) (x : W) : rsHas a x = sHas a x := by
 unfold rsHas sHas
 cases tHas a.b x <;> cases a.lo.ule x <;> cases x.ule a.hi <;> cases a.sl.sle x <;> rfl
theorem RSHas_any (a : Rn) (x : W) (w : World) (N : Nat) (hN : Sz w N) : Calls Try.prog 34 #[rV a, Q x] w fun e w' => e = .returned (.bool (sHas a x)) ∧ Below N w w' := by
 rw [← rsHas_eq]; exact RSHas_ a x w N hN
end Go.Proofs.Ytmdcopmgkhjfnaa
