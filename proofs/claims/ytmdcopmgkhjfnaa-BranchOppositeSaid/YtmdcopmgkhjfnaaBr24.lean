/- What the laws of jumps share: does a jump tell; tables of numbers. -/
import Derived.Test.YtmdcopmgkhjfnaaBr23
import Derived.Test.YtmdcopmgkhjfnaaSl0
import Derived.Test.YtmdcopmgkhjfnaaSm3
import Derived.Test.YtmdcopmgkhjfnaaPtL
namespace Go.Proofs.Ytmdcopmgkhjfnaa
open Go Go.RowKit
def tellsF  : Bool :=
  bif (refF 10 true (obR tAny) (cR 10#64) true).2.2 then bif ((refF 10 true (obR tAny) (cR 10#64) true).1.hi == 9#64) then (holF 6 true 0#64 18446744073709551615#64)
    else false
  else false
set_option maxRecDepth 100000 in
set_option maxHeartbeats 4000000 in
theorem Tells_any  (w : World) (N : Nat) (hN : Sz w N) : Calls Try.prog 35 #[] w fun e w' => e = .returned (.bool tellsF) ∧ Below N w w' := by
  obtain ⟨rr, er⟩ : ∃ rr, rr = tellsF := ⟨_, rfl⟩
  rw [← er]
  have ER := hid er
  clear er
  go_enter Try.func35, Try.ntmps35
  have lo0 : Below N w w := Below.refl N w
  cases h1_ : (refF 10 true (obR tAny) (cR 10#64) true).2.2
  · have H1_ := hid h1_
    clear h1_
    have CS1 := fun w N hN => Refine_all 10 true (obR tAny) (cR 10#64) true w N hN
    rw [H1_.out] at CS1
    go_upto_region 1 with fail
    refine wp_region_lit ?_
    try simp only [pA]
    change wpList _ _ _ ((_ :: _ :: _ :: _ :: _ :: _ :: _ :: []) ++ (_ :: _ :: _ :: _ :: _ :: [])) _ _
    refine wpList_prefix (C := fun w' => ∃ x : Later N w, w' = x.w') _ _ _ _ ⟨⟨_, Below.refl _ _⟩, rfl⟩ ?_
    go_big_quiet_step ((go_at_call 33; exact later_of hN _ (fun K hK hKN => SAny_any  _ K hK)))
    go_big_quiet_step ((go_at_call 28; exact later_of hN _ (fun K hK hKN => SConst_any 10#64 _ K hK)))
    go_big_quiet_step ((go_at_call 40; exact later_of hN _ (fun K hK hKN => CS1 _ K hK)))
    iterate 4 (go_big_quiet_step (fail))
    refine wpQuiet_nil (laterE hN ?_)
    intro xw2 M3 hbxw2 hM3 lM3
    have lo4 := lo0.trans (hbxw2.mono (by omega))
    clear lo0 hbxw2
    obtain ⟨b_xw5, eb_xw5⟩ : ∃ b_xw5, b_xw5 = M3 := ⟨_, rfl⟩
    have hzb_xw5 : Sz xw2 b_xw5 := by rw [eb_xw5]; exact hM3
    have lob_xw5 : M3 ≤ b_xw5 := by omega
    have upb_xw5 : b_xw5 ≤ M3 := by omega
    clear eb_xw5
    refine wpl_alloc rfl 41 rfl 6 (rC zeroR) zeR b_xw5 hzb_xw5 ?_
    intro xw5 hMxw5 hbxw5 hhxw5; simp only [pA]
    have lo6 := lo4.trans (hbxw5.mono (by omega))
    clear lo4 hbxw5 hzb_xw5
    obtain ⟨M7, eM7⟩ : ∃ M7, M7 = b_xw5 + 1 := ⟨_, rfl⟩
    rw [← eM7] at hMxw5
    have loM7 : b_xw5 + 1 ≤ M7 := by omega
    have upM7 : M7 ≤ b_xw5 + 1 := by omega
    clear eM7
    obtain ⟨b_xw8, eb_xw8⟩ : ∃ b_xw8, b_xw8 = M7 := ⟨_, rfl⟩
    have hzb_xw8 : Sz xw5 b_xw8 := by rw [eb_xw8]; exact hMxw5
    have lob_xw8 : M7 ≤ b_xw8 := by omega
    have upb_xw8 : b_xw8 ≤ M7 := by omega
    clear eb_xw8
    refine wpl_alloc rfl 41 rfl 6 (rC zeroR) zeR b_xw8 hzb_xw8 ?_
    intro xw8 hMxw8 hbxw8 hhxw8; simp only [pA]
    have k9 := hhxw5.below hbxw8 (by omega)
    have lo10 := lo6.trans (hbxw8.mono (by omega))
    clear hhxw5 lo6 hbxw8 hzb_xw8
    obtain ⟨M11, eM11⟩ : ∃ M11, M11 = b_xw8 + 1 := ⟨_, rfl⟩
    rw [← eM11] at hMxw8
    have loM11 : b_xw8 + 1 ≤ M11 := by omega
    have upM11 : M11 ≤ b_xw8 + 1 := by omega
    clear eM11
    refine wpl_store rfl 41 (.tmp 1) (.tmp 8) rfl b_xw5 6 (rC (refF 10 true (obR tAny) (cR 10#64) true).1) rfl rfl 41 _ k9 szR (fun j _ => rC_one _ j) ?_
    intro xw12 t13 k14; try simp only [pA]
    have k15 := hhxw8.touch t13 (by omega)
    have lo16 := t13.below lo10 (by omega)
    have h17 := t13.sz hMxw8
    clear k9 hhxw8 lo10 hMxw8 t13
    refine wpl_store rfl 41 (.tmp 2) (.tmp 9) rfl b_xw8 6 (rC (refF 10 true (obR tAny) (cR 10#64) true).2.1) rfl rfl 41 _ k15 szR (fun j _ => rC_one _ j) ?_
    intro xw18 t19 k20; try simp only [pA]
    have k21 := k14.touch t19 (by omega)
    have lo22 := t19.below lo16 (by omega)
    have h23 := t19.sz h17
    clear k15 k14 lo16 h17 t19
    refine wpl_run rfl (Value.bool false) _ (run_as (x := (.tmp 10)) rfl _ rfl) ?_; simp only [pA]
    obtain ⟨M24, hM24⟩ := sz_some xw18
    have lt_25 := k21.ltN hM24
    have lt_26 := k20.ltN hM24
    go_upto_region 2 with fail
    obtain ⟨c27, c28, c29, c30, c31, c32⟩ := r_cells k21
    refine wp_region_later1 (M24) ?_
    try simp only [pA]
    iterate 10 (go_big_quiet_step (fail))
    refine wpQuiet_nil (laterE hM24 ?_)
    intro xw33 M34 hbxw33 hM34 lM34
    have k35 := k21.below hbxw33 (by omega)
    have k36 := k20.below hbxw33 (by omega)
    have lo37 := lo22.trans (hbxw33.mono (by omega))
    clear k21 c27 c28 c29 c30 c31 c32 k20 lo22 hbxw33
    go_wp2_with fail
    go_ret
    exact ⟨by rw [ER.out]; first | rfl | (simp only [tellsF, H1_.out, bB] <;> rfl), lo37⟩
  · have H1_ := hid h1_
    clear h1_
    have CS1 := fun w N hN => Refine_all 10 true (obR tAny) (cR 10#64) true w N hN
    rw [H1_.out] at CS1
    go_upto_region 1 with fail
    refine wp_region_lit ?_
    try simp only [pA]
    change wpList _ _ _ ((_ :: _ :: _ :: _ :: _ :: _ :: _ :: []) ++ (_ :: _ :: _ :: _ :: _ :: [])) _ _
    refine wpList_prefix (C := fun w' => ∃ x : Later N w, w' = x.w') _ _ _ _ ⟨⟨_, Below.refl _ _⟩, rfl⟩ ?_
    go_big_quiet_step ((go_at_call 33; exact later_of hN _ (fun K hK hKN => SAny_any  _ K hK)))
    go_big_quiet_step ((go_at_call 28; exact later_of hN _ (fun K hK hKN => SConst_any 10#64 _ K hK)))
    go_big_quiet_step ((go_at_call 40; exact later_of hN _ (fun K hK hKN => CS1 _ K hK)))
    iterate 4 (go_big_quiet_step (fail))
    refine wpQuiet_nil (laterE hN ?_)
    intro xw2 M3 hbxw2 hM3 lM3
    have lo4 := lo0.trans (hbxw2.mono (by omega))
    clear lo0 hbxw2
    obtain ⟨b_xw5, eb_xw5⟩ : ∃ b_xw5, b_xw5 = M3 := ⟨_, rfl⟩
    have hzb_xw5 : Sz xw2 b_xw5 := by rw [eb_xw5]; exact hM3
    have lob_xw5 : M3 ≤ b_xw5 := by omega
    have upb_xw5 : b_xw5 ≤ M3 := by omega
    clear eb_xw5
    refine wpl_alloc rfl 41 rfl 6 (rC zeroR) zeR b_xw5 hzb_xw5 ?_
    intro xw5 hMxw5 hbxw5 hhxw5; simp only [pA]
    have lo6 := lo4.trans (hbxw5.mono (by omega))
    clear lo4 hbxw5 hzb_xw5
    obtain ⟨M7, eM7⟩ : ∃ M7, M7 = b_xw5 + 1 := ⟨_, rfl⟩
    rw [← eM7] at hMxw5
    have loM7 : b_xw5 + 1 ≤ M7 := by omega
    have upM7 : M7 ≤ b_xw5 + 1 := by omega
    clear eM7
    obtain ⟨b_xw8, eb_xw8⟩ : ∃ b_xw8, b_xw8 = M7 := ⟨_, rfl⟩
    have hzb_xw8 : Sz xw5 b_xw8 := by rw [eb_xw8]; exact hMxw5
    have lob_xw8 : M7 ≤ b_xw8 := by omega
    have upb_xw8 : b_xw8 ≤ M7 := by omega
    clear eb_xw8
    refine wpl_alloc rfl 41 rfl 6 (rC zeroR) zeR b_xw8 hzb_xw8 ?_
    intro xw8 hMxw8 hbxw8 hhxw8; simp only [pA]
    have k9 := hhxw5.below hbxw8 (by omega)
    have lo10 := lo6.trans (hbxw8.mono (by omega))
    clear hhxw5 lo6 hbxw8 hzb_xw8
    obtain ⟨M11, eM11⟩ : ∃ M11, M11 = b_xw8 + 1 := ⟨_, rfl⟩
    rw [← eM11] at hMxw8
    have loM11 : b_xw8 + 1 ≤ M11 := by omega
    have upM11 : M11 ≤ b_xw8 + 1 := by omega
    clear eM11
    refine wpl_store rfl 41 (.tmp 1) (.tmp 8) rfl b_xw5 6 (rC (refF 10 true (obR tAny) (cR 10#64) true).1) rfl rfl 41 _ k9 szR (fun j _ => rC_one _ j) ?_
    intro xw12 t13 k14; try simp only [pA]
    have k15 := hhxw8.touch t13 (by omega)
    have lo16 := t13.below lo10 (by omega)
    have h17 := t13.sz hMxw8
    clear k9 hhxw8 lo10 hMxw8 t13
    refine wpl_store rfl 41 (.tmp 2) (.tmp 9) rfl b_xw8 6 (rC (refF 10 true (obR tAny) (cR 10#64) true).2.1) rfl rfl 41 _ k15 szR (fun j _ => rC_one _ j) ?_
    intro xw18 t19 k20; try simp only [pA]
    have k21 := k14.touch t19 (by omega)
    have lo22 := t19.below lo16 (by omega)
    have h23 := t19.sz h17
    clear k15 k14 lo16 h17 t19
    refine wpl_run rfl (Value.bool true) _ (run_as (x := (.tmp 10)) rfl _ rfl) ?_; simp only [pA]
    obtain ⟨M24, hM24⟩ := sz_some xw18
    have lt_25 := k21.ltN hM24
    have lt_26 := k20.ltN hM24
    cases h2_ : ((refF 10 true (obR tAny) (cR 10#64) true).1.hi == 9#64)
    · have H2_ := hid h2_
      clear h2_
      go_upto_region 2 with fail
      obtain ⟨c27, c28, c29, c30, c31, c32⟩ := r_cells k21
      refine wp_region_later1 (M24) ?_
      try simp only [pA]
      iterate 3 (go_big_quiet_step (fail))
      refine later_c1 hM24 22 (.tmp 13) rfl rfl und64 rfl c30 (by rfl) ?_; simp only [pA]
      refine later_b (x := (.tmp 14)) (y := (.const (.int .u64 9))) rfl (BinRun.is H2_.out (bin_eql _ (refF 10 true (obR tAny) (cR 10#64) true).1.hi 9#64)) rfl rfl (by rfl) ?_; simp only [pA]
      iterate 5 (go_big_quiet_step (fail))
      refine wpQuiet_nil (laterE hM24 ?_)
      intro xw33 M34 hbxw33 hM34 lM34
      have k35 := k21.below hbxw33 (by omega)
      have k36 := k20.below hbxw33 (by omega)
      have lo37 := lo22.trans (hbxw33.mono (by omega))
      clear k21 c27 c28 c29 c30 c31 c32 k20 lo22 hbxw33
      go_wp2_with fail
      go_ret
      exact ⟨by rw [ER.out]; first | rfl | (simp only [tellsF, H1_.out, H2_.out, bB] <;> rfl), lo37⟩
    · have H2_ := hid h2_
      clear h2_
      go_upto_region 2 with fail
      obtain ⟨c27, c28, c29, c30, c31, c32⟩ := r_cells k21
      refine wp_region_later1 (M24) ?_
      try simp only [pA]
      iterate 3 (go_big_quiet_step (fail))
      refine later_c1 hM24 22 (.tmp 13) rfl rfl und64 rfl c30 (by rfl) ?_; simp only [pA]
      refine later_b (x := (.tmp 14)) (y := (.const (.int .u64 9))) rfl (BinRun.is H2_.out (bin_eql _ (refF 10 true (obR tAny) (cR 10#64) true).1.hi 9#64)) rfl rfl (by rfl) ?_; simp only [pA]
      iterate 2 (go_big_quiet_step (fail))
      go_big_quiet_step ((go_at_call 36; exact later_of hM24 _ (fun K hK hKN => Hol_all 6 true 0#64 18446744073709551615#64 _ K hK)))
      iterate 2 (go_big_quiet_step (fail))
      refine wpQuiet_nil (laterE hM24 ?_)
      intro xw33 M34 hbxw33 hM34 lM34
      have k35 := k21.below hbxw33 (by omega)
      have k36 := k20.below hbxw33 (by omega)
      have lo37 := lo22.trans (hbxw33.mono (by omega))
      clear k21 c27 c28 c29 c30 c31 c32 k20 lo22 hbxw33
      go_wp2_with fail
      go_ret
      exact ⟨by rw [ER.out]; first | rfl | (simp only [tellsF, H1_.out, H2_.out, bB] <;> rfl), lo37⟩
theorem tells_true : tellsF = true := by decide +kernel
theorem undSI : Try.prog.underlying 60 = some (.slice 3) := by kernel_rfl
theorem szI1 : (Try.prog.info? 3).map (·.size) = some 1 := by kernel_rfl
theorem wpl_bsT {ops : Array Oper} {rest : List Oper} {o : Oper} {a : Act} {w : World} {Q : Exit → Act → World → Prop} (hgd : o.guard = none) (T E n s : Nat) (f : Nat → Value) (hn : 0 < n * s) (hr : ∀ w : World, (execOp a.eval o).run Try.prog w = .ok (.value (.slice (some ⟨w.heap.size, 0, none⟩) n n)) (w.alloc (.cells (cellsOf f (n * s)) E))) (N : Nat) (hN : Sz w N)
    (h : ∀ w1, Sz w1 (N + 1) → Below N w w1 → Has w1 N E (n * s) f → wpList Try.prog ops Q rest (a.put o.dst (.slice (some ⟨N, 0, none⟩) n n)) w1) : wpList Try.prog ops Q (o :: rest) a w := by
  have e : w.heap.size = N := hN
  subst e
  exact wpl_run hgd _ _ (hr w) (h _ (sz_alloc rfl _) (below_new _ _ _ rfl) (has_new rfl E (n * s) f))
theorem RHol_h (op : Int) (l : Bool) (x y : W) (w : World) (N : Nat) (hN : Sz w N) : Calls Try.prog 37 #[.int .i64 op, .bool l, Q x, Q y] w fun e w' => e = .returned (.bool (holF op l x y)) ∧ Below N w w' := by
  rw [← hol_eq]; exact RHol_all op l x y w N hN
def ops11 : Nat → Nat
  | 0 => 1
  | 1 => 2
  | 2 => 3
  | 3 => 4
  | 4 => 5
  | 5 => 6
  | 6 => 7
  | 7 => 10
  | 8 => 11
  | 9 => 12
  | _ => 13
def ops10 : Nat → Nat
  | 0 => 1
  | 1 => 2
  | 2 => 3
  | 3 => 5
  | 4 => 6
  | 5 => 7
  | 6 => 10
  | 7 => 11
  | 8 => 12
  | _ => 13
theorem ops11_ok : ∀ k, k < 11 → (oppF (ops11 k) == 0) = false := by decide
end Go.Proofs.Ytmdcopmgkhjfnaa
