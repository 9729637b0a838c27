/- RightsTexts: its walk. -/
import Derived.Test.YtilhkgbninbkkaaDoorRx2
import Derived.Test.YtilhkgbninbkkaaDoorRi8
namespace Go.Proofs.YtilhkgbninbkkaaDoor
open Go Go.RowKit
theorem run_eqS {P : Program} {a : Act} {o : Oper} {T ty : TypeId} {x y : Operand} {p : ByteArray} (ho : o.op = .binOp .eql T x y ty) (hx : a.eval x = .string p) (hy : a.eval y = .string p) (w : World) : (execOp a.eval o).run P w = .ok (.value (.bool true)) w := by
  unfold execOp; simp only [ho, hx, hy]; go_simp
set_option maxRecDepth 100000 in
set_option maxHeartbeats 16000000 in
theorem law_rtexts (r : Rg) (w : World) (N : Nat) (hN : Sz w N) (hT : Rt w) (hE : Er w) : Calls Tryd.prog 4 #[rgV r] w fun e w' => e = .returned (.bool true) ∧ Below N w w' := by
  have HP := fun w N hN hE hD => Parse_any (textOf r) (by have := textOf_size r; omega) w N hN hE hD
  rw [(prR_text r).1, (prR_text r).2] at HP
  obtain ⟨dR, u1, u2⟩ := undRR
  obtain ⟨dF, v1, v2⟩ := undRF
  unfold rgV at *
  go_enter Tryd.func4, Tryd.ntmps4
  go_upto_region 3 with (first
    | (refine wpl_box rfl 24 (.tmp 0) rfl 6 _ rfl N hN ?_; intro w1 hN1 b1 h1)
    | (refine wpl_load rfl 24 (.tmp 1) rfl N rfl 24 6 _ h1 _ v1 v2 szRF ?_)
    | (go_at_call 14; refine (To_any r _ (N + 1) hN1).mono ?_; rintro e w2 ⟨rfl, b2⟩; unfold rgV; have lo2 := b1.trans (b2.mono (by omega)); obtain ⟨M2, hM2⟩ := sz_some w2; have l2 := below_sz b2 hN1 hM2; have h2 := h1.below b2 (by omega))
    | (go_at_call 21; refine (Text_any r _ M2 hM2 (hT.below hN lo2).d).mono ?_; rintro e w3 ⟨rfl, b3⟩; have lo3 := lo2.trans (b3.mono (by omega)); obtain ⟨M3, hM3⟩ := sz_some w3; have l3 := below_sz b3 hM2 hM3; have h3 := h2.below b3 (by omega))
    | (go_at_call 22; refine (HP _ M3 hM3 (hE.below hN lo3) (hT.below hN lo3).d).mono ?_; rintro e w4 ⟨rfl, b4⟩; have lo4 := lo3.trans (b4.mono (by omega)); obtain ⟨M4, hM4⟩ := sz_some w4; have l4 := below_sz b4 hM3 hM4; have h4 := h3.below b4 (by omega))
    | (refine wpl_alloc rfl 26 rfl 6 (rgC rgNone) zeRR M4 hM4 ?_; intro w5 hM5 b5 k5; have h5 := h4.below b5 (by omega); have lo5 := lo4.trans (b5.mono (by omega)))
    | (refine wpl_store rfl 26 (.tmp 4) (.tmp 12) rfl M4 6 (rgC r) rfl rfl 26 _ k5 szRR (fun j _ => rgC_one r j) ?_; intro w6 t6 k6; have h6 := h5.touch t6 (by omega); have lo6 := t6.below lo5 (by omega); have hM6 := t6.sz hM5)
    | fail)
  have hT6 := hT.below hN lo6
  obtain ⟨M6, eM6⟩ : ∃ M, M4 + 1 = M := ⟨_, rfl⟩
  have l6 : M4 < M6 := by omega
  rw [eM6] at hM6
  clear eM6 HP h1 h2 h3 h4 h5 k5 t6 b1 b2 b3 b4 b5
  refine wp_region_later M6 (by kernel_rfl) (by kernel_rfl) ?_
  try simp only [Act.put, List.setIfInBounds_toArray, List.set_cons_succ, List.set_cons_zero]
  go_big_quiet_step ((go_at_call 16; exact later_of hM6 _ (fun K hK hKN => whole_any _ K hK (hT6.below hM6 (Later.b _)))))
  go_big_quiet_step (fail)
  go_big_quiet_step (fail)
  refine later_val (v := .agg (cellsOf (rgC r) 6)) (fun q => run_ld 24 (.tmp 1) rfl N rfl 24 6 _ (Later.has hM6 h6 q) _ v1 v2 szRF) (by rfl) ?_; try simp only [Act.put, List.setIfInBounds_toArray, List.set_cons_succ, List.set_cons_zero]
  go_big_quiet_step ((go_at_call 23; exact later_of hM6 _ (fun K hK hKN => RText_any r _ K hK)))
  refine later_val (v := .bool true) (fun q => run_eqS (p := textOf r) (x := .tmp 16) (y := .tmp 18) rfl rfl rfl _) (by rfl) ?_; try simp only [Act.put, List.setIfInBounds_toArray, List.set_cons_succ, List.set_cons_zero]
  go_big_quiet_step (fail)
  go_big_quiet_step (fail)
  go_big_quiet_step (fail)
  go_big_quiet_step (fail)
  go_big_quiet_step (fail)
  go_big_quiet_step (fail)
  refine later_val (v := .agg (cellsOf (rgC r) 6)) (fun q => run_ld 26 (.tmp 4) rfl M4 rfl 26 6 _ (Later.has hM6 k6 q) _ u1 u2 szRR) (by rfl) ?_; try simp only [Act.put, List.setIfInBounds_toArray, List.set_cons_succ, List.set_cons_zero]
  go_big_quiet_step ((go_at_call 19; exact later_of hM6 _ (fun K hK hKN => From_any r _ K hK)))
  refine later_val (v := .agg (cellsOf (rgC r) 6)) (fun q => run_ld 24 (.tmp 1) rfl N rfl 24 6 _ (Later.has hM6 h6 q) _ v1 v2 szRF) (by rfl) ?_; try simp only [Act.put, List.setIfInBounds_toArray, List.set_cons_succ, List.set_cons_zero]
  refine later_val (v := .bool true) (fun q => run_eql_op 24 24 (.tmp 27) (.tmp 28) rfl _ _ rfl rfl true (by kernel_rfl) (by rw [run_eq_rf, (Rg.beq_iff r r).2 rfl])) (by rfl) ?_; try simp only [Act.put, List.setIfInBounds_toArray, List.set_cons_succ, List.set_cons_zero]
  go_big_quiet_step (fail)
  go_big_quiet_step (fail)
  refine wpQuiet_nil (laterE hM6 ?_)
  intro w7 M7 b7 hM7 l7
  have lo7 := lo6.trans (b7.mono (by omega))
  go_wp2_with fail
  go_ret
  exact ⟨rfl, lo7⟩
end Go.Proofs.YtilhkgbninbkkaaDoor
