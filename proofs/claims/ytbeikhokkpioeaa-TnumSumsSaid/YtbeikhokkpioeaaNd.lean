/- Contracts of known bits: differences, the lower bytes, within, meet. -/
import Derived.Test.YtbeikhokkpioeaaNa
import Derived.Test.YtbeikhokkpioeaaNe
namespace Go.Proofs.Ytbeikhokkpioeaa
open Go Go.RowKit
set_option maxRecDepth 100000 in
theorem Sub_any (a b : Nm) (w : World) (N : Nat) (hN : Sz w N) : Calls Try.prog 15 #[nV a, nV b] w fun e w' => e = .returned (nV (tSub a b)) ∧ Below N w w' := by
  unfold nV
  go_enter Try.func15, Try.ntmps15
  go_upto_region 1 with (first
    | (refine wpl_box rfl 27 (.tmp 0) rfl 2 _ rfl (N) hN ?_; intro w1 hN1 hb1 hh1)
    | (refine wpl_box rfl 27 (.tmp 1) rfl 2 _ rfl (N + 1) hN1 ?_; intro w2 hN2 hb2 hh2)
    | (refine wpl_alloc rfl 27 rfl 2 (nC zeroN) zeT (N + 1 + 1) hN2 ?_; intro w3 hN3 hb3 hh3)
    | fail)
  have lo : Below N w w3 := ((hb1.trans (hb2.mono (by omega))).trans (hb3.mono (by omega)))
  have kk0 := ((hh1.below hb2 (by omega)).below hb3 (by omega))
  have kk1 := (hh2.below hb3 (by omega))
  obtain ⟨f0, g0⟩ := n_cells kk0
  obtain ⟨f1, g1⟩ := n_cells kk1
  unfold Q at f0 g0 f1 g1
  go_upto_region 2 with (first
    | (refine wpl_b rfl rfl (bin_sub _ _ _) rfl rfl ?_)
    | fail)
  refine wp_region_later (N + 1 + 1 + 1) (by kernel_rfl) (by kernel_rfl) ?_
  go_big_quiet_step (fail)
  go_big_quiet_step (fail)
  refine later_c1 hN3 22 (.tmp 14) rfl rfl und64 rfl g0 (by rfl) ?_; simp only [Act.put, List.setIfInBounds_toArray, List.set_cons_succ, List.set_cons_zero]
  refine later_b rfl (bin_add _ (a.v - b.v) a.m) rfl rfl (by rfl) ?_; simp only [Act.put, List.setIfInBounds_toArray, List.set_cons_succ, List.set_cons_zero]
  go_big_quiet_step (fail)
  go_big_quiet_step (fail)
  refine later_c1 hN3 22 (.tmp 18) rfl rfl und64 rfl g1 (by rfl) ?_; simp only [Act.put, List.setIfInBounds_toArray, List.set_cons_succ, List.set_cons_zero]
  refine later_b rfl (bin_sub _ (a.v - b.v) b.m) rfl rfl (by rfl) ?_; simp only [Act.put, List.setIfInBounds_toArray, List.set_cons_succ, List.set_cons_zero]
  go_big_quiet_step (fail)
  go_big_quiet_step (fail)
  refine wpQuiet_nil ?_
  rintro w4 ⟨x4, e4⟩
  have hb4 := x4.b; rw [← e4] at hb4
  clear x4 e4
  obtain ⟨M, hM⟩ := sz_some w4
  have lM := below_sz hb4 hN3 hM
  have g2 := (n_cells (kk0.below hb4 (by omega))).2
  have g3 := (n_cells (kk1.below hb4 (by omega))).2
  have hA := hh3.below hb4 (by omega)
  have lo4 := lo.trans (hb4.mono (by omega))
  unfold Q at g2 g3
  go_wp2_with (first
    | (refine wpl_b rfl rfl (bin_xor _ _ _) rfl rfl ?_)
    | (refine wpl_b rfl rfl (bin_or _ _ _) rfl rfl ?_)
    | (go_at_call 38; refine (known_any _ _ _ M hM).mono ?_; rintro e wc ⟨rfl, hbc⟩; have hA2 := hA.below hbc (by omega))
    | (refine wpl_store rfl 27 (.tmp 4) (.tmp 31) rfl (N + 1 + 1) 2 (nC (tSub a b)) rfl rfl 27 _ hA2 szT (fun j _ => nC_one _ j) ?_; intro wq tq hq)
    | fail)
  refine post_n rfl (N + 1 + 1) rfl hq undT szT rfl ?_
  exact ⟨rfl, tq.below (lo4.trans (hbc.mono (by omega))) (by omega)⟩
set_option maxRecDepth 100000 in
theorem knows_any (w : World) (N : Nat) (hN : Sz w N) : Calls Try.prog 11 #[] w fun e w' => e = .returned (.bool true) ∧ Below N w w' := by
  have C1 := Const_any 1#64
  have C5 := Const_any 5#64
  have C2 := Add_any (tConst 1#64) ⟨0#64, 2#64⟩
  rw [show tAdd (tConst 1#64) ⟨0#64, 2#64⟩ = ⟨1#64, 2#64⟩ from rfl] at C2
  have C3 := Has_any tAny 7#64
  rw [show tHas tAny 7#64 = true from rfl] at C3
  have C4 := Right_any (tConst 5#64)
  rw [show tRight (tConst 5#64) = true from rfl] at C4
  go_enter Try.func11, Try.ntmps11
  go_wp2_with (first
    | (go_at_call 25; refine (C1 _ N hN).mono ?_; rintro e w1 ⟨rfl, hb1⟩; clear C1; obtain ⟨M1, hM1⟩ := sz_some w1; have l1 := below_sz hb1 hN hM1)
    | (refine wpl_build rfl 27 #[(1, .const (.int .u64 2))] rfl (cellsOf (nC ⟨0#64, 2#64⟩) 2) (by kernel_rfl) ?_)
    | (go_at_call 13; refine (C2 _ M1 hM1).mono ?_; rintro e w2 ⟨rfl, hb2⟩; obtain ⟨M2, hM2⟩ := sz_some w2; have l2 := below_sz hb2 hM1 hM2)
    | (refine wpl_build rfl 27 #[(0, .const (.int .u64 1)), (1, .const (.int .u64 2))] rfl (cellsOf (nC ⟨1#64, 2#64⟩) 2) (by kernel_rfl) ?_)
    | (refine wpl_run rfl (.bool true) _ (run_eql_op 27 27 (.tmp 3) (.tmp 4) rfl _ _ rfl rfl _ (by kernel_rfl) (run_eqT ⟨1#64, 2#64⟩ ⟨1#64, 2#64⟩ _)) ?_)
    | (go_at_call 36; refine (Any_any _ M2 hM2).mono ?_; rintro e w3 ⟨rfl, hb3⟩; obtain ⟨M3, hM3⟩ := sz_some w3; have l3 := below_sz hb3 hM2 hM3)
    | (go_at_call 23; refine (C3 _ M3 hM3).mono ?_; rintro e w4 ⟨rfl, hb4⟩; obtain ⟨M4, hM4⟩ := sz_some w4; have l4 := below_sz hb4 hM3 hM4)
    | (go_at_call 25; refine (C5 _ M4 hM4).mono ?_; rintro e w5 ⟨rfl, hb5⟩; obtain ⟨M5, hM5⟩ := sz_some w5; have l5 := below_sz hb5 hM4 hM5)
    | (go_at_call 20; refine (C4 _ M5 hM5).mono ?_; rintro e w6 ⟨rfl, hb6⟩)
    | fail)
  trace_state
  go_ret
  exact ⟨rfl, ((((hb1.trans (hb2.mono l1)).trans (hb3.mono (by omega))).trans (hb4.mono (by omega))).trans (hb5.mono (by omega))).trans (hb6.mono (by omega))⟩
end Go.Proofs.Ytbeikhokkpioeaa
