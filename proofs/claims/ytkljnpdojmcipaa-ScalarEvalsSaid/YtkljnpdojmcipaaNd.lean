/- Contracts of known bits: differences, the lower bytes, within, meet. -/
import Derived.Test.YtkljnpdojmcipaaNa
import Derived.Test.YtkljnpdojmcipaaNe
namespace Go.Proofs.Ytkljnpdojmcipaa
open Go Go.RowKit
set_option maxRecDepth 100000 in
theorem Sub_any (a b : Nm) (w : World) (N : Nat) (hN : Sz w N) : Calls Try.prog 58 #[nV a, nV b] w fun e w' => e = .returned (nV (tSub a b)) ∧ Below N w w' := by
  unfold nV
  go_enter Try.func58, Try.ntmps58
  go_upto_region 1 with (first
    | (refine wpl_box rfl 39 (.tmp 0) rfl 2 _ rfl (N) hN ?_; intro w1 hN1 hb1 hh1)
    | (refine wpl_box rfl 39 (.tmp 1) rfl 2 _ rfl (N + 1) hN1 ?_; intro w2 hN2 hb2 hh2)
    | (refine wpl_alloc rfl 39 rfl 2 (nC zeroN) zeT (N + 1 + 1) hN2 ?_; intro w3 hN3 hb3 hh3)
    | fail)
  have lo : Below N w w3 := ((hb1.trans (hb2.mono (by omega))).trans (hb3.mono (by omega)))
  have kk0 := ((hh1.below hb2 (by omega)).below hb3 (by omega))
  have kk1 := (hh2.below hb3 (by omega))
  obtain ⟨f0, g0⟩ := n_cells kk0
  obtain ⟨f1, g1⟩ := n_cells kk1
  unfold Q at f0 g0 f1 g1
  go_upto_region 2 with (first
    | (refine wpl_b rfl rfl (bin_sub _ _ _) rfl rfl ?_)
    | fail)
  refine wp_region_later (N + 1 + 1 + 1) (by kernel_rfl) (by kernel_rfl) ?_
  go_big_quiet_step (fail)
  go_big_quiet_step (fail)
  refine later_c1 hN3 22 (.tmp 14) rfl rfl und64 rfl g0 (by rfl) ?_; simp only [Act.put, List.setIfInBounds_toArray, List.set_cons_succ, List.set_cons_zero]
  refine later_b rfl (bin_add _ (a.v - b.v) a.m) rfl rfl (by rfl) ?_; simp only [Act.put, List.setIfInBounds_toArray, List.set_cons_succ, List.set_cons_zero]
  go_big_quiet_step (fail)
  go_big_quiet_step (fail)
  refine later_c1 hN3 22 (.tmp 18) rfl rfl und64 rfl g1 (by rfl) ?_; simp only [Act.put, List.setIfInBounds_toArray, List.set_cons_succ, List.set_cons_zero]
  refine later_b rfl (bin_sub _ (a.v - b.v) b.m) rfl rfl (by rfl) ?_; simp only [Act.put, List.setIfInBounds_toArray, List.set_cons_succ, List.set_cons_zero]
  go_big_quiet_step (fail)
  go_big_quiet_step (fail)
  refine wpQuiet_nil ?_
  rintro w4 ⟨x4, e4⟩
  have hb4 := x4.b; rw [← e4] at hb4
  clear x4 e4
  obtain ⟨M, hM⟩ := sz_some w4
  have lM := below_sz hb4 hN3 hM
  have g2 := (n_cells (kk0.below hb4 (by omega))).2
  have g3 := (n_cells (kk1.below hb4 (by omega))).2
  have hA := hh3.below hb4 (by omega)
  have lo4 := lo.trans (hb4.mono (by omega))
  unfold Q at g2 g3
  go_wp2_with (first
    | (refine wpl_b rfl rfl (bin_xor _ _ _) rfl rfl ?_)
    | (refine wpl_b rfl rfl (bin_or _ _ _) rfl rfl ?_)
    | (go_at_call 51; refine (known_any _ _ _ M hM).mono ?_; rintro e wc ⟨rfl, hbc⟩; have hA2 := hA.below hbc (by omega))
    | (refine wpl_store rfl 39 (.tmp 4) (.tmp 31) rfl (N + 1 + 1) 2 (nC (tSub a b)) rfl rfl 39 _ hA2 szT (fun j _ => nC_one _ j) ?_; intro wq tq hq)
    | fail)
  refine post_n rfl (N + 1 + 1) rfl hq undT szT rfl ?_
  exact ⟨rfl, tq.below (lo4.trans (hbc.mono (by omega))) (by omega)⟩
end Go.Proofs.Ytkljnpdojmcipaa
