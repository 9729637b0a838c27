/- Contracts of known bits: what is straight. -/
import Derived.Test.YtkljnpdojmcipaaNb
namespace Go.Proofs.Ytkljnpdojmcipaa
open Go Go.RowKit
set_option maxRecDepth 100000 in
theorem known_any (x u : W) (w : World) (N : Nat) (hN : Sz w N) : Calls Try.prog 51 #[Q x, Q u] w fun e w' => e = .returned (nV (tKnown x u)) ∧ Below N w w' := by
  unfold nV
  go_enter Try.func51, Try.ntmps51
  go_upto_region 1 with (first
    | (refine wpl_alloc rfl 39 rfl 2 (nC zeroN) zeT (N) hN ?_; intro w1 hN1 hb1 hh1)
    | fail)
  have lo : Below N w w1 := hb1
  go_wp2_with (first
    | (refine wpl_b rfl rfl (bin_andn _ _ _) rfl rfl ?_)
    | (refine wpl_build rfl 39 _ rfl (cellsOf (nC (tKnown x u)) 2) (by kernel_rfl) ?_)
    | (refine wpl_store rfl 39 (.tmp 4) (.tmp 9) rfl (N) 2 (nC (tKnown x u)) rfl rfl 39 _ hh1 szT (fun j _ => nC_one _ j) ?_; intro wq tq hq)
    | fail)
  refine post_n rfl (N) rfl hq undT szT rfl ?_
  exact ⟨rfl, tq.below lo (by omega)⟩
set_option maxRecDepth 100000 in
theorem Const_any (x : W) (w : World) (N : Nat) (hN : Sz w N) : Calls Try.prog 28 #[Q x] w fun e w' => e = .returned (nV (tConst x)) ∧ Below N w w' := by
  unfold nV
  go_enter Try.func28, Try.ntmps28
  go_upto_region 1 with (first
    | (refine wpl_alloc rfl 39 rfl 2 (nC zeroN) zeT (N) hN ?_; intro w1 hN1 hb1 hh1)
    | fail)
  have lo : Below N w w1 := hb1
  go_wp2_with (first
    | (refine wpl_build rfl 39 _ rfl (cellsOf (nC (tConst x)) 2) (by kernel_rfl) ?_)
    | (refine wpl_store rfl 39 (.tmp 2) (.tmp 4) rfl (N) 2 (nC (tConst x)) rfl rfl 39 _ hh1 szT (fun j _ => nC_one _ j) ?_; intro wq tq hq)
    | fail)
  refine post_n rfl (N) rfl hq undT szT rfl ?_
  exact ⟨rfl, tq.below lo (by omega)⟩
set_option maxRecDepth 100000 in
theorem Any_any  (w : World) (N : Nat) (hN : Sz w N) : Calls Try.prog 36 #[] w fun e w' => e = .returned (nV tAny) ∧ Below N w w' := by
  unfold nV
  go_enter Try.func36, Try.ntmps36
  go_upto_region 1 with (first
    | (refine wpl_alloc rfl 39 rfl 2 (nC zeroN) zeT (N) hN ?_; intro w1 hN1 hb1 hh1)
    | fail)
  have lo : Below N w w1 := hb1
  go_wp2_with (first
    | (refine wpl_build rfl 39 _ rfl (cellsOf (nC tAny) 2) (by kernel_rfl) ?_)
    | (refine wpl_store rfl 39 (.tmp 0) (.tmp 1) rfl (N) 2 (nC tAny) rfl rfl 39 _ hh1 szT (fun j _ => nC_one _ j) ?_; intro wq tq hq)
    | fail)
  refine post_n rfl (N) rfl hq undT szT rfl ?_
  exact ⟨rfl, tq.below lo (by omega)⟩
set_option maxRecDepth 100000 in
theorem Right_any (a : Nm) (w : World) (N : Nat) (hN : Sz w N) : Calls Try.prog 30 #[nV a] w fun e w' => e = .returned (.bool (tRight a)) ∧ Below N w w' := by
  unfold nV
  go_enter Try.func30, Try.ntmps30
  go_upto_region 1 with (first
    | (refine wpl_box rfl 39 (.tmp 0) rfl 2 _ rfl (N) hN ?_; intro w1 hN1 hb1 hh1)
    | fail)
  have lo : Below N w w1 := hb1
  have kk0 := hh1
  obtain ⟨f0, g0⟩ := n_cells kk0
  unfold Q at f0 g0
  go_wp2_with (first
    | (refine wpl_b rfl rfl (bin_and _ _ _) rfl rfl ?_)
    | (refine wpl_b (x := .tmp 7) (y := .const (.int .u64 0)) rfl rfl (bin_eql _ _ 0#64) rfl rfl ?_)
    | fail)
  go_ret
  exact ⟨rfl, lo⟩
set_option maxRecDepth 100000 in
theorem Has_any (a : Nm) (x : W) (w : World) (N : Nat) (hN : Sz w N) : Calls Try.prog 25 #[nV a, Q x] w fun e w' => e = .returned (.bool (tHas a x)) ∧ Below N w w' := by
  unfold nV
  go_enter Try.func25, Try.ntmps25
  go_upto_region 1 with (first
    | (refine wpl_box rfl 39 (.tmp 0) rfl 2 _ rfl (N) hN ?_; intro w1 hN1 hb1 hh1)
    | fail)
  have lo : Below N w w1 := hb1
  have kk0 := hh1
  obtain ⟨f0, g0⟩ := n_cells kk0
  unfold Q at f0 g0
  go_wp2_with (first
    | (refine wpl_b rfl rfl (bin_andn _ _ _) rfl rfl ?_)
    | (refine wpl_b rfl rfl (bin_eql _ _ _) rfl rfl ?_)
    | fail)
  go_ret
  exact ⟨rfl, lo⟩
set_option maxRecDepth 100000 in
theorem RHas_raw (a : Nm) (x : W) (w : World) (N : Nat) (hN : Sz w N) : Calls Try.prog 37 #[nV a, Q x] w fun e w' => e = .returned (.bool (x &&& (a.m ^^^ 18446744073709551615#64) == a.v)) ∧ Below N w w' := by
  unfold nV
  go_enter Try.func37, Try.ntmps37
  go_upto_region 1 with (first
    | (refine wpl_box rfl 32 (.tmp 0) rfl 2 _ rfl (N) hN ?_; intro w1 hN1 hb1 hh1)
    | fail)
  have lo : Below N w w1 := hb1
  have kk0 := hh1
  obtain ⟨f0, g0⟩ := n_cells kk0
  unfold Q at f0 g0
  go_wp2_with (first
    | (refine wpl_b (x := .tmp 7) (y := .const (.int .u64 18446744073709551615)) rfl rfl (bin_xor _ _ (BitVec.allOnes 64)) rfl rfl ?_)
    | (refine wpl_b rfl rfl (bin_and _ _ _) rfl rfl ?_)
    | (refine wpl_b rfl rfl (bin_eql _ _ _) rfl rfl ?_)
    | fail)
  go_ret
  exact ⟨rfl, lo⟩
theorem has_raw (a : Nm) (x : W) : (x &&& (a.m ^^^ 18446744073709551615#64) == a.v) = tHas a x := by
  unfold tHas
  rw [show (18446744073709551615#64 : W) = BitVec.allOnes 64 from rfl, BitVec.xor_allOnes]
theorem RHas_any (a : Nm) (x : W) (w : World) (N : Nat) (hN : Sz w N) : Calls Try.prog 37 #[nV a, Q x] w fun e w' => e = .returned (.bool (tHas a x)) ∧ Below N w w' := by
  rw [← has_raw]; exact RHas_raw a x w N hN
set_option maxRecDepth 100000 in
theorem Add_any (a b : Nm) (w : World) (N : Nat) (hN : Sz w N) : Calls Try.prog 56 #[nV a, nV b] w fun e w' => e = .returned (nV (tAdd a b)) ∧ Below N w w' := by
  unfold nV
  go_enter Try.func56, Try.ntmps56
  go_upto_region 1 with (first
    | (refine wpl_box rfl 39 (.tmp 0) rfl 2 _ rfl (N) hN ?_; intro w1 hN1 hb1 hh1)
    | (refine wpl_box rfl 39 (.tmp 1) rfl 2 _ rfl (N + 1) hN1 ?_; intro w2 hN2 hb2 hh2)
    | (refine wpl_alloc rfl 39 rfl 2 (nC zeroN) zeT (N + 1 + 1) hN2 ?_; intro w3 hN3 hb3 hh3)
    | fail)
  have lo : Below N w w3 := ((hb1.trans (hb2.mono (by omega))).trans (hb3.mono (by omega)))
  have kk0 := ((hh1.below hb2 (by omega)).below hb3 (by omega))
  obtain ⟨f0, g0⟩ := n_cells kk0
  unfold Q at f0 g0
  have kk1 := (hh2.below hb3 (by omega))
  obtain ⟨f1, g1⟩ := n_cells kk1
  unfold Q at f1 g1
  go_wp2_with (first
    | (refine wpl_b rfl rfl (bin_add _ _ _) rfl rfl ?_)
    | (refine wpl_b rfl rfl (bin_or _ _ _) rfl rfl ?_)
    | (refine wpl_b rfl rfl (bin_xor _ _ _) rfl rfl ?_)
    | (go_at_call 51; refine (known_any _ _ _ (N + 1 + 1 + 1) hN3).mono ?_; rintro e wc ⟨rfl, hbc⟩; have hA2 := hh3.below hbc (by omega))
    | (refine wpl_store rfl 39 (.tmp 4) (.tmp 29) rfl (N + 1 + 1) 2 (nC (tAdd a b)) rfl rfl 39 _ hA2 szT (fun j _ => nC_one _ j) ?_; intro wq tq hq)
    | fail)
  refine post_n rfl (N + 1 + 1) rfl hq undT szT rfl ?_
  exact ⟨rfl, tq.below (lo.trans (hbc.mono (by omega))) (by omega)⟩
set_option maxRecDepth 100000 in
theorem And_any (a b : Nm) (w : World) (N : Nat) (hN : Sz w N) : Calls Try.prog 63 #[nV a, nV b] w fun e w' => e = .returned (nV (tAnd a b)) ∧ Below N w w' := by
  unfold nV
  go_enter Try.func63, Try.ntmps63
  go_upto_region 1 with (first
    | (refine wpl_box rfl 39 (.tmp 0) rfl 2 _ rfl (N) hN ?_; intro w1 hN1 hb1 hh1)
    | (refine wpl_box rfl 39 (.tmp 1) rfl 2 _ rfl (N + 1) hN1 ?_; intro w2 hN2 hb2 hh2)
    | (refine wpl_alloc rfl 39 rfl 2 (nC zeroN) zeT (N + 1 + 1) hN2 ?_; intro w3 hN3 hb3 hh3)
    | fail)
  have lo : Below N w w3 := ((hb1.trans (hb2.mono (by omega))).trans (hb3.mono (by omega)))
  have kk0 := ((hh1.below hb2 (by omega)).below hb3 (by omega))
  obtain ⟨f0, g0⟩ := n_cells kk0
  unfold Q at f0 g0
  have kk1 := (hh2.below hb3 (by omega))
  obtain ⟨f1, g1⟩ := n_cells kk1
  unfold Q at f1 g1
  go_wp2_with (first
    | (refine wpl_b rfl rfl (bin_and _ _ _) rfl rfl ?_)
    | (refine wpl_b rfl rfl (bin_or _ _ _) rfl rfl ?_)
    | (refine wpl_b rfl rfl (bin_andn _ _ _) rfl rfl ?_)
    | (refine wpl_build rfl 39 _ rfl (cellsOf (nC (tAnd a b)) 2) (by kernel_rfl) ?_)
    | (refine wpl_store rfl 39 (.tmp 4) (.tmp 27) rfl (N + 1 + 1) 2 (nC (tAnd a b)) rfl rfl 39 _ hh3 szT (fun j _ => nC_one _ j) ?_; intro wq tq hq)
    | fail)
  refine post_n rfl (N + 1 + 1) rfl hq undT szT rfl ?_
  exact ⟨rfl, tq.below lo (by omega)⟩
set_option maxRecDepth 100000 in
theorem Or_any (a b : Nm) (w : World) (N : Nat) (hN : Sz w N) : Calls Try.prog 62 #[nV a, nV b] w fun e w' => e = .returned (nV (tOr a b)) ∧ Below N w w' := by
  unfold nV
  go_enter Try.func62, Try.ntmps62
  go_upto_region 1 with (first
    | (refine wpl_box rfl 39 (.tmp 0) rfl 2 _ rfl (N) hN ?_; intro w1 hN1 hb1 hh1)
    | (refine wpl_box rfl 39 (.tmp 1) rfl 2 _ rfl (N + 1) hN1 ?_; intro w2 hN2 hb2 hh2)
    | (refine wpl_alloc rfl 39 rfl 2 (nC zeroN) zeT (N + 1 + 1) hN2 ?_; intro w3 hN3 hb3 hh3)
    | fail)
  have lo : Below N w w3 := ((hb1.trans (hb2.mono (by omega))).trans (hb3.mono (by omega)))
  have kk0 := ((hh1.below hb2 (by omega)).below hb3 (by omega))
  obtain ⟨f0, g0⟩ := n_cells kk0
  unfold Q at f0 g0
  have kk1 := (hh2.below hb3 (by omega))
  obtain ⟨f1, g1⟩ := n_cells kk1
  unfold Q at f1 g1
  go_wp2_with (first
    | (refine wpl_b rfl rfl (bin_or _ _ _) rfl rfl ?_)
    | (refine wpl_b rfl rfl (bin_andn _ _ _) rfl rfl ?_)
    | (refine wpl_build rfl 39 _ rfl (cellsOf (nC (tOr a b)) 2) (by kernel_rfl) ?_)
    | (refine wpl_store rfl 39 (.tmp 4) (.tmp 21) rfl (N + 1 + 1) 2 (nC (tOr a b)) rfl rfl 39 _ hh3 szT (fun j _ => nC_one _ j) ?_; intro wq tq hq)
    | fail)
  refine post_n rfl (N + 1 + 1) rfl hq undT szT rfl ?_
  exact ⟨rfl, tq.below lo (by omega)⟩
set_option maxRecDepth 100000 in
theorem Xor_any (a b : Nm) (w : World) (N : Nat) (hN : Sz w N) : Calls Try.prog 50 #[nV a, nV b] w fun e w' => e = .returned (nV (tXor a b)) ∧ Below N w w' := by
  unfold nV
  go_enter Try.func50, Try.ntmps50
  go_upto_region 1 with (first
    | (refine wpl_box rfl 39 (.tmp 0) rfl 2 _ rfl (N) hN ?_; intro w1 hN1 hb1 hh1)
    | (refine wpl_box rfl 39 (.tmp 1) rfl 2 _ rfl (N + 1) hN1 ?_; intro w2 hN2 hb2 hh2)
    | (refine wpl_alloc rfl 39 rfl 2 (nC zeroN) zeT (N + 1 + 1) hN2 ?_; intro w3 hN3 hb3 hh3)
    | fail)
  have lo : Below N w w3 := ((hb1.trans (hb2.mono (by omega))).trans (hb3.mono (by omega)))
  have kk0 := ((hh1.below hb2 (by omega)).below hb3 (by omega))
  obtain ⟨f0, g0⟩ := n_cells kk0
  unfold Q at f0 g0
  have kk1 := (hh2.below hb3 (by omega))
  obtain ⟨f1, g1⟩ := n_cells kk1
  unfold Q at f1 g1
  go_wp2_with (first
    | (refine wpl_b rfl rfl (bin_xor _ _ _) rfl rfl ?_)
    | (refine wpl_b rfl rfl (bin_or _ _ _) rfl rfl ?_)
    | (go_at_call 51; refine (known_any _ _ _ (N + 1 + 1 + 1) hN3).mono ?_; rintro e wc ⟨rfl, hbc⟩; have hA2 := hh3.below hbc (by omega))
    | (refine wpl_store rfl 39 (.tmp 4) (.tmp 15) rfl (N + 1 + 1) 2 (nC (tXor a b)) rfl rfl 39 _ hA2 szT (fun j _ => nC_one _ j) ?_; intro wq tq hq)
    | fail)
  refine post_n rfl (N + 1 + 1) rfl hq undT szT rfl ?_
  exact ⟨rfl, tq.below (lo.trans (hbc.mono (by omega))) (by omega)⟩
set_option maxRecDepth 100000 in
theorem Join_any (a b : Nm) (w : World) (N : Nat) (hN : Sz w N) : Calls Try.prog 29 #[nV a, nV b] w fun e w' => e = .returned (nV (tJoin a b)) ∧ Below N w w' := by
  unfold nV
  go_enter Try.func29, Try.ntmps29
  go_upto_region 1 with (first
    | (refine wpl_box rfl 39 (.tmp 0) rfl 2 _ rfl (N) hN ?_; intro w1 hN1 hb1 hh1)
    | (refine wpl_box rfl 39 (.tmp 1) rfl 2 _ rfl (N + 1) hN1 ?_; intro w2 hN2 hb2 hh2)
    | (refine wpl_alloc rfl 39 rfl 2 (nC zeroN) zeT (N + 1 + 1) hN2 ?_; intro w3 hN3 hb3 hh3)
    | fail)
  have lo : Below N w w3 := ((hb1.trans (hb2.mono (by omega))).trans (hb3.mono (by omega)))
  have kk0 := ((hh1.below hb2 (by omega)).below hb3 (by omega))
  obtain ⟨f0, g0⟩ := n_cells kk0
  unfold Q at f0 g0
  have kk1 := (hh2.below hb3 (by omega))
  obtain ⟨f1, g1⟩ := n_cells kk1
  unfold Q at f1 g1
  go_wp2_with (first
    | (refine wpl_b rfl rfl (bin_xor _ _ _) rfl rfl ?_)
    | (refine wpl_b rfl rfl (bin_or _ _ _) rfl rfl ?_)
    | (go_at_call 51; refine (known_any _ _ _ (N + 1 + 1 + 1) hN3).mono ?_; rintro e wc ⟨rfl, hbc⟩; have hA2 := hh3.below hbc (by omega))
    | (refine wpl_store rfl 39 (.tmp 4) (.tmp 18) rfl (N + 1 + 1) 2 (nC (tJoin a b)) rfl rfl 39 _ hA2 szT (fun j _ => nC_one _ j) ?_; intro wq tq hq)
    | fail)
  refine post_n rfl (N + 1 + 1) rfl hq undT szT rfl ?_
  exact ⟨rfl, tq.below (lo.trans (hbc.mono (by omega))) (by omega)⟩
/-- A count of places. -/
def tn (z : Int) : Nat := (z % 64).toNat
theorem tn_lt (z : Int) : tn z < 64 := by unfold tn; omega
def tw (z : Int) : W := BitVec.ofNat 64 (tn z)
theorem tw_nat (z : Int) : (tw z).toNat = tn z := by unfold tw; rw [BitVec.toNat_ofNat]; have := tn_lt z; omega
theorem turns_val (z : Int) : (IntKind.u64.wrap z).tmod 64 = qn (tw z) := by
  unfold qn
  rw [tw_nat, wrap_u, qn_ofInt]
  unfold tn
  rw [Int.tmod_eq_emod_of_nonneg (by omega)]
  omega
set_option maxRecDepth 100000 in
theorem turns_any (z : Int) (w : World) (N : Nat) (hN : Sz w N) : Calls Try.prog 72 #[.int .i64 z] w fun e w' => e = .returned (Q (tw z)) ∧ Below N w w' := by
  go_enter Try.func72, Try.ntmps72
  go_wp2
  go_ret
  refine ⟨?_, Below.refl N w⟩
  unfold Q
  rw [← turns_val]; rfl
set_option maxRecDepth 100000 in
theorem Left_any (a : Nm) (z : Int) (w : World) (N : Nat) (hN : Sz w N) : Calls Try.prog 70 #[nV a, .int .i64 z] w fun e w' => e = .returned (nV (tLeft a (tw z).toNat)) ∧ Below N w w' := by
  unfold nV
  go_enter Try.func70, Try.ntmps70
  go_upto_region 1 with (first
    | (refine wpl_box rfl 39 (.tmp 0) rfl 2 _ rfl (N) hN ?_; intro w1 hN1 hb1 hh1)
    | (refine wpl_alloc rfl 39 rfl 2 (nC zeroN) zeT (N + 1) hN1 ?_; intro w2 hN2 hb2 hh2)
    | fail)
  have lo : Below N w w2 := (hb1.trans (hb2.mono (by omega)))
  have kk0 := (hh1.below hb2 (by omega))
  obtain ⟨f0, g0⟩ := n_cells kk0
  unfold Q at f0 g0
  go_wp2_with (first
    | (refine wpl_b rfl rfl (bin_shlu _ _ _) rfl rfl ?_)
    | (go_at_call 72; refine (turns_any _ _ (N + 1 + 1) hN2).mono ?_; rintro e wc ⟨rfl, hbc⟩; have hA2 := hh2.below hbc (by omega); have kc := kk0.below hbc (by omega); obtain ⟨fc, gc⟩ := n_cells kc; unfold Q at fc gc)
    | (refine wpl_build rfl 39 _ rfl (cellsOf (nC (tLeft a (tw z).toNat)) 2) (by kernel_rfl) ?_)
    | (refine wpl_store rfl 39 (.tmp 4) (.tmp 16) rfl (N + 1) 2 (nC (tLeft a (tw z).toNat)) rfl rfl 39 _ hA2 szT (fun j _ => nC_one _ j) ?_; intro wq tq hq)
    | fail)
  refine post_n rfl (N + 1) rfl hq undT szT rfl ?_
  exact ⟨rfl, tq.below (lo.trans (hbc.mono (by omega))) (by omega)⟩
set_option maxRecDepth 100000 in
theorem Down_any (a : Nm) (z : Int) (w : World) (N : Nat) (hN : Sz w N) : Calls Try.prog 71 #[nV a, .int .i64 z] w fun e w' => e = .returned (nV (tDown a (tw z).toNat)) ∧ Below N w w' := by
  unfold nV
  go_enter Try.func71, Try.ntmps71
  go_upto_region 1 with (first
    | (refine wpl_box rfl 39 (.tmp 0) rfl 2 _ rfl (N) hN ?_; intro w1 hN1 hb1 hh1)
    | (refine wpl_alloc rfl 39 rfl 2 (nC zeroN) zeT (N + 1) hN1 ?_; intro w2 hN2 hb2 hh2)
    | fail)
  have lo : Below N w w2 := (hb1.trans (hb2.mono (by omega)))
  have kk0 := (hh1.below hb2 (by omega))
  obtain ⟨f0, g0⟩ := n_cells kk0
  unfold Q at f0 g0
  go_wp2_with (first
    | (refine wpl_b rfl rfl (bin_shru _ _ _) rfl rfl ?_)
    | (go_at_call 72; refine (turns_any _ _ (N + 1 + 1) hN2).mono ?_; rintro e wc ⟨rfl, hbc⟩; have hA2 := hh2.below hbc (by omega); have kc := kk0.below hbc (by omega); obtain ⟨fc, gc⟩ := n_cells kc; unfold Q at fc gc)
    | (refine wpl_build rfl 39 _ rfl (cellsOf (nC (tDown a (tw z).toNat)) 2) (by kernel_rfl) ?_)
    | (refine wpl_store rfl 39 (.tmp 4) (.tmp 16) rfl (N + 1) 2 (nC (tDown a (tw z).toNat)) rfl rfl 39 _ hA2 szT (fun j _ => nC_one _ j) ?_; intro wq tq hq)
    | fail)
  refine post_n rfl (N + 1) rfl hq undT szT rfl ?_
  exact ⟨rfl, tq.below (lo.trans (hbc.mono (by omega))) (by omega)⟩
end Go.Proofs.Ytkljnpdojmcipaa
