/- Contracts of known bits: what is straight. -/
import Derived.Test.YtbeikhokkpioeaaNb
namespace Go.Proofs.Ytbeikhokkpioeaa
open Go Go.RowKit
set_option maxRecDepth 100000 in
theorem known_any (x u : W) (w : World) (N : Nat) (hN : Sz w N) : Calls Try.prog 38 #[Q x, Q u] w fun e w' => e = .returned (nV (tKnown x u)) ∧ Below N w w' := by
  unfold nV
  go_enter Try.func38, Try.ntmps38
  go_upto_region 1 with (first
    | (refine wpl_alloc rfl 27 rfl 2 (nC zeroN) zeT (N) hN ?_; intro w1 hN1 hb1 hh1)
    | fail)
  have lo : Below N w w1 := hb1
  go_wp2_with (first
    | (refine wpl_b rfl rfl (bin_andn _ _ _) rfl rfl ?_)
    | (refine wpl_build rfl 27 _ rfl (cellsOf (nC (tKnown x u)) 2) (by kernel_rfl) ?_)
    | (refine wpl_store rfl 27 (.tmp 4) (.tmp 9) rfl (N) 2 (nC (tKnown x u)) rfl rfl 27 _ hh1 szT (fun j _ => nC_one _ j) ?_; intro wq tq hq)
    | fail)
  refine post_n rfl (N) rfl hq undT szT rfl ?_
  exact ⟨rfl, tq.below lo (by omega)⟩
set_option maxRecDepth 100000 in
theorem Const_any (x : W) (w : World) (N : Nat) (hN : Sz w N) : Calls Try.prog 25 #[Q x] w fun e w' => e = .returned (nV (tConst x)) ∧ Below N w w' := by
  unfold nV
  go_enter Try.func25, Try.ntmps25
  go_upto_region 1 with (first
    | (refine wpl_alloc rfl 27 rfl 2 (nC zeroN) zeT (N) hN ?_; intro w1 hN1 hb1 hh1)
    | fail)
  have lo : Below N w w1 := hb1
  go_wp2_with (first
    | (refine wpl_build rfl 27 _ rfl (cellsOf (nC (tConst x)) 2) (by kernel_rfl) ?_)
    | (refine wpl_store rfl 27 (.tmp 2) (.tmp 4) rfl (N) 2 (nC (tConst x)) rfl rfl 27 _ hh1 szT (fun j _ => nC_one _ j) ?_; intro wq tq hq)
    | fail)
  refine post_n rfl (N) rfl hq undT szT rfl ?_
  exact ⟨rfl, tq.below lo (by omega)⟩
set_option maxRecDepth 100000 in
theorem Any_any  (w : World) (N : Nat) (hN : Sz w N) : Calls Try.prog 36 #[] w fun e w' => e = .returned (nV tAny) ∧ Below N w w' := by
  unfold nV
  go_enter Try.func36, Try.ntmps36
  go_upto_region 1 with (first
    | (refine wpl_alloc rfl 27 rfl 2 (nC zeroN) zeT (N) hN ?_; intro w1 hN1 hb1 hh1)
    | fail)
  have lo : Below N w w1 := hb1
  go_wp2_with (first
    | (refine wpl_build rfl 27 _ rfl (cellsOf (nC tAny) 2) (by kernel_rfl) ?_)
    | (refine wpl_store rfl 27 (.tmp 0) (.tmp 1) rfl (N) 2 (nC tAny) rfl rfl 27 _ hh1 szT (fun j _ => nC_one _ j) ?_; intro wq tq hq)
    | fail)
  refine post_n rfl (N) rfl hq undT szT rfl ?_
  exact ⟨rfl, tq.below lo (by omega)⟩
set_option maxRecDepth 100000 in
theorem Right_any (a : Nm) (w : World) (N : Nat) (hN : Sz w N) : Calls Try.prog 20 #[nV a] w fun e w' => e = .returned (.bool (tRight a)) ∧ Below N w w' := by
  unfold nV
  go_enter Try.func20, Try.ntmps20
  go_upto_region 1 with (first
    | (refine wpl_box rfl 27 (.tmp 0) rfl 2 _ rfl (N) hN ?_; intro w1 hN1 hb1 hh1)
    | fail)
  have lo : Below N w w1 := hb1
  have kk0 := hh1
  obtain ⟨f0, g0⟩ := n_cells kk0
  unfold Q at f0 g0
  go_wp2_with (first
    | (refine wpl_b rfl rfl (bin_and _ _ _) rfl rfl ?_)
    | (refine wpl_b (x := .tmp 7) (y := .const (.int .u64 0)) rfl rfl (bin_eql _ _ 0#64) rfl rfl ?_)
    | fail)
  go_ret
  exact ⟨rfl, lo⟩
set_option maxRecDepth 100000 in
theorem RRight_any (a : Nm) (w : World) (N : Nat) (hN : Sz w N) : Calls Try.prog 37 #[nV a] w fun e w' => e = .returned (.bool (tRight a)) ∧ Below N w w' := by
  unfold nV
  go_enter Try.func37, Try.ntmps37
  go_upto_region 1 with (first
    | (refine wpl_box rfl 24 (.tmp 0) rfl 2 _ rfl (N) hN ?_; intro w1 hN1 hb1 hh1)
    | fail)
  have lo : Below N w w1 := hb1
  have kk0 := hh1
  obtain ⟨f0, g0⟩ := n_cells kk0
  unfold Q at f0 g0
  go_wp2_with (first
    | (refine wpl_b rfl rfl (bin_and _ _ _) rfl rfl ?_)
    | (refine wpl_b (x := .tmp 7) (y := .const (.int .u64 0)) rfl rfl (bin_eql _ _ 0#64) rfl rfl ?_)
    | fail)
  go_ret
  exact ⟨rfl, lo⟩
set_option maxRecDepth 100000 in
theorem Has_any (a : Nm) (x : W) (w : World) (N : Nat) (hN : Sz w N) : Calls Try.prog 23 #[nV a, Q x] w fun e w' => e = .returned (.bool (tHas a x)) ∧ Below N w w' := by
  unfold nV
  go_enter Try.func23, Try.ntmps23
  go_upto_region 1 with (first
    | (refine wpl_box rfl 27 (.tmp 0) rfl 2 _ rfl (N) hN ?_; intro w1 hN1 hb1 hh1)
    | fail)
  have lo : Below N w w1 := hb1
  have kk0 := hh1
  obtain ⟨f0, g0⟩ := n_cells kk0
  unfold Q at f0 g0
  go_wp2_with (first
    | (refine wpl_b rfl rfl (bin_andn _ _ _) rfl rfl ?_)
    | (refine wpl_b rfl rfl (bin_eql _ _ _) rfl rfl ?_)
    | fail)
  go_ret
  exact ⟨rfl, lo⟩
set_option maxRecDepth 100000 in
theorem RHas_raw (a : Nm) (x : W) (w : World) (N : Nat) (hN : Sz w N) : Calls Try.prog 35 #[nV a, Q x] w fun e w' => e = .returned (.bool (x &&& (a.m ^^^ 18446744073709551615#64) == a.v)) ∧ Below N w w' := by
  unfold nV
  go_enter Try.func35, Try.ntmps35
  go_upto_region 1 with (first
    | (refine wpl_box rfl 24 (.tmp 0) rfl 2 _ rfl (N) hN ?_; intro w1 hN1 hb1 hh1)
    | fail)
  have lo : Below N w w1 := hb1
  have kk0 := hh1
  obtain ⟨f0, g0⟩ := n_cells kk0
  unfold Q at f0 g0
  go_wp2_with (first
    | (refine wpl_b (x := .tmp 7) (y := .const (.int .u64 18446744073709551615)) rfl rfl (bin_xor _ _ (BitVec.allOnes 64)) rfl rfl ?_)
    | (refine wpl_b rfl rfl (bin_and _ _ _) rfl rfl ?_)
    | (refine wpl_b rfl rfl (bin_eql _ _ _) rfl rfl ?_)
    | fail)
  go_ret
  exact ⟨rfl, lo⟩
set_option maxRecDepth 100000 in
theorem Pick_any (a : Nm) (x : W) (w : World) (N : Nat) (hN : Sz w N) : Calls Try.prog 22 #[nV a, Q x] w fun e w' => e = .returned (Q (a.v ||| (x &&& a.m))) ∧ Below N w w' := by
  unfold nV
  go_enter Try.func22, Try.ntmps22
  go_upto_region 1 with (first
    | (refine wpl_box rfl 24 (.tmp 0) rfl 2 _ rfl (N) hN ?_; intro w1 hN1 hb1 hh1)
    | fail)
  have lo : Below N w w1 := hb1
  have kk0 := hh1
  obtain ⟨f0, g0⟩ := n_cells kk0
  unfold Q at f0 g0
  go_wp2_with (first
    | (refine wpl_b rfl rfl (bin_and _ _ _) rfl rfl ?_)
    | (refine wpl_b rfl rfl (bin_or _ _ _) rfl rfl ?_)
    | fail)
  go_ret
  exact ⟨rfl, lo⟩
theorem has_raw (a : Nm) (x : W) : (x &&& (a.m ^^^ 18446744073709551615#64) == a.v) = tHas a x := by
  unfold tHas
  rw [show (18446744073709551615#64 : W) = BitVec.allOnes 64 from rfl, BitVec.xor_allOnes]
theorem RHas_any (a : Nm) (x : W) (w : World) (N : Nat) (hN : Sz w N) : Calls Try.prog 35 #[nV a, Q x] w fun e w' => e = .returned (.bool (tHas a x)) ∧ Below N w w' := by
  rw [← has_raw]; exact RHas_raw a x w N hN
set_option maxRecDepth 100000 in
theorem Add_any (a b : Nm) (w : World) (N : Nat) (hN : Sz w N) : Calls Try.prog 13 #[nV a, nV b] w fun e w' => e = .returned (nV (tAdd a b)) ∧ Below N w w' := by
  unfold nV
  go_enter Try.func13, Try.ntmps13
  go_upto_region 1 with (first
    | (refine wpl_box rfl 27 (.tmp 0) rfl 2 _ rfl (N) hN ?_; intro w1 hN1 hb1 hh1)
    | (refine wpl_box rfl 27 (.tmp 1) rfl 2 _ rfl (N + 1) hN1 ?_; intro w2 hN2 hb2 hh2)
    | (refine wpl_alloc rfl 27 rfl 2 (nC zeroN) zeT (N + 1 + 1) hN2 ?_; intro w3 hN3 hb3 hh3)
    | fail)
  have lo : Below N w w3 := ((hb1.trans (hb2.mono (by omega))).trans (hb3.mono (by omega)))
  have kk0 := ((hh1.below hb2 (by omega)).below hb3 (by omega))
  obtain ⟨f0, g0⟩ := n_cells kk0
  unfold Q at f0 g0
  have kk1 := (hh2.below hb3 (by omega))
  obtain ⟨f1, g1⟩ := n_cells kk1
  unfold Q at f1 g1
  go_wp2_with (first
    | (refine wpl_b rfl rfl (bin_add _ _ _) rfl rfl ?_)
    | (refine wpl_b rfl rfl (bin_or _ _ _) rfl rfl ?_)
    | (refine wpl_b rfl rfl (bin_xor _ _ _) rfl rfl ?_)
    | (go_at_call 38; refine (known_any _ _ _ (N + 1 + 1 + 1) hN3).mono ?_; rintro e wc ⟨rfl, hbc⟩; have hA2 := hh3.below hbc (by omega))
    | (refine wpl_store rfl 27 (.tmp 4) (.tmp 29) rfl (N + 1 + 1) 2 (nC (tAdd a b)) rfl rfl 27 _ hA2 szT (fun j _ => nC_one _ j) ?_; intro wq tq hq)
    | fail)
  refine post_n rfl (N + 1 + 1) rfl hq undT szT rfl ?_
  exact ⟨rfl, tq.below (lo.trans (hbc.mono (by omega))) (by omega)⟩
set_option maxRecDepth 100000 in
theorem And_any (a b : Nm) (w : World) (N : Nat) (hN : Sz w N) : Calls Try.prog 16 #[nV a, nV b] w fun e w' => e = .returned (nV (tAnd a b)) ∧ Below N w w' := by
  unfold nV
  go_enter Try.func16, Try.ntmps16
  go_upto_region 1 with (first
    | (refine wpl_box rfl 27 (.tmp 0) rfl 2 _ rfl (N) hN ?_; intro w1 hN1 hb1 hh1)
    | (refine wpl_box rfl 27 (.tmp 1) rfl 2 _ rfl (N + 1) hN1 ?_; intro w2 hN2 hb2 hh2)
    | (refine wpl_alloc rfl 27 rfl 2 (nC zeroN) zeT (N + 1 + 1) hN2 ?_; intro w3 hN3 hb3 hh3)
    | fail)
  have lo : Below N w w3 := ((hb1.trans (hb2.mono (by omega))).trans (hb3.mono (by omega)))
  have kk0 := ((hh1.below hb2 (by omega)).below hb3 (by omega))
  obtain ⟨f0, g0⟩ := n_cells kk0
  unfold Q at f0 g0
  have kk1 := (hh2.below hb3 (by omega))
  obtain ⟨f1, g1⟩ := n_cells kk1
  unfold Q at f1 g1
  go_wp2_with (first
    | (refine wpl_b rfl rfl (bin_and _ _ _) rfl rfl ?_)
    | (refine wpl_b rfl rfl (bin_or _ _ _) rfl rfl ?_)
    | (refine wpl_b rfl rfl (bin_andn _ _ _) rfl rfl ?_)
    | (refine wpl_build rfl 27 _ rfl (cellsOf (nC (tAnd a b)) 2) (by kernel_rfl) ?_)
    | (refine wpl_store rfl 27 (.tmp 4) (.tmp 27) rfl (N + 1 + 1) 2 (nC (tAnd a b)) rfl rfl 27 _ hh3 szT (fun j _ => nC_one _ j) ?_; intro wq tq hq)
    | fail)
  refine post_n rfl (N + 1 + 1) rfl hq undT szT rfl ?_
  exact ⟨rfl, tq.below lo (by omega)⟩
set_option maxRecDepth 100000 in
theorem Or_any (a b : Nm) (w : World) (N : Nat) (hN : Sz w N) : Calls Try.prog 18 #[nV a, nV b] w fun e w' => e = .returned (nV (tOr a b)) ∧ Below N w w' := by
  unfold nV
  go_enter Try.func18, Try.ntmps18
  go_upto_region 1 with (first
    | (refine wpl_box rfl 27 (.tmp 0) rfl 2 _ rfl (N) hN ?_; intro w1 hN1 hb1 hh1)
    | (refine wpl_box rfl 27 (.tmp 1) rfl 2 _ rfl (N + 1) hN1 ?_; intro w2 hN2 hb2 hh2)
    | (refine wpl_alloc rfl 27 rfl 2 (nC zeroN) zeT (N + 1 + 1) hN2 ?_; intro w3 hN3 hb3 hh3)
    | fail)
  have lo : Below N w w3 := ((hb1.trans (hb2.mono (by omega))).trans (hb3.mono (by omega)))
  have kk0 := ((hh1.below hb2 (by omega)).below hb3 (by omega))
  obtain ⟨f0, g0⟩ := n_cells kk0
  unfold Q at f0 g0
  have kk1 := (hh2.below hb3 (by omega))
  obtain ⟨f1, g1⟩ := n_cells kk1
  unfold Q at f1 g1
  go_wp2_with (first
    | (refine wpl_b rfl rfl (bin_or _ _ _) rfl rfl ?_)
    | (refine wpl_b rfl rfl (bin_andn _ _ _) rfl rfl ?_)
    | (refine wpl_build rfl 27 _ rfl (cellsOf (nC (tOr a b)) 2) (by kernel_rfl) ?_)
    | (refine wpl_store rfl 27 (.tmp 4) (.tmp 21) rfl (N + 1 + 1) 2 (nC (tOr a b)) rfl rfl 27 _ hh3 szT (fun j _ => nC_one _ j) ?_; intro wq tq hq)
    | fail)
  refine post_n rfl (N + 1 + 1) rfl hq undT szT rfl ?_
  exact ⟨rfl, tq.below lo (by omega)⟩
set_option maxRecDepth 100000 in
theorem Xor_any (a b : Nm) (w : World) (N : Nat) (hN : Sz w N) : Calls Try.prog 19 #[nV a, nV b] w fun e w' => e = .returned (nV (tXor a b)) ∧ Below N w w' := by
  unfold nV
  go_enter Try.func19, Try.ntmps19
  go_upto_region 1 with (first
    | (refine wpl_box rfl 27 (.tmp 0) rfl 2 _ rfl (N) hN ?_; intro w1 hN1 hb1 hh1)
    | (refine wpl_box rfl 27 (.tmp 1) rfl 2 _ rfl (N + 1) hN1 ?_; intro w2 hN2 hb2 hh2)
    | (refine wpl_alloc rfl 27 rfl 2 (nC zeroN) zeT (N + 1 + 1) hN2 ?_; intro w3 hN3 hb3 hh3)
    | fail)
  have lo : Below N w w3 := ((hb1.trans (hb2.mono (by omega))).trans (hb3.mono (by omega)))
  have kk0 := ((hh1.below hb2 (by omega)).below hb3 (by omega))
  obtain ⟨f0, g0⟩ := n_cells kk0
  unfold Q at f0 g0
  have kk1 := (hh2.below hb3 (by omega))
  obtain ⟨f1, g1⟩ := n_cells kk1
  unfold Q at f1 g1
  go_wp2_with (first
    | (refine wpl_b rfl rfl (bin_xor _ _ _) rfl rfl ?_)
    | (refine wpl_b rfl rfl (bin_or _ _ _) rfl rfl ?_)
    | (go_at_call 38; refine (known_any _ _ _ (N + 1 + 1 + 1) hN3).mono ?_; rintro e wc ⟨rfl, hbc⟩; have hA2 := hh3.below hbc (by omega))
    | (refine wpl_store rfl 27 (.tmp 4) (.tmp 15) rfl (N + 1 + 1) 2 (nC (tXor a b)) rfl rfl 27 _ hA2 szT (fun j _ => nC_one _ j) ?_; intro wq tq hq)
    | fail)
  refine post_n rfl (N + 1 + 1) rfl hq undT szT rfl ?_
  exact ⟨rfl, tq.below (lo.trans (hbc.mono (by omega))) (by omega)⟩
set_option maxRecDepth 100000 in
theorem Join_any (a b : Nm) (w : World) (N : Nat) (hN : Sz w N) : Calls Try.prog 24 #[nV a, nV b] w fun e w' => e = .returned (nV (tJoin a b)) ∧ Below N w w' := by
  unfold nV
  go_enter Try.func24, Try.ntmps24
  go_upto_region 1 with (first
    | (refine wpl_box rfl 27 (.tmp 0) rfl 2 _ rfl (N) hN ?_; intro w1 hN1 hb1 hh1)
    | (refine wpl_box rfl 27 (.tmp 1) rfl 2 _ rfl (N + 1) hN1 ?_; intro w2 hN2 hb2 hh2)
    | (refine wpl_alloc rfl 27 rfl 2 (nC zeroN) zeT (N + 1 + 1) hN2 ?_; intro w3 hN3 hb3 hh3)
    | fail)
  have lo : Below N w w3 := ((hb1.trans (hb2.mono (by omega))).trans (hb3.mono (by omega)))
  have kk0 := ((hh1.below hb2 (by omega)).below hb3 (by omega))
  obtain ⟨f0, g0⟩ := n_cells kk0
  unfold Q at f0 g0
  have kk1 := (hh2.below hb3 (by omega))
  obtain ⟨f1, g1⟩ := n_cells kk1
  unfold Q at f1 g1
  go_wp2_with (first
    | (refine wpl_b rfl rfl (bin_xor _ _ _) rfl rfl ?_)
    | (refine wpl_b rfl rfl (bin_or _ _ _) rfl rfl ?_)
    | (go_at_call 38; refine (known_any _ _ _ (N + 1 + 1 + 1) hN3).mono ?_; rintro e wc ⟨rfl, hbc⟩; have hA2 := hh3.below hbc (by omega))
    | (refine wpl_store rfl 27 (.tmp 4) (.tmp 18) rfl (N + 1 + 1) 2 (nC (tJoin a b)) rfl rfl 27 _ hA2 szT (fun j _ => nC_one _ j) ?_; intro wq tq hq)
    | fail)
  refine post_n rfl (N + 1 + 1) rfl hq undT szT rfl ?_
  exact ⟨rfl, tq.below (lo.trans (hbc.mono (by omega))) (by omega)⟩
/-- A count of places. -/
def tn (z : Int) : Nat := (z % 64).toNat
theorem tn_lt (z : Int) : tn z < 64 := by unfold tn; omega
def tw (z : Int) : W := BitVec.ofNat 64 (tn z)
theorem tw_nat (z : Int) : (tw z).toNat = tn z := by unfold tw; rw [BitVec.toNat_ofNat]; have := tn_lt z; omega
theorem turns_val (z : Int) : (IntKind.u64.wrap z).tmod 64 = qn (tw z) := by
  unfold qn
  rw [tw_nat, wrap_u, qn_ofInt]
  unfold tn
  rw [Int.tmod_eq_emod_of_nonneg (by omega)]
  omega
set_option maxRecDepth 100000 in
theorem turns_any (z : Int) (w : World) (N : Nat) (hN : Sz w N) : Calls Try.prog 41 #[.int .i64 z] w fun e w' => e = .returned (Q (tw z)) ∧ Below N w w' := by
  go_enter Try.func41, Try.ntmps41
  go_wp2
  go_ret
  refine ⟨?_, Below.refl N w⟩
  unfold Q
  rw [← turns_val]; rfl
set_option maxRecDepth 100000 in
theorem Left_any (a : Nm) (z : Int) (w : World) (N : Nat) (hN : Sz w N) : Calls Try.prog 26 #[nV a, .int .i64 z] w fun e w' => e = .returned (nV (tLeft a (tw z).toNat)) ∧ Below N w w' := by
  unfold nV
  go_enter Try.func26, Try.ntmps26
  go_upto_region 1 with (first
    | (refine wpl_box rfl 27 (.tmp 0) rfl 2 _ rfl (N) hN ?_; intro w1 hN1 hb1 hh1)
    | (refine wpl_alloc rfl 27 rfl 2 (nC zeroN) zeT (N + 1) hN1 ?_; intro w2 hN2 hb2 hh2)
    | fail)
  have lo : Below N w w2 := (hb1.trans (hb2.mono (by omega)))
  have kk0 := (hh1.below hb2 (by omega))
  obtain ⟨f0, g0⟩ := n_cells kk0
  unfold Q at f0 g0
  go_wp2_with (first
    | (refine wpl_b rfl rfl (bin_shlu _ _ _) rfl rfl ?_)
    | (go_at_call 41; refine (turns_any _ _ (N + 1 + 1) hN2).mono ?_; rintro e wc ⟨rfl, hbc⟩; have hA2 := hh2.below hbc (by omega); have kc := kk0.below hbc (by omega); obtain ⟨fc, gc⟩ := n_cells kc; unfold Q at fc gc)
    | (refine wpl_build rfl 27 _ rfl (cellsOf (nC (tLeft a (tw z).toNat)) 2) (by kernel_rfl) ?_)
    | (refine wpl_store rfl 27 (.tmp 4) (.tmp 16) rfl (N + 1) 2 (nC (tLeft a (tw z).toNat)) rfl rfl 27 _ hA2 szT (fun j _ => nC_one _ j) ?_; intro wq tq hq)
    | fail)
  refine post_n rfl (N + 1) rfl hq undT szT rfl ?_
  exact ⟨rfl, tq.below (lo.trans (hbc.mono (by omega))) (by omega)⟩
set_option maxRecDepth 100000 in
theorem Down_any (a : Nm) (z : Int) (w : World) (N : Nat) (hN : Sz w N) : Calls Try.prog 28 #[nV a, .int .i64 z] w fun e w' => e = .returned (nV (tDown a (tw z).toNat)) ∧ Below N w w' := by
  unfold nV
  go_enter Try.func28, Try.ntmps28
  go_upto_region 1 with (first
    | (refine wpl_box rfl 27 (.tmp 0) rfl 2 _ rfl (N) hN ?_; intro w1 hN1 hb1 hh1)
    | (refine wpl_alloc rfl 27 rfl 2 (nC zeroN) zeT (N + 1) hN1 ?_; intro w2 hN2 hb2 hh2)
    | fail)
  have lo : Below N w w2 := (hb1.trans (hb2.mono (by omega)))
  have kk0 := (hh1.below hb2 (by omega))
  obtain ⟨f0, g0⟩ := n_cells kk0
  unfold Q at f0 g0
  go_wp2_with (first
    | (refine wpl_b rfl rfl (bin_shru _ _ _) rfl rfl ?_)
    | (go_at_call 41; refine (turns_any _ _ (N + 1 + 1) hN2).mono ?_; rintro e wc ⟨rfl, hbc⟩; have hA2 := hh2.below hbc (by omega); have kc := kk0.below hbc (by omega); obtain ⟨fc, gc⟩ := n_cells kc; unfold Q at fc gc)
    | (refine wpl_build rfl 27 _ rfl (cellsOf (nC (tDown a (tw z).toNat)) 2) (by kernel_rfl) ?_)
    | (refine wpl_store rfl 27 (.tmp 4) (.tmp 16) rfl (N + 1) 2 (nC (tDown a (tw z).toNat)) rfl rfl 27 _ hA2 szT (fun j _ => nC_one _ j) ?_; intro wq tq hq)
    | fail)
  refine post_n rfl (N + 1) rfl hq undT szT rfl ?_
  exact ⟨rfl, tq.below (lo.trans (hbc.mono (by omega))) (by omega)⟩
set_option maxRecDepth 100000 in
theorem To_any (a : Nm) (w : World) (N : Nat) (hN : Sz w N) : Calls Try.prog 10 #[nV a] w fun e w' => e = .returned (nV a) ∧ Below N w w' := by
  unfold nV
  go_enter Try.func10, Try.ntmps10
  go_upto_region 1 with (first
    | (refine wpl_box rfl 24 (.tmp 0) rfl 2 _ rfl (N) hN ?_; intro w1 hN1 hb1 hh1)
    | (refine wpl_alloc rfl 27 rfl 2 (nC zeroN) zeT (N + 1) hN1 ?_; intro w2 hN2 hb2 hh2)
    | fail)
  have lo : Below N w w2 := (hb1.trans (hb2.mono (by omega)))
  have kk0 := (hh1.below hb2 (by omega))
  obtain ⟨f0, g0⟩ := n_cells kk0
  unfold Q at f0 g0
  go_wp2_with (first
    | (refine wpl_build rfl 27 _ rfl (cellsOf (nC a) 2) (by kernel_rfl) ?_)
    | (refine wpl_store rfl 27 (.tmp 2) (.tmp 7) rfl (N + 1) 2 (nC a) rfl rfl 27 _ hh2 szT (fun j _ => nC_one _ j) ?_; intro wq tq hq)
    | fail)
  refine post_n rfl (N + 1) rfl hq undT szT rfl ?_
  exact ⟨rfl, tq.below lo (by omega)⟩
set_option maxRecDepth 100000 in
theorem From_any (a : Nm) (w : World) (N : Nat) (hN : Sz w N) : Calls Try.prog 12 #[nV a] w fun e w' => e = .returned (nV a) ∧ Below N w w' := by
  unfold nV
  go_enter Try.func12, Try.ntmps12
  go_upto_region 1 with (first
    | (refine wpl_box rfl 27 (.tmp 0) rfl 2 _ rfl (N) hN ?_; intro w1 hN1 hb1 hh1)
    | (refine wpl_alloc rfl 24 rfl 2 (nC zeroN) zeU (N + 1) hN1 ?_; intro w2 hN2 hb2 hh2)
    | fail)
  have lo : Below N w w2 := (hb1.trans (hb2.mono (by omega)))
  have kk0 := (hh1.below hb2 (by omega))
  obtain ⟨f0, g0⟩ := n_cells kk0
  unfold Q at f0 g0
  go_wp2_with (first
    | (refine wpl_build rfl 24 _ rfl (cellsOf (nC a) 2) (by kernel_rfl) ?_)
    | (refine wpl_store rfl 24 (.tmp 2) (.tmp 7) rfl (N + 1) 2 (nC a) rfl rfl 24 _ hh2 szU (fun j _ => nC_one _ j) ?_; intro wq tq hq)
    | fail)
  refine post_n rfl (N + 1) rfl hq undU szU rfl ?_
  exact ⟨rfl, tq.below lo (by omega)⟩
set_option maxRecDepth 100000 in
theorem right_any (a : Nm) (w : World) (N : Nat) (hN : Sz w N) : Calls Try.prog 9 #[nV a] w fun e w' => e = .returned (nV (rightN a)) ∧ Below N w w' := by
  unfold nV
  obtain ⟨dU, u1, u2⟩ := undU
  go_enter Try.func9, Try.ntmps9
  go_upto_region 1 with (first
    | (refine wpl_box rfl 24 (.tmp 0) rfl 2 _ rfl (N) hN ?_; intro w1 hN1 hb1 hh1)
    | (refine wpl_alloc rfl 24 rfl 2 (nC zeroN) zeU (N + 1) hN1 ?_; intro w2 hN2 hb2 hh2)
    | fail)
  have lo : Below N w w2 := (hb1.trans (hb2.mono (by omega)))
  have kk0 := (hh1.below hb2 (by omega))
  obtain ⟨f0, g0⟩ := n_cells kk0
  unfold Q at f0 g0
  go_wp2_with (first
    | (refine wpl_b rfl rfl (bin_andn _ _ _) rfl rfl ?_)
    | (refine wpl_set rfl 22 (.tmp 8) (.tmp 7) rfl N 0 rfl _ rfl sz64 rfl rfl 24 2 _ kk0 (by omega) ?_; intro w3 t3 h3; have k3 : Has w3 N 24 2 (nC (rightN a)) := h3.congr (fun j hj => by rcases (show j = 0 ∨ j = 1 by omega) with rfl | rfl <;> rfl); have hA2 := hh2.touch t3 (by omega))
    | (refine wpl_load rfl 24 (.tmp 1) rfl N rfl 24 2 _ k3 _ u1 u2 szU ?_)
    | (refine wpl_store rfl 24 (.tmp 2) (.tmp 9) rfl (N + 1) 2 (nC (rightN a)) rfl rfl 24 _ hA2 szU (fun j _ => nC_one _ j) ?_; intro wq tq hq)
    | fail)
  refine post_n rfl (N + 1) rfl hq undU szU rfl ?_
  exact ⟨rfl, tq.below (t3.below lo (by omega)) (by omega)⟩
end Go.Proofs.Ytbeikhokkpioeaa
