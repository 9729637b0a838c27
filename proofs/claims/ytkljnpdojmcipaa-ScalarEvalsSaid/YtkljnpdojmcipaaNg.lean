/- Contracts of known bits: the product, what is common to both. -/
import Derived.Test.YtkljnpdojmcipaaNf
namespace Go.Proofs.Ytkljnpdojmcipaa
open Go Go.RowKit
theorem tw_k (k : Nat) (hk : k < 64) : (tw (k : Int)).toNat = k := by rw [tw_nat]; unfold tn; omega
theorem Left_k (a : Nm) (k : Nat) (hk : k < 64) (w : World) (N : Nat) (hN : Sz w N) : Calls Try.prog 70 #[nV a, .int .i64 (k : Int)] w fun e w' => e = .returned (nV (tLeft a k)) ∧ Below N w w' := by
  have := Left_any a (k : Int) w N hN
  rw [tw_k k hk] at this; exact this
theorem Down_k (a : Nm) (k : Nat) (hk : k < 64) (w : World) (N : Nat) (hN : Sz w N) : Calls Try.prog 71 #[nV a, .int .i64 (k : Int)] w fun e w' => e = .returned (nV (tDown a k)) ∧ Below N w w' := by
  have := Down_any a (k : Int) w N hN
  rw [tw_k k hk] at this; exact this

set_option maxRecDepth 100000 in
set_option maxHeartbeats 2000000 in
theorem Mul_any (a b : Nm) (w : World) (N : Nat) (hN : Sz w N) : Calls Try.prog 59 #[nV a, nV b] w fun e w' => e = .returned (nV (tMul a b)) ∧ Below N w w' := by
  obtain ⟨dT, u1, u2⟩ := undT
  unfold nV
  go_enter Try.func59, Try.ntmps59
  go_upto_region 1 with (first
    | (refine wpl_box rfl 39 (.tmp 0) rfl 2 _ rfl (N) hN ?_; intro w1 hN1 hb1 hh1)
    | (refine wpl_box rfl 39 (.tmp 1) rfl 2 _ rfl (N + 1) hN1 ?_; intro w2 hN2 hb2 hh2)
    | (refine wpl_alloc rfl 39 rfl 2 (nC zeroN) zeT (N + 1 + 1) hN2 ?_; intro w3 hN3 hb3 hh3)
    | fail)
  have lo3 : Below N w w3 := ((hb1.trans (hb2.mono (by omega))).trans (hb3.mono (by omega)))
  have ka3 := ((hh1.below hb2 (by omega)).below hb3 (by omega))
  have kb3 := (hh2.below hb3 (by omega))
  clear hh1 hh2 hb1 hb2 hb3 hN1 hN2
  have C0 := Const_any 0#64
  go_upto_region 2 with (first
    | (go_at_call 28; refine (C0 _ (N + 1 + 1 + 1) hN3).mono ?_; rintro e w4 ⟨rfl, hb4⟩; obtain ⟨M4, hM4⟩ := sz_some w4; have l4 := below_sz hb4 hN3 hM4)
    | (refine wpl_alloc rfl 39 rfl 2 (nC zeroN) zeT M4 hM4 ?_; intro w5 hN5 hb5 hh5)
    | (refine wpl_store rfl 39 (.tmp 5) (.tmp 9) rfl M4 2 (nC (tConst 0#64)) rfl rfl 39 _ hh5 szT (fun j _ => nC_one _ j) ?_; intro w6 t6 h6)
    | fail)
  have lo6 : Below N w w6 := t6.below ((lo3.trans (hb4.mono (by omega))).trans (hb5.mono (by omega))) (by omega)
  have ka6 := ((ka3.below hb4 (by omega)).below hb5 (by omega)).touch t6 (by omega)
  have kb6 := ((kb3.below hb4 (by omega)).below hb5 (by omega)).touch t6 (by omega)
  have kr6 := ((hh3.below hb4 (by omega)).below hb5 (by omega)).touch t6 (by omega)
  have hN6 := t6.sz hN5
  clear hh3 ka3 kb3 hh5 hb5 hb4 lo3 hN3 C0 hM4 hN5
  go_wp2_with fail
  go_loopg [6, 7, 8, 10] 64 (fun g x6 x7 x8 i wr => ∃ k : Nat, k ≤ 64 ∧ g = 64 - k ∧ i = .int .i64 (k : Int) ∧ Has wr N 39 2 (nC a) ∧ Has wr (N + 1) 39 2 (nC b) ∧ Has wr (N + 1 + 1) 39 2 (nC zeroN) ∧ Has wr M4 39 2 (nC (tMulN a b k)) ∧ Below N w wr)
  case atStart => exact ⟨0, by omega, rfl, rfl, ka6, kb6, kr6, h6, lo6⟩
  case round =>
    clear ka6 kb6 kr6 h6 lo6 t6 hN6
    obtain ⟨k, hk, rfl, rfl, ka, kb, kr, kp, lo⟩ := hrel
    obtain ⟨M, hM⟩ := sz_some wr
    have lM := kp.ltN hM
    by_cases hlt : k < 64
    · have t1 : (k : Int) < 64 := by omega
      have hk6 := hlt
      go_upto_region 6 with (first
        | (refine wpl_b (x := .const (.int .u64 1)) (y := .tmp 13) rfl rfl (bin_shl _ 1#64 k) rfl rfl ?_)
        | fail)
      refine wp_region_any (by kernel_rfl) ?_
      replace ka : Has wr.drew N 39 2 (nC a) := ka
      replace kb : Has wr.drew (N + 1) 39 2 (nC b) := kb
      replace kr : Has wr.drew (N + 1 + 1) 39 2 (nC zeroN) := kr
      replace kp : Has wr.drew M4 39 2 (nC (tMulN a b k)) := kp
      replace hM : Sz wr.drew M := hM
      replace lo : Below N w wr.drew := lo.drew
      change wpAny _ _ _ _ _ _ _ (World.drew _)
      generalize wr.drew = w4 at *
      refine wpAny_pot (rem := [0, 1, 2, 3, 4, 5]) (FG M (fun j => if j = 0 then some (Value.agg (cellsOf (nC (tMulN a b k)) 2)) else if j = 1 then some (Value.agg (cellsOf (nC b) 2)) else if j = 2 then some (Value.int .i64 (k : Int)) else if j = 3 then some (Value.agg (cellsOf (nC (tLeft b k)) 2)) else if j = 4 then some (Value.agg (cellsOf (nC (tAdd (tMulN a b k) (tLeft b k))) 2)) else none) (fun j => (39, 2, nC zeroN))) (TwoN (fun j => if j = 0 then some (Value.agg (cellsOf (nC (tMulN a b k)) 2)) else if j = 1 then some (Value.agg (cellsOf (nC b) 2)) else if j = 2 then some (Value.int .i64 (k : Int)) else if j = 3 then some (Value.agg (cellsOf (nC (tLeft b k)) 2)) else if j = 4 then some (Value.agg (cellsOf (nC (tAdd (tMulN a b k) (tLeft b k))) 2)) else none)) (Below M w4) _ _ _ _ (by kernel_rfl) (size_dstG (by kernel_rfl)) (Below.refl _ _) ?_ ?_
      · intro i hi ac wa hI ha hv
        simp only [List.mem_cons, List.not_mem_nil, or_false] at hi
        rcases hi with rfl | rfl | rfl | rfl | rfl | rfl
        · exact potg_run rfl rfl (Value.agg (cellsOf (nC (tMulN a b k)) 2)) rfl (run_rw 39 (.tmp 5) rfl M4 (ha 5 (not_dstG (by kernel_rfl))) 39 2 _ (Has.below kp hI (Has.ltN kp hM)) undT szT) hM hI
        · exact potg_run rfl rfl (Value.agg (cellsOf (nC b) 2)) rfl (run_rw 39 (.tmp 3) rfl (N + 1) (ha 3 (not_dstG (by kernel_rfl))) 39 2 _ (Has.below kb hI (Has.ltN kb hM)) undT szT) hM hI
        · exact potg_run rfl rfl (Value.int .i64 (k : Int)) rfl (run_mv (x := (.tmp 6)) rfl _ (ha 6 (not_dstG (by kernel_rfl)))) hM hI
        · obtain ⟨v1, hv1a, hv1b⟩ := hv 1 (by simp) (by kernel_rfl)
          have ev1 := hv1b.val rfl
          subst ev1
          obtain ⟨v2, hv2a, hv2b⟩ := hv 2 (by simp) (by kernel_rfl)
          have ev2 := hv2b.val rfl
          subst ev2
          exact potg_cl rfl rfl 70 _ _ rfl #[(Value.agg (cellsOf (nC b) 2)), (Value.int .i64 (k : Int))] (by simp only [List.map_toArray, List.map_cons, List.map_nil, (show ac.eval (.tmp 16) = (Value.agg (cellsOf (nC b) 2)) from (hv1a 16 rfl)), (show ac.eval (.tmp 17) = (Value.int .i64 (k : Int)) from (hv2a 17 rfl))] <;> rfl) (by kernel_rfl) (Value.agg (cellsOf (nC (tLeft b k)) 2)) (fun K hK => Left_k b k hk6 wa K hK) rfl hM hI
        · obtain ⟨v0, hv0a, hv0b⟩ := hv 0 (by simp) (by kernel_rfl)
          have ev0 := hv0b.val rfl
          subst ev0
          obtain ⟨v3, hv3a, hv3b⟩ := hv 3 (by simp) (by kernel_rfl)
          have ev3 := hv3b.val rfl
          subst ev3
          exact potg_cl rfl rfl 56 _ _ rfl #[(Value.agg (cellsOf (nC (tMulN a b k)) 2)), (Value.agg (cellsOf (nC (tLeft b k)) 2))] (by simp only [List.map_toArray, List.map_cons, List.map_nil, (show ac.eval (.tmp 15) = (Value.agg (cellsOf (nC (tMulN a b k)) 2)) from (hv0a 15 rfl)), (show ac.eval (.tmp 18) = (Value.agg (cellsOf (nC (tLeft b k)) 2)) from (hv3a 18 rfl))] <;> rfl) (by kernel_rfl) (Value.agg (cellsOf (nC (tAdd (tMulN a b k) (tLeft b k))) 2)) (fun K hK => Add_any (tMulN a b k) (tLeft b k) wa K hK) rfl hM hI
        · exact potg_al rfl rfl rfl zeT rfl rfl hM hI
      · intro vals w5 hb5 hF hG
        have e0 := (hF 0 (by simp)).val rfl
        have e1 := (hF 1 (by simp)).val rfl
        have e2 := (hF 2 (by simp)).val rfl
        have e3 := (hF 3 (by simp)).val rfl
        have e4 := (hF 4 (by simp)).val rfl
        obtain ⟨b5, l5, e5, h5⟩ := (hF 5 (by simp)).al rfl rfl
        clear hF hG
        simp only [List.foldl_cons, List.foldl_nil, dstOf, List.getElem?_toArray, List.getElem?_cons_succ, List.getElem?_cons_zero, Option.bind_some, Act.put, List.setIfInBounds_toArray, List.set_cons_succ, List.set_cons_zero, e0, e1, e2, e3, e4, e5]
        clear e0 e1 e2 e3 e4 e5
        refine wpAny_chain [6] _ _ _ _ (by kernel_rfl) (by decide) ?_
        simp only [List.filterMap_cons, List.filterMap_nil, List.getElem?_toArray, List.getElem?_cons_succ, List.getElem?_cons_zero]
        refine wpl_store rfl 39 (.tmp 8) (.tmp 19) rfl b5 2 (nC (tAdd (tMulN a b k) (tLeft b k))) rfl rfl 39 _ h5 szT (fun j _ => nC_one _ j) ?_
        intro w7 t7 h7
        have ka7 := (ka.below hb5 (by omega)).touch t7 (by omega)
        have kb7 := (kb.below hb5 (by omega)).touch t7 (by omega)
        have kr7 := (kr.below hb5 (by omega)).touch t7 (by omega)
        have kp7 := (kp.below hb5 (by omega)).touch t7 (by omega)
        have lo7 : Below N w w7 := t7.below (lo.trans (hb5.mono (by omega))) (by omega)
        have nb : M4 < b5 := by omega
        clear ka kb kr kp lo hb5 h5 t7
        obtain ⟨M7, hM7⟩ := sz_some w7
        have lb7 := h7.ltN hM7
        obtain ⟨f0, g0⟩ := n_cells ka7
        go_upto_region 7 with fail
        cases em : (a.m &&& (1#64 <<< k) != 0#64)
        · have Em := hid em
          have E := hid (show tMulN a b (k + 1) = if (a.v &&& (1#64 <<< k) != 0#64) = true then tAdd (tMulN a b k) (tLeft b k) else tMulN a b k by show tMulStep a b (tMulN a b k) k = _; unfold tMulStep; rw [em]; rfl)
          clear em
          refine wp_region_later1 (M7) ?_
          simp only [Act.put, List.setIfInBounds_toArray, List.set_cons_succ, List.set_cons_zero]
          go_big_quiet_step (fail)
          refine later_c1 hM7 22 (.tmp 20) rfl rfl und64 rfl g0 (by rfl) ?_; simp only [Act.put, List.setIfInBounds_toArray, List.set_cons_succ, List.set_cons_zero]
          go_big_quiet_step (fail)
          refine later_b (x := (.tmp 21)) (y := (.tmp 22)) rfl (bin_and _ a.m (1#64 <<< k)) rfl rfl (by rfl) ?_; simp only [Act.put, List.setIfInBounds_toArray, List.set_cons_succ, List.set_cons_zero]
          refine later_b (x := (.tmp 23)) (y := (.const (.int .u64 0))) rfl (BinRun.is Em.out (bin_neq _ (a.m &&& (1#64 <<< k)) 0#64)) rfl rfl (by rfl) ?_; simp only [Act.put, List.setIfInBounds_toArray, List.set_cons_succ, List.set_cons_zero]
          refine wpQuiet_nil ?_
          rintro w8 ⟨qw8, ew8⟩
          have hbw8 := qw8.b
          rw [← ew8] at hbw8
          clear qw8 ew8
          have ka8 := ka7.below hbw8 (by omega)
          have kb8 := kb7.below hbw8 (by omega)
          have kr8 := kr7.below hbw8 (by omega)
          have kp8 := kp7.below hbw8 (by omega)
          have h8 := h7.below hbw8 (by omega)
          have lo8 := lo7.trans (hbw8.mono (by omega))
          obtain ⟨M8, hM8⟩ := sz_some w8
          have l8 := below_sz hbw8 hM7 hM8
          clear ka7 kb7 kr7 kp7 h7 lo7 f0 g0
          obtain ⟨f0, g0⟩ := n_cells ka8
          go_upto_region 9 with fail
          cases ev : (a.v &&& (1#64 <<< k) != 0#64)
          · have Ev := hid ev
            have E2 := hid (show tMulN a b (k + 1) = tMulN a b k by rw [E.out, ev]; rfl)
            clear ev E
            refine wp_region_later1 (M8) ?_
            go_big_quiet_step (fail)
            refine later_c1 hM8 22 (.tmp 28) rfl rfl und64 rfl f0 (by rfl) ?_; simp only [Act.put, List.setIfInBounds_toArray, List.set_cons_succ, List.set_cons_zero]
            go_big_quiet_step (fail)
            refine later_b (x := (.tmp 29)) (y := (.tmp 30)) rfl (bin_and _ a.v (1#64 <<< k)) rfl rfl (by rfl) ?_; simp only [Act.put, List.setIfInBounds_toArray, List.set_cons_succ, List.set_cons_zero]
            refine later_b (x := (.tmp 31)) (y := (.const (.int .u64 0))) rfl (BinRun.is Ev.out (bin_neq _ (a.v &&& (1#64 <<< k)) 0#64)) rfl rfl (by rfl) ?_; simp only [Act.put, List.setIfInBounds_toArray, List.set_cons_succ, List.set_cons_zero]
            refine wpQuiet_nil ?_
            rintro w9 ⟨qw9, ew9⟩
            have hbw9 := qw9.b
            rw [← ew9] at hbw9
            clear qw9 ew9
            have ka9 := ka8.below hbw9 (by omega)
            have kb9 := kb8.below hbw9 (by omega)
            have kr9 := kr8.below hbw9 (by omega)
            have kp9 := kp8.below hbw9 (by omega)
            have lo9 := lo8.trans (hbw9.mono (by omega))
            clear ka8 kb8 kr8 kp8 h8 lo8 f0 g0
            go_wp2_with fail
            go_roundg (64 - (k + 1))
            case rel => exact ⟨k + 1, by omega, rfl, by simp, ka9, kb9, kr9, by rw [E2.out]; exact kp9, lo9⟩
            case measure => omega
          · have Ev := hid ev
            have E2 := hid (show tMulN a b (k + 1) = tAdd (tMulN a b k) (tLeft b k) by rw [E.out, ev]; rfl)
            clear ev E
            refine wp_region_later1 (M8) ?_
            go_big_quiet_step (fail)
            refine later_c1 hM8 22 (.tmp 28) rfl rfl und64 rfl f0 (by rfl) ?_; simp only [Act.put, List.setIfInBounds_toArray, List.set_cons_succ, List.set_cons_zero]
            go_big_quiet_step (fail)
            refine later_b (x := (.tmp 29)) (y := (.tmp 30)) rfl (bin_and _ a.v (1#64 <<< k)) rfl rfl (by rfl) ?_; simp only [Act.put, List.setIfInBounds_toArray, List.set_cons_succ, List.set_cons_zero]
            refine later_b (x := (.tmp 31)) (y := (.const (.int .u64 0))) rfl (BinRun.is Ev.out (bin_neq _ (a.v &&& (1#64 <<< k)) 0#64)) rfl rfl (by rfl) ?_; simp only [Act.put, List.setIfInBounds_toArray, List.set_cons_succ, List.set_cons_zero]
            refine wpQuiet_nil ?_
            rintro w9 ⟨qw9, ew9⟩
            have hbw9 := qw9.b
            rw [← ew9] at hbw9
            clear qw9 ew9
            have ka9 := ka8.below hbw9 (by omega)
            have kb9 := kb8.below hbw9 (by omega)
            have kr9 := kr8.below hbw9 (by omega)
            have kp9 := kp8.below hbw9 (by omega)
            have h9 := h8.below hbw9 (by omega)
            have lo9 := lo8.trans (hbw9.mono (by omega))
            clear ka8 kb8 kr8 kp8 h8 lo8 f0 g0
            go_wp2_with (first
              | (refine wpl_load rfl 39 (.tmp 8) rfl b5 rfl 39 2 _ h9 _ u1 u2 szT ?_)
              | (refine wpl_store rfl 39 (.tmp 5) (.tmp 33) rfl M4 2 (nC (tAdd (tMulN a b k) (tLeft b k))) rfl rfl 39 _ kp9 szT (fun j _ => nC_one _ j) ?_; intro w10 t10 h10)
              | fail)
            go_roundg (64 - (k + 1))
            case rel => exact ⟨k + 1, by omega, rfl, by simp, ka9.touch t10 (by omega), kb9.touch t10 (by omega), kr9.touch t10 (by omega), by rw [E2.out]; exact h10, t10.below lo9 (by omega)⟩
            case measure => omega
        · have Em := hid em
          have E := hid (show tMulN a b (k + 1) = tJoin (tMulN a b k) (tAdd (tMulN a b k) (tLeft b k)) by show tMulStep a b (tMulN a b k) k = _; unfold tMulStep; rw [em]; rfl)
          clear em
          refine wp_region_later1 (M7) ?_
          simp only [Act.put, List.setIfInBounds_toArray, List.set_cons_succ, List.set_cons_zero]
          go_big_quiet_step (fail)
          refine later_c1 hM7 22 (.tmp 20) rfl rfl und64 rfl g0 (by rfl) ?_; simp only [Act.put, List.setIfInBounds_toArray, List.set_cons_succ, List.set_cons_zero]
          go_big_quiet_step (fail)
          refine later_b (x := (.tmp 21)) (y := (.tmp 22)) rfl (bin_and _ a.m (1#64 <<< k)) rfl rfl (by rfl) ?_; simp only [Act.put, List.setIfInBounds_toArray, List.set_cons_succ, List.set_cons_zero]
          refine later_b (x := (.tmp 23)) (y := (.const (.int .u64 0))) rfl (BinRun.is Em.out (bin_neq _ (a.m &&& (1#64 <<< k)) 0#64)) rfl rfl (by rfl) ?_; simp only [Act.put, List.setIfInBounds_toArray, List.set_cons_succ, List.set_cons_zero]
          refine wpQuiet_nil ?_
          rintro w8 ⟨qw8, ew8⟩
          have hbw8 := qw8.b
          rw [← ew8] at hbw8
          clear qw8 ew8
          have ka8 := ka7.below hbw8 (by omega)
          have kb8 := kb7.below hbw8 (by omega)
          have kr8 := kr7.below hbw8 (by omega)
          have kp8 := kp7.below hbw8 (by omega)
          have h8 := h7.below hbw8 (by omega)
          have lo8 := lo7.trans (hbw8.mono (by omega))
          obtain ⟨M8, hM8⟩ := sz_some w8
          have l8 := below_sz hbw8 hM7 hM8
          clear ka7 kb7 kr7 kp7 h7 lo7 f0 g0
          have C := Join_any (tMulN a b k) (tAdd (tMulN a b k) (tLeft b k))
          unfold nV at C
          go_wp2_with (first
            | (refine wpl_load rfl 39 (.tmp 5) rfl M4 rfl 39 2 _ kp8 _ u1 u2 szT ?_)
            | (refine wpl_load rfl 39 (.tmp 8) rfl b5 rfl 39 2 _ h8 _ u1 u2 szT ?_)
            | (go_at_call 29; refine (C _ M8 hM8).mono ?_; rintro e w9 ⟨rfl, hb9⟩; have kp9 := kp8.below hb9 (by omega))
            | (refine wpl_store rfl 39 (.tmp 5) (.tmp 27) rfl M4 2 (nC (tJoin (tMulN a b k) (tAdd (tMulN a b k) (tLeft b k)))) rfl rfl 39 _ kp9 szT (fun j _ => nC_one _ j) ?_; intro w10 t10 h10)
            | fail)
          go_roundg (64 - (k + 1))
          case rel => exact ⟨k + 1, by omega, rfl, by simp, (ka8.below hb9 (by omega)).touch t10 (by omega), (kb8.below hb9 (by omega)).touch t10 (by omega), (kr8.below hb9 (by omega)).touch t10 (by omega), by rw [E.out]; exact h10, t10.below (lo8.trans (hb9.mono (by omega))) (by omega)⟩
          case measure => omega
    · have e64 : k = 64 := by omega
      subst e64
      have kP : Has wr M4 39 2 (nC (tMul a b)) := kp
      clear kp
      go_wp2_with (first
        | (refine wpl_load rfl 39 (.tmp 5) rfl M4 rfl 39 2 _ kP _ u1 u2 szT ?_)
        | (refine wpl_store rfl 39 (.tmp 4) (.tmp 35) rfl (N + 1 + 1) 2 (nC (tMul a b)) rfl rfl 39 _ kr szT (fun j _ => nC_one _ j) ?_; intro w10 t10 h10)
        | fail)
      refine post_n rfl (N + 1 + 1) rfl h10 undT szT rfl ?_
      exact ⟨rfl, t10.below lo (by omega)⟩
end Go.Proofs.Ytkljnpdojmcipaa
