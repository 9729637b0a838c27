/- RightsParses: its walk. -/
import Derived.Test.YtilhkgbninbkkaaDoorRq3
import Derived.Test.YtilhkgbninbkkaaDoorRx3
import Derived.Test.YtilhkgbninbkkaaDoorMin
namespace Go.Proofs.YtilhkgbninbkkaaDoor
open Go Go.RowKit
theorem slToQ (s : ByteArray) (i : Nat) (hi : (i : Int) ≤ (s.size : Int)) (i0 : (0 : Int) ≤ (i : Int)) (w : World) : (Instr.sliceAt 9 (.string s) none (some (.int .i64 (i : Int))) none).run Tryd.prog w = .ok (.string (s.extract 0 i)) w := by
  go_simp
theorem run_slToQ {a : Act} {o : Oper} {x y : Operand} {s q : ByteArray} {i : Nat} (ho : o.op = .slice 9 x none (some y) none) (hx : a.eval x = .string s) (hy : a.eval y = .int .i64 (i : Int)) (hi : (i : Int) ≤ (s.size : Int)) (hq : s.extract 0 i = q) (w : World) : (execOp a.eval o).run Tryd.prog w = .ok (.value (.string q)) w := by
  subst hq
  have h9 := slToQ s i hi (by omega) w
  unfold execOp
  simp only [ho, hx, hy, Option.map_some, Option.map_none, Sem.run_bind, h9, Result.andThen_ok, Sem.run_pure]
theorem run_neqBq {a : Act} {o : Oper} {x y : Operand} {ty : TypeId} {p q r : Bool} (ho : o.op = .binOp .neq 4 x y ty) (hx : a.eval x = .bool p) (hy : a.eval y = .bool q) (h : (p != q) = r) (w : World) : (execOp a.eval o).run Tryd.prog w = .ok (.value (.bool r)) w := by
  subst h; unfold execOp; simp only [ho, hx, hy]; go_simp; cases p <;> cases q <;> rfl
theorem prR_none {s : ByteArray} (h : ∀ R, textOf R ≠ s) : prR s = rgNone ∧ prE s = 22 := by
  have e : okT s = false := by
    cases e : okT s with
    | false => rfl
    | true =>
      unfold okT at e
      rw [← beq_toListBytes] at e
      exact absurd (byte_eq e) (h _)
  unfold prR prE
  rw [e]
  exact ⟨rfl, rfl⟩
set_option maxRecDepth 100000 in
set_option maxHeartbeats 16000000 in
theorem law_rparses (s0 : ByteArray) (w : World) (N : Nat) (hN : Sz w N) (hT : Rt w) (hE : Er w) : Calls Tryd.prog 5 #[.string s0] w fun e w' => e = .returned (.bool true) ∧ Below N w w' := by
  obtain ⟨m, hm⟩ : ∃ m, m = min s0.size 60 := ⟨_, rfl⟩
  have Hm := hid hm
  have hm0 : m ≤ s0.size := by omega
  obtain ⟨s, es⟩ : ∃ s, s0.extract 0 m = s := ⟨_, rfl⟩
  have hs : s.size ≤ 60 := by rw [← es, ByteArray.size_extract]; omega
  obtain ⟨n, hn⟩ : ∃ n, s0.size = n := ⟨_, rfl⟩
  rw [hn] at hm0
  have Hn := hid hn
  have ES := hid es
  have hmi := hid (show (m : Int) ≤ (s0.size : Int) by omega)
  have Hm2 : Hid (m = min n 60) := hid (by rw [← hn]; exact hm)
  clear hm hn es
  have HP := fun w N hN hE hD => Parse_any s (by omega) w N hN hE hD
  have HR := fun w N hN => RParse_any s hs w N hN
  have HY : ∀ R, textOf R = s → prR s = R ∧ prE s = 0 := by rintro R rfl; exact prR_text R
  have HZ : (∀ R, textOf R ≠ s) → prR s = rgNone ∧ prE s = 22 := prR_none
  generalize prR s = r at *
  generalize prE s = z at *
  have HYZ := hid (And.intro HY HZ)
  clear HY HZ hs
  obtain ⟨dR, u1, u2⟩ := undRR
  obtain ⟨dF, v1, v2⟩ := undRF
  unfold PP rgV at *
  go_enter Tryd.func5, Tryd.ntmps5
  go_upto_region 4 with (first
    | (go_at_call 22; refine (HP _ N hN hE hT.d).mono ?_; rintro e w2 ⟨rfl, b2⟩; obtain ⟨M2, hM2⟩ := sz_some w2; have l2 := below_sz b2 hN hM2; clear HP)
    | (go_at_call 24; refine (HR _ (M2 + 1) hM4).mono ?_; rintro e w5 ⟨R, b, rfl, hb1, hb2, b5⟩; have HB := hid (And.intro hb1 hb2); clear hb1 hb2 HR; obtain ⟨M5, hM5⟩ := sz_some w5; have l5 := below_sz b5 hM4 hM5; have k5 := k4.below b5 (by omega); have lo5 := lo4.trans (b5.mono (by omega)))
    | ((with_reducible show wpList _ _ _ (_ :: _) _ _); first
      | (refine wpl_run rfl (.int .i64 (n : Int)) _ (run_lenS rfl undTx rfl Hn.out _) ?_; try simp only [pA])
      | (refine wpl_min rfl (.tmp 9) (.const (.int .i64 60)) 3 rfl n 60 m rfl rfl Hm2 ?_; try simp only [pA])
      | (refine wpl_run rfl (.string s) _ (run_slToQ rfl rfl rfl hmi.out ES.out _) ?_; try simp only [pA])
      | (refine wpl_alloc rfl 26 rfl 6 (rgC rgNone) zeRR M2 hM2 ?_; intro w3 hM3 b3 h3; try simp only [pA])
      | (refine wpl_store rfl 26 (.tmp 3) (.tmp 15) rfl M2 6 (rgC r) rfl rfl 26 _ h3 szRR (fun j _ => rgC_one r j) ?_; intro w4 t4 k4; have hM4 := t4.sz hM3; have lo4 := t4.below (b2.trans (b3.mono l2)) (by omega); clear t4 h3 b3 hM3; try simp only [pA])
      | (refine wpl_alloc rfl 24 rfl 6 (rgC rgNone) zeRF M5 hM5 ?_; intro w6 hM6 b6 h6; have k6 := k5.below b6 (by omega); try simp only [pA])
      | (refine wpl_store rfl 24 (.tmp 5) (.tmp 20) rfl M5 6 (rgC R) rfl rfl 24 _ h6 szRF (fun j _ => rgC_one R j) ?_; intro w7 t7 j7; have hM7 := t7.sz hM6; have lo7 := t7.below (lo5.trans (b6.mono (by omega))) (by omega); have k7 := k6.touch t7 (by omega); try simp only [pA]))
    | fail)
  obtain ⟨M7, eM7⟩ : ∃ M, M5 + 1 = M := ⟨_, rfl⟩
  have l7 : M5 < M7 := by omega
  have l8 : M2 < M7 := by omega
  have lN7 : N ≤ M7 := by omega
  rw [eM7] at hM7
  have hT7 := hT.below hN lo7
  clear eM7 hM4 hM5 hM6 k4 k5 k6 h6 t7 b6 b5 lo4 lo5 b2 hM2
  cases b
  · obtain ⟨rfl, hz⟩ := HB.out.2 rfl
    obtain ⟨rfl, rfl⟩ := HYZ.out.2 hz
    clear HB HYZ hz
    have ENE : (rgNone.beq rgNone) = true := (Rg.beq_iff rgNone rgNone).2 rfl
    refine wp_region_later M7 (by kernel_rfl) (by kernel_rfl) ?_
    try simp only [Act.put, List.setIfInBounds_toArray, List.set_cons_succ, List.set_cons_zero]
    go_big_quiet_step ((go_at_call 16; exact later_of hM7 _ (fun K hK hKN => whole_any _ K hK (hT7.below hM7 (Later.b _)))))
    go_big_quiet_step (fail)
    go_big_quiet_step (fail)
    go_big_quiet_step (fail)
    refine later_val (v := .bool false) (fun q => run_eqK (x := .tmp 25) rfl rfl rfl (by decide) _) (by rfl) ?_; try simp only [pA]
    go_big_quiet_step (fail)
    refine later_val (v := .bool false) (fun q => run_neqBq (x := .tmp 26) rfl rfl rfl (by decide) _) (by rfl) ?_; try simp only [pA]
    go_big_quiet_step (fail)
    go_big_quiet_step (fail)
    refine later_val (v := .agg (cellsOf (rgC rgNone) 6)) (fun q => run_ld 26 (.tmp 3) rfl M2 rfl 26 6 _ (Later.has hM7 k7 q) _ u1 u2 szRR) (by rfl) ?_; try simp only [pA]
    go_big_quiet_step ((go_at_call 19; exact later_of hM7 _ (fun K hK hKN => From_any rgNone _ K hK)))
    refine later_val (v := .agg (cellsOf (rgC rgNone) 6)) (fun q => run_ld 24 (.tmp 5) rfl M5 rfl 24 6 _ (Later.has hM7 j7 q) _ v1 v2 szRF) (by rfl) ?_; try simp only [pA]
    refine later_val (v := .bool false) (fun q => run_neq_op 24 24 (.tmp 32) (.tmp 33) rfl _ _ rfl rfl true (by kernel_rfl) (by rw [run_eq_rf, ENE])) (by rfl) ?_; try simp only [pA]
    go_big_quiet_step (fail)
    refine wpQuiet_nil (laterE hM7 ?_)
    intro w8 M8 b8 hM8 l9
    have lo8 := lo7.trans (b8.mono (by omega))
    go_wp2_with (first
      | go_guarded
      | ((with_reducible show wpList _ _ _ (_ :: _) _ _); first
        | (refine wpl_run rfl (.bool true) _ (run_eqK (x := .tmp 36) rfl rfl rfl (by decide) _) ?_; try simp only [pA]))
      | fail)
    go_ret
    exact ⟨rfl, lo8⟩
  · have hR := HB.out.1 rfl
    obtain ⟨rfl, rfl⟩ := HYZ.out.1 R hR
    have HRT := hid hR
    clear HB HYZ hR
    have ENE : (r.beq r) = true := (Rg.beq_iff r r).2 rfl
    refine wp_region_later M7 (by kernel_rfl) (by kernel_rfl) ?_
    try simp only [Act.put, List.setIfInBounds_toArray, List.set_cons_succ, List.set_cons_zero]
    go_big_quiet_step ((go_at_call 16; exact later_of hM7 _ (fun K hK hKN => whole_any _ K hK (hT7.below hM7 (Later.b _)))))
    go_big_quiet_step (fail)
    go_big_quiet_step (fail)
    go_big_quiet_step (fail)
    refine later_val (v := .bool true) (fun q => run_eqK (x := .tmp 25) rfl rfl rfl (by decide) _) (by rfl) ?_; try simp only [pA]
    go_big_quiet_step (fail)
    refine later_val (v := .bool false) (fun q => run_neqBq (x := .tmp 26) rfl rfl rfl (by decide) _) (by rfl) ?_; try simp only [pA]
    go_big_quiet_step (fail)
    go_big_quiet_step (fail)
    refine later_val (v := .agg (cellsOf (rgC r) 6)) (fun q => run_ld 26 (.tmp 3) rfl M2 rfl 26 6 _ (Later.has hM7 k7 q) _ u1 u2 szRR) (by rfl) ?_; try simp only [pA]
    go_big_quiet_step ((go_at_call 19; exact later_of hM7 _ (fun K hK hKN => From_any r _ K hK)))
    refine later_val (v := .agg (cellsOf (rgC r) 6)) (fun q => run_ld 24 (.tmp 5) rfl M5 rfl 24 6 _ (Later.has hM7 j7 q) _ v1 v2 szRF) (by rfl) ?_; try simp only [pA]
    refine later_val (v := .bool false) (fun q => run_neq_op 24 24 (.tmp 32) (.tmp 33) rfl _ _ rfl rfl true (by kernel_rfl) (by rw [run_eq_rf, ENE])) (by rfl) ?_; try simp only [pA]
    go_big_quiet_step (fail)
    refine wpQuiet_nil (laterE hM7 ?_)
    intro w8 M8 b8 hM8 l9
    have lo8 := lo7.trans (b8.mono (by omega))
    have k8 := k7.below b8 (by omega)
    have hT8 := hT7.below hM7 b8
    go_wp2_with (first
      | (go_at_call 21; refine (Text_any r _ M8 hM8 hT8.d).mono ?_; rintro e w9 ⟨rfl, b9⟩; have lo9 := lo8.trans (b9.mono (by omega)))
      | ((with_reducible show wpList _ _ _ (_ :: _) _ _); first
        | (refine wpl_run rfl (.bool false) _ (run_eqK (x := .tmp 36) rfl rfl rfl (by decide) _) ?_; try simp only [pA])
        | (refine wpl_want (by rfl) ?_; refine wpl_run rfl (.bool true) _ (run_eqK (x := .tmp 39) rfl rfl rfl (by decide) _) ?_; try simp only [pA])
        | (refine wpl_want (by rfl) ?_; refine wpl_load rfl 26 (.tmp 3) rfl M2 rfl 26 6 _ k8 _ u1 u2 szRR ?_; try simp only [pA])
        | (refine wpl_want (by rfl) ?_; refine wpl_run rfl (.bool true) _ (run_eqT (x := .tmp 43) rfl rfl rfl (by rw [HRT.out]; exact beq_self_eq_true _) _) ?_; try simp only [pA]))
      | fail)
    go_ret
    exact ⟨rfl, lo9⟩
end Go.Proofs.YtilhkgbninbkkaaDoor
