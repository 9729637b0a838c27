/- States: saves(): a number is known to be one. -/
import Derived.Test.YtaeggclcjpcnoaaAb5
namespace Go.Proofs.Ytaeggclcjpcnoaa
open Go Go.RowKit
theorem st_R (w : World) : (Instr.field 76 (stV startS) 0).run Try.prog w = .ok (.agg (cellsOf (stC startS) 121)) w := by kernel_rfl
theorem st_1 (w : World) : (Instr.index 72 (.agg (cellsOf (stC startS) 121)) (.int .i64 1)).run Try.prog w = .ok (arV ⟨2, zeroR, 0, 0, 0, 0⟩) w := by kernel_rfl
theorem st_10 (w : World) : (Instr.index 72 (.agg (cellsOf (stC startS) 121)) (.int .i64 10)).run Try.prog w = .ok (arV ⟨3, zeroR, 0, 0, 0, 0⟩) w := by kernel_rfl
theorem ar_k (k : Int) (w : World) : (Instr.field 71 (arV ⟨k, zeroR, 0, 0, 0, 0⟩) 0).run Try.prog w = .ok (.int .i64 k) w := by kernel_rfl
theorem run_fieldV {P : Program} {a : Act} {o : Oper} {T : TypeId} {x : Operand} {k : Nat} {v r : Value} (ho : o.op = .field T x k) (hx : a.eval x = v) (h : ∀ w, (Instr.field T v k).run P w = .ok r w) (w : World) : (execOp a.eval o).run P w = .ok (.value r) w := by
  unfold execOp
  simp only [ho, hx, Sem.run_bind, h w, Result.andThen_ok, Sem.run_pure]
theorem run_indexV {P : Program} {a : Act} {o : Oper} {T : TypeId} {x y : Operand} {v u r : Value} (ho : o.op = .index T x y) (hx : a.eval x = v) (hy : a.eval y = u) (h : ∀ w, (Instr.index T v u).run P w = .ok r w) (w : World) : (execOp a.eval o).run P w = .ok (.value r) w := by
  unfold execOp
  simp only [ho, hx, hy, Sem.run_bind, h w, Result.andThen_ok, Sem.run_pure]
def savedS : St := saveL startS 56 true 8
theorem saved_all : allW savedS 56 8 = true := by decide +kernel
theorem saved_out : allW savedS 55 1 = false := by decide +kernel
theorem saved_w : savedS.W 56 = true := by decide +kernel
theorem low_255 : (lowR1 (obR tAny)).hi = 255#64 := by decide +kernel
set_option maxRecDepth 100000 in
set_option maxHeartbeats 8000000 in
theorem saves_any (w : World) (N : Nat) (hN : Sz w N) : Calls Try.prog 43 #[] w fun e w' => e = .returned (.bool true) ∧ Below N w w' := by
  obtain ⟨S1, e1⟩ : ∃ S, S = savedS := ⟨_, rfl⟩
  have E1 := hid e1
  clear e1
  obtain ⟨z, ez⟩ : ∃ z, z = numA (lowR1 (obR tAny)) := ⟨_, rfl⟩
  have EZ := hid ez
  clear ez
  have hM0 := hN
  have hb0 : Below N w w := Below.refl N w
  go_enter Try.func43, Try.ntmps43
  go_upto_region 2 with (first
    | (go_at_call 42; refine (Start_any _ N hM0).mono ?_; rintro e w1 ⟨rfl, hb1⟩; obtain ⟨M1, hM1⟩ := sz_some w1; have l1 := below_sz hb1 hM0 hM1; clear hb0 hM0)
    | (go_at_call 44; refine (Number_any 5#64 _ M1 hM1).mono ?_; rintro e w2 ⟨rfl, hb2⟩; obtain ⟨M2, hM2⟩ := sz_some w2; have l2 := below_sz hb2 hM1 hM2; replace hb2 := hb1.trans (hb2.mono (by omega)); clear hb1 hM1)
    | (go_at_call 45; refine (Save_num startS (numA (cR 5#64)) (-8) 8 56 8 rfl rfl rfl (by decide +kernel) (by decide +kernel) (by omega) _ M2 hM2).mono ?_; rintro e w3 ⟨rfl, hb3⟩; rw [show saveL startS 56 true 8 = S1 from E1.out.symm]; obtain ⟨M3, hM3⟩ := sz_some w3; have l3 := below_sz hb3 hM2 hM3; replace hb3 := hb2.trans (hb3.mono (by omega)); clear hb2 hM2)
    | (refine wpl_alloc rfl 76 rfl 273 (stC zeroS) zeSt M3 hM3 ?_; intro w4 hM4 hb4 h4; have l4 : M3 < M3 + 1 := Nat.lt_succ_self _; replace hb4 := hb3.trans (hb4.mono (by omega)); clear hb3 hM3)
    | (refine wpl_store rfl 76 (.tmp 1) (.tmp 9) rfl M3 273 (stC S1) rfl rfl 76 _ h4 szSt (fun j _ => stC_one _ j) ?_; intro w5 t5 h5; have hM5 := t5.sz hM4; replace hb4 := t5.below hb4 (by omega); clear hM4)
    | fail)
  go_upto_region 3 with (first
    | (refine wpl_load rfl 76 (.tmp 1) rfl M3 rfl 76 273 _ h5 _ undSt.choose_spec.1 undSt.choose_spec.2 szSt ?_)
    | (go_at_call 47; refine (Load_one S1 (-8) 56 (by decide +kernel) (by decide +kernel) (by decide +kernel) (by omega) (by rw [E1.out]; exact saved_w) _ (M3 + 1) hM5).mono ?_; rintro e w6 ⟨rfl, hb6⟩; rw [← EZ.out]; obtain ⟨M6, hM6⟩ := sz_some w6; have l6 := below_sz hb6 hM5 hM6; replace h5 := h5.below hb6 (by omega); replace hb6 := hb4.trans (hb6.mono (by omega)); clear hb4 hM5)
    | (refine wpl_alloc rfl 71 rfl 11 (arC zeroA) zeAr M6 hM6 ?_; intro w7 hM7 hb7 h7; have l7 : M6 < M6 + 1 := Nat.lt_succ_self _; replace h5 := h5.below hb7 (by omega); replace hb7 := hb6.trans (hb7.mono (by omega)); clear hb6 hM6)
    | (refine wpl_store rfl 71 (.tmp 3) (.tmp 14) rfl M6 11 (arC z) rfl rfl 71 _ h7 szAr (fun j _ => arC_one _ j) ?_; intro w8 t8 h8; have hM8 := t8.sz hM7; replace h5 := h5.touch t8 (by omega); replace hb7 := t8.below hb7 (by omega); clear hM7)
    | fail)
  go_wp2_with (first
    | (refine wpl_want (by rfl) ?_; refine wpl_load rfl 76 (.tmp 1) rfl M3 rfl 76 273 _ h5 _ undSt.choose_spec.1 undSt.choose_spec.2 szSt ?_)
    | (go_at_call 48; refine (Ready_in S1 (-8) 8 56 8 rfl (by omega) (by decide +kernel) (by decide +kernel) (by omega) _ (M6 + 1) hM8).mono ?_; rintro e w9 ⟨rfl, hb9⟩; rw [show allW S1 56 8 = true by rw [E1.out]; exact saved_all]; obtain ⟨M9, hM9⟩ := sz_some w9; have l9 := below_sz hb9 hM8 hM9; replace h5 := h5.below hb9 (by omega); replace h8 := h8.below hb9 (by omega); replace hb9 := hb7.trans (hb9.mono (by omega)); clear hb7 hM8)
    | (go_at_call 48; go_loud (refine (Ready_in S1 (-9) 1 55 1 rfl (by omega) (by decide +kernel) (by decide +kernel) (by omega) _ M9 hM9).mono ?_; rintro e w10 ⟨rfl, hb10⟩; rw [show allW S1 55 1 = false by simp only [E1.out, saved_out]]; obtain ⟨M10, hM10⟩ := sz_some w10; have l10 := below_sz hb10 hM9 hM10; replace h8 := h8.below hb10 (by omega); replace hb10 := hb9.trans (hb10.mono (by omega)); clear hb9 hM9; have c0 : w10.cell? ⟨M6, 0, none⟩ = some (.int .i64 1) := (by have h := h8.cell (j := 0) (by omega); rw [EZ.out] at h; exact h); have c4 := h8.cell (j := 4) (by omega); rw [EZ.out] at c4; replace c4 : w10.cell? ⟨M6, 4, none⟩ = some (.int .u64 255) := c4.trans (congrArg (fun x => some (Q x)) low_255)))
    | (go_at_call 42; refine (Start_any _ M10 hM10).mono ?_; rintro e w11 ⟨rfl, hb11⟩; obtain ⟨M11, hM11⟩ := sz_some w11; have l11 := below_sz hb11 hM10 hM11; replace hb11 := hb10.trans (hb11.mono (by omega)); clear hb10 hM10)
    | (go_at_call 42; refine (Start_any _ M11 hM11).mono ?_; rintro e w12 ⟨rfl, hb12⟩; replace hb12 := hb11.trans (hb12.mono (by omega)); clear hb11 hM11)
    | (refine wpl_want (by rfl) ?_; refine wpl_run rfl (.agg (cellsOf (stC startS) 121)) _ (run_fieldV rfl rfl st_R _) ?_)
    | (refine wpl_want (by rfl) ?_; refine wpl_run rfl (.int .i64 2) _ (run_fieldV rfl rfl (ar_k 2) _) ?_)
    | (refine wpl_want (by rfl) ?_; refine wpl_run rfl (.int .i64 3) _ (run_fieldV rfl rfl (ar_k 3) _) ?_)
    | (refine wpl_want (by rfl) ?_; refine wpl_run rfl (arV ⟨2, zeroR, 0, 0, 0, 0⟩) _ (run_indexV rfl rfl rfl st_1 _) ?_)
    | (refine wpl_want (by rfl) ?_; refine wpl_run rfl (arV ⟨3, zeroR, 0, 0, 0, 0⟩) _ (run_indexV rfl rfl rfl st_10 _) ?_)
    | fail)

  go_ret
  exact ⟨rfl, hb12⟩
end Go.Proofs.Ytaeggclcjpcnoaa
