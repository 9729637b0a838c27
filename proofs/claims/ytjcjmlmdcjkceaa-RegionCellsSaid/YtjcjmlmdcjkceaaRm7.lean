/- A program's memory: '==' of values; saves() is true. -/
import Derived.Test.YtjcjmlmdcjkceaaRm5
import Derived.Test.YtjcjmlmdcjkceaaRm6
import Derived.Laws.Pointers
namespace Go.Proofs.Ytjcjmlmdcjkceaa
open Go Go.RowKit
def Vl.beq (a b : Vl) : Bool := a.tag == b.tag && (a.n == b.n && a.sl == b.sl)
set_option maxRecDepth 100000 in
theorem run_fieldsV (d : Nat) (a b : Vl) (ha : a.c = none) (hb : b.c = none) (w : World) (fs : List Field) (h : fs.map (fun f => (f.name != "_", f.offset, f.type)) = [(true, 0, 3), (true, 1, 23), (true, 2, 3), (true, 3, 24)]) :
    (Op.eqFields (d + 1) (cellsOf (vlC a) 4) (cellsOf (vlC b) 4) fs).run Try.prog w = .ok (a.beq b) w := by
  have hl : fs.length = 4 := by have := congrArg List.length h; simpa using this
  obtain ⟨f0, f1, f2, f3, rfl⟩ : ∃ f0 f1 f2 f3, fs = [f0, f1, f2, f3] := by
    match fs, hl with
    | [f0, f1, f2, f3], _ => exact ⟨f0, f1, f2, f3, rfl⟩
  simp only [List.map_cons, List.map_nil, List.cons.injEq, Prod.mk.injEq, bne_iff_ne, ne_eq, and_true] at h
  obtain ⟨⟨n0, o0, t0⟩, ⟨n1, o1, t1⟩, ⟨n2, o2, t2⟩, ⟨n3, o3, t3⟩⟩ := h
  have c (x y : W) : (Op.equalIn (d + 1) 23 (Q x) (Q y)).run Try.prog w = .ok (x == y) w := by
    unfold Q
    rw [run_equalIn_int w d 23 .u64 .u64 (qn x) (qn y) und64, qn_beq]
  have ci (x y : Int) : (Op.equalIn (d + 1) 3 (.int .i64 x) (.int .i64 y)).run Try.prog w = .ok (x == y) w := run_equalIn_int w d 3 .i64 .i64 x y undInt
  have cp : (Op.equalIn (d + 1) 24 (.pointer none) (.pointer none)).run Try.prog w = .ok true w := run_equalIn_pointer_nil w d 24 none (by kernel_rfl)
  have P64 := fun f i hi w => run_partN 23 (.int .u64) und64 rfl f 4 i hi w
  have PI := fun f i hi w => run_partN 3 (.int .i64) undInt rfl f 4 i hi w
  have PP := fun f i hi w => run_partN 24 (.pointer 113) (by kernel_rfl) rfl f 4 i hi w
  have a0 : vlC a 0 = .int .i64 a.tag := rfl
  have a1 : vlC a 1 = Q a.n := rfl
  have a2 : vlC a 2 = .int .i64 a.sl := rfl
  have a3 : vlC a 3 = .pointer none := by show Value.pointer a.c = _; rw [ha]
  have b0 : vlC b 0 = .int .i64 b.tag := rfl
  have b1 : vlC b 1 = Q b.n := rfl
  have b2 : vlC b 2 = .int .i64 b.sl := rfl
  have b3 : vlC b 3 = .pointer none := by show Value.pointer b.c = _; rw [hb]
  simp only [Op.eqFields, n0, n1, n2, n3, o0, o1, o2, o3, t0, t1, t2, t3, not_false_eq_true, if_true, ne_eq, Sem.run_bind, PI _ 0 (by omega), P64 _ 1 (by omega), PI _ 2 (by omega), PP _ 3 (by omega), Result.andThen_ok, a0, a1, a2, a3, b0, b1, b2, b3, c, ci, cp, Vl.beq]
  cases h0 : a.tag == b.tag <;> cases h1 : a.n == b.n <;> cases h2 : a.sl == b.sl <;> simp [P64 _ 1 (by omega), PI _ 2 (by omega), PP _ 3 (by omega), a1, b1, a2, b2, a3, b3, c, ci, cp, *]
theorem run_eqV (a b : Vl) (ha : a.c = none) (hb : b.c = none) (w : World) : (Op.equalIn 10000 26 (.agg (cellsOf (vlC a) 4)) (.agg (cellsOf (vlC b) 4))).run Try.prog w = .ok (a.beq b) w := by
  rw [run_equalIn_struct w 9999 26 _ _ (by kernel_rfl) (by kernel_rfl)]
  exact run_fieldsV 9998 a b ha hb w _ (by kernel_rfl)
theorem run_eqV_t {a b : Vl} (h : a = b) (ha : a.c = none) (w : World) : (Op.equalIn 10000 26 (.agg (cellsOf (vlC a) 4)) (.agg (cellsOf (vlC b) 4))).run Try.prog w = .ok true w := by
  subst h
  rw [run_eqV a a ha ha]; unfold Vl.beq; simp
def X1 (j : Nat) : W := if j = 0 then 1#64 else 0#64
def S0 : Vl := ⟨3, 0#64, 0, none⟩
def V5 : Vl := ⟨1, 5#64, 0, none⟩
def V1 : Vl := ⟨1, 1#64, 0, none⟩
def C0 : Vl := ⟨2, 0#64, 0, none⟩
def M1 : Me := byM (wrM (newM X1) 56 8) 56 8 5#64
theorem sv_1 : svS (newM X1) (sn S0.n) (-8) 8 V5 = (M1, 0) := by kernel_rfl
theorem ld_1 : ldS M1 (sn S0.n) (-8) 2 = (V5, 0) := by kernel_rfl
theorem ld_2 : ldS M1 (sn S0.n) (-16) 2 = (zeroV, 14) := by kernel_rfl
theorem ld_3 : (⟨1, numF (fun j => M1.X (0 + j)) 1, 0, none⟩ : Vl) = V1 := by kernel_rfl
set_option maxRecDepth 100000 in
set_option maxHeartbeats 16000000 in
theorem saves_any (w : World) (N : Nat) (hN : Sz w N) : Calls Try.prog 10 #[] w fun e w' => e = .returned (.bool true) ∧ Below N w w' := by
  go_enter Try.func10, Try.ntmps10
  go_upto_region 2 with (first
    | (refine wpl_run rfl (.agg (cellsOf (xC X1) 32)) _ (run_bd 41 #[(0, .const (.int .u8 1))] rfl (cellsOf (xC X1) 32) (by kernel_rfl) _) ?_)
    | (go_at_call 14; refine (New_nil X1 _ N hN).mono ?_; rintro e w1 ⟨b, rfl, lb, lo, hh⟩; obtain ⟨M1_, hM1⟩ := sz_some w1; have lM1 := hh.ltN hM1)
    | fail)
  go_upto_region 3 with (first
    | (refine wpl_run rfl (.agg (cellsOf (vlC S0) 4)) _ (run_bd 26 #[(0, .const (.int .i64 3))] rfl (cellsOf (vlC S0) 4) (by kernel_rfl) _) ?_)
    | (refine wpl_alloc rfl 26 rfl 4 (vlC zeroV) zeVl (M1_) hM1 ?_; intro w2 hM2 hb2 h2; replace hh := hh.below hb2 (by omega); replace lo := lo.trans (hb2.mono (by omega)); clear hM1 hb2)
    | (refine wpl_store rfl 26 (.tmp 2) (.tmp 12) rfl (M1_) 4 (vlC S0) rfl rfl 26 _ h2 szVl (fun j _ => vlC_one _ j) ?_; intro w3 t3 k3; replace hh := hh.touch t3 (by omega); replace lo := t3.below lo (by omega); have hM3 := t3.sz hM2; clear h2 t3 hM2; have h2 := k3; clear k3)
    | fail)
  go_upto_region 4 with (first
    | (refine wpl_load rfl 26 (.tmp 2) rfl (M1_) rfl 26 4 _ h2 _ undVl.choose_spec.1 undVl.choose_spec.2 szVl ?_)
    | (refine wpl_run rfl (.agg (cellsOf (vlC V5) 4)) _ (run_bd 26 #[(0, .const (.int .i64 1)), (1, .const (.int .u64 5))] rfl (cellsOf (vlC V5) 4) (by kernel_rfl) _) ?_)
    | (go_at_call 11; refine (Save_stack b S0 V5 rfl (by decide) (newM X1) (-8) 8 (by unfold sizeOk; omega) (by omega) _ (M1_ + 1) hM3 hh).mono ?_; rintro e w4 ⟨he, g4, h4⟩; rw [sv_1] at he h4; subst he; have e3 : w3.heap.size = M1_ + 1 := hM3; replace h2 := h2.grew g4 (by simp; omega); replace lo := g4.below lo (by omega) (fun g hg => by simp at hg; omega); obtain ⟨M4, hM4⟩ := sz_some w4; have l4 : M1_ + 1 ≤ M4 := (by have e4 : w4.heap.size = M4 := hM4; have := g4.size; omega); clear hh g4 hM3 e3; have hh := h4; clear h4)
    | fail)
  go_upto_region 5 with (first
    | (refine wpl_load rfl 26 (.tmp 2) rfl (M1_) rfl 26 4 _ h2 _ undVl.choose_spec.1 undVl.choose_spec.2 szVl ?_)
    | (go_at_call 8; refine (Load_stack b S0 rfl M1 (-8) 2 (by unfold sizeOk; omega) (by omega) _ (M4) hM4 hh).mono ?_; rintro e w5 ⟨he, hb5⟩; rw [ld_1] at he; subst he; obtain ⟨M5, hM5⟩ := sz_some w5; have l5 := below_sz hb5 hM4 hM5; replace hh := hh.below hb5 (by omega); replace h2 := h2.below hb5 (by omega); replace lo := lo.trans (hb5.mono (by omega)); clear hM4 hb5)
    | (refine wpl_alloc rfl 26 rfl 4 (vlC zeroV) zeVl (M5) hM5 ?_; intro w6 hM6 hb6 h4; replace hh := hh.below hb6 (by omega); replace h2 := h2.below hb6 (by omega); replace lo := lo.trans (hb6.mono (by omega)); clear hM5 hb6)
    | (refine wpl_store rfl 26 (.tmp 4) (.tmp 21) rfl (M5) 4 (vlC V5) rfl rfl 26 _ h4 szVl (fun j _ => vlC_one _ j) ?_; intro w7 t7 k7; replace hh := hh.touch t7 (by omega); replace h2 := h2.touch t7 (by omega); replace lo := t7.below lo (by omega); have hM7 := t7.sz hM6; clear h4 t7 hM6; have h4 := k7; clear k7)
    | fail)
  go_upto_region 6 with (first
    | (refine wpl_load rfl 26 (.tmp 2) rfl (M1_) rfl 26 4 _ h2 _ undVl.choose_spec.1 undVl.choose_spec.2 szVl ?_)
    | (go_at_call 8; refine (Load_stack b S0 rfl M1 (-16) 2 (by unfold sizeOk; omega) (by omega) _ (M5 + 1) hM7 hh).mono ?_; rintro e w8 ⟨he, hb8⟩; rw [ld_2] at he; subst he; obtain ⟨M8, hM8⟩ := sz_some w8; have l8 := below_sz hb8 hM7 hM8; replace hh := hh.below hb8 (by omega); replace h2 := h2.below hb8 (by omega); replace h4 := h4.below hb8 (by omega); replace lo := lo.trans (hb8.mono (by omega)); clear hM7 hb8)
    | (refine wpl_alloc rfl 26 rfl 4 (vlC zeroV) zeVl (M8) hM8 ?_; intro w9 hM9 hb9 h6; replace hh := hh.below hb9 (by omega); replace h2 := h2.below hb9 (by omega); replace h4 := h4.below hb9 (by omega); replace lo := lo.trans (hb9.mono (by omega)); clear hM8 hb9)
    | (refine wpl_store rfl 26 (.tmp 6) (.tmp 27) rfl (M8) 4 (vlC zeroV) rfl rfl 26 _ h6 szVl (fun j _ => vlC_one _ j) ?_; intro w10 t10 k10; replace hh := hh.touch t10 (by omega); replace h2 := h2.touch t10 (by omega); replace h4 := h4.touch t10 (by omega); replace lo := t10.below lo (by omega); have hM10 := t10.sz hM9; clear h6 t10 hM9; have h6 := k10; clear k10)
    | fail)
  go_upto_region 7 with (first
    | (refine wpl_run rfl (.agg (cellsOf (vlC C0) 4)) _ (run_bd 26 #[(0, .const (.int .i64 2))] rfl (cellsOf (vlC C0) 4) (by kernel_rfl) _) ?_)
    | (go_at_call 8; refine (Load_ctx b C0 rfl M1 0 1 0 (by unfold sizeOk; omega) (by kernel_rfl) (by kernel_rfl) (by omega) _ (M8 + 1) hM10 hh).mono ?_; rintro e w11 ⟨he, hb11⟩; rw [ld_3] at he; subst he; obtain ⟨M11, hM11⟩ := sz_some w11; have l11 := below_sz hb11 hM10 hM11; replace hh := hh.below hb11 (by omega); replace h2 := h2.below hb11 (by omega); replace h4 := h4.below hb11 (by omega); replace lo := lo.trans (hb11.mono (by omega)); clear hM10 hb11)
    | (refine wpl_alloc rfl 26 rfl 4 (vlC zeroV) zeVl (M11) hM11 ?_; intro w12 hM12 hb12 h8; replace hh := hh.below hb12 (by omega); replace h2 := h2.below hb12 (by omega); replace h4 := h4.below hb12 (by omega); replace lo := lo.trans (hb12.mono (by omega)); clear hM11 hb12)
    | (refine wpl_store rfl 26 (.tmp 8) (.tmp 33) rfl (M11) 4 (vlC V1) rfl rfl 26 _ h8 szVl (fun j _ => vlC_one _ j) ?_; intro w13 t13 k13; replace hh := hh.touch t13 (by omega); replace h2 := h2.touch t13 (by omega); replace h4 := h4.touch t13 (by omega); replace lo := t13.below lo (by omega); have hM13 := t13.sz hM12; clear h8 t13 hM12; have h8 := k13; clear k13)
    | fail)
  have c8 : w13.cell? ⟨M11, 1, none⟩ = some (.int .u64 1) := h8.cell (j := 1) (by omega)
  go_wp2_with (first
    | (refine wpl_want (by rfl) ?_; refine wpl_load rfl 26 (.tmp 4) rfl (M5) rfl 26 4 _ h4 _ undVl.choose_spec.1 undVl.choose_spec.2 szVl ?_)
    | (refine wpl_want (by rfl) ?_; refine wpl_run rfl (.agg (cellsOf (vlC V5) 4)) _ (run_bd 26 #[(0, .const (.int .i64 1)), (1, .const (.int .u64 5))] rfl (cellsOf (vlC V5) 4) (by kernel_rfl) _) ?_)
    | (refine wpl_want (by rfl) ?_; refine wpl_run rfl (.bool true) _ (run_eql_op 26 26 (.tmp 42) (.tmp 43) rfl _ _ rfl rfl true (by kernel_rfl) (run_eqV_t rfl rfl _)) ?_)
    | fail)
  go_ret
  exact ⟨rfl, lo⟩
end Go.Proofs.Ytjcjmlmdcjkceaa
