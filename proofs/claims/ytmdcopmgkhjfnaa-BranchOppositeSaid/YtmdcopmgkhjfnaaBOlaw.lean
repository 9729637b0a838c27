/- BranchOpposite: the walk. -/
import Derived.Test.YtmdcopmgkhjfnaaBr24
namespace Go.Proofs.Ytmdcopmgkhjfnaa
open Go Go.RowKit
theorem tells_any (w : World) (N : Nat) (hN : Sz w N) : Calls Try.prog 35 #[] w fun e w' => e = .returned (.bool true) ∧ Below N w w' := by
 have := Tells_any w N hN
 rwa [tells_true] at this
def prs : Nat → Nat
 | 0 => 1 | 1 => 5 | 2 => 2 | 3 => 11 | 4 => 3 | 5 => 10 | 6 => 6 | 7 => 13 | 8 => 7 | _ => 12
def prC (_ : Nat) (j : Nat) : Value := .int .i64 (prs j : Int)
def trn : Nat → Nat
 | 0 => 0 | 1 => 1 | 2 => 10 | 3 => 11 | 4 => 4 | 5 => 5 | 6 => 12 | _ => 13
theorem undSP : Try.prog.underlying 65 = some (.slice 28) := by kernel_rfl
theorem szP2 : (Try.prog.info? 28).map (·.size) = some 2 := by kernel_rfl
theorem run_neb {P : Program} {a : Act} {w : World} {o : Oper} (T ty : TypeId) (x y : Operand) (ho : o.op = .binOp .neq T x y ty) (hT : P.underlying T = some .bool) {p q r : Bool} (hx : a.eval x = .bool p) (hy : a.eval y = .bool q) (h : (p != q) = r) : (execOp a.eval o).run P w = .ok (.value (.bool r)) w := by
 subst h
 have := run_equalIn_bool (P := P) w 9999 T p q hT
 unfold execOp
 simp only [ho, hx, hy, Sem.run_bind]
 have e : (eqGuard .neq T x y (.bool p) (.bool q)).run P w = .ok () w := by unfold eqGuard; rfl
 simp only [e, Result.andThen_ok, binOp, Sem.run_bind, Op.equal, Op.maxDepth, this, Sem.run_pure]
 rfl
theorem run_ixP {P : Program} {a : Act} {o : Oper} (T E : Nat) {s : Nat} (hu : P.underlying T = some (.slice E)) (hs : (P.info? E).map (·.size) = some s) (x y : Operand) (ho : o.op = .indexAddr T x y) {q cap k n : Nat} (hx : a.eval x = .slice (some ⟨q, 0, none⟩) n cap) (hy : a.eval y = .int .i64 (k : Int)) (hk : k < n) (w : World) : (execOp a.eval o).run P w = .ok (.value (.pointer (some ⟨q, s * k, none⟩))) w := by
 cases hq : P.info? E with
 | none => simp [hq] at hs
 | some i =>
  have hi : i.size = s := by simpa [hq] using hs
  have h1 : ¬ (n ≤ k) := by omega
  unfold execOp
  simp only [ho, hx, hy]
  simp [Instr.indexAt, Instr.sureAddr, asIntOf, Sem.run_bind, run_underlying hu, sizeOf, typeInfo, hq, hi, Addr.add, h1, hk, Nat.mul_comm]
  intro e; exact e.symm
theorem ats_of {w : World} {b T n : Nat} {f : Nat → Value} (h : Has w b T n f) : Ats w (some ⟨b, 0, none⟩) n f := (own_has h).ats
theorem hol_pair (l : Bool) (x y : W) : ∀ k, k < 5 → (holF (prs (2 * k + 0)) l x y == holF (prs (2 * k + 1)) l x y) = false ∧ (holF (prs (2 * k + 0)) l y x != holF (trn (prs (2 * k + 0))) l x y) = false := by
 have U : ∀ p q : W, BitVec.ule p q = !BitVec.ult q p := fun p q => by rw [ule_qn, ult_qn]; by_cases h : qn p ≤ qn q <;> simp [h, Int.not_lt.2, Int.not_le.1]
 have V : ∀ p q : W, BitVec.sle p q = !BitVec.slt q p := fun p q => by rw [sle_sn, slt_sn]; by_cases h : sn p ≤ sn q <;> simp [h, Int.not_lt.2, Int.not_le.1]
 have B : ∀ b : Bool, (b == !b) = false ∧ ((!b) == b) = false ∧ (b != b) = false := fun b => by cases b <;> exact ⟨rfl, rfl, rfl⟩
 intro k hk
 rcases (show k = 0 ∨ k = 1 ∨ k = 2 ∨ k = 3 ∨ k = 4 by omega) with rfl | rfl | rfl | rfl | rfl
 ·show (hol1 l x y == hol5 l x y) = false ∧ (hol1 l y x != hol1 l x y) = false
  have E : ∀ p q : W, (p != q) = !(p == q) := fun _ _ => rfl
  have S : ∀ p q : W, (q == p) = (p == q) := fun p q => by rw [Bool.eq_iff_iff, beq_iff_eq, beq_iff_eq]; exact eq_comm
  unfold hol1 hol5
  cases l <;> simp only [cond_true, cond_false, E]
  ·rw [S (lo32 x) (lo32 y)]; exact ⟨(B _).1, (B _).2.2⟩
  ·rw [S x y]; exact ⟨(B _).1, (B _).2.2⟩
 ·show (hol2 l x y == hol11 l x y) = false ∧ (hol2 l y x != hol10 l x y) = false
  unfold hol2 hol11 hol10
  cases l <;> simp only [cond_true, cond_false, U] <;> exact ⟨(B _).1, (B _).2.2⟩
 ·show (hol3 l x y == hol10 l x y) = false ∧ (hol3 l y x != hol11 l x y) = false
  unfold hol3 hol10 hol11
  cases l <;> simp only [cond_true, cond_false, U] <;> exact ⟨(B _).2.1, (B _).2.2⟩
 ·show (hol6 l x y == hol13 l x y) = false ∧ (hol6 l y x != hol12 l x y) = false
  unfold hol6 hol13 hol12
  cases l <;> simp only [cond_true, cond_false, V] <;> exact ⟨(B _).1, (B _).2.2⟩
 ·show (hol7 l x y == hol12 l x y) = false ∧ (hol7 l y x != hol13 l x y) = false
  unfold hol7 hol12 hol13
  cases l <;> simp only [cond_true, cond_false, V] <;> exact ⟨(B _).2.1, (B _).2.2⟩
theorem prs_lt : ∀ k, k < 5 → prs (2 * k + 0) < 8 := by decide
def turnF (z : Nat) (l : Bool) (d : Nat → W) : Bool :=
 (holF (trn z) l (d 0) (d 1))
set_option maxRecDepth 100000 in
set_option maxHeartbeats 4000000 in
theorem Turned_any (z : Nat) (l : Bool) (d : Nat → W) (w : World) (N : Nat) (hN : Sz w N) (hz : z < 8) : Calls Try.prog 41 #[(Value.int .i64 (z : Int)), (Value.bool l), (Value.agg (cellsOf (dC d) 2))] w fun e w' => e = .returned (.bool (turnF z l d)) ∧ Below N w w' := by
 obtain ⟨rr, er⟩ : ∃ rr, rr = (turnF z l d) := ⟨_, rfl⟩
 rw [← er]
 have ER := hid er
 clear er
 go_enter Try.func41, Try.ntmps41
 go_upto_region 1 with (first
  | (refine wpl_box rfl 23 (.tmp 2) rfl 2 _ rfl (N) hN ?_; intro w1 hN1 hb1 hh1)
  | fail)
 have lo0 : Below N w w1 := hb1
 have k1 := hh1
 clear hh1 hb1
 go_upto_region 1 with fail
 refine wp_region_lit ?_
 try simp only [pA]
 refine wpl_bsT rfl 60 3 8 1 (fun j => .int .i64 (trn j : Int)) (by omega) (fun w => by kernel_rfl) (N + 1) hN1 ?_
 intro xw2 hMxw2 hbxw2 hhxw2; simp only [pA]
 have k3 := k1.below hbxw2 (by omega)
 have lo4 := lo0.trans (hbxw2.mono (by omega))
 clear k1 lo0 hbxw2
 have LT : Ats xw2 (some ⟨(N + 1), 0, none⟩) 8 (fun j => .int .i64 (trn j : Int)) := (own_has hhxw2).ats
 refine wpl_run rfl (.int .i64 (z : Int)) _ (run_mv (x := .tmp 0) rfl _ rfl) ?_; simp only [pA]
 refine wpl_run rfl (.pointer (some ⟨(N + 1), 0 + z, none⟩)) _ (run_ixL 60 3 undSI szI1 (.tmp 8) (.tmp 9) rfl rfl rfl (k := z) hz _) ?_; simp only [pA]
 refine wpl_run rfl (.int .i64 (trn z : Int)) _ (run_c1 3 (.tmp 10) rfl ⟨(N + 1), 0 + z, none⟩ rfl undInt rfl (at_L LT hz)) ?_; simp only [pA]
 refine wpl_run rfl (.int .i64 (trn z : Int)) _ (run_as (x := .tmp 11) rfl _ rfl) ?_; simp only [pA]
 clear LT hhxw2
 obtain ⟨M5, hM5⟩ := sz_some xw2
 have lt_6 := k3.ltN hM5
 go_upto_region 2 with fail
 obtain ⟨c7, c8⟩ := d_cells k3
 refine wp_region_later1 (M5) ?_
 try simp only [pA]
 iterate 3 (go_big_quiet_step (fail))
 refine later_c1 hM5 22 (.tmp 14) rfl rfl und64 rfl c7 (by rfl) ?_; simp only [pA]
 go_big_quiet_step (fail)
 refine later_c1 hM5 22 (.tmp 16) rfl rfl und64 rfl c8 (by rfl) ?_; simp only [pA]
 go_big_quiet_step ((go_at_call 37; exact later_of hM5 _ (fun K hK hKN => RHol_h (trn z) l (d 0) (d 1) _ K hK)))
 go_big_quiet_step (fail)
 refine wpQuiet_nil (laterE hM5 ?_)
 intro xw9 M10 hbxw9 hM10 lM10
 have k11 := k3.below hbxw9 (by omega)
 have lo12 := lo4.trans (hbxw9.mono (by omega))
 clear k3 c7 c8 lo4 hbxw9
 go_wp2_with fail
 go_ret
 exact ⟨by rw [ER.out]; first | rfl | (simp only [turnF, bB] <;> rfl), lo12⟩
set_option maxRecDepth 100000 in
set_option maxHeartbeats 8000000 in
theorem law_bopp (l : Bool) (d : Nat → W) (w : World) (N : Nat) (hN : Sz w N) : Calls Try.prog 13 #[(Value.bool l), (Value.agg (cellsOf (dC d) 2))] w fun e w' => e = .returned (.bool true) ∧ Below N w w' := by
 go_enter Try.func13, Try.ntmps13
 go_upto_region 1 with (first
  | (refine wpl_box rfl 23 (.tmp 1) rfl 2 _ rfl (N) hN ?_; intro w1 hN1 hb1 hh1)
  | fail)
 have lo0 : Below N w w1 := hb1
 have k1 := hh1
 clear hh1 hb1
 go_upto_region 1 with fail
 refine wp_region_lit ?_
 try simp only [pA]
 refine wpl_run rfl (Value.agg (cellsOf (fun j => .int .i64 (prs (0 + j) : Int)) 2)) _ (run_bd 28 _ rfl (cellsOf (fun j => .int .i64 (prs (0 + j) : Int)) 2) (by kernel_rfl) _) ?_; simp only [pA]
 refine wpl_run rfl (Value.agg (cellsOf (fun j => .int .i64 (prs (2 + j) : Int)) 2)) _ (run_bd 28 _ rfl (cellsOf (fun j => .int .i64 (prs (2 + j) : Int)) 2) (by kernel_rfl) _) ?_; simp only [pA]
 refine wpl_run rfl (Value.agg (cellsOf (fun j => .int .i64 (prs (4 + j) : Int)) 2)) _ (run_bd 28 _ rfl (cellsOf (fun j => .int .i64 (prs (4 + j) : Int)) 2) (by kernel_rfl) _) ?_; simp only [pA]
 refine wpl_run rfl (Value.agg (cellsOf (fun j => .int .i64 (prs (6 + j) : Int)) 2)) _ (run_bd 28 _ rfl (cellsOf (fun j => .int .i64 (prs (6 + j) : Int)) 2) (by kernel_rfl) _) ?_; simp only [pA]
 refine wpl_run rfl (Value.agg (cellsOf (fun j => .int .i64 (prs (8 + j) : Int)) 2)) _ (run_bd 28 _ rfl (cellsOf (fun j => .int .i64 (prs (8 + j) : Int)) 2) (by kernel_rfl) _) ?_; simp only [pA]
 refine wpl_bsT rfl 65 28 5 2 (prC 0) (by omega) (fun w => by kernel_rfl) (N + 1) hN1 ?_
 intro xw2 hMxw2 hbxw2 hhxw2; simp only [pA]
 have k3 := k1.below hbxw2 (by omega)
 have lo4 := lo0.trans (hbxw2.mono (by omega))
 clear k1 lo0 hbxw2
 have hhxw2_ : Has xw2 (N + 1) 28 10 (prC 0) := hhxw2
 clear hhxw2
 refine wpl_run rfl (.slice (some ⟨(N + 1), 0, none⟩) 5 5) _ (run_as (x := .tmp 14) rfl _ rfl) ?_; simp only [pA]
 obtain ⟨M5, hM5⟩ := sz_some xw2
 have lt_6 := k3.ltN hM5
 have lt_7 := hhxw2_.ltN hM5
 go_wp2_with fail
 go_loopg [6, 7, 8] (5) (fun g x6 x7 x8 wr => ∃ k : Nat, k ≤ 5 ∧ g = 5 - k ∧ x6 = .int .i64 (k : Int) ∧ Has wr N 23 2 (dC d) ∧ Has wr (N + 1) 28 10 (prC 0) ∧ Below N w wr)
 case atStart => exact ⟨0, by omega, rfl, rfl, k3, hhxw2_, lo4⟩
 case round =>
  clear k3 hhxw2_ lo4
  obtain ⟨k, hkk, rfl, rfl, k8, k9, lo10⟩ := hrel
  obtain ⟨M11, hM11⟩ := sz_some wr
  have lt_12 := k8.ltN hM11
  have lt_13 := k9.ltN hM11
  have k0 : (0 : Int) ≤ (k : Int) := by omega
  by_cases hlt : k < 5
  ·have t1 : (k : Int) < 5 := by omega
   have HP := hol_pair l (d 0) (d 1) k hlt
   have F0 := hid HP.1
   have F1 := hid HP.2
   clear HP
   go_upto_region 3 with fail
   refine wp_region_later1 (M11) ?_
   try simp only [pA]
   iterate 2 (go_big_quiet_step (fail))
   refine later_val (fun q => run_lenS undSP (x := (.tmp 16)) rfl rfl q.w') (by rfl) ?_; simp only [pA]
   go_big_quiet_step (fail)
   refine wpQuiet_nil (laterE hM11 ?_)
   intro xw14 M15 hbxw14 hM15 lM15
   have k16 := k8.below hbxw14 (by omega)
   have k17 := k9.below hbxw14 (by omega)
   have lo18 := lo10.trans (hbxw14.mono (by omega))
   clear k8 k9 lo10 hbxw14
   go_upto_region 5 with fail
   obtain ⟨c19, c20⟩ := d_cells k16
   refine wp_region_later (M15) (by kernel_rfl) (by kernel_rfl) ?_
   try simp only [pA]
   iterate 2 (go_big_quiet_step (fail))
   refine later_val (fun q => run_ixP 65 28 undSP szP2 (.tmp 21) (.tmp 22) rfl rfl rfl (k := k) (by omega) q.w') (by rfl) ?_; simp only [pA]
   refine later_val (fun q => run_iaO 28 (.tmp 23) (.const (.int .i64 0)) rfl rfl rfl (k := 0) (r := 0 + ((2 * k) + 0)) (by kernel_rfl) (by omega) q.w') (by rfl) ?_; simp only [pA]
   refine later_c1 hM15 3 (.tmp 24) rfl rfl undInt rfl (at_L (ats_of k17) (by omega)) (by rfl) ?_; simp only [pA]
   iterate 2 (go_big_quiet_step (fail))
   refine later_c1 hM15 22 (.tmp 27) rfl rfl und64 rfl c19 (by rfl) ?_; simp only [pA]
   go_big_quiet_step (fail)
   refine later_c1 hM15 22 (.tmp 29) rfl rfl und64 rfl c20 (by rfl) ?_; simp only [pA]
   go_big_quiet_step ((go_at_call 36; exact later_of hM15 _ (fun K hK hKN => Hol_all (prs ((2 * k) + 0)) l (d 0) (d 1) _ K hK)))
   iterate 2 (go_big_quiet_step (fail))
   refine later_val (fun q => run_ixP 65 28 undSP szP2 (.tmp 32) (.tmp 33) rfl rfl rfl (k := k) (by omega) q.w') (by rfl) ?_; simp only [pA]
   refine later_val (fun q => run_iaO 28 (.tmp 34) (.const (.int .i64 1)) rfl rfl rfl (k := 1) (r := 0 + ((2 * k) + 1)) (by kernel_rfl) (by omega) q.w') (by rfl) ?_; simp only [pA]
   refine later_c1 hM15 3 (.tmp 35) rfl rfl undInt rfl (at_L (ats_of k17) (by omega)) (by rfl) ?_; simp only [pA]
   iterate 2 (go_big_quiet_step (fail))
   refine later_c1 hM15 22 (.tmp 38) rfl rfl und64 rfl c19 (by rfl) ?_; simp only [pA]
   go_big_quiet_step (fail)
   refine later_c1 hM15 22 (.tmp 40) rfl rfl und64 rfl c20 (by rfl) ?_; simp only [pA]
   go_big_quiet_step ((go_at_call 36; exact later_of hM15 _ (fun K hK hKN => Hol_all (prs ((2 * k) + 1)) l (d 0) (d 1) _ K hK)))
   iterate 2 (go_big_quiet_step (fail))
   refine wpQuiet_nil (laterE hM15 ?_)
   intro xw21 M22 hbxw21 hM22 lM22
   have k23 := k16.below hbxw21 (by omega)
   have k24 := k17.below hbxw21 (by omega)
   have lo25 := lo18.trans (hbxw21.mono (by omega))
   clear k16 c19 c20 k17 lo18 hbxw21
   go_upto_region 6 with fail
   obtain ⟨c26, c27⟩ := d_cells k23
   refine wp_region_later (M22) (by kernel_rfl) (by kernel_rfl) ?_
   try simp only [pA]
   iterate 2 (go_big_quiet_step (fail))
   refine later_val (fun q => run_eqb 4 4 (.tmp 43) (.tmp 44) rfl undBool (p := (holF (prs ((2 * k) + 0)) l (d 0) (d 1))) (q := (holF (prs ((2 * k) + 1)) l (d 0) (d 1))) (r := false) rfl rfl F0.out) (by rfl) ?_; simp only [pA]
   iterate 3 (go_big_quiet_step (fail))
   refine later_val (fun q => run_ixP 65 28 undSP szP2 (.tmp 47) (.tmp 48) rfl rfl rfl (k := k) (by omega) q.w') (by rfl) ?_; simp only [pA]
   refine later_val (fun q => run_iaO 28 (.tmp 49) (.const (.int .i64 0)) rfl rfl rfl (k := 0) (r := 0 + ((2 * k) + 0)) (by kernel_rfl) (by omega) q.w') (by rfl) ?_; simp only [pA]
   refine later_c1 hM22 3 (.tmp 50) rfl rfl undInt rfl (at_L (ats_of k24) (by omega)) (by rfl) ?_; simp only [pA]
   iterate 2 (go_big_quiet_step (fail))
   refine later_c1 hM22 22 (.tmp 53) rfl rfl und64 rfl c27 (by rfl) ?_; simp only [pA]
   go_big_quiet_step (fail)
   refine later_c1 hM22 22 (.tmp 55) rfl rfl und64 rfl c26 (by rfl) ?_; simp only [pA]
   go_big_quiet_step ((go_at_call 36; exact later_of hM22 _ (fun K hK hKN => Hol_all (prs ((2 * k) + 0)) l (d 1) (d 0) _ K hK)))
   iterate 2 (go_big_quiet_step (fail))
   refine later_val (fun q => run_ixP 65 28 undSP szP2 (.tmp 58) (.tmp 59) rfl rfl rfl (k := k) (by omega) q.w') (by rfl) ?_; simp only [pA]
   refine later_val (fun q => run_iaO 28 (.tmp 60) (.const (.int .i64 0)) rfl rfl rfl (k := 0) (r := 0 + ((2 * k) + 0)) (by kernel_rfl) (by omega) q.w') (by rfl) ?_; simp only [pA]
   refine later_c1 hM22 3 (.tmp 61) rfl rfl undInt rfl (at_L (ats_of k24) (by omega)) (by rfl) ?_; simp only [pA]
   go_big_quiet_step (fail)
   refine later_row hM22 23 (.tmp 3) rfl (N) rfl 23 2 _ k23 undD szD (by rfl) ?_; simp only [pA]
   go_big_quiet_step ((go_at_call 41; exact later_of hM22 _ (fun K hK hKN => Turned_any (prs ((2 * k) + 0)) l d _ K hK (prs_lt k hlt))))
   refine later_val (fun q => run_neb 4 4 (.tmp 57) (.tmp 65) rfl undBool (p := (holF (prs ((2 * k) + 0)) l (d 1) (d 0))) (q := (turnF (prs ((2 * k) + 0)) l d)) (r := false) rfl rfl F1.out) (by rfl) ?_; simp only [pA]
   go_big_quiet_step (fail)
   refine wpQuiet_nil (laterE hM22 ?_)
   intro xw28 M29 hbxw28 hM29 lM29
   have k30 := k23.below hbxw28 (by omega)
   have k31 := k24.below hbxw28 (by omega)
   have lo32 := lo25.trans (hbxw28.mono (by omega))
   clear k23 c26 c27 k24 lo25 hbxw28
   go_upto_region 4 with fail
   refine wp_region_later1 (M29) ?_
   try simp only [pA]
   iterate 3 (go_big_quiet_step (fail))
   refine wpQuiet_nil (laterE hM29 ?_)
   intro xw33 M34 hbxw33 hM34 lM34
   have k35 := k30.below hbxw33 (by omega)
   have k36 := k31.below hbxw33 (by omega)
   have lo37 := lo32.trans (hbxw33.mono (by omega))
   clear k30 k31 lo32 hbxw33
   go_wp2_with fail
   go_roundg (5 - (k + 1))
   case rel => exact ⟨k + 1, by omega, rfl, by simp, k35, k36, lo37⟩
   case measure => omega
  ·obtain rfl : k = 5 := by omega
   clear hlt
   go_upto_region 3 with fail
   refine wp_region_later1 (M11) ?_
   try simp only [pA]
   iterate 2 (go_big_quiet_step (fail))
   refine later_val (fun q => run_lenS undSP (x := (.tmp 16)) rfl rfl q.w') (by rfl) ?_; simp only [pA]
   go_big_quiet_step (fail)
   refine wpQuiet_nil (laterE hM11 ?_)
   intro xw14 M15 hbxw14 hM15 lM15
   have k16 := k8.below hbxw14 (by omega)
   have k17 := k9.below hbxw14 (by omega)
   have lo18 := lo10.trans (hbxw14.mono (by omega))
   clear k8 k9 lo10 hbxw14
   go_upto_region 8 with fail
   refine wp_region_later1 (M15) ?_
   try simp only [pA]
   go_big_quiet_step ((go_at_call 35; exact later_of hM15 _ (fun K hK hKN => tells_any _ K hK)))
   go_big_quiet_step (fail)
   refine wpQuiet_nil (laterE hM15 ?_)
   intro xw19 M20 hbxw19 hM20 lM20
   have k21 := k16.below hbxw19 (by omega)
   have k22 := k17.below hbxw19 (by omega)
   have lo23 := lo18.trans (hbxw19.mono (by omega))
   clear k16 k17 lo18 hbxw19
   go_wp2_with fail
   go_ret
   exact ⟨rfl, lo23⟩
end Go.Proofs.Ytmdcopmgkhjfnaa
