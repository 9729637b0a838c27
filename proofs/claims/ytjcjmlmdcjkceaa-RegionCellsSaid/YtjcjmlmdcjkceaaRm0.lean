/- A program's memory: its cells, its words; small calls: sizes, words, sums, the bytes of a place. -/
import Derived.Test.YtjcjmlmdcjkceaaIn0
import Derived.OwnWalk
namespace Go.Proofs.Ytjcjmlmdcjkceaa
open Go Go.RowKit
theorem undY : Try.prog.underlying 5 = some (.int .u8) := by kernel_rfl
theorem undI64 : Try.prog.underlying 2 = some (.int .i64) := by kernel_rfl
/-- A byte, by a word that is small. -/
def Yv (x : W) : Value := .int .u8 (qn x)
theorem run_yu {P : Program} {a : Act} {o : Oper} {src dst : TypeId} {x : Operand} (ho : o.op = .convert src dst x) {k : IntKind} {p : W} (hs : P.underlying src = some (.int k)) (hd : P.underlying dst = some (.int .u64)) (hx : a.eval x = Yv p) (w : World) : (execOp a.eval o).run P w = .ok (.value (Q p)) w := by
  rw [run_conv ho hs hd hx w, wrap_u, ofInt_qn]; rfl
theorem wrap_y (z : Int) : IntKind.u8.wrap z = z % 256 := by simp [IntKind.wrap, IntKind.signed, IntKind.bits]
theorem run_uy {P : Program} {a : Act} {o : Oper} {src dst : TypeId} {x : Operand} (ho : o.op = .convert src dst x) {k : IntKind} {p : W} (hs : P.underlying src = some (.int k)) (hd : P.underlying dst = some (.int .u8)) (hx : a.eval x = Q p) (w : World) : (execOp a.eval o).run P w = .ok (.value (Yv (p &&& 255#64))) w := by
  rw [run_conv ho hs hd hx w, wrap_y]
  have e : qn p % 256 = qn (p &&& 255#64) := by
    unfold qn
    rw [BitVec.toNat_and, show (255#64).toNat = 2 ^ 8 - 1 from rfl, Nat.and_two_pow_sub_one_eq_mod]
    omega
  rw [e]; rfl
/-- A value: a number, or a place in memory, or a map. -/
structure Vl where
  tag : Int
  n : W
  sl : Int
  c : Option Addr
def vlC (v : Vl) : Nat → Value
  | 0 => .int .i64 v.tag
  | 1 => Q v.n
  | 2 => .int .i64 v.sl
  | _ => .pointer v.c
def zeroV : Vl := ⟨0, 0#64, 0, none⟩
def vlV (v : Vl) : Value := .agg (cellsOf (vlC v) 4)
/-- A program's memory. -/
structure Me where
  X : Nat → W
  B : Nat → W
  Wr : Nat → Bool
  K : Nat → Vl
  mp : Value
def meC (m : Me) (j : Nat) : Value := if j < 32 then Yv (m.X j) else if j < 96 then Yv (m.B (j - 32)) else if j < 160 then .bool (m.Wr (j - 96)) else if j < 192 then vlC (m.K ((j - 160) / 4)) ((j - 160) % 4) else m.mp
theorem vlC_one (v : Vl) (j : Nat) : (vlC v j).oneCell' = true := by unfold vlC; split <;> rfl
theorem undVl : ∃ d, Try.prog.underlying 26 = some d ∧ d.isRow = true := row_ofN (by kernel_rfl)
theorem szVl : (Try.prog.info? 26).map (·.size) = some 4 := by kernel_rfl
theorem zeVl : (Try.prog.info? 26).map (fun i => (i.zero, i.size)) = some (some (.agg (cellsOf (vlC zeroV) 4)), 4) := by kernel_rfl
theorem szY1 : (Try.prog.info? 5).map (·.size) = some 1 := by kernel_rfl
theorem meC_X (m : Me) {i : Nat} (h : i < 32) : meC m i = Yv (m.X i) := by unfold meC; rw [if_pos h]
theorem meC_B (m : Me) {i : Nat} (h : i < 64) : meC m (32 + i) = Yv (m.B i) := by unfold meC; rw [if_neg (by omega), if_pos (by omega), Nat.add_sub_cancel_left]
theorem meC_W (m : Me) {i : Nat} (h : i < 64) : meC m (96 + i) = .bool (m.Wr i) := by unfold meC; rw [if_neg (by omega), if_neg (by omega), if_pos (by omega), Nat.add_sub_cancel_left]
theorem meC_K (m : Me) {i : Nat} (hi : i < 8) {j : Nat} (h : j < 4) : meC m (160 + (4 * i + j)) = vlC (m.K i) j := by
  unfold meC; rw [if_neg (by omega), if_neg (by omega), if_neg (by omega), if_pos (by omega), Nat.add_sub_cancel_left, show (4 * i + j) / 4 = i by omega, show (4 * i + j) % 4 = j by omega]
def Me.setB (m : Me) (i : Nat) (x : W) : Me := ⟨m.X, fun j => if j = i then x else m.B j, m.Wr, m.K, m.mp⟩
def Me.setW (m : Me) (i : Nat) (v : Bool) : Me := ⟨m.X, m.B, fun j => if j = i then v else m.Wr j, m.K, m.mp⟩
def Me.setK (m : Me) (i : Nat) (a : Vl) : Me := ⟨m.X, m.B, m.Wr, fun j => if j = i then a else m.K j, m.mp⟩
theorem upd_B (m : Me) {i : Nat} (h : i < 64) (x : W) (j : Nat) : upd (meC m) (32 + i) (Yv x) j = meC (m.setB i x) j := by
  unfold upd meC Me.setB
  by_cases e : j = 32 + i
  · subst e; rw [if_pos rfl, if_neg (by omega), if_pos (by omega)]; simp
  · rw [if_neg e]
    by_cases h1 : j < 32
    · rw [if_pos h1, if_pos h1]
    · rw [if_neg h1, if_neg h1]
      by_cases h2 : j < 96
      · rw [if_pos h2, if_pos h2]; simp only; rw [if_neg (by omega)]
      · rw [if_neg h2, if_neg h2]
theorem mupd_W (m : Me) {i : Nat} (h : i < 64) (v : Bool) (j : Nat) : upd (meC m) (96 + i) (.bool v) j = meC (m.setW i v) j := by
  unfold upd meC Me.setW
  by_cases e : j = 96 + i
  · subst e; rw [if_pos rfl, if_neg (by omega), if_neg (by omega), if_pos (by omega)]; simp
  · rw [if_neg e]
    by_cases h1 : j < 32
    · rw [if_pos h1, if_pos h1]
    · rw [if_neg h1, if_neg h1]
      by_cases h2 : j < 96
      · rw [if_pos h2, if_pos h2]
      · rw [if_neg h2, if_neg h2]
        by_cases h3 : j < 160
        · rw [if_pos h3, if_pos h3]; simp only; rw [if_neg (by omega)]
        · rw [if_neg h3, if_neg h3]
theorem mlay_K (m : Me) {i : Nat} (h : i < 8) (a : Vl) (j : Nat) : lay (meC m) (160 + 4 * i) 4 (vlC a) j = meC (m.setK i a) j := by
  unfold lay meC Me.setK
  by_cases e : 160 + 4 * i ≤ j ∧ j < 160 + 4 * i + 4
  · rw [if_pos e, if_neg (by omega), if_neg (by omega), if_neg (by omega), if_pos (by omega)]; simp only
    rw [if_pos (by omega), show (j - 160) % 4 = j - (160 + 4 * i) by omega]
  · rw [if_neg e]
    by_cases h1 : j < 32
    · rw [if_pos h1, if_pos h1]
    · rw [if_neg h1, if_neg h1]
      by_cases h2 : j < 96
      · rw [if_pos h2, if_pos h2]
      · rw [if_neg h2, if_neg h2]
        by_cases h3 : j < 160
        · rw [if_pos h3, if_pos h3]
        · rw [if_neg h3, if_neg h3]
          by_cases h4 : j < 192
          · rw [if_pos h4, if_pos h4]; simp only; rw [if_neg (by omega)]
          · rw [if_neg h4, if_neg h4]
def sizeOk (n : Nat) : Prop := n = 1 ∨ n = 2 ∨ n = 4 ∨ n = 8
set_option maxRecDepth 100000 in
theorem IsSize_ok (n : Nat) (h : sizeOk n) (w : World) : Calls Try.prog 26 #[.int .i64 ((n : Nat) : Int)] w fun e w' => e = .returned (.bool true) ∧ w' = w := by
  rcases h with rfl | rfl | rfl | rfl <;>
  · go_enter Try.func26, Try.ntmps26
    go_wp2_with fail
    go_ret
    exact ⟨rfl, rfl⟩
def wordB (f n : Nat) : Bool := n == 8 && f % 8 == 0
theorem tmod8 (f : Nat) : ((f : Nat) : Int).tmod 8 = ((f % 8 : Nat) : Int) := by rw [Int.tmod_eq_emod_of_nonneg (by omega)]; omega
theorem beq_nat (a b : Nat) : (((a : Nat) : Int) == ((b : Nat) : Int)) = (a == b) := by
  rw [Bool.eq_iff_iff, beq_iff_eq, beq_iff_eq]; omega
set_option maxRecDepth 100000 in
theorem IsWord_any (f n : Nat) (w : World) : Calls Try.prog 28 #[.int .i64 ((f : Nat) : Int), .int .i64 ((n : Nat) : Int)] w fun e w' => e = .returned (.bool (wordB f n)) ∧ w' = w := by
  obtain ⟨b1, e1⟩ : ∃ b, (((n : Nat) : Int) == 8) = b := ⟨_, rfl⟩
  obtain ⟨b2, e2⟩ : ∃ b, (((f : Nat) : Int).tmod 8 == 0) = b := ⟨_, rfl⟩
  have e3 : wordB f n = (b1 && b2) := by
    unfold wordB; rw [← e1, ← e2, tmod8]; congr 1
    · exact (beq_nat n 8).symm
    · exact (beq_nat (f % 8) 0).symm
  rw [e3]
  have E1 := hid e1
  have E2 := hid e2
  clear e1 e2 e3
  go_enter Try.func28, Try.ntmps28
  go_wp2_with (first
    | (refine wpl_run rfl (.bool b1) _ (run_eqlI (x := .tmp 5) (y := .const (.int .i64 8)) rfl rfl rfl (p := ((n : Nat) : Int)) (q := 8) E1.out _) ?_; cases b1)
    | (refine wpl_want (by rfl) ?_; refine wpl_run rfl (.int .i64 (((f : Nat) : Int).tmod 8)) _ (run_remI8 (x := .tmp 8) (y := .const (.int .i64 8)) rfl rfl rfl _) ?_)
    | (refine wpl_want (by rfl) ?_; refine wpl_run rfl (.bool b2) _ (run_eqlI (x := .tmp 9) (y := .const (.int .i64 0)) rfl rfl rfl (q := 0) E2.out _) ?_)
    | fail)
  all_goals (go_ret; exact ⟨rfl, rfl⟩)
/-- Whether a sum is one. -/
def fitB (a b : Int) : Bool := decide (wrap64 (a + b) < a) == decide (b < 0)
set_option maxRecDepth 100000 in
theorem Sum_any (a b : Int) (w : World) : Calls Try.prog 48 #[.int .i64 a, .int .i64 b] w fun e w' => e = .returned (.tuple #[.int .i64 (wrap64 (a + b)), .bool (fitB a b)]) ∧ w' = w := by
  obtain ⟨s, es⟩ : ∃ s, wrap64 (a + b) = s := ⟨_, rfl⟩
  unfold fitB
  rw [es]
  have ES := hid es
  clear es
  go_enter Try.func48, Try.ntmps48
  go_wp2_with (first
    | (refine wpl_run rfl (.int .i64 s) _ (by rw [← ES.out]; exact run_addI (x := .tmp 7) (y := .tmp 8) rfl rfl rfl _) ?_)
    | (refine wpl_run rfl (.bool (decide (s < a))) _ (run_lssI (x := .tmp 11) (y := .tmp 12) rfl rfl rfl rfl _) ?_)
    | (refine wpl_run rfl (.bool (decide (b < 0))) _ (run_lssI (x := .tmp 14) (y := .const (.int .i64 0)) rfl rfl rfl rfl _) ?_)
    | (refine wpl_run rfl (.bool (decide (s < a) == decide (b < 0))) _ (run_eqb 4 4 (.tmp 13) (.tmp 15) rfl undBool rfl rfl rfl) ?_)
    | fail)
  go_ret2
  exact ⟨rfl, rfl⟩
theorem undWr : Try.prog.underlying 81 = some (.array 64 4) := by kernel_rfl
theorem undK : Try.prog.underlying 74 = some (.array 8 26) := by kernel_rfl
set_option maxRecDepth 100000 in
theorem BytesOf_stack (b : Nat) (v : Vl) (hv : v.tag = 3) (w : World) (N : Nat) (hN : Sz w N) : Calls Try.prog 47 #[.pointer (some ⟨b, 0, none⟩), vlV v] w fun e w' => e = .returned (.tuple #[.slice (some ⟨b, 32, none⟩) 64 64, .int .i64 (-64), .bool true]) ∧ Below N w w' := by
  obtain ⟨tag, n, sl, c⟩ := v
  simp only at hv
  subst hv
  unfold vlV
  go_enter Try.func47, Try.ntmps47
  go_wp2_with (first
    | (refine wpl_box rfl 26 (.tmp 1) rfl 4 _ rfl N hN ?_; intro w1 hN1 hb1 h1; have c0 : w1.cell? ⟨N, 0, none⟩ = some (.int .i64 3) := h1.cell (j := 0) (by omega))
    | fail)
  exact bodyPost_ret (results_tmp3 rfl _ _ _) rfl ⟨rfl, hb1⟩
set_option maxRecDepth 100000 in
theorem BytesOf_ctx (b : Nat) (v : Vl) (hv : v.tag = 2) (w : World) (N : Nat) (hN : Sz w N) : Calls Try.prog 47 #[.pointer (some ⟨b, 0, none⟩), vlV v] w fun e w' => e = .returned (.tuple #[.slice (some ⟨b, 0, none⟩) 32 32, .int .i64 0, .bool true]) ∧ Below N w w' := by
  obtain ⟨tag, n, sl, c⟩ := v
  simp only at hv
  subst hv
  unfold vlV
  go_enter Try.func47, Try.ntmps47
  go_wp2_with (first
    | (refine wpl_box rfl 26 (.tmp 1) rfl 4 _ rfl N hN ?_; intro w1 hN1 hb1 h1; have c0 : w1.cell? ⟨N, 0, none⟩ = some (.int .i64 2) := h1.cell (j := 0) (by omega))
    | fail)
  exact bodyPost_ret (results_tmp3 rfl _ _ _) rfl ⟨rfl, hb1⟩
set_option maxRecDepth 100000 in
theorem BytesOf_cell (b : Nat) (v : Vl) (hv : v.tag = 5) (cb : Nat) (hc : v.c = some ⟨cb, 0, none⟩) (p : Option Addr) (l cap : Nat) (w : World) (N : Nat) (hN : Sz w N) (hl : w.cell? ⟨cb, 0, none⟩ = some (.slice p l cap)) : Calls Try.prog 47 #[.pointer (some ⟨b, 0, none⟩), vlV v] w fun e w' => e = .returned (.tuple #[.slice p l cap, .int .i64 0, .bool true]) ∧ Below N w w' := by
  obtain ⟨tag, n, sl, c⟩ := v
  simp only at hv hc
  subst hv hc
  unfold vlV
  go_enter Try.func47, Try.ntmps47
  go_wp2_with (first
    | (refine wpl_box rfl 26 (.tmp 1) rfl 4 _ rfl N hN ?_; intro w1 hN1 hb1 h1; have c0 : w1.cell? ⟨N, 0, none⟩ = some (.int .i64 5) := h1.cell (j := 0) (by omega); have c3 : w1.cell? ⟨N, 3, none⟩ = some (.pointer (some ⟨cb, 0, none⟩)) := h1.cell (j := 3) (by omega); have cl := keep_c hb1 hN hl)
    | fail)
  exact bodyPost_ret (results_tmp3 rfl _ _ _) rfl ⟨rfl, hb1⟩
end Go.Proofs.Ytjcjmlmdcjkceaa
