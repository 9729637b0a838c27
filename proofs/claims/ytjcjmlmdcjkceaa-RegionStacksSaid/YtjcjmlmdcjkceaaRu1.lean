/- RegionStacks: words of its calls that read. -/
import Derived.Test.YtjcjmlmdcjkceaaRt0
namespace Go.Proofs.Ytjcjmlmdcjkceaa
open Go Go.RowKit
theorem ld_out {m : Me} {n o : Int} {k : Nat} (h : ¬ (inB n o (-64) 64 = true ∧ at0 n o (-64) + k ≤ 64)) : ldS m n o k = (zeroV, 14) := by
  unfold ldS ldF
  refine if_pos ?_
  cases h1 : inB n o (-64) 64
  · rfl
  · rw [decide_eq_false (fun h2 => h ⟨h1, h2⟩)]; rfl
/-- What is kept, by its place. -/
theorem ke_cell {w : World} {pk : Option Addr} {L ck q : Nat} (h : OwnK w 26 4 pk L ck keF) (hq : q < L) : ∃ g, pk = some ⟨g, 0, none⟩ ∧ ∀ j, j < 4 → w.cell? ⟨g, 0 + q * 4 + j, none⟩ = some (vlC (vv q) j) := by
  obtain ⟨g, e, hc⟩ := h.cell (by omega)
  refine ⟨g, e, fun j hj => ?_⟩
  rw [Nat.add_assoc, hc (q * 4 + j) (by omega), keF_at q j hj]
theorem run_ldC {P : Program} {a : Act} {w : World} {o : Oper} (ty : TypeId) (x : Operand) (ho : o.op = .load ty x) (b off : Nat) (hx : a.eval x = .pointer (some ⟨b, off, none⟩)) (m : Nat) (g : Nat → Value) (hc : ∀ j, j < m → w.cell? ⟨b, off + j, none⟩ = some (g j)) (hu : ∃ d, P.underlying ty = some d ∧ d.isRow = true) (hi : (P.info? ty).map (·.size) = some m) : (execOp a.eval o).run P w = .ok (.value (.agg (cellsOf g m))) w := by
  obtain ⟨d, h1, h2⟩ := hu
  have hrun := run_load_cells (P := P) hc ty d h1 h2 hi
  unfold execOp
  simp only [ho, hx, Sem.run_bind, hrun, Result.andThen_ok, Sem.run_pure]
/-- The place of a slice's element of one cell. -/
theorem run_ixY {P : Program} {a : Act} {o : Oper} (T E : TypeId) (hu : P.underlying T = some (.slice E)) (hs : (P.info? E).map (·.size) = some 1) (x y : Operand) (ho : o.op = .indexAddr T x y) {q off cap k n : Nat} (hx : a.eval x = .slice (some ⟨q, off, none⟩) n cap) (hy : a.eval y = .int .i64 (k : Int)) (hk : k < n) (w : World) : (execOp a.eval o).run P w = .ok (.value (.pointer (some ⟨q, off + k, none⟩))) w := by
  cases hq : P.info? E with
  | none => simp [hq] at hs
  | some i =>
    have hi : i.size = 1 := by simpa [hq] using hs
    have h1 : ¬ (n ≤ k) := by omega
    unfold execOp
    simp only [ho, hx, hy]
    simp [Instr.indexAt, Instr.sureAddr, asIntOf, Sem.run_bind, run_underlying hu, sizeOf, typeInfo, hq, hi, Addr.add, h1, hk]
/-- Bytes that aren't all in the stack. -/
theorem Bytes_no (b : Nat) (v : Vl) (hv : v.tag = 3) (m : Me) (k : Nat) (n : Int) (en : sn v.n = n) (h : ¬ (inB n 0 (-64) 64 = true ∧ at0 n 0 (-64) + k ≤ 64)) (w : World) (N : Nat) (hN : Sz w N) (hh : Has w b 83 193 (meC m)) :
    Calls Try.prog 9 #[.pointer (some ⟨b, 0, none⟩), vlV v, .int .i64 ((k : Nat) : Int)] w fun e w' => e = .returned (.tuple #[.slice none 0 0, .int .i64 14]) ∧ Below N w w' := by
  subst en
  by_cases hk : k ≤ 64
  · cases hin : inB (sn v.n) 0 (-64) 64
    · exact Bytes_out b v hv m k hk hin w N hN hh
    · exact Bytes_long b v hv m k _ hk hin rfl (fun h2 => h ⟨hin, h2⟩) w N hN hh
  · exact Bytes_far b v k (by omega) w N hN
/-- What the document's stack says of bytes. -/
theorem plF_0 {n : Int} {c : Nat} (h : ¬ (inB n 0 (-64) 64 = true ∧ at0 n 0 (-64) + c ≤ 64)) : plF n 0 c = -1 := by rw [plF_ok (by omega), if_neg h]
theorem plF_1 {n : Int} {c f : Nat} (h : inB n 0 (-64) 64 = true ∧ at0 n 0 (-64) + c ≤ 64) (ef : at0 n 0 (-64) = f) : plF n 0 c = ((f : Nat) : Int) := by rw [plF_ok (by omega), if_pos h, ef]
/-- Bytes that aren't in the stack aren't filled. -/
theorem Fill_no (b : Nat) (v : Vl) (hv : v.tag = 3) (m : Me) (pb : Option Addr) (k cb : Nat) (hk : k < 1000) (n : Int) (en : sn v.n = n) (h : ¬ (inB n 0 (-64) 64 = true ∧ at0 n 0 (-64) + k ≤ 64)) (w : World) (N : Nat) (hN : Sz w N) (hh : Has w b 83 193 (meC m)) :
    Calls Try.prog 12 #[.pointer (some ⟨b, 0, none⟩), vlV v, .slice pb k cb] w fun e w' => e = .returned (.int .i64 14) ∧ Grew (some b) w w' ∧ Has w' b 83 193 (meC (m)) := by
  subst en
  cases hin : inB (sn v.n) 0 (-64) 64
  · exact Fill_out b v hv m pb k cb hk hin w N hN hh
  · exact Fill_far b v hv m pb k cb hk _ hin rfl (fun h2 => h ⟨hin, h2⟩) w N hN hh
theorem run_cp0 {P : Program} {a : Act} {o : Oper} {T E : TypeId} {x y : Operand} {p : Option Addr} {q : Option Addr} {l c d : Nat} (ho : o.op = .call { callee := .builtin .copy, args := #[x, y], argTypes := #[T, T] }) (hu : P.underlying T = some (.slice E)) (hs : (P.info? E).map (·.size) = some 1) (hx : a.eval x = .slice p l c) (hy : a.eval y = .slice q 0 d) (w : World) : (execOp a.eval o).run P w = .ok (.value (.int .i64 0)) w := by
  have hrun := run_copy_none (P := P) w T T o.type E p q l c 0 d hu hs (Nat.min_eq_left (Nat.zero_le _))
  unfold execOp
  simp [ho, resolve, invoke, builtin, hx, hy, hrun, Result.andThen, goInt]
set_option maxRecDepth 100000 in
set_option maxHeartbeats 8000000 in
theorem Fill_0 (b : Nat) (v : Vl) (hv : v.tag = 3) (m : Me) (pb : Option Addr) (cb : Nat) (f : Nat) (D : Nat → W) (hin : inB (sn v.n) 0 (-64) 64 = true) (hf : at0 (sn v.n) 0 (-64) = f) (fk : f + 0 ≤ 64) (w : World) (N : Nat) (hN : Sz w N) (hh : Has w b 83 193 (meC m))  : Calls Try.prog 12 #[.pointer (some ⟨b, 0, none⟩), vlV v, .slice pb 0 cb] w fun e w' => e = .returned (.int .i64 0) ∧ Grew (some b) w w' ∧ Has w' b 83 193 (meC (fiM m f 0 D)) := by
  have HO : Hid (decide (((0 : Nat) : Int) ≤ ((64 : Nat) : Int) - ((f : Nat) : Int)) = true) := hid (decide_eq_true (by omega))
  have HF := hid hf
  have hf64 : f ≤ 64 := by omega
  clear hf
  have hbl := hh.ltN hN
  obtain ⟨tag, vn, sl, c⟩ := v
  simp only at hv
  subst hv
  unfold vlV
  go_enter Try.func12, Try.ntmps12
  go_upto_region 8 with (first
    | (refine wpl_box rfl 26 (.tmp 1) rfl 4 _ rfl N hN ?_; intro w1 hN1 hb1 h1; replace hh := hh.below hb1 (by omega))
    | (refine wpl_run rfl (.int .i64 ((0 : Nat) : Int)) _ (run_lenS (x := .tmp 15) (T := 32) undSY rfl rfl _) ?_)
    | (refine wpl_load rfl 26 (.tmp 4) rfl N rfl 26 4 _ h1 _ undVl.choose_spec.1 undVl.choose_spec.2 szVl ?_)
    | (go_at_call 27; refine (Span_in b ⟨3, vn, sl, c⟩ 0 ((0 : Nat) : Int) _ 64 64 (-64) (fun _ => True) (fun _ _ _ _ _ _ => trivial) (by omega) (.inr rfl) (base_stack b _ rfl) hin _ (N + 1) hN1 trivial).mono ?_; rintro e w4 ⟨rfl, hb4⟩; rw [HF.out, HO.out]; obtain ⟨M4, hM4⟩ := sz_some w4; have l4 := below_sz hb4 hN1 hM4; replace h1 := h1.below hb4 (by omega); replace hh := hh.below hb4 (by omega); replace hb4 := hb1.trans (hb4.mono (by omega)); clear hN1 hb1)
    | (refine wpl_want (by rfl) ?_; refine wpl_load rfl 26 (.tmp 4) rfl N rfl 26 4 _ h1 _ undVl.choose_spec.1 undVl.choose_spec.2 szVl ?_)
    | (go_at_call 32; refine (Writable_stack b ⟨3, vn, sl, c⟩ rfl _ M4 hM4).mono ?_; rintro e w5 ⟨rfl, hb5⟩; obtain ⟨M5, hM5⟩ := sz_some w5; have l5 := below_sz hb5 hM4 hM5; replace h1 := h1.below hb5 (by omega); replace hh := hh.below hb5 (by omega); replace hb4 := hb4.trans (hb5.mono (by omega)); have c0 : w5.cell? ⟨N, 0, none⟩ = some (.int .i64 3) := h1.cell (j := 0) (by omega); clear hM4 hb5)
    | (refine wpl_run rfl (.int .i64 ((0 : Nat) : Int)) _ (run_lenS (x := .tmp 34) (T := 32) undSY rfl rfl _) ?_)
    | (go_at_call 34; refine (Write_any b m f 0 fk _ hh).mono ?_; rintro e w6 ⟨rfl, -, T6, h6⟩; have g6 := (below_grew (b := some b) hb4 hN).trans (touch_grew T6); clear T6 hb4 hh h1 c0)
    | fail)
  go_wp2_with (first
    | (refine wpl_run rfl (.slice (some ⟨b, soff 32 f 64, none⟩) (64 - f) (64 - f)) _ (run_slL 32 5 (.tmp 37) (.tmp 38) rfl rfl rfl undSY szY1 hf64 (Nat.le_refl _) _) ?_)
    | (refine wpl_run rfl (.int .i64 0) _ (run_cp0 (x := .tmp 39) (y := .tmp 40) rfl undSY szY1 rfl rfl _) ?_)
    | fail)
  go_ret
  refine ⟨rfl, g6, ?_⟩
  have e : fiM m f 0 D = wrM m f 0 := by
    unfold fiM wrM
    congr 1
    funext j; rw [if_neg (by omega)]
  rw [e]; exact h6
theorem Fill_in (b : Nat) (v : Vl) (hv : v.tag = 3) (m : Me) (pb : Option Addr) (k cb : Nat) (hk : k < 1000) (f : Nat) (D : Nat → W) (n : Int) (en : sn v.n = n) (hin : inB n 0 (-64) 64 = true) (hf : at0 n 0 (-64) = f) (fk : f + k ≤ 64) (w : World) (N : Nat) (hN : Sz w N) (hh : Has w b 83 193 (meC m)) (hA : Ats w pb k (fun j => Yv (D j))) (hne : 0 < k → ∀ g, blk pb = some g → g ≠ b) :
    Calls Try.prog 12 #[.pointer (some ⟨b, 0, none⟩), vlV v, .slice pb k cb] w fun e w' => e = .returned (.int .i64 0) ∧ Grew (some b) w w' ∧ Has w' b 83 193 (meC (fiM m f k D)) := by
  subst en
  by_cases h0 : k = 0
  · subst h0
    exact Fill_0 b v hv m pb cb f D hin hf fk w N hN hh
  · obtain ⟨bb, ob, e, hc⟩ := hA (by omega)
    subst e
    exact Fill_some b v hv m bb ob k cb hk f D hin hf fk w N hN hh (fun _ => ⟨bb, ob, rfl, hc⟩) (fun h => hne h bb rfl)
end Go.Proofs.Ytjcjmlmdcjkceaa
