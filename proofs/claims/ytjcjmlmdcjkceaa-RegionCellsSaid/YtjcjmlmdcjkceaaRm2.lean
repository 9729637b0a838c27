/- A program's memory: a number of bytes; bytes that are all a number's; what is written, what is kept. -/
import Derived.Test.YtjcjmlmdcjkceaaRm1
namespace Go.Proofs.Ytjcjmlmdcjkceaa
open Go Go.RowKit
theorem grew_touch {b : Nat} {w w' w'' : World} (g : Grew (some b) w w') (t : Touch b w' w'') : Grew (some b) w w'' :=
  ⟨t.os.trans g.os, t.tape.trans g.tape, t.output.trans g.output, by rw [t.size]; exact g.size, fun k hk hne => (t.block k (fun h => hne (by rw [h]))).trans (g.block k hk hne)⟩
theorem below_grew {b : Option Nat} {N : Nat} {w w' : World} (h : Below N w w') (hN : Sz w N) : Grew b w w' :=
  ⟨h.os, h.tape, h.output, h.size, fun k hk _ => h.block k (by have e : w.heap.size = N := hN; omega)⟩
/-- All of the first n. -/
def allT (F : Nat → Bool) : Nat → Bool
  | 0 => true
  | n + 1 => allT F n && F n
theorem allT_iff (F : Nat → Bool) (n : Nat) : allT F n = true ↔ ∀ i, i < n → F i = true := by
  induction n with
  | zero => exact ⟨fun _ i hi => absurd hi (by omega), fun _ => rfl⟩
  | succ n ih =>
    show (allT F n && F n) = true ↔ _
    rw [Bool.and_eq_true, ih]
    constructor
    · intro h i hi
      by_cases e : i = n
      · subst e; exact h.2
      · exact h.1 i (by omega)
    · intro h; exact ⟨fun i hi => h i (by omega), h n (by omega)⟩
theorem undSB : Try.prog.underlying 109 = some (.slice 4) := by kernel_rfl
theorem undSY : Try.prog.underlying 32 = some (.slice 5) := by kernel_rfl
set_option maxRecDepth 100000 in
set_option maxHeartbeats 2000000 in
theorem Index_any (p : Option Addr) (n cap : Nat) (F : Nat → Bool) (hn : n < 1000) (w : World) (hA : Ats w p n (fun j => .bool (F j))) : Calls Try.prog 59 #[.slice p n cap, .bool false] w fun e w' => (∃ r : Int, e = .returned (.int .i64 r) ∧ decide (0 ≤ r) = !(allT F n)) ∧ w' = w := by
  obtain ⟨z, ez⟩ : ∃ z, allT F n = z := ⟨_, rfl⟩
  rw [ez]
  have EZ := hid ez
  clear ez
  go_enter Try.func59, Try.ntmps59
  go_wp2_with (first
    | (refine wpl_run rfl (.int .i64 ((n : Nat) : Int)) _ (run_lenS (x := .tmp 6) (T := 109) undSB rfl rfl _) ?_)
    | fail)
  go_loopw [5, 8] (fun x5 x8 wr => ∃ q : Nat, q ≤ n ∧ x8 = .int .i64 q ∧ allT F q = true ∧ wr = w) (fun _ x8 _ => n - (intOf x8).toNat)
  case atStart => exact ⟨0, by omega, rfl, rfl, rfl⟩
  case round =>
    obtain ⟨q, hq, rfl, hC, rfl⟩ := hrel
    have HC := hid hC
    clear hC
    by_cases hlt : q < n
    · have t1 : decide ((q : Int) < (n : Int)) = true := by simp; omega
      obtain ⟨bb, off, rfl, hcl⟩ := hA (by omega)
      have cq : wr.cell? ⟨bb, off + q, none⟩ = some (.bool (F q)) := hcl q hlt
      have HCL := hid hcl
      clear hcl
      cases hF : F q
      · rw [hF] at cq
        have ez : z = false := by
          rw [← EZ.out]
          cases ha : allT F n
          · rfl
          · have := (allT_iff _ _).1 ha q hlt; rw [hF] at this; cases this
        have HF := hid hF
        have HZ := hid ez
        clear hF ez
        go_wp2_with (first
          | (refine wpl_run rfl (.pointer (some ⟨bb, off + q, none⟩)) _ (run_ixL 109 4 undSB szB1 (.tmp 12) (.tmp 13) rfl rfl rfl (k := q) hlt _) ?_)
          | fail)
        go_ret
        exact ⟨⟨q, rfl, by rw [HZ.out]; exact decide_eq_true (by omega)⟩, rfl⟩
      · rw [hF] at cq
        have HF := hid hF
        clear hF
        go_wp2_with (first
          | (refine wpl_run rfl (.pointer (some ⟨bb, off + q, none⟩)) _ (run_ixL 109 4 undSB szB1 (.tmp 12) (.tmp 13) rfl rfl rfl (k := q) hlt _) ?_)
          | fail)
        refine ⟨⟨q + 1, by omega, by go_num, ?_, trivial⟩, by simp [intOf]; omega⟩
        show (allT F q && F q) = true
        rw [HC.out, HF.out]; rfl
    · obtain rfl : q = n := by omega
      go_wp2_with fail
      go_ret
      exact ⟨⟨-1, rfl, by rw [← EZ.out, HC.out]; rfl⟩, rfl⟩
set_option maxRecDepth 100000 in
theorem Contains_any (p : Option Addr) (n cap : Nat) (F : Nat → Bool) (hn : n < 1000) (w : World) (hA : Ats w p n (fun j => .bool (F j))) : Calls Try.prog 49 #[.slice p n cap, .bool false] w fun e w' => e = .returned (.bool (!(allT F n))) ∧ w' = w := by
  obtain ⟨z, ez⟩ : ∃ z, (!(allT F n)) = z := ⟨_, rfl⟩
  rw [ez]
  have EZ := hid ez
  clear ez
  go_enter Try.func49, Try.ntmps49
  go_wp2_with (first
    | (go_at_call 59; refine (Index_any p n cap F hn _ hA).mono ?_; rintro e w2 ⟨⟨r, rfl, hr⟩, rfl⟩; have HR := hid (hr.trans EZ.out); clear hr)
    | (refine wpl_run rfl (.bool z) _ (run_geqI (x := .tmp 7) (y := .const (.int .i64 0)) rfl rfl rfl (q := 0) HR.out _) ?_)
    | fail)
  go_ret
  exact ⟨rfl, rfl⟩
/-- Where a slice of a slice begins: at its end it stays. -/
def soff (o l cap : Nat) : Nat := if cap = l then o else o + l
theorem run_slA {P : Program} {a : Act} {o : Oper} (t e : TypeId) (x y z : Operand) (ho : o.op = .slice t x (some y) (some z) none) {b off k l h : Nat} (hx : a.eval x = .pointer (some ⟨b, off, none⟩)) (hy : a.eval y = .int .i64 (l : Int)) (hz : a.eval z = .int .i64 (h : Int)) (hu : P.underlying t = some (.array k e)) (hi : (P.info? e).map (·.size) = some 1) (hl : l ≤ h) (hh : h ≤ k) (w : World) :
    (execOp a.eval o).run P w = .ok (.value (.slice (some ⟨b, soff off l k, none⟩) (h - l) (k - l))) w := by
  cases hq : P.info? e with
  | none => simp [hq] at hi
  | some i =>
    have hi : i.size = 1 := by simpa [hq] using hi
    unfold execOp soff
    simp only [ho, Option.map, hx, hy, hz]
    by_cases e5 : k = l
    · subst e5
      obtain rfl : h = k := by omega
      simp [Instr.sliceAt, Instr.sureAddr, run_underlying hu, Instr.sliceBounds, Instr.sliceBound, asIntOf, sizeOf, typeInfo, hq, hi, Sem.run_bind, Addr.add_mid]
    · simp [Instr.sliceAt, Instr.sureAddr, run_underlying hu, Instr.sliceBounds, Instr.sliceBound, asIntOf, sizeOf, typeInfo, hq, hi, Sem.run_bind, hl, hh, e5, Addr.add_mid]
theorem run_slS {P : Program} {a : Act} {o : Oper} (t e : TypeId) (x y z : Operand) (ho : o.op = .slice t x (some y) (some z) none) {b off n cap l h : Nat} (hx : a.eval x = .slice (some ⟨b, off, none⟩) n cap) (hy : a.eval y = .int .i64 (l : Int)) (hz : a.eval z = .int .i64 (h : Int)) (hu : P.underlying t = some (.slice e)) (hi : (P.info? e).map (·.size) = some 1) (hl : l ≤ h) (hh : h ≤ cap) (w : World) :
    (execOp a.eval o).run P w = .ok (.value (.slice (some ⟨b, soff off l cap, none⟩) (h - l) (cap - l))) w := by
  cases hq : P.info? e with
  | none => simp [hq] at hi
  | some i =>
    have hi : i.size = 1 := by simpa [hq] using hi
    unfold execOp soff
    simp only [ho, Option.map, hx, hy, hz]
    by_cases e5 : cap = l
    · subst e5
      obtain rfl : h = cap := by omega
      simp [Instr.sliceAt, Instr.slice, run_underlying hu, Instr.sliceBounds, Instr.sliceBound, asIntOf, sizeOf, typeInfo, hq, hi, Sem.run_bind, Addr.add_mid]
    · simp [Instr.sliceAt, Instr.slice, run_underlying hu, Instr.sliceBounds, Instr.sliceBound, asIntOf, sizeOf, typeInfo, hq, hi, Sem.run_bind, hl, hh, e5, Addr.add_mid]
/-- A number of bytes, the lowest first. -/
def numF (D : Nat → W) : Nat → W
  | 0 => 0#64
  | n + 1 => numF D n ||| (D n <<< (8 * n))
theorem run_mul8 {P : Program} {a : Act} {o : Oper} {T ty : TypeId} {x y : Operand} {q : Nat} (ho : o.op = .binOp .mul T x y ty) (hx : a.eval x = .int .i64 8) (hy : a.eval y = .int .i64 (q : Int)) (hq : q < 1000000) (w : World) : (execOp a.eval o).run P w = .ok (.value (.int .i64 ((8 * q : Nat) : Int))) w := by
  rw [run_mulI ho hx hy w, wrap_id (by omega) (by omega)]
  congr 3
theorem run_addN {P : Program} {a : Act} {o : Oper} {T ty : TypeId} {x y : Operand} {p q : Nat} (ho : o.op = .binOp .add T x y ty) (hx : a.eval x = .int .i64 (p : Int)) (hy : a.eval y = .int .i64 (q : Int)) (hp : p + q < 1000000000) (w : World) : (execOp a.eval o).run P w = .ok (.value (.int .i64 ((p + q : Nat) : Int))) w := by
  rw [run_addI ho hx hy w, wrap_id (by omega) (by omega)]
  congr 3
set_option maxRecDepth 100000 in
set_option maxHeartbeats 2000000 in
theorem Number_any (p : Option Addr) (n cap : Nat) (D : Nat → W) (hn : n < 1000) (w : World) (hA : Ats w p n (fun j => Yv (D j))) : Calls Try.prog 30 #[.slice p n cap] w fun e w' => e = .returned (Q (numF D n)) ∧ w' = w := by
  obtain ⟨z, ez⟩ : ∃ z, numF D n = z := ⟨_, rfl⟩
  rw [ez]
  have EZ := hid ez
  clear ez
  go_enter Try.func30, Try.ntmps30
  go_wp2_with (first
    | (refine wpl_run rfl (.int .i64 ((n : Nat) : Int)) _ (run_lenS (x := .tmp 6) (T := 32) undSY rfl rfl _) ?_)
    | fail)
  go_loopw [3, 4, 5, 8] (fun x3 x4 x5 x8 wr => ∃ q : Nat, q ≤ n ∧ x8 = .int .i64 q ∧ x3 = Q (numF D q) ∧ wr = w) (fun _ _ _ x8 _ => n - (intOf x8).toNat)
  case atStart => exact ⟨0, by omega, rfl, rfl, rfl⟩
  case round =>
    obtain ⟨q, hq, rfl, rfl, rfl⟩ := hrel
    by_cases hlt : q < n
    · have t1 : decide ((q : Int) < (n : Int)) = true := by simp; omega
      obtain ⟨bb, off, rfl, hcl⟩ := hA (by omega)
      have cq : wr.cell? ⟨bb, off + q, none⟩ = some (Yv (D q)) := hcl q hlt
      have HCL := hid hcl
      clear hcl
      obtain ⟨y, ey⟩ : ∃ y, numF D q = y := ⟨_, rfl⟩
      rw [ey]
      have EY := hid ey
      clear ey
      go_wp2_with (first
        | (refine wpl_run rfl (.pointer (some ⟨bb, off + q, none⟩)) _ (run_ixL 32 5 undSY szY1 (.tmp 6) (.tmp 8) rfl rfl rfl (k := q) hlt _) ?_)
        | (refine wpl_run rfl (Q (D q)) _ (run_yu (x := .tmp 14) rfl undY und64 rfl _) ?_)
        | (refine wpl_run rfl (.int .i64 ((8 * q : Nat) : Int)) _ (run_mul8 (x := .const (.int .i64 8)) (y := .tmp 16) rfl rfl rfl (by omega) _) ?_)
        | (refine wpl_b rfl rfl (bin_shl _ _ _) rfl rfl ?_)
        | (refine wpl_b rfl rfl (bin_or _ _ _) rfl rfl ?_)
        | fail)
      refine ⟨⟨q + 1, by omega, by go_num, ?_, trivial⟩, by simp [intOf]; omega⟩
      show Q (y ||| (D q <<< (8 * q))) = Q (numF D q ||| (D q <<< (8 * q)))
      rw [EY.out]
    · obtain rfl : q = n := by omega
      rw [EZ.out]
      go_wp2_with fail
      go_ret
      exact ⟨rfl, rfl⟩
end Go.Proofs.Ytjcjmlmdcjkceaa
