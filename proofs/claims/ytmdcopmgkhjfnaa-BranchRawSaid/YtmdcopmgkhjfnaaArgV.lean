/- What the lifted proofs over ranges share: ranges that were read; bytes. -/
import Derived.Test.YtmdcopmgkhjfnaaArgN
import Derived.Test.YtmdcopmgkhjfnaaSr0
namespace Go.Proofs.Ytmdcopmgkhjfnaa
open Go Go.ChangeShapes Go.WideShapes Go.ChangeAt Go.WideMaps Go.WideElems Go.RowKit
def rng5Fs : TypeDesc → Bool
  | .struct fs => fs.toList.map (fun f => (f.type, f.offset)) == [(32, 0), (22, 2), (22, 3), (2, 4), (2, 5)]
  | _ => false
set_option maxRecDepth 100000 in
theorem rng5_of {T : TypeId} (h : (Try.prog.underlying T).map rng5Fs = some true) : ∃ f0 f1 f2 f3 f4 : Field, Try.prog.underlying T = some (.struct #[f0, f1, f2, f3, f4]) ∧ (f0.type = 32 ∧ f0.offset = 0) ∧ (f1.type = 22 ∧ f1.offset = 2) ∧ (f2.type = 22 ∧ f2.offset = 3) ∧ (f3.type = 2 ∧ f3.offset = 4) ∧ (f4.type = 2 ∧ f4.offset = 5) := by
  cases e : Try.prog.underlying T with
  | none => rw [e] at h; cases h
  | some d =>
    rw [e] at h
    cases d with
    | struct fs =>
      obtain ⟨l⟩ := fs
      simp only [Option.map_some, Option.some.injEq, rng5Fs, beq_iff_eq] at h
      have hl : l.length = 5 := by have := congrArg List.length h; simpa using this
      obtain ⟨f0, f1, f2, f3, f4, rfl⟩ : ∃ f0 f1 f2 f3 f4, l = [f0, f1, f2, f3, f4] := by
        match l, hl with
        | [f0, f1, f2, f3, f4], _ => exact ⟨f0, f1, f2, f3, f4, rfl⟩
      simp only [List.map_cons, List.map_nil, List.cons.injEq, Prod.mk.injEq, and_true] at h
      obtain ⟨h0, h1, h2, h3, h4⟩ := h
      exact ⟨f0, f1, f2, f3, f4, rfl, h0, h1, h2, h3, h4⟩
    | _ => simp [rng5Fs] at h
theorem bounds_i64 {k : Int} (h : (Lit.int .i64 k).wf = true) : -9223372036854775808 ≤ k ∧ k ≤ 9223372036854775807 := by
  simp only [Lit.wf, Bool.and_eq_true, decide_eq_true_eq] at h
  have e1 : IntKind.i64.min = -9223372036854775808 := by decide
  have e2 : IntKind.i64.max = 9223372036854775807 := by decide
  rw [e1, e2] at h
  exact h
theorem S_of_int (z : Int) (h0 : -9223372036854775808 ≤ z) (h1 : z ≤ 9223372036854775807) : Value.int .i64 z = S (BitVec.ofInt 64 z) := by
  unfold S
  rw [sn_ofInt]
  congr 1
  split <;> omega
theorem cofI64 : Try.prog.cellsOf 2 = 1 := by kernel_rfl
section
variable {H : Type} {enc : TypeId × Value → H} {w : World} {base : Nat} {sp : Nat → Bool} {held : Bool}
set_option maxRecDepth 100000 in
theorem open_rngc {T : TypeId} (hT : (Try.prog.underlying T).map rng5Fs = some true) (hc : Try.prog.cellsOf T = 6) (hN : (Try.prog.underlying 32).map num2Fs = some true) (hcN : Try.prog.cellsOf 32 = 2) {fuel : Nat} {cs : List Value} {x : DataW H × List MemPlace} (h : DataW.trod enc Try.prog w base sp held fuel T cs = some x) : ∃ r : Rn, cs = (List.range 6).map (rC r) := by
  obtain ⟨f0, f1, f2, f3, f4, hu, ⟨t0, o0⟩, ⟨t1, o1⟩, ⟨t2, o2⟩, ⟨t3, o3⟩, ⟨t4, o4⟩⟩ := rng5_of hT
  obtain ⟨xs, n, _, rfl, hl, hlen, hf⟩ := DataW.trod_struct hu h
  match xs, hlen with
  | [y0, y1, y2, y3, y4], _ =>
    have e0 := hf 0 f0 rfl
    have e1 := hf 1 f1 rfl
    have e2 := hf 2 f2 rfl
    have e3 := hf 3 f3 rfl
    have e4 := hf 4 f4 rfl
    rw [t0, o0, hcN] at e0
    rw [t1, o1, cofU64] at e1
    rw [t2, o2, cofU64] at e2
    rw [t3, o3, cofI64] at e3
    rw [t4, o4, cofI64] at e4
    obtain ⟨q, hq⟩ := open_numc hN hcN e0
    obtain ⟨z1, r1, _, w1⟩ := DataW.trod_int und64 e1
    obtain ⟨z2, r2, _, w2⟩ := DataW.trod_int und64 e2
    obtain ⟨z3, r3, _, w3⟩ := DataW.trod_int undI64 e3
    obtain ⟨z4, r4, _, w4⟩ := DataW.trod_int undI64 e4
    have w1 := bounds_u64 w1
    have w2 := bounds_u64 w2
    have w3 := bounds_i64 w3
    have w4 := bounds_i64 w4
    rw [hc] at hl
    have q0 : cs[0]? = some (Q q.v) := by
      have := congrArg (fun l => l[0]?) hq
      simpa [List.getElem?_take, nC] using this
    have q1 : cs[1]? = some (Q q.m) := by
      have := congrArg (fun l => l[1]?) hq
      simpa [List.getElem?_take, nC] using this
    refine ⟨⟨q, BitVec.ofInt 64 z1, BitVec.ofInt 64 z2, BitVec.ofInt 64 z3, BitVec.ofInt 64 z4⟩, List.ext_getElem? fun j => ?_⟩
    by_cases hj : j < 6
    · rcases (show j = 0 ∨ j = 1 ∨ j = 2 ∨ j = 3 ∨ j = 4 ∨ j = 5 by omega) with rfl | rfl | rfl | rfl | rfl | rfl
      · rw [q0]; rfl
      · rw [q1]; rfl
      · rw [at_oneN r1, Q_of_int z1 w1.1 w1.2]; rfl
      · rw [at_oneN r2, Q_of_int z2 w2.1 w2.2]; rfl
      · rw [at_oneN r3, S_of_int z3 w3.1 w3.2]; rfl
      · rw [at_oneN r4, S_of_int z4 w4.1 w4.2]; rfl
    · rw [List.getElem?_eq_none (by omega), List.getElem?_eq_none (by simp; omega)]
set_option maxRecDepth 100000 in
theorem open_rng {v : Value} {d : DataW H} {p : List MemPlace} {r : Reach} {b0 : Nat} (hv : Value.okWide Try.prog w r b0 34 v) (h : DataW.Trod enc Try.prog w base sp held 34 v d p) : ∃ r : Rn, v = rV r := by
  obtain ⟨f0, f1, f2, f3, f4, hu, _⟩ := rng5_of (T := 34) (by kernel_rfl)
  obtain ⟨cs, rfl, _⟩ := okWide_struct hu hv
  obtain ⟨fuel, hf⟩ := h
  obtain ⟨r, hr⟩ := open_rngc (by kernel_rfl) (by kernel_rfl) (by kernel_rfl) (by kernel_rfl) hf
  refine ⟨r, ?_⟩
  unfold rV
  congr 1
  apply Array.ext'
  simpa [cellsOf, Value.cells] using hr
end
end Go.Proofs.Ytmdcopmgkhjfnaa
