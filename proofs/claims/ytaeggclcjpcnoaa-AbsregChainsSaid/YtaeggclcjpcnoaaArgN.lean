/- What the lifted proofs over words of 64 bits share: the program's layout; words, known bits and rows of words that were read. -/
import Derived.Test.YtaeggclcjpcnoaaRows
import Derived.Test.YtaeggclcjpcnoaaNk
import Derived.WalkKit
import Derived.ProofKit
import Derived.OpenShut
import Derived.LaidMore
import Derived.Stop.Joined
namespace Go.Proofs.Ytaeggclcjpcnoaa
open Go Go.ChangeShapes Go.WideShapes Go.ChangeAt Go.WideMaps Go.WideElems Go.RowKit
theorem ownP : ownKnob Try.prog.godebug = none := by kernel_rfl
theorem laidOutP : laidOutB Try.prog = true := by kernel_rfl
def num2Fs : TypeDesc → Bool
  | .struct fs => fs.toList.map (fun f => (f.type, f.offset)) == [(22, 0), (22, 1)]
  | _ => false
set_option maxRecDepth 100000 in
theorem num2_of {T : TypeId} (h : (Try.prog.underlying T).map num2Fs = some true) : ∃ f0 f1 : Field, Try.prog.underlying T = some (.struct #[f0, f1]) ∧ (f0.type = 22 ∧ f0.offset = 0) ∧ (f1.type = 22 ∧ f1.offset = 1) := by
  cases e : Try.prog.underlying T with
  | none => rw [e] at h; cases h
  | some d =>
    rw [e] at h
    cases d with
    | struct fs =>
      obtain ⟨l⟩ := fs
      simp only [Option.map_some, Option.some.injEq, num2Fs, beq_iff_eq] at h
      have hl : l.length = 2 := by have := congrArg List.length h; simpa using this
      obtain ⟨f0, f1, rfl⟩ : ∃ f0 f1, l = [f0, f1] := by
        match l, hl with
        | [f0, f1], _ => exact ⟨f0, f1, rfl⟩
      simp only [List.map_cons, List.map_nil, List.cons.injEq, Prod.mk.injEq, and_true] at h
      obtain ⟨h0, h1⟩ := h
      exact ⟨f0, f1, rfl, h0, h1⟩
    | _ => simp [num2Fs] at h
theorem cofU64 : Try.prog.cellsOf 22 = 1 := by kernel_rfl
theorem at_oneN {cs : List Value} {k : Nat} {v : Value} (h : (cs.drop k).take 1 = [v]) : cs[k]? = some v := by
  have := congrArg (fun l => l[0]?) h
  simpa using this
theorem bounds_u64 {k : Int} (h : (Lit.int .u64 k).wf = true) : 0 ≤ k ∧ k ≤ 18446744073709551615 := by
  simp only [Lit.wf, Bool.and_eq_true, decide_eq_true_eq] at h
  have e1 : IntKind.u64.min = 0 := by decide
  have e2 : IntKind.u64.max = 18446744073709551615 := by decide
  rw [e1, e2] at h
  exact h
theorem Q_of_int (z : Int) (h0 : 0 ≤ z) (h1 : z ≤ 18446744073709551615) : Value.int .u64 z = Q (BitVec.ofInt 64 z) := by
  unfold Q
  rw [qn_ofInt]
  congr 1; omega
section
variable {H : Type} {enc : TypeId × Value → H} {w : World} {base : Nat} {sp : Nat → Bool} {held : Bool}
set_option maxRecDepth 100000 in
theorem open_u64 {v : Value} {d : DataW H} {p : List MemPlace} {r : Reach} {b0 : Nat} (hv : Value.okWide Try.prog w r b0 22 v) (h : DataW.Trod enc Try.prog w base sp held 22 v d p) : ∃ x : W, v = Q x := by
  obtain ⟨n, rfl⟩ := okWide_int (P := Try.prog) und64 hv
  obtain ⟨fuel, hf⟩ := h
  obtain ⟨k, e, _, hw⟩ := DataW.trod_int und64 hf
  have hnk : n = k := by simpa [Value.cells] using e
  subst hnk
  have hb := bounds_u64 hw
  exact ⟨_, Q_of_int n hb.1 hb.2⟩
set_option maxRecDepth 100000 in
theorem open_numc {T : TypeId} (hT : (Try.prog.underlying T).map num2Fs = some true) (hc : Try.prog.cellsOf T = 2) {fuel : Nat} {cs : List Value} {x : DataW H × List MemPlace} (h : DataW.trod enc Try.prog w base sp held fuel T cs = some x) : ∃ r : Nm, cs = (List.range 2).map (nC r) := by
  obtain ⟨f0, f1, hu, ⟨t0, o0⟩, ⟨t1, o1⟩⟩ := num2_of hT
  obtain ⟨xs, n, _, rfl, hl, hlen, hf⟩ := DataW.trod_struct hu h
  match xs, hlen with
  | [y0, y1], _ =>
    have e0 := hf 0 f0 rfl
    have e1 := hf 1 f1 rfl
    rw [t0, o0, cofU64] at e0
    rw [t1, o1, cofU64] at e1
    obtain ⟨z0, r0, _, w0⟩ := DataW.trod_int und64 e0
    obtain ⟨z1, r1, _, w1⟩ := DataW.trod_int und64 e1
    have w0 := bounds_u64 w0
    have w1 := bounds_u64 w1
    refine ⟨⟨BitVec.ofInt 64 z0, BitVec.ofInt 64 z1⟩, List.ext_getElem? fun j => ?_⟩
    rw [hc] at hl
    by_cases hj : j < 2
    · rcases (show j = 0 ∨ j = 1 by omega) with rfl | rfl
      · rw [at_oneN r0, Q_of_int z0 w0.1 w0.2]; rfl
      · rw [at_oneN r1, Q_of_int z1 w1.1 w1.2]; rfl
    · rw [List.getElem?_eq_none (by omega), List.getElem?_eq_none (by simp; omega)]
set_option maxRecDepth 100000 in
set_option maxRecDepth 100000 in
theorem open_num {T : TypeId} (hT : (Try.prog.underlying T).map num2Fs = some true) (hc : Try.prog.cellsOf T = 2) {v : Value} {d : DataW H} {p : List MemPlace} {r : Reach} {b0 : Nat} (hv : Value.okWide Try.prog w r b0 T v) (h : DataW.Trod enc Try.prog w base sp held T v d p) : ∃ r : Nm, v = nV r := by
  obtain ⟨f0, f1, hu, _⟩ := num2_of hT
  obtain ⟨cs, rfl, _⟩ := okWide_struct hu hv
  obtain ⟨fuel, hf⟩ := h
  obtain ⟨r, hr⟩ := open_numc hT hc hf
  refine ⟨r, ?_⟩
  unfold nV
  congr 1
  apply Array.ext'
  simpa [cellsOf, Value.cells] using hr
theorem okWide_arrN {P : Program} {r : Reach} {b0 t n e : Nat} {v : Value} (ht : P.underlying t = some (.array n e)) (h : Value.okWide P w r b0 t v) : ∃ cs, v = .agg cs := by
  simp only [Value.okWide, ht] at h
  obtain ⟨cs, h1, _⟩ := h
  exact ⟨cs, h1⟩
/-- A row of words that was read. -/
theorem open_warr {fuel t n : Nat} {cs : List Value} {x : DataW H × List MemPlace} (ht : Try.prog.underlying t = some (.array n 22)) (hct : Try.prog.cellsOf t = n) (h : DataW.trod enc Try.prog w base sp held fuel t cs = some x) :
    ∃ D : Nat → W, cs = (List.range n).map (fun j => Q (D j)) := by
  obtain ⟨xs, m, rfl, _, hlen, hn, hel⟩ := DataW.trod_array ht h
  rw [hct] at hlen
  have hall : ∀ j : Nat, ∃ y : W, j < n → cs[j]? = some (Q y) := fun j => by
    by_cases hj : j < n
    · have h0 := hel j hj
      rw [cofU64, Nat.mul_one] at h0
      have hxi : xs[j]? = some xs[j] := List.getElem?_eq_getElem (by omega)
      rw [hxi] at h0
      obtain ⟨k, e1, _, hw⟩ := DataW.trod_int und64 h0
      have hb := bounds_u64 hw
      have hcj : cs[j]? = some cs[j] := List.getElem?_eq_getElem (by omega)
      have : (cs.drop j).take 1 = [cs[j]] := by
        rw [List.drop_eq_getElem_cons (by omega)]; rfl
      rw [this] at e1
      refine ⟨BitVec.ofInt 64 k, fun _ => ?_⟩
      rw [hcj, ← Q_of_int k hb.1 hb.2]
      simpa using e1
    · exact ⟨0#64, fun h => absurd h hj⟩
  obtain ⟨D, hD⟩ := Classical.axiomOfChoice hall
  refine ⟨D, List.ext_getElem? fun j => ?_⟩
  by_cases hj : j < n
  · rw [hD j hj]; simp [hj]
  · rw [List.getElem?_eq_none (by omega), List.getElem?_eq_none (by simp; omega)]
set_option maxRecDepth 100000 in
theorem open_warr_agg {t n : Nat} {v : Value} {d : DataW H} {p : List MemPlace} {r : Reach} {b0 : Nat} (ht : Try.prog.underlying t = some (.array n 22)) (hct : Try.prog.cellsOf t = n) (hv : Value.okWide Try.prog w r b0 t v) (h : DataW.Trod enc Try.prog w base sp held t v d p) :
    ∃ D : Nat → W, v = .agg (cellsOf (fun j => Q (D j)) n) := by
  obtain ⟨cs, rfl⟩ := okWide_arrN (P := Try.prog) ht hv
  obtain ⟨fuel, hf⟩ := h
  obtain ⟨D, hD⟩ := open_warr ht hct hf
  refine ⟨D, ?_⟩
  congr 1
  apply Array.ext'
  simpa [cellsOf, Value.cells] using hD
end
end Go.Proofs.Ytaeggclcjpcnoaa
