/- ObjtabNumbers: of all rows of texts and of numbers, on any machine: no condition. -/
import Derived.Test.YtkofhcjgobccoaaNu2
import Derived.Test.YtkofhcjgobccoaaArgT
import Derived.Test.YtkofhcjgobccoaaArgP
namespace Go.Proofs.Ytkofhcjgobccoaa.onumsProof
open Go Go.ChangeShapes Go.WideShapes Go.ChangeAt Go.WideMaps Go.WideElems Go.RowKit
set_option maxRecDepth 100000 in
theorem lifted (os : Os) (started : os.Started) (H : Type) (enc : TypeId × Value → H) :
    ReturnsInHanded {} Try.checked os 3 .any (Rows.objtabNumbersSpec.pre6 enc Try.prog Try.f3 Rows.objtabNumbersRow.domain false) (Rows.objtabNumbersSpec.post enc Try.prog Try.f3 false true false false) := by
  refine returnsInHanded_of_change (C := Try.checked) ownP started (by kernel_rfl) Try.func3
    (ChangeSpec.witness6 (enc := enc) (C := Try.checked) false ⟨#[], #[.slice none 0 0, .slice none 0 0], []⟩ 8 (by kernel_rfl) (by kernel_rfl) (by kernel_rfl) (by kernel_rfl)) ?_
  intro W base args ds gs before hval0 hW hcnd _
  have hval : ∀ (j : Nat) t v, Try.f3.params[j]? = some t → args[j]? = some v → Value.okWide Try.prog W .any base t v := hval0
  have hW' := hW
  obtain ⟨p, q, hA0, hV, rfl, hfz, hnd⟩ := hW
  have hA : DataW.TrodAll enc Try.prog W 0 (fun _ => true) true Try.f3.params.toList args.toList ds p := hA0
  rw [Try.params3] at hA hval
  obtain ⟨v0, vs0, d0, ds0, p0, q0, hargs, rfl, rfl, h0, r0⟩ := trodAll_cons hA
  obtain ⟨v1, vs1, d1, ds1, p1, q1, rfl, rfl, rfl, h1, r1⟩ := trodAll_cons r0
  obtain ⟨rfl, rfl, rfl⟩ := trodAll_nil r1
  obtain rfl : args = #[v0, v1] := by cases args; simp_all
  obtain ⟨rfl, rfl⟩ := trodVars_none hV
  have k0 := h0
  have lt0 : ∀ x ∈ p0, x.block < W.heap.size := by obtain ⟨m, hm⟩ := k0; exact DataW.trod_lt m _ _ _ hm
  have k1 := h1
  have lt1 : ∀ x ∈ p1, x.block < W.heap.size := by obtain ⟨m, hm⟩ := k1; exact DataW.trod_lt m _ _ _ hm
  obtain ⟨a0, len0, cap0, rfl⟩ := okWide_slice (show Try.prog.underlying 22 = some (.slice 9) by kernel_rfl) (hval 0 22 v0 rfl rfl)
  obtain ⟨q0, l0, c0, Z0, hv0, hcap0, hmax0, hS0⟩ : ∃ (pp : Option Addr) (n cap : Nat) (T : Nat → ByteArray), Value.slice a0 len0 cap0 = .slice pp n cap ∧ n ≤ cap ∧ n ≤ maxLen ∧ (0 < n → ∃ bb off, pp = some ⟨bb, off, none⟩ ∧ ∀ k, k < n → W.cell? ⟨bb, off + k, none⟩ = some (Value.string (T k))) := by
    obtain ⟨fuel, hf⟩ := h0
    exact open_texts hf
  obtain ⟨rfl, rfl, rfl⟩ : a0 = q0 ∧ len0 = l0 ∧ cap0 = c0 := by injection hv0 with h1 h2 h3; exact ⟨h1, h2, h3⟩
  obtain ⟨a1, len1, cap1, rfl⟩ := okWide_slice (show Try.prog.underlying 23 = some (.slice 3) by kernel_rfl) (hval 1 23 v1 rfl rfl)
  obtain ⟨q1, l1, c1, Z1, hv1, hcap1, hmax1, hS1⟩ : ∃ (pp : Option Addr) (n cap : Nat) (Z : Nat → Int), Value.slice a1 len1 cap1 = .slice pp n cap ∧ n ≤ cap ∧ n ≤ maxLen ∧ Lies W pp n (fun j => .int .i64 (Z j)) := by
    obtain ⟨fuel, hf⟩ := h1
    exact open_numbers hf
  obtain ⟨rfl, rfl, rfl⟩ : a1 = q1 ∧ len1 = l1 ∧ cap1 = c1 := by injection hv1 with h1 h2 h3; exact ⟨h1, h2, h3⟩
  clear hA0 hval0
  simp only [List.append_nil] at hW'
  refine (law_onums a0 len0 cap0 Z0 a1 len1 cap1 Z1 W W.heap.size rfl hS0 hS1).mono fun e W' ⟨he, bel⟩ => ?_
  subst he
  exact ⟨_, rfl, _, _, _, [], _, [], hW', trodAll_mk1 (shut_bool Try.underlying4 _), (trodAll_cons_mk (Below.trod laidOutP (by kernel_rfl) (of_decide_eq_true (by kernel_rfl)) k0 bel lt0) (trodAll_cons_mk (Below.trod laidOutP (by kernel_rfl) (of_decide_eq_true (by kernel_rfl)) k1 bel lt1) trodAll_mk0)), rfl, bel.frame _, fun h => by cases h⟩
theorem proved : Rows.ObjtabNumbersSaid :=
  OpenClaim.holds_of_wide 3 Try.f3 rfl rfl rfl rfl rfl rfl rfl ⟨rfl, rfl, rfl, rfl, rfl⟩ rfl rfl rfl rfl rfl (by kernel_rfl) Try.func3 (by kernel_rfl)
    (of_decide_eq_true (by kernel_rfl)) (by unfold Func.isWrapper; first | (rw [if_pos (by decide +kernel)]; kernel_rfl) | (rw [if_neg (by decide +kernel)]; exact ⟨rfl, rfl⟩))
    (fun os started H enc _ => lifted os started H enc)
#print axioms proved
end Go.Proofs.Ytkofhcjgobccoaa.onumsProof
