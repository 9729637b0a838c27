/- RegionStacks: of all rows of calls, on any machine: no condition. -/
import Derived.Test.YtjcjmlmdcjkceaaRs9
import Derived.Test.YtjcjmlmdcjkceaaArgS9
import Derived.Test.YtjcjmlmdcjkceaaArgN1
namespace Go.Proofs.Ytjcjmlmdcjkceaa.rstacksProof
open Go Go.ChangeShapes Go.WideShapes Go.ChangeAt Go.WideMaps Go.WideElems Go.RowKit
set_option maxRecDepth 100000 in
theorem lifted (os : Os) (started : os.Started) (H : Type) (enc : TypeId × Value → H) :
    ReturnsInHanded {} Try.checked os 3 .any (Rows.regionStacksSpec.pre6 enc Try.prog Try.f3 Rows.regionStacksRow.domain false) (Rows.regionStacksSpec.post enc Try.prog Try.f3 false true false false) := by
  refine returnsInHanded_of_change (C := Try.checked) ownP started (by kernel_rfl) Try.func3
    (ChangeSpec.witness6 (enc := enc) (C := Try.checked) false ⟨#[], #[.slice none 0 0], []⟩ 8 (by kernel_rfl) (by kernel_rfl) (by kernel_rfl) (by kernel_rfl)) ?_
  intro W base args ds gs before hval0 hW hcnd _
  have hval : ∀ (j : Nat) t v, Try.f3.params[j]? = some t → args[j]? = some v → Value.okWide Try.prog W .any base t v := hval0
  have hW' := hW
  obtain ⟨p, q, hA0, hV, rfl, hfz, hnd⟩ := hW
  have hA : DataW.TrodAll enc Try.prog W 0 (fun _ => true) true Try.f3.params.toList args.toList ds p := hA0
  rw [Try.params3] at hA hval
  obtain ⟨v0, vs0, d0, ds0, p0, q0, hargs, rfl, rfl, h0, r0⟩ := trodAll_cons hA
  obtain ⟨rfl, rfl, rfl⟩ := trodAll_nil r0
  obtain rfl : args = #[v0] := by cases args; simp_all
  obtain ⟨rfl, rfl⟩ := trodVars_none hV
  have k0 := h0
  have lt0 : ∀ x ∈ p0, x.block < W.heap.size := by obtain ⟨m, hm⟩ := k0; exact DataW.trod_lt m _ _ _ hm
  obtain ⟨a0, len0, cap0, rfl⟩ := okWide_slice undAcs (hval 0 22 v0 rfl rfl)
  obtain ⟨q0, l0, c0, Z0, hv0, hcap0, hmax0, hS0, hZ0⟩ : ∃ (pp : Option Addr) (n cap : Nat) (Z : Nat → AxR), Value.slice a0 len0 cap0 = .slice pp n cap ∧ n ≤ cap ∧ n ≤ maxLen ∧ RowA W pp n Z ∧ ∀ k, k < n → okX W (Z k) := by
    obtain ⟨fuel, hf⟩ := h0
    exact open_acs hf
  obtain ⟨rfl, rfl, rfl⟩ : a0 = q0 ∧ len0 = l0 ∧ cap0 = c0 := by injection hv0 with h1 h2 h3; exact ⟨h1, h2, h3⟩
  clear hA0 hval0
  simp only [List.append_nil] at hW'
  refine (law_rst a0 len0 cap0 Z0 W W.heap.size rfl hS0 hZ0).mono fun e W' ⟨he, bel⟩ => ?_
  subst he
  exact ⟨_, rfl, _, _, _, [], _, [], hW', trodAll_mk1 (shut_bool Try.underlying4 _), (trodAll_cons_mk (Below.trod laidOutP (by kernel_rfl) (of_decide_eq_true (by kernel_rfl)) k0 bel lt0) trodAll_mk0), rfl, bel.frame _, fun h => by cases h⟩
theorem jn : Try.pinned.checked.prog.funcNamed Rows.regionStacksRow.func = some 3 := by kernel_rfl
theorem j2 : laidOutB Try.pinned.checked.prog = true := by kernel_rfl
theorem j3 : mapsRowed Try.pinned.checked.prog = true := by kernel_rfl
theorem j9 : (Try.pinned.checked.prog.stops == []) = true := by kernel_rfl
theorem j9b : (Try.pinned.checked.prog.stopKnobs == []) = true := by kernel_rfl
theorem j10 : (Rows.regionStacksRow.inPlace == Try.pinned.checked.prog.inPlace 3) = true := by kernel_rfl
theorem j11 : (Rows.regionStacksRow.unfollowed == Try.pinned.checked.prog.unfollowed 3) = true := by kernel_rfl
theorem j12 : (Rows.regionStacksRow.recurses == Try.pinned.checked.prog.recurses 3) = true := by kernel_rfl
theorem j13 : (Rows.regionStacksRow.named == Try.pinned.checked.prog.varsNamed 3) = true := by kernel_rfl
theorem jc : joinedFacts Try.pinned.checked.prog 3 Try.f3 Rows.regionStacksSpec Rows.regionStacksRow = true := by
  unfold joinedFacts
  rw [j2, j3, j9, j9b, j10, j11, j12, j13]
  kernel_rfl
theorem ji : Try.f3.isInstance Try.pinned.checked.prog Rows.regionStacksRow.origin Rows.regionStacksRow.targs := of_decide_eq_true (by kernel_rfl)
theorem jw : Try.f3.isWrapper Try.pinned.checked.prog Rows.regionStacksRow.wrapper Rows.regionStacksRow.mainSum := by unfold Func.isWrapper; first | (rw [if_pos (by decide +kernel)]; kernel_rfl) | (rw [if_neg (by decide +kernel)]; exact ⟨rfl, rfl⟩)
theorem proved : Rows.RegionStacksSaid :=
  OpenClaim.holds_of_wide 3 Try.f3 rfl rfl rfl rfl rfl rfl rfl ⟨rfl, rfl, rfl, rfl, rfl⟩ rfl rfl rfl rfl rfl jn Try.func3 jc ji jw
    (fun os started H enc _ => lifted os started H enc)
#print axioms proved
end Go.Proofs.Ytjcjmlmdcjkceaa.rstacksProof
