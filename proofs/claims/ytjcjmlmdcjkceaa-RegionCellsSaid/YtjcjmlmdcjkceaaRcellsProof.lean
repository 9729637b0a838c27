/- RegionCells: of all bytes, places and sizes, on any machine: no condition. -/
import Derived.Test.YtjcjmlmdcjkceaaRcw
import Derived.Test.YtjcjmlmdcjkceaaMgArgC9
namespace Go.Proofs.Ytjcjmlmdcjkceaa.rcellsProof
open Go Go.ChangeShapes Go.WideShapes Go.ChangeAt Go.WideMaps Go.WideElems Go.RowKit
set_option maxRecDepth 100000 in
theorem lifted (os : Os) (started : os.Started) (H : Type) (enc : TypeId × Value → H) :
    ReturnsInHanded {} Try.checked os 4 .any (Rows.regionCellsSpec.pre6 enc Try.prog Try.f4 Rows.regionCellsRow.domain false) (Rows.regionCellsSpec.post enc Try.prog Try.f4 false true false false) := by
  refine returnsInHanded_of_change (C := Try.checked) ownP started (by kernel_rfl) Try.func4
    (ChangeSpec.witness6 (enc := enc) (C := Try.checked) false ⟨#[], #[.slice none 0 0, .agg #[.int .i64 0, .int .i64 0], .int .i64 0], []⟩ 8 (by kernel_rfl) (by kernel_rfl) (by kernel_rfl) (by kernel_rfl)) ?_
  intro W base args ds gs before hval0 hW hcnd _
  have hval : ∀ (j : Nat) t v, Try.f4.params[j]? = some t → args[j]? = some v → Value.okWide Try.prog W .any base t v := hval0
  have hW' := hW
  obtain ⟨p, q, hA0, hV, rfl, hfz, hnd⟩ := hW
  have hA : DataW.TrodAll enc Try.prog W 0 (fun _ => true) true Try.f4.params.toList args.toList ds p := hA0
  rw [Try.params4] at hA hval
  obtain ⟨v0, vs0, d0, ds0, p0, q0, hargs, rfl, rfl, h0, r0⟩ := trodAll_cons hA
  obtain ⟨v1, vs1, d1, ds1, p1, q1, rfl, rfl, rfl, h1, r1⟩ := trodAll_cons r0
  obtain ⟨v2, vs2, d2, ds2, p2, q2, rfl, rfl, rfl, h2, r2⟩ := trodAll_cons r1
  obtain ⟨rfl, rfl, rfl⟩ := trodAll_nil r2
  obtain rfl : args = #[v0, v1, v2] := by cases args; simp_all
  obtain ⟨rfl, rfl⟩ := trodVars_none hV
  have k0 := h0
  have lt0 : ∀ x ∈ p0, x.block < W.heap.size := by obtain ⟨m, hm⟩ := k0; exact DataW.trod_lt m _ _ _ hm
  have k1 := h1
  have lt1 : ∀ x ∈ p1, x.block < W.heap.size := by obtain ⟨m, hm⟩ := k1; exact DataW.trod_lt m _ _ _ hm
  have k2 := h2
  have lt2 : ∀ x ∈ p2, x.block < W.heap.size := by obtain ⟨m, hm⟩ := k2; exact DataW.trod_lt m _ _ _ hm
  obtain ⟨a0, len0, cap0, rfl⟩ := okWide_slice undBB (hval 0 32 v0 rfl rfl)
  obtain ⟨q0, l0, c0, D0, hv0, hcap0, hmax0, hS0⟩ : ∃ (pp : Option Addr) (n cap : Nat) (D : Nat → BitVec 8), Value.slice a0 len0 cap0 = .slice pp n cap ∧ n ≤ cap ∧ n ≤ maxLen ∧ Ats W pp n (fun j => By (D j)) := by
    obtain ⟨fuel, hf⟩ := h0
    exact open_bytes hf
  obtain ⟨rfl, rfl, rfl⟩ : a0 = q0 ∧ len0 = l0 ∧ cap0 = c0 := by injection hv0 with h1 h2 h3; exact ⟨h1, h2, h3⟩
  obtain ⟨s1, rfl⟩ := open_larr_agg (show Try.prog.underlying 59 = some (.array 2 2) by kernel_rfl) (by kernel_rfl) (hval 1 59 v1 rfl rfl) h1
  obtain ⟨n2, rfl⟩ := okWide_int (show Try.prog.underlying 3 = some (.int .i64) by kernel_rfl) (hval 2 3 v2 rfl rfl)
  clear hA0 hval0
  simp only [List.append_nil] at hW'
  refine (law_rcells a0 len0 cap0 D0 s1 n2 W W.heap.size rfl hcap0 hS0).mono fun e W' ⟨he, bel⟩ => ?_
  subst he
  exact ⟨_, rfl, _, _, _, [], _, [], hW', trodAll_mk1 (shut_bool Try.underlying4 _), (trodAll_cons_mk (Below.trod laidOutP (by kernel_rfl) (of_decide_eq_true (by kernel_rfl)) k0 bel lt0) (trodAll_cons_mk (Below.trod laidOutP (by kernel_rfl) (of_decide_eq_true (by kernel_rfl)) k1 bel lt1) (trodAll_cons_mk (Below.trod laidOutP (by kernel_rfl) (of_decide_eq_true (by kernel_rfl)) k2 bel lt2) trodAll_mk0))), rfl, bel.frame _, fun h => by cases h⟩
theorem jn : Try.pinned.checked.prog.funcNamed Rows.regionCellsRow.func = some 4 := by kernel_rfl
theorem j2 : laidOutB Try.pinned.checked.prog = true := by kernel_rfl
theorem j3 : mapsRowed Try.pinned.checked.prog = true := by kernel_rfl
theorem j9 : (Try.pinned.checked.prog.stops == []) = true := by kernel_rfl
theorem j9b : (Try.pinned.checked.prog.stopKnobs == []) = true := by kernel_rfl
theorem j10 : (Rows.regionCellsRow.inPlace == Try.pinned.checked.prog.inPlace 4) = true := by kernel_rfl
theorem j11 : (Rows.regionCellsRow.unfollowed == Try.pinned.checked.prog.unfollowed 4) = true := by kernel_rfl
theorem j12 : (Rows.regionCellsRow.recurses == Try.pinned.checked.prog.recurses 4) = true := by kernel_rfl
theorem j13 : (Rows.regionCellsRow.named == Try.pinned.checked.prog.varsNamed 4) = true := by kernel_rfl
theorem jc : joinedFacts Try.pinned.checked.prog 4 Try.f4 Rows.regionCellsSpec Rows.regionCellsRow = true := by
  unfold joinedFacts
  rw [j2, j3, j9, j9b, j10, j11, j12, j13]
  kernel_rfl
theorem ji : Try.f4.isInstance Try.pinned.checked.prog Rows.regionCellsRow.origin Rows.regionCellsRow.targs := of_decide_eq_true (by kernel_rfl)
theorem jw : Try.f4.isWrapper Try.pinned.checked.prog Rows.regionCellsRow.wrapper Rows.regionCellsRow.mainSum := by unfold Func.isWrapper; first | (rw [if_pos (by decide +kernel)]; kernel_rfl) | (rw [if_neg (by decide +kernel)]; exact ⟨rfl, rfl⟩)
theorem proved : Rows.RegionCellsSaid :=
  OpenClaim.holds_of_wide 4 Try.f4 rfl rfl rfl rfl rfl rfl rfl ⟨rfl, rfl, rfl, rfl, rfl⟩ rfl rfl rfl rfl rfl jn Try.func4 jc ji jw
    (fun os started H enc _ => lifted os started H enc)
#print axioms proved
end Go.Proofs.Ytjcjmlmdcjkceaa.rcellsProof
