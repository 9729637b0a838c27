/- AbsregChains: of all pairs of registers, on any machine: no condition. -/
import Derived.Test.YtaeggclcjpcnoaaAcl
import Derived.Test.YtaeggclcjpcnoaaArgP17
import Derived.Test.YtaeggclcjpcnoaaArgN
namespace Go.Proofs.Ytaeggclcjpcnoaa.achainsProof
open Go Go.ChangeShapes Go.WideShapes Go.ChangeAt Go.WideMaps Go.WideElems Go.RowKit
set_option maxRecDepth 100000 in
theorem lifted (os : Os) (started : os.Started) (H : Type) (enc : TypeId × Value → H) :
    ReturnsInHanded {} Try.checked os 17 .any (Rows.absregChainsSpec.pre6 enc Try.prog Try.f17 Rows.absregChainsRow.domain false) (Rows.absregChainsSpec.post enc Try.prog Try.f17 false true false false) := by
  refine returnsInHanded_of_change (C := Try.checked) ownP started (by kernel_rfl) Try.func17
    (ChangeSpec.witness6 (enc := enc) (C := Try.checked) false ⟨#[], #[.agg (cellsOf (prC ⟨zeroA, zeroA, fun _ => 0#64, fun _ => 0#64⟩) 26), .agg (cellsOf (prC ⟨zeroA, zeroA, fun _ => 0#64, fun _ => 0#64⟩) 26)], []⟩ 8 (by kernel_rfl) (by kernel_rfl) (by kernel_rfl) (by kernel_rfl)) ?_
  intro W base args ds gs before hval0 hW hcnd _
  have hval : ∀ (j : Nat) t v, Try.f17.params[j]? = some t → args[j]? = some v → Value.okWide Try.prog W .any base t v := hval0
  have hW' := hW
  obtain ⟨p, q, hA0, hV, rfl, hfz, hnd⟩ := hW
  have hA : DataW.TrodAll enc Try.prog W 0 (fun _ => true) true Try.f17.params.toList args.toList ds p := hA0
  rw [Try.params17] at hA hval
  obtain ⟨v0, vs0, d0, ds0, p0, q0, hargs, rfl, rfl, h0, r0⟩ := trodAll_cons hA
  obtain ⟨v1, vs1, d1, ds1, p1, q1, rfl, rfl, rfl, h1, r1⟩ := trodAll_cons r0
  obtain ⟨rfl, rfl, rfl⟩ := trodAll_nil r1
  obtain rfl : args = #[v0, v1] := by cases args; simp_all
  obtain ⟨rfl, rfl⟩ := trodVars_none hV
  have k0 := h0
  have lt0 : ∀ x ∈ p0, x.block < W.heap.size := by obtain ⟨m, hm⟩ := k0; exact DataW.trod_lt m _ _ _ hm
  have k1 := h1
  have lt1 : ∀ x ∈ p1, x.block < W.heap.size := by obtain ⟨m, hm⟩ := k1; exact DataW.trod_lt m _ _ _ hm
  obtain ⟨r0q, rfl⟩ := open_pr (hval 0 93 v0 rfl rfl) h0
  obtain ⟨r1q, rfl⟩ := open_pr (hval 1 93 v1 rfl rfl) h1
  clear hA0 hval0
  simp only [List.append_nil] at hW'
  refine (law_achains r0q r1q W W.heap.size rfl).mono fun e W' ⟨he, bel⟩ => ?_
  subst he
  exact ⟨_, rfl, _, _, _, [], _, [], hW', trodAll_mk1 (shut_bool Try.underlying4 _), (trodAll_cons_mk (Below.trod laidOutP (by kernel_rfl) (of_decide_eq_true (by kernel_rfl)) k0 bel lt0) (trodAll_cons_mk (Below.trod laidOutP (by kernel_rfl) (of_decide_eq_true (by kernel_rfl)) k1 bel lt1) trodAll_mk0)), rfl, bel.frame _, fun h => by cases h⟩
theorem jn : Try.pinned.checked.prog.funcNamed Rows.absregChainsRow.func = some 17 := by kernel_rfl
theorem j2 : laidOutB Try.pinned.checked.prog = true := by kernel_rfl
theorem j3 : mapsRowed Try.pinned.checked.prog = true := by kernel_rfl
theorem j9 : (Try.pinned.checked.prog.stops == []) = true := by kernel_rfl
theorem j9b : (Try.pinned.checked.prog.stopKnobs == []) = true := by kernel_rfl
theorem j10 : (Rows.absregChainsRow.inPlace == Try.pinned.checked.prog.inPlace 17) = true := by kernel_rfl
theorem j11 : (Rows.absregChainsRow.unfollowed == Try.pinned.checked.prog.unfollowed 17) = true := by kernel_rfl
theorem j12 : (Rows.absregChainsRow.recurses == Try.pinned.checked.prog.recurses 17) = true := by kernel_rfl
theorem j13 : (Rows.absregChainsRow.named == Try.pinned.checked.prog.varsNamed 17) = true := by kernel_rfl
theorem jc : joinedFacts Try.pinned.checked.prog 17 Try.f17 Rows.absregChainsSpec Rows.absregChainsRow = true := by
  unfold joinedFacts
  rw [j2, j3, j9, j9b, j10, j11, j12, j13]
  kernel_rfl
theorem ji : Try.f17.isInstance Try.pinned.checked.prog Rows.absregChainsRow.origin Rows.absregChainsRow.targs := of_decide_eq_true (by kernel_rfl)
theorem jw : Try.f17.isWrapper Try.pinned.checked.prog Rows.absregChainsRow.wrapper Rows.absregChainsRow.mainSum := by unfold Func.isWrapper; first | (rw [if_pos (by decide +kernel)]; kernel_rfl) | (rw [if_neg (by decide +kernel)]; exact ⟨rfl, rfl⟩)
theorem proved : Rows.AbsregChainsSaid :=
  OpenClaim.holds_of_wide 17 Try.f17 rfl rfl rfl rfl rfl rfl rfl ⟨rfl, rfl, rfl, rfl, rfl⟩ rfl rfl rfl rfl rfl jn Try.func17 jc ji jw
    (fun os started H enc _ => lifted os started H enc)
#print axioms proved
end Go.Proofs.Ytaeggclcjpcnoaa.achainsProof
