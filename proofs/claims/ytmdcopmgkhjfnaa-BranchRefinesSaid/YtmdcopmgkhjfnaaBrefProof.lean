/- BranchRefines: of all ranges, numbers of them, comparisons, on any machine: no condition. -/
import Derived.Test.YtmdcopmgkhjfnaaBFlaw
import Derived.Test.YtmdcopmgkhjfnaaArgK15
import Derived.Test.YtmdcopmgkhjfnaaArgN
namespace Go.Proofs.Ytmdcopmgkhjfnaa.brefProof
open Go Go.ChangeShapes Go.WideShapes Go.ChangeAt Go.WideMaps Go.WideElems Go.RowKit
set_option maxRecDepth 100000 in
theorem lifted (os : Os) (started : os.Started) (H : Type) (enc : TypeId × Value → H) :
    ReturnsInHanded {} Try.checked os 10 .any (Rows.branchRefinesSpec.pre6 enc Try.prog Try.f10 Rows.branchRefinesRow.domain false) (Rows.branchRefinesSpec.post enc Try.prog Try.f10 false true false false) := by
  refine returnsInHanded_of_change (C := Try.checked) ownP started (by kernel_rfl) Try.func10
    (ChangeSpec.witness6 (enc := enc) (C := Try.checked) false ⟨#[], #[.agg (cellsOf (ceC zeroCe) 8)], []⟩ 8 (by kernel_rfl) (by kernel_rfl) (by kernel_rfl) (by kernel_rfl)) ?_
  intro W base args ds gs before hval0 hW hcnd _
  have hval : ∀ (j : Nat) t v, Try.f10.params[j]? = some t → args[j]? = some v → Value.okWide Try.prog W .any base t v := hval0
  have hW' := hW
  obtain ⟨p, q, hA0, hV, rfl, hfz, hnd⟩ := hW
  have hA : DataW.TrodAll enc Try.prog W 0 (fun _ => true) true Try.f10.params.toList args.toList ds p := hA0
  rw [Try.params10] at hA hval
  obtain ⟨v0, vs0, d0, ds0, p0, q0, hargs, rfl, rfl, h0, r0⟩ := trodAll_cons hA
  obtain ⟨rfl, rfl, rfl⟩ := trodAll_nil r0
  obtain rfl : args = #[v0] := by cases args; simp_all
  obtain ⟨rfl, rfl⟩ := trodVars_none hV
  have k0 := h0
  have lt0 : ∀ x ∈ p0, x.block < W.heap.size := by obtain ⟨m, hm⟩ := k0; exact DataW.trod_lt m _ _ _ hm
  obtain ⟨qp0, qn0, qc0, qp1, qn1, qc1, qz0, qz1, qu0, qu1, qop, ql, qZ0, qZ1, rfl, hqc0, hqc1, hqw0, hqw1⟩ := open_ce (hval 0 58 v0 rfl rfl) h0
  clear hA0 hval0
  simp only [List.append_nil] at hW'
  refine (law_bref qZ0 qZ1 qp0 qp1 qn0 qc0 qn1 qc1 qz0 qz1 qu0 qu1 qop ql W W.heap.size rfl hqc0 hqc1 hqw0 hqw1).mono fun e W' ⟨he, bel⟩ => ?_
  subst he
  exact ⟨_, rfl, _, _, _, [], _, [], hW', trodAll_mk1 (shut_bool Try.underlying4 _), (trodAll_cons_mk (Below.trod laidOutP (by kernel_rfl) (of_decide_eq_true (by kernel_rfl)) k0 bel lt0) trodAll_mk0), rfl, bel.frame _, fun h => by cases h⟩
theorem jn : Try.pinned.checked.prog.funcNamed Rows.branchRefinesRow.func = some 10 := by kernel_rfl
theorem j2 : laidOutB Try.pinned.checked.prog = true := by kernel_rfl
theorem j3 : mapsRowed Try.pinned.checked.prog = true := by kernel_rfl
theorem j9 : (Try.pinned.checked.prog.stops == []) = true := by kernel_rfl
theorem j9b : (Try.pinned.checked.prog.stopKnobs == []) = true := by kernel_rfl
theorem j10 : (Rows.branchRefinesRow.inPlace == Try.pinned.checked.prog.inPlace 10) = true := by kernel_rfl
theorem j11 : (Rows.branchRefinesRow.unfollowed == Try.pinned.checked.prog.unfollowed 10) = true := by kernel_rfl
theorem j12 : (Rows.branchRefinesRow.recurses == Try.pinned.checked.prog.recurses 10) = true := by kernel_rfl
theorem j13 : (Rows.branchRefinesRow.named == Try.pinned.checked.prog.varsNamed 10) = true := by kernel_rfl
theorem jc : joinedFacts Try.pinned.checked.prog 10 Try.f10 Rows.branchRefinesSpec Rows.branchRefinesRow = true := by
  unfold joinedFacts
  rw [j2, j3, j9, j9b, j10, j11, j12, j13]
  kernel_rfl
theorem ji : Try.f10.isInstance Try.pinned.checked.prog Rows.branchRefinesRow.origin Rows.branchRefinesRow.targs := of_decide_eq_true (by kernel_rfl)
theorem jw : Try.f10.isWrapper Try.pinned.checked.prog Rows.branchRefinesRow.wrapper Rows.branchRefinesRow.mainSum := by unfold Func.isWrapper; first | (rw [if_pos (by decide +kernel)]; kernel_rfl) | (rw [if_neg (by decide +kernel)]; exact ⟨rfl, rfl⟩)
theorem proved : Rows.BranchRefinesSaid :=
  OpenClaim.holds_of_wide 10 Try.f10 rfl rfl rfl rfl rfl rfl rfl ⟨rfl, rfl, rfl, rfl, rfl⟩ rfl rfl rfl rfl rfl jn Try.func10 jc ji jw
    (fun os started H enc _ => lifted os started H enc)
#print axioms proved
end Go.Proofs.Ytmdcopmgkhjfnaa.brefProof
