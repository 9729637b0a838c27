/- ScalarDoes: of all ranges, numbers of them, operations, on any machine: no condition. -/
import Derived.Test.YtmdcopmgkhjfnaaSDlaw
import Derived.Test.YtmdcopmgkhjfnaaArgK14
import Derived.Test.YtmdcopmgkhjfnaaArgN
namespace Go.Proofs.Ytmdcopmgkhjfnaa.sdoesProof
open Go Go.ChangeShapes Go.WideShapes Go.ChangeAt Go.WideMaps Go.WideElems Go.RowKit
set_option maxRecDepth 100000 in
theorem lifted (os : Os) (started : os.Started) (H : Type) (enc : TypeId × Value → H) :
    ReturnsInHanded {} Try.checked os 4 .any (Rows.scalarDoesSpec.pre6 enc Try.prog Try.f4 Rows.scalarDoesRow.domain false) (Rows.scalarDoesSpec.post enc Try.prog Try.f4 false true false false) := by
  refine returnsInHanded_of_change (C := Try.checked) ownP started (by kernel_rfl) Try.func4
    (ChangeSpec.witness6 (enc := enc) (C := Try.checked) false ⟨#[], #[.agg (cellsOf (caC zeroCs) 6), .int .i64 0, .bool false], []⟩ 8 (by kernel_rfl) (by kernel_rfl) (by kernel_rfl) (by kernel_rfl)) ?_
  intro W base args ds gs before hval0 hW hcnd _
  have hval : ∀ (j : Nat) t v, Try.f4.params[j]? = some t → args[j]? = some v → Value.okWide Try.prog W .any base t v := hval0
  have hW' := hW
  obtain ⟨p, q, hA0, hV, rfl, hfz, hnd⟩ := hW
  have hA : DataW.TrodAll enc Try.prog W 0 (fun _ => true) true Try.f4.params.toList args.toList ds p := hA0
  rw [Try.params4] at hA hval
  obtain ⟨v0, vs0, d0, ds0, p0, q0, hargs, rfl, rfl, h0, r0⟩ := trodAll_cons hA
  obtain ⟨v1, vs1, d1, ds1, p1, q1, rfl, rfl, rfl, h1, r1⟩ := trodAll_cons r0
  obtain ⟨v2, vs2, d2, ds2, p2, q2, rfl, rfl, rfl, h2, r2⟩ := trodAll_cons r1
  obtain ⟨rfl, rfl, rfl⟩ := trodAll_nil r2
  obtain rfl : args = #[v0, v1, v2] := by cases args; simp_all
  obtain ⟨rfl, rfl⟩ := trodVars_none hV
  have k0 := h0
  have lt0 : ∀ x ∈ p0, x.block < W.heap.size := by obtain ⟨m, hm⟩ := k0; exact DataW.trod_lt m _ _ _ hm
  have k1 := h1
  have lt1 : ∀ x ∈ p1, x.block < W.heap.size := by obtain ⟨m, hm⟩ := k1; exact DataW.trod_lt m _ _ _ hm
  have k2 := h2
  have lt2 : ∀ x ∈ p2, x.block < W.heap.size := by obtain ⟨m, hm⟩ := k2; exact DataW.trod_lt m _ _ _ hm
  obtain ⟨qp0, qn0, qc0, qp1, qn1, qc1, qz0, qz1, qu0, qu1, qZ0, qZ1, rfl, hqc0, hqc1, hqw0, hqw1⟩ := open_cs (hval 0 30 v0 rfl rfl) h0
  obtain ⟨n1, rfl⟩ := okWide_int (show Try.prog.underlying 3 = some (.int .i64) by kernel_rfl) (hval 1 3 v1 rfl rfl)
  obtain ⟨b2, rfl⟩ := okWide_bool (show Try.prog.underlying 4 = some .bool by kernel_rfl) (hval 2 4 v2 rfl rfl)
  clear hA0 hval0
  simp only [List.append_nil] at hW'
  refine (law_sdoes qZ0 qZ1 qp0 qp1 qn0 qc0 qn1 qc1 qz0 qz1 qu0 qu1 n1 b2 W W.heap.size rfl hqc0 hqc1 hqw0 hqw1).mono fun e W' ⟨he, bel⟩ => ?_
  subst he
  exact ⟨_, rfl, _, _, _, [], _, [], hW', trodAll_mk1 (shut_bool Try.underlying4 _), (trodAll_cons_mk (Below.trod laidOutP (by kernel_rfl) (of_decide_eq_true (by kernel_rfl)) k0 bel lt0) (trodAll_cons_mk (Below.trod laidOutP (by kernel_rfl) (of_decide_eq_true (by kernel_rfl)) k1 bel lt1) (trodAll_cons_mk (Below.trod laidOutP (by kernel_rfl) (of_decide_eq_true (by kernel_rfl)) k2 bel lt2) trodAll_mk0))), rfl, bel.frame _, fun h => by cases h⟩
theorem jn : Try.pinned.checked.prog.funcNamed Rows.scalarDoesRow.func = some 4 := by kernel_rfl
theorem j2 : laidOutB Try.pinned.checked.prog = true := by kernel_rfl
theorem j3 : mapsRowed Try.pinned.checked.prog = true := by kernel_rfl
theorem j9 : (Try.pinned.checked.prog.stops == []) = true := by kernel_rfl
theorem j9b : (Try.pinned.checked.prog.stopKnobs == []) = true := by kernel_rfl
theorem j10 : (Rows.scalarDoesRow.inPlace == Try.pinned.checked.prog.inPlace 4) = true := by kernel_rfl
theorem j11 : (Rows.scalarDoesRow.unfollowed == Try.pinned.checked.prog.unfollowed 4) = true := by kernel_rfl
theorem j12 : (Rows.scalarDoesRow.recurses == Try.pinned.checked.prog.recurses 4) = true := by kernel_rfl
theorem j13 : (Rows.scalarDoesRow.named == Try.pinned.checked.prog.varsNamed 4) = true := by kernel_rfl
theorem jc : joinedFacts Try.pinned.checked.prog 4 Try.f4 Rows.scalarDoesSpec Rows.scalarDoesRow = true := by
  unfold joinedFacts
  rw [j2, j3, j9, j9b, j10, j11, j12, j13]
  kernel_rfl
theorem ji : Try.f4.isInstance Try.pinned.checked.prog Rows.scalarDoesRow.origin Rows.scalarDoesRow.targs := of_decide_eq_true (by kernel_rfl)
theorem jw : Try.f4.isWrapper Try.pinned.checked.prog Rows.scalarDoesRow.wrapper Rows.scalarDoesRow.mainSum := by unfold Func.isWrapper; first | (rw [if_pos (by decide +kernel)]; kernel_rfl) | (rw [if_neg (by decide +kernel)]; exact ⟨rfl, rfl⟩)
theorem proved : Rows.ScalarDoesSaid :=
  OpenClaim.holds_of_wide 4 Try.f4 rfl rfl rfl rfl rfl rfl rfl ⟨rfl, rfl, rfl, rfl, rfl⟩ rfl rfl rfl rfl rfl jn Try.func4 jc ji jw
    (fun os started H enc _ => lifted os started H enc)
#print axioms proved
end Go.Proofs.Ytmdcopmgkhjfnaa.sdoesProof
