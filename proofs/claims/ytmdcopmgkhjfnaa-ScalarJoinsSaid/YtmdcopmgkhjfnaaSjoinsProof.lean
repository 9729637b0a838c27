/- ScalarJoins: of all ranges, numbers of them, counts of bytes, on any machine: no condition. -/
import Derived.Test.YtmdcopmgkhjfnaaSJlaw
import Derived.Test.YtmdcopmgkhjfnaaArgK14
import Derived.Test.YtmdcopmgkhjfnaaArgN
namespace Go.Proofs.Ytmdcopmgkhjfnaa.sjoinsProof
open Go Go.ChangeShapes Go.WideShapes Go.ChangeAt Go.WideMaps Go.WideElems Go.RowKit
set_option maxRecDepth 100000 in
theorem lifted (os : Os) (started : os.Started) (H : Type) (enc : TypeId × Value → H) :
    ReturnsInHanded {} Try.checked os 6 .any (Rows.scalarJoinsSpec.pre6 enc Try.prog Try.f6 Rows.scalarJoinsRow.domain false) (Rows.scalarJoinsSpec.post enc Try.prog Try.f6 false true false false) := by
  refine returnsInHanded_of_change (C := Try.checked) ownP started (by kernel_rfl) Try.func6
    (ChangeSpec.witness6 (enc := enc) (C := Try.checked) false ⟨#[], #[.agg (cellsOf (caC zeroCs) 6), .int .i64 0], []⟩ 8 (by kernel_rfl) (by kernel_rfl) (by kernel_rfl) (by kernel_rfl)) ?_
  intro W base args ds gs before hval0 hW hcnd _
  have hval : ∀ (j : Nat) t v, Try.f6.params[j]? = some t → args[j]? = some v → Value.okWide Try.prog W .any base t v := hval0
  have hW' := hW
  obtain ⟨p, q, hA0, hV, rfl, hfz, hnd⟩ := hW
  have hA : DataW.TrodAll enc Try.prog W 0 (fun _ => true) true Try.f6.params.toList args.toList ds p := hA0
  rw [Try.params6] at hA hval
  obtain ⟨v0, vs0, d0, ds0, p0, q0, hargs, rfl, rfl, h0, r0⟩ := trodAll_cons hA
  obtain ⟨v1, vs1, d1, ds1, p1, q1, rfl, rfl, rfl, h1, r1⟩ := trodAll_cons r0
  obtain ⟨rfl, rfl, rfl⟩ := trodAll_nil r1
  obtain rfl : args = #[v0, v1] := by cases args; simp_all
  obtain ⟨rfl, rfl⟩ := trodVars_none hV
  have k0 := h0
  have lt0 : ∀ x ∈ p0, x.block < W.heap.size := by obtain ⟨m, hm⟩ := k0; exact DataW.trod_lt m _ _ _ hm
  have k1 := h1
  have lt1 : ∀ x ∈ p1, x.block < W.heap.size := by obtain ⟨m, hm⟩ := k1; exact DataW.trod_lt m _ _ _ hm
  obtain ⟨qp0, qn0, qc0, qp1, qn1, qc1, qz0, qz1, qu0, qu1, qZ0, qZ1, rfl, hqc0, hqc1, hqw0, hqw1⟩ := open_cs (hval 0 30 v0 rfl rfl) h0
  obtain ⟨n1, rfl⟩ := okWide_int (show Try.prog.underlying 3 = some (.int .i64) by kernel_rfl) (hval 1 3 v1 rfl rfl)
  clear hA0 hval0
  simp only [List.append_nil] at hW'
  refine (law_sjoins qZ0 qZ1 qp0 qp1 qn0 qc0 qn1 qc1 qz0 qz1 qu0 qu1 n1 W W.heap.size rfl hqc0 hqc1 hqw0 hqw1).mono fun e W' ⟨he, bel⟩ => ?_
  subst he
  exact ⟨_, rfl, _, _, _, [], _, [], hW', trodAll_mk1 (shut_bool Try.underlying4 _), (trodAll_cons_mk (Below.trod laidOutP (by kernel_rfl) (of_decide_eq_true (by kernel_rfl)) k0 bel lt0) (trodAll_cons_mk (Below.trod laidOutP (by kernel_rfl) (of_decide_eq_true (by kernel_rfl)) k1 bel lt1) trodAll_mk0)), rfl, bel.frame _, fun h => by cases h⟩
theorem jn : Try.pinned.checked.prog.funcNamed Rows.scalarJoinsRow.func = some 6 := by kernel_rfl
theorem j2 : laidOutB Try.pinned.checked.prog = true := by kernel_rfl
theorem j3 : mapsRowed Try.pinned.checked.prog = true := by kernel_rfl
theorem j9 : (Try.pinned.checked.prog.stops == []) = true := by kernel_rfl
theorem j9b : (Try.pinned.checked.prog.stopKnobs == []) = true := by kernel_rfl
theorem j10 : (Rows.scalarJoinsRow.inPlace == Try.pinned.checked.prog.inPlace 6) = true := by kernel_rfl
theorem j11 : (Rows.scalarJoinsRow.unfollowed == Try.pinned.checked.prog.unfollowed 6) = true := by kernel_rfl
theorem j12 : (Rows.scalarJoinsRow.recurses == Try.pinned.checked.prog.recurses 6) = true := by kernel_rfl
theorem j13 : (Rows.scalarJoinsRow.named == Try.pinned.checked.prog.varsNamed 6) = true := by kernel_rfl
theorem jc : joinedFacts Try.pinned.checked.prog 6 Try.f6 Rows.scalarJoinsSpec Rows.scalarJoinsRow = true := by
  unfold joinedFacts
  rw [j2, j3, j9, j9b, j10, j11, j12, j13]
  kernel_rfl
theorem ji : Try.f6.isInstance Try.pinned.checked.prog Rows.scalarJoinsRow.origin Rows.scalarJoinsRow.targs := of_decide_eq_true (by kernel_rfl)
theorem jw : Try.f6.isWrapper Try.pinned.checked.prog Rows.scalarJoinsRow.wrapper Rows.scalarJoinsRow.mainSum := by unfold Func.isWrapper; first | (rw [if_pos (by decide +kernel)]; kernel_rfl) | (rw [if_neg (by decide +kernel)]; exact ⟨rfl, rfl⟩)
theorem proved : Rows.ScalarJoinsSaid :=
  OpenClaim.holds_of_wide 6 Try.f6 rfl rfl rfl rfl rfl rfl rfl ⟨rfl, rfl, rfl, rfl, rfl⟩ rfl rfl rfl rfl rfl jn Try.func6 jc ji jw
    (fun os started H enc _ => lifted os started H enc)
#print axioms proved
end Go.Proofs.Ytmdcopmgkhjfnaa.sjoinsProof
