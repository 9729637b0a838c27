/- Of namespaces within each other a token goes inward alone, and never back, and whatever its chain's ends are, its rights are within all of them, for every depth and every texts. Condition: seven package-level variables hold what the text of the program lays in them (the card ties that). -/
import Derived.Test.YtilhkgbninbkkaaDoorTv1
import Derived.Test.YtilhkgbninbkkaaDoorMgArgR
import Derived.Test.YtilhkgbninbkkaaDoorTie
import Derived.Test.YtilhkgbninbkkaaDoorCards
import Derived.SevenTiedAt
namespace Go.Proofs.YtilhkgbninbkkaaDoor.tvderivesProof
open Go Go.ChangeShapes Go.WideShapes Go.ChangeAt Go.WideMaps Go.WideElems Go.RowKit
set_option maxRecDepth 100000 in
theorem lifted (os : Os) (started : os.Started) (H : Type) (enc : TypeId × Value → H) :
    ReturnsInHanded {} Tryd.checked os 13 .any (fun w args => (Rows.tipstaffDerivesSpec.pre enc Tryd.prog Tryd.f13 [] false w args ∧ laidMetH Tryd.prog laid7 w) ∧ sizedMet enc Tryd.prog Tryd.f13 (OpenSpec.ofChange Rows.tipstaffDerivesSpec) false w args)
      (Rows.tipstaffDerivesSpec.post enc Tryd.prog Tryd.f13 false true false false) := by
  refine ret_and_shaped (C := Tryd.checked) (X := fun w _ => laidMetH Tryd.prog laid7 w) (fun _ _ _ hh h => h.of_heap hh) own started (by kernel_rfl) Tryd.func13
    (ChangeSpec.witness_shaped (enc := enc) (C := Tryd.checked) (os := os) (X := fun w _ => laidMetH Tryd.prog laid7 w) false (World.doorLaid Tryd.prog 400 os) #[.int .i64 0, .slice none 0 0] 8 rfl (World.shaped_of_RefB (by kernel_rfl) (by kernel_rfl)) (by kernel_rfl) (by kernel_rfl) (by kernel_rfl) (laid7_met os _)) ?_
  intro W base args ds gs before hval0 hW _ hwt hL hsh _
  have hval : ∀ (j : Nat) t v, Tryd.f13.params[j]? = some t → args[j]? = some v → Value.okWide Tryd.prog W .any base t v := hval0
  have hW' := hW
  obtain ⟨p, q, hA0, hV, rfl, hfz, hnd⟩ := hW
  have hA : DataW.TrodAll enc Tryd.prog W 0 (fun _ => true) true Tryd.f13.params.toList args.toList ds p := hA0
  rw [Tryd.params13] at hA hval
  obtain ⟨v0, v1, d0, d1, p0, p1, rfl, rfl, rfl, h0, h1⟩ := trodAll_two hA
  obtain ⟨rfl, rfl⟩ := trodVars_none hV
  have k0 := h0
  have lt0 : ∀ x ∈ p0, x.block < W.heap.size := by obtain ⟨m, hm⟩ := k0; exact DataW.trod_lt m _ _ _ hm
  have k1 := h1
  have lt1 : ∀ x ∈ p1, x.block < W.heap.size := by obtain ⟨m, hm⟩ := k1; exact DataW.trod_lt m _ _ _ hm
  obtain ⟨n0, rfl⟩ := okWide_int (show Tryd.prog.underlying 3 = some (.int .i64) by kernel_rfl) (hval 0 3 v0 rfl rfl)
  rw [Tryd.params13] at hwt
  simp only [List.cons_append, DataW.weightsEach, List.all_append, Bool.and_eq_true] at hwt
  obtain ⟨a1, len1, cap1, rfl⟩ := okWide_slice (show Tryd.prog.underlying 84 = some (.slice 9) by kernel_rfl) (hval 1 84 v1 rfl rfl)
  obtain ⟨q1, l1, c1, Z1, hv1, hcap1, hmax1, hS1, hZ1⟩ : ∃ (pp : Option Addr) (n cap : Nat) (T : Nat → ByteArray), Value.slice a1 len1 cap1 = .slice pp n cap ∧ n ≤ cap ∧ n ≤ maxLen ∧ Ats W pp n (fun k => .string (T k)) ∧ ∀ k, k < n → (T k).size ≤ 281474976710656 := by
    obtain ⟨fuel, hf⟩ := h1
    exact open_textsW hf (by first | exact hwt.2 | exact hwt.2.1)
  obtain ⟨rfl, rfl, rfl⟩ : a1 = q1 ∧ len1 = l1 ∧ cap1 = c1 := by injection hv1 with h1 h2 h3; exact ⟨h1, h2, h3⟩
  clear hA0 hval0
  refine (law_tvderives n0 a1 len1 cap1 Z1 W W.heap.size rfl (laid7_of hL hsh).1 (laid7_of hL hsh).2.1 (laid7_of hL hsh).2.2 hmax1 hS1 hZ1).mono fun e W' ⟨he, bel⟩ => ?_
  subst he
  exact ⟨_, rfl, _, _, _, [], _, [], hW', trodAll_mk1 (shut_bool Tryd.underlying4 _), (trodAll_cons_mk (Below.trod laidOut (by kernel_rfl) (of_decide_eq_true (by kernel_rfl)) k0 bel lt0) (trodAll_cons_mk (Below.trod laidOut (by kernel_rfl) (of_decide_eq_true (by kernel_rfl)) k1 bel lt1) trodAll_mk0)), rfl, bel.frame _, fun h => by cases h⟩
theorem over : Rows.TipstaffDerivesSaid :=
  OpenClaim.holds_of_wide 13 Tryd.f13 rfl rfl rfl rfl rfl rfl rfl ⟨rfl, rfl, rfl, rfl, rfl⟩ rfl rfl rfl rfl rfl (by kernel_rfl) Tryd.func13 (by kernel_rfl)
    (of_decide_eq_true (by kernel_rfl)) (by unfold Func.isWrapper; first | (rw [if_pos (by decide +kernel)]; kernel_rfl) | (rw [if_neg (by decide +kernel)]; exact ⟨rfl, rfl⟩))
    (fun os started H enc _ => lifted os started H enc)
theorem proved : Rows.TipstaffDerivesCardSaid :=
  Claim7.holds_tied_plain_at .later [] [.data, .data, .data, .data, .data, .sentinel, .sentinel] true Rows.tipstaffDerivesCard.stood.harness true
    over (fun _ h => by cases h) (by kernel_rfl) (fun _ h => by cases h) tipstaffDerives_row_tie rfl ⟨rfl, rfl⟩ (by kernel_rfl) rfl
    (fun f fn hf hfn => by
      obtain rfl : f = 13 := Option.some.inj ((show Tryd.prog.funcNamed "tipstaff/tipstafftop.TipstaffDerives" = some 13 by kernel_rfl).symm.trans hf) |>.symm
      obtain rfl : fn = Tryd.f13 := (Option.some.inj (Tryd.func13.symm.trans hfn)).symm
      exact ⟨by kernel_rfl, fun j t ht => by
        rw [Tryd.params13] at ht
        have hm : t ∈ [3, 84] := by simpa using Array.mem_of_getElem? ht
        have hall : ([3, 84].all fun u => !Tryd.prog.wantsStandIn u) = true := by kernel_rfl
        exact (show Tryd.prog.wantsStandIn t = false by simpa using List.all_eq_true.1 hall t hm)⟩)
    (by kernel_rfl)
#print axioms proved
end Go.Proofs.YtilhkgbninbkkaaDoor.tvderivesProof
