/- A map that is frozen has the same sum behind all calls, and each call that would change it is told EPERM, for all numbers of a map, all rows of calls ahead of the freezing and all behind it. Condition: two package-level tables hold what the text of the program lays in them (the digest's beginnings and constants). -/
import Derived.Test.YtjdclgnlnehjlaaDoorMgArgF
import Derived.Test.YtjdclgnlnehjlaaDoorTie
import Derived.Test.YtjdclgnlnehjlaaDoorCards
import Derived.SevenTiedAt
namespace Go.Proofs.YtjdclgnlnehjlaaDoor.bfrozenProof
open Go Go.ChangeShapes Go.WideShapes Go.ChangeAt Go.WideMaps Go.WideElems Go.RowKit
set_option maxRecDepth 100000 in
theorem lifted (os : Os) (started : os.Started) (H : Type) (enc : TypeId × Value → H) :
    ReturnsInHanded {} Tryd.checked os 3 .any (fun w args => (Rows.bmapFrozenSpec.pre enc Tryd.prog Tryd.f3 [] false w args ∧ laidMetH Tryd.prog laid2 w) ∧ sizedMet enc Tryd.prog Tryd.f3 (OpenSpec.ofChange Rows.bmapFrozenSpec) false w args)
      (Rows.bmapFrozenSpec.post enc Tryd.prog Tryd.f3 false true false false) := by
  refine returnsInHanded_of_change_and (C := Tryd.checked) (X := fun w _ => laidMetH Tryd.prog laid2 w) (fun _ _ _ hh h => h.of_heap hh) own started (by kernel_rfl) Tryd.func3
    (ChangeSpec.witness_shaped (enc := enc) (C := Tryd.checked) (os := os) (X := fun w _ => laidMetH Tryd.prog laid2 w) false (World.doorLaid Tryd.prog 400 os) #[.agg (cellsOf (sp4 0 0 0 0) 4), .slice none 0 0, .slice none 0 0] 8 rfl (World.shaped_of_RefB (by kernel_rfl) (by kernel_rfl)) (by kernel_rfl) (by kernel_rfl) (by kernel_rfl) (door_met os _)) ?_
  intro W base args ds gs before hval0 hW _ _ hL _
  have hval : ∀ (j : Nat) t v, Tryd.f3.params[j]? = some t → args[j]? = some v → Value.okWide Tryd.prog W .any base t v := hval0
  have hW' := hW
  obtain ⟨p, q, hA0, hV, rfl, hfz, hnd⟩ := hW
  have hA : DataW.TrodAll enc Tryd.prog W 0 (fun _ => true) true Tryd.f3.params.toList args.toList ds p := hA0
  rw [Tryd.params3] at hA hval
  obtain ⟨v0, v1, v2, d0, d1, d2, p0, p1, p2, rfl, rfl, rfl, h0, h1, h2⟩ := trodAll_three hA
  obtain ⟨rfl, rfl⟩ := trodVars_none hV
  have k0 := h0
  have lt0 : ∀ x ∈ p0, x.block < W.heap.size := by obtain ⟨m, hm⟩ := k0; exact DataW.trod_lt m _ _ _ hm
  have k1 := h1
  have lt1 : ∀ x ∈ p1, x.block < W.heap.size := by obtain ⟨m, hm⟩ := k1; exact DataW.trod_lt m _ _ _ hm
  have k2 := h2
  have lt2 : ∀ x ∈ p2, x.block < W.heap.size := by obtain ⟨m, hm⟩ := k2; exact DataW.trod_lt m _ _ _ hm
  obtain ⟨s0a, s0b, s0c, s0d, rfl⟩ := open_spec (hval 0 23 v0 rfl rfl) h0
  obtain ⟨a1, len1, cap1, rfl⟩ := okWide_slice undActs (hval 1 24 v1 rfl rfl)
  obtain ⟨q1, l1, c1, A1, hv1, hcap1, hmax1, hS1⟩ : ∃ (pp : Option Addr) (n cap : Nat) (A : Nat → Av), Value.slice a1 len1 cap1 = .slice pp n cap ∧ n ≤ cap ∧ n ≤ maxLen ∧ ActsAt W pp n A := by
    obtain ⟨fuel, hf⟩ := h1
    exact open_acts hf
  obtain ⟨rfl, rfl, rfl⟩ : a1 = q1 ∧ len1 = l1 ∧ cap1 = c1 := by injection hv1 with h1 h2 h3; exact ⟨h1, h2, h3⟩
  obtain ⟨a2, len2, cap2, rfl⟩ := okWide_slice undActs (hval 2 24 v2 rfl rfl)
  obtain ⟨q2, l2, c2, A2, hv2, hcap2, hmax2, hS2⟩ : ∃ (pp : Option Addr) (n cap : Nat) (A : Nat → Av), Value.slice a2 len2 cap2 = .slice pp n cap ∧ n ≤ cap ∧ n ≤ maxLen ∧ ActsAt W pp n A := by
    obtain ⟨fuel, hf⟩ := h2
    exact open_acts hf
  obtain ⟨rfl, rfl, rfl⟩ : a2 = q2 ∧ len2 = l2 ∧ cap2 = c2 := by injection hv2 with h1 h2 h3; exact ⟨h1, h2, h3⟩
  clear hA0 hval0
  refine (law_frozen s0a s0b s0c s0d a1 len1 cap1 A1 a2 len2 cap2 A2 W W.heap.size rfl (of_laid hL) hS1 hS2).mono fun e W' ⟨he, bel⟩ => ?_
  subst he
  exact ⟨_, rfl, _, _, _, [], _, [], hW', trodAll_mk1 (shut_bool Tryd.underlying4 _), (trodAll_cons_mk (Below.trod laidOut (by kernel_rfl) (of_decide_eq_true (by kernel_rfl)) k0 bel lt0) (trodAll_cons_mk (Below.trod laidOut (by kernel_rfl) (of_decide_eq_true (by kernel_rfl)) k1 bel lt1) (trodAll_cons_mk (Below.trod laidOut (by kernel_rfl) (of_decide_eq_true (by kernel_rfl)) k2 bel lt2) trodAll_mk0))), rfl, bel.frame _, fun h => by cases h⟩
theorem over : Rows.BmapFrozenSaid :=
  OpenClaim.holds_of_wide 3 Tryd.f3 rfl rfl rfl rfl rfl rfl rfl ⟨rfl, rfl, rfl, rfl, rfl⟩ rfl rfl rfl rfl rfl (by kernel_rfl) Tryd.func3 (by kernel_rfl)
    (of_decide_eq_true (by kernel_rfl)) (by unfold Func.isWrapper; first | (rw [if_pos (by decide +kernel)]; kernel_rfl) | (rw [if_neg (by decide +kernel)]; exact ⟨rfl, rfl⟩))
    (fun os started H enc _ => lifted os started H enc)
theorem proved : Rows.BmapFrozenCardSaid :=
  Claim7.holds_tied_plain_at .later [] [.data, .data] true Rows.bmapFrozenCard.stood.harness false
    over (fun _ h => by cases h) (by kernel_rfl) (fun _ h => by cases h) bmapFrozen_row_tie rfl ⟨rfl, rfl⟩ (by kernel_rfl) rfl
    (fun f fn hf hfn => by
      obtain rfl : f = 3 := Option.some.inj ((show Tryd.prog.funcNamed "tipstaff/tipstafflaw09.BmapFrozen" = some 3 by kernel_rfl).symm.trans hf) |>.symm
      obtain rfl : fn = Tryd.f3 := (Option.some.inj (Tryd.func3.symm.trans hfn)).symm
      exact ⟨by kernel_rfl, fun j t ht => by
        rw [Tryd.params3] at ht
        have hm : t ∈ [23, 24, 24] := by simpa using Array.mem_of_getElem? ht
        have hall : ([23, 24, 24].all fun u => !Tryd.prog.wantsStandIn u) = true := by kernel_rfl
        exact (show Tryd.prog.wantsStandIn t = false by simpa using List.all_eq_true.1 hall t hm)⟩)
    (by kernel_rfl)
#print axioms proved
end Go.Proofs.YtjdclgnlnehjlaaDoor.bfrozenProof
