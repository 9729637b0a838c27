/- RegistryActs: of every row of calls, of which the first twelve are made, the program's registry and the document's tell the same at each call. Condition: the two package-level tables begin as the program's text lays them (the card ties them to it). -/
import Derived.Test.YtcampjgemedhlaaDoorArr
import Derived.Test.YtcampjgemedhlaaDoorLaw15
import Derived.Deep.Strs
import Derived.Test.YtcampjgemedhlaaDoorArgs
import Derived.Test.YtcampjgemedhlaaDoorTie
import Derived.Test.YtcampjgemedhlaaDoorCards
import Derived.SevenTiedAt
namespace Go.Proofs.YtcampjgemedhlaaDoor
open Go Go.ChangeShapes Go.WideShapes Go.ChangeAt Go.WideMaps Go.WideElems Go.RowKit Sha
def actRFs : TypeDesc → Bool
  | .struct fs => fs.toList.map (fun f => (f.type, f.offset)) == [(3, 0), (3, 1), (23, 2), (23, 34), (3, 66)]
  | _ => false
set_option maxRecDepth 100000 in
theorem undActR : ∃ f0 f1 f2 f3 f4 : Field, Tryd.prog.underlying 70 = some (.struct #[f0, f1, f2, f3, f4]) ∧ (f0.type = 3 ∧ f0.offset = 0) ∧ (f1.type = 3 ∧ f1.offset = 1) ∧ (f2.type = 23 ∧ f2.offset = 2) ∧ (f3.type = 23 ∧ f3.offset = 34) ∧ (f4.type = 3 ∧ f4.offset = 66) := by
  have h : (Tryd.prog.underlying 70).map actRFs = some true := by kernel_rfl
  cases e : Tryd.prog.underlying 70 with
  | none => rw [e] at h; cases h
  | some d =>
    rw [e] at h
    cases d with
    | struct fs =>
      obtain ⟨l⟩ := fs
      simp only [Option.map_some, Option.some.injEq, actRFs, beq_iff_eq] at h
      match l, h with
      | [f0, f1, f2, f3, f4], h =>
        simp only [List.map_cons, List.map_nil, List.cons.injEq, Prod.mk.injEq, and_true] at h
        obtain ⟨h0, h1, h2, h3, h4⟩ := h
        exact ⟨f0, f1, f2, f3, f4, rfl, h0, h1, h2, h3, h4⟩
    | _ => simp [actRFs] at h
theorem cofActR : Tryd.prog.cellsOf 70 = 67 := by kernel_rfl
theorem cofIntR : Tryd.prog.cellsOf 3 = 1 := by kernel_rfl
theorem cof23R : Tryd.prog.cellsOf 23 = 32 := by kernel_rfl
theorem undIntR : Tryd.prog.underlying 3 = some (.int .i64) := by kernel_rfl
theorem at_oneR {cs : List Value} {k : Nat} {v : Value} (h : (cs.drop k).take 1 = [v]) : cs[k]? = some v := by
  have := congrArg (fun l => l[0]?) h
  simpa using this
theorem at_rowR {cs : List Value} {k : Nat} {D : Nat → BitVec 8} (h : (cs.drop k).take 32 = (List.range 32).map (fun j => By (D j))) (j : Nat) (h1 : k ≤ j) (h2 : j < k + 32) : cs[j]? = some (By (D (j - k))) := by
  have := congrArg (fun l => l[j - k]?) h
  simp only [List.getElem?_take, List.getElem?_drop, List.getElem?_map] at this
  rw [if_pos (by omega), show k + (j - k) = j from by omega, List.getElem?_range (by omega)] at this
  exact this
section
variable {H : Type} {enc : TypeId × Value → H} {w : World} {base : Nat} {sp : Nat → Bool} {held : Bool}
theorem trod_struct5R {t : TypeId} {f0 f1 f2 f3 f4 : Field} {fuel : Nat} {cs : List Value} {x : DataW H × List MemPlace} (ht : Tryd.prog.underlying t = some (.struct #[f0, f1, f2, f3, f4])) (h : DataW.trod enc Tryd.prog w base sp held fuel t cs = some x) :
    ∃ y0 y1 y2 y3 y4 n, DataW.trod enc Tryd.prog w base sp held n f0.type ((cs.drop f0.offset).take (Tryd.prog.cellsOf f0.type)) = some y0 ∧
      DataW.trod enc Tryd.prog w base sp held n f1.type ((cs.drop f1.offset).take (Tryd.prog.cellsOf f1.type)) = some y1 ∧ DataW.trod enc Tryd.prog w base sp held n f2.type ((cs.drop f2.offset).take (Tryd.prog.cellsOf f2.type)) = some y2 ∧
      DataW.trod enc Tryd.prog w base sp held n f3.type ((cs.drop f3.offset).take (Tryd.prog.cellsOf f3.type)) = some y3 ∧ DataW.trod enc Tryd.prog w base sp held n f4.type ((cs.drop f4.offset).take (Tryd.prog.cellsOf f4.type)) = some y4 := by
  obtain ⟨xs, n, _, _, _, hlen, hf⟩ := DataW.trod_struct ht h
  match xs, hlen with
  | [y0, y1, y2, y3, y4], _ => exact ⟨y0, y1, y2, y3, y4, n, by simpa using hf 0 f0 rfl, by simpa using hf 1 f1 rfl, by simpa using hf 2 f2 rfl, by simpa using hf 3 f3 rfl, by simpa using hf 4 f4 rfl⟩
set_option maxRecDepth 100000 in
theorem open_actsR {fuel : Nat} {v : Value} {x : DataW H × List MemPlace} (h : DataW.trod enc Tryd.prog w base sp held fuel 55 [v] = some x) :
    ∃ (q : Option Addr) (n cap : Nat) (A : Nat → ActA), v = .slice q n cap ∧ n ≤ cap ∧ n ≤ maxLen ∧ (0 < n → ∃ bb off, q = some ⟨bb, off, none⟩ ∧ ∀ k, k < n → ∀ j, j < 67 → w.cell? ⟨bb, off + k * 67 + j, none⟩ = some (actC (A k) j)) := by
  obtain ⟨f0, f1, f2, f3, f4, hu, ⟨t0, o0⟩, ⟨t1, o1⟩, ⟨t2, o2⟩, ⟨t3, o3⟩, ⟨t4, o4⟩⟩ := undActR
  rcases Deep.open_slice (show Tryd.prog.underlying 55 = some (.slice 70) by kernel_rfl) h with ⟨hcs, _⟩ | ⟨a, l, c, m, k, D, Pl, hcs, _, hl, hm, hmm, _, hel⟩
  · exact ⟨none, 0, 0, fun _ => ⟨0, 0, fun _ => 0, fun _ => 0, 0⟩, by simpa using hcs, Nat.le_refl _, Nat.zero_le _, fun h0 => by omega⟩
  · have hlm : l ≤ m := by rw [hmm]; split <;> omega
    have hall : ∀ i : Nat, ∃ A : ActA, i < l → ∀ j, j < 67 → w.cell? (a.add (i * 67 + j)) = some (actC A j) := fun i => by
      by_cases hi : i < l
      · obtain ⟨cs', h1, h2⟩ := hel i (by omega)
        rw [cofActR] at h1
        obtain ⟨_, hlen, hat⟩ := World.cells?_some h1
        obtain ⟨y0, y1, y2, y3, y4, n, e0, e1, e2, e3, e4⟩ := trod_struct5R hu h2
        rw [t0, o0, cofIntR] at e0
        rw [t1, o1, cofIntR] at e1
        rw [t2, o2, cof23R] at e2
        rw [t3, o3, cof23R] at e3
        rw [t4, o4, cofIntR] at e4
        obtain ⟨z0, r0, _, _⟩ := DataW.trod_int undIntR e0
        obtain ⟨z1, r1, _, _⟩ := DataW.trod_int undIntR e1
        obtain ⟨K, r2⟩ := open_arr und23 cof23R e2
        obtain ⟨S, r3⟩ := open_arr und23 cof23R e3
        obtain ⟨z4, r4, _, _⟩ := DataW.trod_int undIntR e4
        refine ⟨⟨z0, z1, K, S, z4⟩, fun _ j hj => ?_⟩
        rw [← Go.Deep.add_add, hat j hj]
        unfold actC
        by_cases c0 : j = 0
        · subst c0; rw [if_pos rfl]; exact at_oneR r0
        · rw [if_neg c0]
          by_cases c1 : j = 1
          · subst c1; rw [if_pos rfl]; exact at_oneR r1
          · rw [if_neg c1]
            by_cases c2 : j < 34
            · rw [if_pos c2]; exact at_rowR r2 j (by omega) (by omega)
            · rw [if_neg c2]
              by_cases c3 : j < 66
              · rw [if_pos c3]; exact at_rowR r3 j (by omega) (by omega)
              · rw [if_neg c3]
                obtain rfl : j = 66 := by omega
                exact at_oneR r4
      · exact ⟨⟨0, 0, fun _ => 0, fun _ => 0, 0⟩, fun h => absurd h hi⟩
    obtain ⟨A, hA⟩ := Classical.axiomOfChoice hall
    refine ⟨some a, l, c, A, by simpa using hcs, hl, by omega, fun h0 => ?_⟩
    have hc0 := hA 0 h0 0 (by omega)
    have ha : a = ⟨a.block, a.off, none⟩ := addr_plain (v := actC (A 0) 0) (by simpa [Addr.add] using hc0)
    refine ⟨a.block, a.off, by rw [← ha], fun i hi j hj => ?_⟩
    have hcj := hA i hi j hj
    rw [ha, Addr.add_mid] at hcj
    rw [Nat.add_assoc]
    exact hcj
end
end Go.Proofs.YtcampjgemedhlaaDoor
namespace Go.Proofs.YtcampjgemedhlaaDoor.ractsProof
open Go Go.ChangeShapes Go.WideShapes Go.ChangeAt Go.WideMaps Go.WideElems Go.RowKit
set_option maxRecDepth 100000 in
theorem lifted (os : Os) (started : os.Started) (H : Type) (enc : TypeId × Value → H) :
    ReturnsInHanded {} Tryd.checked os 12 .any (fun w args => (Rows.registryActsSpec.pre enc Tryd.prog Tryd.f12 [] false w args ∧ laidMetH Tryd.prog laid2 w) ∧ sizedMet enc Tryd.prog Tryd.f12 (OpenSpec.ofChange Rows.registryActsSpec) false w args)
      (Rows.registryActsSpec.post enc Tryd.prog Tryd.f12 false true false false) := by
  refine returnsInHanded_of_change_and (C := Tryd.checked) (X := fun w _ => laidMetH Tryd.prog laid2 w) (fun _ _ _ hh h => h.of_heap hh) own started (by kernel_rfl) Tryd.func12
    (ChangeSpec.witness_shaped (enc := enc) (C := Tryd.checked) (os := os) (X := fun w _ => laidMetH Tryd.prog laid2 w) false (World.doorLaid Tryd.prog 400 os) #[.slice none 0 0] 8 rfl (World.shaped_of_RefB (by kernel_rfl) (by kernel_rfl)) (by kernel_rfl) (by kernel_rfl) (by kernel_rfl) (door_met os _)) ?_
  intro W base args ds gs before hval0 hW _ _ hL _
  have hval : ∀ (j : Nat) t v, Tryd.f12.params[j]? = some t → args[j]? = some v → Value.okWide Tryd.prog W .any base t v := hval0
  have hW' := hW
  obtain ⟨p, q, hA0, hV, rfl, hfz, hnd⟩ := hW
  have hA : DataW.TrodAll enc Tryd.prog W 0 (fun _ => true) true Tryd.f12.params.toList args.toList ds p := hA0
  rw [Tryd.params12] at hA hval
  obtain ⟨v0, d0, rfl, rfl, h0⟩ := trodAll_one hA
  obtain ⟨rfl, rfl⟩ := trodVars_none hV
  have k0 := h0
  have lt0 : ∀ x ∈ p, x.block < W.heap.size := by obtain ⟨m, hm⟩ := k0; exact DataW.trod_lt m _ _ _ hm
  obtain ⟨a0, len0, cap0, rfl⟩ := okWide_slice (show Tryd.prog.underlying 55 = some (.slice 70) by kernel_rfl) (hval 0 55 v0 rfl rfl)
  obtain ⟨q0, l0, c0, A0, hv0, hcap0, hmax0, hS0⟩ : ∃ (pp : Option Addr) (n cap : Nat) (A : Nat → ActA), Value.slice a0 len0 cap0 = .slice pp n cap ∧ n ≤ cap ∧ n ≤ maxLen ∧ (0 < n → ∃ bb off, pp = some ⟨bb, off, none⟩ ∧ ∀ k, k < n → ∀ j, j < 67 → W.cell? ⟨bb, off + k * 67 + j, none⟩ = some (actC (A k) j)) := by
    obtain ⟨fuel, hf⟩ := h0
    exact open_actsR hf
  obtain ⟨rfl, rfl, rfl⟩ : a0 = q0 ∧ len0 = l0 ∧ cap0 = c0 := by injection hv0 with h1 h2 h3; exact ⟨h1, h2, h3⟩
  clear hA0 hval0
  refine (law_acts _ _ _ A0 W W.heap.size rfl (of_laid hL) hS0).mono fun e W' ⟨he, bel⟩ => ?_
  subst he
  exact ⟨_, rfl, _, _, _, [], _, [], hW', trodAll_mk1 (shut_bool Tryd.underlying4 _), (trodAll_cons_mk (Below.trod laidOut (by kernel_rfl) (of_decide_eq_true (by kernel_rfl)) k0 bel lt0) trodAll_mk0), rfl, bel.frame _, fun h => by cases h⟩
theorem over : Rows.RegistryActsSaid :=
  OpenClaim.holds_of_wide 12 Tryd.f12 rfl rfl rfl rfl rfl rfl rfl ⟨rfl, rfl, rfl, rfl, rfl⟩ rfl rfl rfl rfl rfl (by kernel_rfl) Tryd.func12 (by kernel_rfl)
    (of_decide_eq_true (by kernel_rfl)) (by unfold Func.isWrapper; first | (rw [if_pos (by decide +kernel)]; kernel_rfl) | (rw [if_neg (by decide +kernel)]; exact ⟨rfl, rfl⟩))
    (fun os started H enc _ => lifted os started H enc)
theorem proved : Rows.RegistryActsCardSaid :=
  Claim7.holds_tied_plain_at .later [] [.data, .data] true Rows.registryActsCard.stood.harness false
    over (fun _ h => by cases h) (by kernel_rfl) (fun _ h => by cases h) registryActs_row_tie rfl ⟨rfl, rfl⟩ (by kernel_rfl) rfl
    (fun f fn hf hfn => by
      obtain rfl : f = 12 := Option.some.inj ((show Tryd.prog.funcNamed "tipstaff/tipstafflaw03.RegistryActs" = some 12 by kernel_rfl).symm.trans hf) |>.symm
      obtain rfl : fn = Tryd.f12 := (Option.some.inj (Tryd.func12.symm.trans hfn)).symm
      exact ⟨by kernel_rfl, fun j t ht => by
        rw [Tryd.params12] at ht
        have hm : t ∈ [55] := by simpa using Array.mem_of_getElem? ht
        have hall : ([55].all fun u => !Tryd.prog.wantsStandIn u) = true := by kernel_rfl
        exact (show Tryd.prog.wantsStandIn t = false by simpa using List.all_eq_true.1 hall t hm)⟩)
    (by kernel_rfl)
#print axioms proved
end Go.Proofs.YtcampjgemedhlaaDoor.ractsProof
