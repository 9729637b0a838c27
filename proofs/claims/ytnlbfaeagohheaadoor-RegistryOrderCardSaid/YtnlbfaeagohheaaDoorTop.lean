/- cut and stands of the laws through the layers. -/
import Derived.Test.YtnlbfaeagohheaaDoorRg4
import Derived.Test.YtnlbfaeagohheaaDoorLaw2
namespace Go.Proofs.YtnlbfaeagohheaaDoor
open Go Go.RowKit Sha
set_option maxRecDepth 100000 in
theorem stands_any (w : World) (N : Nat) (hN : Sz w N) (hT : Tabs w) :
    Calls Tryd.prog 45 #[] w fun e w' => e = .returned (.bool true) ∧ Below N w w' := by
  have hTN := hT.ltN hN
  have hB : Bytes (w.alloc (.cells #[.int .u8 97, .int .u8 98, .int .u8 99] 5 (3, 4))) (some ⟨w.heap.size, 0, none⟩) 3 abcD := fun _ => ⟨w.heap.size, 0, rfl, fun j hj => by
    rw [Nat.zero_add, cells_three w _ _ _ _ _ j hj]
    rcases (show j = 0 ∨ j = 1 ∨ j = 2 by omega) with rfl | rfl | rfl <;> rfl⟩
  have hb1 := below_new w (.cells #[.int .u8 97, .int .u8 98, .int .u8 99] 5 (3, 4)) N hN
  have hN1 := sz_alloc hN (.cells #[.int .u8 97, .int .u8 98, .int .u8 99] 5 (3, 4))
  have kc := fun (w : World) (C : Array Value) (n c : Nat) => Lib.run_convert_bytes_const (P := Tryd.prog) w 22 5 C n c und22 und5
  go_enter Tryd.func45, Tryd.ntmps45
  go_wp2_with (first
    | (go_at_call 17; refine (Sum_any _ 3 3 abcD _ (N + 1) hN1 (hT.below hb1 hTN) (by omega) (by omega) hB).mono ?_; rintro e w2 ⟨rfl, hb2⟩; obtain ⟨M, hM⟩ := sz_some w2; have hNM := below_sz hb2 hN1 hM)
    | (go_at_call 20; refine (Hex_any (shaD abcD 3) _ M hM).mono ?_; rintro e w3 ⟨rfl, hb3⟩; rw [hex_abc]; unfold abcS)
    | fail)
  go_ret
  exact ⟨rfl, (hb1.trans (hb2.mono (by omega))).trans (hb3.mono (by omega))⟩
theorem own_empty (w : World) (E : TypeId) (f : Nat → Value) : Own (w.alloc (.cells #[] E)) E (some ⟨w.heap.size, 0, none⟩) 0 0 f :=
  .inr ⟨_, #[], rfl, heap_alloc_new w _, Nat.le_refl _, rfl, fun j hj => by omega⟩
set_option maxRecDepth 100000 in
theorem cut_any (p : Option Addr) (n cap m : Nat) (D : Nat → BitVec 8) (w : World) (N : Nat) (hN : Sz w N) (hcap : n ≤ cap) (hm : m ≤ 1000000) (hD : Bytes w p n D) :
    Calls Tryd.prog 44 #[.slice p n cap, .int .i64 (m : Int)] w (NewBytes N w (min n m) D) := by
  obtain ⟨c, hc⟩ : ∃ c, c = min n m := ⟨_, rfl⟩
  have Hc := hid hc
  have hc1 : c ≤ n := by omega
  have hc2 : c ≤ m := by omega
  have e1 : (if (m : Int) < (n : Int) then (m : Int) else (n : Int)) = (c : Int) := by have := Hc.out; split <;> omega
  have e2 : (if m < n then (m : Int) else (n : Int)) = (c : Int) := by have := Hc.out; split <;> omega
  rw [← hc]
  clear hc
  have hsl : ∀ w, (Instr.sliceAt 22 (.slice p n cap) none (some (.int .i64 (c : Int))) none).run Tryd.prog w = .ok (.slice p c cap) w := run_cut_head 22 5 und22 inf5 p n cap c (by omega)
  have hDc : Cells (w.alloc (.cells #[] 5)) p c (fun j => By (D j)) := fun h0 => by
    obtain ⟨bb, off, e, h⟩ := (hD.below hN (below_new w (.cells #[] 5) N hN)) (by omega)
    exact ⟨⟨bb, off, none⟩, e, fun j hj => by rw [Addr.add_mid]; exact h j (by omega)⟩
  go_enter Tryd.func44, Tryd.ntmps44
  go_wp2_with (first
    | (refine wpl_app rfl (.tmp 5) (.tmp 11) 22 rfl 5 und22 one5 _ 0 0 rfl _ (own_empty w _ (fun j => By (D j))) p c cap rfl (fun j => By (D j)) hDc (fun _ _ => rfl) (by omega) ?_; intro p1 c1 w1 o1 g1 k1 n1)
    | fail)
  go_ret
  have hb := below_new w (.cells #[] 5) N hN
  refine ⟨p1, c1, rfl, by rw [Nat.zero_add] at o1; exact o1.congr (fun j hj => rfl), fun g hg => ?_, g1.below hb (by have := hb.size; have e : w.heap.size = N := hN; omega) (fun g hg => ?_)⟩
  · have e : w.heap.size = N := hN
    rcases k1 with k | k
    · rw [k] at hg; simp [blk] at hg; omega
    · rw [k] at hg; simp at hg; omega
  · have e : w.heap.size = N := hN
    simp [blk] at hg; omega
end Go.Proofs.YtnlbfaeagohheaaDoor
