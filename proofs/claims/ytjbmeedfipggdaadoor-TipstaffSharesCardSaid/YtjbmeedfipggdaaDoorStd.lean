/- stands of the laws through the layers. -/
import Derived.Test.YtjbmeedfipggdaaDoorAbc
import Derived.Test.YtjbmeedfipggdaaDoorDig4
namespace Go.Proofs.YtjbmeedfipggdaaDoor
open Go Go.RowKit Sha
set_option maxRecDepth 100000 in
theorem stands_any (w : World) (N : Nat) (hN : Sz w N) (hT : Tabs w) :
    Calls Tryd.prog 7 #[] w fun e w' => e = .returned (.bool true) ∧ Below N w w' := by
  have hTN := hT.ltN hN
  have hB : Bytes (w.alloc (.cells #[.int .u8 97, .int .u8 98, .int .u8 99] 5 (3, 4))) (some ⟨w.heap.size, 0, none⟩) 3 abcD := fun _ => ⟨w.heap.size, 0, rfl, fun j hj => by
    rw [Nat.zero_add, cells_three w _ _ _ _ _ j hj]
    rcases (show j = 0 ∨ j = 1 ∨ j = 2 by omega) with rfl | rfl | rfl <;> rfl⟩
  have hb1 := below_new w (.cells #[.int .u8 97, .int .u8 98, .int .u8 99] 5 (3, 4)) N hN
  have hN1 := sz_alloc hN (.cells #[.int .u8 97, .int .u8 98, .int .u8 99] 5 (3, 4))
  have kc := fun (w : World) (C : Array Value) (n c : Nat) => Lib.run_convert_bytes_const (P := Tryd.prog) w 54 5 C n c und22 und5
  go_enter Tryd.func7, Tryd.ntmps7
  go_wp2_with (first
    | (go_at_call 18; refine (Sum_any _ 3 3 abcD _ (N + 1) hN1 (hT.below hb1 hTN) (by omega) (by omega) hB).mono ?_; rintro e w2 ⟨rfl, hb2⟩; obtain ⟨M, hM⟩ := sz_some w2; have hNM := below_sz hb2 hN1 hM)
    | (go_at_call 17; refine (Hex_any (shaD abcD 3) _ M hM).mono ?_; rintro e w3 ⟨rfl, hb3⟩; rw [hex_abc]; unfold abcS)
    | fail)
  go_ret
  exact ⟨rfl, (hb1.trans (hb2.mono (by omega))).trans (hb3.mono (by omega))⟩
end Go.Proofs.YtjbmeedfipggdaaDoor
