/- The known text's sum. stands of the laws through the layers. -/
import Derived.Test.YtjdclgnlnehjlaaDoorDig5c
import Derived.Lib.SlBytesConst
import Derived.Test.YtjdclgnlnehjlaaDoorDig4
namespace Go.Proofs.YtjdclgnlnehjlaaDoor
open Go Go.RowKit Sha
def abcD : Nat → BitVec 8 := fun j => BitVec.ofNat 8 ([97, 98, 99].getD j 0)
def abcS : ByteArray := ⟨#[98, 97, 55, 56, 49, 54, 98, 102, 56, 102, 48, 49, 99, 102, 101, 97, 52, 49, 52, 49, 52, 48, 100, 101, 53, 100, 97, 101, 50, 50, 50, 51, 98, 48, 48, 51, 54, 49, 97, 51, 57, 54, 49, 55, 55, 97, 57, 99, 98, 52, 49, 48, 102, 102, 54, 49, 102, 50, 48, 48, 49, 53, 97, 100]⟩
theorem hex_abc : hexS (shaD abcD 3) = abcS := by decide +kernel
theorem cells_three (w : World) (a b c : Value) (t : TypeId) (fr : Nat × Nat) (j : Nat) (hj : j < 3) : (w.alloc (.cells #[a, b, c] t fr)).cell? ⟨w.heap.size, j, none⟩ = some (if j = 0 then a else if j = 1 then b else c) := by
  rw [cell_of_row _ _ _ _ _ _ (heap_alloc_new w _)]
  rcases (show j = 0 ∨ j = 1 ∨ j = 2 by omega) with rfl | rfl | rfl <;> rfl
end Go.Proofs.YtjdclgnlnehjlaaDoor
namespace Go.Proofs.YtjdclgnlnehjlaaDoor
open Go Go.RowKit Sha
set_option maxRecDepth 100000 in
theorem stands_any (w : World) (N : Nat) (hN : Sz w N) (hT : Tabs w) :
    Calls Tryd.prog 22 #[] w fun e w' => e = .returned (.bool true) ∧ Below N w w' := by
  have hTN := hT.ltN hN
  have hB : Bytes (w.alloc (.cells #[.int .u8 97, .int .u8 98, .int .u8 99] 5 (3, 4))) (some ⟨w.heap.size, 0, none⟩) 3 abcD := fun _ => ⟨w.heap.size, 0, rfl, fun j hj => by
    rw [Nat.zero_add, cells_three w _ _ _ _ _ j hj]
    rcases (show j = 0 ∨ j = 1 ∨ j = 2 by omega) with rfl | rfl | rfl <;> rfl⟩
  have hb1 := below_new w (.cells #[.int .u8 97, .int .u8 98, .int .u8 99] 5 (3, 4)) N hN
  have hN1 := sz_alloc hN (.cells #[.int .u8 97, .int .u8 98, .int .u8 99] 5 (3, 4))
  have kc := fun (w : World) (C : Array Value) (n c : Nat) => Lib.run_convert_bytes_const (P := Tryd.prog) w 35 5 C n c und22 und5
  go_enter Tryd.func22, Tryd.ntmps22
  go_wp2_with (first
    | (go_at_call 47; refine (Sum_any _ 3 3 abcD _ (N + 1) hN1 (hT.below hb1 hTN) (by omega) (by omega) hB).mono ?_; rintro e w2 ⟨rfl, hb2⟩; obtain ⟨M, hM⟩ := sz_some w2; have hNM := below_sz hb2 hN1 hM)
    | (go_at_call 46; refine (Hex_anyc (shaD abcD 3) _ M hM).mono ?_; rintro e w3 ⟨rfl, hb3⟩; rw [hex_abc]; unfold abcS)
    | fail)
  go_ret
  exact ⟨rfl, (hb1.trans (hb2.mono (by omega))).trans (hb3.mono (by omega))⟩
end Go.Proofs.YtjdclgnlnehjlaaDoor
