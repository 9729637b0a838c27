/- The registry that is none. -/
import Derived.Test.YtcampjgemedhlaaDoorRg4
namespace Go.Proofs.YtcampjgemedhlaaDoor
open Go Go.RowKit Sha
set_option maxRecDepth 100000 in
theorem none_any (w : World) : Calls Tryd.prog 32 #[] w fun e w' => e = .returned (.pointer none) ∧ w = w' := by
  go_enter Tryd.func32, Tryd.ntmps32
  go_wp2_with fail
  go_ret
  exact ⟨rfl, rfl⟩
set_option maxRecDepth 100000 in
theorem Find_nil (s : Nat → BitVec 8) (w : World) (N : Nat) (hN : Sz w N) :
    Calls Tryd.prog 33 #[.pointer none, .agg (cellsOf (fun j => By (s j)) 32), .slice none 0 0] w fun e w' => e = .returned (.tuple #[.int .i64 0, .int .i64 22]) ∧ Below N w w' := by
  go_enter Tryd.func33, Tryd.ntmps33
  go_wp2_with (first
    | (refine wpl_box rfl 23 (.tmp 1) rfl 32 _ rfl N hN ?_; intro w1 hN1 hb1 h1)
    | fail)
  go_ret2
  exact ⟨rfl, hb1⟩
set_option maxRecDepth 100000 in
theorem Add_nil (s : Nat → BitVec 8) (w : World) (N : Nat) (hN : Sz w N) :
    Calls Tryd.prog 35 #[.pointer none, .agg (cellsOf (fun j => By (s j)) 32)] w fun e w' => e = .returned (.int .i64 22) ∧ Below N w w' := by
  go_enter Tryd.func35, Tryd.ntmps35
  go_wp2_with (first
    | (refine wpl_box rfl 23 (.tmp 1) rfl 32 _ rfl N hN ?_; intro w1 hN1 hb1 h1)
    | fail)
  go_ret
  exact ⟨rfl, hb1⟩
set_option maxRecDepth 100000 in
theorem Has_nil (s : Nat → BitVec 8) (w : World) (N : Nat) (hN : Sz w N) :
    Calls Tryd.prog 36 #[.pointer none, .agg (cellsOf (fun j => By (s j)) 32)] w fun e w' => e = .returned (.bool false) ∧ Below N w w' := by
  go_enter Tryd.func36, Tryd.ntmps36
  go_wp2_with (first
    | (refine wpl_box rfl 23 (.tmp 1) rfl 32 _ rfl N hN ?_; intro w1 hN1 hb1 h1)
    | fail)
  go_ret
  exact ⟨rfl, hb1⟩
set_option maxRecDepth 100000 in
theorem Spend_nil (i : Int) (w : World) : Calls Tryd.prog 37 #[.pointer none, .int .i64 i] w fun e w' => e = .returned (.int .i64 22) ∧ w = w' := by
  go_enter Tryd.func37, Tryd.ntmps37
  go_wp2_with fail
  go_ret
  exact ⟨rfl, rfl⟩
set_option maxRecDepth 100000 in
theorem Len_nil (w : World) : Calls Tryd.prog 38 #[.pointer none] w fun e w' => e = .returned (.int .i64 0) ∧ w = w' := by
  go_enter Tryd.func38, Tryd.ntmps38
  go_wp2_with fail
  go_ret
  exact ⟨rfl, rfl⟩
end Go.Proofs.YtcampjgemedhlaaDoor
