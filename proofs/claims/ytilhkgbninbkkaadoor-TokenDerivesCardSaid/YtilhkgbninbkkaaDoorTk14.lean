/- Tokens: what there is of no tree and of no token. -/
import Derived.Test.YtilhkgbninbkkaaDoorTk13
import Derived.Test.YtilhkgbninbkkaaDoorTk12
namespace Go.Proofs.YtilhkgbninbkkaaDoor
open Go Go.RowKit
set_option maxRecDepth 100000 in
theorem Root_nil (at_ : Int) (r : Rg) (w : World) (N : Nat) (hN : Sz w N) :
    Calls Tryd.prog 27 #[.pointer none, .int .i64 at_, rgV r] w fun e w' => e = .returned (.tuple #[.pointer none, .int .i64 22]) ∧ Below N w w' := by
  unfold rgV
  have HD := fun w => Depth_nil at_ w
  go_enter Tryd.func27, Tryd.ntmps27
  go_wp2_with (first
    | (refine wpl_box rfl 26 (.tmp 2) rfl 6 _ rfl N hN ?_; intro w1 hN1 hb1 hh1)
    | (go_at_call 53; refine (HD _).mono ?_; rintro e w2 ⟨rfl, rfl⟩)
    | fail)
  go_ret2
  exact ⟨rfl, hb1⟩
set_option maxRecDepth 100000 in
theorem Reverse_nil (w : World) :
    Calls Tryd.prog 56 #[.slice none 0 0] w fun e w' => e = .returned (.tuple #[]) ∧ w' = w := by
  go_enter Tryd.func56, Tryd.ntmps56
  go_wp2
  go_loopg [2, 3] 1 (fun k u v wr => k = 1 ∧ u = .int .i64 0 ∧ v = .int .i64 (-1) ∧ wr = w)
  case atStart => exact ⟨rfl, rfl, rfl, rfl⟩
  case round =>
    obtain ⟨rfl, rfl, rfl, rfl⟩ := hrel
    go_wp2
    go_end0
    exact ⟨rfl, rfl⟩
set_option maxRecDepth 100000 in
theorem Chain_nil (w : World) (N : Nat) : Calls Tryd.prog 31 #[.pointer none] w fun e w' => e = .returned (.slice none 0 0) ∧ Below N w w' := by
  have HR := rooted_any [] (by simp) w trivial
  simp only [ptrOf] at HR
  go_enter Tryd.func31, Tryd.ntmps31
  go_wp2_with (first
    | (go_at_call 55; refine HR.mono ?_; rintro e w1 ⟨rfl, nq, rfl⟩)
    | fail)
  have b1 : Below N w (w.drewN nq) := below_drewN (Below.refl N w) nq
  clear HR
  go_loopg [0, 3] 1 (fun k x p wr => k = 1 ∧ x = .pointer none ∧ p = .slice none 0 0 ∧ Below N w wr)
  case atStart => exact ⟨rfl, rfl, rfl, b1⟩
  case round =>
    clear b1
    obtain ⟨rfl, rfl, rfl, hb⟩ := hrel
    go_wp2_with (first
      | (go_at_call 56; refine (Reverse_nil _).mono ?_; rintro e w3 ⟨rfl, rfl⟩)
      | fail)
    go_ret
    exact ⟨rfl, hb⟩
set_option maxRecDepth 100000 in
theorem Sound_nil (p : Value) (w : World) (N : Nat) : Calls Tryd.prog 32 #[p, .pointer none] w fun e w' => e = .returned (.bool false) ∧ Below N w w' := by
  go_enter Tryd.func32, Tryd.ntmps32
  go_wp2_with (first
    | (go_at_call 31; refine (Chain_nil _ N).mono ?_; rintro e w1 ⟨rfl, b1⟩)
    | fail)
  go_ret
  exact ⟨rfl, b1⟩
end Go.Proofs.YtilhkgbninbkkaaDoor
