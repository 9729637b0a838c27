/- Contracts of fdtab: Used, Free; opens of the law. opens of the whole's laws is true. -/
import Derived.Test.YtilhkgbninbkkaaDoorFd1c
namespace Go.Proofs.YtilhkgbninbkkaaDoor
open Go Go.RowKit
/-- The descriptors that aren't free, rising. -/
def us (f : Nat → Int) (k : Nat) : List Nat := (List.range k).filter (fun j => f j != 0)
end Go.Proofs.YtilhkgbninbkkaaDoor
namespace Go.Proofs.YtilhkgbninbkkaaDoor
open Go Go.RowKit
set_option maxRecDepth 100000 in
theorem topens_any (w : World) (N : Nat) (hN : Sz w N) :
    Calls Tryd.prog 49 #[] w fun e w' => e = .returned (.bool true) ∧ Below N w w' := by
  go_enter Tryd.func49, Tryd.ntmps49
  go_wp2_with fail
  refine (FNew_any 2 (by omega) (by omega) _ N hN).mono ?_
  rintro e w1 ⟨rfl, hb1, hF1, hN1⟩
  go_wp2_with fail
  refine (Open_at (N + 1) N 2 (fun _ => 0) 5 0 (by omega) (by omega) (by omega) rfl (fun i hi => by omega) _ hF1).mono ?_
  rintro e w2 ⟨rfl, ht2, hF2⟩
  have hF2' : Fd w2 (N + 1) N 2 (fun j => if j = 0 then 5 else 0) := hF2.congr (fun _ _ => rfl)
  clear hF2
  go_wp2_with fail
  refine (Get_ok (N + 1) N 2 (fun j => if j = 0 then 5 else 0) 0 (by omega) (by omega) (by simp) _ hF2').mono ?_
  rintro e w3 ⟨rfl, rfl⟩
  go_wp2_with fail
  go_ret
  exact ⟨rfl, ht2.below hb1 (Nat.le_refl N)⟩
end Go.Proofs.YtilhkgbninbkkaaDoor
