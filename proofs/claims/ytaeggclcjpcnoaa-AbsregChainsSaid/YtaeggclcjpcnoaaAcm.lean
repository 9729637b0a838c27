/- States: of three, if one covers another one, and that a third one, the first one covers the third one. -/
import Derived.Test.YtaeggclcjpcnoaaAbg2
namespace Go.Proofs.Ytaeggclcjpcnoaa
open Go Go.RowKit
theorem Covers_any (s t : St) (w : World) (N : Nat) (hN : Sz w N) : Calls Try.prog 50 #[stV s, stV t] w fun e w' => e = .returned (.bool (covS s t)) ∧ Below N w w' :=
  Covers_of s t (fun w N hN b c h1 h2 => Same_any s t w N hN b c h1 h2) w N hN
theorem ule_tr {x y z : W} (h1 : x.ule y = true) (h2 : y.ule z = true) : x.ule z = true := by
  rw [BitVec.ule_iff_toNat_le] at *; omega
theorem sle_tr {x y z : W} (h1 : x.sle y = true) (h2 : y.sle z = true) : x.sle z = true := by
  rw [BitVec.sle_iff_toInt_le] at *; omega
theorem bit_and_not {x m : W} (h : (x &&& ~~~m) = 0#64) (i : Nat) (hx : x.getLsbD i = true) (hi : i < 64) : m.getLsbD i = true := by
  have := congrArg (fun y : W => y.getLsbD i) h
  simp [hx, hi] at this
  exact this
end Go.Proofs.Ytaeggclcjpcnoaa
