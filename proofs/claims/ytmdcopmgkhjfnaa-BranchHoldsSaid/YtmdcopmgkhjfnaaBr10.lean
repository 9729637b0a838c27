/- Contracts of what a jump tells: the opposite by its number. -/
import Derived.Test.YtmdcopmgkhjfnaaBr9
namespace Go.Proofs.Ytmdcopmgkhjfnaa
open Go Go.RowKit
theorem bin_beqb {P : Program} {T : TypeId} (hT : P.underlying T = some .bool) (p q : Bool) : BinRun P .eql T (.bool p) (.bool q) (.bool (p == q)) := by
  intro ρ o x y ty w ho hx hy
  have := run_equalIn_bool (P := P) w 9999 T p q hT
  unfold execOp
  simp only [ho, hx, hy, Sem.run_bind]
  have e : (eqGuard .eql T x y (.bool p) (.bool q)).run P w = .ok () w := by unfold eqGuard; rfl
  simp only [e, Result.andThen_ok, binOp, Sem.run_bind, Op.equal, Op.maxDepth, this, Sem.run_pure]
theorem OppL_1 (w : World) (N : Nat) (hN : Sz w N) : Calls Try.prog 70 #[(Value.int .i64 1)] w fun e w' => e = .returned (.int .i64 5) ∧ Below N w w' := Opp_1 w N hN
theorem OppL_2 (w : World) (N : Nat) (hN : Sz w N) : Calls Try.prog 70 #[(Value.int .i64 2)] w fun e w' => e = .returned (.int .i64 11) ∧ Below N w w' := Opp_2 w N hN
theorem OppL_3 (w : World) (N : Nat) (hN : Sz w N) : Calls Try.prog 70 #[(Value.int .i64 3)] w fun e w' => e = .returned (.int .i64 10) ∧ Below N w w' := Opp_3 w N hN
theorem OppL_4 (w : World) (N : Nat) (hN : Sz w N) : Calls Try.prog 70 #[(Value.int .i64 4)] w fun e w' => e = .returned (.int .i64 (-1)) ∧ Below N w w' := Opp_4 w N hN
theorem OppL_5 (w : World) (N : Nat) (hN : Sz w N) : Calls Try.prog 70 #[(Value.int .i64 5)] w fun e w' => e = .returned (.int .i64 1) ∧ Below N w w' := Opp_5 w N hN
theorem OppL_6 (w : World) (N : Nat) (hN : Sz w N) : Calls Try.prog 70 #[(Value.int .i64 6)] w fun e w' => e = .returned (.int .i64 13) ∧ Below N w w' := Opp_6 w N hN
theorem OppL_7 (w : World) (N : Nat) (hN : Sz w N) : Calls Try.prog 70 #[(Value.int .i64 7)] w fun e w' => e = .returned (.int .i64 12) ∧ Below N w w' := Opp_7 w N hN
theorem OppL_10 (w : World) (N : Nat) (hN : Sz w N) : Calls Try.prog 70 #[(Value.int .i64 10)] w fun e w' => e = .returned (.int .i64 3) ∧ Below N w w' := Opp_10 w N hN
theorem OppL_11 (w : World) (N : Nat) (hN : Sz w N) : Calls Try.prog 70 #[(Value.int .i64 11)] w fun e w' => e = .returned (.int .i64 2) ∧ Below N w w' := Opp_11 w N hN
theorem OppL_12 (w : World) (N : Nat) (hN : Sz w N) : Calls Try.prog 70 #[(Value.int .i64 12)] w fun e w' => e = .returned (.int .i64 7) ∧ Below N w w' := Opp_12 w N hN
theorem OppL_13 (w : World) (N : Nat) (hN : Sz w N) : Calls Try.prog 70 #[(Value.int .i64 13)] w fun e w' => e = .returned (.int .i64 6) ∧ Below N w w' := Opp_13 w N hN
theorem OppL_o (z : Int) (w : World) (N : Nat) (hN : Sz w N) (h1 : (z == 1) = false) (h2 : (z == 2) = false) (h3 : (z == 3) = false) (h4 : (z == 4) = false) (h5 : (z == 5) = false) (h6 : (z == 6) = false) (h7 : (z == 7) = false) (h10 : (z == 10) = false) (h11 : (z == 11) = false) (h12 : (z == 12) = false) (h13 : (z == 13) = false) : Calls Try.prog 70 #[(Value.int .i64 z)] w fun e w' => e = .returned (.int .i64 0) ∧ Below N w w' := Opp_o z w N hN h1 h2 h3 h4 h5 h6 h7 h10 h11 h12 h13
end Go.Proofs.Ytmdcopmgkhjfnaa
