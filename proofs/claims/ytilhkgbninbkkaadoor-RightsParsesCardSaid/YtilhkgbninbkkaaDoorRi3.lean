/- Contract of rights.Bit. -/
import Derived.Test.YtilhkgbninbkkaaDoorRi2
import Derived.Test.YtilhkgbninbkkaaDoorOw2
import Derived.Deep.LoopGhost
namespace Go.Proofs.YtilhkgbninbkkaaDoor
open Go Go.RowKit
/-- The helpers that there are, by their bits. -/
def hpN (j : Nat) : Int := if j = 0 then 1 else if j = 1 then 2 else if j = 2 then 3 else if j = 3 then 5 else if j = 4 then 7 else if j = 5 then 87 else if j = 6 then 88 else 89
/-- The table lies where it lay. -/
def Hp (w : World) : Prop := Tab w 0 8 (fun j => .int .i32 (hpN j))
theorem Hp.ltN {w : World} (t : Hp w) {N : Nat} (hN : Sz w N) : 0 < N := by have := Tab.lt t; rwa [show w.heap.size = N from hN] at this
theorem Hp.below {w w' : World} {N : Nat} (t : Hp w) (hN : Sz w N) (h : Below N w w') : Hp w' := Tab.below t h (t.ltN hN)
theorem Hp.drew {w : World} (t : Hp w) : Hp w.drew := t
theorem undHA : ∃ d, Tryd.prog.underlying 90 = some d ∧ d.isRow = true := row_of (by kernel_rfl)
theorem szHA : (Tryd.prog.info? 90).map (·.size) = some 8 := by kernel_rfl
/-- Which bit a helper has, or none. -/
def bitOf (h : Int) : Option Nat := (List.range 8).find? (fun j => hpN j == h)
theorem bitOf_some {h : Int} {j : Nat} (hj : j < 8) (e : hpN j = h) : bitOf h = some j := by
  unfold bitOf
  rcases (show j = 0 ∨ j = 1 ∨ j = 2 ∨ j = 3 ∨ j = 4 ∨ j = 5 ∨ j = 6 ∨ j = 7 by omega) with rfl | rfl | rfl | rfl | rfl | rfl | rfl | rfl <;> (subst e; decide)
theorem bitOf_none {h : Int} (e : ∀ j, j < 8 → hpN j ≠ h) : bitOf h = none := by
  unfold bitOf
  rw [List.find?_eq_none]
  intro j hj
  have := e j (by simpa using hj)
  simpa using this
section
variable {P : Program} {ops : Array Oper} {rest : List Oper} {o : Oper} {a : Act} {w : World} {Q : Exit → Act → World → Prop}
theorem wpl_index (hgd : o.guard = none) (xT : TypeId) (x y : Operand) (ho : o.op = .index xT x y) (f : Nat → Value) (n : Nat) (hx : a.eval x = .agg (cellsOf f n)) (k : Nat) (hy : a.eval y = .int .i64 (k : Int)) (e : TypeId) (d : TypeDesc)
    (hu : P.underlying xT = some (.array n e)) (he : P.underlying e = some d) (hd : (match d with | .struct _ | .array _ _ => false | _ => true) = true) (hs : (P.info? e).map (·.size) = some 1) (hk : k < n)
    (h : wpList P ops Q rest (a.put o.dst (f k)) w) : wpList P ops Q (o :: rest) a w := by
  refine wpl_run hgd _ w ?_ h
  unfold execOp
  simp only [ho, hx, hy, Sem.run_bind, run_index_cells xT e n f n k d hu he hd hs hk hk w, Result.andThen_ok, Sem.run_pure]
end
set_option maxRecDepth 100000 in
theorem Bit_any (h : Int) (w : World) (hT : Hp w) :
    Calls Tryd.prog 25 #[.int .i32 h] w fun e w' => e = .returned (.tuple #[.int .i64 (((bitOf h).getD 0 : Nat) : Int), .bool (bitOf h).isSome]) ∧ w' = w := by
  obtain ⟨d, h1, h2⟩ := undHA
  go_enter Tryd.func25, Tryd.ntmps25
  go_wp2_with (first
    | (refine wpl_load_tab rfl 90 (.global 0) rfl 0 rfl 8 _ hT _ h1 h2 szHA ?_)
    | fail)
  clear h1 h2 d
  go_loop [4, 5, 7] (fun u v i => ∃ j : Nat, j ≤ 8 ∧ i = .int .i64 j ∧ Hid (∀ l, l < j → hpN l ≠ h)) (fun _ _ i => 8 - (intOf i).toNat)
  case atStart => exact ⟨0, by omega, rfl, hid (fun l hl => by omega)⟩
  case round =>
    obtain ⟨j, hj, rfl, H⟩ := hrel
    have j0 : (0 : Int) ≤ (j : Int) := by omega
    by_cases he : j < 8
    · have hlt : (j : Int) < 8 := by omega
      by_cases hx : hpN j = h
      · have hb := hid (bitOf_some he hx)
        have hx' : (hpN j == h) = true := by rw [hx]; simp
        clear hx
        go_wp2_with (first
          | (refine wpl_index rfl 90 (.tmp 6) (.tmp 7) rfl (fun j => .int .i32 (hpN j)) 8 rfl j rfl 21 (.int .i32) (by kernel_rfl) (by kernel_rfl) rfl (by kernel_rfl) he ?_)
          | fail)
        go_ret2
        refine ⟨?_, rfl⟩
        rw [hb.out]; rfl
      · have Hx := hid hx
        have hx' : (hpN j == h) = false := by rw [beq_eq_false_iff_ne]; exact hx
        clear hx
        go_wp2_with (first
          | (refine wpl_index rfl 90 (.tmp 6) (.tmp 7) rfl (fun j => .int .i32 (hpN j)) 8 rfl j rfl 21 (.int .i32) (by kernel_rfl) (by kernel_rfl) rfl (by kernel_rfl) he ?_)
          | fail)
        go_round
        case rel => exact ⟨j + 1, by omega, by go_num, hid (fun l hl => by
          by_cases e : l = j
          · rw [e]; exact Hx.out
          · exact H.out l (by omega))⟩
        case measure => simp [intOf]; omega
    · have hlt : ¬ (j : Int) < 8 := by omega
      have hb := hid (bitOf_none (h := h) (fun l hl => H.out l (by omega)))
      go_wp2
      go_ret2
      refine ⟨?_, rfl⟩
      rw [hb.out]; rfl
end Go.Proofs.YtilhkgbninbkkaaDoor
