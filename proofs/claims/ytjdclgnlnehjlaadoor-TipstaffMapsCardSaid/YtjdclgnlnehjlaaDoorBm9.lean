/- bmap: Check, New, Freeze, Frozen, Len. -/
import Derived.Test.YtjdclgnlnehjlaaDoorBm7
namespace Go.Proofs.YtjdclgnlnehjlaaDoor
open Go Go.RowKit
def Sizes (ty lo hi : Nat) : Prop := ty = 0 ∧ lo = 4 ∧ hi = 4 ∨ ty = 1 ∧ lo = 1 ∧ hi = 16 ∨ ty = 2 ∧ lo = 1 ∧ hi = 16 ∨ ty = 3 ∧ lo = 0 ∧ hi = 0 ∨ ty = 4 ∧ lo = 0 ∧ hi = 0 ∨ ty = 5 ∧ lo = 5 ∧ hi = 16
def SpecOk (ty key val ent : Nat) : Prop := (∃ lo hi, Sizes ty lo hi ∧ lo ≤ key ∧ key ≤ hi) ∧ 1 ≤ val ∧ val ≤ 64 ∧ 1 ≤ ent ∧ ent ≤ 64
set_option maxRecDepth 100000 in
theorem sizes_at (ty lo hi : Nat) (h : Sizes ty lo hi) (w : World) :
    Calls Tryd.prog 51 #[.int .i64 (ty : Int)] w fun e w' => e = .returned (.tuple #[.int .i64 (lo : Int), .int .i64 (hi : Int), .bool true]) ∧ w = w' := by
  rcases h with ⟨rfl, rfl, rfl⟩ | ⟨rfl, rfl, rfl⟩ | ⟨rfl, rfl, rfl⟩ | ⟨rfl, rfl, rfl⟩ | ⟨rfl, rfl, rfl⟩ | ⟨rfl, rfl, rfl⟩
  all_goals
    go_enter Tryd.func51, Tryd.ntmps51
    go_wp2
    go_ret3
    exact ⟨rfl, rfl⟩
def spV (ty key val ent : Nat) : Value := .agg #[.int .i64 (ty : Int), .int .i64 (key : Int), .int .i64 (val : Int), .int .i64 (ent : Int)]
set_option maxRecDepth 100000 in
theorem Check_ok (ty key val ent : Nat) (h : SpecOk ty key val ent) (w : World) (N : Nat) (hN : Sz w N) :
    Calls Tryd.prog 25 #[spV ty key val ent] w fun e w' => e = .returned (.int .i64 0) ∧ Below N w w' := by
  obtain ⟨⟨lo, hi, hS, a1, a2⟩, a3, a4, a5, a6⟩ := h
  have s1 : ¬ ((key : Int) < (lo : Int)) := by omega
  have s2 : ¬ ((hi : Int) < (key : Int)) := by omega
  have s3 : ¬ ((val : Int) < 1) := by omega
  have s4 : ¬ ((64 : Int) < (val : Int)) := by omega
  have s5 : ¬ ((ent : Int) < 1) := by omega
  have s6 : ¬ ((64 : Int) < (ent : Int)) := by omega
  unfold spV
  go_enter Tryd.func25, Tryd.ntmps25
  go_wp2_with (first
    | (go_at_call 51; refine (sizes_at ty lo hi hS _).mono ?_; rintro e w1 ⟨rfl, rfl⟩)
    | fail)
  go_ret
  exact ⟨rfl, below_new w _ N hN⟩
def mp0 (ty key val ent b : Nat) : Mp := { ty := ty, key := key, val := val, ent := ent, fz := false, b := b, p := none, n := 0, cap := 0, E := fun _ => ⟨⟨#[]⟩, 0, 0, fun _ => 0⟩ }
set_option maxRecDepth 100000 in
theorem New_plain (ty key val ent : Nat) (h : SpecOk ty key val ent) (h0 : ty ≠ 0) (w : World) (N : Nat) (hN : Sz w N) :
    Calls Tryd.prog 7 #[spV ty key val ent] w fun e w' => (∃ b, N ≤ b ∧ e = .returned (.tuple #[.pointer (some ⟨b, 0, none⟩), .int .i64 0]) ∧ MpAt w' (mp0 ty key val ent b)) ∧ Below N w w' := by
  have t0 : ((ty : Int) == 0) = false := by rw [beq_eq_false_iff_ne]; omega
  unfold spV
  go_enter Tryd.func7, Tryd.ntmps7
  go_wp2_with (first
    | (refine wpl_box rfl 31 (.tmp 0) rfl 4 (mp0 ty key val ent 0).sp (by rfl) N hN ?_; intro w1 hN1 hb1 hh1; have e0 : w1.cell? ⟨N, 0, none⟩ = some (.int .i64 (ty : Int)) := hh1.cell (by omega); have e1 : w1.cell? ⟨N, 1, none⟩ = some (.int .i64 (key : Int)) := hh1.cell (by omega); have e2 : w1.cell? ⟨N, 2, none⟩ = some (.int .i64 (val : Int)) := hh1.cell (by omega); have e3 : w1.cell? ⟨N, 3, none⟩ = some (.int .i64 (ent : Int)) := hh1.cell (by omega))
    | (go_at_call 25; refine (Check_ok ty key val ent h _ (N + 1) hN1).mono ?_; rintro e w2 ⟨rfl, hb2⟩; clear e0 e1 e2 e3; have hh2 := hh1.below hb2 (by omega); have e0 : w2.cell? ⟨N, 0, none⟩ = some (.int .i64 (ty : Int)) := hh2.cell (by omega); have e1 : w2.cell? ⟨N, 1, none⟩ = some (.int .i64 (key : Int)) := hh2.cell (by omega); have e2 : w2.cell? ⟨N, 2, none⟩ = some (.int .i64 (val : Int)) := hh2.cell (by omega); have e3 : w2.cell? ⟨N, 3, none⟩ = some (.int .i64 (ent : Int)) := hh2.cell (by omega); obtain ⟨M, hM⟩ := sz_some w2; have L := below_sz hb2 hN1 hM)
    | (refine wpl_box rfl 59 (.tmp 14) rfl 6 (mpC (mp0 ty key val ent 0)) (by rfl) M hM ?_; intro w3 hN3 hb3 hh3; clear e0 e1 e2 e3; have hh4 := hh2.below hb3 (by omega); have e0 : w3.cell? ⟨N, 0, none⟩ = some (.int .i64 (ty : Int)) := hh4.cell (by omega))
    | fail)
  go_ret2
  refine ⟨⟨M, by omega, rfl, hh3.congr (fun j _ => rfl), OwnK.nil _ _ _ _, fun i hi => absurd hi (by show ¬ i < 0; omega), fun i hi => absurd hi (by show ¬ i < 0; omega), fun i j hi => absurd hi (by show ¬ i < 0; omega)⟩, (hb1.trans (hb2.mono (by omega))).trans (hb3.mono (by omega))⟩
end Go.Proofs.YtjdclgnlnehjlaaDoor
