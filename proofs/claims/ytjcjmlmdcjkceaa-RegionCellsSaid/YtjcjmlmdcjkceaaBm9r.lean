/- bmap: Check, New, Freeze, Frozen, Len. -/
import Derived.Test.YtjcjmlmdcjkceaaBm7r
namespace Go.Proofs.Ytjcjmlmdcjkceaa
open Go Go.RowKit
def Sizes (ty lo hi : Nat) : Prop := ty = 0 ∧ lo = 4 ∧ hi = 4 ∨ ty = 1 ∧ lo = 1 ∧ hi = 16 ∨ ty = 2 ∧ lo = 1 ∧ hi = 16 ∨ ty = 3 ∧ lo = 0 ∧ hi = 0 ∨ ty = 4 ∧ lo = 0 ∧ hi = 0 ∨ ty = 5 ∧ lo = 5 ∧ hi = 16
def SpecOk (ty key val ent : Nat) : Prop := (∃ lo hi, Sizes ty lo hi ∧ lo ≤ key ∧ key ≤ hi) ∧ 1 ≤ val ∧ val ≤ 64 ∧ 1 ≤ ent ∧ ent ≤ 64
set_option maxRecDepth 100000 in
theorem sizes_at (ty lo hi : Nat) (h : Sizes ty lo hi) (w : World) :
    Calls Try.prog 51 #[.int .i64 (ty : Int)] w fun e w' => e = .returned (.tuple #[.int .i64 (lo : Int), .int .i64 (hi : Int), .bool true]) ∧ w = w' := by
  rcases h with ⟨rfl, rfl, rfl⟩ | ⟨rfl, rfl, rfl⟩ | ⟨rfl, rfl, rfl⟩ | ⟨rfl, rfl, rfl⟩ | ⟨rfl, rfl, rfl⟩ | ⟨rfl, rfl, rfl⟩
  all_goals
    go_enter Try.func51, Try.ntmps51
    go_wp2
    go_ret3
    exact ⟨rfl, rfl⟩
def spV (ty key val ent : Nat) : Value := .agg #[.int .i64 (ty : Int), .int .i64 (key : Int), .int .i64 (val : Int), .int .i64 (ent : Int)]
set_option maxRecDepth 100000 in
theorem Check_ok (ty key val ent : Nat) (h : SpecOk ty key val ent) (w : World) (N : Nat) (hN : Sz w N) :
    Calls Try.prog 37 #[spV ty key val ent] w fun e w' => e = .returned (.int .i64 0) ∧ Below N w w' := by
  obtain ⟨⟨lo, hi, hS, a1, a2⟩, a3, a4, a5, a6⟩ := h
  have s1 : ¬ ((key : Int) < (lo : Int)) := by omega
  have s2 : ¬ ((hi : Int) < (key : Int)) := by omega
  have s3 : ¬ ((val : Int) < 1) := by omega
  have s4 : ¬ ((64 : Int) < (val : Int)) := by omega
  have s5 : ¬ ((ent : Int) < 1) := by omega
  have s6 : ¬ ((64 : Int) < (ent : Int)) := by omega
  unfold spV
  go_enter Try.func37, Try.ntmps37
  go_wp2_with (first
    | (go_at_call 51; refine (sizes_at ty lo hi hS _).mono ?_; rintro e w1 ⟨rfl, rfl⟩)
    | fail)
  go_ret
  exact ⟨rfl, below_new w _ N hN⟩
def mp0 (ty key val ent b : Nat) : Mp := { ty := ty, key := key, val := val, ent := ent, fz := false, b := b, p := none, n := 0, cap := 0, E := fun _ => ⟨⟨#[]⟩, 0, 0, fun _ => 0⟩ }
set_option maxRecDepth 100000 in
theorem Freeze_ok (m : Mp) (hfz : m.fz = false) (w : World) (hA : MpAt w m) :
    Calls Try.prog 24 #[.pointer (some ⟨m.b, 0, none⟩)] w fun e w' => e = .returned (.int .i64 0) ∧ Touch m.b w w' ∧ MpAt w' { m with fz := true } := by
  have d4 := hA.c4
  rw [hfz] at d4
  go_enter Try.func24, Try.ntmps24
  go_wp2_with (first
    | (refine wpl_set rfl 4 (.tmp 11) (.const (.bool true)) rfl m.b 4 rfl (.bool true) rfl (by kernel_rfl) rfl rfl 94 6 _ hA.h (by omega) ?_; intro w1 t1 h1)
    | fail)
  go_ret
  refine ⟨rfl, t1, h1.congr (fun j hj => ?_), hA.e.touch t1 (fun g hg => hA.pb g hg), fun i hi => (hA.c i hi).touch t1 (hA.cb i hi).1, fun i hi => (hA.v i hi).touch t1 (hA.cb i hi).2, hA.inj⟩
  by_cases h5 : j = 4
  · subst h5
    simp only [upd, mpC, if_pos rfl]
    rfl
  · unfold upd
    rw [if_neg h5]
    unfold mpC
    by_cases h4 : j < 4
    · rw [if_pos h4, if_pos h4]; rfl
    · rw [if_neg h4, if_neg h4, if_neg h5, if_neg h5]
set_option maxRecDepth 100000 in
theorem Frozen_is (m : Mp) (f : Bool) (hf : m.fz = f) (w : World) (hA : MpAt w m) :
    Calls Try.prog 50 #[.pointer (some ⟨m.b, 0, none⟩)] w fun e w' => e = .returned (.bool f) ∧ w = w' := by
  have d4 := hA.c4
  rw [hf] at d4
  clear hf
  go_enter Try.func50, Try.ntmps50
  go_wp2
  go_ret
  exact ⟨rfl, rfl⟩
end Go.Proofs.Ytjcjmlmdcjkceaa
