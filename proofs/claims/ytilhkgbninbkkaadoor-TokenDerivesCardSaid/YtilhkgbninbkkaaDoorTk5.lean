/- Tokens: Helper, Command, Program, Map. -/
import Derived.Test.YtilhkgbninbkkaaDoorTk4
namespace Go.Proofs.YtilhkgbninbkkaaDoor
open Go Go.RowKit
theorem fld_h (r : Rg) (w : World) : (Instr.field 26 (rgV r) 3).run Tryd.prog w = .ok (.int .u16 (u6 r.h)) w := by kernel_rfl
theorem fld_c (r : Rg) (w : World) : (Instr.field 26 (rgV r) 0).run Tryd.prog w = .ok (.int .u16 (u6 r.c)) w := by kernel_rfl
theorem fld_p (r : Rg) (w : World) : (Instr.field 26 (rgV r) 1).run Tryd.prog w = .ok (.int .u16 (u6 r.p)) w := by kernel_rfl
theorem fld_m (r : Rg) (w : World) : (Instr.field 26 (rgV r) 2).run Tryd.prog w = .ok (.int .u16 (u6 r.m)) w := by kernel_rfl
def helpE (r : Rg) (h : Int) : Int := match bitOf h with | none => 22 | some k => hasE r.h (k : Int)
set_option maxRecDepth 100000 in
theorem Helper_some (ts : List Tk) (h : Int) (k : Nat) (hk : bitOf h = some k) (w : World) (N : Nat) (hN : Sz w N) (hH : Hp w) (hT : Tks w ts) :
    Calls Tryd.prog 36 #[ptrOf ts, .int .i32 h] w fun e w' => e = .returned (.int .i64 (hasE (rOf ts).h k)) ∧ Below N w w' := by
  have HB := Bit_any h w hH
  rw [hk] at HB
  have HR := rightsOf_any ts w N hN hT
  have HS := fun w => has_any (rOf ts).h (k : Int) w
  have HF := fld_h (rOf ts)
  generalize rOf ts = r at *
  generalize ptrOf ts = V at *
  obtain ⟨E, hE⟩ : ∃ E, E = hasE r.h k := ⟨_, rfl⟩
  rw [← hE] at HS ⊢
  clear hE
  simp only [Option.getD_some, Option.isSome_some] at HB
  go_enter Tryd.func36, Tryd.ntmps36
  go_wp2_with (first
    | (go_at_call 25; refine HB.mono ?_; rintro e w1 ⟨rfl, rfl⟩)
    | (go_at_call 58; refine HR.mono ?_; rintro e w2 ⟨rfl, b2⟩)
    | (go_at_call 57; refine (HS _).mono ?_; rintro e w3 ⟨rfl, rfl⟩)
    | fail)
  go_ret
  exact ⟨rfl, b2⟩
set_option maxRecDepth 100000 in
theorem Helper_none (ts : List Tk) (h : Int) (hk : bitOf h = none) (w : World) (N : Nat) (hH : Hp w) :
    Calls Tryd.prog 36 #[ptrOf ts, .int .i32 h] w fun e w' => e = .returned (.int .i64 22) ∧ Below N w w' := by
  have HB := Bit_any h w hH
  rw [hk] at HB
  generalize ptrOf ts = V at *
  simp only [Option.getD_none, Option.isSome_none] at HB
  go_enter Tryd.func36, Tryd.ntmps36
  go_wp2_with (first
    | (go_at_call 25; refine HB.mono ?_; rintro e w1 ⟨rfl, rfl⟩)
    | fail)
  go_ret
  exact ⟨rfl, Below.refl _ _⟩
theorem Helper_any (ts : List Tk) (h : Int) (w : World) (N : Nat) (hN : Sz w N) (hH : Hp w) (hT : Tks w ts) :
    Calls Tryd.prog 36 #[ptrOf ts, .int .i32 h] w fun e w' => e = .returned (.int .i64 (helpE (rOf ts) h)) ∧ Below N w w' := by
  unfold helpE
  cases hb : bitOf h with
  | none => exact Helper_none ts h hb w N hH
  | some k => exact Helper_some ts h k hb w N hN hH hT
end Go.Proofs.YtilhkgbninbkkaaDoor
