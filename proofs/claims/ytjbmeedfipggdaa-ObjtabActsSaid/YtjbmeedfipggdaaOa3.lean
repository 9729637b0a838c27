/- The walk of ObjtabActs where the size is none. -/
import Derived.Test.YtjbmeedfipggdaaOa1
namespace Go.Proofs.Ytjbmeedfipggdaa
open Go Go.RowKit
set_option maxRecDepth 100000 in
set_option maxHeartbeats 4000000 in
theorem law_oacts_bad (sz : Int) (p0 : Option Addr) (m cap0 : Nat) (w : World) (N : Nat) (hN : Sz w N) (hbad : sz < 1 ∨ 64 < sz) :
    Calls Try.prog 3 #[.int .i64 sz, .slice p0 m cap0] w fun e w' => e = .returned (.bool true) ∧ Below N w w' := by
  have t1 : sz < 1 ∨ (¬ (sz < 1) ∧ 64 < sz) := by omega
  have HB := hid hbad
  clear hbad
  rcases t1 with t1 | ⟨t1, t2⟩
  all_goals
    go_enter Try.func3, Try.ntmps3
    go_wp2_with (first
      | (go_at_call 9; refine (onone_any _).mono ?_; rintro e w1 ⟨rfl, rfl⟩)
      | (go_at_call 10; refine (MakeI_nil 1 _).mono ?_; rintro e w1 ⟨rfl, rfl⟩)
      | (go_at_call 11; refine (DropI_nil 1 _).mono ?_; rintro e w1 ⟨rfl, rfl⟩)
      | (go_at_call 12; refine (GetI_nil 1 _).mono ?_; rintro e w1 ⟨rfl, rfl⟩)
      | (go_at_call 14; refine (HoldI_nil 1 _).mono ?_; rintro e w1 ⟨rfl, rfl⟩)
      | (go_at_call 15; refine (HeldI_nil 1 _).mono ?_; rintro e w1 ⟨rfl, rfl⟩)
      | (go_at_call 16; refine (LiveI_nil _).mono ?_; rintro e w1 ⟨rfl, rfl⟩)
      | (go_at_call 13; refine (holds_any _ N hN).mono ?_; rintro e w2 ⟨rfl, hb2⟩)
      | (go_at_call 17; refine (ONewI_bad sz HB.out _).mono ?_; rintro e w1 ⟨rfl, rfl⟩)
      | fail)
    go_ret
    exact ⟨rfl, hb2⟩
end Go.Proofs.Ytjbmeedfipggdaa
