/- Laws of space: within, none, build; Up; calls of no tree. -/
import Derived.Test.YtcbcnhkalchpbaaSp5
import Derived.Test.YtcbcnhkalchpbaaQTail
namespace Go.Proofs.Ytcbcnhkalchpbaa
open Go Go.RowKit
set_option maxRecDepth 100000 in
theorem Up_in (b c : Nat) (f : Nat → Nat) (n : Nat) (hn : n < c) (w : World) (hT : Tr w b c f) :
    Calls Try.prog 9 #[.pointer (some ⟨b, 0, none⟩), .int .i64 (n : Int)] w fun e w' => e = .returned (.tuple #[.int .i64 (f n : Nat), .int .i64 0]) ∧ w' = w := by
  have c8 := hT.c8
  have HF := find_any b c f n w hT
  rw [isIn_nat hn, if_pos rfl] at HF
  have cn := hT.at n (by omega)
  have n0 : (0 : Int) ≤ (n : Int) := by omega
  have n8 : (n : Int) < 8 := by omega
  generalize f n = z at cn ⊢
  go_enter Try.func9, Try.ntmps9
  go_wp2_with (first
    | (go_at_call 20; refine HF.mono ?_; rintro e w1 ⟨rfl, rfl⟩)
    | fail)
  go_ret2
  exact ⟨rfl, rfl⟩
set_option maxRecDepth 100000 in
theorem Up_out (b c : Nat) (f : Nat → Nat) (n : Int) (hn : isIn c n = false) (w : World) (hT : Tr w b c f) :
    Calls Try.prog 9 #[.pointer (some ⟨b, 0, none⟩), .int .i64 n] w fun e w' => e = .returned (.tuple #[.int .i64 0, .int .i64 2]) ∧ w' = w := by
  have HF := find_any b c f n w hT
  rw [hn, if_neg (by decide)] at HF
  go_enter Try.func9, Try.ntmps9
  go_wp2_with (first
    | (go_at_call 20; refine HF.mono ?_; rintro e w1 ⟨rfl, rfl⟩)
    | fail)
  go_ret2
  exact ⟨rfl, rfl⟩
set_option maxRecDepth 100000 in
theorem Up_nil (n : Int) (w : World) : Calls Try.prog 9 #[.pointer none, .int .i64 n] w fun e w' => e = .returned (.tuple #[.int .i64 0, .int .i64 22]) ∧ w' = w := by
  go_enter Try.func9, Try.ntmps9
  go_wp2_with (first
    | (go_at_call 20; refine (find_nil n _).mono ?_; rintro e w1 ⟨rfl, rfl⟩)
    | fail)
  go_ret2
  exact ⟨rfl, rfl⟩
set_option maxRecDepth 100000 in
theorem Make_nil (n : Int) (w : World) : Calls Try.prog 8 #[.pointer none, .int .i64 n] w fun e w' => e = .returned (.tuple #[.int .i64 0, .int .i64 22]) ∧ w' = w := by
  go_enter Try.func8, Try.ntmps8
  go_wp2_with (first
    | (go_at_call 10; refine (Depth_nil n _).mono ?_; rintro e w1 ⟨rfl, rfl⟩)
    | fail)
  go_ret2
  exact ⟨rfl, rfl⟩
set_option maxRecDepth 100000 in
theorem Path_nil (n : Int) (w : World) : Calls Try.prog 14 #[.pointer none, .int .i64 n] w fun e w' => e = .returned (.slice none 0 0) ∧ w' = w := by
  go_enter Try.func14, Try.ntmps14
  go_wp2_with (first
    | (go_at_call 20; refine (find_nil n _).mono ?_; rintro e w1 ⟨rfl, rfl⟩)
    | fail)
  go_ret
  exact ⟨rfl, rfl⟩
set_option maxRecDepth 100000 in
theorem Inside_nil (n o : Int) (w : World) : Calls Try.prog 12 #[.pointer none, .int .i64 n, .int .i64 o] w fun e w' => e = .returned (.bool false) ∧ w' = w := by
  go_enter Try.func12, Try.ntmps12
  go_wp2_with (first
    | (go_at_call 14; refine (Path_nil n _).mono ?_; rintro e w1 ⟨rfl, rfl⟩)
    | (go_at_call 21; refine (Contains_nil o _).mono ?_; rintro e w2 ⟨rfl, rfl⟩)
    | fail)
  go_ret
  exact ⟨rfl, rfl⟩
set_option maxRecDepth 100000 in
theorem Len_nil (w : World) : Calls Try.prog 13 #[.pointer none] w fun e w' => e = .returned (.int .i64 0) ∧ w' = w := by
  go_enter Try.func13, Try.ntmps13
  go_wp2
  go_ret
  exact ⟨rfl, rfl⟩
set_option maxRecDepth 100000 in
theorem within_any (w : World) (N : Nat) (hN : Sz w N) :
    Calls Try.prog 11 #[] w fun e w' => e = .returned (.bool true) ∧ Below N w w' := by
  have d0 : Dec (fun _ => 0) 1 := fun j h1 h2 => by omega
  have d1 : Dec (addU (fun _ => 0) 1 0) 2 := dec_add d0 (by omega)
  have e0 : ups (fun _ => 0) 0 = [0] := rfl
  have e1 : ups (addU (fun _ => 0) 1 0) 1 = [1, 0] := by decide
  have e2 : ups (addU (addU (fun _ => 0) 1 0) 2 1) 2 = [2, 1, 0] := by decide
  have i1 : insI (addU (addU (fun _ => 0) 1 0) 2 1) 3 2 0 = true := by decide
  have i2 : insI (addU (addU (fun _ => 0) 1 0) 2 1) 3 0 2 = false := by decide
  have M1 := fun w hN hT => Make_ok N 1 (fun _ => 0) 0 (by omega) (by rw [e0]; simp) (by omega) w (N + 1) hN hT
  have M2 := fun w M hM hT => Make_ok N 2 (addU (fun _ => 0) 1 0) 1 (by omega) (by rw [e1]; simp) (by omega) w M hM hT
  have I1 := fun w M hM hT => Inside_any N 3 (addU (addU (fun _ => 0) 1 0) 2 1) 2 0 w M hM hT
  have I2 := fun w M hM hT => Inside_any N 3 (addU (addU (fun _ => 0) 1 0) 2 1) 0 2 w M hM hT
  have P := fun w M hM hT => Path_in N 3 (addU (addU (fun _ => 0) 1 0) 2 1) 2 (by omega) w M hM hT
  rw [i1] at I1
  rw [i2] at I2
  rw [e2] at P
  clear d0 d1 e0 e1 e2 i1 i2
  go_enter Try.func11, Try.ntmps11
  go_wp2_with fail
  refine (New_any _ N hN).mono ?_
  rintro e w1 ⟨rfl, hb1, T1, hN1⟩
  go_wp2_with fail
  refine (M1 _ hN1 T1).mono ?_
  rintro e w2 ⟨rfl, t2, T2⟩
  obtain ⟨K2, hK2⟩ := sz_some w2
  have l2 := sz_turn t2 hN1 hK2
  go_wp2_with fail
  refine (M2 _ K2 hK2 T2).mono ?_
  rintro e w3 ⟨rfl, t3, T3⟩
  obtain ⟨K3, hK3⟩ := sz_some w3
  have l3 := sz_turn t3 hK2 hK3
  have b3 : Below N w w3 := t3.below (t2.below hb1 (fun j h => by omega) (by rw [show w1.heap.size = N + 1 from hN1]; omega)) (fun j h => by omega) (by rw [show w2.heap.size = K2 from hK2]; omega)
  go_wp2_with fail
  refine (I1 _ K3 hK3 T3).mono ?_
  rintro e w4 ⟨rfl, b4⟩
  have T4 := T3.below hK3 b4
  obtain ⟨K4, hK4⟩ := sz_some w4
  have l4 := below_sz b4 hK3 hK4
  go_wp2_with fail
  refine (I2 _ K4 hK4 T4).mono ?_
  rintro e w5 ⟨rfl, b5⟩
  have T5 := T4.below hK4 b5
  obtain ⟨K5, hK5⟩ := sz_some w5
  have l5 := below_sz b5 hK4 hK5
  go_wp2_with fail
  refine (P _ K5 hK5 T5).mono ?_
  rintro e w6 ⟨g, cap, rfl, hg, hO, b6⟩
  go_wp2_with fail
  go_ret
  exact ⟨rfl, ((b3.trans (b4.mono (by omega))).trans (b5.mono (by omega))).trans (b6.mono (by omega))⟩
end Go.Proofs.Ytcbcnhkalchpbaa
