/- Contracts of space: Depth, Inside, New, Make. -/
import Derived.Test.YtilhkgbninbkkaaDoorSp2
namespace Go.Proofs.YtilhkgbninbkkaaDoor
open Go Go.RowKit
def depthOf (f : Nat → Nat) (c : Nat) (n : Int) : Nat := if isIn c n then (ups f n.toNat).length - 1 else 0
def errIn (c : Nat) (n : Int) : Int := if isIn c n then 0 else 2
theorem depth_nat {f : Nat → Nat} {c n : Nat} (h : n < c) : depthOf f c (n : Int) = (ups f n).length - 1 := by
  unfold depthOf; rw [isIn_nat h, if_pos rfl, Int.toNat_natCast]
theorem errIn_nat {c n : Nat} (h : n < c) : errIn c (n : Int) = 0 := by unfold errIn; rw [isIn_nat h, if_pos rfl]
set_option maxRecDepth 100000 in
theorem Depth_any (b c : Nat) (f : Nat → Nat) (n : Int) (w : World) (N : Nat) (hN : Sz w N) (hT : Tr w b c f) :
    Calls Tryd.prog 53 #[.pointer (some ⟨b, 0, none⟩), .int .i64 n] w fun e w' => e = .returned (.tuple #[.int .i64 (depthOf f c n : Nat), .int .i64 (errIn c n)]) ∧ Below N w w' := by
  have HF := find_any b c f n w hT
  cases hb : isIn c n
  · rw [hb, if_neg (by decide)] at HF
    have e1 : depthOf f c n = 0 := by unfold depthOf; rw [hb]; rfl
    have e2 : errIn c n = 2 := by unfold errIn; rw [hb]; rfl
    rw [e1, e2]
    go_enter Tryd.func53, Tryd.ntmps53
    go_wp2_with (first
      | (go_at_call 71; refine HF.mono ?_; rintro e w1 ⟨rfl, rfl⟩)
      | fail)
    go_ret2
    exact ⟨rfl, Below.refl _ _⟩
  · rw [hb, if_pos rfl] at HF
    obtain ⟨k, rfl, hk⟩ := isIn_get hb
    rw [depth_nat hk, errIn_nat hk]
    have hl := ups_len hT.dec k hk
    have hp := ups_pos f k
    have c8 := hT.c8
    obtain ⟨L, hL⟩ : ∃ L, L = (ups f k).length := ⟨_, rfl⟩
    have HP := fun w hN hT => Path_in b c f k hk w N hN hT
    rw [← hL] at HP hl hp ⊢
    clear hL
    have e1 : ((L - 1 : Nat) : Int) = (L : Int) - 1 := by omega
    rw [e1]
    have l8 : (L : Int) ≤ 9 := by omega
    have l1 : (1 : Int) ≤ (L : Int) := by omega
    clear e1
    go_enter Tryd.func53, Tryd.ntmps53
    go_wp2_with (first
      | (go_at_call 71; refine HF.mono ?_; rintro e w1 ⟨rfl, rfl⟩)
      | (go_at_call 61; refine (HP _ hN hT).mono ?_; rintro e w2 ⟨g, cap, rfl, hg, hO, hb2⟩)
      | fail)
    go_ret2
    exact ⟨rfl, hb2⟩
/-- Is o one of n's way? -/
def insI (f : Nat → Nat) (c : Nat) (n o : Int) : Bool := isIn c n && (ups f n.toNat).any (fun x => (x : Int) == o)
theorem ins_iff {f : Nat → Nat} {c n : Nat} (h : n < c) (o : Int) : insI f c (n : Int) o = true ↔ ∃ j, j < (ups f n).length ∧ ((way f n j : Nat) : Int) = o := by
  unfold insI
  rw [isIn_nat h, Bool.true_and, Int.toNat_natCast, List.any_eq_true]
  constructor
  · rintro ⟨x, hx, e⟩
    obtain ⟨i, hi, e2⟩ := List.mem_iff_getElem.1 hx
    refine ⟨(ups f n).length - 1 - i, by omega, ?_⟩
    unfold way
    rw [show (ups f n).length - 1 - ((ups f n).length - 1 - i) = i by omega]
    simp [hi, e2]
    simpa using e
  · rintro ⟨j, hj, e⟩
    refine ⟨way f n j, ?_, by simpa using e⟩
    unfold way
    have hlt : (ups f n).length - 1 - j < (ups f n).length := by omega
    simp [hlt]
theorem ins_nat {f : Nat → Nat} {c n o : Nat} (h : n < c) : insI f c (n : Int) (o : Int) = true ↔ o ∈ ups f n := by
  unfold insI
  rw [isIn_nat h, Bool.true_and, Int.toNat_natCast, List.any_eq_true]
  constructor
  · rintro ⟨x, hx, e⟩
    have : x = o := by have : (x : Int) = (o : Int) := by simpa using e
                       omega
    rw [← this]; exact hx
  · intro h
    exact ⟨o, h, by simp⟩
set_option maxRecDepth 100000 in
theorem Inside_any (b c : Nat) (f : Nat → Nat) (n o : Int) (w : World) (N : Nat) (hN : Sz w N) (hT : Tr w b c f) :
    Calls Tryd.prog 47 #[.pointer (some ⟨b, 0, none⟩), .int .i64 n, .int .i64 o] w fun e w' => e = .returned (.bool (insI f c n o)) ∧ Below N w w' := by
  cases hb : isIn c n
  · have HP := Path_out b c f n hb w hT
    have e1 : insI f c n o = false := by unfold insI; rw [hb]; rfl
    rw [e1]
    go_enter Tryd.func47, Tryd.ntmps47
    go_wp2_with (first
      | (go_at_call 61; refine HP.mono ?_; rintro e w2 ⟨rfl, rfl⟩)
      | (go_at_call 60; refine (Contains_nil o _).mono ?_; rintro e w2 ⟨rfl, rfl⟩)
      | fail)
    go_ret
    exact ⟨rfl, Below.refl _ _⟩
  · obtain ⟨k, rfl, hk⟩ := isIn_get hb
    have hl := ups_len hT.dec k hk
    have c8 := hT.c8
    have HI := hid (ins_iff (f := f) hk o)
    go_enter Tryd.func47, Tryd.ntmps47
    go_wp2_with (first
      | (go_at_call 61; refine (Path_in b c f k hk _ N hN hT).mono ?_; rintro e w2 ⟨g, cap, rfl, hg, hO, hb2⟩)
      | (go_at_call 60; refine (Contains_any g 0 _ cap (fun j => (way f k j : Nat)) o (insI f c k o) HI.out (by omega) _ (fun j hj => by rw [Nat.zero_add]; exact (hO.at j hj).1)).mono ?_; rintro e w3 ⟨rfl, rfl⟩)
      | fail)
    go_ret
    exact ⟨rfl, hb2⟩
set_option maxRecDepth 100000 in
theorem New_any (w : World) (N : Nat) (hN : Sz w N) :
    Calls Tryd.prog 29 #[] w fun e w' => e = .returned (.pointer (some ⟨N, 0, none⟩)) ∧ Below N w w' ∧ Tr w' N 1 (fun _ => 0) ∧ Sz w' (N + 1) := by
  go_enter Tryd.func29, Tryd.ntmps29
  go_wp2_with (first
    | (refine wpl_build rfl 94 _ rfl (cellsOf (trC (fun _ => 0) 1) 9) (by kernel_rfl) ?_)
    | (refine wpl_box rfl 94 (.tmp 1) rfl 9 _ rfl N hN ?_; intro w2 hN2 hb2 hh2)
    | fail)
  go_ret
  exact ⟨rfl, hb2, ⟨hh2, by omega, by omega, rfl, fun j h1 h2 => by omega⟩, hN2⟩
theorem trC_add (f : Nat → Nat) (c up j : Nat) (hc : c < 8) (hj : j < 9) : upd (upd (trC f c) c (.int .i64 (up : Int))) 8 (.int .i64 ((c + 1 : Nat) : Int)) j = trC (addU f c up) (c + 1) j := by
  unfold upd trC addU
  by_cases h8 : j = 8
  · subst h8; rw [if_pos rfl, if_neg (by omega)]
  · rw [if_neg h8, if_pos (show j < 8 by omega)]
    by_cases h : j = c
    · rw [if_pos h, if_pos h, if_pos (show j < 8 by omega)]
    · rw [if_neg h, if_neg h, if_pos (show j < 8 by omega)]
set_option maxRecDepth 100000 in
theorem Make_ok (b c : Nat) (f : Nat → Nat) (up : Nat) (hu : up < c) (h4 : (ups f up).length ≤ 4) (h8 : c < 8) (w : World) (N : Nat) (hN : Sz w N) (hT : Tr w b c f) :
    Calls Tryd.prog 38 #[.pointer (some ⟨b, 0, none⟩), .int .i64 (up : Int)] w fun e w' => e = .returned (.tuple #[.int .i64 (c : Int), .int .i64 0]) ∧ Turn (fun k => k = b) w w' ∧ Tr w' b (c + 1) (addU f c up) := by
  have HD := Depth_any b c f up w N hN hT
  rw [depth_nat hu, errIn_nat hu] at HD
  obtain ⟨D, hD⟩ : ∃ D, D = (ups f up).length - 1 := ⟨_, rfl⟩
  rw [← hD] at HD
  have t1 : ¬ (4 : Int) ≤ (D : Int) := by omega
  have t2 : ¬ (8 : Int) ≤ (c : Int) := by omega
  have t3 : (c : Int) < 8 := by omega
  have t0 : (0 : Int) ≤ (c : Int) := by omega
  have t4 : (up : Int) ≤ 8 := by omega
  clear hD
  go_enter Tryd.func38, Tryd.ntmps38
  go_wp2_with (first
    | (go_at_call 53; refine HD.mono ?_; rintro e w1 ⟨rfl, hb1⟩; have T1 := hT.below hN hb1; have c1 := T1.cnt)
    | (refine wpl_set rfl 3 (.tmp 34) (.tmp 31) rfl b c rfl (.int .i64 (up : Int)) rfl infInt rfl rfl 94 9 _ T1.h (by omega) ?_; intro w2 ht2 hh2; have c2 : w2.cell? ⟨b, 8, none⟩ = some (.int .i64 (c : Int)) := (hh2.cell (by omega)).trans (by unfold upd trC; rw [if_neg (by omega), if_neg (by omega)]))
    | (refine wpl_set rfl 3 (.tmp 41) (.tmp 39) rfl b 8 rfl (.int .i64 ((c + 1 : Nat) : Int)) (by rfl) infInt rfl rfl 94 9 _ hh2 (by omega) ?_; intro w3 ht3 hh3)
    | fail)
  go_ret2
  refine ⟨rfl, ?_, ⟨hh3.congr (fun j hj => trC_add f c up j h8 hj), by omega, by omega, ?_, dec_add hT.dec hu⟩⟩
  · exact ((turn_below hN hb1 (fun k => k = b)).trans ht2.turn (fun j h _ => h)).trans ht3.turn (fun j h _ => h)
  · unfold addU
    have := hT.c1
    rw [if_neg (by omega)]; exact hT.z
end Go.Proofs.YtilhkgbninbkkaaDoor
