/- SpaceMakes: the walk. -/
import Derived.Test.YtcbcnhkalchpbaaSp7
import Derived.Test.YtcbcnhkalchpbaaAts2
import Derived.Deep.CutBlock
import Derived.Deep.DeepCutAuto
import Derived.Deep.QuietTactic
import Derived.BigQuiet
namespace Go.Proofs.Ytcbcnhkalchpbaa
open Go Go.RowKit
set_option maxRecDepth 100000 in
theorem none_any (w : World) : Calls Try.prog 7 #[] w fun e w' => e = .returned (.pointer none) ∧ w' = w := by
  go_enter Try.func7, Try.ntmps7
  go_wp2
  go_ret
  exact ⟨rfl, rfl⟩
set_option maxRecDepth 100000 in
set_option maxHeartbeats 2000000 in
theorem law_smakes (q : Option Addr) (n cap : Nat) (Z : Nat → Int) (m o : Int) (w : World) (N : Nat) (hN : Sz w N) (hn : n ≤ 9223372036854775807) (hZ : Ats w q n (fun j => .int .i64 (Z j))) :
    Calls Try.prog 3 #[.slice q n cap, .int .i64 m, .int .i64 o] w fun e w' => e = .returned (.bool true) ∧ Below N w w' := by
  go_enter Try.func3, Try.ntmps3
  go_wp2_with (first
    | (go_at_call 7; refine (none_any _).mono ?_; rintro e wn ⟨rfl, en⟩; have en := en.symm; subst en)
    | (go_at_call 8; refine (Make_nil 0 _).mono ?_; rintro e wn ⟨rfl, en⟩; have en := en.symm; subst en)
    | (go_at_call 9; refine (Up_nil 0 _).mono ?_; rintro e wn ⟨rfl, en⟩; have en := en.symm; subst en)
    | (go_at_call 10; refine (Depth_nil 0 _).mono ?_; rintro e wn ⟨rfl, en⟩; have en := en.symm; subst en)
    | fail)
  refine (within_any _ N hN).mono ?_
  rintro e w1 ⟨rfl, b1⟩
  obtain ⟨M1, hM1⟩ := sz_some w1
  have l1 := below_sz b1 hN hM1
  have hZ1 := hZ.below hN b1
  go_wp2_with (first
    | (go_at_call 7; refine (none_any _).mono ?_; rintro e wn ⟨rfl, en⟩; have en := en.symm; subst en)
    | (go_at_call 12; refine (Inside_nil 0 0 _).mono ?_; rintro e wn ⟨rfl, en⟩; have en := en.symm; subst en)
    | (go_at_call 13; refine (Len_nil _).mono ?_; rintro e wn ⟨rfl, en⟩; have en := en.symm; subst en)
    | (go_at_call 14; refine (Path_nil 0 _).mono ?_; rintro e wn ⟨rfl, en⟩; have en := en.symm; subst en)
    | fail)
  refine (build_any q n cap Z _ M1 hM1 hn hZ1).mono ?_
  rintro e w2 ⟨b, c, f, rb, p, cp, rfl, B⟩
  have lo := b1.trans (B.bel.mono l1)
  go_upto_region 7 with fail
  have c0 := B.r.cell
  have LQ := fun k => Len_any b c f (w2.drewN k) (B.drewN k).t
  go_quiet ((go_at_call 13; exact Calls.quiet_of_same (LQ _)))
  clear LQ c0
  have B3 := B.drewN nq
  have lo3 := below_drewN lo nq
  generalize w2.drewN nq = w3 at *
  obtain ⟨M3, hM3⟩ := sz_some w3
  have l3 := below_sz lo3 hN hM3
  have l13 := below_sz B3.bel hM1 hM3
  clear B lo hZ1 hZ b1
  cases hin : isIn c m
  · have Hin := hid hin
    have CD := fun w M hM hT => Depth_any b c f m w M hM hT
    have e1 : depthOf f c m = 0 := by unfold depthOf; rw [hin]; rfl
    have e2 : errIn c m = 2 := by unfold errIn; rw [hin]; rfl
    rw [e1, e2] at CD
    have CH := fun w (hT : RTr w rb c p cp f) => Has_any rb c cp p f m w hT
    rw [hin] at CH
    clear e1 e2
    go_wp2_with fail
    refine (Up_out b c f m hin w3 B3.t).mono ?_
    rintro e x1 ⟨rfl, ex1⟩
    subst ex1
    go_wp2_with fail
    refine (CD _ M3 hM3 B3.t).mono ?_
    rintro e x2 ⟨rfl, b2⟩
    have B4 := B3.below hM3 l13 b2
    have lo4 := lo3.trans (b2.mono l3)
    obtain ⟨M4, hM4⟩ := sz_some x2
    have l4 := below_sz b2 hM3 hM4
    clear B3 lo3 b2 hM3
    go_wp2_with fail
    refine (Path_out b c f m hin x2 B4.t).mono ?_
    rintro e x3 ⟨rfl, ex3⟩
    subst ex3
    go_wp2_with fail
    refine (RPath_out rb c cp p f m hin x3 B4.r).mono ?_
    rintro e x4 ⟨rfl, ex4⟩
    subst ex4
    go_wp2_with fail
    refine (CH x4 B4.r).mono ?_
    rintro e x5 ⟨rfl, ex5⟩
    subst ex5
    go_wp2_with fail
    refine (CH x5 B4.r).mono ?_
    rintro e x6 ⟨rfl, ex6⟩
    subst ex6
    go_wp2_with fail
    refine wp_loop_rounds 1 ?_
    rw [rounds_succ]
    go_wp2_with fail
    refine (Inside_any b c f m o x6 M4 hM4 B4.t).mono ?_
    rintro e x7 ⟨rfl, b7⟩
    have B7 := B4.below hM4 (by omega) b7
    have lo7 := lo4.trans (b7.mono (show N ≤ M4 by omega))
    obtain ⟨M7, hM7⟩ := sz_some x7
    have l7 := below_sz b7 hM4 hM7
    go_wp2_with fail
    refine (RInside_any rb c cp p f m o x7 M7 hM7 B7.r).mono ?_
    rintro e x8 ⟨rfl, b8⟩
    have lo8 := lo7.trans (b8.mono (show N ≤ M7 by omega))
    go_wp2_with fail
    go_ret
    exact ⟨by first | rfl | simp, lo8⟩
  · obtain ⟨k, rfl, hk⟩ := isIn_get hin
    have CD := fun w M hM hT => Depth_any b c f (k : Int) w M hM hT
    rw [depth_nat hk, errIn_nat hk] at CD
    have CH := fun w (hT : RTr w rb c p cp f) => Has_any rb c cp p f (k : Int) w hT
    rw [hin] at CH
    have hp := ups_pos f k
    have CP := fun w M hM hT => Path_in b c f k hk w M hM hT
    have CR := fun w M hM hT => RPath_in rb c cp p f k hk w M hM hT
    have hl := ups_len B3.t.dec k hk
    have c8 := B3.t.c8
    obtain ⟨L, hL⟩ : ∃ L, L = (ups f k).length - 1 := ⟨_, rfl⟩
    have hL2 : (ups f k).length = L + 1 := by omega
    rw [hL2] at CP CR
    rw [← hL] at CD
    have L8 : (L : Int) ≤ 8 := by omega
    have L0 : (0 : Int) ≤ (L : Int) := by omega
    have k0 : (0 : Int) ≤ (k : Int) := by omega
    have kc : (k : Int) < (c : Int) := by omega
    have c8i : (c : Int) ≤ 8 := by omega
    clear hL hL2 hl hp
    go_wp2_with fail
    refine (Up_in b c f k hk w3 B3.t).mono ?_
    rintro e x1 ⟨rfl, ex1⟩
    subst ex1
    go_wp2_with fail
    refine (CD _ M3 hM3 B3.t).mono ?_
    rintro e x2 ⟨rfl, b2⟩
    have B4 := B3.below hM3 l13 b2
    have lo4 := lo3.trans (b2.mono l3)
    obtain ⟨M4, hM4⟩ := sz_some x2
    have l4 := below_sz b2 hM3 hM4
    clear B3 lo3 b2 hM3
    go_wp2_with fail
    refine (CP _ M4 hM4 B4.t).mono ?_
    rintro e x3 ⟨g1, pc1, rfl, hg1, hO1, b3⟩
    have B5 := B4.below hM4 (by omega) b3
    have lo5 := lo4.trans (b3.mono (show N ≤ M4 by omega))
    obtain ⟨M5, hM5⟩ := sz_some x3
    have l5 := below_sz b3 hM4 hM5
    clear B4 lo4 b3 hM4
    go_wp2_with fail
    refine (CR _ M5 hM5 B5.r).mono ?_
    rintro e x4 ⟨g2, pc2, rfl, hg2, hO2, b4⟩
    have B6 := B5.below hM5 (by omega) b4
    have lo6 := lo5.trans (b4.mono (show N ≤ M5 by omega))
    have O1 := hO1.below b4 (Nat.le_of_eq hM5)
    obtain ⟨M6, hM6⟩ := sz_some x4
    have l6 := below_sz b4 hM5 hM6
    clear B5 lo5 b4 hM5 hO1
    have c0 := B6.r.cell
    obtain ⟨gp, ep, hgb, hcells⟩ := B6.r.ptr
    have cx := hcells k hk
    rw [ep] at c0
    have Ep := hid ep
    clear ep hcells
    obtain ⟨y, hy⟩ : ∃ y, y = f k := ⟨_, rfl⟩
    rw [← hy] at cx ⊢
    clear hy
    go_wp2_with fail
    refine (CH x4 B6.r).mono ?_
    rintro e x5 ⟨rfl, ex5⟩
    subst ex5
    go_wp2_with fail
    refine (CH x5 B6.r).mono ?_
    rintro e x6 ⟨rfl, ex6⟩
    subst ex6
    go_wp2_with fail
    clear c0 cx
    go_loopw [22] (fun i wr => ∃ j : Nat, j ≤ L + 1 ∧ i = .int .i64 (j : Int) ∧ Both w1 wr M1 b c f rb p cp ∧ Own wr 3 (some ⟨g1, 0, none⟩) (L + 1) pc1 (fun j => In (way f k j)) ∧ Own wr 3 (some ⟨g2, 0, none⟩) (L + 1) pc2 (fun j => In (way f k j)) ∧ Below N w wr) (fun i _ => L + 1 - (intOf i).toNat)
    case atStart => exact ⟨0, by omega, rfl, B6, O1, hO2, lo6⟩
    case round =>
      clear B6 O1 hO2 lo6 hM6 CP CR CH CD
      obtain ⟨j, hj, rfl, B, O1, O2, lo⟩ := hrel
      have j0 : (0 : Int) ≤ (j : Int) := by omega
      by_cases hlt : j < L + 1
      · have t1 : (j : Int) < (L : Int) + 1 := by omega
        have d1 : wr.cell? ⟨g1, j, none⟩ = some (.int .i64 (way f k j : Nat)) := (O1.at j hlt).1
        have d2 : wr.cell? ⟨g2, j, none⟩ = some (.int .i64 (way f k j : Nat)) := (O2.at j hlt).1
        generalize way f k j = z at d1 d2
        go_upto_region 17 with fail
        go_quiet (fail)
        go_wp2
        exact ⟨⟨j + 1, by omega, by go_num, B.drewN _, O1, O2, below_drewN lo _⟩, by simp [intOf]; omega⟩
      · obtain rfl : j = L + 1 := by omega
        obtain ⟨M, hM⟩ := sz_some wr
        have lM := below_sz lo hN hM
        have lM1 := below_sz B.bel hM1 hM
        have t1 : ¬ (((L + 1 : Nat) : Int) < (L : Int) + 1) := by omega
        go_wp2_with fail
        refine (Inside_any b c f (k : Int) o wr M hM B.t).mono ?_
        rintro e x7 ⟨rfl, b7⟩
        have B7 := B.below hM lM1 b7
        have lo7 := lo.trans (b7.mono lM)
        obtain ⟨M7, hM7⟩ := sz_some x7
        have l7 := below_sz b7 hM hM7
        go_wp2_with fail
        refine (RInside_any rb c cp p f (k : Int) o x7 M7 hM7 B7.r).mono ?_
        rintro e x8 ⟨rfl, b8⟩
        have lo8 := lo7.trans (b8.mono (show N ≤ M7 by omega))
        go_wp2_with fail
        go_ret
        exact ⟨by first | rfl | simp, lo8⟩
end Go.Proofs.Ytcbcnhkalchpbaa
