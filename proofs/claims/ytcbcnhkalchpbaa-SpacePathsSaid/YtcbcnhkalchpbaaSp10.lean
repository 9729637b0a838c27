/- SpacePaths: the walk. -/
import Derived.Test.YtcbcnhkalchpbaaSp7
import Derived.Test.YtcbcnhkalchpbaaAts2
namespace Go.Proofs.Ytcbcnhkalchpbaa
open Go Go.RowKit
set_option maxRecDepth 100000 in
set_option maxHeartbeats 2000000 in
theorem law_spaths (q : Option Addr) (n cap : Nat) (Z : Nat → Int) (w : World) (N : Nat) (hN : Sz w N) (hn : n ≤ 9223372036854775807) (hZ : Ats w q n (fun j => .int .i64 (Z j))) :
    Calls Try.prog 6 #[.slice q n cap] w fun e w' => e = .returned (.bool true) ∧ Below N w w' := by
  go_enter Try.func6, Try.ntmps6
  go_wp2_with fail
  refine (build_any q n cap Z _ N hN hn hZ).mono ?_
  rintro e w2 ⟨b, c, f, rb, p, cp, rfl, B2⟩
  obtain ⟨M2, hM2⟩ := sz_some w2
  have l2 := below_sz B2.bel hN hM2
  go_wp2_with fail
  refine (within_any _ M2 hM2).mono ?_
  rintro e w3 ⟨rfl, b3⟩
  have B3 := B2.below hM2 l2 b3
  have T0 := hid B3.t
  have L0 := B3.bel
  have lb := B3.lb
  clear B2 B3 b3 hM2 l2
  go_wp2_with fail
  go_loopg [6] c (fun g i wr => ∃ k : Nat, k ≤ c ∧ g = c - k ∧ i = .int .i64 (k : Int) ∧ Tr wr b c f ∧ Below N w wr)
  case atStart => exact ⟨0, by omega, rfl, rfl, T0.out, L0⟩
  case round =>
    clear T0 L0
    obtain ⟨k, hk, rfl, rfl, T, lo⟩ := hrel
    obtain ⟨M, hM⟩ := sz_some wr
    have lM := below_sz lo hN hM
    have c8 := T.c8
    have c8' : (c : Int) ≤ 8 := by omega
    have k0 : (0 : Int) ≤ (k : Int) := by omega
    by_cases hlt : k < c
    · have t1 : (k : Int) < (c : Int) := by omega
      have hl := ups_len T.dec k hlt
      have hp := ups_pos f k
      have w0 : way f k 0 = 0 := way_zero T.dec hlt
      have wl : way f k ((ups f k).length - 1) = k := way_end
      have wu : ∀ i, 1 ≤ i → i < (ups f k).length → f (way f k i) = way f k (i - 1) ∧ way f k i ≤ k ∧ way f k i ≠ 0 ∧ way f k i ∈ ups f k := fun i h1 h2 => way_up T.dec hlt h1 h2
      have D := hid T.dec
      have CP := fun w M hM hT => Path_in b c f k hlt w M hM hT
      have CD := fun w M hM hT => Depth_any b c f (k : Int) w M hM hT
      rw [depth_nat hlt, errIn_nat hlt] at CD
      obtain ⟨L, hL⟩ : ∃ L, L = (ups f k).length - 1 := ⟨_, rfl⟩
      have hL2 : (ups f k).length = L + 1 := by omega
      rw [hL2] at wu CP
      rw [← hL] at CD wl
      have Wu := hid wu
      have W0 := hid w0
      have Wl := hid wl
      clear wu w0 wl hp
      have L8 : (L : Int) ≤ 8 := by omega
      have L0 : (0 : Int) ≤ (L : Int) := by omega
      have L1 : (L : Int) < (L : Int) + 1 := by omega
      clear hL hL2 hl
      go_wp2_with fail
      refine (Len_any b c f wr T).mono ?_
      rintro e x1 ⟨rfl, e1⟩
      subst e1
      go_wp2_with fail
      refine (CP _ M hM T).mono ?_
      rintro e x2 ⟨g, pc, rfl, hg, hO, b2⟩
      have T2 := T.below hM b2
      obtain ⟨M2, hM2⟩ := sz_some x2
      have l2 := below_sz b2 hM hM2
      have lo2 := lo.trans (b2.mono lM)
      have hgM : g < M2 := by have := hO.lt g rfl; rwa [show x2.heap.size = M2 from hM2] at this
      go_wp2_with fail
      refine (CD _ M2 hM2 T2).mono ?_
      rintro e x3 ⟨rfl, b3⟩
      have T3 := T2.below hM2 b3
      have O3 := hO.below b3 (Nat.le_of_eq hM2)
      have lo3 := lo2.trans (b3.mono (show N ≤ M2 by omega))
      have hbM := T.h.ltN hM
      have d0 : x3.cell? ⟨g, 0, none⟩ = some (.int .i64 0) := ((O3.at 0 (by omega)).1).trans (by show some (In _) = _; rw [W0.out]; rfl)
      have dL : x3.cell? ⟨g, L, none⟩ = some (.int .i64 (k : Int)) := ((O3.at L (by omega)).1).trans (by show some (In _) = _; rw [Wl.out]; rfl)
      clear T2 hO b2 b3 lo2 hM2 l2
      go_wp2_with fail
      clear d0 dL
      have T0 := hid T3
      have O0 := hid O3
      clear T3 O3
      go_loopg [10] L (fun m i wr => ∃ j : Nat, j ≤ L ∧ m = L - j ∧ i = .int .i64 ((j : Int) + 1) ∧ Tr wr b c f ∧ Own wr 3 (some ⟨g, 0, none⟩) (L + 1) pc (fun j => In (way f k j)) ∧ Below N w wr)
      case atStart => exact ⟨0, by omega, rfl, rfl, T0.out, O0.out, lo3⟩
      case round =>
        clear T0 O0 lo3 lo T hM
        obtain ⟨j, hj, rfl, rfl, T, hO, lo⟩ := hrel
        obtain ⟨M, hM⟩ := sz_some wr
        have lM' := below_sz lo hN hM
        have j0 : (0 : Int) ≤ (j : Int) := by omega
        by_cases hj2 : j < L
        · have t2 : (j : Int) + 1 < (L : Int) + 1 := by omega
          have t3 : (j : Int) < (L : Int) + 1 := by omega
          obtain ⟨u1, u2, u3, u4⟩ := Wu.out (j + 1) (by omega) (by omega)
          rw [Nat.add_sub_cancel] at u1
          have dj : wr.cell? ⟨g, j, none⟩ = some (.int .i64 (way f k j : Nat)) := (hO.at j (by omega)).1
          have dj1 : wr.cell? ⟨g, j + 1, none⟩ = some (.int .i64 (way f k (j + 1) : Nat)) := (hO.at (j + 1) (by omega)).1
          have hins : insI f c (k : Int) ((way f k (j + 1) : Nat) : Int) = true := (ins_nat hlt).2 u4
          have CU := fun w hT => Up_in b c f (way f k (j + 1)) (by omega) w hT
          have CI := fun w M hM hT => Inside_any b c f (k : Int) ((way f k (j + 1) : Nat) : Int) w M hM hT
          rw [hins] at CI
          rw [u1] at CU
          clear u1 u2 u3 u4 hins
          obtain ⟨y, hy⟩ : ∃ y, y = way f k (j + 1) := ⟨_, rfl⟩
          obtain ⟨z, hz⟩ : ∃ z, z = way f k j := ⟨_, rfl⟩
          rw [← hy] at CU CI dj1
          rw [← hz] at CU dj
          clear hy hz
          go_wp2_with fail
          refine (CU _ T).mono ?_
          rintro e y1 ⟨rfl, e1⟩
          subst e1
          go_wp2_with fail
          refine (CI _ M hM T).mono ?_
          rintro e y2 ⟨rfl, b2⟩
          have T2 := T.below hM b2
          have O2 := hO.below b2 (Nat.le_of_eq hM)
          have lo2 := lo.trans (b2.mono lM')
          clear dj dj1
          go_wp2_with fail
          go_roundg (L - (j + 1))
          case measure => omega
          case rel => exact ⟨j + 1, by omega, rfl, by go_num, T2, O2, lo2⟩
        · obtain rfl : j = L := by omega
          have t2 : ¬ ((j : Int) + 1 < (j : Int) + 1) := by omega
          obtain ⟨hc0, hf0⟩ := hO.at 0 (by omega)
          have t4 : (0 : Int) < (j : Int) + 1 := by omega
          have hbg : b ≠ g := by omega
          go_wp2_with fail
          have T5 : Tr (wr.setCell ⟨g, 0, none⟩ (.int .i64 5)) b c f := T.touch (touch_setCell wr ⟨g, 0, none⟩ (.int .i64 5)) hbg
          have lo5 : Below N w (wr.setCell ⟨g, 0, none⟩ (.int .i64 5)) := (touch_setCell wr ⟨g, 0, none⟩ (.int .i64 5)).below lo (by show N ≤ g; omega)
          have M5 : Sz (wr.setCell ⟨g, 0, none⟩ (.int .i64 5)) M := (touch_setCell wr ⟨g, 0, none⟩ (.int .i64 5)).sz hM
          generalize wr.setCell ⟨g, 0, none⟩ (.int .i64 5) = w5 at *
          refine (CP _ M M5 T5).mono ?_
          rintro e w6 ⟨g6, pc6, rfl, hg6, hO6, b6⟩
          have d6 : w6.cell? ⟨g6, 0, none⟩ = some (.int .i64 0) := ((hO6.at 0 (by omega)).1).trans (by show some (In _) = _; rw [W0.out]; rfl)
          have T6 := T5.below M5 b6
          have lo6 := lo5.trans (b6.mono lM')
          clear hc0 hf0
          go_wp2_with fail
          go_roundg (c - (k + 1))
          case measure => omega
          case rel => exact ⟨k + 1, by omega, rfl, by go_num, T6, lo6⟩
    · have t1 : ¬ (k : Int) < (c : Int) := by omega
      go_wp2_with fail
      refine (Len_any b c f wr T).mono ?_
      rintro e x1 ⟨rfl, e1⟩
      subst e1
      go_wp2_with fail
      go_ret
      exact ⟨rfl, lo⟩
end Go.Proofs.Ytcbcnhkalchpbaa
