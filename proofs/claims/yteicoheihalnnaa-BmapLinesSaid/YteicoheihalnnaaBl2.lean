/- BmapLines: the walk. -/
import Derived.Test.YteicoheihalnnaaBl1
namespace Go.Proofs.Yteicoheihalnnaa
open Go Go.RowKit
set_option maxRecDepth 100000 in
set_option maxHeartbeats 4000000 in
theorem lines_3 (q0 : Option Addr) (l0 c0 : Nat) (D0 : Nat → BitVec 8) (w : World) (N : Nat) (hN : Sz w N) (h0 : l0 ≤ 9223372036854775807) (hc0 : l0 ≤ c0) (hr : Ats w q0 l0 (fun j => By (D0 j))) :
    Calls Try.prog 6 #[.bool false, .slice q0 l0 c0] w fun e w' => e = .returned (.bool true) ∧ Below N w w' := by
  have hS : SpecOk 3 0 1 8 := ⟨⟨0, 0, .inr (.inr (.inr (.inl ⟨rfl, rfl, rfl⟩))), by omega, by omega⟩, by omega, by omega, by omega, by omega⟩
  have HS := hid hS
  obtain ⟨n1, hn1⟩ : ∃ n1, n1 = min l0 12 := ⟨_, rfl⟩
  obtain ⟨n2, hn2⟩ : ∃ n2, n2 = min n1 8 := ⟨_, rfl⟩
  have Hn1 := hid hn1
  have Hn2 := hid hn2
  have b1 : n1 ≤ 12 := by omega
  have b2 : n1 ≤ l0 := by omega
  have b3 : n2 ≤ 8 := by omega
  have b4 : n2 ≤ n1 := by omega
  clear hS hn1 hn2
  go_enter Try.func6, Try.ntmps6
  go_wp2_with (first
    | (go_at_call 8; refine (New_plain 3 0 1 8 HS.out (by decide) _ N hN).mono ?_; rintro e w1 ⟨⟨b, hb, rfl, A1⟩, hb1⟩; obtain ⟨M1, hM1⟩ := sz_some w1; have L1 := below_sz hb1 hN hM1)
    | (go_at_call 9; refine (maps_any _ M1 hM1).mono ?_; rintro e w2 ⟨rfl, hb2⟩)
    | (refine wpl_min rfl (.tmp 32) (.const (.int .i64 12)) 3 rfl l0 12 n1 rfl rfl Hn1 ?_)
    | fail)
  have S0 : Ln w N 3 0 D0 (mp0 3 0 1 8 b) w2 :=
    ⟨A1.below hM1 hb2, rfl, by decide, rfl, rfl, rfl, rfl, by omega, fun k hF => by rcases hF with rfl | hF | ⟨i, hi, _⟩; exact hb; cases hF; exact absurd hi (Nat.not_lt_zero i), hb1.trans (hb2.mono L1), fun j hj => by omega⟩
  have H0 := hid S0
  clear S0 A1 hb1 hb2 hM1 HS
  go_loopg [9] n1 (fun g i wr => ∃ (k nn : Nat) (m : Mp), k ≤ n1 ∧ g = n1 - k ∧ i = .int .i64 k ∧ nn = min k 8 ∧ m.b = b ∧ Ln w N 3 nn D0 m wr)
  case atStart => exact ⟨0, 0, _, by omega, rfl, rfl, rfl, rfl, H0.out⟩
  case round =>
    clear H0
    obtain ⟨k, nn, m, hk, rfl, rfl, hnn, hmb', F⟩ := hrel
    have hmb := hid hmb'
    have Hnn := hid hnn
    clear hmb' hnn
    obtain ⟨M, hM⟩ := sz_some wr
    have hNM := below_sz F.bel hN hM
    have k0 : (0 : Int) ≤ (k : Int) := by omega
    have k12 : (k : Int) ≤ 12 := by omega
    by_cases hlt : k < n1
    · have i1 : (k : Int) < (n1 : Int) := by omega
      obtain ⟨rb, ro, rfl, hrc⟩ := hr (by omega)
      have s1 : ∀ w, (Instr.sliceAt 22 (.slice (some ⟨rb, ro, none⟩) l0 c0) (some (.int .i64 (k : Int))) (some (.int .i64 ((k : Int) + 1))) none).run Try.prog w = .ok (.slice (some ⟨rb, ro + k, none⟩) 1 (c0 - k)) w := fun w => by
        have := run_cut_at (P := Try.prog) 22 5 1 undBB szBy rb ro l0 c0 k (k + 1) (by omega) (by omega) (by omega) w
        rw [show k + 1 - k = 1 by omega, Nat.mul_one] at this
        exact this
      have dr : wr.cell? ⟨rb, ro + k, none⟩ = some (By (D0 k)) := (F.bel.cell (p := ⟨rb, ro + k, none⟩) (by have := World.block_lt_of_cell? w _ (hrc k (by omega)); have e : w.heap.size = N := hN; simp only at this ⊢; omega)).trans (hrc k (by omega))
      have xa : Ats wr (some ⟨rb, ro + k, none⟩) 1 (fun _ => By (D0 k)) := one_ats dr
      clear dr hrc
      by_cases h8 : k < 8
      · have i2 : (k : Int) < 8 := by omega
        have en : nn = k := by have := Hnn.out; omega
        have xa' : Ats wr (some ⟨rb, ro + k, none⟩) 1 (fun _ => By (D0 nn)) := by rw [en]; exact xa
        have En := hid en
        clear en
        go_wp2_with (first
          | (go_at_call 15; refine (Ln_push w wr N M 3 nn D0 m b hmb.out F hM hNM (by have := En.out; omega) _ _ xa').mono ?_; rintro e x3 ⟨rfl, m3, hm3', F3⟩; have hm3 := hid hm3'; clear hm3')
          | fail)
        go_roundg (n1 - (k + 1))
        case measure => omega
        case rel => exact ⟨k + 1, nn + 1, m3, by omega, rfl, by go_num, by have := En.out; omega, hm3.out, F3⟩
      · have i2 : ¬ ((k : Int) < 8) := by omega
        go_wp2_with (first
          | (go_at_call 15; refine (Ln_full w wr N M 3 nn D0 m b hmb.out F hM hNM (by have := Hnn.out; omega) _ _).mono ?_; rintro e x3 ⟨rfl, F3⟩)
          | fail)
        go_roundg (n1 - (k + 1))
        case measure => omega
        case rel => exact ⟨k + 1, nn, m, by omega, rfl, by go_num, by have := Hnn.out; omega, hmb.out, F3⟩
    · have i1 : ¬ ((k : Int) < (n1 : Int)) := by omega
      have en : nn = n2 := by have := Hnn.out; have := Hn2.out; omega
      have F' : Ln w N 3 n2 D0 m wr := by rw [← en]; exact F
      clear F en
      go_wp2_with (first
        | (refine wpl_min rfl (.tmp 50) (.const (.int .i64 8)) 3 rfl n1 8 n2 rfl rfl Hn2 ?_)
        | fail)
      have F0 := hid F'
      clear F'
      go_loopg [10] n2 (fun g i wr => ∃ (k : Nat) (m : Mp) (F' : Nat → BitVec 8), k ≤ n2 ∧ g = n2 - k ∧ i = .int .i64 k ∧ m.b = b ∧ Ln w N 3 (n2 - k) F' m wr ∧ ∀ j, j < n2 - k → F' j = D0 (k + j))
      case atStart => exact ⟨0, m, D0, by omega, rfl, rfl, hmb.out, F0.out, fun j _ => by rw [Nat.zero_add]⟩
      case round =>
        clear F0 hmb
        obtain ⟨k, m, F', hk, rfl, rfl, hmb', F, hF⟩ := hrel
        have hmb := hid hmb'
        have HF := hid hF
        clear hmb' hF
        obtain ⟨M, hM⟩ := sz_some wr
        have hNM := below_sz F.bel hN hM
        have k0 : (0 : Int) ≤ (k : Int) := by omega
        have k12 : (k : Int) ≤ 12 := by omega
        have n28 : (n2 : Int) ≤ 8 := by omega
        by_cases hlt : k < n2
        · have i1 : (k : Int) < (n2 : Int) := by omega
          obtain ⟨rb, ro, rfl, hrc⟩ := hr (by omega)
          have hx : D0 k = F' 0 := by rw [HF.out 0 (by omega)]; rfl
          have dr0 : w.cell? ⟨rb, ro + k, none⟩ = some (.int .u8 (v8 (F' 0))) := (hrc k (by omega)).trans (by show some (By (D0 k)) = _; rw [hx]; rfl)
          have hrb : rb < N := by have := World.block_lt_of_cell? w _ dr0; have e : w.heap.size = N := hN; simp only at this ⊢; omega
          have Dr0 := hid dr0
          have hidx : 0 < n2 - k := by omega
          have i3 : (k : Int) < (l0 : Int) := by omega
          clear dr0 hx hrc
          go_upto_region 22 with (first
            | (go_at_call 16; refine (Ln_peek w wr N M 3 (n2 - k) F' m b hmb.out F hM hNM (0) hidx (.inl ⟨rfl, rfl⟩)).mono ?_; rintro e x3 ⟨⟨K1, hK1, rfl, v1⟩, hb3, F3⟩; obtain ⟨M3, hM3⟩ := sz_some x3; have L3 := below_sz hb3 hM hM3; have hKF : ¬ Foot m K1 := fun h => by have := F.at_.lt hM K1 h; omega)
            | (go_at_call 17; refine (Ln_pop w x3 N M3 3 (n2 - k) F' m b hmb.out F3 hM3 (by omega) (0) hidx (.inl ⟨rfl, rfl⟩) K1 _ 1 _ v1 hKF).mono ?_; rintro e x4 ⟨⟨K2, hK2, rfl, v2⟩, v1', m4, hm4', F4⟩; have hm4 := hid hm4'; clear hm4')
            | fail)
          have d1 : x4.cell? ⟨K2, 0, none⟩ = some (.int .u8 (v8 (F' 0))) := v2.cell (by omega)
          have d2 : x4.cell? ⟨rb, ro + k, none⟩ = some (.int .u8 (v8 (F' 0))) := (F4.bel.cell (p := ⟨rb, ro + k, none⟩) hrb).trans Dr0.out
          have hcA : ∀ n, (convert 22 9 (.slice (some ⟨K1, 0, none⟩) 1 1)).run Try.prog (x4.drewN n) = .ok (.string (strOf (fun _ => F' 0) 1)) (x4.drewN n) := fun n => run_string _ 22 9 5 undBB undBy undBS _ 1 1 (fun _ => F' 0) (v1'.drewN n).ats
          have hcB : ∀ n, (convert 22 9 (.slice (some ⟨K2, 0, none⟩) 1 1)).run Try.prog (x4.drewN n) = .ok (.string (strOf (fun _ => F' 0) 1)) (x4.drewN n) := fun n => run_string _ 22 9 5 undBB undBy undBS _ 1 1 (fun _ => F' 0) (v2.drewN n).ats
          generalize F' 0 = z at d1 d2 hcA hcB
          go_quiet (fail)
          go_wp2
          go_roundg (n2 - (k + 1))
          case measure => omega
          case rel =>
            refine ⟨k + 1, m4, delF F' 0, by omega, rfl, by go_num, hm4.out, ?_, fun j hj => ?_⟩
            · have e : n2 - k - 1 = n2 - (k + 1) := by omega
              rw [← e]
              exact F4.drewN _
            · unfold delF
              rw [if_neg (by omega), HF.out (j + 1) (by omega)]; congr 1; omega
        · have i1 : ¬ ((k : Int) < (n2 : Int)) := by omega
          have e0 : n2 - k = 0 := by omega
          rw [e0] at F
          clear HF e0
          have fn := F.n
          have fty := F.ty
          have Fn := hid fn
          have Fty := hid fty
          clear fn fty
          go_wp2_with (first
            | (go_at_call 17; have U := Pop_no m (by rw [Fty.out]; decide) F.fz Fn.out _ F.at_; rw [hmb.out] at U; refine U.mono ?_; rintro e x4 ⟨rfl, rfl⟩)
            | (go_at_call 14; have U := Len_is m 0 Fn.out _ F.at_; rw [hmb.out] at U; refine U.mono ?_; rintro e x5 ⟨rfl, rfl⟩)
            | fail)
          go_ret
          exact ⟨rfl, F.bel⟩
set_option maxRecDepth 100000 in
set_option maxHeartbeats 4000000 in
theorem lines_4 (q0 : Option Addr) (l0 c0 : Nat) (D0 : Nat → BitVec 8) (w : World) (N : Nat) (hN : Sz w N) (h0 : l0 ≤ 9223372036854775807) (hc0 : l0 ≤ c0) (hr : Ats w q0 l0 (fun j => By (D0 j))) :
    Calls Try.prog 6 #[.bool true, .slice q0 l0 c0] w fun e w' => e = .returned (.bool true) ∧ Below N w w' := by
  have hS : SpecOk 4 0 1 8 := ⟨⟨0, 0, .inr (.inr (.inr (.inr (.inl ⟨rfl, rfl, rfl⟩)))), by omega, by omega⟩, by omega, by omega, by omega, by omega⟩
  have HS := hid hS
  obtain ⟨n1, hn1⟩ : ∃ n1, n1 = min l0 12 := ⟨_, rfl⟩
  obtain ⟨n2, hn2⟩ : ∃ n2, n2 = min n1 8 := ⟨_, rfl⟩
  have Hn1 := hid hn1
  have Hn2 := hid hn2
  have b1 : n1 ≤ 12 := by omega
  have b2 : n1 ≤ l0 := by omega
  have b3 : n2 ≤ 8 := by omega
  have b4 : n2 ≤ n1 := by omega
  clear hS hn1 hn2
  go_enter Try.func6, Try.ntmps6
  go_wp2_with (first
    | (go_at_call 8; refine (New_plain 4 0 1 8 HS.out (by decide) _ N hN).mono ?_; rintro e w1 ⟨⟨b, hb, rfl, A1⟩, hb1⟩; obtain ⟨M1, hM1⟩ := sz_some w1; have L1 := below_sz hb1 hN hM1)
    | (go_at_call 9; refine (maps_any _ M1 hM1).mono ?_; rintro e w2 ⟨rfl, hb2⟩)
    | (refine wpl_min rfl (.tmp 32) (.const (.int .i64 12)) 3 rfl l0 12 n1 rfl rfl Hn1 ?_)
    | fail)
  have S0 : Ln w N 4 0 D0 (mp0 4 0 1 8 b) w2 :=
    ⟨A1.below hM1 hb2, rfl, by decide, rfl, rfl, rfl, rfl, by omega, fun k hF => by rcases hF with rfl | hF | ⟨i, hi, _⟩; exact hb; cases hF; exact absurd hi (Nat.not_lt_zero i), hb1.trans (hb2.mono L1), fun j hj => by omega⟩
  have H0 := hid S0
  clear S0 A1 hb1 hb2 hM1 HS
  go_loopg [9] n1 (fun g i wr => ∃ (k nn : Nat) (m : Mp), k ≤ n1 ∧ g = n1 - k ∧ i = .int .i64 k ∧ nn = min k 8 ∧ m.b = b ∧ Ln w N 4 nn D0 m wr)
  case atStart => exact ⟨0, 0, _, by omega, rfl, rfl, rfl, rfl, H0.out⟩
  case round =>
    clear H0
    obtain ⟨k, nn, m, hk, rfl, rfl, hnn, hmb', F⟩ := hrel
    have hmb := hid hmb'
    have Hnn := hid hnn
    clear hmb' hnn
    obtain ⟨M, hM⟩ := sz_some wr
    have hNM := below_sz F.bel hN hM
    have k0 : (0 : Int) ≤ (k : Int) := by omega
    have k12 : (k : Int) ≤ 12 := by omega
    by_cases hlt : k < n1
    · have i1 : (k : Int) < (n1 : Int) := by omega
      obtain ⟨rb, ro, rfl, hrc⟩ := hr (by omega)
      have s1 : ∀ w, (Instr.sliceAt 22 (.slice (some ⟨rb, ro, none⟩) l0 c0) (some (.int .i64 (k : Int))) (some (.int .i64 ((k : Int) + 1))) none).run Try.prog w = .ok (.slice (some ⟨rb, ro + k, none⟩) 1 (c0 - k)) w := fun w => by
        have := run_cut_at (P := Try.prog) 22 5 1 undBB szBy rb ro l0 c0 k (k + 1) (by omega) (by omega) (by omega) w
        rw [show k + 1 - k = 1 by omega, Nat.mul_one] at this
        exact this
      have dr : wr.cell? ⟨rb, ro + k, none⟩ = some (By (D0 k)) := (F.bel.cell (p := ⟨rb, ro + k, none⟩) (by have := World.block_lt_of_cell? w _ (hrc k (by omega)); have e : w.heap.size = N := hN; simp only at this ⊢; omega)).trans (hrc k (by omega))
      have xa : Ats wr (some ⟨rb, ro + k, none⟩) 1 (fun _ => By (D0 k)) := one_ats dr
      clear dr hrc
      by_cases h8 : k < 8
      · have i2 : (k : Int) < 8 := by omega
        have en : nn = k := by have := Hnn.out; omega
        have xa' : Ats wr (some ⟨rb, ro + k, none⟩) 1 (fun _ => By (D0 nn)) := by rw [en]; exact xa
        have En := hid en
        clear en
        go_wp2_with (first
          | (go_at_call 15; refine (Ln_push w wr N M 4 nn D0 m b hmb.out F hM hNM (by have := En.out; omega) _ _ xa').mono ?_; rintro e x3 ⟨rfl, m3, hm3', F3⟩; have hm3 := hid hm3'; clear hm3')
          | fail)
        go_roundg (n1 - (k + 1))
        case measure => omega
        case rel => exact ⟨k + 1, nn + 1, m3, by omega, rfl, by go_num, by have := En.out; omega, hm3.out, F3⟩
      · have i2 : ¬ ((k : Int) < 8) := by omega
        go_wp2_with (first
          | (go_at_call 15; refine (Ln_full w wr N M 4 nn D0 m b hmb.out F hM hNM (by have := Hnn.out; omega) _ _).mono ?_; rintro e x3 ⟨rfl, F3⟩)
          | fail)
        go_roundg (n1 - (k + 1))
        case measure => omega
        case rel => exact ⟨k + 1, nn, m, by omega, rfl, by go_num, by have := Hnn.out; omega, hmb.out, F3⟩
    · have i1 : ¬ ((k : Int) < (n1 : Int)) := by omega
      have en : nn = n2 := by have := Hnn.out; have := Hn2.out; omega
      have F' : Ln w N 4 n2 D0 m wr := by rw [← en]; exact F
      clear F en
      go_wp2_with (first
        | (refine wpl_min rfl (.tmp 50) (.const (.int .i64 8)) 3 rfl n1 8 n2 rfl rfl Hn2 ?_)
        | fail)
      have F0 := hid F'
      clear F'
      go_loopg [10] n2 (fun g i wr => ∃ (k : Nat) (m : Mp) (F' : Nat → BitVec 8), k ≤ n2 ∧ g = n2 - k ∧ i = .int .i64 k ∧ m.b = b ∧ Ln w N 4 (n2 - k) F' m wr ∧ ∀ j, j < n2 - k → F' j = D0 (j))
      case atStart => exact ⟨0, m, D0, by omega, rfl, rfl, hmb.out, F0.out, fun j _ => rfl⟩
      case round =>
        clear F0 hmb
        obtain ⟨k, m, F', hk, rfl, rfl, hmb', F, hF⟩ := hrel
        have hmb := hid hmb'
        have HF := hid hF
        clear hmb' hF
        obtain ⟨M, hM⟩ := sz_some wr
        have hNM := below_sz F.bel hN hM
        have k0 : (0 : Int) ≤ (k : Int) := by omega
        have k12 : (k : Int) ≤ 12 := by omega
        have n28 : (n2 : Int) ≤ 8 := by omega
        by_cases hlt : k < n2
        · have i1 : (k : Int) < (n2 : Int) := by omega
          obtain ⟨rb, ro, rfl, hrc⟩ := hr (by omega)
          obtain ⟨at_, hat⟩ : ∃ at_, at_ = n2 - 1 - k := ⟨_, rfl⟩
          have hat2 : (n2 : Int) - 1 - (k : Int) = (at_ : Int) := by omega
          have hx : D0 at_ = F' (n2 - k - 1) := by rw [HF.out (n2 - k - 1) (by omega)]; congr 1; omega
          have dr0 : w.cell? ⟨rb, ro + at_, none⟩ = some (.int .u8 (v8 (F' (n2 - k - 1)))) := (hrc at_ (by omega)).trans (by show some (By (D0 at_)) = _; rw [hx]; rfl)
          have hrb : rb < N := by have := World.block_lt_of_cell? w _ dr0; have e : w.heap.size = N := hN; simp only at this ⊢; omega
          have Dr0 := hid dr0
          have hidx : (n2 - k - 1) < n2 - k := by omega
          have i3 : (at_ : Int) < (l0 : Int) := by omega
          clear dr0 hx hrc hat
          go_upto_region 22 with (first
            | (go_at_call 16; refine (Ln_peek w wr N M 4 (n2 - k) F' m b hmb.out F hM hNM ((n2 - k - 1)) hidx (.inr ⟨rfl, by omega⟩)).mono ?_; rintro e x3 ⟨⟨K1, hK1, rfl, v1⟩, hb3, F3⟩; obtain ⟨M3, hM3⟩ := sz_some x3; have L3 := below_sz hb3 hM hM3; have hKF : ¬ Foot m K1 := fun h => by have := F.at_.lt hM K1 h; omega)
            | (go_at_call 17; refine (Ln_pop w x3 N M3 4 (n2 - k) F' m b hmb.out F3 hM3 (by omega) ((n2 - k - 1)) hidx (.inr ⟨rfl, by omega⟩) K1 _ 1 _ v1 hKF).mono ?_; rintro e x4 ⟨⟨K2, hK2, rfl, v2⟩, v1', m4, hm4', F4⟩; have hm4 := hid hm4'; clear hm4')
            | fail)
          have d1 : x4.cell? ⟨K2, 0, none⟩ = some (.int .u8 (v8 (F' (n2 - k - 1)))) := v2.cell (by omega)
          have d2 : x4.cell? ⟨rb, ro + at_, none⟩ = some (.int .u8 (v8 (F' (n2 - k - 1)))) := (F4.bel.cell (p := ⟨rb, ro + at_, none⟩) hrb).trans Dr0.out
          have hcA : ∀ n, (convert 22 9 (.slice (some ⟨K1, 0, none⟩) 1 1)).run Try.prog (x4.drewN n) = .ok (.string (strOf (fun _ => F' (n2 - k - 1)) 1)) (x4.drewN n) := fun n => run_string _ 22 9 5 undBB undBy undBS _ 1 1 (fun _ => F' (n2 - k - 1)) (v1'.drewN n).ats
          have hcB : ∀ n, (convert 22 9 (.slice (some ⟨K2, 0, none⟩) 1 1)).run Try.prog (x4.drewN n) = .ok (.string (strOf (fun _ => F' (n2 - k - 1)) 1)) (x4.drewN n) := fun n => run_string _ 22 9 5 undBB undBy undBS _ 1 1 (fun _ => F' (n2 - k - 1)) (v2.drewN n).ats
          generalize F' (n2 - k - 1) = z at d1 d2 hcA hcB
          go_quiet (fail)
          go_wp2
          go_roundg (n2 - (k + 1))
          case measure => omega
          case rel =>
            refine ⟨k + 1, m4, delF F' (n2 - k - 1), by omega, rfl, by go_num, hm4.out, ?_, fun j hj => ?_⟩
            · have e : n2 - k - 1 = n2 - (k + 1) := by omega
              rw [← e]
              exact F4.drewN _
            · unfold delF
              rw [if_pos (by omega), HF.out j (by omega)]
        · have i1 : ¬ ((k : Int) < (n2 : Int)) := by omega
          have e0 : n2 - k = 0 := by omega
          rw [e0] at F
          clear HF e0
          have fn := F.n
          have fty := F.ty
          have Fn := hid fn
          have Fty := hid fty
          clear fn fty
          go_wp2_with (first
            | (go_at_call 17; have U := Pop_no m (by rw [Fty.out]; decide) F.fz Fn.out _ F.at_; rw [hmb.out] at U; refine U.mono ?_; rintro e x4 ⟨rfl, rfl⟩)
            | (go_at_call 14; have U := Len_is m 0 Fn.out _ F.at_; rw [hmb.out] at U; refine U.mono ?_; rintro e x5 ⟨rfl, rfl⟩)
            | fail)
          go_ret
          exact ⟨rfl, F.bel⟩
theorem lines_any (st : Bool) (q0 : Option Addr) (l0 c0 : Nat) (D0 : Nat → BitVec 8) (w : World) (N : Nat) (hN : Sz w N) (h0 : l0 ≤ 9223372036854775807) (hc0 : l0 ≤ c0) (hr : Ats w q0 l0 (fun j => By (D0 j))) :
    Calls Try.prog 6 #[.bool st, .slice q0 l0 c0] w fun e w' => e = .returned (.bool true) ∧ Below N w w' := by
  cases st
  · exact lines_3 q0 l0 c0 D0 w N hN h0 hc0 hr
  · exact lines_4 q0 l0 c0 D0 w N hN h0 hc0 hr
end Go.Proofs.Yteicoheihalnnaa
