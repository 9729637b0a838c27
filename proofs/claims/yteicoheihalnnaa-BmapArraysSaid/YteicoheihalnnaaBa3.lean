/- BmapArrays: the walk. -/
import Derived.Test.YteicoheihalnnaaBa2
import Derived.Test.YteicoheihalnnaaAts2
import Derived.Deep.CutBlock
import Derived.Deep.DeepCutAuto
namespace Go.Proofs.Yteicoheihalnnaa
open Go Go.RowKit
set_option maxRecDepth 100000 in
set_option maxHeartbeats 4000000 in
theorem arrays_any (z0 z1 : Int) (y : BitVec 8) (w : World) (N : Nat) (hN : Sz w N) :
    Calls Try.prog 7 #[.int .i64 z0, .int .i64 z1, .int .u8 (v8 y)] w fun e w' => e = .returned (.bool true) ∧ Below N w w' := by
  have u0 := u64_pos z0
  have u1 := u64_pos z1
  go_enter Try.func7, Try.ntmps7
  go_upto_region 3 with (first
    | (refine wpl_remU rfl (.tmp 20) (.const (.int .u64 64)) rfl (IntKind.u64.wrap z0) 64 rfl rfl u0 (by omega) (by omega) ?_; intro c hc Hc; obtain ⟨n, hn⟩ : ∃ n : Nat, n = c + 1 := ⟨_, rfl⟩; have n1 : 1 ≤ n := (by omega); have n2 : n ≤ 64 := (by omega); have hnc : (1 : Int) + (c : Int) = (n : Int) := (by omega); have Hn := hid hn; clear hn; have n3 : (n : Int) ≤ 64 := (by omega))
    | (refine wpl_remU rfl (.tmp 25) (.tmp 27) rfl (IntKind.u64.wrap z1) n rfl rfl u1 (by omega) (by omega) ?_; intro k hk Hk; have k2 : (k : Int) < 64 := (by omega))
    | fail)
  have k3 : k < 64 := by omega
  have k0 : (0 : Int) ≤ (k : Int) := by omega
  clear u0 u1 Hc hnc hc Hk Hn
  have hK4 := by_nat k (by omega)
  have hN4 := by_nat n (by omega)
  have HK4 := hid hK4
  have HN4 := hid hN4
  clear hK4 hN4
  go_upto_region 6 with (first
    | (go_at_call 8; refine (New_array 1 n (by omega) (by omega) n1 n2 _ N hN).mono ?_; rintro e w1 ⟨b, m1, hb, rfl, A1⟩; obtain ⟨M1, hM1⟩ := sz_some w1; have L1 := below_sz A1.bel hN hM1)
    | (go_at_call 9; refine (maps_any _ M1 hM1).mono ?_; rintro e w2 ⟨rfl, hb2⟩; obtain ⟨M2, hM2⟩ := sz_some w2; have A2 := A1.low hM1 hb2 L1; have L2 := below_sz A2.bel hN hM2)
    | (go_at_call 14; have U := Len_is m1 n A2.en _ A2.at_; rw [A2.eb] at U; ((with_reducible refine U.mono ?_)); rintro e w3 ⟨rfl, rfl⟩)
    | (refine wpl_bs4g (.tmp 51) (.const (.int .u8 0)) (.const (.int .u8 0)) (.const (.int .u8 0)) rfl (b8 k) 0#8 0#8 0#8 HK4.out rfl rfl rfl M2 hM2 ?_ (by rfl); intro w4 hM4 hb4 q4)
    | (refine wpl_bs1g (.tmp 53) rfl y rfl (M2 + 1) hM4 ?_ (by rfl); intro w5 hM5 hb5 v5; have A5 := (A2.low hM2 hb4 L2).low hM4 hb5 (by omega); have q5 := (q4.below hb5 (by omega)).ats)
    | (go_at_call 10; ((with_reducible refine (Ar_set w w5 N (M2 + 1 + 1) b n n _ m1 A5 n2 hM5 (by omega) k hk y _ _ q5 _ _ v5.ats).mono ?_)); rintro e w6 ⟨rfl, m6, A6⟩; obtain ⟨M6, hM6⟩ := sz_some w6; have L6 := below_sz A6.bel hN hM6)
    | (refine wpl_bs4g (.tmp 61) (.const (.int .u8 0)) (.const (.int .u8 0)) (.const (.int .u8 0)) rfl (b8 k) 0#8 0#8 0#8 HK4.out rfl rfl rfl M6 hM6 ?_ (by rfl); intro w7 hM7 hb7 q7)
    | (refine wpl_bs1g (.tmp 63) rfl y rfl (M6 + 1) hM7 ?_ (by rfl); intro w8 hM8 hb8 v8'; have A8 := (A6.low hM6 hb7 L6).low hM7 hb8 (by omega); have q8 := (q7.below hb8 (by omega)).ats)
    | (go_at_call 10; ((with_reducible refine (Ar_exist w w8 N (M6 + 1 + 1) b n n _ m6 A8 n2 hM8 (by omega) k hk _ _ q8 _ _).mono ?_)); rintro e w9 ⟨rfl, A9⟩; obtain ⟨M9, hM9⟩ := sz_some w9; have L9 := below_sz A9.bel hN hM9)
    | (refine wpl_bs4g (.tmp 71) (.const (.int .u8 0)) (.const (.int .u8 0)) (.const (.int .u8 0)) rfl (b8 n) 0#8 0#8 0#8 HN4.out rfl rfl rfl M9 hM9 ?_ (by rfl); intro w10 hM10 hb10 q10)
    | (refine wpl_bs1g (.tmp 73) rfl y rfl (M9 + 1) hM10 ?_ (by rfl); intro w11 hM11 hb11 v11; have A11 := (A9.low hM9 hb10 L9).low hM10 hb11 (by omega); have q11 := (q10.below hb11 (by omega)).ats)
    | (go_at_call 10; ((with_reducible refine (Ar_beyond w w11 N (M9 + 1 + 1) b n n _ m6 A11 n2 hM11 (by omega) n (Nat.le_refl n) (by omega) _ _ q11 _ _).mono ?_)); rintro e w12 ⟨rfl, A12⟩; obtain ⟨M12, hM12⟩ := sz_some w12; have L12 := below_sz A12.bel hN hM12)
    | (refine wpl_bs4g (.tmp 81) (.const (.int .u8 0)) (.const (.int .u8 0)) (.const (.int .u8 0)) rfl (b8 k) 0#8 0#8 0#8 HK4.out rfl rfl rfl M12 hM12 ?_ (by rfl); intro w13 hM13 hb13 q13; have A13 := A12.low hM12 hb13 L12)
    | (go_at_call 13; ((with_reducible refine (Ar_del w w13 N (M12 + 1) b n n _ m6 A13 n2 hM13 (by omega) k _ _ q13.ats).mono ?_)); rintro e w14 ⟨rfl, A14⟩)
    | fail)
  have H0 := hid A14
  clear A14 A13 A12 A11 A9 A8 A6 A5 A2 A1 q4 q5 q7 q8 q10 q11 q13 v5 v8' v11 hb2 hb4 hb5 hb7 hb8 hb10 hb11 hb13 hM1 hM2 hM4 hM5 hM6 hM7 hM8 hM9 hM10 hM11 hM12 hM13
  go_wp2_with fail
  go_loopg [11] n (fun g i wr => ∃ (j : Nat) (m : Mp), j ≤ n ∧ g = n - j ∧ i = .int .i64 j ∧ Ar w N b 1 n n (fun i _ => if i = k then y else 0#8) m wr)
  case atStart => exact ⟨0, _, by omega, rfl, rfl, H0.out⟩
  case round =>
    clear H0
    obtain ⟨j, m, hj', rfl, rfl, A⟩ := hrel
    obtain ⟨M, hM⟩ := sz_some wr
    have hNM := below_sz A.bel hN hM
    have j0 : (0 : Int) ≤ (j : Int) := by omega
    have j64 : (j : Int) ≤ 64 := by omega
    by_cases hj : j < n
    · have i1 : (j : Int) < (n : Int) := by omega
      have HJ4 := hid (by_nat j (by omega))
      by_cases hjk : j = k
      · have tj : ((j : Int) == (k : Int)) = true := by rw [beq_iff_eq]; omega
        have Hjk := hid hjk
        clear hjk
        go_wp2_with (first
          | (refine wpl_bs4g (.tmp 94) (.const (.int .u8 0)) (.const (.int .u8 0)) (.const (.int .u8 0)) rfl (b8 j) 0#8 0#8 0#8 HJ4.out rfl rfl rfl M hM ?_ (by rfl); intro x1 hX1 hb1 q1; have B1 := A.low hM hb1 hNM)
          | (go_at_call 12; ((with_reducible refine (Ar_look w x1 N (M + 1) b n n _ m B1 n2 hX1 (by omega) j hj _ _ q1.ats).mono ?_)); rintro e x2 ⟨⟨K1, hK1, rfl, v2⟩, B2⟩; have d2 : x2.cell? ⟨K1, 0, none⟩ = some (.int .u8 (v8 y)) := (v2.cell (j := 0) (by omega)).trans (by rw [if_pos Hjk.out]; rfl))
          | fail)
        go_roundg (n - (j + 1))
        case measure => omega
        case rel => exact ⟨j + 1, m, by omega, rfl, by go_num, B2⟩
      · have tj : ((j : Int) == (k : Int)) = false := by rw [beq_eq_false_iff_ne]; omega
        go_wp2_with (first
          | (refine wpl_bs4g (.tmp 94) (.const (.int .u8 0)) (.const (.int .u8 0)) (.const (.int .u8 0)) rfl (b8 j) 0#8 0#8 0#8 HJ4.out rfl rfl rfl M hM ?_ (by rfl); intro x1 hX1 hb1 q1; have B1 := A.low hM hb1 hNM)
          | (go_at_call 12; ((with_reducible refine (Ar_look w x1 N (M + 1) b n n _ m B1 n2 hX1 (by omega) j hj _ _ q1.ats).mono ?_)); rintro e x2 ⟨⟨K1, hK1, rfl, v2⟩, B2⟩; have d2 : x2.cell? ⟨K1, 0, none⟩ = some (.int .u8 0) := (v2.cell (j := 0) (by omega)).trans (by rw [if_neg hjk]; rfl))
          | fail)
        go_roundg (n - (j + 1))
        case measure => omega
        case rel => exact ⟨j + 1, m, by omega, rfl, by go_num, B2⟩
    · have i1 : ¬ ((j : Int) < (n : Int)) := by omega
      go_wp2_with (first
        | (refine wpl_bs4g (.tmp 120) (.const (.int .u8 0)) (.const (.int .u8 0)) (.const (.int .u8 0)) rfl (b8 n) 0#8 0#8 0#8 HN4.out rfl rfl rfl M hM ?_ (by rfl); intro x1 hX1 hb1 q1; have B1 := A.low hM hb1 hNM)
        | (go_at_call 12; ((with_reducible refine (Ar_none w x1 N (M + 1) b n n _ m B1 n2 hX1 (by omega) n (Nat.le_refl n) (by omega) _ _ q1.ats).mono ?_)); rintro e x2 ⟨rfl, B2⟩; obtain ⟨X2, hX2⟩ := sz_some x2; have l2 := below_sz B2.bel hN hX2)
        | (refine wpl_bs4g (.tmp 128) (.const (.int .u8 1)) (.const (.int .u8 0)) (.const (.int .u8 0)) rfl (b8 k) 1#8 0#8 0#8 HK4.out rfl rfl rfl X2 hX2 ?_ (by rfl); intro x3 hX3 hb3 q3; have B3 := B2.low hX2 hb3 l2)
        | (go_at_call 12; ((with_reducible refine (Ar_none2 w x3 N (X2 + 1) b n n _ m B3 n2 hX3 (by omega) k _ _ q3.ats).mono ?_)); rintro e x4 ⟨rfl, B4⟩)
        | (go_at_call 14; have U := Len_is m n B4.en _ B4.at_; rw [B4.eb] at U; ((with_reducible refine U.mono ?_)); rintro e x5 ⟨rfl, rfl⟩)
        | fail)
      go_ret
      exact ⟨rfl, B4.bel⟩
end Go.Proofs.Yteicoheihalnnaa
