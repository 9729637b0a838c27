/- The law RegistryFull: its walk. -/
import Derived.Test.YtcampjgemedhlaaDoorRg4
import Derived.Laws.Bits64
namespace Go.Proofs.YtcampjgemedhlaaDoor
open Go Go.RowKit Sha
/-- The key that has a number, and 1. -/
def key2 (i : Nat) : Nat → BitVec 8 := fun j => if j = 0 then BitVec.ofNat 8 i else if j = 1 then 1 else 0
def fullR (k : Nat) : Rg := ⟨fun i => if i < k then key2 i else fun _ => 0, fun _ => false, k⟩
theorem addR_full (k : Nat) : addR (fullR k) (key2 k) = fullR (k + 1) := by
  unfold addR fullR
  congr 1
  · funext i
    by_cases h : i = k
    · subst h; simp
    · by_cases h2 : i < k
      · have : i < k + 1 := by omega
        simp [h, h2, this]
      · have : ¬ i < k + 1 := by omega
        simp [h, h2, this]
  · funext i; simp
theorem rg0_full : rg0 = fullR 0 := by unfold rg0 fullR; congr 1
theorem key2_apart (i j : Nat) (hi : i < 256) (hj : j < 256) : ((List.range 32).all fun x => key2 i x == key2 j x) = decide (i = j) := by
  by_cases h : i = j
  · subst h; simp
  · rw [decide_eq_false h, List.all_eq_false]
    refine ⟨0, by simp, ?_⟩
    unfold key2
    simp only [if_true, beq_iff_eq]
    intro e
    have := congrArg BitVec.toNat e
    rw [BitVec.toNat_ofNat, BitVec.toNat_ofNat] at this
    omega
theorem eqK_full (k i j : Nat) (hj : j < k) (hi : i < 256) (hk : k < 256) : eqK (fullR k) (key2 i) j = decide (j = i) := by
  unfold eqK fullR
  simp only [if_pos hj]
  exact key2_apart j i (by omega) hi
theorem pl_full_no (k i : Nat) (h : k ≤ i) (hi : i < 256) : plB (fullR k) (key2 i) = false := by
  unfold plB plO
  rw [find_none _ (fullR k).c (fun j hj => by
    rw [eqK_full k i j hj hi (by omega)]
    have : j < k := hj
    rw [decide_eq_false (by omega)])]
  rfl
theorem pl_full_yes (k i : Nat) (h : i < k) (hk : k < 256) : plB (fullR k) (key2 i) = true ∧ plI (fullR k) (key2 i) = i := by
  have e : plO (fullR k) (key2 i) = some i := find_first _ _ _ h (fun j hj => by
    rw [eqK_full k i j (by omega) (by omega) hk, decide_eq_false (by omega)]) (by rw [eqK_full k i i h (by omega) hk]; simp)
  unfold plB plI
  rw [e]
  exact ⟨rfl, rfl⟩
theorem agg_key2 (k : Nat) (hk : k < 256) : Value.agg #[.int .u8 (k : Int), .int .u8 1, .int .u8 0, .int .u8 0, .int .u8 0, .int .u8 0, .int .u8 0, .int .u8 0, .int .u8 0, .int .u8 0, .int .u8 0, .int .u8 0, .int .u8 0, .int .u8 0, .int .u8 0, .int .u8 0, .int .u8 0, .int .u8 0, .int .u8 0, .int .u8 0, .int .u8 0, .int .u8 0, .int .u8 0, .int .u8 0, .int .u8 0, .int .u8 0, .int .u8 0, .int .u8 0, .int .u8 0, .int .u8 0, .int .u8 0, .int .u8 0] = .agg (cellsOf (fun j => By (key2 k j)) 32) := by
  rw [By_small k hk]
  kernel_rfl
theorem u64_nonneg (n : Int) : 0 ≤ IntKind.u64.wrap n := by
  rw [IntKind.wrap_u64]
  exact Int.emod_nonneg _ (by omega)
theorem wmod (n : Int) (m : Nat) (h0 : 0 < m) (hm : m ≤ 10000) : ∃ x : Nat, x < m ∧ wrap64 ((IntKind.u64.wrap n).tmod (m : Int)) = (x : Int) := by
  have h := u64_nonneg n
  generalize IntKind.u64.wrap n = u at h
  rw [Int.tmod_eq_emod_of_nonneg h]
  have h1 := Int.emod_nonneg u (b := (m : Int)) (by omega)
  have h2 := Int.emod_lt_of_pos u (b := (m : Int)) (by omega)
  exact ⟨(u % (m : Int)).toNat, by omega, by rw [IntWalk.wrap64_in _ (by omega)]; omega⟩
theorem pl_spend (R : Rg) (n : Nat) (key : Nat → BitVec 8) : plB (spendR R n) key = plB R key ∧ plI (spendR R n) key = plI R key := ⟨rfl, rfl⟩
set_option maxRecDepth 100000 in
set_option maxHeartbeats 1000000 in
theorem law_full (n again : Int) (w : World) (N : Nat) (hN : Sz w N) (hT : Tabs w) :
    Calls Tryd.prog 13 #[.int .i64 n, .int .i64 again] w fun e w' => e = .returned (.bool true) ∧ Below N w w' := by
  have hTN := hT.ltN hN
  go_enter Tryd.func13, Tryd.ntmps13
  go_wp2_with (first
    | (go_at_call 39; refine (New_any _ N hN).mono ?_; rintro e w1 ⟨rfl, hb1, r1, hN1⟩)
    | (go_at_call 34; refine (keeps_any _ (N + 1) hN1 (hT.below hb1 hTN)).mono ?_; rintro e w2 ⟨rfl, hb2⟩)
    | fail)
  obtain ⟨x, hx, ex⟩ := wmod n 6 (by omega) (by omega)
  obtain ⟨y, hy, ey⟩ := wmod again 30 (by omega) (by omega)
  have Ey := hid ey
  rw [show ((6 : Nat) : Int) = 6 from rfl] at ex
  rw [ex, show wrap64 (30 + (x : Int)) = ((30 + x : Nat) : Int) from by rw [IntWalk.wrap64_in _ (by omega)]; omega]
  clear ex ey
  obtain ⟨K, hK⟩ : ∃ K, K = 30 + x := ⟨_, rfl⟩
  have hK1 : 30 ≤ K := by omega
  have hK2 : K ≤ 35 := by omega
  rw [← hK]
  clear hK hx
  have r2 : Has w2 N 98 1057 (rgC (fullR 0)) := by rw [← rg0_full]; exact r1.below hb2 (by omega)
  have q2 : Below N w w2 := hb1.trans (hb2.mono (by omega))
  clear hb1 hb2 r1
  go_loopw [7] (fun i wr => ∃ k : Nat, k ≤ K ∧ i = .int .i64 k ∧ Has wr N 98 1057 (rgC (fullR (min k 32))) ∧ Below N w wr)
    (fun i _ => K - (intOf i).toNat)
  case atStart => exact ⟨0, by omega, rfl, r2, q2⟩
  case round =>
    clear r2 q2
    obtain ⟨k, hk, rfl, r2, q2⟩ := hrel
    obtain ⟨M, hM⟩ := sz_some wr
    have hNM : N < M := r2.ltN hM
    by_cases hlt : k < K
    · have hlt1 : decide ((k : Int) < (K : Int)) = true := by simp; omega
      have k0 : (0 : Int) ≤ (k : Int) := by omega
      have k1 : (k : Int) < 256 := by omega
      by_cases h32 : k < 32
      · have hd : decide ((k : Int) < 32) = true := by simp; omega
        rw [Nat.min_eq_left (by omega)] at r2
        go_wp2_with fail
        rw [agg_key2 k (by omega)]
        refine (Add_ok (fullR k) N (key2 k) wr M hM r2 h32 (pl_full_no k k (Nat.le_refl k) (by omega))).mono ?_
        rintro e w3 ⟨rfl, hm3, r3⟩
        rw [addR_full] at r3
        go_wp2_with fail
        exact ⟨⟨k + 1, by omega, by go_num, by rw [Nat.min_eq_left (by omega)]; exact r3, hm3.below q2 (Nat.le_refl N) (below_le q2 hN)⟩, by simp [intOf]; omega⟩
      · have hd : decide ((k : Int) < 32) = false := by simp; omega
        rw [Nat.min_eq_right (by omega)] at r2
        go_wp2_with fail
        rw [agg_key2 k (by omega)]
        refine (Add_full (fullR 32) N (key2 k) wr M hM r2 rfl (pl_full_no 32 k (by omega) (by omega))).mono ?_
        rintro e w3 ⟨rfl, hb3⟩
        have r3 := r2.below hb3 (by omega)
        go_wp2_with fail
        exact ⟨⟨k + 1, by omega, by go_num, by rw [Nat.min_eq_right (by omega)]; exact r3, q2.trans (hb3.mono (by omega))⟩, by simp [intOf]; omega⟩
    · obtain rfl : k = K := by omega
      have hlt1 : decide ((k : Int) < (k : Int)) = false := by simp
      obtain ⟨c, hcm⟩ : ∃ c, c = min k 32 := ⟨_, rfl⟩
      have hc1 : 30 ≤ c := by omega
      have hc2 : c ≤ 32 := by omega
      rw [← hcm] at r2
      have e1 : (if (32 : Int) < (k : Int) then (32 : Int) else (k : Int)) = (c : Int) := by split <;> omega
      have e2 : (if 32 < k then (32 : Int) else (k : Int)) = (c : Int) := by split <;> omega
      clear hcm
      obtain ⟨p1, p2⟩ := pl_full_yes c y (by omega) (by omega)
      have y0 : (0 : Int) ≤ (y : Int) := by omega
      have y1 : (y : Int) < 256 := by omega
      have hy' : y < c := by omega
      have ey := Ey.out
      rw [show ((30 : Nat) : Int) = 30 from rfl] at ey
      have P1 := hid p1
      have P2 := hid p2
      clear p1 p2
      go_wp2_with fail
      rw [agg_key2 y (by omega), ey]
      clear ey
      refine (Add_there (fullR c) N (key2 y) wr M hM r2 hc2 P1.out).mono ?_
      rintro e w3 ⟨rfl, hb3⟩
      have r3 := r2.below hb3 (by omega)
      have q3 : Below N w w3 := q2.trans (hb3.mono (by omega))
      go_wp2_with fail
      refine (Spend_ok (fullR c) N y w3 r3 hy' hc2 rfl).mono ?_
      rintro e w4 ⟨rfl, ht4, r4⟩
      have q4 : Below N w w4 := ht4.below q3 (Nat.le_refl N)
      obtain ⟨M4, hM4⟩ := sz_some w4
      have hNM4 : N < M4 := r4.ltN hM4
      go_wp2_with fail
      rw [agg_key2 y (by omega)]
      refine (Add_there (spendR (fullR c) y) N (key2 y) w4 M4 hM4 r4 hc2 (by rw [(pl_spend _ _ _).1]; exact P1.out)).mono ?_
      rintro e w5 ⟨rfl, hb5⟩
      have r5 := r4.below hb5 (by omega)
      have q5 : Below N w w5 := q4.trans (hb5.mono (by omega))
      go_wp2_with fail
      refine (Spend_spent (spendR (fullR c) y) N y w5 r5 hy' hc2 (by unfold spendR; simp)).mono ?_
      rintro e w6 ⟨rfl, rfl⟩
      obtain ⟨M5, hM5⟩ := sz_some w5
      have hNM5 : N < M5 := r5.ltN hM5
      go_wp2_with fail
      rw [agg_key2 y (by omega)]
      refine (Has_any (spendR (fullR c) y) N (key2 y) w5 M5 hM5 r5 hc2).mono ?_
      rintro e w6 ⟨rfl, hb6⟩
      rw [show hasB (spendR (fullR c) y) (key2 y) = false by
        unfold hasB
        rw [(pl_spend _ _ _).1, (pl_spend _ _ _).2, P1.out, P2.out]
        unfold spendR
        simp]
      have r6 := r5.below hb6 (by omega)
      have q6 : Below N w w6 := q5.trans (hb6.mono (by omega))
      go_wp2_with fail
      refine (Len_any (spendR (fullR c) y) N w6 r6).mono ?_
      rintro e w7 ⟨rfl, rfl⟩
      rw [show (spendR (fullR c) y).c = c from rfl]
      go_wp2_with fail
      go_ret
      exact ⟨by simp, q6⟩
end Go.Proofs.YtcampjgemedhlaaDoor
