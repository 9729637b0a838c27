/- States: Ready, Load, whole. -/
import Derived.Test.YtaeggclcjpcnoaaAb5
import Derived.Test.YtaeggclcjpcnoaaAb8
namespace Go.Proofs.Ytaeggclcjpcnoaa
open Go Go.RowKit
def readyF (s : St) (a n : Int) : Bool :=
  bif decide (n ≤ 0) then (n == 0)
  else bif insideF a n then allW s (indexF a).toNat n.toNat
  else false
theorem Ready_any (s : St) (a n : Int) (ha : a < 9223372036854775808) (w : World) (N : Nat) (hN : Sz w N) :
    Calls Try.prog 48 #[stV s, .int .i64 a, .int .i64 n] w fun e w' => e = .returned (.bool (readyF s a n)) ∧ Below N w w' := by
  cases h0 : decide (n ≤ 0)
  · have hn : 0 < n := by have := of_decide_eq_false h0; omega
    cases hi : insideF a n
    · have e : readyF s a n = false := by unfold readyF; rw [h0, hi]; rfl
      rw [e]; exact Ready_out s a n h0 hi w N hN
    · obtain ⟨p1, p2, p3, p4⟩ := inside_place ha hn hi
      have e : readyF s a n = allW s (indexF a).toNat n.toNat := by unfold readyF; rw [h0, hi]; rfl
      rw [e]; exact Ready_in s a n _ _ p3 (by omega) hi p1 p2 w N hN
  · have e : readyF s a n = (n == 0) := by unfold readyF; rw [h0]; rfl
    rw [e]; exact Ready_neg s a n h0 w N hN
def lowF (a : Rn) (n : Int) : Rn := bif n == 1 then lowR1 a else bif n == 2 then lowR2 a else bif n == 4 then lowR4 a else lowRo a n
theorem SLow_any (a : Rn) (n : Int) (w : World) (N : Nat) (hN : Sz w N) : Calls Try.prog 31 #[rV a, (Value.int .i64 n)] w fun e w' => e = .returned (rV (lowF a n)) ∧ Below N w w' := by
  cases h1 : (n == 1)
  · cases h2 : (n == 2)
    · cases h4 : (n == 4)
      · have e : lowF a n = lowRo a n := by unfold lowF; rw [h1, h2, h4]; rfl
        rw [e]; exact SLow_o a n w N hN h1 h2 h4
      · have e : lowF a n = lowR4 a := by unfold lowF; rw [h1, h2, h4]; rfl
        obtain rfl : n = 4 := by simpa using h4
        rw [e]; exact SLow_4 a w N hN
    · have e : lowF a n = lowR2 a := by unfold lowF; rw [h1, h2]; rfl
      obtain rfl : n = 2 := by simpa using h2
      rw [e]; exact SLow_2 a w N hN
  · have e : lowF a n = lowR1 a := by unfold lowF; rw [h1]; rfl
    obtain rfl : n = 1 := by simpa using h1
    rw [e]; exact SLow_1 a w N hN
set_option maxRecDepth 100000 in
set_option maxHeartbeats 4000000 in
theorem Load_size (s : St) (at_ n : Int) (ha : at_ < 9223372036854775808) (hsz : sizeF n = false) (w : World) (N : Nat) (hN : Sz w N) :
    Calls Try.prog 47 #[stV s, .int .i64 at_, .int .i64 n] w fun e w' => e = .returned (.tuple #[arV zeroA, .bool false]) ∧ Below N w w' := by
  unfold stV arV
  go_enter Try.func47, Try.ntmps47
  go_upto_region 2 with (first
    | (refine wpl_box rfl 76 (.tmp 0) rfl 273 _ rfl N hN ?_; intro w1 hN1 hb1 h1)
    | (refine wpl_alloc rfl 71 rfl 11 (arC zeroA) zeAr (N + 1) hN1 ?_; intro w2 hN2 hb2 h2; replace h1 := h1.below hb2 (by omega); replace hb2 := hb1.trans (hb2.mono (by omega)); clear hb1 hN1)
    | (go_at_call 75; refine (IsSize_any n _ (N + 2) hN2).mono ?_; rintro e w3 ⟨rfl, hb3⟩; rw [hsz]; obtain ⟨M3, hM3⟩ := sz_some w3; have l3 := below_sz hb3 hN2 hM3; replace h1 := h1.below hb3 (by omega); replace h2 := h2.below hb3 (by omega); replace hb3 := hb2.trans (hb3.mono (by omega)); clear hb2 hN2)
    | fail)
  go_wp2_with (first
    | (refine wpl_run rfl (.agg (cellsOf (arC zeroA) 11)) _ (run_bd 71 _ rfl (cellsOf (arC zeroA) 11) (by kernel_rfl) _) ?_)
    | (refine wpl_store rfl 71 (.tmp 6) (.tmp 18) rfl (N + 1) 11 (arC zeroA) rfl rfl 71 _ h2 szAr (fun j _ => arC_one _ j) ?_; intro wz tz hz; replace hb3 := tz.below hb3 (by omega))
    | fail)
  exact post_cb rfl (N + 1) rfl hz undAr szAr (x := .bool false) rfl rfl ⟨rfl, hb3⟩
set_option maxRecDepth 100000 in
set_option maxHeartbeats 4000000 in
theorem Load_out (s : St) (at_ n : Int) (ha : at_ < 9223372036854775808) (hsz : sizeF n = true) (hin : insideF at_ n = false) (w : World) (N : Nat) (hN : Sz w N) :
    Calls Try.prog 47 #[stV s, .int .i64 at_, .int .i64 n] w fun e w' => e = .returned (.tuple #[arV zeroA, .bool false]) ∧ Below N w w' := by
  unfold stV arV
  go_enter Try.func47, Try.ntmps47
  go_upto_region 2 with (first
    | (refine wpl_box rfl 76 (.tmp 0) rfl 273 _ rfl N hN ?_; intro w1 hN1 hb1 h1)
    | (refine wpl_alloc rfl 71 rfl 11 (arC zeroA) zeAr (N + 1) hN1 ?_; intro w2 hN2 hb2 h2; replace h1 := h1.below hb2 (by omega); replace hb2 := hb1.trans (hb2.mono (by omega)); clear hb1 hN1)
    | (go_at_call 75; refine (IsSize_any n _ (N + 2) hN2).mono ?_; rintro e w3 ⟨rfl, hb3⟩; rw [hsz]; obtain ⟨M3, hM3⟩ := sz_some w3; have l3 := below_sz hb3 hN2 hM3; replace h1 := h1.below hb3 (by omega); replace h2 := h2.below hb3 (by omega); replace hb3 := hb2.trans (hb3.mono (by omega)); clear hb2 hN2)
    | (go_at_call 76; refine (Inside_any at_ n _ M3 hM3).mono ?_; rintro e w4 ⟨rfl, hb4⟩; rw [hin]; obtain ⟨M4, hM4⟩ := sz_some w4; have l4 := below_sz hb4 hM3 hM4; replace h1 := h1.below hb4 (by omega); replace h2 := h2.below hb4 (by omega); replace hb4 := hb3.trans (hb4.mono (by omega)); clear hb3 hM3)
    | fail)
  go_wp2_with (first
    | (refine wpl_run rfl (.agg (cellsOf (arC zeroA) 11)) _ (run_bd 71 _ rfl (cellsOf (arC zeroA) 11) (by kernel_rfl) _) ?_)
    | (refine wpl_store rfl 71 (.tmp 6) (.tmp 18) rfl (N + 1) 11 (arC zeroA) rfl rfl 71 _ h2 szAr (fun j _ => arC_one _ j) ?_; intro wz tz hz; replace hb4 := tz.below hb4 (by omega))
    | fail)
  exact post_cb rfl (N + 1) rfl hz undAr szAr (x := .bool false) rfl rfl ⟨rfl, hb4⟩
set_option maxRecDepth 100000 in
set_option maxHeartbeats 4000000 in
theorem Load_kept (s : St) (at_ n : Int) (ha : at_ < 9223372036854775808) (hsz : sizeF n = true) (hin : insideF at_ n = true) (p : Nat) (hp : p < 64) (hix : indexF at_ = (p : Int)) (x : Ar) (hx : s.K (p / 8) = x) (hk : (x.k != 0) = true) (hwd : wordF at_ n = true) (w : World) (N : Nat) (hN : Sz w N) :
    Calls Try.prog 47 #[stV s, .int .i64 at_, .int .i64 n] w fun e w' => e = .returned (.tuple #[arV x, .bool true]) ∧ Below N w w' := by
  obtain ⟨kk, ek⟩ : ∃ kk, kk = x.k := ⟨_, rfl⟩
  rw [← ek] at hk
  have Hr := hid ek.symm
  have K0 := hid hk
  clear ek hk
  have hpart : ∀ j, j < 11 → stC s (185 + p / 8 * 11 + j) = arC x j := fun j hj => by rw [Nat.mul_comm (p / 8) 11, Nat.add_assoc, stC_K s (p / 8) hj, hx]
  clear hx
  have p0 : (0 : Int) ≤ (p : Int) := by omega
  have p8 : (p : Int) / 8 < 8 := by omega
  have p9 : (0 : Int) ≤ (p : Int) / 8 := by omega
  unfold stV arV
  go_enter Try.func47, Try.ntmps47
  go_upto_region 4 with (first
    | (refine wpl_box rfl 76 (.tmp 0) rfl 273 _ rfl N hN ?_; intro w1 hN1 hb1 h1)
    | (refine wpl_alloc rfl 71 rfl 11 (arC zeroA) zeAr (N + 1) hN1 ?_; intro w2 hN2 hb2 h2; replace h1 := h1.below hb2 (by omega); replace hb2 := hb1.trans (hb2.mono (by omega)); clear hb1 hN1)
    | (go_at_call 75; refine (IsSize_any n _ (N + 2) hN2).mono ?_; rintro e w3 ⟨rfl, hb3⟩; rw [hsz]; obtain ⟨M3, hM3⟩ := sz_some w3; have l3 := below_sz hb3 hN2 hM3; replace h1 := h1.below hb3 (by omega); replace h2 := h2.below hb3 (by omega); replace hb3 := hb2.trans (hb3.mono (by omega)); clear hb2 hN2)
    | (go_at_call 76; refine (Inside_any at_ n _ M3 hM3).mono ?_; rintro e w4 ⟨rfl, hb4⟩; rw [hin]; obtain ⟨M4, hM4⟩ := sz_some w4; have l4 := below_sz hb4 hM3 hM4; replace h1 := h1.below hb4 (by omega); replace h2 := h2.below hb4 (by omega); replace hb4 := hb3.trans (hb4.mono (by omega)); clear hb3 hM3)
    | (go_at_call 77; refine (IsWord_any at_ n _ M4 hM4).mono ?_; rintro e w5 ⟨rfl, hb5⟩; rw [hwd]; obtain ⟨M5, hM5⟩ := sz_some w5; have l5 := below_sz hb5 hM4 hM5; replace h1 := h1.below hb5 (by omega); replace h2 := h2.below hb5 (by omega); replace hb5 := hb4.trans (hb5.mono (by omega)); clear hb4 hM4)
    | fail)
  go_upto_region 6 with (first
    | (go_at_call 78; refine (Index_any at_ _ M5 hM5).mono ?_; rintro e w6 ⟨rfl, hb6⟩; rw [hix]; obtain ⟨M6, hM6⟩ := sz_some w6; have l6 := below_sz hb6 hM5 hM6; replace h1 := h1.below hb6 (by omega); replace h2 := h2.below hb6 (by omega); replace hb6 := hb5.trans (hb6.mono (by omega)); clear hb5 hM5)
    | (refine wpl_load_part rfl 71 (.tmp 26) rfl N (185 + p / 8 * 11) rfl 76 273 _ h1 11 (by omega) (arC x) hpart _ undAr.choose_spec.1 undAr.choose_spec.2 szAr ?_)
    | (refine wpl_alloc rfl 71 rfl 11 (arC zeroA) zeAr M6 hM6 ?_; intro w7 hM7 hb7 h7; have l7 : M6 < M6 + 1 := Nat.lt_succ_self _; replace h1 := h1.below hb7 (by omega); replace h2 := h2.below hb7 (by omega); replace hb7 := hb6.trans (hb7.mono (by omega)); clear hb6 hM6)
    | (refine wpl_store rfl 71 (.tmp 8) (.tmp 27) rfl M6 11 (arC x) rfl rfl 71 _ h7 szAr (fun j _ => arC_one _ j) ?_; intro w8 t8 h8; have hM8 := t8.sz hM7; replace h1 := h1.touch t8 (by omega); replace h2 := h2.touch t8 (by omega); replace hb7 := t8.below hb7 (by omega); clear hM7; have cr : w8.cell? ⟨M6, 0, none⟩ = some (.int .i64 kk) := by (have h := h8.cell (j := 0) (by omega); unfold arC at h; rw [Hr.out] at h; exact h))
    | (refine wpl_run rfl (.bool true) _ (run_neqI (x := (.tmp 29)) (y := (.const (.int .i64 0))) rfl rfl rfl (p := kk) (q := 0) K0.out _) ?_)
    | fail)
  go_wp2_with (first
    | (refine wpl_load rfl 71 (.tmp 8) rfl M6 rfl 71 11 _ h8 _ undAr.choose_spec.1 undAr.choose_spec.2 szAr ?_)
    | (refine wpl_store rfl 71 (.tmp 6) (.tmp 31) rfl (N + 1) 11 (arC x) rfl rfl 71 _ h2 szAr (fun j _ => arC_one _ j) ?_; intro wz tz hz; replace hb7 := tz.below hb7 (by omega))
    | fail)
  exact post_cb rfl (N + 1) rfl hz undAr szAr (x := .bool true) rfl rfl ⟨rfl, hb7⟩
set_option maxRecDepth 100000 in
set_option maxHeartbeats 4000000 in
theorem Load_nw_no (s : St) (at_ n : Int) (ha : at_ < 9223372036854775808) (hsz : sizeF n = true) (hin : insideF at_ n = true) (hwd : wordF at_ n = false) (hrd : readyF s at_ n = false) (w : World) (N : Nat) (hN : Sz w N) :
    Calls Try.prog 47 #[stV s, .int .i64 at_, .int .i64 n] w fun e w' => e = .returned (.tuple #[arV zeroA, .bool false]) ∧ Below N w w' := by
  unfold stV arV
  go_enter Try.func47, Try.ntmps47
  go_upto_region 7 with (first
    | (refine wpl_box rfl 76 (.tmp 0) rfl 273 _ rfl N hN ?_; intro w1 hN1 hb1 h1)
    | (refine wpl_alloc rfl 71 rfl 11 (arC zeroA) zeAr (N + 1) hN1 ?_; intro w2 hN2 hb2 h2; replace h1 := h1.below hb2 (by omega); replace hb2 := hb1.trans (hb2.mono (by omega)); clear hb1 hN1)
    | (go_at_call 75; refine (IsSize_any n _ (N + 2) hN2).mono ?_; rintro e w3 ⟨rfl, hb3⟩; rw [hsz]; obtain ⟨M3, hM3⟩ := sz_some w3; have l3 := below_sz hb3 hN2 hM3; replace h1 := h1.below hb3 (by omega); replace h2 := h2.below hb3 (by omega); replace hb3 := hb2.trans (hb3.mono (by omega)); clear hb2 hN2)
    | (go_at_call 76; refine (Inside_any at_ n _ M3 hM3).mono ?_; rintro e w4 ⟨rfl, hb4⟩; rw [hin]; obtain ⟨M4, hM4⟩ := sz_some w4; have l4 := below_sz hb4 hM3 hM4; replace h1 := h1.below hb4 (by omega); replace h2 := h2.below hb4 (by omega); replace hb4 := hb3.trans (hb4.mono (by omega)); clear hb3 hM3)
    | (go_at_call 77; refine (IsWord_any at_ n _ M4 hM4).mono ?_; rintro e w5 ⟨rfl, hb5⟩; rw [hwd]; obtain ⟨M5, hM5⟩ := sz_some w5; have l5 := below_sz hb5 hM4 hM5; replace h1 := h1.below hb5 (by omega); replace h2 := h2.below hb5 (by omega); replace hb5 := hb4.trans (hb5.mono (by omega)); clear hb4 hM4)
    | fail)
  go_upto_region 8 with (first
    | (refine wpl_load rfl 76 (.tmp 3) rfl N rfl 76 273 _ h1 _ undSt.choose_spec.1 undSt.choose_spec.2 szSt ?_)
    | (go_at_call 48; refine (Ready_any s at_ n ha _ (M5) hM5).mono ?_; rintro e wr ⟨rfl, hbr⟩; rw [hrd]; obtain ⟨Mr, hMr⟩ := sz_some wr; have lr := below_sz hbr hM5 hMr; replace h2 := h2.below hbr (by omega); replace hbr := hb5.trans (hbr.mono (by omega)); clear hb5 hM5 h1)
    | fail)
  go_wp2_with (first
    | (refine wpl_run rfl (.agg (cellsOf (arC zeroA) 11)) _ (run_bd 71 _ rfl (cellsOf (arC zeroA) 11) (by kernel_rfl) _) ?_)
    | (refine wpl_store rfl 71 (.tmp 6) (.tmp 37) rfl (N + 1) 11 (arC zeroA) rfl rfl 71 _ h2 szAr (fun j _ => arC_one _ j) ?_; intro wz tz hz; replace hbr := tz.below hbr (by omega))
    | fail)
  exact post_cb rfl (N + 1) rfl hz undAr szAr (x := .bool false) rfl rfl ⟨rfl, hbr⟩
set_option maxRecDepth 100000 in
set_option maxHeartbeats 4000000 in
theorem Load_nw_yes (s : St) (at_ n : Int) (ha : at_ < 9223372036854775808) (hsz : sizeF n = true) (hin : insideF at_ n = true) (hwd : wordF at_ n = false) (hrd : readyF s at_ n = true) (w : World) (N : Nat) (hN : Sz w N) :
    Calls Try.prog 47 #[stV s, .int .i64 at_, .int .i64 n] w fun e w' => e = .returned (.tuple #[arV (numA (lowF (obR tAny) n)), .bool true]) ∧ Below N w w' := by
  obtain ⟨z, ez⟩ : ∃ z, z = lowF (obR tAny) n := ⟨_, rfl⟩
  rw [← ez]
  have EZ := hid ez
  clear ez
  unfold stV arV
  go_enter Try.func47, Try.ntmps47
  go_upto_region 7 with (first
    | (refine wpl_box rfl 76 (.tmp 0) rfl 273 _ rfl N hN ?_; intro w1 hN1 hb1 h1)
    | (refine wpl_alloc rfl 71 rfl 11 (arC zeroA) zeAr (N + 1) hN1 ?_; intro w2 hN2 hb2 h2; replace h1 := h1.below hb2 (by omega); replace hb2 := hb1.trans (hb2.mono (by omega)); clear hb1 hN1)
    | (go_at_call 75; refine (IsSize_any n _ (N + 2) hN2).mono ?_; rintro e w3 ⟨rfl, hb3⟩; rw [hsz]; obtain ⟨M3, hM3⟩ := sz_some w3; have l3 := below_sz hb3 hN2 hM3; replace h1 := h1.below hb3 (by omega); replace h2 := h2.below hb3 (by omega); replace hb3 := hb2.trans (hb3.mono (by omega)); clear hb2 hN2)
    | (go_at_call 76; refine (Inside_any at_ n _ M3 hM3).mono ?_; rintro e w4 ⟨rfl, hb4⟩; rw [hin]; obtain ⟨M4, hM4⟩ := sz_some w4; have l4 := below_sz hb4 hM3 hM4; replace h1 := h1.below hb4 (by omega); replace h2 := h2.below hb4 (by omega); replace hb4 := hb3.trans (hb4.mono (by omega)); clear hb3 hM3)
    | (go_at_call 77; refine (IsWord_any at_ n _ M4 hM4).mono ?_; rintro e w5 ⟨rfl, hb5⟩; rw [hwd]; obtain ⟨M5, hM5⟩ := sz_some w5; have l5 := below_sz hb5 hM4 hM5; replace h1 := h1.below hb5 (by omega); replace h2 := h2.below hb5 (by omega); replace hb5 := hb4.trans (hb5.mono (by omega)); clear hb4 hM4)
    | fail)
  go_upto_region 9 with (first
    | (refine wpl_load rfl 76 (.tmp 3) rfl N rfl 76 273 _ h1 _ undSt.choose_spec.1 undSt.choose_spec.2 szSt ?_)
    | (go_at_call 48; refine (Ready_any s at_ n ha _ (M5) hM5).mono ?_; rintro e wr ⟨rfl, hbr⟩; rw [hrd]; obtain ⟨Mr, hMr⟩ := sz_some wr; have lr := below_sz hbr hM5 hMr; replace h2 := h2.below hbr (by omega); replace hbr := hb5.trans (hbr.mono (by omega)); clear hb5 hM5 h1)
    | fail)
  go_wp2_with (first
    | (go_at_call 33; refine (SAny_any _ Mr hMr).mono ?_; rintro e wa ⟨rfl, hba⟩; obtain ⟨Ma, hMa⟩ := sz_some wa; have la := below_sz hba hMr hMa; replace h2 := h2.below hba (by omega); replace hba := hbr.trans (hba.mono (by omega)); clear hbr hMr)
    | (go_at_call 31; refine (SLow_any (obR tAny) n _ Ma hMa).mono ?_; rintro e wl ⟨rfl, hbl⟩; rw [← EZ.out]; replace h2 := h2.below hbl (by omega); replace hbl := hba.trans (hbl.mono (by omega)); clear hba hMa)
    | (refine wpl_run rfl (.agg (cellsOf (arC (numA z)) 11)) _ (run_bd 71 _ rfl (cellsOf (arC (numA z)) 11) (by kernel_rfl) _) ?_)
    | (refine wpl_store rfl 71 (.tmp 6) (.tmp 41) rfl (N + 1) 11 (arC (numA z)) rfl rfl 71 _ h2 szAr (fun j _ => arC_one _ j) ?_; intro wz tz hz; replace hbl := tz.below hbl (by omega))
    | fail)
  exact post_cb rfl (N + 1) rfl hz undAr szAr (x := .bool true) rfl rfl ⟨rfl, hbl⟩
set_option maxRecDepth 100000 in
set_option maxHeartbeats 4000000 in
theorem Load_w_no (s : St) (at_ n : Int) (ha : at_ < 9223372036854775808) (hsz : sizeF n = true) (hin : insideF at_ n = true) (p : Nat) (hp : p < 64) (hix : indexF at_ = (p : Int)) (x : Ar) (hx : s.K (p / 8) = x) (hk : (x.k != 0) = false) (hwd : wordF at_ n = true) (hrd : readyF s at_ n = false) (w : World) (N : Nat) (hN : Sz w N) :
    Calls Try.prog 47 #[stV s, .int .i64 at_, .int .i64 n] w fun e w' => e = .returned (.tuple #[arV zeroA, .bool false]) ∧ Below N w w' := by
  obtain ⟨kk, ek⟩ : ∃ kk, kk = x.k := ⟨_, rfl⟩
  rw [← ek] at hk
  have Hr := hid ek.symm
  have K0 := hid hk
  clear ek hk
  have hpart : ∀ j, j < 11 → stC s (185 + p / 8 * 11 + j) = arC x j := fun j hj => by rw [Nat.mul_comm (p / 8) 11, Nat.add_assoc, stC_K s (p / 8) hj, hx]
  clear hx
  have p0 : (0 : Int) ≤ (p : Int) := by omega
  have p8 : (p : Int) / 8 < 8 := by omega
  have p9 : (0 : Int) ≤ (p : Int) / 8 := by omega
  unfold stV arV
  go_enter Try.func47, Try.ntmps47
  go_upto_region 4 with (first
    | (refine wpl_box rfl 76 (.tmp 0) rfl 273 _ rfl N hN ?_; intro w1 hN1 hb1 h1)
    | (refine wpl_alloc rfl 71 rfl 11 (arC zeroA) zeAr (N + 1) hN1 ?_; intro w2 hN2 hb2 h2; replace h1 := h1.below hb2 (by omega); replace hb2 := hb1.trans (hb2.mono (by omega)); clear hb1 hN1)
    | (go_at_call 75; refine (IsSize_any n _ (N + 2) hN2).mono ?_; rintro e w3 ⟨rfl, hb3⟩; rw [hsz]; obtain ⟨M3, hM3⟩ := sz_some w3; have l3 := below_sz hb3 hN2 hM3; replace h1 := h1.below hb3 (by omega); replace h2 := h2.below hb3 (by omega); replace hb3 := hb2.trans (hb3.mono (by omega)); clear hb2 hN2)
    | (go_at_call 76; refine (Inside_any at_ n _ M3 hM3).mono ?_; rintro e w4 ⟨rfl, hb4⟩; rw [hin]; obtain ⟨M4, hM4⟩ := sz_some w4; have l4 := below_sz hb4 hM3 hM4; replace h1 := h1.below hb4 (by omega); replace h2 := h2.below hb4 (by omega); replace hb4 := hb3.trans (hb4.mono (by omega)); clear hb3 hM3)
    | (go_at_call 77; refine (IsWord_any at_ n _ M4 hM4).mono ?_; rintro e w5 ⟨rfl, hb5⟩; rw [hwd]; obtain ⟨M5, hM5⟩ := sz_some w5; have l5 := below_sz hb5 hM4 hM5; replace h1 := h1.below hb5 (by omega); replace h2 := h2.below hb5 (by omega); replace hb5 := hb4.trans (hb5.mono (by omega)); clear hb4 hM4)
    | fail)
  go_upto_region 7 with (first
    | (go_at_call 78; refine (Index_any at_ _ M5 hM5).mono ?_; rintro e w6 ⟨rfl, hb6⟩; rw [hix]; obtain ⟨M6, hM6⟩ := sz_some w6; have l6 := below_sz hb6 hM5 hM6; replace h1 := h1.below hb6 (by omega); replace h2 := h2.below hb6 (by omega); replace hb6 := hb5.trans (hb6.mono (by omega)); clear hb5 hM5)
    | (refine wpl_load_part rfl 71 (.tmp 26) rfl N (185 + p / 8 * 11) rfl 76 273 _ h1 11 (by omega) (arC x) hpart _ undAr.choose_spec.1 undAr.choose_spec.2 szAr ?_)
    | (refine wpl_alloc rfl 71 rfl 11 (arC zeroA) zeAr M6 hM6 ?_; intro w7 hM7 hb7 h7; have l7 : M6 < M6 + 1 := Nat.lt_succ_self _; replace h1 := h1.below hb7 (by omega); replace h2 := h2.below hb7 (by omega); replace hb7 := hb6.trans (hb7.mono (by omega)); clear hb6 hM6)
    | (refine wpl_store rfl 71 (.tmp 8) (.tmp 27) rfl M6 11 (arC x) rfl rfl 71 _ h7 szAr (fun j _ => arC_one _ j) ?_; intro w8 t8 h8; have hM8 := t8.sz hM7; replace h1 := h1.touch t8 (by omega); replace h2 := h2.touch t8 (by omega); replace hb7 := t8.below hb7 (by omega); clear hM7; have cr : w8.cell? ⟨M6, 0, none⟩ = some (.int .i64 kk) := by (have h := h8.cell (j := 0) (by omega); unfold arC at h; rw [Hr.out] at h; exact h))
    | (refine wpl_run rfl (.bool false) _ (run_neqI (x := (.tmp 29)) (y := (.const (.int .i64 0))) rfl rfl rfl (p := kk) (q := 0) K0.out _) ?_)
    | fail)
  go_upto_region 8 with (first
    | (refine wpl_load rfl 76 (.tmp 3) rfl N rfl 76 273 _ h1 _ undSt.choose_spec.1 undSt.choose_spec.2 szSt ?_)
    | (go_at_call 48; refine (Ready_any s at_ n ha _ (M6 + 1) hM8).mono ?_; rintro e wr ⟨rfl, hbr⟩; rw [hrd]; obtain ⟨Mr, hMr⟩ := sz_some wr; have lr := below_sz hbr hM8 hMr; replace h2 := h2.below hbr (by omega); replace hbr := hb7.trans (hbr.mono (by omega)); clear hb7 hM8 h1 h8 cr)
    | fail)
  go_wp2_with (first
    | (refine wpl_run rfl (.agg (cellsOf (arC zeroA) 11)) _ (run_bd 71 _ rfl (cellsOf (arC zeroA) 11) (by kernel_rfl) _) ?_)
    | (refine wpl_store rfl 71 (.tmp 6) (.tmp 37) rfl (N + 1) 11 (arC zeroA) rfl rfl 71 _ h2 szAr (fun j _ => arC_one _ j) ?_; intro wz tz hz; replace hbr := tz.below hbr (by omega))
    | fail)
  exact post_cb rfl (N + 1) rfl hz undAr szAr (x := .bool false) rfl rfl ⟨rfl, hbr⟩
set_option maxRecDepth 100000 in
set_option maxHeartbeats 4000000 in
theorem Load_w_yes (s : St) (at_ n : Int) (ha : at_ < 9223372036854775808) (hsz : sizeF n = true) (hin : insideF at_ n = true) (p : Nat) (hp : p < 64) (hix : indexF at_ = (p : Int)) (x : Ar) (hx : s.K (p / 8) = x) (hk : (x.k != 0) = false) (hwd : wordF at_ n = true) (hrd : readyF s at_ n = true) (w : World) (N : Nat) (hN : Sz w N) :
    Calls Try.prog 47 #[stV s, .int .i64 at_, .int .i64 n] w fun e w' => e = .returned (.tuple #[arV (numA (lowF (obR tAny) n)), .bool true]) ∧ Below N w w' := by
  obtain ⟨kk, ek⟩ : ∃ kk, kk = x.k := ⟨_, rfl⟩
  rw [← ek] at hk
  have Hr := hid ek.symm
  have K0 := hid hk
  clear ek hk
  have hpart : ∀ j, j < 11 → stC s (185 + p / 8 * 11 + j) = arC x j := fun j hj => by rw [Nat.mul_comm (p / 8) 11, Nat.add_assoc, stC_K s (p / 8) hj, hx]
  clear hx
  have p0 : (0 : Int) ≤ (p : Int) := by omega
  have p8 : (p : Int) / 8 < 8 := by omega
  have p9 : (0 : Int) ≤ (p : Int) / 8 := by omega
  obtain ⟨z, ez⟩ : ∃ z, z = lowF (obR tAny) n := ⟨_, rfl⟩
  rw [← ez]
  have EZ := hid ez
  clear ez
  unfold stV arV
  go_enter Try.func47, Try.ntmps47
  go_upto_region 4 with (first
    | (refine wpl_box rfl 76 (.tmp 0) rfl 273 _ rfl N hN ?_; intro w1 hN1 hb1 h1)
    | (refine wpl_alloc rfl 71 rfl 11 (arC zeroA) zeAr (N + 1) hN1 ?_; intro w2 hN2 hb2 h2; replace h1 := h1.below hb2 (by omega); replace hb2 := hb1.trans (hb2.mono (by omega)); clear hb1 hN1)
    | (go_at_call 75; refine (IsSize_any n _ (N + 2) hN2).mono ?_; rintro e w3 ⟨rfl, hb3⟩; rw [hsz]; obtain ⟨M3, hM3⟩ := sz_some w3; have l3 := below_sz hb3 hN2 hM3; replace h1 := h1.below hb3 (by omega); replace h2 := h2.below hb3 (by omega); replace hb3 := hb2.trans (hb3.mono (by omega)); clear hb2 hN2)
    | (go_at_call 76; refine (Inside_any at_ n _ M3 hM3).mono ?_; rintro e w4 ⟨rfl, hb4⟩; rw [hin]; obtain ⟨M4, hM4⟩ := sz_some w4; have l4 := below_sz hb4 hM3 hM4; replace h1 := h1.below hb4 (by omega); replace h2 := h2.below hb4 (by omega); replace hb4 := hb3.trans (hb4.mono (by omega)); clear hb3 hM3)
    | (go_at_call 77; refine (IsWord_any at_ n _ M4 hM4).mono ?_; rintro e w5 ⟨rfl, hb5⟩; rw [hwd]; obtain ⟨M5, hM5⟩ := sz_some w5; have l5 := below_sz hb5 hM4 hM5; replace h1 := h1.below hb5 (by omega); replace h2 := h2.below hb5 (by omega); replace hb5 := hb4.trans (hb5.mono (by omega)); clear hb4 hM4)
    | fail)
  go_upto_region 7 with (first
    | (go_at_call 78; refine (Index_any at_ _ M5 hM5).mono ?_; rintro e w6 ⟨rfl, hb6⟩; rw [hix]; obtain ⟨M6, hM6⟩ := sz_some w6; have l6 := below_sz hb6 hM5 hM6; replace h1 := h1.below hb6 (by omega); replace h2 := h2.below hb6 (by omega); replace hb6 := hb5.trans (hb6.mono (by omega)); clear hb5 hM5)
    | (refine wpl_load_part rfl 71 (.tmp 26) rfl N (185 + p / 8 * 11) rfl 76 273 _ h1 11 (by omega) (arC x) hpart _ undAr.choose_spec.1 undAr.choose_spec.2 szAr ?_)
    | (refine wpl_alloc rfl 71 rfl 11 (arC zeroA) zeAr M6 hM6 ?_; intro w7 hM7 hb7 h7; have l7 : M6 < M6 + 1 := Nat.lt_succ_self _; replace h1 := h1.below hb7 (by omega); replace h2 := h2.below hb7 (by omega); replace hb7 := hb6.trans (hb7.mono (by omega)); clear hb6 hM6)
    | (refine wpl_store rfl 71 (.tmp 8) (.tmp 27) rfl M6 11 (arC x) rfl rfl 71 _ h7 szAr (fun j _ => arC_one _ j) ?_; intro w8 t8 h8; have hM8 := t8.sz hM7; replace h1 := h1.touch t8 (by omega); replace h2 := h2.touch t8 (by omega); replace hb7 := t8.below hb7 (by omega); clear hM7; have cr : w8.cell? ⟨M6, 0, none⟩ = some (.int .i64 kk) := by (have h := h8.cell (j := 0) (by omega); unfold arC at h; rw [Hr.out] at h; exact h))
    | (refine wpl_run rfl (.bool false) _ (run_neqI (x := (.tmp 29)) (y := (.const (.int .i64 0))) rfl rfl rfl (p := kk) (q := 0) K0.out _) ?_)
    | fail)
  go_upto_region 9 with (first
    | (refine wpl_load rfl 76 (.tmp 3) rfl N rfl 76 273 _ h1 _ undSt.choose_spec.1 undSt.choose_spec.2 szSt ?_)
    | (go_at_call 48; refine (Ready_any s at_ n ha _ (M6 + 1) hM8).mono ?_; rintro e wr ⟨rfl, hbr⟩; rw [hrd]; obtain ⟨Mr, hMr⟩ := sz_some wr; have lr := below_sz hbr hM8 hMr; replace h2 := h2.below hbr (by omega); replace hbr := hb7.trans (hbr.mono (by omega)); clear hb7 hM8 h1 h8 cr)
    | fail)
  go_wp2_with (first
    | (go_at_call 33; refine (SAny_any _ Mr hMr).mono ?_; rintro e wa ⟨rfl, hba⟩; obtain ⟨Ma, hMa⟩ := sz_some wa; have la := below_sz hba hMr hMa; replace h2 := h2.below hba (by omega); replace hba := hbr.trans (hba.mono (by omega)); clear hbr hMr)
    | (go_at_call 31; refine (SLow_any (obR tAny) n _ Ma hMa).mono ?_; rintro e wl ⟨rfl, hbl⟩; rw [← EZ.out]; replace h2 := h2.below hbl (by omega); replace hbl := hba.trans (hbl.mono (by omega)); clear hba hMa)
    | (refine wpl_run rfl (.agg (cellsOf (arC (numA z)) 11)) _ (run_bd 71 _ rfl (cellsOf (arC (numA z)) 11) (by kernel_rfl) _) ?_)
    | (refine wpl_store rfl 71 (.tmp 6) (.tmp 41) rfl (N + 1) 11 (arC (numA z)) rfl rfl 71 _ h2 szAr (fun j _ => arC_one _ j) ?_; intro wz tz hz; replace hbl := tz.below hbl (by omega))
    | fail)
  exact post_cb rfl (N + 1) rfl hz undAr szAr (x := .bool true) rfl rfl ⟨rfl, hbl⟩
/-- What Load tells. -/
def loadF (s : St) (a n : Int) : Ar × Bool :=
  bif sizeF n && insideF a n then
    bif wordF a n && ((s.K ((indexF a).toNat / 8)).k != 0) then (s.K ((indexF a).toNat / 8), true)
    else bif readyF s a n then (numA (lowF (obR tAny) n), true)
    else (zeroA, false)
  else (zeroA, false)
theorem Load_any (s : St) (a n : Int) (ha : a < 9223372036854775808) (w : World) (N : Nat) (hN : Sz w N) :
    Calls Try.prog 47 #[stV s, .int .i64 a, .int .i64 n] w fun e w' => e = .returned (.tuple #[arV (loadF s a n).1, .bool (loadF s a n).2]) ∧ Below N w w' := by
  cases hs : sizeF n
  · have e : loadF s a n = (zeroA, false) := by unfold loadF; rw [hs]; rfl
    rw [e]; exact Load_size s a n ha hs w N hN
  cases hi : insideF a n
  · have e : loadF s a n = (zeroA, false) := by unfold loadF; rw [hs, hi]; rfl
    rw [e]; exact Load_out s a n ha hs hi w N hN
  obtain ⟨p1, p2, p3, p4⟩ := inside_place ha (size_pos hs) hi
  have pz := size_pos hs
  cases hw : wordF a n
  · cases hr : readyF s a n
    · have e : loadF s a n = (zeroA, false) := by unfold loadF; rw [hs, hi, hw, hr]; rfl
      rw [e]; exact Load_nw_no s a n ha hs hi hw hr w N hN
    · have e : loadF s a n = (numA (lowF (obR tAny) n), true) := by unfold loadF; rw [hs, hi, hw, hr]; rfl
      rw [e]; exact Load_nw_yes s a n ha hs hi hw hr w N hN
  · cases hk : ((s.K ((indexF a).toNat / 8)).k != 0)
    · cases hr : readyF s a n
      · have e : loadF s a n = (zeroA, false) := by unfold loadF; rw [hs, hi, hw, hk, hr]; rfl
        rw [e]; exact Load_w_no s a n ha hs hi (indexF a).toNat (by omega) p1 _ rfl hk hw hr w N hN
      · have e : loadF s a n = (numA (lowF (obR tAny) n), true) := by unfold loadF; rw [hs, hi, hw, hk, hr]; rfl
        rw [e]; exact Load_w_yes s a n ha hs hi (indexF a).toNat (by omega) p1 _ rfl hk hw hr w N hN
    · have e : loadF s a n = (s.K ((indexF a).toNat / 8), true) := by unfold loadF; rw [hs, hi, hw, hk]; rfl
      rw [e]; exact Load_kept s a n ha hs hi (indexF a).toNat (by omega) p1 _ rfl hk hw w N hN
end Go.Proofs.Ytaeggclcjpcnoaa
