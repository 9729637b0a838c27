/- States: Save of a value. -/
import Derived.Test.YtaeggclcjpcnoaaAb3
namespace Go.Proofs.Ytaeggclcjpcnoaa
open Go Go.RowKit
set_option maxRecDepth 100000 in
set_option maxHeartbeats 4000000 in
theorem Save_val (s : St) (r : Ar) (at_ n : Int) (p m : Nat) (hm : n = m) (hk0 : (r.k == 0) = false) (hk1 : (r.k == 1) = false) (hwd : wordF at_ n = true) (hsz : sizeF n = true) (hin : insideF at_ n = true) (hix : indexF at_ = (p : Int)) (hp : p + m ≤ 64) (hp0 : p < 64) (w : World) (N : Nat) (hN : Sz w N) :
    Calls Try.prog 45 #[stV s, .int .i64 at_, .int .i64 n, arV r] w fun e w' => e = .returned (.tuple #[stV ((saveL s p false m).setK (p / 8) r), .bool true]) ∧ Below N w w' := by
  unfold stV arV
  have Hm := hid hm
  obtain ⟨kk, ek⟩ : ∃ kk, kk = r.k := ⟨_, rfl⟩
  rw [← ek] at hk0 hk1
  have Hr := hid ek.symm
  have K0 := hid hk0
  have K1 := hid hk1
  have K2 : Hid ((kk != 1) = true) := hid (by simp only [bne, hk1]; rfl)
  clear hm ek hk0 hk1
  obtain ⟨rr, er⟩ : ∃ rr, rr = (saveL s p false m).setK (p / 8) r := ⟨_, rfl⟩
  rw [← er]
  have ER := hid er
  clear er
  have hz : (N : Nat) < N + 3 := by omega
  go_enter Try.func45, Try.ntmps45
  go_upto_region 5 with (first
    | (refine wpl_box rfl 76 (.tmp 0) rfl 273 _ rfl N hN ?_; intro w1 hN1 hb1 h1)
    | (refine wpl_box rfl 71 (.tmp 3) rfl 11 _ rfl (N + 1) hN1 ?_; intro w2 hN2 hb2 h2; replace h1 := h1.below hb2 (by omega); replace hb2 := hb1.trans (hb2.mono (by omega)); clear hb1 hN1)
    | (refine wpl_alloc rfl 76 rfl 273 (stC zeroS) zeSt (N + 2) hN2 ?_; intro w3 hN3 hb3 h3; replace h1 := h1.below hb3 (by omega); replace h2 := h2.below hb3 (by omega); replace hb3 := hb2.trans (hb3.mono (by omega)); clear hb2 hN2)
    | (go_at_call 75; refine (IsSize_any n _ (N + 3) hN3).mono ?_; rintro e w4 ⟨rfl, hb4⟩; rw [hsz]; obtain ⟨M4, hM4⟩ := sz_some w4; have l4 := below_sz hb4 hN3 hM4; replace h1 := h1.below hb4 (by omega); replace h2 := h2.below hb4 (by omega); replace h3 := h3.below hb4 (by omega); replace hb4 := hb3.trans (hb4.mono (by omega)); clear hb3 hN3)
    | (go_at_call 76; refine (Inside_any at_ n _ M4 hM4).mono ?_; rintro e w5 ⟨rfl, hb5⟩; rw [hin]; obtain ⟨M5, hM5⟩ := sz_some w5; have l5 := below_sz hb5 hM4 hM5; replace h1 := h1.below hb5 (by omega); replace h2 := h2.below hb5 (by omega); replace h3 := h3.below hb5 (by omega); replace hb5 := hb4.trans (hb5.mono (by omega)); clear hb4 hM4; have cr : w5.cell? ⟨N + 1, 0, none⟩ = some (.int .i64 kk) := by (have h := h2.cell (j := 0) (by omega); unfold arC at h; rw [Hr.out] at h; exact h))
    | (refine wpl_run rfl (.bool false) _ (run_eqlI (x := (.tmp 23)) (y := (.const (.int .i64 0))) rfl rfl rfl (p := kk) (q := 0) K0.out _) ?_)
    | (refine wpl_want (by rfl) ?_; refine wpl_run rfl (.bool true) _ (run_neqI (x := (.tmp 27)) (y := (.const (.int .i64 1))) rfl rfl rfl (p := kk) (q := 1) K2.out _) ?_)
    | (go_at_call 77; refine (IsWord_any at_ n _ M5 hM5).mono ?_; rintro e w5b ⟨rfl, hb5b⟩; rw [hwd]; obtain ⟨M5b, hM5b⟩ := sz_some w5b; have l5b := below_sz hb5b hM5 hM5b; replace h1 := h1.below hb5b (by omega); replace h2 := h2.below hb5b (by omega); replace h3 := h3.below hb5b (by omega); replace hb5b := hb5.trans (hb5b.mono (by omega)); clear hb5 hM5 cr)
    | fail)
  obtain rfl := Hm.out
  clear Hm
  have p0 : (0 : Int) ≤ (p : Int) := by omega
  have p8 : (p : Int) / 8 < 8 := by omega
  have p9 : (0 : Int) ≤ (p : Int) / 8 := by omega
  have pm : (p : Int) + (m : Int) ≤ 64 := by omega
  have m0 : (0 : Int) ≤ (m : Int) := by omega
  go_wp2_with (first
    | (go_at_call 78; refine (Index_any at_ _ M5b hM5b).mono ?_; rintro e w6 ⟨rfl, hb6⟩; rw [hix]; obtain ⟨M6, hM6⟩ := sz_some w6; have l6 := below_sz hb6 hM5b hM6; replace h1 := h1.below hb6 (by omega); replace h2 := h2.below hb6 (by omega); replace h3 := h3.below hb6 (by omega); replace hb6 := hb5b.trans (hb6.mono (by omega)); clear hb5b hM5b)
    | fail)
  go_loopw [11] (fun i wr => ∃ q : Nat, p ≤ q ∧ q ≤ p + m ∧ i = .int .i64 q ∧ Has wr N 76 273 (stC (saveL s p false (q - p))) ∧ Has wr (N + 1) 71 11 (arC r) ∧ Has wr (N + 2) 76 273 (stC zeroS) ∧ Below N w wr) (fun i _ => 64 - (intOf i).toNat)
  case atStart => exact ⟨p, by omega, by omega, rfl, by rw [Nat.sub_self]; exact h1, h2, h3, hb6⟩
  case round =>
    clear h1 h2 h3 hb6
    obtain ⟨q, hq0, hq1, rfl, h1, h2, h3, hb⟩ := hrel
    by_cases hlt : q < p + m
    · have t1 : decide ((q : Int) < (p : Int) + (m : Int)) = true := by simp; omega
      have j1 : (0 : Int) ≤ (q : Int) := by omega
      have j2 : (q : Int) < 64 := by omega
      go_wp2_with (first
        | (go_at_call 79; refine (Forget_any N (q / 8) (by omega) _ _ h1).mono ?_; rintro e w7 ⟨rfl, t7, h7⟩; replace h2 := h2.touch t7 (by omega); replace h3 := h3.touch t7 (by omega); replace hb := t7.below hb (by omega); have cr : w7.cell? ⟨N + 1, 0, none⟩ = some (.int .i64 kk) := by (have h := h2.cell (j := 0) (by omega); unfold arC at h; rw [Hr.out] at h; exact h))
        | (refine wpl_run rfl (.bool false) _ (run_eqlI (x := (.tmp 52)) (y := (.const (.int .i64 1))) rfl rfl rfl (p := kk) (q := 1) K1.out _) ?_)
        | (refine wpl_set rfl 4 (.tmp 55) (.tmp 53) rfl N (121 + q) rfl (.bool false) rfl szB1 rfl rfl 76 273 _ h7 (by omega) ?_; intro w8 t8 h8; replace h2 := h2.touch t8 (by omega); replace h3 := h3.touch t8 (by omega); replace hb := t8.below hb (by omega); clear cr)
        | fail)
      refine ⟨⟨q + 1, by omega, by omega, by go_num, h8.congr (fun j _ => ?_), h2, h3, hb⟩, by simp [intOf]; omega⟩
      rw [upd_W _ (by omega), show q + 1 - p = (q - p) + 1 by omega]
      show _ = stC (((saveL s p false (q - p)).drop ((p + (q - p)) / 8)).setW (p + (q - p)) false) j
      rw [show p + (q - p) = q by omega]
    · obtain rfl : q = p + m := by omega
      have t1 : decide (((p + m : Nat) : Int) < (p : Int) + (m : Int)) = false := by simp
      have cr : wr.cell? ⟨N + 1, 0, none⟩ = some (.int .i64 kk) := by (have h := h2.cell (j := 0) (by omega); unfold arC at h; rw [Hr.out] at h; exact h)
      rw [Nat.add_sub_cancel_left] at h1
      go_wp2_with (first
        | (refine wpl_run rfl (.bool true) _ (run_neqI (x := (.tmp 57)) (y := (.const (.int .i64 1))) rfl rfl rfl (p := kk) (q := 1) K2.out _) ?_)
        | (refine wpl_load rfl 71 (.tmp 7) rfl (N + 1) rfl 71 11 _ h2 _ undAr.choose_spec.1 undAr.choose_spec.2 szAr ?_)
        | (refine wpl_store_part rfl 71 (.tmp 63) (.tmp 61) rfl N (185 + p / 8 * 11) rfl 11 (arC r) rfl 76 273 _ h1 (by omega) szAr (fun j _ => arC_one _ j) ?_; intro wk tk hk; replace h3 := h3.touch tk (by omega); replace hb := tk.below hb (by omega); replace hk := hk.congr (g := stC rr) (fun j _ => by rw [Nat.mul_comm (p / 8) 11, ER.out]; exact lay_K _ (by omega) r j))
        | (refine wpl_load rfl 76 (.tmp 4) rfl N rfl 76 273 _ hk _ undSt.choose_spec.1 undSt.choose_spec.2 szSt ?_)
        | (refine wpl_store rfl 76 (.tmp 8) (.tmp 64) rfl (N + 2) 273 (stC rr) rfl rfl 76 _ h3 szSt (fun j _ => stC_one _ j) ?_; intro w9 t9 h9; replace hb := t9.below hb (by omega))
        | fail)
      exact post_cb rfl (N + 2) rfl h9 undSt szSt rfl rfl ⟨rfl, hb⟩
end Go.Proofs.Ytaeggclcjpcnoaa
