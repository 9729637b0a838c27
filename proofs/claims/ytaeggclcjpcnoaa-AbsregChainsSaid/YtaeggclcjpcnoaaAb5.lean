/- States: Load of a number's byte; a number alone; saves(). -/
import Derived.Test.YtaeggclcjpcnoaaAb4
import Derived.Test.YtaeggclcjpcnoaaSe6b
namespace Go.Proofs.Ytaeggclcjpcnoaa
open Go Go.RowKit
def numA (r : Rn) : Ar := ⟨1, r, 0, 0, 0, 0⟩
set_option maxRecDepth 100000 in
set_option maxHeartbeats 4000000 in
theorem Number_any (x : W) (w : World) (N : Nat) (hN : Sz w N) : Calls Try.prog 44 #[Q x] w fun e w' => e = .returned (arV (numA (cR x))) ∧ Below N w w' := by
  unfold arV
  go_enter Try.func44, Try.ntmps44
  go_wp2_with (first
    | (refine wpl_alloc rfl 71 rfl 11 (arC zeroA) zeAr N hN ?_; intro w1 hN1 hb1 h1)
    | (go_at_call 28; refine (SConst_any x _ _ hN1).mono ?_; rintro e w2 ⟨rfl, hb2⟩; replace h1 := h1.below hb2 (by omega); replace hb2 := hb1.trans (hb2.mono (by omega)))
    | (refine wpl_run rfl (.agg (cellsOf (arC (numA (cR x))) 11)) _ (run_bd 71 _ rfl (cellsOf (arC (numA (cR x))) 11) (by kernel_rfl) _) ?_)
    | (refine wpl_store rfl 71 (.tmp 2) (.tmp 5) rfl N 11 (arC (numA (cR x))) rfl rfl 71 _ h1 szAr (fun j _ => arC_one _ j) ?_; intro w3 t3 h3; replace hb2 := t3.below hb2 (by omega))
    | fail)
  exact post_cell rfl N rfl h3 _ undAr.choose_spec.1 undAr.choose_spec.2 szAr rfl ⟨rfl, hb2⟩
set_option maxRecDepth 100000 in
set_option maxHeartbeats 4000000 in
theorem Load_one (s : St) (at_ : Int) (p : Nat) (hin : insideF at_ 1 = true) (hnw : wordF at_ 1 = false) (hix : indexF at_ = (p : Int)) (hp : p < 64) (hW : s.W p = true) (w : World) (N : Nat) (hN : Sz w N) :
    Calls Try.prog 47 #[stV s, .int .i64 at_, .int .i64 1] w fun e w' => e = .returned (.tuple #[arV (numA (lowR1 (obR tAny))), .bool true]) ∧ Below N w w' := by
  have hall : allW s p 1 = true := by
    unfold allW; rw [decide_eq_true_eq]; intro j hj; rw [show p + j = p by omega]; exact hW
  obtain ⟨x, ex⟩ : ∃ x, x = stV s := ⟨_, rfl⟩
  have hx : x = .agg (cellsOf (stC s) 273) := ex
  rw [← ex]
  have EX := hid ex
  clear ex
  have HX := hid hx
  clear hx
  unfold arV
  obtain ⟨z, ez⟩ : ∃ z, z = lowR1 (obR tAny) := ⟨_, rfl⟩
  rw [← ez]
  have EZ := hid ez
  clear ez
  have hs1 : sizeF 1 = true := rfl
  rw [HX.out]
  go_enter Try.func47, Try.ntmps47
  go_wp2_with (first
    | (refine wpl_box rfl 76 (.tmp 0) rfl 273 _ rfl N hN ?_; intro w1 hN1 hb1 h1)
    | (refine wpl_alloc rfl 71 rfl 11 (arC zeroA) zeAr (N + 1) hN1 ?_; intro w2 hN2 hb2 h2; replace h1 := h1.below hb2 (by omega); replace hb2 := hb1.trans (hb2.mono (by omega)); clear hb1 hN1)
    | (go_at_call 75; refine (IsSize_any 1 _ (N + 2) hN2).mono ?_; rintro e w3 ⟨rfl, hb3⟩; rw [hs1]; obtain ⟨M3, hM3⟩ := sz_some w3; have l3 := below_sz hb3 hN2 hM3; replace h1 := h1.below hb3 (by omega); replace h2 := h2.below hb3 (by omega); replace hb3 := hb2.trans (hb3.mono (by omega)); clear hb2 hN2)
    | (go_at_call 76; refine (Inside_any at_ 1 _ M3 hM3).mono ?_; rintro e w4 ⟨rfl, hb4⟩; rw [hin]; obtain ⟨M4, hM4⟩ := sz_some w4; have l4 := below_sz hb4 hM3 hM4; replace h1 := h1.below hb4 (by omega); replace h2 := h2.below hb4 (by omega); replace hb4 := hb3.trans (hb4.mono (by omega)); clear hb3 hM3)
    | (go_at_call 77; refine (IsWord_any at_ 1 _ M4 hM4).mono ?_; rintro e w5 ⟨rfl, hb5⟩; rw [hnw]; obtain ⟨M5, hM5⟩ := sz_some w5; have l5 := below_sz hb5 hM4 hM5; replace h1 := h1.below hb5 (by omega); replace h2 := h2.below hb5 (by omega); replace hb5 := hb4.trans (hb5.mono (by omega)); clear hb4 hM4)
    | (refine wpl_load rfl 76 (.tmp 3) rfl N rfl 76 273 _ h1 _ undSt.choose_spec.1 undSt.choose_spec.2 szSt ?_)
    | (go_at_call 48; refine (Ready_in s at_ 1 p 1 rfl (by omega) hin hix (by omega) _ M5 hM5).mono ?_; rintro e w6 ⟨rfl, hb6⟩; rw [hall]; obtain ⟨M6, hM6⟩ := sz_some w6; have l6 := below_sz hb6 hM5 hM6; replace h2 := h2.below hb6 (by omega); replace hb6 := hb5.trans (hb6.mono (by omega)); clear hb5 hM5 h1)
    | (go_at_call 33; refine (SAny_any _ M6 hM6).mono ?_; rintro e w7 ⟨rfl, hb7⟩; obtain ⟨M7, hM7⟩ := sz_some w7; have l7 := below_sz hb7 hM6 hM7; replace h2 := h2.below hb7 (by omega); replace hb7 := hb6.trans (hb7.mono (by omega)); clear hb6 hM6)
    | (go_at_call 31; refine (SLow_1 (obR tAny) _ M7 hM7).mono ?_; rintro e w8 ⟨rfl, hb8⟩; rw [← EZ.out]; replace h2 := h2.below hb8 (by omega); replace hb8 := hb7.trans (hb8.mono (by omega)); clear hb7 hM7)
    | (refine wpl_run rfl (.agg (cellsOf (arC (numA z)) 11)) _ (run_bd 71 _ rfl (cellsOf (arC (numA z)) 11) (by kernel_rfl) _) ?_)
    | (refine wpl_store rfl 71 (.tmp 6) (.tmp 41) rfl (N + 1) 11 (arC (numA z)) rfl rfl 71 _ h2 szAr (fun j _ => arC_one _ j) ?_; intro w9 t9 h9; replace hb8 := t9.below hb8 (by omega))
    | fail)
  exact post_cb rfl (N + 1) rfl h9 undAr szAr rfl rfl ⟨rfl, hb8⟩
end Go.Proofs.Ytaeggclcjpcnoaa
