/- Rights as words: guess and Parse of texts of whatever length. -/
import Derived.Test.YtilhkgbninbkkaaDoorCt0
import Derived.Test.YtilhkgbninbkkaaDoorPu3
namespace Go.Proofs.YtilhkgbninbkkaaDoor
open Go Go.RowKit
theorem sCut_sp (s : ByteArray) (hs : s.size ≤ 281474976710656) (w : World) (N : Nat) (hN : Sz w N) : Calls Tryd.prog 78 #[.string s, .string ⟨#[32]⟩] w fun e w' => (∃ b, e = .returned (.tuple #[.string (wordOf s), .string (restOf s), .bool b])) ∧ Below N w w' := by
  have HI := slCut_sp s hs w N hN
  generalize wordOf s = W at *
  generalize restOf s = R at *
  go_enter Tryd.func78, Tryd.ntmps78
  go_wp2_with (go_at_call 89; refine HI.mono ?_; rintro e w1 ⟨⟨b, rfl⟩, b1⟩)
  exact bodyPost_ret (results_tmp3 rfl _ _ _) rfl ⟨⟨b, rfl⟩, b1⟩
set_option maxRecDepth 100000 in
theorem gnU_any (s sg : ByteArray) (hs : s.size ≤ 281474976710656) (w : World) (N : Nat) (hN : Sz w N) (hE : Er w) : Calls Tryd.prog 68 #[.string s, .string sg] w fun e w' => e = .returned (.tuple #[.int .u16 (numOf s sg : Int), .string (restOf s)]) ∧ Below N w w' := by
  have HC := sCut_sp s hs w N hN
  have HT := fun w => Tryd.strings_TrimPrefix (wordOf s) sg w
  have hl : (trimOf (wordOf s) sg).size ≤ 281474976710656 := by
    have h1 := trimOf_size (wordOf s) sg
    have h2 := wordOf_size s
    omega
  have hz := numOf_lt s sg
  have HP := fun w N hN hE => PuP_any (trimOf (wordOf s) sg) hl w N hN hE
  have e1 : numOf s sg = (puS (trimOf (wordOf s) sg)).1 := rfl
  rw [← e1] at HP
  have z0 : (0 : Int) ≤ (numOf s sg : Int) := by omega
  have z1 : (numOf s sg : Int) < 65536 := by omega
  have HT2 : ∀ w, Calls Tryd.prog 80 #[.string (wordOf s), .string sg] w fun e w' => e = .returned (.string (trimOf (wordOf s) sg)) ∧ w' = w := HT
  clear HT e1 hz hl
  generalize (numOf s sg : Int) = z at *
  generalize trimOf (wordOf s) sg = T at *
  generalize wordOf s = W at *
  generalize restOf s = R at *
  have hw : IntKind.u16.wrap z = z := by simp [IntKind.wrap, IntKind.signed, IntKind.bits]; omega
  go_enter Tryd.func68, Tryd.ntmps68
  go_wp2_with (first
    | (go_at_call 78; refine HC.mono ?_; rintro e w1 ⟨⟨b, rfl⟩, b1⟩; obtain ⟨M1, hM1⟩ := sz_some w1; have l1 := below_sz b1 hN hM1)
    | (go_at_call 80; refine (HT2 _).mono ?_; rintro e u ⟨rfl, hu⟩; have hu2 := hu.symm; subst hu2; clear hu)
    | (go_at_call 79; refine (HP _ M1 hM1 (hE.below hN b1)).mono ?_; rintro e w2 ⟨⟨v, rfl⟩, b2⟩)
    | fail)
  go_ret2
  exact ⟨rfl, b1.trans (b2.mono l1)⟩
theorem gnWU_any (s sg : ByteArray) (hs : s.size ≤ 281474976710656) (w : World) (N : Nat) (hN : Sz w N) (hE : Er w) : Calls Tryd.prog 68 #[.string s, .string sg] w fun e w' => e = .returned (.tuple #[Wd (BitVec.ofNat 16 (numOf s sg)), .string (restOf s)]) ∧ Below N w w' := by
  rw [← Wd_ofNat (numOf_lt s sg)]
  exact gnU_any s sg hs w N hN hE
set_option maxRecDepth 100000 in
set_option maxHeartbeats 16000000 in
theorem guessU_any (s : ByteArray) (hs : s.size ≤ 281474976710656) (w : World) (N : Nat) (hN : Sz w N) (hE : Er w) : Calls Tryd.prog 51 #[.string s] w fun e w' => e = .returned (rgV (gsR s)) ∧ Below N w w' := by
  obtain ⟨r, er⟩ : ∃ r, gsR s = r := ⟨_, rfl⟩
  rw [er]
  have e0 : BitVec.ofNat 16 (numOf s ⟨#[99]⟩) = r.c := by rw [← er]; rfl
  have e1 : BitVec.ofNat 16 (numOf (restOf s) ⟨#[112]⟩) = r.p := by rw [← er]; rfl
  have e2 : BitVec.ofNat 16 (numOf (restOf (restOf s)) ⟨#[109]⟩) = r.m := by rw [← er]; rfl
  have e3 : BitVec.ofNat 16 (numOf (restOf (restOf (restOf s))) ⟨#[104]⟩) = r.h := by rw [← er]; rfl
  have e4 : Lib.hasPrefix (restOf (restOf (restOf (restOf s)))).data.toList wPriv.data.toList = r.v := by rw [← er]; rfl
  have e5 : Lib.hasSuffix (restOf (restOf (restOf (restOf s)))).data.toList wSign.data.toList = r.s := by rw [← er]; rfl
  clear er
  have s1 : (restOf s).size ≤ 281474976710656 := Nat.le_trans (restOf_size s) hs
  have s2 : (restOf (restOf s)).size ≤ 281474976710656 := Nat.le_trans (restOf_size _) s1
  have s3 : (restOf (restOf (restOf s))).size ≤ 281474976710656 := Nat.le_trans (restOf_size _) s2
  have s4 : (restOf (restOf (restOf (restOf s)))).size ≤ 281474976710656 := Nat.le_trans (restOf_size _) s3
  have g0 := fun w N hN hE => gnWU_any s ⟨#[99]⟩ hs w N hN hE
  have g1 := fun w N hN hE => gnWU_any (restOf s) ⟨#[112]⟩ s1 w N hN hE
  have g2 := fun w N hN hE => gnWU_any (restOf (restOf s)) ⟨#[109]⟩ s2 w N hN hE
  have g3 := fun w N hN hE => gnWU_any (restOf (restOf (restOf s))) ⟨#[104]⟩ s3 w N hN hE
  have g4 : ∀ w, Calls Tryd.prog 69 #[.string (restOf (restOf (restOf (restOf s)))), .string wPriv] w fun e w' => e = .returned (.bool r.v) ∧ w' = w := fun w => by rw [← e4]; exact Tryd.strings_HasPrefix _ wPriv w
  have g5 : ∀ w, Calls Tryd.prog 70 #[.string (restOf (restOf (restOf (restOf s)))), .string wSign] w fun e w' => e = .returned (.bool r.s) ∧ w' = w := fun w => by rw [← e5]; exact Tryd.strings_HasSuffix _ wSign w (by omega)
  unfold wPriv at g4
  unfold wSign at g5
  rw [e0] at g0
  rw [e1] at g1
  rw [e2] at g2
  rw [e3] at g3
  clear e0 e1 e2 e3 e4 e5 s1 s2 s3 s4 hs
  generalize restOf (restOf (restOf (restOf s))) = x4 at *
  generalize restOf (restOf (restOf s)) = x3 at *
  generalize restOf (restOf s) = x2 at *
  generalize restOf s = x1 at *
  go_enter Tryd.func51, Tryd.ntmps51
  go_upto_region 2 with (first
    | (refine wpl_alloc rfl 26 rfl 6 (rgC rgNone) zeRR N hN ?_; intro w1 hN1 b1 h1)
    | (refine wpl_alloc rfl 26 rfl 6 (rgC rgNone) zeRR (N + 1) hN1 ?_; intro w2 hN2 b2 h2)
    | fail)
  have lo := b1.trans (b2.mono (by omega))
  replace h1 := h1.below b2 (by omega)
  have hM0 := hN2
  obtain ⟨M0, eM0⟩ : ∃ M, N + 1 + 1 = M := ⟨_, rfl⟩
  have lM0 : N + 1 < M0 := by omega
  rw [eM0] at hM0
  clear eM0 hN1 hN2 b1 b2
  go_upto_region 3 with (first
    | (go_at_call 68; refine (g0 _ M0 hM0 (hE.below hN lo)).mono ?_; rintro e y0 ⟨rfl, b0⟩; obtain ⟨M1, hM1⟩ := sz_some y0; have l0 := below_sz b0 hM0 hM1; replace h1 := h1.below b0 (by omega); replace h2 := h2.below b0 (by omega); replace lo := lo.trans (b0.mono (by omega)); clear b0)
    | (refine wpl_set rfl 22 (.tmp 9) (.tmp 7) rfl (N + 1) 0 rfl (Wd r.c) rfl szU16 rfl rfl 26 6 _ h2 (by omega) ?_; intro z0 t0 k0; replace h1 := h1.touch t0 (by omega); replace lo := t0.below lo (by omega); replace hM1 := t0.sz hM1; have h2 := k0)
    | fail)
  clear g0
  go_upto_region 4 with (first
    | (go_at_call 68; refine (g1 _ M1 hM1 (hE.below hN lo)).mono ?_; rintro e y1 ⟨rfl, b1⟩; obtain ⟨M2, hM2⟩ := sz_some y1; have l1 := below_sz b1 hM1 hM2; replace h1 := h1.below b1 (by omega); replace h2 := h2.below b1 (by omega); replace lo := lo.trans (b1.mono (by omega)); clear b1)
    | (refine wpl_set rfl 22 (.tmp 15) (.tmp 13) rfl (N + 1) 1 rfl (Wd r.p) rfl szU16 rfl rfl 26 6 _ h2 (by omega) ?_; intro z1 t1 k1; replace h1 := h1.touch t1 (by omega); replace lo := t1.below lo (by omega); replace hM2 := t1.sz hM2; have h2 := k1)
    | fail)
  clear g1
  go_upto_region 5 with (first
    | (go_at_call 68; refine (g2 _ M2 hM2 (hE.below hN lo)).mono ?_; rintro e y2 ⟨rfl, b2⟩; obtain ⟨M3, hM3⟩ := sz_some y2; have l2 := below_sz b2 hM2 hM3; replace h1 := h1.below b2 (by omega); replace h2 := h2.below b2 (by omega); replace lo := lo.trans (b2.mono (by omega)); clear b2)
    | (refine wpl_set rfl 22 (.tmp 21) (.tmp 19) rfl (N + 1) 2 rfl (Wd r.m) rfl szU16 rfl rfl 26 6 _ h2 (by omega) ?_; intro z2 t2 k2; replace h1 := h1.touch t2 (by omega); replace lo := t2.below lo (by omega); replace hM3 := t2.sz hM3; have h2 := k2)
    | fail)
  clear g2
  go_upto_region 6 with (first
    | (go_at_call 68; refine (g3 _ M3 hM3 (hE.below hN lo)).mono ?_; rintro e y3 ⟨rfl, b3⟩; obtain ⟨M4, hM4⟩ := sz_some y3; have l3 := below_sz b3 hM3 hM4; replace h1 := h1.below b3 (by omega); replace h2 := h2.below b3 (by omega); replace lo := lo.trans (b3.mono (by omega)); clear b3)
    | (refine wpl_set rfl 22 (.tmp 27) (.tmp 25) rfl (N + 1) 3 rfl (Wd r.h) rfl szU16 rfl rfl 26 6 _ h2 (by omega) ?_; intro z3 t3 k3; replace h1 := h1.touch t3 (by omega); replace lo := t3.below lo (by omega); replace hM4 := t3.sz hM4; have h2 := k3)
    | fail)
  clear g3
  go_upto_region 7 with (first
    | (go_at_call 69; refine (g4 _).mono ?_; rintro e u ⟨rfl, hu⟩; have hu2 := hu.symm; subst hu2; clear hu)
    | (refine wpl_set rfl 4 (.tmp 30) (.tmp 29) rfl (N + 1) 4 rfl (.bool r.v) rfl szBo1 rfl rfl 26 6 _ h2 (by omega) ?_; intro z4 t4 k4; replace h1 := h1.touch t4 (by omega); replace lo := t4.below lo (by omega); replace hM4 := t4.sz hM4; have h2 := k4)
    | fail)
  clear g4
  go_upto_region 8 with (first
    | (go_at_call 70; refine (g5 _).mono ?_; rintro e u ⟨rfl, hu⟩; have hu2 := hu.symm; subst hu2; clear hu)
    | (refine wpl_set rfl 4 (.tmp 33) (.tmp 32) rfl (N + 1) 5 rfl (.bool r.s) rfl szBo1 rfl rfl 26 6 _ h2 (by omega) ?_; intro z5 t5 k5; replace h1 := h1.touch t5 (by omega); replace lo := t5.below lo (by omega); replace hM4 := t5.sz hM4; have h2 := k5)
    | fail)
  clear g5
  have h3 : Has z5 (N + 1) 26 6 (rgC r) := h2.congr (fun j hj => by
    rcases (show j = 0 ∨ j = 1 ∨ j = 2 ∨ j = 3 ∨ j = 4 ∨ j = 5 by omega) with rfl | rfl | rfl | rfl | rfl | rfl <;> rfl)
  clear h2
  obtain ⟨dR, u1, u2⟩ := undRR
  go_wp2_with (first
    | (refine wpl_load rfl 26 (.tmp 3) rfl (N + 1) rfl 26 6 _ h3 _ u1 u2 szRR ?_)
    | (refine wpl_store rfl 26 (.tmp 2) (.tmp 34) rfl N 6 (rgC r) rfl rfl 26 _ h1 szRR (fun j _ => rgC_one r j) ?_; intro z6 t6 h6)
    | fail)
  exact post_cell rfl N rfl h6 _ u1 u2 szRR rfl ⟨rfl, t6.below lo (Nat.le_refl N)⟩
set_option maxRecDepth 100000 in
set_option maxHeartbeats 16000000 in
theorem ParseU_any (s : ByteArray) (hs : s.size ≤ 281474976710656) (w : World) (N : Nat) (hN : Sz w N) (hE : Er w) (hD : Db w) : Calls Tryd.prog 22 #[.string s] w fun e w' => e = .returned (.tuple #[rgV (prR s), .int .i64 (prE s)]) ∧ Below N w w' := by
  have HG := fun w N hN hE => guessU_any s hs w N hN hE
  obtain ⟨b, hb⟩ : ∃ b, (!((textOf (gsR s)).toList == s.toList)) = b := ⟨_, rfl⟩
  have e1 : prR s = if b = true then rgNone else gsR s := by unfold prR okT; rw [← hb]; cases ((textOf (gsR s)).toList == s.toList) <;> rfl
  have e2 : prE s = if b = true then 22 else 0 := by unfold prE okT; rw [← hb]; cases ((textOf (gsR s)).toList == s.toList) <;> rfl
  rw [e1, e2]
  clear e1 e2
  generalize gsR s = r at *
  have HT := fun w N hN hD => Text_any r w N hN hD
  generalize textOf r = T at *
  have HB := hid hb
  clear hb
  obtain ⟨dR, u1, u2⟩ := undRR
  go_enter Tryd.func22, Tryd.ntmps22
  cases b
  all_goals
    go_wp2_with (first
      | (go_at_call 51; refine (HG _ (N + 1) hN1 (hE.below hN b1)).mono ?_; rintro e w2 ⟨rfl, b2⟩; obtain ⟨M2, hM2⟩ := sz_some w2; have l2 := below_sz b2 hN1 hM2; have k1 := h1.below b2 (by omega))
      | (go_at_call 21; refine (HT _ (M2 + 1) hM4 (hD.below hN lo4)).mono ?_; rintro e w5 ⟨rfl, b5⟩; have k5 := k4.below b5 (by omega); have j5 := j4.below b5 (by omega); have lo5 := lo4.trans (b5.mono (by omega)))
      | ((with_reducible show wpList _ _ _ (_ :: _) _ _); first
        | (refine wpl_alloc rfl 26 rfl 6 (rgC rgNone) zeRR N hN ?_; intro w1 hN1 b1 h1)
        | (refine wpl_alloc rfl 26 rfl 6 (rgC rgNone) zeRR M2 hM2 ?_; intro w3 hM3 b3 h3; have k3 := k1.below b3 (by omega))
        | (refine wpl_store rfl 26 (.tmp 4) (.tmp 6) rfl M2 6 (rgC r) rfl rfl 26 _ h3 szRR (fun j _ => rgC_one r j) ?_; intro w4 t4 k4; have j4 := k3.touch t4 (by omega); have hM4 := t4.sz hM3; have lo4 := t4.below (b1.trans ((b2.trans (b3.mono l2)).mono (by omega))) (by omega))
        | (refine wpl_load rfl 26 (.tmp 4) rfl M2 rfl 26 6 _ k4 _ u1 u2 szRR ?_)
        | (refine wpl_load rfl 26 (.tmp 4) rfl M2 rfl 26 6 _ k5 _ u1 u2 szRR ?_)
        | (refine wpl_run rfl (.bool _) _ (run_neqT (x := .tmp 8) (y := .tmp 9) rfl rfl rfl HB.out _) ?_)
        | (refine wpl_build rfl 26 _ rfl (cellsOf (rgC rgNone) 6) (by kernel_rfl) ?_)
        | (refine wpl_store rfl 26 (.tmp 2) (.tmp 11) rfl N 6 (rgC rgNone) rfl rfl 26 _ j5 szRR (fun j _ => rgC_one _ j) ?_; intro w6 t6 h6)
        | (refine wpl_store rfl 26 (.tmp 2) (.tmp 12) rfl N 6 (rgC r) rfl rfl 26 _ j5 szRR (fun j _ => rgC_one _ j) ?_; intro w6 t6 h6))
      | fail)
    exact post_cb rfl N rfl h6 undRR szRR rfl rfl ⟨rfl, t6.below lo5 (Nat.le_refl N)⟩
end Go.Proofs.YtilhkgbninbkkaaDoor
