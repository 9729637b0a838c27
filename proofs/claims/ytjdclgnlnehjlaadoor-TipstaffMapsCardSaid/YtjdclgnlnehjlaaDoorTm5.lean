/- TipstaffMaps: the walk (written by mk_tm.py). -/
import Derived.Test.YtjdclgnlnehjlaaDoorTmL
import Derived.Test.YtjdclgnlnehjlaaDoorRqL
namespace Go.Proofs.YtjdclgnlnehjlaaDoor
open Go Go.RowKit
set_option maxRecDepth 100000 in
set_option maxHeartbeats 32000000 in
theorem law_tmaps (qk : Option Addr) (nk ck : Nat) (K : Nat → BitVec 8) (qv : Option Addr) (nv cv : Nat) (Z : Nat → BitVec 8) (w : World) (N : Nat) (hN : Sz w N) (hT : Tabs w) (hK : Ats w qk nk (fun j => By (K j))) (hZ : Ats w qv nv (fun j => By (Z j))) :
    Calls Tryd.prog 4 #[.slice qk nk ck, .slice qv nv cv] w fun e w' => e = .returned (.bool true) ∧ Below N w w' := by
  have hTN := hT.ltN hN
  obtain ⟨dS, s1, s2⟩ := rwSp
  obtain ⟨eMp, hMp⟩ := undMpp
  have q2 := fun (a : Option Addr) (l c : Nat) (w : World) => eqSN (P := Tryd.prog) w 35 5 a l c undBB
  go_enter Tryd.func4, Tryd.ntmps4
  go_wp2_with (first
    | ((with_reducible show wpList _ _ _ (_ :: _) _ _); first
      | (refine wpl_alloc rfl 51 (by first | rfl | fail) 3 _ ze3p N hN ?_; intro w1 hN1 b1 h1; try simp only [pA])
      | (refine wpl_alloc rfl 51 rfl 3 _ ze3p (N + 1) hN1 ?_; intro w2 hN2 b2 h2; try simp only [pA]))
    | fail)
  have F0 : PreW w N 0 (fun _ => mp0 0 0 0 0 0) w2 := ⟨b1.trans (b2.mono (by omega)), fun i hi => absurd hi (by unfold inC; omega), fun i _ hi => absurd hi (by unfold inC; omega), fun i hi => absurd hi (by unfold inC; omega), (h1.below b2 (by omega)).congr (fun j _ => by rw [if_neg (by omega)]), h2.congr (fun j _ => by rw [if_neg (by omega)])⟩
  clear h1 h2 b1 b2 hN1 hN2
  go_loopw [7] (fun x7 wr => ∃ (c : Nat) (Mf : Nat → Mp), x7 = .int .i64 (c : Int) ∧ c ≤ 3 ∧ PreW w N c Mf wr) (fun x7 _ => 3 - (intOf x7).toNat)
  case atStart => exact ⟨0, _, rfl, by omega, F0⟩
  case round =>
    clear F0
    obtain ⟨c, Mf, rfl, hc, F⟩ := hrel
    obtain ⟨M, hM⟩ := sz_some wr
    have hNM := F.hb.ltN hM
    by_cases h1 : c < 3
    · have E26 := hid (show decide ((c : Int) < 3) = true from decide_eq_true (by omega))
      have hc3 := hid h1
      go_upto_region 10 with (first
        | (go_at_call 7; have _ := F4; refine (MNew c (by omega) _ (M + 2) hM4).mono ?_; rintro e w5 ⟨ma, rfl, ma1, ma2, ma3⟩; obtain ⟨M5, hM5⟩ := sz_some w5; have l5 := below_sz ma2 hM4 hM5; have k5 := k4.below ma2 (by omega); have lb5 := lb4.trans (ma2.mono (by omega)); clear lb4 k4)
        | (go_at_call 7; refine (MNew c (by omega) _ M5 hM5).mono ?_; rintro e w6 ⟨mb, rfl, mb1, mb2, mb3⟩; obtain ⟨M6, hM6⟩ := sz_some w6; have l6 := below_sz mb2 hM5 hM6)
        | ((with_reducible show wpList _ _ _ (_ :: _) _ _); first
          | (refine wpl_run rfl (.bool true) _ (run_lssK (x := .tmp 25) rfl rfl rfl E26.out _) ?_; try simp only [pA])
          | (refine wpl_bsI3 rfl rfl M hM ?_; intro w2 hM2 b2 k2; try simp only [pA])
          | (refine wpl_run rfl (.pointer (some ⟨M, 0 + c, none⟩)) _ (run_iaS8 (x := .tmp 29) (y := .tmp 30) rfl rfl rfl rfl undIs undItS hc3.out _) ?_; try simp only [pA])
          | (refine wpl_run rfl (.int .i64 (c : Int)) _ (run_cell1 (x := .tmp 31) 3 rfl rfl undIt rfl (by rw [Nat.zero_add]; exact k2.cell hc3.out)) ?_; try simp only [pA])
          | (refine wpl_build rfl 31 _ rfl (cellsOf (mp0 c 4 2 8 0).sp 4) (by kernel_rfl) ?_; try simp only [pA])
          | (refine wpl_alloc rfl 31 rfl 4 _ zeSp (M + 1) hM2 ?_; intro w3 hM3 b3 k3; try simp only [pA])
          | (refine wpl_store rfl 31 (.tmp 8) (.tmp 33) rfl (M + 1) 4 (mp0 c 4 2 8 0).sp rfl rfl 31 _ k3 szSp (fun j _ => by unfold Mp.sp; split; rfl; split; rfl; split <;> rfl) ?_; intro w4 t4 k4; have hM4 := t4.sz hM3; have lb4 := t4.below (b2.trans (b3.mono (by omega))) (by omega); have F4 := F.below hM lb4; try simp only [pA])
          | (refine wpl_load rfl 31 (.tmp 8) rfl (M + 1) rfl 31 4 _ k4 _ s1 s2 szSp ?_; try simp only [pA])
          | (refine wpl_load rfl 31 (.tmp 8) rfl (M + 1) rfl 31 4 _ k5 _ s1 s2 szSp ?_; try simp only [pA]))
        | fail)
      have F6 := (F4.below hM4 ma2).below hM5 mb2
      go_wp2_with (first
        | ((with_reducible show wpList _ _ _ (_ :: _) _ _); first
          | (refine wpl_run rfl (.bool false) _ (run_neqZ (x := .tmp 44) rfl rfl rfl (by decide) _) ?_; try simp only [pA])
          | (refine wpl_want (by rfl) ?_; refine wpl_run rfl (.bool false) _ (run_neqZ (x := .tmp 47) rfl rfl rfl (by decide) _) ?_; try simp only [pA])
          | (refine wpl_run rfl (.pointer (some ⟨N, c, none⟩)) _ (run_ia3 (x := .tmp 5) (y := .tmp 50) rfl rfl rfl und3p szMp hc3.out _) ?_; try simp only [pA])
          | (refine wpl_set rfl 27 (.tmp 54) (.tmp 52) rfl N c rfl (.pointer (some ⟨ma.b, 0, none⟩)) rfl szMp rfl rfl 51 3 _ F6.ha hc3.out ?_; intro w7 t7 k7; have hb7 := F6.hb.touch t7 (by omega); try simp only [pA])
          | (refine wpl_run rfl (.pointer (some ⟨N + 1, c, none⟩)) _ (run_ia3 (x := .tmp 6) (y := .tmp 51) rfl rfl rfl und3p szMp hc3.out _) ?_; try simp only [pA])
          | (refine wpl_set rfl 27 (.tmp 55) (.tmp 53) rfl (N + 1) c rfl (.pointer (some ⟨mb.b, 0, none⟩)) rfl szMp rfl rfl 51 3 _ hb7 hc3.out ?_; intro w8 t8 k8; try simp only [pA])
          | (refine wpl_run rfl (.int .i64 ((c + 1 : Nat) : Int)) _ (run_inc (x := .tmp 27) rfl rfl rfl rfl (by omega) _) ?_; try simp only [pA]))
        | fail)
      have F8 := F4.next h1 hM4 ma1 ma2 ma3 hM5 mb1 mb2 mb3 t7 k7 t8 k8
      exact ⟨⟨c + 1, _, rfl, by omega, F8⟩, by simp [intOf]; omega⟩
    · have ec : c = 3 := by omega
      have E26 := hid (show decide ((c : Int) < 3) = false from decide_eq_false (by omega))
      have F : PreW w N 3 Mf wr := by rw [ec] at F; exact F
      obtain ⟨n1, hn1⟩ : ∃ n1, n1 = min nk 12 := ⟨_, rfl⟩
      have Hn1 := hid hn1
      have n1k : n1 ≤ nk := by omega
      have n112 : n1 ≤ 12 := by omega
      clear hn1 h1 hc ec
      go_wp2_with (first
        | ((with_reducible show wpList _ _ _ (_ :: _) _ _); first
          | (refine wpl_run rfl (.bool false) _ (run_lssK (x := .tmp 25) rfl rfl rfl E26.out _) ?_; try simp only [pA])
          | (refine wpl_alloc rfl 53 rfl 8 _ ze8b M hM ?_; intro w2 hM2 b2 k2; try simp only [pA])
          | (refine wpl_run rfl (.int .i64 (nk : Int)) _ (run_lenL (x := .tmp 56) rfl undBB rfl _) ?_; try simp only [pA])
          | (refine wpl_min rfl (.tmp 57) (.const (.int .i64 12)) 3 rfl nk 12 n1 rfl rfl Hn1 ?_; try simp only [pA]))
        | fail)
      have S0 := F.six hM b2 k2
      generalize (fun i => (Mf i).b) = B at S0
      obtain ⟨wb, ewb⟩ : ∃ wb, wb = M := ⟨_, rfl⟩
      rw [← ewb] at S0
      try rw [← ewb]
      clear F hM hM2 b2 k2 E26 hNM ewb Hn1
      have S1 : SixW w N B (THa (fun _ => false)) (VVa (fun _ _ => 0#8)) wb (fun _ => none) (fun _ _ => 0#8) Mf w2 := S0.congr (fun i hi x hx => tha_none) (fun i hi x hx j hj => by unfold VVa; split <;> rfl)
      clear S0
      go_loopw [15] (fun x15 wr => ∃ (i : Nat) (th : Nat → Bool) (V : Nat → Nat → BitVec 8) (rows : Nat → Option Nat) (Mf : Nat → Mp), x15 = .int .i64 (i : Int) ∧ i ≤ n1 ∧ Hid (∀ k, k < 8 → (rows k).isSome = th k) ∧ Hid (∀ k, k < 8 → th k = false → ∀ j, V k j = 0#8) ∧ SixW w N B (THa th) (VVa V) wb rows V Mf wr) (fun x15 _ => n1 - (intOf x15).toNat)
      case atStart => exact ⟨0, fun _ => false, fun _ _ => 0#8, fun _ => none, Mf, rfl, by omega, hid (fun _ _ => rfl), hid (fun _ _ _ _ => rfl), S1⟩
      case round =>
        clear S1
        obtain ⟨i, th, V, rows, Mf, rfl, hi, HR, HV, F⟩ := hrel
        obtain ⟨M, hM⟩ := sz_some wr
        have hwM := F.hw.ltN hM
        have hNM : N + 2 ≤ M := by have := F.wN; omega
        by_cases h1 : i < n1
        · have E61 := hid (show decide ((i : Int) < (n1 : Int)) = true from decide_eq_true (by omega))
          have hKr := hK.below hN F.lo
          have hZr := hZ.below hN F.lo
          obtain ⟨kb, ko, ek, hkc⟩ := hKr (by omega)
          have EK := hid ek
          have CK := hid (show wr.cell? ⟨kb, ko + i, none⟩ = some (By (K i)) from hkc i (by omega))
          have hik := hid (show i < nk by omega)
          obtain ⟨k, hkk⟩ : ∃ k, (K i).toNat % 8 = k := ⟨_, rfl⟩
          have HKK := hid hkk
          have k8 : k < 8 := by omega
          have k256 : k < 256 := by omega
          have i256 : i < 256 := by omega
          clear ek hkc hkk hKr
          go_upto_region 18 with (first
            | ((with_reducible show wpList _ _ _ (_ :: _) _ _); first
              | (refine wpl_run rfl (.bool true) _ (run_lssK (x := .tmp 59) rfl rfl rfl E61.out _) ?_; try simp only [pA])
              | (refine wpl_run rfl (.pointer (some ⟨kb, ko + i, none⟩)) _ (run_iaS8 (x := .tmp 64) (y := .tmp 65) rfl rfl EK.out rfl undBB szBy hik.out _) ?_; try simp only [pA])
              | (refine wpl_run rfl (By (K i)) _ (run_cell1 (x := .tmp 66) 5 rfl rfl undBy rfl CK.out) ?_; try simp only [pA])
              | (refine wpl_run rfl (By (b8 k)) _ (run_rem8 (x := .tmp 67) rfl rfl rfl HKK.out _) ?_; try simp only [pA])
              | (refine wpl_run rfl (By (b8 i)) _ (run_cvI8 (x := .tmp 69) rfl undIt undBy rfl i256 _) ?_; try simp only [pA])
              | (refine wpl_run rfl (.int .i64 (nv : Int)) _ (run_lenL (x := .tmp 72) rfl undBB rfl _) ?_; try simp only [pA]))
            | fail)
          obtain ⟨bv, hbv⟩ : ∃ bv, decide ((i : Int) < (nv : Int)) = bv := ⟨_, rfl⟩
          have EBV := hid hbv
          have HBV : bv = decide (i < nv) := by rw [← hbv]; exact decide_eq_decide.2 (by omega)
          obtain ⟨d, hd⟩ : ∃ d, d = if i < nv then Z i else b8 i := ⟨_, rfl⟩
          have HD := hid hd
          have HBV := hid HBV
          clear hd hbv E61 CK EK HKK hik
          go_upto_if 74 with (first
            | ((with_reducible show wpList _ _ _ (_ :: _) _ _); first
              | (refine wpl_run rfl (.int .i64 (nv : Int)) _ (run_lenL (x := .tmp 72) rfl undBB rfl _) ?_; try simp only [pA])
              | (refine wpl_run rfl (.bool bv) _ (run_lssK (x := .tmp 71) rfl rfl rfl EBV.out _) ?_; try simp only [pA]))
            | fail)
          go_cut [17] (fun v wx => v = By d ∧ wx = wr)
          case first =>
            cases bv
            · have ED : d = b8 i := by rw [HD.out, if_neg (of_decide_eq_false HBV.out.symm)]
              go_wp2_with fail
              go_meet
              exact ⟨congrArg By ED.symm, rfl⟩
            · have hv : i < nv := of_decide_eq_true HBV.out.symm
              have ED : d = Z i := by rw [HD.out, if_pos hv]
              obtain ⟨vb, vo, ev, hvc⟩ := hZr (by omega)
              have EV := hid ev
              have CV := hid (show wr.cell? ⟨vb, vo + i, none⟩ = some (By (Z i)) from hvc i hv)
              have hiv := hid hv
              clear ev hvc hv
              go_wp2_with (first
                | ((with_reducible show wpList _ _ _ (_ :: _) _ _); first
                  | (refine wpl_run rfl (.pointer (some ⟨vb, vo + i, none⟩)) _ (run_iaS8 (x := .tmp 75) (y := .tmp 76) rfl rfl EV.out rfl undBB szBy hiv.out _) ?_; try simp only [pA])
                  | (refine wpl_run rfl (By (Z i)) _ (run_cell1 (x := .tmp 77) 5 rfl rfl undBy rfl CV.out) ?_; try simp only [pA]))
                | fail)
              go_meet
              exact ⟨congrArg By ED.symm, rfl⟩
          obtain ⟨rfl, ewc⟩ := hcut
          subst ewc
          obtain ⟨wK, rfl⟩ : ∃ x, x = wc := ⟨_, rfl⟩
          clear HD hZr
          go_wp2_with (first
            | ((with_reducible show wpList _ _ _ (_ :: _) _ _); first
              | (refine wpl_run rfl (By (b8 i)) _ (run_cvI8 (x := .tmp 81) rfl undIt undBy rfl i256 _) ?_; try simp only [pA])
              | (refine wpl_bsB2 rfl (.tmp 80) (.tmp 82) rfl d (b8 i) rfl rfl M hM ?_; intro w2 hM2 b2 k2; have F2 := F.below hM b2; try simp only [pA])
              | (refine wpl_run rfl (.pointer (some ⟨wb, k, none⟩)) _ (run_ia3 (x := .tmp 13) (y := .tmp 79) (kk := .u8) rfl rfl (by exact (by_nat k k256).symm) und8b szBB k8 _) ?_; try simp only [pA])
              | (refine wpl_set rfl 35 (.tmp 84) (.tmp 83) rfl wb k rfl (.slice (some ⟨M, 0, none⟩) 2 2) rfl szBB rfl rfl 53 8 _ F2.hw k8 ?_; intro w3 t3 k3; try simp only [pA]))
            | fail)
          have nf : ∀ i, i < 6 → ¬ Foot (Mf i) M := fun i hi h => by have := F.lt hM hi h; omega
          have F3 := F2.want k8 hM2 k2 (by omega) hNM nf t3 k3
          obtain ⟨rows', er⟩ : ∃ r, r = setN rows k (some M) := ⟨_, rfl⟩
          obtain ⟨V', eV⟩ : ∃ v, v = vS V k (two d (b8 i)) := ⟨_, rfl⟩
          have hrk : rows' k = some M := by rw [er, setN_eq]
          have HRK := hid hrk
          rw [← er, ← eV] at F3
          have HR' := hid (show ∀ x, x < 8 → (rows' x).isSome = thS th k x from fun x hx => by
            rw [er]; unfold thS setN; split; rfl; exact HR.out x hx)
          have HV' := hid (show ∀ x, x < 8 → thS th k x = false → ∀ j, V' x j = 0#8 from fun x hx ht j => by
            rw [eV]; unfold thS at ht; unfold vS
            by_cases e : x = k
            · rw [if_pos e] at ht; cases ht
            · rw [if_neg e] at ht ⊢; exact HV.out x hx ht j)
          have EVV := hid eV
          have F4 : SixW w N B (THm th k 0) (VVm V k (two d (b8 i)) 0) wb rows' V' Mf w3 := F3.congr (fun i hi x hx => by unfold THm; rw [if_neg (Nat.not_lt_zero i)]) (fun i hi x hx j hj => by unfold VVm; rw [if_neg (Nat.not_lt_zero i)])
          clear er eV hrk F F2 F3 t3 k3 k2 b2 hM2 hM nf HR HV
          go_loopw [18] (fun x18 wr => ∃ (c : Nat) (Mf : Nat → Mp), x18 = .int .i64 (c : Int) ∧ c ≤ 3 ∧ SixW w N B (THm th k c) (VVm V k (two d (b8 i)) c) wb rows' V' Mf wr) (fun x18 _ => 3 - (intOf x18).toNat)
          case atStart => exact ⟨0, _, rfl, by omega, F4⟩
          case round =>
            clear F4
            obtain ⟨c, Mf, rfl, hc, F⟩ := hrel
            obtain ⟨M1, hM1⟩ := sz_some wr
            by_cases h2 : c < 3
            · have E86 := hid (show decide ((c : Int) < 3) = true from decide_eq_true (by omega))
              have hc3 := hid h2
              go_upto_region 24 with (first
                | ((with_reducible show wpList _ _ _ (_ :: _) _ _); first
                  | (refine wpl_run rfl (.bool true) _ (run_lssK (x := .tmp 85) rfl rfl rfl E86.out _) ?_; try simp only [pA]))
                | fail)
              refine wp_region_any (by kernel_rfl) ?_
              have Fd := F.below hM1 (Below.refl _ _).drew
              have hMd : Sz wr.drew M1 := hM1
              change wpAny _ _ _ _ _ _ _ (World.drew _)
              clear F hM1
              generalize wr.drew = w9 at *
              have cA : w9.cell? ⟨N, c, none⟩ = some (.pointer (some ⟨B c, 0, none⟩)) := Fd.ha.cell h2
              have cW : w9.cell? ⟨wb, k, none⟩ = some (.slice (some ⟨M, 0, none⟩) 2 2) := by
                have h := Fd.hw.cell k8
                rw [h]; unfold rowV; rw [HRK.out]
              refine wpAny_pot (rem := [0, 1, 2, 3, 4, 5, 6, 7]) (FB 35 M1 (fun j => if j = 0 then some (.int .i64 (c : Int)) else if j = 1 then some (.pointer (some ⟨N, c, none⟩)) else if j = 2 then some (.pointer (some ⟨B c, 0, none⟩)) else if j = 3 then some (By (b8 k)) else if j = 5 then some (By (b8 k)) else if j = 6 then some (.pointer (some ⟨wb, k, none⟩)) else if j = 7 then some (.slice (some ⟨M, 0, none⟩) 2 2) else none) (fun _ => 4) (fun _ => num4 k (fun _ => 0#8))) NoBB (Below M1 w9) _ _ _ _ (by kernel_rfl) (size_dstG (by kernel_rfl)) (Below.refl _ _) ?_ ?_
              · intro i hi ax wa hI ha hv
                simp only [List.mem_cons, List.not_mem_nil, or_false] at hi
                rcases hi with rfl | rfl | rfl | rfl | rfl | rfl | rfl | rfl
                · have h : ax.tmps.getD 18 undef = .int .i64 (c : Int) := ha 18 (not_dstB (by kernel_rfl))
                  exact pob_run rfl rfl _ rfl (by clear hv ha; go_simp) hMd hI
                · obtain ⟨v, hv1, hv2⟩ := hv 0 (by simp) (by kernel_rfl)
                  have e := hv2.val rfl
                  subst e
                  have h := hv1 89 (by rfl)
                  have h5 : ax.tmps.getD 5 undef = .pointer (some ⟨N, 0, none⟩) := ha 5 (not_dstB (by kernel_rfl))
                  exact pob_run rfl rfl _ rfl (run_ia3 (x := .tmp 5) (y := .tmp 89) rfl h5 h und3p szMp hc3.out _) hMd hI
                · obtain ⟨v, hv1, hv2⟩ := hv 1 (by simp) (by kernel_rfl)
                  have e := hv2.val rfl
                  subst e
                  have h := hv1 90 (by rfl)
                  exact pob_run rfl rfl _ rfl (run_cell1 (x := .tmp 90) 27 rfl h hMp rfl (cellL hMd cA hI)) hMd hI
                · have h : ax.tmps.getD 16 undef = By (b8 k) := ha 16 (not_dstB (by kernel_rfl))
                  exact pob_run rfl rfl _ rfl (by clear hv ha; go_simp) hMd hI
                · obtain ⟨v, hv1, hv2⟩ := hv 3 (by simp) (by kernel_rfl)
                  have e := hv2.val rfl
                  subst e
                  have h := hv1 92 (by rfl)
                  exact pob_bs4 rfl rfl (.tmp 92) (.const (.int .u8 0)) (.const (.int .u8 0)) (.const (.int .u8 0)) rfl (b8 k) 0#8 0#8 0#8 h rfl rfl rfl rfl (fun j hj => four_num k j hj) (by decide) rfl hMd hI
                · have h : ax.tmps.getD 16 undef = By (b8 k) := ha 16 (not_dstB (by kernel_rfl))
                  exact pob_run rfl rfl _ rfl (by clear hv ha; go_simp) hMd hI
                · obtain ⟨v, hv1, hv2⟩ := hv 5 (by simp) (by kernel_rfl)
                  have e := hv2.val rfl
                  subst e
                  have h := hv1 94 (by rfl)
                  have h5 : ax.tmps.getD 13 undef = .pointer (some ⟨wb, 0, none⟩) := ha 13 (not_dstB (by kernel_rfl))
                  exact pob_run rfl rfl _ rfl (run_ia3 (x := .tmp 13) (y := .tmp 94) (kk := .u8) rfl h5 (h.trans (by_nat k k256).symm) und8b szBB k8 _) hMd hI
                · obtain ⟨v, hv1, hv2⟩ := hv 6 (by simp) (by kernel_rfl)
                  have e := hv2.val rfl
                  subst e
                  have h := hv1 95 (by rfl)
                  exact pob_run rfl rfl _ rfl (run_cell1 (x := .tmp 95) 35 rfl h undBB rfl (cellL hMd cW hI)) hMd hI
              intro vals w10 hI hF hG
              have e0 := (hF 0 (by simp)).val rfl
              have e1 := (hF 1 (by simp)).val rfl
              have e2 := (hF 2 (by simp)).val rfl
              have e3 := (hF 3 (by simp)).val rfl
              obtain ⟨kb, kc, eb, lkb, hkb, _, hyk⟩ := (hF 4 (by simp)).row rfl (by decide)
              have e5 := (hF 5 (by simp)).val rfl
              have e6 := (hF 6 (by simp)).val rfl
              have e7 := (hF 7 (by simp)).val rfl
              clear hF hG
              simp only [List.foldl_cons, List.foldl_nil, dstOf, List.getElem?_toArray, List.getElem?_cons_succ, List.getElem?_cons_zero, Option.bind_some, Act.put, List.setIfInBounds_toArray, List.set_cons_succ, List.set_cons_zero, e0, e1, e2, e3, eb, e5, e6, e7]
              clear e0 e1 e2 e3 eb e5 e6 e7 cA cW
              have F10 := Fd.below hMd hI
              obtain ⟨M10, hM10⟩ := sz_some w10
              clear Fd hI hMd
              replace hyk : Ats w10 (some ⟨kb, 0, none⟩) 4 (fun j => By (num4 k (fun _ => 0#8) j)) := hyk
              refine wpAny_chain [8, 9] _ _ _ _ (by kernel_rfl) (by decide) ?_
              simp only [List.filterMap_cons, List.filterMap_nil, List.getElem?_toArray, List.getElem?_cons_succ, List.getElem?_cons_zero]
              obtain ⟨ebj, hmj⟩ := F10.mh c (by omega)
              have et : ty3 c = c := by unfold ty3; omega
              rw [et] at hmj
              have hU := MUpd hmj k k8 (fun e => by subst e; rfl) (two d (b8 i)) (some ⟨kb, 0, none⟩) kc (some ⟨M, 0, none⟩) 2 M10 hM10 hyk (by
                have h := (F10.rw k k8 M HRK.out).2.2
                rw [EVV.out] at h
                exact fun _ => ⟨M, 0, rfl, fun j hj => by rw [Nat.zero_add, h.cell hj]; unfold vS; rw [if_pos rfl]⟩) (fun g hg hF => by
                have e : M = g := Option.some.inj hg
                subst e
                exact (F10.own c (by omega) M hF).2.2 k k8 HRK.out)
              rw [ebj] at hU
              go_wp2_with (first
                | (go_at_call 19; refine hU.mono ?_; rintro e w12 ⟨rfl, m2, eb2, hm2, t2, hf2⟩)
                | ((with_reducible show wpList _ _ _ (_ :: _) _ _); first
                  | (refine wpl_run rfl (.bool false) _ (run_neqZ (x := .tmp 97) rfl rfl rfl (by decide) _) ?_; try simp only [pA])
                  | (refine wpl_run rfl (.int .i64 ((c + 1 : Nat) : Int)) _ (run_inc (x := .tmp 87) rfl rfl rfl rfl (by omega) _) ?_; try simp only [pA]))
                | fail)
              have F12 := F10.step hM10 (by omega) eb2 (MH_ty et.symm hm2) t2 hf2
              have F13 : SixW w N B (THm th k (c + 1)) (VVm V k (two d (b8 i)) (c + 1)) wb rows' V' (setN Mf c m2) w12 := F12.congr (fun i hi x hx => thm_step h2) (fun i hi x hx j hj => vvm_step h2)
              exact ⟨⟨c + 1, _, rfl, by omega, F13⟩, by simp [intOf]; omega⟩
            · obtain rfl : c = 3 := by omega
              have E86 := hid (show decide (((3 : Nat) : Int) < 3) = false from rfl)
              have F5 : SixW w N B (THa (thS th k)) (VVa V') wb rows' V' Mf wr := F.congr (fun i hi x hx => thm_end) (fun i hi x hx j hj => by rw [EVV.out]; exact vvm_end)
              go_wp2_with (first
                | ((with_reducible show wpList _ _ _ (_ :: _) _ _); first
                  | (refine wpl_run rfl (.bool false) _ (run_lssK (x := .tmp 85) rfl rfl rfl E86.out _) ?_; try simp only [pA])
                  | (refine wpl_run rfl (.int .i64 ((i + 1 : Nat) : Int)) _ (run_inc (x := .tmp 62) rfl rfl rfl rfl (by omega) _) ?_; try simp only [pA]))
                | fail)
              exact ⟨⟨i + 1, _, _, _, _, rfl, by omega, HR', HV', F5⟩, by simp [intOf]; omega⟩
        · have E61 := hid (show decide ((i : Int) < (n1 : Int)) = false from decide_eq_false (by omega))
          have S1 : SixW w N B (THb th 8) (VVb V 8) wb rows V Mf wr := F.congr (fun i hi x hx => thb_start hx) (fun i hi x hx j hj => vvb_start hx)
          clear F hM hwM hNM h1 hi
          go_wp2_with (first
            | ((with_reducible show wpList _ _ _ (_ :: _) _ _); first
              | (refine wpl_run rfl (.bool false) _ (run_lssK (x := .tmp 59) rfl rfl rfl E61.out _) ?_; try simp only [pA]))
            | fail)
          clear E61
          go_loopw [19] (fun x19 wr => ∃ (p : Nat) (Mf : Nat → Mp), x19 = .int .i64 ((p : Int) - 1) ∧ p ≤ 8 ∧ SixW w N B (THb th p) (VVb V p) wb rows V Mf wr) (fun x19 _ => (intOf x19 + 1).toNat)
          case atStart => exact ⟨8, _, rfl, by omega, S1⟩
          case round =>
            clear S1
            obtain ⟨p, Mf, rfl, hp, F⟩ := hrel
            cases p with
            | succ k =>
              have k8 : k < 8 := by omega
              have k256 : k < 256 := by omega
              have ekk : ((k + 1 : Nat) : Int) - 1 = (k : Int) := by omega
              rw [ekk]
              have EKK := hid ekk
              clear ekk
              have E100 := hid (show decide ((0 : Int) ≤ (k : Int)) = true from decide_eq_true (by omega))
              go_wp2_with (first
                | ((with_reducible show wpList _ _ _ (_ :: _) _ _); first
                  | (refine wpl_run rfl (.bool true) _ (run_geqK (x := .tmp 99) rfl rfl rfl E100.out _) ?_; try simp only [pA]))
                | fail)
              clear E100
              have F0 : SixW w N B (THc th k 0) (VVc V k 0) wb rows V Mf wr := F.congr (fun i hi x hx => thc_zero) (fun i hi x hx j hj => vvc_zero)
              clear F
              go_loopw [20] (fun x20 wr => ∃ (c : Nat) (Mf : Nat → Mp), x20 = .int .i64 (c : Int) ∧ c ≤ 3 ∧ Hid (th k = false → c = 0) ∧ SixW w N B (THc th k c) (VVc V k c) wb rows V Mf wr) (fun x20 _ => 3 - (intOf x20).toNat)
              case atStart => exact ⟨0, _, rfl, by omega, hid (fun _ => rfl), F0⟩
              case round =>
                clear F0
                obtain ⟨c, Mf, rfl, hc, HC0, F⟩ := hrel
                obtain ⟨M1, hM1⟩ := sz_some wr
                cases hth : th k with
                | true =>
                  have hth2 := hid hth
                  clear hth
                  obtain ⟨M, hrk⟩ : ∃ M, rows k = some M := Option.isSome_iff_exists.1 (by rw [HR.out k k8]; exact hth2.out)
                  have HRK := hid hrk
                  have cW := hid (show wr.cell? ⟨wb, k, none⟩ = some (.slice (some ⟨M, 0, none⟩) 2 2) from by
                    have h := F.hw.cell k8
                    rw [h]; unfold rowV; rw [hrk])
                  clear hrk
                  by_cases h2 : c < 3
                  · have E104 := hid (show decide ((c : Int) < 3) = true from decide_eq_true (by omega))
                    have hc3 := hid h2
                    have q3 : (binOp .neq 35 (.slice (some ⟨M, 0, none⟩) 2 2) (.slice none 0 0)).run Tryd.prog wr = .ok (.bool true) wr := neSN wr _ _ _ 2 2 undBB
                    go_upto_region 32 with (first
                      | ((with_reducible show wpList _ _ _ (_ :: _) _ _); first
                        | (refine wpl_run rfl (.bool true) _ (run_lssK (x := .tmp 103) rfl rfl rfl E104.out _) ?_; try simp only [pA])
                        | (refine wpl_want (by rfl) ?_; refine wpl_run rfl (.pointer (some ⟨wb, k, none⟩)) _ (run_ia3 (x := .tmp 13) (y := .tmp 106) rfl rfl rfl und8b szBB k8 _) ?_; try simp only [pA])
                        | (refine wpl_want (by rfl) ?_; refine wpl_run rfl (.slice (some ⟨M, 0, none⟩) 2 2) _ (run_cell1 (x := .tmp 107) 35 rfl rfl undBB rfl cW.out) ?_; try simp only [pA]))
                      | fail)
                    clear q3 cW E104
                    refine wp_region_any (by kernel_rfl) ?_
                    have Fd := F.below hM1 (Below.refl _ _).drew
                    have hMd : Sz wr.drew M1 := hM1
                    change wpAny _ _ _ _ _ _ _ (World.drew _)
                    clear F hM1
                    generalize wr.drew = w9 at *
                    have cA : w9.cell? ⟨N + 1, c, none⟩ = some (.pointer (some ⟨B (3 + c), 0, none⟩)) := Fd.hb.cell h2
                    have cW : w9.cell? ⟨wb, k, none⟩ = some (.slice (some ⟨M, 0, none⟩) 2 2) := by
                      have h := Fd.hw.cell k8
                      rw [h]; unfold rowV; rw [HRK.out]
                    refine wpAny_pot (rem := [0, 1, 2, 3, 4, 5, 6, 7, 8]) (FB 35 M1 (fun j => if j = 0 then some (.int .i64 (c : Int)) else if j = 1 then some (.pointer (some ⟨N + 1, c, none⟩)) else if j = 2 then some (.pointer (some ⟨B (3 + c), 0, none⟩)) else if j = 3 then some (.int .i64 (k : Int)) else if j = 4 then some (By (b8 k)) else if j = 6 then some (.int .i64 (k : Int)) else if j = 7 then some (.pointer (some ⟨wb, k, none⟩)) else if j = 8 then some (.slice (some ⟨M, 0, none⟩) 2 2) else none) (fun _ => 4) (fun _ => num4 k (fun _ => 0#8))) NoBB (Below M1 w9) _ _ _ _ (by kernel_rfl) (size_dstG (by kernel_rfl)) (Below.refl _ _) ?_ ?_
                    · intro i hi ax wa hI ha hv
                      simp only [List.mem_cons, List.not_mem_nil, or_false] at hi
                      rcases hi with rfl | rfl | rfl | rfl | rfl | rfl | rfl | rfl | rfl
                      · have h : ax.tmps.getD 20 undef = .int .i64 (c : Int) := ha 20 (not_dstB (by kernel_rfl))
                        exact pob_run rfl rfl _ rfl (by clear hv ha; go_simp) hMd hI
                      · obtain ⟨v, hv1, hv2⟩ := hv 0 (by simp) (by kernel_rfl)
                        have e := hv2.val rfl
                        subst e
                        have h := hv1 113 (by rfl)
                        have h5 : ax.tmps.getD 6 undef = .pointer (some ⟨N + 1, 0, none⟩) := ha 6 (not_dstB (by kernel_rfl))
                        exact pob_run rfl rfl _ rfl (run_ia3 (x := .tmp 6) (y := .tmp 113) rfl h5 h und3p szMp hc3.out _) hMd hI
                      · obtain ⟨v, hv1, hv2⟩ := hv 1 (by simp) (by kernel_rfl)
                        have e := hv2.val rfl
                        subst e
                        have h := hv1 114 (by rfl)
                        exact pob_run rfl rfl _ rfl (run_cell1 (x := .tmp 114) 27 rfl h hMp rfl (cellL hMd cA hI)) hMd hI
                      · have h : ax.tmps.getD 19 undef = .int .i64 (k : Int) := ha 19 (not_dstB (by kernel_rfl))
                        exact pob_run rfl rfl _ rfl (by clear hv ha; go_simp) hMd hI
                      · obtain ⟨v, hv1, hv2⟩ := hv 3 (by simp) (by kernel_rfl)
                        have e := hv2.val rfl
                        subst e
                        have h := hv1 116 (by rfl)
                        exact pob_run rfl rfl _ rfl (run_cvI8 (x := .tmp 116) rfl undIt undBy h k256 _) hMd hI
                      · obtain ⟨v, hv1, hv2⟩ := hv 4 (by simp) (by kernel_rfl)
                        have e := hv2.val rfl
                        subst e
                        have h := hv1 117 (by rfl)
                        exact pob_bs4 rfl rfl (.tmp 117) (.const (.int .u8 0)) (.const (.int .u8 0)) (.const (.int .u8 0)) rfl (b8 k) 0#8 0#8 0#8 h rfl rfl rfl rfl (fun j hj => four_num k j hj) (by decide) rfl hMd hI
                      · have h : ax.tmps.getD 19 undef = .int .i64 (k : Int) := ha 19 (not_dstB (by kernel_rfl))
                        exact pob_run rfl rfl _ rfl (by clear hv ha; go_simp) hMd hI
                      · obtain ⟨v, hv1, hv2⟩ := hv 6 (by simp) (by kernel_rfl)
                        have e := hv2.val rfl
                        subst e
                        have h := hv1 119 (by rfl)
                        have h5 : ax.tmps.getD 13 undef = .pointer (some ⟨wb, 0, none⟩) := ha 13 (not_dstB (by kernel_rfl))
                        exact pob_run rfl rfl _ rfl (run_ia3 (x := .tmp 13) (y := .tmp 119) (kk := .i64) rfl h5 h und8b szBB k8 _) hMd hI
                      · obtain ⟨v, hv1, hv2⟩ := hv 7 (by simp) (by kernel_rfl)
                        have e := hv2.val rfl
                        subst e
                        have h := hv1 120 (by rfl)
                        exact pob_run rfl rfl _ rfl (run_cell1 (x := .tmp 120) 35 rfl h undBB rfl (cellL hMd cW hI)) hMd hI
                    intro vals w10 hI hF hG
                    have e0 := (hF 0 (by simp)).val rfl
                    have e1 := (hF 1 (by simp)).val rfl
                    have e2 := (hF 2 (by simp)).val rfl
                    have e3 := (hF 3 (by simp)).val rfl
                    have e4 := (hF 4 (by simp)).val rfl
                    obtain ⟨kb, kc, eb, lkb, hkb, _, hyk⟩ := (hF 5 (by simp)).row rfl (by decide)
                    have e6 := (hF 6 (by simp)).val rfl
                    have e7 := (hF 7 (by simp)).val rfl
                    have e8 := (hF 8 (by simp)).val rfl
                    clear hF hG
                    simp only [List.foldl_cons, List.foldl_nil, dstOf, List.getElem?_toArray, List.getElem?_cons_succ, List.getElem?_cons_zero, Option.bind_some, Act.put, List.setIfInBounds_toArray, List.set_cons_succ, List.set_cons_zero, e0, e1, e2, e3, e4, eb, e6, e7, e8]
                    clear e0 e1 e2 e3 e4 eb e6 e7 e8 cA cW
                    have F10 := Fd.below hMd hI
                    obtain ⟨M10, hM10⟩ := sz_some w10
                    clear Fd hI hMd
                    replace hyk : Ats w10 (some ⟨kb, 0, none⟩) 4 (fun j => By (num4 k (fun _ => 0#8) j)) := hyk
                    refine wpAny_chain [9, 10] _ _ _ _ (by kernel_rfl) (by decide) ?_
                    simp only [List.filterMap_cons, List.filterMap_nil, List.getElem?_toArray, List.getElem?_cons_succ, List.getElem?_cons_zero]
                    obtain ⟨ebj, hmj⟩ := F10.mh (3 + c) (by omega)
                    have et : ty3 (3 + c) = c := by unfold ty3; omega
                    rw [et] at hmj
                    have hU := MUpd hmj k k8 (fun e => by subst e; rfl) (V k) (some ⟨kb, 0, none⟩) kc (some ⟨M, 0, none⟩) 2 M10 hM10 hyk (by
                      have h := (F10.rw k k8 M HRK.out).2.2
                      exact fun _ => ⟨M, 0, rfl, fun j hj => by rw [Nat.zero_add, h.cell hj]⟩) (fun g hg hF => by
                      have e : M = g := Option.some.inj hg
                      subst e
                      exact (F10.own (3 + c) (by omega) M hF).2.2 k k8 HRK.out)
                    rw [ebj] at hU
                    go_wp2_with (first
                      | (go_at_call 19; refine hU.mono ?_; rintro e w12 ⟨rfl, m2, eb2, hm2, t2, hf2⟩)
                      | ((with_reducible show wpList _ _ _ (_ :: _) _ _); first
                        | (refine wpl_run rfl (.bool false) _ (run_neqZ (x := .tmp 122) rfl rfl rfl (by decide) _) ?_; try simp only [pA])
                        | (refine wpl_run rfl (.int .i64 ((c + 1 : Nat) : Int)) _ (run_inc (x := .tmp 111) rfl rfl rfl rfl (by omega) _) ?_; try simp only [pA]))
                      | fail)
                    have F12 := F10.step hM10 (by omega) eb2 (MH_ty et.symm hm2) t2 hf2
                    have F13 : SixW w N B (THc th k (c + 1)) (VVc V k (c + 1)) wb rows V (setN Mf (3 + c) m2) w12 := F12.congr (fun i hi x hx => thc_step hth2.out) (fun i hi x hx j hj => vvc_step)
                    refine ⟨?_, ?_⟩
                    · exact ⟨c + 1, _, rfl, by omega, hid (fun h => by cases h), F13⟩
                    · simp [intOf]; omega
                  · obtain rfl : c = 3 := by omega
                    have E104 := hid (show decide (((3 : Nat) : Int) < 3) = false from rfl)
                    have F5 : SixW w N B (THb th k) (VVb V k) wb rows V Mf wr := F.congr (fun i hi x hx => thc_end hi) (fun i hi x hx j hj => vvc_end hi)
                    clear cW
                    go_wp2_with (first
                      | ((with_reducible show wpList _ _ _ (_ :: _) _ _); first
                        | go_guarded
                        | (refine wpl_run rfl (.bool false) _ (run_lssK (x := .tmp 103) rfl rfl rfl E104.out _) ?_; try simp only [pA])
                        | (refine wpl_run rfl (.int .i64 ((k : Int) - 1)) _ (run_decI (x := .tmp 101) rfl rfl rfl (by omega) (by omega) _) ?_; try simp only [pA]))
                      | fail)
                    exact ⟨⟨k, _, rfl, by omega, F5⟩, by simp [intOf]⟩
                | false =>
                  obtain rfl : c = 0 := HC0.out hth
                  have hth2 := hid hth
                  have hrn : rows k = none := by
                    have h := HR.out k k8
                    rw [hth] at h
                    exact Option.not_isSome_iff_eq_none.1 (by rw [h]; decide)
                  have E104 := hid (show decide (((0 : Nat) : Int) < 3) = true from rfl)
                  have cW := hid (show wr.cell? ⟨wb, k, none⟩ = some (.slice none 0 0) from by
                    have h := F.hw.cell k8
                    rw [h]; unfold rowV; rw [hrn])
                  have F5 : SixW w N B (THb th k) (VVb V k) wb rows V Mf wr := F.congr (fun i hi x hx => (thb_skip hth2.out).trans thc_zero.symm) (fun i hi x hx j hj => (vvb_skip (HV.out k k8 hth2.out)).trans vvc_zero.symm)
                  have q3 : (binOp .neq 35 (.slice none 0 0) (.slice none 0 0)).run Tryd.prog wr = .ok (.bool false) wr := neSN wr _ _ _ 0 0 undBB
                  clear hth hrn F
                  go_wp2_with (first
                    | ((with_reducible show wpList _ _ _ (_ :: _) _ _); first
                      | (refine wpl_run rfl (.bool true) _ (run_lssK (x := .tmp 103) rfl rfl rfl E104.out _) ?_; try simp only [pA])
                      | (refine wpl_want (by rfl) ?_; refine wpl_run rfl (.pointer (some ⟨wb, k, none⟩)) _ (run_ia3 (x := .tmp 13) (y := .tmp 106) rfl rfl rfl und8b szBB k8 _) ?_; try simp only [pA])
                      | (refine wpl_want (by rfl) ?_; refine wpl_run rfl (.slice none 0 0) _ (run_cell1 (x := .tmp 107) 35 rfl rfl undBB rfl cW.out) ?_; try simp only [pA])
                      | (refine wpl_run rfl (.int .i64 ((k : Int) - 1)) _ (run_decI (x := .tmp 101) rfl rfl rfl (by omega) (by omega) _) ?_; try simp only [pA]))
                    | fail)
                  exact ⟨⟨k, _, rfl, by omega, F5⟩, by simp [intOf]⟩
            | zero =>
              obtain ⟨z, hz⟩ : ∃ z, z = ((0 : Nat) : Int) - 1 := ⟨_, rfl⟩
              have E100 := hid (show decide ((0 : Int) ≤ z) = false by rw [hz]; rfl)
              rw [← hz]
              clear hz
              go_wp2_with (first
                | ((with_reducible show wpList _ _ _ (_ :: _) _ _); first
                  | (refine wpl_run rfl (.bool false) _ (run_geqK (x := .tmp 99) rfl rfl rfl E100.out _) ?_; try simp only [pA]))
                | fail)
              clear E100
              have F0 := F
              clear F
              go_loopw [21] (fun x21 wr => ∃ (k : Nat) (Mf : Nat → Mp), x21 = .int .u8 (k : Int) ∧ k ≤ 8 ∧ SixW w N B (THb th 0) (VVb V 0) wb rows V Mf wr) (fun x21 _ => 8 - (intOf x21).toNat)
              case atStart => exact ⟨0, _, rfl, by omega, F0⟩
              case round =>
                clear F0
                obtain ⟨k, Mf, rfl, hk, F⟩ := hrel
                by_cases k8 : k < 8
                · have k256 : k < 256 := by omega
                  have E125 := hid (show decide ((k : Int) < 8) = true from decide_eq_true (by omega))
                  go_wp2_with (first
                    | ((with_reducible show wpList _ _ _ (_ :: _) _ _); first
                      | (refine wpl_run rfl (.bool true) _ (run_lssK (x := .tmp 124) rfl rfl rfl E125.out _) ?_; try simp only [pA]))
                    | fail)
                  clear E125
                  have F0 := F
                  clear F
                  go_loopw [22] (fun x22 wr => ∃ (c : Nat) (Mf : Nat → Mp), x22 = .int .i64 (c : Int) ∧ c ≤ 3 ∧ SixW w N B (THb th 0) (VVb V 0) wb rows V Mf wr) (fun x22 _ => 3 - (intOf x22).toNat)
                  case atStart => exact ⟨0, _, rfl, by omega, F0⟩
                  case round =>
                    clear F0
                    obtain ⟨c, Mf, rfl, hc, F⟩ := hrel
                    obtain ⟨M1, hM1⟩ := sz_some wr
                    by_cases h2 : c < 3
                    · have E129 := hid (show decide ((c : Int) < 3) = true from decide_eq_true (by omega))
                      have hc3 := hid h2
                      have cA := hid (show wr.cell? ⟨N, c, none⟩ = some (.pointer (some ⟨B c, 0, none⟩)) from F.ha.cell h2)
                      cases hth : th k with
                      | true =>
                        obtain ⟨M, hrk⟩ : ∃ M, rows k = some M := Option.isSome_iff_exists.1 (by rw [HR.out k k8]; exact hth)
                        have HRK := hid hrk
                        have hor : th k = true ∨ c = 0 := .inl hth
                        clear hrk hth
                        skip
                        go_upto_region 41 with (first
                          | (go_at_call 16; refine (SLook F2 hM2 h2 k8 _ _ (fun _ => ⟨M1, 0, rfl, fun j hj => by rw [Nat.zero_add, k2.cell hj, four_num k j hj]⟩)).mono ?_; rintro e w3 ⟨⟨Mf3, F3⟩, hr⟩; rw [if_pos hor] at hr; obtain ⟨P, rfl, hP⟩ := hr; obtain ⟨M3, hM3⟩ := sz_some w3)
                          | ((with_reducible show wpList _ _ _ (_ :: _) _ _); first
                            | (refine wpl_run rfl (.bool true) _ (run_lssK (x := .tmp 128) rfl rfl rfl E129.out _) ?_; try simp only [pA])
                            | (refine wpl_run rfl (.pointer (some ⟨N, c, none⟩)) _ (run_ia3 (x := .tmp 5) (y := .tmp 133) rfl rfl rfl und3p szMp hc3.out _) ?_; try simp only [pA])
                            | (refine wpl_run rfl (.pointer (some ⟨B c, 0, none⟩)) _ (run_cell1 (x := .tmp 134) 27 rfl rfl hMp rfl cA.out) ?_; try simp only [pA])
                            | (refine wpl_bs4 rfl (.tmp 136) (.const (.int .u8 0)) (.const (.int .u8 0)) (.const (.int .u8 0)) rfl (b8 k) 0#8 0#8 0#8 (by exact by_nat k k256) rfl rfl rfl M1 hM1 ?_; intro w2 hM2 b2 k2; have F2 := F.below hM1 b2; try simp only [pA]))
                          | fail)
                        have cW : w3.cell? ⟨wb, k, none⟩ = some (.slice (some ⟨M, 0, none⟩) 2 2) := by
                          have h := F3.hw.cell k8
                          rw [h]; unfold rowV; rw [HRK.out]
                        clear F F2 k2 b2 cA E129
                        refine wp_region_later M3 (by kernel_rfl) (by kernel_rfl) ?_
                        have aP : Ats w3 (some ⟨P, 0, none⟩) 2 (fun j => By (V k j)) := fun _ => ⟨P, 0, rfl, fun j hj => by rw [Nat.zero_add, hP.cell hj]⟩
                        have aM : Ats w3 (some ⟨M, 0, none⟩) 2 (fun j => By (V k j)) := fun _ => ⟨M, 0, rfl, fun j hj => by rw [Nat.zero_add, ((F3.rw k k8 M HRK.out).2.2).cell hj]⟩
                        clear hP
                        go_big_quiet_step (fail)
                        refine later_val (v := .pointer (some ⟨wb, k, none⟩)) (fun q => run_ia3 (x := .tmp 13) (y := .tmp 141) rfl rfl rfl und8b szBB k8 _) (by rfl) ?_; try simp only [pA]
                        refine later_val (v := .slice (some ⟨M, 0, none⟩) 2 2) (fun q => run_cell1 (x := .tmp 142) 35 rfl rfl undBB rfl (Later.cell hM3 cW q)) (by rfl) ?_; try simp only [pA]
                        refine later_val (v := .bool false) (fun q => run_eqSN (p := some ⟨M, 0, none⟩) (x := .tmp 143) (y := .const (.slice none 0 0)) rfl undBB rfl rfl rfl (fun _ => by unfold eqGuard; rfl) _) (by rfl) ?_; try simp only [pA]
                        go_big_quiet_step (fail)
                        go_big_quiet_step (fail)
                        go_big_quiet_step (fail)
                        go_big_quiet_step (fail)
                        go_big_quiet_step (fail)
                        go_big_quiet_step (fail)
                        go_big_quiet_step (fail)
                        go_big_quiet_step (fail)
                        go_big_quiet_step (fail)
                        go_big_quiet_step (fail)
                        go_big_quiet_step (fail)
                        go_big_quiet_step (fail)
                        go_big_quiet_step (fail)
                        go_big_quiet_step (fail)
                        go_big_quiet_step (fail)
                        go_big_quiet_step (fail)
                        go_big_quiet_step (fail)
                        go_big_quiet_step (fail)
                        go_big_quiet_step (fail)
                        go_big_quiet_step (fail)
                        go_big_quiet_step (fail)
                        go_big_quiet_step (fail)
                        go_big_quiet_step (fail)
                        refine later_val (v := .pointer (some ⟨wb, k, none⟩)) (fun q => run_ia3 (x := .tmp 13) (y := .tmp 167) rfl rfl rfl und8b szBB k8 _) (by rfl) ?_; try simp only [pA]
                        refine later_val (v := .slice (some ⟨M, 0, none⟩) 2 2) (fun q => run_cell1 (x := .tmp 168) 35 rfl rfl undBB rfl (Later.cell hM3 cW q)) (by rfl) ?_; try simp only [pA]
                        refine later_val (v := .bool true) (fun q => run_neSN (p := some ⟨M, 0, none⟩) (x := .tmp 169) (y := .const (.slice none 0 0)) rfl undBB rfl rfl rfl (fun _ => by unfold eqGuard; rfl) _) (by rfl) ?_; try simp only [pA]
                        go_big_quiet_step (fail)
                        go_big_quiet_step (fail)
                        refine later_val (v := .bool false) (fun q => run_neqZ (x := .tmp 172) rfl rfl rfl (by decide) _) (by rfl) ?_; try simp only [pA]
                        go_big_quiet_step (fail)
                        go_big_quiet_step (fail)
                        refine later_val (v := .string (strOf (V k) 2)) (fun q => run_strA (x := .tmp 175) rfl undBB undBy undBS rfl (aP.below hM3 q.b)) (by rfl) ?_; try simp only [pA]
                        go_big_quiet_step (fail)
                        refine later_val (v := .pointer (some ⟨wb, k, none⟩)) (fun q => run_ia3 (x := .tmp 13) (y := .tmp 177) rfl rfl rfl und8b szBB k8 _) (by rfl) ?_; try simp only [pA]
                        refine later_val (v := .slice (some ⟨M, 0, none⟩) 2 2) (fun q => run_cell1 (x := .tmp 178) 35 rfl rfl undBB rfl (Later.cell hM3 cW q)) (by rfl) ?_; try simp only [pA]
                        refine later_val (v := .string (strOf (V k) 2)) (fun q => run_strA (x := .tmp 179) rfl undBB undBy undBS rfl (aM.below hM3 q.b)) (by rfl) ?_; try simp only [pA]
                        refine later_val (v := .bool false) (fun q => run_neqT (x := .tmp 176) (y := .tmp 180) rfl rfl rfl (by simp) _) (by rfl) ?_; try simp only [pA]
                        go_big_quiet_step (fail)
                        go_big_quiet_step (fail)
                        go_big_quiet_step (fail)
                        refine wpQuiet_nil ?_
                        rintro w5 ⟨x5, e5⟩
                        have hb5 := x5.b
                        rw [← e5] at hb5
                        have F5 := F3.below hM3 hb5
                        clear e5 x5 hb5 cW F3
                        go_wp2_with (first
                          | ((with_reducible show wpList _ _ _ (_ :: _) _ _); first
                            | (refine wpl_run rfl (.int .i64 ((c + 1 : Nat) : Int)) _ (run_inc (x := .tmp 130) rfl rfl rfl rfl (by omega) _) ?_; try simp only [pA]))
                          | fail)
                        exact ⟨⟨c + 1, _, rfl, by omega, F5⟩, by simp [intOf]; omega⟩
                      | false =>
                        have HZ := hid (HV.out k k8 hth)
                        have hrn : rows k = none := by
                          have h := HR.out k k8
                          rw [hth] at h
                          exact Option.not_isSome_iff_eq_none.1 (by rw [h]; decide)
                        have HRK := hid hrn
                        clear hrn
                        by_cases c0 : c = 0
                        · have hor : th k = true ∨ c = 0 := .inr c0
                          have E147 := hid (show ((c : Int) == 0) = true by rw [c0]; rfl)
                          have E159 := hid (show decide ((0 : Int) < (c : Int)) = false by rw [c0]; rfl)
                          clear hth c0
                          skip
                          go_upto_region 41 with (first
                            | (go_at_call 16; refine (SLook F2 hM2 h2 k8 _ _ (fun _ => ⟨M1, 0, rfl, fun j hj => by rw [Nat.zero_add, k2.cell hj, four_num k j hj]⟩)).mono ?_; rintro e w3 ⟨⟨Mf3, F3⟩, hr⟩; rw [if_pos hor] at hr; obtain ⟨P, rfl, hP⟩ := hr; obtain ⟨M3, hM3⟩ := sz_some w3)
                            | ((with_reducible show wpList _ _ _ (_ :: _) _ _); first
                              | (refine wpl_run rfl (.bool true) _ (run_lssK (x := .tmp 128) rfl rfl rfl E129.out _) ?_; try simp only [pA])
                              | (refine wpl_run rfl (.pointer (some ⟨N, c, none⟩)) _ (run_ia3 (x := .tmp 5) (y := .tmp 133) rfl rfl rfl und3p szMp hc3.out _) ?_; try simp only [pA])
                              | (refine wpl_run rfl (.pointer (some ⟨B c, 0, none⟩)) _ (run_cell1 (x := .tmp 134) 27 rfl rfl hMp rfl cA.out) ?_; try simp only [pA])
                              | (refine wpl_bs4 rfl (.tmp 136) (.const (.int .u8 0)) (.const (.int .u8 0)) (.const (.int .u8 0)) rfl (b8 k) 0#8 0#8 0#8 (by exact by_nat k k256) rfl rfl rfl M1 hM1 ?_; intro w2 hM2 b2 k2; have F2 := F.below hM1 b2; try simp only [pA]))
                            | fail)
                          have cW : w3.cell? ⟨wb, k, none⟩ = some (.slice none 0 0) := by
                            have h := F3.hw.cell k8
                            rw [h]; unfold rowV; rw [HRK.out]
                          clear F F2 k2 b2 cA E129
                          refine wp_region_later M3 (by kernel_rfl) (by kernel_rfl) ?_
                          have aP : Ats w3 (some ⟨P, 0, none⟩) 2 (fun j => By (V k j)) := fun _ => ⟨P, 0, rfl, fun j hj => by rw [Nat.zero_add, hP.cell hj]⟩
                          clear hP
                          go_big_quiet_step (fail)
                          refine later_val (v := .pointer (some ⟨wb, k, none⟩)) (fun q => run_ia3 (x := .tmp 13) (y := .tmp 141) rfl rfl rfl und8b szBB k8 _) (by rfl) ?_; try simp only [pA]
                          refine later_val (v := .slice none 0 0) (fun q => run_cell1 (x := .tmp 142) 35 rfl rfl undBB rfl (Later.cell hM3 cW q)) (by rfl) ?_; try simp only [pA]
                          refine later_val (v := .bool true) (fun q => run_eqSN (p := none) (x := .tmp 143) (y := .const (.slice none 0 0)) rfl undBB rfl rfl rfl (fun _ => by unfold eqGuard; rfl) _) (by rfl) ?_; try simp only [pA]
                          go_big_quiet_step (fail)
                          go_big_quiet_step (fail)
                          refine later_val (v := .bool true) (fun q => run_eqK (x := .tmp 146) rfl rfl rfl E147.out _) (by rfl) ?_; try simp only [pA]
                          go_big_quiet_step (fail)
                          go_big_quiet_step (fail)
                          refine later_val (v := .bool false) (fun q => run_neqZ (x := .tmp 149) rfl rfl rfl (by decide) _) (by rfl) ?_; try simp only [pA]
                          go_big_quiet_step (fail)
                          go_big_quiet_step (fail)
                          refine later_val (v := .string (strOf (V k) 2)) (fun q => run_strA (x := .tmp 152) rfl undBB undBy undBS rfl (aP.below hM3 q.b)) (by rfl) ?_; try simp only [pA]
                          refine later_val (v := .bool false) (fun q => run_neqT (x := .tmp 153) rfl rfl rfl (zz_str _ HZ.out) _) (by rfl) ?_; try simp only [pA]
                          go_big_quiet_step (fail)
                          go_big_quiet_step (fail)
                          go_big_quiet_step (fail)
                          go_big_quiet_step (fail)
                          refine later_val (v := .bool false) (fun q => run_gtrK (x := .tmp 158) rfl rfl rfl E159.out _) (by rfl) ?_; try simp only [pA]
                          go_big_quiet_step (fail)
                          go_big_quiet_step (fail)
                          go_big_quiet_step (fail)
                          go_big_quiet_step (fail)
                          go_big_quiet_step (fail)
                          go_big_quiet_step (fail)
                          go_big_quiet_step (fail)
                          go_big_quiet_step (fail)
                          refine later_val (v := .pointer (some ⟨wb, k, none⟩)) (fun q => run_ia3 (x := .tmp 13) (y := .tmp 167) rfl rfl rfl und8b szBB k8 _) (by rfl) ?_; try simp only [pA]
                          refine later_val (v := .slice none 0 0) (fun q => run_cell1 (x := .tmp 168) 35 rfl rfl undBB rfl (Later.cell hM3 cW q)) (by rfl) ?_; try simp only [pA]
                          refine later_val (v := .bool false) (fun q => run_neSN (p := none) (x := .tmp 169) (y := .const (.slice none 0 0)) rfl undBB rfl rfl rfl (fun _ => by unfold eqGuard; rfl) _) (by rfl) ?_; try simp only [pA]
                          go_big_quiet_step (fail)
                          go_big_quiet_step (fail)
                          go_big_quiet_step (fail)
                          go_big_quiet_step (fail)
                          go_big_quiet_step (fail)
                          go_big_quiet_step (fail)
                          go_big_quiet_step (fail)
                          go_big_quiet_step (fail)
                          go_big_quiet_step (fail)
                          go_big_quiet_step (fail)
                          go_big_quiet_step (fail)
                          go_big_quiet_step (fail)
                          go_big_quiet_step (fail)
                          go_big_quiet_step (fail)
                          refine wpQuiet_nil ?_
                          rintro w5 ⟨x5, e5⟩
                          have hb5 := x5.b
                          rw [← e5] at hb5
                          have F5 := F3.below hM3 hb5
                          clear e5 x5 hb5 cW F3
                          go_wp2_with (first
                            | ((with_reducible show wpList _ _ _ (_ :: _) _ _); first
                              | (refine wpl_run rfl (.int .i64 ((c + 1 : Nat) : Int)) _ (run_inc (x := .tmp 130) rfl rfl rfl rfl (by omega) _) ?_; try simp only [pA]))
                            | fail)
                          exact ⟨⟨c + 1, _, rfl, by omega, F5⟩, by simp [intOf]; omega⟩
                        · have hor : ¬ (th k = true ∨ c = 0) := fun h => by
                            rcases h with h | h
                            · rw [hth] at h; cases h
                            · exact c0 h
                          have E147 := hid (show ((c : Int) == 0) = false from beq_eq_false_iff_ne.2 (by omega))
                          have E159 := hid (show decide ((0 : Int) < (c : Int)) = true from decide_eq_true (by omega))
                          clear hth c0
                          skip
                          go_upto_region 41 with (first
                            | (go_at_call 16; refine (SLook F2 hM2 h2 k8 _ _ (fun _ => ⟨M1, 0, rfl, fun j hj => by rw [Nat.zero_add, k2.cell hj, four_num k j hj]⟩)).mono ?_; rintro e w3 ⟨⟨Mf3, F3⟩, hr⟩; rw [if_neg hor] at hr; subst hr; obtain ⟨M3, hM3⟩ := sz_some w3)
                            | ((with_reducible show wpList _ _ _ (_ :: _) _ _); first
                              | (refine wpl_run rfl (.bool true) _ (run_lssK (x := .tmp 128) rfl rfl rfl E129.out _) ?_; try simp only [pA])
                              | (refine wpl_run rfl (.pointer (some ⟨N, c, none⟩)) _ (run_ia3 (x := .tmp 5) (y := .tmp 133) rfl rfl rfl und3p szMp hc3.out _) ?_; try simp only [pA])
                              | (refine wpl_run rfl (.pointer (some ⟨B c, 0, none⟩)) _ (run_cell1 (x := .tmp 134) 27 rfl rfl hMp rfl cA.out) ?_; try simp only [pA])
                              | (refine wpl_bs4 rfl (.tmp 136) (.const (.int .u8 0)) (.const (.int .u8 0)) (.const (.int .u8 0)) rfl (b8 k) 0#8 0#8 0#8 (by exact by_nat k k256) rfl rfl rfl M1 hM1 ?_; intro w2 hM2 b2 k2; have F2 := F.below hM1 b2; try simp only [pA]))
                            | fail)
                          have cW : w3.cell? ⟨wb, k, none⟩ = some (.slice none 0 0) := by
                            have h := F3.hw.cell k8
                            rw [h]; unfold rowV; rw [HRK.out]
                          clear F F2 k2 b2 cA E129
                          refine wp_region_later M3 (by kernel_rfl) (by kernel_rfl) ?_
                          go_big_quiet_step (fail)
                          refine later_val (v := .pointer (some ⟨wb, k, none⟩)) (fun q => run_ia3 (x := .tmp 13) (y := .tmp 141) rfl rfl rfl und8b szBB k8 _) (by rfl) ?_; try simp only [pA]
                          refine later_val (v := .slice none 0 0) (fun q => run_cell1 (x := .tmp 142) 35 rfl rfl undBB rfl (Later.cell hM3 cW q)) (by rfl) ?_; try simp only [pA]
                          refine later_val (v := .bool true) (fun q => run_eqSN (p := none) (x := .tmp 143) (y := .const (.slice none 0 0)) rfl undBB rfl rfl rfl (fun _ => by unfold eqGuard; rfl) _) (by rfl) ?_; try simp only [pA]
                          go_big_quiet_step (fail)
                          go_big_quiet_step (fail)
                          refine later_val (v := .bool false) (fun q => run_eqK (x := .tmp 146) rfl rfl rfl E147.out _) (by rfl) ?_; try simp only [pA]
                          go_big_quiet_step (fail)
                          go_big_quiet_step (fail)
                          go_big_quiet_step (fail)
                          go_big_quiet_step (fail)
                          go_big_quiet_step (fail)
                          go_big_quiet_step (fail)
                          go_big_quiet_step (fail)
                          go_big_quiet_step (fail)
                          go_big_quiet_step (fail)
                          go_big_quiet_step (fail)
                          go_big_quiet_step (fail)
                          refine later_val (v := .bool true) (fun q => run_gtrK (x := .tmp 158) rfl rfl rfl E159.out _) (by rfl) ?_; try simp only [pA]
                          go_big_quiet_step (fail)
                          go_big_quiet_step (fail)
                          refine later_val (v := .bool false) (fun q => run_neqZ (x := .tmp 161) rfl rfl rfl (by decide) _) (by rfl) ?_; try simp only [pA]
                          go_big_quiet_step (fail)
                          go_big_quiet_step (fail)
                          go_big_quiet_step (fail)
                          go_big_quiet_step (fail)
                          go_big_quiet_step (fail)
                          refine later_val (v := .pointer (some ⟨wb, k, none⟩)) (fun q => run_ia3 (x := .tmp 13) (y := .tmp 167) rfl rfl rfl und8b szBB k8 _) (by rfl) ?_; try simp only [pA]
                          refine later_val (v := .slice none 0 0) (fun q => run_cell1 (x := .tmp 168) 35 rfl rfl undBB rfl (Later.cell hM3 cW q)) (by rfl) ?_; try simp only [pA]
                          refine later_val (v := .bool false) (fun q => run_neSN (p := none) (x := .tmp 169) (y := .const (.slice none 0 0)) rfl undBB rfl rfl rfl (fun _ => by unfold eqGuard; rfl) _) (by rfl) ?_; try simp only [pA]
                          go_big_quiet_step (fail)
                          go_big_quiet_step (fail)
                          go_big_quiet_step (fail)
                          go_big_quiet_step (fail)
                          go_big_quiet_step (fail)
                          go_big_quiet_step (fail)
                          go_big_quiet_step (fail)
                          go_big_quiet_step (fail)
                          go_big_quiet_step (fail)
                          go_big_quiet_step (fail)
                          go_big_quiet_step (fail)
                          go_big_quiet_step (fail)
                          go_big_quiet_step (fail)
                          go_big_quiet_step (fail)
                          refine wpQuiet_nil ?_
                          rintro w5 ⟨x5, e5⟩
                          have hb5 := x5.b
                          rw [← e5] at hb5
                          have F5 := F3.below hM3 hb5
                          clear e5 x5 hb5 cW F3
                          go_wp2_with (first
                            | ((with_reducible show wpList _ _ _ (_ :: _) _ _); first
                              | (refine wpl_run rfl (.int .i64 ((c + 1 : Nat) : Int)) _ (run_inc (x := .tmp 130) rfl rfl rfl rfl (by omega) _) ?_; try simp only [pA]))
                            | fail)
                          exact ⟨⟨c + 1, _, rfl, by omega, F5⟩, by simp [intOf]; omega⟩
                    · have E129 := hid (show decide ((c : Int) < 3) = false from decide_eq_false (by omega))
                      go_wp2_with (first
                        | ((with_reducible show wpList _ _ _ (_ :: _) _ _); first
                          | (refine wpl_run rfl (.bool false) _ (run_lssK (x := .tmp 128) rfl rfl rfl E129.out _) ?_; try simp only [pA])
                          | (refine wpl_run rfl (.int .u8 ((k + 1 : Nat) : Int)) _ (run_incU8 (x := .tmp 126) rfl rfl rfl rfl (by omega) _) ?_; try simp only [pA]))
                        | fail)
                      exact ⟨⟨k + 1, _, rfl, by omega, F⟩, by simp [intOf]; omega⟩
                · have E125 := hid (show decide ((k : Int) < 8) = false from decide_eq_false (by omega))
                  have hTr := hT.below F.lo hTN
                  obtain ⟨M, hM⟩ := sz_some wr
                  have hNM : N ≤ M := by have := F.hb.ltN hM; omega
                  have hTM := hTr.ltN hM
                  have sm0 := SSame F 0 (by omega)
                  have sm1 := SSame F 1 (by omega)
                  have sm2 := SSame F 2 (by omega)
                  go_upto_region 43 with (first
                    | ((with_reducible show wpList _ _ _ (_ :: _) _ _); first
                      | (refine wpl_run rfl (.bool false) _ (run_lssK (x := .tmp 124) rfl rfl rfl E125.out _) ?_; try simp only [pA]))
                    | fail)
                  refine wp_region_later M (by kernel_rfl) (by kernel_rfl) ?_
                  go_big_quiet_step ((go_at_call 22; exact later_of hM _ (fun K hK hKN => stands_any _ K hK (hTr.below (Later.b _) hTM))))
                  go_big_quiet_step (fail)
                  go_big_quiet_step ((go_at_call 23; exact later_of hM _ (fun K hK hKN => topens_any _ K hK)))
                  go_big_quiet_step (fail)
                  go_big_quiet_step (fail)
                  refine later_val (v := .pointer (some ⟨N, 0, none⟩)) (fun q => run_ia3 (x := .tmp 5) (y := .const (.int .i64 0)) (k := 0) rfl rfl rfl und3p szMp (by omega) _) (by rfl) ?_; try simp only [pA]
                  refine later_val (v := .pointer (some ⟨B 0, 0, none⟩)) (fun q => run_cell1 (x := .tmp 190) 27 rfl rfl hMp rfl (Later.cell hM (F.ha.cell (j := 0) (by omega)) q)) (by rfl) ?_; try simp only [pA]
                  go_big_quiet_step ((go_at_call 11; exact later_of hM _ (fun K hK hKN => SSum (F.below hM (Later.b _)) 0 (by omega) hK (hTr.below (Later.b _) hTM))))
                  refine later_val (v := .pointer (some ⟨N + 1, 0, none⟩)) (fun q => run_ia3 (x := .tmp 6) (y := .const (.int .i64 0)) (k := 0) rfl rfl rfl und3p szMp (by omega) _) (by rfl) ?_; try simp only [pA]
                  refine later_val (v := .pointer (some ⟨B (3 + 0), 0, none⟩)) (fun q => run_cell1 (x := .tmp 193) 27 rfl rfl hMp rfl (Later.cell hM (F.hb.cell (j := 0) (by omega)) q)) (by rfl) ?_; try simp only [pA]
                  go_big_quiet_step ((go_at_call 11; exact later_of hM _ (fun K hK hKN => SSum (F.below hM (Later.b _)) (3 + 0) (by omega) hK (hTr.below (Later.b _) hTM))))
                  refine later_val (v := .bool true) (fun q => run_eql_op 40 40 (.tmp 192) (.tmp 195) rfl _ _ rfl rfl true (by kernel_rfl) (by rw [sm0]; exact eqSum _ _)) (by rfl) ?_; try simp only [pA]
                  go_big_quiet_step (fail)
                  go_big_quiet_step (fail)
                  refine later_val (v := .pointer (some ⟨N, 1, none⟩)) (fun q => run_ia3 (x := .tmp 5) (y := .const (.int .i64 1)) (k := 1) rfl rfl rfl und3p szMp (by omega) _) (by rfl) ?_; try simp only [pA]
                  refine later_val (v := .pointer (some ⟨B 1, 0, none⟩)) (fun q => run_cell1 (x := .tmp 199) 27 rfl rfl hMp rfl (Later.cell hM (F.ha.cell (j := 1) (by omega)) q)) (by rfl) ?_; try simp only [pA]
                  go_big_quiet_step ((go_at_call 11; exact later_of hM _ (fun K hK hKN => SSum (F.below hM (Later.b _)) 1 (by omega) hK (hTr.below (Later.b _) hTM))))
                  refine later_val (v := .pointer (some ⟨N + 1, 1, none⟩)) (fun q => run_ia3 (x := .tmp 6) (y := .const (.int .i64 1)) (k := 1) rfl rfl rfl und3p szMp (by omega) _) (by rfl) ?_; try simp only [pA]
                  refine later_val (v := .pointer (some ⟨B (3 + 1), 0, none⟩)) (fun q => run_cell1 (x := .tmp 202) 27 rfl rfl hMp rfl (Later.cell hM (F.hb.cell (j := 1) (by omega)) q)) (by rfl) ?_; try simp only [pA]
                  go_big_quiet_step ((go_at_call 11; exact later_of hM _ (fun K hK hKN => SSum (F.below hM (Later.b _)) (3 + 1) (by omega) hK (hTr.below (Later.b _) hTM))))
                  refine later_val (v := .bool true) (fun q => run_eql_op 40 40 (.tmp 201) (.tmp 204) rfl _ _ rfl rfl true (by kernel_rfl) (by rw [sm1]; exact eqSum _ _)) (by rfl) ?_; try simp only [pA]
                  go_big_quiet_step (fail)
                  go_big_quiet_step (fail)
                  refine later_val (v := .pointer (some ⟨N, 2, none⟩)) (fun q => run_ia3 (x := .tmp 5) (y := .const (.int .i64 2)) (k := 2) rfl rfl rfl und3p szMp (by omega) _) (by rfl) ?_; try simp only [pA]
                  refine later_val (v := .pointer (some ⟨B 2, 0, none⟩)) (fun q => run_cell1 (x := .tmp 208) 27 rfl rfl hMp rfl (Later.cell hM (F.ha.cell (j := 2) (by omega)) q)) (by rfl) ?_; try simp only [pA]
                  go_big_quiet_step ((go_at_call 11; exact later_of hM _ (fun K hK hKN => SSum (F.below hM (Later.b _)) 2 (by omega) hK (hTr.below (Later.b _) hTM))))
                  refine later_val (v := .pointer (some ⟨N + 1, 2, none⟩)) (fun q => run_ia3 (x := .tmp 6) (y := .const (.int .i64 2)) (k := 2) rfl rfl rfl und3p szMp (by omega) _) (by rfl) ?_; try simp only [pA]
                  refine later_val (v := .pointer (some ⟨B (3 + 2), 0, none⟩)) (fun q => run_cell1 (x := .tmp 211) 27 rfl rfl hMp rfl (Later.cell hM (F.hb.cell (j := 2) (by omega)) q)) (by rfl) ?_; try simp only [pA]
                  go_big_quiet_step ((go_at_call 11; exact later_of hM _ (fun K hK hKN => SSum (F.below hM (Later.b _)) (3 + 2) (by omega) hK (hTr.below (Later.b _) hTM))))
                  refine later_val (v := .bool true) (fun q => run_eql_op 40 40 (.tmp 210) (.tmp 213) rfl _ _ rfl rfl true (by kernel_rfl) (by rw [sm2]; exact eqSum _ _)) (by rfl) ?_; try simp only [pA]
                  go_big_quiet_step (fail)
                  go_big_quiet_step (fail)
                  refine wpQuiet_nil ?_
                  rintro w5 ⟨x5, e5⟩
                  have hb5 := x5.b
                  rw [← e5] at hb5
                  have lo5 := F.lo.trans (hb5.mono hNM)
                  clear F hM hNM
                  go_wp2_with (first
                    | fail)
                  go_ret
                  exact ⟨rfl, lo5⟩
end Go.Proofs.YtjdclgnlnehjlaaDoor
