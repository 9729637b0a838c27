/- BmapFrozen: the law. -/
import Derived.Test.YtjdclgnlnehjlaaDoorMgFe0
namespace Go.Proofs.YtjdclgnlnehjlaaDoor
open Go Go.RowKit
set_option maxRecDepth 100000 in
set_option maxHeartbeats 32000000 in
theorem law_frozen (a b c d : Int) (p1 : Option Addr) (n1 c1 : Nat) (A1 : Nat → Av) (p2 : Option Addr) (n2 c2 : Nat) (A2 : Nat → Av) (w : World) (N : Nat) (hN : Sz w N) (hTab : Tabs w) (h1 : ActsAt w p1 n1 A1) (h2 : ActsAt w p2 n2 A2) :
    Calls Tryd.prog 3 #[.agg (cellsOf (sp4 a b c d) 4), .slice p1 n1 c1, .slice p2 n2 c2] w fun e w' => e = .returned (.bool true) ∧ Below N w w' := by
  obtain ⟨_, s1, s2⟩ := rwSpR
  have S1 := hid s1
  have S2 := hid s2
  obtain ⟨_, a1, a2⟩ := rwAct
  have AW1 := hid a1
  have AW2 := hid a2
  obtain ⟨_, u1, u2⟩ := rwSum
  have UW1 := hid u1
  have UW2 := hid u2
  clear s1 s2 a1 a2 u1 u2
  go_enter Tryd.func3, Tryd.ntmps3
  go_wp2_with (first
    | ((with_reducible show wpList _ _ _ (_ :: _) _ _); first
      | (refine wpl_box rfl 23 (.tmp 0) rfl 4 (sp4 a b c d) rfl N hN ?_; intro w1 hM1 b1 k1; refine id ?_; try simp only [pA]))
    | fail)
  refine (maps_any w1 (N + 1) hM1).mono ?_
  rintro e w2 ⟨rfl, b2⟩
  obtain ⟨M2, hM2⟩ := sz_some w2
  have L2 := below_sz b2 hM1 hM2
  have k2 := k1.below b2 (by omega)
  have B2 := b1.trans (b2.mono (Nat.le_succ N))
  go_wp2_with (first
    | ((with_reducible show wpList _ _ _ (_ :: _) _ _); first
      | (refine wpl_want (by rfl) ?_; refine wpl_load rfl 23 (.tmp 3) rfl N rfl 23 4 _ k2 _ S1.out S2.out szSpR ?_; try simp only [pA]))
    | fail)
  refine (Right_any a b c d w2 M2 hM2).mono ?_
  rintro e w3 ⟨⟨r, rfl, hr⟩, b3⟩
  obtain ⟨M3, hM3⟩ := sz_some w3
  have L3 := below_sz b3 hM2 hM3
  have k3 := k2.below b3 (by omega)
  have B3 := B2.trans (b3.mono (by omega))
  clear k1 k2 b1 b2 b3
  cases r
  · go_wp2_with fail
    refine (maps_any w3 M3 hM3).mono ?_
    rintro e w4 ⟨rfl, b4⟩
    go_wp2_with fail
    go_ret
    exact ⟨rfl, B3.trans (b4.mono (by omega))⟩
  · obtain ⟨ty, key, val, ent, rfl, rfl, rfl, rfl, hS⟩ := (hr rfl).nat
    clear hr
    go_wp2_with (first
      | ((with_reducible show wpList _ _ _ (_ :: _) _ _); first
        | (refine wpl_load rfl 23 (.tmp 3) rfl N rfl 23 4 _ k3 _ S1.out S2.out szSpR ?_; try simp only [pA]))
      | fail)
    refine (to_any (ty : Int) (key : Int) (val : Int) (ent : Int) w3 M3 hM3).mono ?_
    rintro e w4 ⟨rfl, b4⟩
    obtain ⟨M4, hM4⟩ := sz_some w4
    have L4 := below_sz b4 hM3 hM4
    go_wp2_with fail
    refine (New_any ty key val ent hS w4 M4 hM4).mono ?_
    rintro e w5 ⟨m, rfl, mA, mI, _, _, _, _, _, b5, mlow⟩
    obtain ⟨M5, hM5⟩ := sz_some w5
    have L5 := below_sz b5 hM4 hM5
    have k5 := (k3.below b4 (by omega)).below b5 (by omega)
    have B5 := (B3.trans (b4.mono (by omega))).trans (b5.mono (by omega))
    clear b4 b5 k3 B3 B2
    go_wp2_with (first
      | ((with_reducible show wpList _ _ _ (_ :: _) _ _); first
        | (refine wpl_load rfl 23 (.tmp 3) rfl N rfl 23 4 _ k5 _ S1.out S2.out szSpR ?_; try simp only [pA]))
      | fail)
    refine (RNew_any ty key val ent hS w5 M5 hM5).mono ?_
    rintro e w6 ⟨r, rfl, rR, rp, b6, rlow⟩
    obtain ⟨M6, hM6⟩ := sz_some w6
    have L6 := below_sz b6 hM5 hM6
    have k6 := k5.below b6 (by omega)
    have B6 := B5.trans (b6.mono (by omega))
    have T0 : Two (fun x => N + 1 ≤ x) w6 m r w6 m r := ⟨mA.below hM5 b6, mI, rR, fun x hx => by have := mlow x hx; show N + 1 ≤ x; omega, fun x hx => by have := rlow x hx; show N + 1 ≤ x; omega, Turn.refl _ _, rfl, ⟨rfl, rfl, rfl, rfl, rfl⟩⟩
    have h1s : N + 1 ≤ w6.heap.size := by have e : w6.heap.size = M6 := hM6; omega
    clear mA mI mlow rR rlow b6 k5 B5 hM2 hM3 hM4 hM5
    have hr16 : key ≤ 16 ∧ val ≤ 64 := by have := T0.R.sm; rw [rp.2.1, rp.2.2.1] at this; exact ⟨this.1, this.2.1⟩
    clear rp
    go_upto_block 0 with fail
    go_cut [10] (fun v wx => ∃ m9 r9, Two (fun x => N + 1 ≤ x) w6 m r wx m9 r9)
    case first =>
      clear hTab h2
      go_step
      go_loopw [10] (fun x10 wr => ∃ (i : Nat) (m9 : Mp) (r9 : Rm), x10 = .int .i64 (i : Int) ∧ i ≤ 30 ∧ Two (fun x => N + 1 ≤ x) w6 m r wr m9 r9) (fun x10 _ => 30 - (intOf x10).toNat)
      case atStart => exact ⟨0, m, r, rfl, by omega, T0⟩
      case round =>
        clear T0
        obtain ⟨i, m9, r9, rfl, hi, T⟩ := hrel
        by_cases hc1 : i < n1
        · have E1 := hid (show decide ((i : Int) < (n1 : Int)) = true from decide_eq_true (by omega))
          by_cases hc2 : i < 30
          · have E2 := hid (show decide ((i : Int) < 30) = true from decide_eq_true (by omega))
            obtain ⟨M, hM⟩ := sz_some wr
            have hB := T.bel (fun x hx => hx) h1s
            have LM : N + 1 ≤ M := by have := hB.size; have e : wr.heap.size = M := hM; omega
            have H1 := h1.below hN (B6.trans (hB.mono (Nat.le_succ N)))
            obtain ⟨g, off, hg, hc⟩ := H1.c (by omega)
            have HG := hid hg
            have HC := hid (hc i hc1)
            have HO := H1.ok i hc1
            clear hg hc H1
            obtain ⟨av, eav⟩ : ∃ av, A1 i = av := ⟨_, rfl⟩
            rw [eav] at HC HO
            clear eav
            go_upto_region 8 with (first
              | ((with_reducible show wpList _ _ _ (_ :: _) _ _); first
                | (refine wpl_run rfl (.int .i64 (n1 : Int)) _ (run_lenL (x := .tmp 37) rfl undActs rfl _) ?_; try simp only [pA])
                | (refine wpl_run rfl (.bool true) _ (run_lssK (x := .tmp 36) rfl rfl rfl E1.out _) ?_; try simp only [pA])
                | (refine wpl_want (by rfl) ?_; refine wpl_run rfl (.bool true) _ (run_lssK (x := .tmp 41) rfl rfl rfl E2.out _) ?_; try simp only [pA]))
              | fail)
            go_upto_region 9 with (first
              | ((with_reducible show wpList _ _ _ (_ :: _) _ _); first
                | (refine wpl_run rfl (.pointer (some ⟨g, off + i * 5, none⟩)) _ (run_ia5 (x := .tmp 46) (y := .tmp 47) rfl rfl HG.out rfl undActs szAct hc1 _) ?_; try simp only [pA])
                | (refine wpl_load_cells rfl 38 (.tmp 48) rfl g (off + i * 5) rfl 5 (avC av) HC.out _ AW1.out AW2.out szAct ?_; try simp only [pA])
                | (refine wpl_alloc rfl 38 rfl 5 _ zeAct M hM ?_; intro v1 hV1 d1 j1; refine id ?_; try simp only [pA])
                | (refine wpl_store rfl 38 (.tmp 11) (.tmp 49) rfl M 5 (avC av) rfl rfl 38 _ j1 szAct (fun j _ => avC_one _ j) ?_; intro v2 t2 j2; refine id ?_; try simp only [pA]))
              | fail)
            have V2 : Sz v2 (M + 1) := t2.sz hV1
            have e2 := t2.below d1 (Nat.le_refl M)
            have T2 := T.below hM e2
            have HO2 := HO.below hM e2
            have cw : v2.cell? ⟨M, 0, none⟩ = some (.int .i64 av.what) := j2.cell (j := 0) (by omega)
            obtain ⟨q, hq⟩ : ∃ q, (av.what.tmod 9 != 7) = q := ⟨_, rfl⟩
            have HQ := hid hq
            clear hq d1 j1 t2 e2 T HO hV1
            cases q
            · go_wp2_with (first
                | ((with_reducible show wpList _ _ _ (_ :: _) _ _); first
                  | (refine wpl_run rfl (.int .i64 av.what) _ (run_cell1 (x := .tmp 50) 3 rfl rfl undIt rfl cw) ?_; try simp only [pA])
                  | (refine wpl_run rfl (.int .i64 (av.what.tmod 9)) _ (run_remI9 (x := .tmp 51) rfl rfl rfl _) ?_; try simp only [pA])
                  | (refine wpl_run rfl (.bool false) _ (run_neqZ (x := .tmp 52) rfl rfl rfl HQ.out _) ?_; try simp only [pA])
                  | (refine wpl_run rfl (.int .i64 ((i + 1 : Nat) : Int)) _ (run_inc (x := .tmp 44) rfl rfl rfl rfl (by omega) _) ?_; try simp only [pA]))
                | fail)
              exact ⟨⟨i + 1, m9, r9, rfl, by omega, T2⟩, by simp [intOf]; omega⟩
            · go_wp2_with (first
                | ((with_reducible show wpList _ _ _ (_ :: _) _ _); first
                  | (refine wpl_run rfl (.int .i64 av.what) _ (run_cell1 (x := .tmp 50) 3 rfl rfl undIt rfl cw) ?_; try simp only [pA])
                  | (refine wpl_run rfl (.int .i64 (av.what.tmod 9)) _ (run_remI9 (x := .tmp 51) rfl rfl rfl _) ?_; try simp only [pA])
                  | (refine wpl_run rfl (.bool true) _ (run_neqZ (x := .tmp 52) rfl rfl rfl HQ.out _) ?_; try simp only [pA])
                  | (refine wpl_load rfl 38 (.tmp 11) rfl M rfl 38 5 _ j2 _ AW1.out AW2.out szAct ?_; try simp only [pA]))
                | fail)
              have HD := do_any av.what av.kq av.kn av.kc av.vq av.vn av.vc av.fl av.raw HO2.kc HO2.vc HO2.fl av.KD av.VD (fun x => N + 1 ≤ x) w6 m m9 r r9 v2 (M + 1) V2 T2 (fun x hx => by show N + 1 ≤ x; omega) HO2.k HO2.v
              rw [T2.sm, T2.sr.1] at HD
              refine HD.mono ?_
              rintro e v3 ⟨bb, m8, r8, rfl, T3⟩
              go_wp2_with (first
                | ((with_reducible show wpList _ _ _ (_ :: _) _ _); first
                  | (refine wpl_run rfl (.int .i64 ((i + 1 : Nat) : Int)) _ (run_inc (x := .tmp 44) rfl rfl rfl rfl (by omega) _) ?_; try simp only [pA]))
                | fail)
              exact ⟨⟨i + 1, m8, r8, rfl, by omega, T3⟩, by simp [intOf]; omega⟩
          · have E2 := hid (show decide ((i : Int) < 30) = false from decide_eq_false (by omega))
            go_wp2_with (first
              | ((with_reducible show wpList _ _ _ (_ :: _) _ _); first
                | (refine wpl_run rfl (.int .i64 (n1 : Int)) _ (run_lenL (x := .tmp 37) rfl undActs rfl _) ?_; try simp only [pA])
                | (refine wpl_run rfl (.bool true) _ (run_lssK (x := .tmp 36) rfl rfl rfl E1.out _) ?_; try simp only [pA])
                | (refine wpl_want (by rfl) ?_; refine wpl_run rfl (.bool false) _ (run_lssK (x := .tmp 41) rfl rfl rfl E2.out _) ?_; try simp only [pA]))
              | fail)
            go_meet
            exact ⟨m9, r9, T⟩
        · have E1 := hid (show decide ((i : Int) < (n1 : Int)) = false from decide_eq_false (by omega))
          go_wp2_with (first
            | ((with_reducible show wpList _ _ _ (_ :: _) _ _); first
              | (refine wpl_run rfl (.int .i64 (n1 : Int)) _ (run_lenL (x := .tmp 37) rfl undActs rfl _) ?_; try simp only [pA])
              | (refine wpl_run rfl (.bool false) _ (run_lssK (x := .tmp 36) rfl rfl rfl E1.out _) ?_; try simp only [pA]))
            | fail)
          go_meet
          exact ⟨m9, r9, T⟩
    case rest =>
      clear T0 h1
      obtain ⟨m1, r1, T⟩ := hcut
      obtain ⟨M, hM⟩ := sz_some wc
      have hB := T.bel (fun x hx => hx) h1s
      have LM : N + 1 ≤ M := by have := hB.size; have e : wc.heap.size = M := hM; omega
      have B7 := B6.trans (hB.mono (Nat.le_succ N))
      have k7 := k6.below hB (Nat.lt_succ_self N)
      have TB := hTab.below B7 (hTab.ltN hN)
      have HS := MSumF T.I T.A hM TB
      rw [T.sm] at HS
      have HSH := hid HS
      clear HS hB
      go_wp2_with fail
      refine HSH.out.mono ?_
      rintro e w7 ⟨rfl, b7⟩
      obtain ⟨M7, hM7⟩ := sz_some w7
      have L7 := below_sz b7 hM hM7
      have T7 := T.below hM b7
      have HF := Frz_all T7.I M7 hM7 T7.A
      rw [T7.sm] at HF
      have HFH := hid HF
      clear HF HSH T
      go_wp2_with fail
      refine HFH.out.mono ?_
      rintro e w8 ⟨z, m2, rfl, hfz, hsum, hb2, A8, I8, t8, f8⟩
      have T8 := T7.frz (hb2.trans T7.sm.symm) A8 I8 t8 f8
      obtain ⟨M8, hM8⟩ := sz_some w8
      have hB8 := T8.bel (fun x hx => hx) h1s
      have L8 : N + 1 ≤ M8 := by have := hB8.size; have e : w8.heap.size = M8 := hM8; omega
      have B8 := B6.trans (hB8.mono (Nat.le_succ N))
      have k8 := k6.below hB8 (Nat.lt_succ_self N)
      obtain ⟨SD, hSD⟩ : ∃ SD, sumF m1 = SD := ⟨_, rfl⟩
      have hsum2 : sumF m2 = SD := hsum.trans hSD
      rw [hSD]
      clear hb2 A8 I8 t8 f8 T7 HFH hB8 hSD hsum b7 hM7 TB k7 B7
      go_upto_region 12 with (first
        | ((with_reducible show wpList _ _ _ (_ :: _) _ _); first
          | (refine wpl_alloc rfl 40 rfl 32 _ zeSum M8 hM8 ?_; intro w9 hM9 d9 j9; refine id ?_; try simp only [pA])
          | (refine wpl_store rfl 40 (.tmp 12) (.tmp 59) rfl M8 32 (fun j => By (SD j)) rfl rfl 40 _ j9 szSum (fun _ _ => rfl) ?_; intro w10 t10 j10; refine id ?_; try simp only [pA]))
        | fail)
      have d10 := t10.below d9 (Nat.le_refl M8)
      have M10 : Sz w10 (M8 + 1) := t10.sz hM9
      have TS := T8.start hM8 d10
      have hP8 := T8.notP hM8
      have hfm := T8.fm
      have hfr := T8.fr
      have B10 := B8.trans (d10.mono (by omega))
      have k10 := k8.below d10 (by omega)
      have hP : ∀ x, P1 m2 r1 M8 x → N + 1 ≤ x := fun x hx => by rcases hx with e | e | e; exact hfm x e; exact hfr x e; omega
      have sm8 := T8.sm
      clear d9 j9 t10 T8 hM9 k8 B8 hfm hfr d10
      go_cut [72] (fun v wx => v = .bool false ∧ Below (M8 + 1) w10 wx)
      case first =>
        obtain ⟨q, hq⟩ : ∃ q, (z == 0) = q := ⟨_, rfl⟩
        have HQ := hid hq
        clear hq
        cases q
        · go_wp2_with (first
            | ((with_reducible show wpList _ _ _ (_ :: _) _ _); first
              | (refine wpl_want (by rfl) ?_; refine wpl_run rfl (.bool false) _ (run_eqK (x := .tmp 65) rfl rfl rfl HQ.out _) ?_; try simp only [pA]))
            | fail)
          go_meet
          exact ⟨rfl, Below.refl _ _⟩
        · go_wp2_with (first
            | ((with_reducible show wpList _ _ _ (_ :: _) _ _); first
              | (refine wpl_want (by rfl) ?_; refine wpl_run rfl (.bool true) _ (run_eqK (x := .tmp 65) rfl rfl rfl HQ.out _) ?_; try simp only [pA]))
            | fail)
          have HZ := Frozen_is m2 true hfz w10 TS.A
          rw [sm8] at HZ
          refine HZ.mono ?_
          rintro e w11 ⟨rfl, rfl⟩
          go_wp2_with fail
          go_meet
          exact ⟨rfl, Below.refl _ _⟩
      case rest =>
        obtain ⟨rfl, bc⟩ := hcut
        have Tc := TS.below M10 bc
        clear bc
        go_wp2_with fail
        go_loopw [14] (fun x14 wr => ∃ (i : Nat) (m9 : Mp), x14 = .int .i64 (i : Int) ∧ i ≤ 20 ∧ Two (P1 m2 r1 M8) w10 m2 r1 wr m9 r1 ∧ m9.fz = true ∧ sumF m9 = SD) (fun x14 _ => 20 - (intOf x14).toNat)
        case atStart => exact ⟨0, m2, rfl, by omega, Tc, hfz, hsum2⟩
        case round =>
          clear Tc
          obtain ⟨i, m9, rfl, hi, T, hf9, hs9⟩ := hrel
          obtain ⟨M, hM⟩ := sz_some wr
          have hB0 := T.bel hP (by have e : w10.heap.size = M8 + 1 := M10; omega)
          have LM : M8 + 1 ≤ M := T.le M10 hM
          have BN := B10.trans (hB0.mono (Nat.le_succ N))
          have ks := k10.below hB0 (Nat.lt_succ_self N)
          have js := j10.turn T.t hP8
          clear hB0
          by_cases hc1 : i < n2
          · have E1 := hid (show decide ((i : Int) < (n2 : Int)) = true from decide_eq_true (by omega))
            by_cases hc2 : i < 20
            · have E2 := hid (show decide ((i : Int) < 20) = true from decide_eq_true (by omega))
              have H1 := h2.below hN BN
              obtain ⟨g, off, hg, hc⟩ := H1.c (by omega)
              have HG := hid hg
              have HC := hid (hc i hc1)
              have HO := H1.ok i hc1
              clear hg hc H1
              obtain ⟨av, eav⟩ : ∃ av, A2 i = av := ⟨_, rfl⟩
              rw [eav] at HC HO
              clear eav
              go_upto_region 17 with (first
                | ((with_reducible show wpList _ _ _ (_ :: _) _ _); first
                  | (refine wpl_run rfl (.int .i64 (n2 : Int)) _ (run_lenL (x := .tmp 74) rfl undActs rfl _) ?_; try simp only [pA])
                  | (refine wpl_run rfl (.bool true) _ (run_lssK (x := .tmp 73) rfl rfl rfl E1.out _) ?_; try simp only [pA])
                  | (refine wpl_want (by rfl) ?_; refine wpl_run rfl (.bool true) _ (run_lssK (x := .tmp 78) rfl rfl rfl E2.out _) ?_; try simp only [pA]))
                | fail)
              go_upto_region 18 with (first
                | ((with_reducible show wpList _ _ _ (_ :: _) _ _); first
                  | (refine wpl_run rfl (.pointer (some ⟨g, off + i * 5, none⟩)) _ (run_ia5 (x := .tmp 83) (y := .tmp 84) rfl rfl HG.out rfl undActs szAct hc1 _) ?_; try simp only [pA])
                  | (refine wpl_load_cells rfl 38 (.tmp 85) rfl g (off + i * 5) rfl 5 (avC av) HC.out _ AW1.out AW2.out szAct ?_; try simp only [pA])
                  | (refine wpl_alloc rfl 38 rfl 5 _ zeAct M hM ?_; intro v1 hV1 d1 j1; refine id ?_; try simp only [pA])
                  | (refine wpl_store rfl 38 (.tmp 15) (.tmp 86) rfl M 5 (avC av) rfl rfl 38 _ j1 szAct (fun j _ => avC_one _ j) ?_; intro v2 t2 j2; refine id ?_; try simp only [pA]))
                | fail)
              have hnf : ¬ Foot m9 M := fun h => by have := T.A.lt hM M h; omega
              have V2 : Sz v2 (M + 1) := t2.sz hV1
              have e2 := t2.below d1 (Nat.le_refl M)
              have T2 := T.below hM e2
              have HO2 := HO.below hM e2
              have ks2 := ks.below e2 (ks.ltN hM)
              have js2 := js.below e2 (js.ltN hM)
              have BN2 := BN.trans (e2.mono (by omega))
              clear d1 j1 t2 e2 T HO hV1 BN ks js HC HG
              go_cut [16, 17] (fun v16 v17 wx => ∃ (qk : Option Addr) (kl ck : Nat) (KD : Nat → BitVec 8) (qv : Option Addr) (vl cv : Nat) (VD : Nat → BitVec 8), v16 = .slice qk kl ck ∧ v17 = .slice qv vl cv ∧ Ats wx qk kl (fun j => By (KD j)) ∧ Ats wx qv vl (fun j => By (VD j)) ∧ Below (M + 1) v2 wx)
              case first =>
                refine wp_region_inn (fun w' => Below (M + 1) v2 w') (Below.refl (M + 1) v2).drew (by kernel_rfl) ?_
                have hne := inn_ne (I := fun w' => Below (M + 1) v2 w') (Below.refl (M + 1) v2)
                refine anyI_reads [0, 1, 4, 5] _ _ _ (Below.refl (M + 1) v2).drew (by kernel_rfl) (fun _ _ _ d _ h => by cases d <;> exact h) ?_
                simp only [pickO, List.map_cons, List.map_nil, List.getElem?_toArray, List.getElem?_cons_succ, List.getElem?_cons_zero, Option.getD_some, Act.put, List.setIfInBounds_toArray, List.set_cons_succ, List.set_cons_zero]
                repeat first
                  | (refine inn_val (fun x => run_ld 38 (.tmp 15) rfl M rfl 38 5 _ (j2.below x.h (by omega)) _ AW1.out AW2.out szAct) (by rfl) ?_; simp only [Act.put, List.setIfInBounds_toArray, List.set_cons_succ, List.set_cons_zero])
                  | (refine inn_val (fun x => run_ld 23 (.tmp 3) rfl N rfl 23 4 _ (ks2.below x.h (by omega)) _ S1.out S2.out szSpR) (by rfl) ?_; simp only [Act.put, List.setIfInBounds_toArray, List.set_cons_succ, List.set_cons_zero])
                  | go_big_quiet_step (fail)
                refine wpQuiet_nil ?_
                clear hne
                refine anyI_part [2] _ _ _ _ (by kernel_rfl) ?_
                simp only [List.filterMap_cons, List.filterMap_nil, List.getElem?_toArray, List.getElem?_cons_succ, List.getElem?_cons_zero]
                change wpList _ _ _ [_] _ _
                go_wp2_with fail
                refine (key_any av.what av.kq av.kn av.kc av.vq av.vn av.vc av.fl av.raw _ _ _ key hr16.1 HO2.kc av.KD v2.drew (M + 1) V2 (HO2.k.below V2 (Below.refl _ _).drew)).mono ?_
                rintro e y1 ⟨⟨KD, kl, hkl, rfl⟩, f1⟩
                dsimp only
                go_step
                have g1 := (Below.refl (M + 1) v2).drew.trans f1
                refine ⟨g1, ?_⟩
                change anyI _ _ _ _ _ _ _ _ _
                try simp only [pA]
                refine anyI_two 3 6 _ _ _ _ (by kernel_rfl) ?_ ?_
                · simp only [List.filterMap_cons, List.filterMap_nil, List.getElem?_toArray, List.getElem?_cons_succ, List.getElem?_cons_zero]
                  change wpList _ _ _ [_] _ _
                  obtain ⟨z101, hz101⟩ := sz_some y1
                  have lz101 : M + 1 ≤ z101 := below_sz g1 V2 hz101
                  obtain ⟨cap101, w101, hr101, hS101, hb101, ra101⟩ := run_raw (P := Tryd.prog) 9 35 undBS undBB undBy y1 z101 hz101 KD kl
                  refine wpl_conv2 rfl 9 35 (.tmp 89) rfl _ _ _ rfl hr101 ?_
                  have b101 := g1.trans (hb101.mono lz101)
                  refine ⟨b101, ?_⟩
                  change anyI _ _ _ _ _ _ _ _ _
                  try simp only [pA]
                  refine anyI_part [6] _ _ _ _ (by kernel_rfl) ?_
                  simp only [List.filterMap_cons, List.filterMap_nil, List.getElem?_toArray, List.getElem?_cons_succ, List.getElem?_cons_zero]
                  change wpList _ _ _ [_] _ _
                  obtain ⟨z102, hz102⟩ := sz_some w101
                  have lz102 : M + 1 ≤ z102 := below_sz b101 V2 hz102
                  go_wp2_with fail
                  refine (val_any av.what av.kq av.kn av.kc av.vq av.vn av.vc av.fl av.raw _ _ _ val hr16.2 HO2.vc av.VD w101 z102 hz102 (HO2.v.below V2 b101)).mono ?_
                  rintro e y102 ⟨⟨VD, vl, hvl, rfl⟩, f102⟩
                  dsimp only
                  go_step
                  have b102 := b101.trans (f102.mono lz102)
                  have rk102 := ra101.ats.below hz102 f102
                  refine ⟨b102, ?_⟩
                  change anyI _ _ _ _ _ _ _ _ _
                  try simp only [pA]
                  refine anyI_two 7 8 _ _ _ _ (by kernel_rfl) ?_ ?_
                  · simp only [List.filterMap_cons, List.filterMap_nil, List.getElem?_toArray, List.getElem?_cons_succ, List.getElem?_cons_zero]
                    change wpList _ _ _ [_] _ _
                    obtain ⟨z103, hz103⟩ := sz_some y102
                    have lz103 : M + 1 ≤ z103 := below_sz b102 V2 hz103
                    obtain ⟨cap103, w103, hr103, hS103, hb103, ra103⟩ := run_raw (P := Tryd.prog) 9 35 undBS undBB undBy y102 z103 hz103 VD vl
                    refine wpl_conv2 rfl 9 35 (.tmp 93) rfl _ _ _ rfl hr103 ?_
                    have b103 := b102.trans (hb103.mono lz103)
                    have rk103 := rk102.below hz103 hb103
                    refine ⟨b103, ?_⟩
                    change anyI _ _ _ _ _ _ _ _ _
                    try simp only [pA]
                    refine anyI_part [8] _ _ _ _ (by kernel_rfl) ?_
                    simp only [List.filterMap_cons, List.filterMap_nil, List.getElem?_toArray, List.getElem?_cons_succ, List.getElem?_cons_zero]
                    change wpList _ _ _ [_] _ _
                    refine wpl_pure rfl (v := .slice (some ⟨z101, 0, none⟩) kl cap101) (by intro w; first | rfl | (go_simp; first | done | with_reducible rfl)) ?_
                    refine ⟨b103, ?_⟩
                    change anyI _ _ _ _ _ _ _ _ _
                    try simp only [pA]
                    refine anyI_part [9] _ _ _ _ (by kernel_rfl) ?_
                    simp only [List.filterMap_cons, List.filterMap_nil, List.getElem?_toArray, List.getElem?_cons_succ, List.getElem?_cons_zero]
                    change wpList _ _ _ [_] _ _
                    refine wpl_pure rfl (v := .slice (some ⟨z103, 0, none⟩) vl cap103) (by intro w; first | rfl | (go_simp; first | done | with_reducible rfl)) ?_
                    refine ⟨b103, ?_⟩
                    change anyI _ _ _ _ _ _ _ _ _
                    try simp only [pA]
                    refine anyI_done (by kernel_rfl) ?_
                    try simp only [pA]
                    go_wp2_with fail
                    go_meet
                    exact ⟨_, _, _, KD, _, _, _, VD, rfl, rfl, rk103, ra103.ats, b103⟩
                  · simp only [List.filterMap_cons, List.filterMap_nil, List.getElem?_toArray, List.getElem?_cons_succ, List.getElem?_cons_zero]
                    change wpList _ _ _ [_] _ _
                    refine wpl_pure rfl (v := .slice (some ⟨z101, 0, none⟩) kl cap101) (by intro w; first | rfl | (go_simp; first | done | with_reducible rfl)) ?_
                    refine ⟨b102, ?_⟩
                    change anyI _ _ _ _ _ _ _ _ _
                    try simp only [pA]
                    refine anyI_part [7] _ _ _ _ (by kernel_rfl) ?_
                    simp only [List.filterMap_cons, List.filterMap_nil, List.getElem?_toArray, List.getElem?_cons_succ, List.getElem?_cons_zero]
                    change wpList _ _ _ [_] _ _
                    obtain ⟨z107, hz107⟩ := sz_some y102
                    have lz107 : M + 1 ≤ z107 := below_sz b102 V2 hz107
                    obtain ⟨cap107, w107, hr107, hS107, hb107, ra107⟩ := run_raw (P := Tryd.prog) 9 35 undBS undBB undBy y102 z107 hz107 VD vl
                    refine wpl_conv2 rfl 9 35 (.tmp 93) rfl _ _ _ rfl hr107 ?_
                    have b107 := b102.trans (hb107.mono lz107)
                    have rk107 := rk102.below hz107 hb107
                    refine ⟨b107, ?_⟩
                    change anyI _ _ _ _ _ _ _ _ _
                    try simp only [pA]
                    refine anyI_part [9] _ _ _ _ (by kernel_rfl) ?_
                    simp only [List.filterMap_cons, List.filterMap_nil, List.getElem?_toArray, List.getElem?_cons_succ, List.getElem?_cons_zero]
                    change wpList _ _ _ [_] _ _
                    refine wpl_pure rfl (v := .slice (some ⟨z107, 0, none⟩) vl cap107) (by intro w; first | rfl | (go_simp; first | done | with_reducible rfl)) ?_
                    refine ⟨b107, ?_⟩
                    change anyI _ _ _ _ _ _ _ _ _
                    try simp only [pA]
                    refine anyI_done (by kernel_rfl) ?_
                    try simp only [pA]
                    go_wp2_with fail
                    go_meet
                    exact ⟨_, _, _, KD, _, _, _, VD, rfl, rfl, rk107, ra107.ats, b107⟩
                · simp only [List.filterMap_cons, List.filterMap_nil, List.getElem?_toArray, List.getElem?_cons_succ, List.getElem?_cons_zero]
                  change wpList _ _ _ [_] _ _
                  obtain ⟨z109, hz109⟩ := sz_some y1
                  have lz109 : M + 1 ≤ z109 := below_sz g1 V2 hz109
                  go_wp2_with fail
                  refine (val_any av.what av.kq av.kn av.kc av.vq av.vn av.vc av.fl av.raw _ _ _ val hr16.2 HO2.vc av.VD y1 z109 hz109 (HO2.v.below V2 g1)).mono ?_
                  rintro e y109 ⟨⟨VD, vl, hvl, rfl⟩, f109⟩
                  dsimp only
                  go_step
                  have b109 := g1.trans (f109.mono lz109)
                  refine ⟨b109, ?_⟩
                  change anyI _ _ _ _ _ _ _ _ _
                  try simp only [pA]
                  refine anyI_two 3 7 _ _ _ _ (by kernel_rfl) ?_ ?_
                  · simp only [List.filterMap_cons, List.filterMap_nil, List.getElem?_toArray, List.getElem?_cons_succ, List.getElem?_cons_zero]
                    change wpList _ _ _ [_] _ _
                    obtain ⟨z110, hz110⟩ := sz_some y109
                    have lz110 : M + 1 ≤ z110 := below_sz b109 V2 hz110
                    obtain ⟨cap110, w110, hr110, hS110, hb110, ra110⟩ := run_raw (P := Tryd.prog) 9 35 undBS undBB undBy y109 z110 hz110 KD kl
                    refine wpl_conv2 rfl 9 35 (.tmp 89) rfl _ _ _ rfl hr110 ?_
                    have b110 := b109.trans (hb110.mono lz110)
                    refine ⟨b110, ?_⟩
                    change anyI _ _ _ _ _ _ _ _ _
                    try simp only [pA]
                    refine anyI_two 7 8 _ _ _ _ (by kernel_rfl) ?_ ?_
                    · simp only [List.filterMap_cons, List.filterMap_nil, List.getElem?_toArray, List.getElem?_cons_succ, List.getElem?_cons_zero]
                      change wpList _ _ _ [_] _ _
                      obtain ⟨z111, hz111⟩ := sz_some w110
                      have lz111 : M + 1 ≤ z111 := below_sz b110 V2 hz111
                      obtain ⟨cap111, w111, hr111, hS111, hb111, ra111⟩ := run_raw (P := Tryd.prog) 9 35 undBS undBB undBy w110 z111 hz111 VD vl
                      refine wpl_conv2 rfl 9 35 (.tmp 93) rfl _ _ _ rfl hr111 ?_
                      have b111 := b110.trans (hb111.mono lz111)
                      have rk111 := ra110.ats.below hz111 hb111
                      refine ⟨b111, ?_⟩
                      change anyI _ _ _ _ _ _ _ _ _
                      try simp only [pA]
                      refine anyI_part [8] _ _ _ _ (by kernel_rfl) ?_
                      simp only [List.filterMap_cons, List.filterMap_nil, List.getElem?_toArray, List.getElem?_cons_succ, List.getElem?_cons_zero]
                      change wpList _ _ _ [_] _ _
                      refine wpl_pure rfl (v := .slice (some ⟨z110, 0, none⟩) kl cap110) (by intro w; first | rfl | (go_simp; first | done | with_reducible rfl)) ?_
                      refine ⟨b111, ?_⟩
                      change anyI _ _ _ _ _ _ _ _ _
                      try simp only [pA]
                      refine anyI_part [9] _ _ _ _ (by kernel_rfl) ?_
                      simp only [List.filterMap_cons, List.filterMap_nil, List.getElem?_toArray, List.getElem?_cons_succ, List.getElem?_cons_zero]
                      change wpList _ _ _ [_] _ _
                      refine wpl_pure rfl (v := .slice (some ⟨z111, 0, none⟩) vl cap111) (by intro w; first | rfl | (go_simp; first | done | with_reducible rfl)) ?_
                      refine ⟨b111, ?_⟩
                      change anyI _ _ _ _ _ _ _ _ _
                      try simp only [pA]
                      refine anyI_done (by kernel_rfl) ?_
                      try simp only [pA]
                      go_wp2_with fail
                      go_meet
                      exact ⟨_, _, _, KD, _, _, _, VD, rfl, rfl, rk111, ra111.ats, b111⟩
                    · simp only [List.filterMap_cons, List.filterMap_nil, List.getElem?_toArray, List.getElem?_cons_succ, List.getElem?_cons_zero]
                      change wpList _ _ _ [_] _ _
                      refine wpl_pure rfl (v := .slice (some ⟨z110, 0, none⟩) kl cap110) (by intro w; first | rfl | (go_simp; first | done | with_reducible rfl)) ?_
                      refine ⟨b110, ?_⟩
                      change anyI _ _ _ _ _ _ _ _ _
                      try simp only [pA]
                      refine anyI_part [7] _ _ _ _ (by kernel_rfl) ?_
                      simp only [List.filterMap_cons, List.filterMap_nil, List.getElem?_toArray, List.getElem?_cons_succ, List.getElem?_cons_zero]
                      change wpList _ _ _ [_] _ _
                      obtain ⟨z115, hz115⟩ := sz_some w110
                      have lz115 : M + 1 ≤ z115 := below_sz b110 V2 hz115
                      obtain ⟨cap115, w115, hr115, hS115, hb115, ra115⟩ := run_raw (P := Tryd.prog) 9 35 undBS undBB undBy w110 z115 hz115 VD vl
                      refine wpl_conv2 rfl 9 35 (.tmp 93) rfl _ _ _ rfl hr115 ?_
                      have b115 := b110.trans (hb115.mono lz115)
                      have rk115 := ra110.ats.below hz115 hb115
                      refine ⟨b115, ?_⟩
                      change anyI _ _ _ _ _ _ _ _ _
                      try simp only [pA]
                      refine anyI_part [9] _ _ _ _ (by kernel_rfl) ?_
                      simp only [List.filterMap_cons, List.filterMap_nil, List.getElem?_toArray, List.getElem?_cons_succ, List.getElem?_cons_zero]
                      change wpList _ _ _ [_] _ _
                      refine wpl_pure rfl (v := .slice (some ⟨z115, 0, none⟩) vl cap115) (by intro w; first | rfl | (go_simp; first | done | with_reducible rfl)) ?_
                      refine ⟨b115, ?_⟩
                      change anyI _ _ _ _ _ _ _ _ _
                      try simp only [pA]
                      refine anyI_done (by kernel_rfl) ?_
                      try simp only [pA]
                      go_wp2_with fail
                      go_meet
                      exact ⟨_, _, _, KD, _, _, _, VD, rfl, rfl, rk115, ra115.ats, b115⟩
                  · simp only [List.filterMap_cons, List.filterMap_nil, List.getElem?_toArray, List.getElem?_cons_succ, List.getElem?_cons_zero]
                    change wpList _ _ _ [_] _ _
                    obtain ⟨z117, hz117⟩ := sz_some y109
                    have lz117 : M + 1 ≤ z117 := below_sz b109 V2 hz117
                    obtain ⟨cap117, w117, hr117, hS117, hb117, ra117⟩ := run_raw (P := Tryd.prog) 9 35 undBS undBB undBy y109 z117 hz117 VD vl
                    refine wpl_conv2 rfl 9 35 (.tmp 93) rfl _ _ _ rfl hr117 ?_
                    have b117 := b109.trans (hb117.mono lz117)
                    refine ⟨b117, ?_⟩
                    change anyI _ _ _ _ _ _ _ _ _
                    try simp only [pA]
                    refine anyI_part [3] _ _ _ _ (by kernel_rfl) ?_
                    simp only [List.filterMap_cons, List.filterMap_nil, List.getElem?_toArray, List.getElem?_cons_succ, List.getElem?_cons_zero]
                    change wpList _ _ _ [_] _ _
                    obtain ⟨z118, hz118⟩ := sz_some w117
                    have lz118 : M + 1 ≤ z118 := below_sz b117 V2 hz118
                    obtain ⟨cap118, w118, hr118, hS118, hb118, ra118⟩ := run_raw (P := Tryd.prog) 9 35 undBS undBB undBy w117 z118 hz118 KD kl
                    refine wpl_conv2 rfl 9 35 (.tmp 89) rfl _ _ _ rfl hr118 ?_
                    have b118 := b117.trans (hb118.mono lz118)
                    have rv118 := ra117.ats.below hz118 hb118
                    refine ⟨b118, ?_⟩
                    change anyI _ _ _ _ _ _ _ _ _
                    try simp only [pA]
                    refine anyI_part [8] _ _ _ _ (by kernel_rfl) ?_
                    simp only [List.filterMap_cons, List.filterMap_nil, List.getElem?_toArray, List.getElem?_cons_succ, List.getElem?_cons_zero]
                    change wpList _ _ _ [_] _ _
                    refine wpl_pure rfl (v := .slice (some ⟨z118, 0, none⟩) kl cap118) (by intro w; first | rfl | (go_simp; first | done | with_reducible rfl)) ?_
                    refine ⟨b118, ?_⟩
                    change anyI _ _ _ _ _ _ _ _ _
                    try simp only [pA]
                    refine anyI_part [9] _ _ _ _ (by kernel_rfl) ?_
                    simp only [List.filterMap_cons, List.filterMap_nil, List.getElem?_toArray, List.getElem?_cons_succ, List.getElem?_cons_zero]
                    change wpList _ _ _ [_] _ _
                    refine wpl_pure rfl (v := .slice (some ⟨z117, 0, none⟩) vl cap117) (by intro w; first | rfl | (go_simp; first | done | with_reducible rfl)) ?_
                    refine ⟨b118, ?_⟩
                    change anyI _ _ _ _ _ _ _ _ _
                    try simp only [pA]
                    refine anyI_done (by kernel_rfl) ?_
                    try simp only [pA]
                    go_wp2_with fail
                    go_meet
                    exact ⟨_, _, _, KD, _, _, _, VD, rfl, rfl, ra118.ats, rv118, b118⟩
              case rest =>
                obtain ⟨qk, kl, ck, KD, qv, vl, cv, VD, rfl, rfl, rk, rv, bx⟩ := hcut
                have T3 := T2.below V2 bx
                have j3 := j2.below bx (by omega)
                have HF := HO2.fl
                clear HO2 j2 T2
                obtain ⟨M3, hM3⟩ := sz_some wc
                have L3 := below_sz bx V2 hM3
                have HL := Look_any m9 T3.I KD kl qk ck wc M3 hM3 T3.A rk
                rw [T3.sm, sm8] at HL
                have HLH := hid HL
                clear HL
                go_wp2_with fail
                refine HLH.out.mono ?_
                rintro e w4 ⟨m4, hl, X⟩
                have hv : ∃ v, e = .returned v := by rcases hl with ⟨z, _, rfl, _⟩ | ⟨k, D, _, _, Mv, _, rfl, _⟩ <;> exact ⟨_, rfl⟩
                have hs4 : sumF m4 = SD := by
                  rcases hl with ⟨_, _, _, rfl⟩ | ⟨k, D, hk, hu, _⟩
                  · exact hs9
                  · exact (sumF_use T3.I hk hu).trans hs9
                have hf4 : m4.fz = true := X.sm.2.2.2.2.2.trans hf9
                obtain ⟨v, rfl⟩ := hv
                have T4 := T3.nx hM3 (fun x hx => .inr (.inr (by omega))) X
                obtain ⟨M4, hM4⟩ := sz_some w4
                have LM4 := T4.le M10 hM4
                have j4 : Has w4 M 38 5 (avC av) := j3.turn X.turn hnf
                clear hl T3 X hs9 hf9 HLH rk rv bx j3
                have HK := Peek_any m4 T4.I.sp w4 M4 hM4 T4.A
                have eb4 : m4.b = m.b := T4.sm.trans sm8
                rw [eb4] at HK
                have HKH := hid HK
                clear HK
                go_wp2_with fail
                refine HKH.out.mono ?_
                rintro e w5 ⟨hp, b5⟩
                have hv : ∃ v, e = .returned v := by rcases hp with ⟨z, _, rfl⟩ | ⟨D, Mv, _, rfl, _⟩ <;> exact ⟨_, rfl⟩
                obtain ⟨v5, rfl⟩ := hv
                have T5 := T4.below hM4 b5
                have j5 := j4.below b5 (j4.ltN hM4)
                obtain ⟨M5, hM5⟩ := sz_some w5
                have L5 := T5.le M10 hM5
                clear hp HKH T4 j4 b5 hM4 LM4
                have EB4 := hid eb4
                have HO4 := hid (FzO hf4 eb4 w5 T5.A)
                clear eb4
                go_wp2_with fail
                refine HO4.out.mono ?_
                rintro e w6 ⟨rfl, ew6⟩
                have ew7 := ew6.symm
                clear ew6
                subst ew7
                have hB5 := T5.bel hP (by have e : w10.heap.size = M8 + 1 := M10; omega)
                have BN5 := B10.trans (hB5.mono (Nat.le_succ N))
                have js5 := j10.turn T5.t hP8
                clear hB5
                go_upto_region 22 with fail
                refine wp_region_later M5 (by kernel_rfl) (by kernel_rfl) ?_
                go_big_quiet_step (fail)
                go_big_quiet_step (fail)
                go_big_quiet_step (fail)
                go_big_quiet_step (fail)
                refine later_val (v := .int .u64 av.fl) (fun q => run_cell1 (x := .tmp 108) 36 rfl rfl undU64t rfl (Later.cell hM5 (j5.cell (j := 3) (by omega)) q)) (by rfl) ?_; try simp only [pA]
                go_big_quiet_step ((go_at_call 19; exact later_of_same _ (FzU hf4 EB4.out _ (T5.A.below hM5 (Later.b _)) _ _ _)))
                go_big_quiet_step (fail)
                go_big_quiet_step (fail)
                go_big_quiet_step (fail)
                go_big_quiet_step (fail)
                go_big_quiet_step ((go_at_call 20; exact later_of_same _ (FzD hf4 EB4.out _ (T5.A.below hM5 (Later.b _)) _)))
                go_big_quiet_step (fail)
                go_big_quiet_step (fail)
                go_big_quiet_step (fail)
                go_big_quiet_step (fail)
                go_big_quiet_step (fail)
                go_big_quiet_step (fail)
                refine later_val (v := .int .u64 av.fl) (fun q => run_cell1 (x := .tmp 121) 36 rfl rfl undU64t rfl (Later.cell hM5 (j5.cell (j := 3) (by omega)) q)) (by rfl) ?_; try simp only [pA]
                go_big_quiet_step ((go_at_call 21; exact later_of_same _ (FzP hf4 EB4.out _ (T5.A.below hM5 (Later.b _)) _ _)))
                go_big_quiet_step (fail)
                go_big_quiet_step (fail)
                go_big_quiet_step (fail)
                go_big_quiet_step (fail)
                go_big_quiet_step (fail)
                go_big_quiet_step (fail)
                go_big_quiet_step (fail)
                go_big_quiet_step (fail)
                go_big_quiet_step ((go_at_call 12; exact later_of_same _ (FzF hf4 EB4.out _ (T5.A.below hM5 (Later.b _)))))
                go_big_quiet_step (fail)
                go_big_quiet_step (fail)
                go_big_quiet_step (fail)
                go_big_quiet_step (fail)
                go_big_quiet_step ((go_at_call 11; exact later_of hM5 _ (fun K hK hKN => FzS T5.I hs4 EB4.out _ K hK (T5.A.below hM5 (Later.b _)) (hTab.below (BN5.trans ((Later.b _).mono (by omega))) (hTab.ltN hN)))))
                refine later_val (v := .agg (cellsOf (fun j => By (SD j)) 32)) (fun q => run_ld 40 (.tmp 12) rfl M8 rfl 40 32 _ (js5.below q.b (by omega)) _ UW1.out UW2.out szSum) (by rfl) ?_; try simp only [pA]
                refine later_val (v := .bool false) (fun q => run_neq_op' 40 40 (.tmp 137) (.tmp 138) rfl _ _ rfl rfl true (by kernel_rfl) (eqSum SD _)) (by rfl) ?_; try simp only [pA]
                go_big_quiet_step (fail)
                refine wpQuiet_nil ?_
                rintro w7 ⟨x7, e7⟩
                have b7 := x7.b
                rw [← e7] at b7
                clear e7 x7
                have T7 := T5.below hM5 b7
                go_wp2_with (first
                  | ((with_reducible show wpList _ _ _ (_ :: _) _ _); first
                    | (refine wpl_run rfl (.int .i64 ((i + 1 : Nat) : Int)) _ (run_inc (x := .tmp 81) rfl rfl rfl rfl (by omega) _) ?_; try simp only [pA]))
                  | fail)
                exact ⟨⟨i + 1, m4, rfl, by omega, T7, hf4, hs4⟩, by simp [intOf]; omega⟩
            · have E2 := hid (show decide ((i : Int) < 20) = false from decide_eq_false (by omega))
              go_upto_region 24 with (first
                | ((with_reducible show wpList _ _ _ (_ :: _) _ _); first
                  | (refine wpl_run rfl (.int .i64 (n2 : Int)) _ (run_lenL (x := .tmp 74) rfl undActs rfl _) ?_; try simp only [pA])
                  | (refine wpl_run rfl (.bool true) _ (run_lssK (x := .tmp 73) rfl rfl rfl E1.out _) ?_; try simp only [pA])
                  | (refine wpl_want (by rfl) ?_; refine wpl_run rfl (.bool false) _ (run_lssK (x := .tmp 78) rfl rfl rfl E2.out _) ?_; try simp only [pA]))
                | fail)
              have EB := hid (T.sm.trans sm8)
              refine wp_region_later M (by kernel_rfl) (by kernel_rfl) ?_
              go_big_quiet_step (fail)
              go_big_quiet_step ((go_at_call 11; exact later_of hM _ (fun K hK hKN => FzS T.I hs9 EB.out _ K hK (T.A.below hM (Later.b _)) (hTab.below (BN.trans ((Later.b _).mono (by omega))) (hTab.ltN hN)))))
              refine later_val (v := .agg (cellsOf (fun j => By (SD j)) 32)) (fun q => run_ld 40 (.tmp 12) rfl M8 rfl 40 32 _ (js.below q.b (by omega)) _ UW1.out UW2.out szSum) (by rfl) ?_; try simp only [pA]
              refine later_val (v := .bool true) (fun q => run_eql_op 40 40 (.tmp 142) (.tmp 143) rfl _ _ rfl rfl true (by kernel_rfl) (eqSum SD _)) (by rfl) ?_; try simp only [pA]
              go_big_quiet_step (fail)
              refine wpQuiet_nil ?_
              rintro w7 ⟨x7, e7⟩
              have b7 := x7.b
              rw [← e7] at b7
              clear e7 x7
              go_wp2_with fail
              go_ret
              exact ⟨rfl, BN.trans (b7.mono (by omega))⟩
          · have E1 := hid (show decide ((i : Int) < (n2 : Int)) = false from decide_eq_false (by omega))
            go_upto_region 24 with (first
              | ((with_reducible show wpList _ _ _ (_ :: _) _ _); first
                | (refine wpl_run rfl (.int .i64 (n2 : Int)) _ (run_lenL (x := .tmp 74) rfl undActs rfl _) ?_; try simp only [pA])
                | (refine wpl_run rfl (.bool false) _ (run_lssK (x := .tmp 73) rfl rfl rfl E1.out _) ?_; try simp only [pA]))
              | fail)
            have EB := hid (T.sm.trans sm8)
            refine wp_region_later M (by kernel_rfl) (by kernel_rfl) ?_
            go_big_quiet_step (fail)
            go_big_quiet_step ((go_at_call 11; exact later_of hM _ (fun K hK hKN => FzS T.I hs9 EB.out _ K hK (T.A.below hM (Later.b _)) (hTab.below (BN.trans ((Later.b _).mono (by omega))) (hTab.ltN hN)))))
            refine later_val (v := .agg (cellsOf (fun j => By (SD j)) 32)) (fun q => run_ld 40 (.tmp 12) rfl M8 rfl 40 32 _ (js.below q.b (by omega)) _ UW1.out UW2.out szSum) (by rfl) ?_; try simp only [pA]
            refine later_val (v := .bool true) (fun q => run_eql_op 40 40 (.tmp 142) (.tmp 143) rfl _ _ rfl rfl true (by kernel_rfl) (eqSum SD _)) (by rfl) ?_; try simp only [pA]
            go_big_quiet_step (fail)
            refine wpQuiet_nil ?_
            rintro w7 ⟨x7, e7⟩
            have b7 := x7.b
            rw [← e7] at b7
            clear e7 x7
            go_wp2_with fail
            go_ret
            exact ⟨rfl, BN.trans (b7.mono (by omega))⟩
end Go.Proofs.YtjdclgnlnehjlaaDoor
