/- TokenDerives: the walk (written by mk_td.py). -/
import Derived.Test.YtilhkgbninbkkaaDoorTk17
namespace Go.Proofs.YtilhkgbninbkkaaDoor
open Go Go.RowKit
set_option maxRecDepth 100000 in
set_option maxHeartbeats 64000000 in
theorem law_tderives (q : Option Addr) (n cap : Nat) (Z : Nat → Int) (q2 : Option Addr) (n2 cap2 : Nat) (SA : Nat → Int) (SR : Nat → Rg) (w : World) (N : Nat) (hN : Sz w N) (hn : n ≤ 9223372036854775807) (hZ : Ats w q n (fun j => .int .i64 (Z j)))
    (hn2 : n2 ≤ 9223372036854775807) (hS : Stp w q2 n2 SA SR) (hH : Hp w) (zn zh : Int) :
    Calls Tryd.prog 9 #[.agg (cellsOf (csC q n cap q2 n2 cap2) 2), .int .i64 zn, .int .i32 zh] w fun e w' => e = .returned (.bool true) ∧ Below N w w' := by
  obtain ⟨n1, hn1⟩ : ∃ n1, n1 = min n 10 := ⟨_, rfl⟩
  have Hn1 := hid hn1
  have b1 : n1 ≤ 10 := by omega
  have b2 : n1 ≤ n := by omega
  clear hn1
  go_enter Tryd.func9, Tryd.ntmps9
  go_upto_region 3 with (first
    | (refine wpl_box rfl 54 (.tmp 0) rfl 2 _ rfl N hN ?_; intro w0 hN0 hb0 hC)
    | (refine wpl_build rfl 26 _ rfl (cellsOf (rgC rgNone) 6) (by kernel_rfl) ?_)
    | (go_at_call 27; refine (Root_nil 0 rgNone _ (N + 1) hN0).mono ?_; rintro e w1 ⟨rfl, b1⟩; obtain ⟨M1, hM1⟩ := sz_some w1; have l1 := below_sz b1 hN0 hM1)
    | (go_at_call 29; refine (New_any _ M1 hM1).mono ?_; rintro e w2 ⟨rfl, b2, T2, hM2⟩)
    | (go_at_call 28; refine (Derive_nil _ 0 rgNone _ (M1 + 1) hM2).mono ?_; rintro e w3 ⟨b3, h3⟩; rw [if_neg (by decide)] at h3; subst h3)
    | fail)
  have b3' := b1.trans ((b2.trans (b3.mono (show M1 ≤ M1 + 1 by omega))).mono l1)
  have C3 := hC.below b3' (by omega)
  have lo3 := hb0.trans (b3'.mono (show N ≤ N + 1 by omega))
  have H3 := hH.below hN lo3
  obtain ⟨M3, hM3⟩ := sz_some w3
  have l3 := below_sz lo3 hN hM3
  clear b1 b2 b3 T2 hM2 hM1 l1 b3' hC
  have E1 : hasE (rOf []).c 0 = 1 := by decide
  have E2 : hasE (rOf []).p 0 = 1 := by decide
  have E3 : hasE (rOf []).m 0 = 1 := by decide
  have E4 : helpE (rOf []) 1 = 1 := by decide
  have K1 := fun w N hN => Command_any [] 0 w N hN trivial
  have K2 := fun w N hN => Program_any [] 0 w N hN trivial
  have K3 := fun w N hN => Map_any [] 0 w N hN trivial
  have K4 := fun w N hN hH => Helper_any [] 1 w N hN hH trivial
  rw [E1] at K1
  rw [E2] at K2
  rw [E3] at K3
  rw [E4] at K4
  simp only [ptrOf] at K1 K2 K3 K4
  clear E1 E2 E3 E4
  go_upto_region 5 with (first
    | (go_at_call 30; refine (derives_any _ M3 hM3 H3).mono ?_; rintro e w4 ⟨rfl, b4⟩; obtain ⟨M4, hM4⟩ := sz_some w4; have l4 := below_sz b4 hM3 hM4)
    | (go_at_call 31; refine (Chain_nil _ M4).mono ?_; rintro e w5 ⟨rfl, b5⟩; have b5' := b4.trans (b5.mono l4); obtain ⟨M5, hM5⟩ := sz_some w5; have l5 := below_sz b5' hM3 hM5)
    | (go_at_call 29; refine (New_any _ M5 hM5).mono ?_; rintro e w6 ⟨rfl, b6, T6, hM6⟩; have b6' := b5'.trans (b6.mono l5))
    | (go_at_call 32; refine (Sound_nil _ _ (M5 + 1)).mono ?_; rintro e w7 ⟨rfl, b7⟩; have b7' := b6'.trans (b7.mono (show M3 ≤ M5 + 1 by omega)); obtain ⟨M7, hM7⟩ := sz_some w7; have l7 := below_sz b7' hM3 hM7)
    | (go_at_call 33; refine (K1 _ M7 hM7).mono ?_; rintro e w8 ⟨rfl, b8⟩; have b8' := b7'.trans (b8.mono l7); obtain ⟨M8, hM8⟩ := sz_some w8; have l8 := below_sz b8' hM3 hM8)
    | (go_at_call 34; refine (K2 _ M8 hM8).mono ?_; rintro e w9 ⟨rfl, b9⟩; have b9' := b8'.trans (b9.mono l8); obtain ⟨M9, hM9⟩ := sz_some w9; have l9 := below_sz b9' hM3 hM9)
    | (go_at_call 35; refine (K3 _ M9 hM9).mono ?_; rintro e w10 ⟨rfl, b10⟩; have b10' := b9'.trans (b10.mono l9); obtain ⟨M10, hM10⟩ := sz_some w10; have l10 := below_sz b10' hM3 hM10)
    | (go_at_call 36; refine (K4 _ M10 hM10 (H3.below hM3 b10')).mono ?_; rintro e w11 ⟨rfl, b11⟩; have b11' := b10'.trans (b11.mono l10))
    | fail)
  have C11 := C3.below b11' (C3.ltN hM3)
  have lo11 := lo3.trans (b11'.mono l3)
  obtain ⟨M11, hM11⟩ := sz_some w11
  have l11 := below_sz lo11 hN hM11
  have lc := C11.ltN hM11
  clear K1 K2 K3 K4 C3 lo3 H3 hM3 l3 b4 b5 b5' b6 b6' b7 b7' b8 b8' b9 b9' b10 b10' b11 b11' T6 hM4 hM5 hM6 hM7 hM8 hM9 hM10 l4 l5 l7 l8 l9 l10
  go_wp2_with (first
    | (go_at_call 29; refine (New_any _ M11 hM11).mono ?_; rintro e w12 ⟨rfl, hb1, T1, hN1⟩)
    | (go_at_call 37; refine (RNew_any _ (M11 + 1) hN1).mono ?_; rintro e w13 ⟨p, cp, rfl, hb2, R2, hp, hN2⟩)
    | fail)
  have C2 := (C11.below hb1 lc).below hb2 (by omega)
  have S0 : Both w11 w13 M11 M11 1 (fun _ => 0) (M11 + 1 + 1) p cp := ⟨T1.below hN1 hb2, R2, by omega, fun e => by have := hp M11 e; omega, by omega, by omega, fun k hk => by have := hp k hk; omega, hb1.trans (hb2.mono (by omega))⟩
  have H0 := hid (And.intro S0 C2)
  have lo0 := hid lo11
  have hZ0 := hZ.below hN lo11
  clear S0 T1 R2 hb1 hb2 hp hN1 hN2 C2 C11 lo11 hZ
  go_loopg [13] n1 (fun g i wr => ∃ (k c : Nat) (f : Nat → Nat) (p : Option Addr) (cp : Nat), k ≤ n1 ∧ g = n1 - k ∧ i = .int .i64 k ∧ Both w11 wr M11 M11 c f (M11 + 1 + 1) p cp ∧ Has wr N 54 2 (csC q n cap q2 n2 cap2))
  case atStart => exact ⟨0, 1, _, p, cp, by omega, rfl, rfl, H0.out.1, H0.out.2⟩
  case round =>
    clear H0
    obtain ⟨k, c, f, p, cp, hk, rfl, rfl, B, hC⟩ := hrel
    obtain ⟨M, hM⟩ := sz_some wr
    have hNM := below_sz B.bel hM11 hM
    have k0 : (0 : Int) ≤ (k : Int) := by omega
    have k20 : (k : Int) ≤ 10 := by omega
    have cq : wr.cell? ⟨N, 0, none⟩ = some (.slice q n cap) := hC.cell (j := 0) (by omega)
    by_cases hlt : k < n1
    · have i1 : (k : Int) < (n : Int) := by omega
      have i2 : (k : Int) < 10 := by omega
      obtain ⟨rb, ro, rfl, hrc⟩ := hZ0 (by omega)
      have hrb : rb < M11 := by have := World.block_lt_of_cell? w11 _ (hrc k (by omega)); have e : w11.heap.size = M11 := hM11; simp only at this ⊢; omega
      have d1 : wr.cell? ⟨rb, ro + k, none⟩ = some (.int .i64 (Z k)) := (B.bel.cell (p := ⟨rb, ro + k, none⟩) hrb).trans (hrc k (by omega))
      have D1 : Hid (w11.cell? ⟨rb, ro + k, none⟩ = some (.int .i64 (Z k))) := hid (hrc k (by omega))
      clear hrc
      obtain ⟨z, hz⟩ : ∃ z, z = Z k := ⟨_, rfl⟩
      rw [← hz] at d1 D1
      clear hz
      by_cases he : makeErr f c z = 0
      · obtain ⟨u, rfl, hu, h4, h8⟩ := makeErr_zero he
        have hu0 : (0 : Int) ≤ (u : Int) := by omega
        clear he
        go_wp2_with (first
          | (go_at_call 38
             refine (Make_ok M11 c f u hu h4 h8 _ M hM B.t).mono ?_
             rintro e w3 ⟨rfl, t3, T3⟩
             obtain ⟨M3, hM3⟩ := sz_some w3
             have l3 := sz_turn t3 hM hM3
             have R3 := B.r.turn t3 (fun e => B.ne e.symm) (fun k hk e => B.np (by rw [hk, e]))
             have b3 : Below M11 w11 w3 := t3.below B.bel (fun j h => by omega) (by rw [show wr.heap.size = M from hM]; omega)
             have hC3 := hC.turn t3 (by omega)
             have cq3 : w3.cell? ⟨N, 0, none⟩ = some (.slice (some ⟨rb, ro, none⟩) n cap) := hC3.cell (j := 0) (by omega)
             have d3 : w3.cell? ⟨rb, ro + k, none⟩ = some (.int .i64 (u : Int)) := (b3.cell (p := ⟨rb, ro + k, none⟩) hrb).trans D1.out)
          | (go_at_call 39; refine (DocMake_ok (M11 + 1 + 1) c cp p f u hu h4 h8 _ M3 hM3 R3).mono ?_; rintro e w4 ⟨rfl, t4, p4, cp4, R4, hp4⟩)
          | fail)
        have T4 := T3.turn t4 (fun h => by
          rcases h with h | h
          · omega
          · exact B.np h)
        have b4 : Below M11 w11 w4 := t4.below b3 (fun j h => by
          rcases h with h | h
          · omega
          · exact B.lp j h) (by rw [show w3.heap.size = M3 from hM3]; omega)
        have hC4 := hC3.turn t4 (fun h => by
          rcases h with h | h
          · omega
          · have := B.lp N h; omega)
        go_roundg (n1 - (k + 1))
        case measure => omega
        case rel => exact ⟨k + 1, c + 1, addU f c u, p4, cp4, by omega, rfl, by go_num, ⟨T4, R4, by omega, fun e => by
            rcases hp4 with hp4 | hp4
            · rw [hp4] at e; exact B.np e
            · have := hp4 M11 e
              have := B.t.h.ltN hM
              omega, by omega, by omega, fun j hj => by
            rcases hp4 with hp4 | hp4
            · rw [hp4] at hj; exact B.lp j hj
            · have := hp4 j hj; omega, b4⟩, hC4⟩
      · have hu0 := hid he
        clear he
        obtain ⟨er, her⟩ : ∃ er, er = makeErr f c z := ⟨_, rfl⟩
        have C1 := fun w hM hT => Make_no M11 c f z hu0.out w M hM hT
        have C2 := fun w M hM hT => DocMake_no (M11 + 1 + 1) c cp p f z hu0.out w M hM hT
        rw [← her] at C1 C2
        clear her hu0
        go_wp2_with (first
          | (go_at_call 38
             refine (C1 _ hM B.t).mono ?_
             rintro e w3 ⟨rfl, b3⟩
             have B3 := B.below hM hNM b3
             obtain ⟨M3, hM3⟩ := sz_some w3
             have l3 := below_sz b3 hM hM3
             have d3 : w3.cell? ⟨rb, ro + k, none⟩ = some (.int .i64 z) := (B3.bel.cell (p := ⟨rb, ro + k, none⟩) hrb).trans D1.out
             have hC3 := hC.below b3 (hC.ltN hM)
             have cq3 : w3.cell? ⟨N, 0, none⟩ = some (.slice (some ⟨rb, ro, none⟩) n cap) := hC3.cell (j := 0) (by omega))
          | (go_at_call 39; refine (C2 _ M3 hM3 B3.r).mono ?_; rintro e w4 ⟨rfl, b4⟩; have B4 := B3.below hM3 (by omega) b4)
          | fail)
        have hC4 := hC3.below b4 (hC3.ltN hM3)
        go_roundg (n1 - (k + 1))
        case measure => omega
        case rel => exact ⟨k + 1, c, f, p, cp, by omega, rfl, by go_num, B4, hC4⟩
    · have hx := Hn1.out
      have i1 : ¬ ((k : Int) < (n : Int)) ∨ ((k : Int) < (n : Int) ∧ ¬ ((k : Int) < 10)) := by omega
      clear hx
      go_upto_region 7 with fail
      go_cut [82] (fun v wx => v = (Value.bool false) ∧ wx = wr)
      case first =>
        rcases i1 with i1 | ⟨i1, i2⟩
        all_goals (go_wp2_with fail; go_meet; exact ⟨rfl, rfl⟩)
      obtain ⟨rfl, ewc⟩ := hcut
      subst ewc
      obtain ⟨wK, rfl⟩ : ∃ x, x = wc := ⟨_, rfl⟩
      obtain ⟨K0, hK0⟩ := sz_some wK
      have lK := below_sz B.bel hM11 hK0
      go_wp2_with fail
      obtain ⟨n3, hn3⟩ : ∃ n3, n3 = min n2 9 := ⟨_, rfl⟩
      have Hn3 := hid hn3
      have g1 : n3 ≤ 9 := by omega
      have g2 : n3 ≤ n2 := by omega
      clear hn3
      have H1 := hid (And.intro B hC)
      clear cq hM hNM k0 k20 hlt hk B hC hZ0 Hn1 i1
      as_aux_lemma =>
        go_loopg [14, 15, 16] n3 (fun g x ch i wr => ∃ (k nc capc : Nat) (qc : Option Addr) (ts : List Tk) (CA : Nat → Int) (CR : Nat → Rg), k ≤ n3 ∧ g = n3 - k ∧ x = ptrOf ts ∧ ch = .slice qc nc capc ∧ i = .int .i64 (k : Int) ∧ ts.length = nc ∧ nc ≤ k ∧ Mt ts CA CR ∧ sndT f c ts = true ∧ OwnK wr 71 7 qc nc capc (fun j => stC (CA (j / 7)) (CR (j / 7)) (j % 7)) ∧ (∀ j, blk qc = some j → K0 ≤ j) ∧ (∀ u ∈ ts, blk qc ≠ some u.b) ∧ Tks wr ts ∧ Below K0 wK wr)
        case atStart => exact ⟨0, 0, 0, none, [], fun _ => 0, fun _ => rgNone, by omega, rfl, rfl, rfl, rfl, rfl, by omega, trivial, rfl, .inl ⟨rfl, rfl, rfl⟩, fun j hj => (by simp [blk] at hj), fun u hu => (by cases hu), trivial, Below.refl _ _⟩
        case round =>
          obtain ⟨k, nc, capc, qc, ts, CA, CR, hk, rfl, rfl, rfl, rfl, hlen, hnk, hMt, hsn, hOc, hqc, hqt, hU, bK⟩ := hrel
          obtain ⟨S, hM⟩ := sz_some wr
          have lKS := below_sz bK hK0 hM
          have B := H1.out.1.below hK0 lK bK
          have hC := H1.out.2.below bK (H1.out.2.ltN hK0)
          have hNM := below_sz B.bel hM11 hM
          have lo := lo0.out.trans (B.bel.mono l11)
          have k0 : (0 : Int) ≤ (k : Int) := by omega
          have cq2 : wr.cell? ⟨N, 1, none⟩ = some (.slice q2 n2 cap2) := hC.cell (j := 1) (by omega)
          by_cases hlt : k < n3
          · skip
            have i1 : (k : Int) < (n2 : Int) := by omega
            have i2 : (k : Int) < 9 := by omega
            obtain ⟨sb, so, rfl, hsc⟩ := hS (by omega)
            have hsb : sb < N := by have := World.block_lt_of_cell? w _ (hsc k (by omega) 0 (by omega)); have e : w.heap.size = N := hN; simp only at this ⊢; omega
            obtain ⟨a, ha⟩ : ∃ a, a = SA k := ⟨_, rfl⟩
            obtain ⟨r, hr⟩ : ∃ r, r = SR k := ⟨_, rfl⟩
            have d7 : ∀ i, i < 7 → wr.cell? ⟨sb, so + k * 7 + i, none⟩ = some (stC a r i) := fun i hi => by
              rw [lo.cell (p := ⟨sb, so + k * 7 + i, none⟩) hsb, ha, hr]
              exact hsc k (by omega) i hi
            have Hlt := hid hlt
            clear ha hr hlt hsc
            obtain ⟨dS, s1, s2⟩ := undStp
            obtain ⟨dF, v1, v2⟩ := undRF
            obtain ⟨E, eE⟩ : ∃ E, moreE f c nc CA CR a r = E := ⟨_, rfl⟩
            have HE := hid eE
            clear eE
            go_upto_region 19 with (first
              | (refine wpl_load_cells rfl 71 (.tmp 113) rfl sb (so + k * 7) rfl 7 (stC a r) d7 _ s1 s2 szStp ?_)
              | (refine wpl_alloc rfl 71 rfl 7 (stC 0 rgNone) zeStp S hM ?_; intro w5 hM5 b5 h5)
              | (refine wpl_store rfl 71 (.tmp 17) (.tmp 114) rfl S 7 (stC a r) rfl rfl 71 _ h5 szStp (fun j _ => stC_one a r j) ?_; intro w6 t6 h6)
              | fail)
            have b6 := t6.below b5 (Nat.le_refl S)
            have hM6 := t6.sz hM5
            have B6 := B.below hM hNM b6
            have U6 := hU.below hM b6
            have C6 := hC.below b6 (hC.ltN hM)
            have O6 := hOc.below b6 (Nat.le_of_eq hM)
            have bK6 := bK.trans (b6.mono lKS)
            have lo6 := lo.trans (b6.mono (by have := hC.ltN hM; omega))
            have qS : ∀ j, blk qc = some j → j < S := fun j hj => by have := hOc.lt j hj; rwa [show wr.heap.size = S from hM] at this
            have uS : ∀ u ∈ ts, u.b < S := fun u hu => by have := hU.lt u hu; rwa [show wr.heap.size = S from hM] at this
            skip
            have cI : w6.cell? ⟨S, 0, none⟩ = some (.int .i64 a) := h6.cell (j := 0) (by omega)
            have cR : ∀ j, j < 6 → w6.cell? ⟨S, 1 + j, none⟩ = some (rgC r j) := fun j hj => by
              rw [h6.cell (j := 1 + j) (by omega)]
              unfold stC
              rw [if_neg (by omega), show 1 + j - 1 = j by omega]
            clear d7 b5 h5 t6 hM5 B hU hC hM b6 lo hOc cq2 bK
            as_aux_lemma =>
              go_upto_if 116 with (first
                | ((with_reducible show wpList _ _ _ (_ :: _) _ _); first
                  | (refine wpl_run rfl (.bool ts.isEmpty) _ (run_eqTk (x := .tmp 115) (y := .const (.pointer none)) rfl rfl rfl ⟨_, undTp⟩ _) ?_; try simp only [pA]))
                | fail)
              go_cut [18, 19] (fun x g wx => g = .int .i64 E ∧ TX E (S + 1) a r ts x wx ∧ Below (S + 1) w6 wx)
              case first =>
                cases ts with
                | nil =>
                  as_aux_lemma =>
                    obtain rfl : nc = 0 := hlen.symm
                    simp only [ptrOf]
                    go_upto_region 20 with fail
                    refine wp_region_any (by kernel_rfl) ?_
                    have S9d : Has w6.drew S 71 7 (stC a r) := h6
                    have B9d := B6.drew
                    have hM9d : Sz w6.drew (S + 1) := hM6
                    have U9d : Tks w6.drew [] := U6.same (fun _ _ => rfl)
                    have lz9 : Below (S + 1) w6 w6.drew := (Below.refl _ _).drew
                    have cId : w6.drew.cell? ⟨S, 0, none⟩ = some (.int .i64 a) := cI
                    have cRd : ∀ j, j < 6 → w6.drew.cell? ⟨S, 1 + j, none⟩ = some (rgC r j) := cR
                    change wpAny _ _ _ _ _ _ _ (World.drew _)
                    clear h6 B6 C6 O6 hM6 lo6 cI cR U6
                    generalize w6.drew = w9 at *
                    refine wpAny_pot (rem := [0, 1, 2, 3, 4, 5]) (FV (S + 1) 26 rgNone (fun j => if j = 0 then some (.pointer (some ⟨M11, 0, none⟩)) else if j = 1 then some (.pointer (some ⟨S, 0, none⟩)) else if j = 2 then some (.int .i64 a) else if j = 3 then some (.pointer (some ⟨S, 1, none⟩)) else if j = 4 then some (rgV r) else if j = 5 then some (rgV r) else none)) NoB (Below (S + 1) w9) _ _ _ _ (by kernel_rfl) (size_dst (by kernel_rfl)) (Below.refl _ _) ?_ ?_
                    · intro i hi ax wa hI ha hv
                      simp only [List.mem_cons, List.not_mem_nil, or_false] at hi
                      rcases hi with rfl | rfl | rfl | rfl | rfl | rfl
                      · have h : ax.tmps.getD 11 undef = .pointer (some ⟨M11, 0, none⟩) := ha 11 (not_dst (by kernel_rfl))
                        exact potv_run rfl rfl _ rfl (by clear hv ha; go_simp) hM9d hI
                      · have h : ax.tmps.getD 17 undef = .pointer (some ⟨S, 0, none⟩) := ha 17 (not_dst (by kernel_rfl))
                        exact potv_run rfl rfl _ rfl (by clear hv ha; go_simp) hM9d hI
                      · obtain ⟨v, hv1, hv2⟩ := hv 1 (by simp) (by kernel_rfl)
                        have e := hv2.val rfl
                        subst e
                        have h := hv1 119 (by rfl)
                        have c := cellB hM9d cId hI
                        exact potv_run rfl rfl _ rfl (by clear hv hv1 hv2 ha; go_simp) hM9d hI
                      · have h : ax.tmps.getD 17 undef = .pointer (some ⟨S, 0, none⟩) := ha 17 (not_dst (by kernel_rfl))
                        exact potv_run rfl rfl _ rfl (by clear hv ha; go_simp) hM9d hI
                      · obtain ⟨v, hv1, hv2⟩ := hv 3 (by simp) (by kernel_rfl)
                        have e := hv2.val rfl
                        subst e
                        have h := hv1 121 (by rfl)
                        exact potv_run rfl rfl _ rfl (run_ldc 24 (.tmp 121) rfl S 1 h 6 (rgC r) (fun j hj => cellB hM9d (cRd j hj) hI) _ v1 v2 szRF) hM9d hI
                      · obtain ⟨v, hv1, hv2⟩ := hv 4 (by simp) (by kernel_rfl)
                        have e := hv2.val rfl
                        subst e
                        have h := hv1 122 (by rfl)
                        exact potv_cl rfl rfl 40 _ _ rfl #[rgV r] (by simp only [List.map_toArray, List.map_cons, List.map_nil]; exact congrArg (fun u => #[u]) (hv1 122 (by rfl))) (by kernel_rfl) _ (fun K hK => To12_any r wa K hK) rfl hM9d hI
                    intro vals w10 hI hF hG
                    have e0 := (hF 0 (by simp)).val rfl
                    have e1 := (hF 1 (by simp)).val rfl
                    have e2 := (hF 2 (by simp)).val rfl
                    have e3 := (hF 3 (by simp)).val rfl
                    have e4 := (hF 4 (by simp)).val rfl
                    have e5 := (hF 5 (by simp)).val rfl
                    clear hF hG
                    simp only [List.foldl_cons, List.foldl_nil, dstOf, List.getElem?_toArray, List.getElem?_cons_succ, List.getElem?_cons_zero, Option.bind_some, Act.put, List.setIfInBounds_toArray, List.set_cons_succ, List.set_cons_zero, e0, e1, e2, e3, e4, e5]
                    clear e0 e1 e2 e3 e4 e5
                    obtain ⟨M10, hM10⟩ := sz_some w10
                    have l10 := below_sz hI hM9d hM10
                    have T10 := B9d.below hM9d (show M11 ≤ S + 1 by omega) hI
                    have U10 := U9d.below hM9d hI
                    have lz10 := lz9.trans hI
                    clear S9d B9d U9d lz9 cId cRd hM9d hI
                    refine wpAny_part [6, 7] _ _ _ _ (by kernel_rfl) ?_
                    simp only [List.filterMap_cons, List.filterMap_nil, List.getElem?_toArray, List.getElem?_cons_succ, List.getElem?_cons_zero]
                    refine wpl_callX rfl 27 #[.tmp 118, .tmp 120, .tmp 123] _ rfl #[.pointer (some ⟨M11, 0, none⟩), .int .i64 a, rgV r] (by simp only [List.map_toArray, List.map_cons, List.map_nil]; rfl) (by kernel_rfl) (S := fun v wy => ∃ x, v = .tuple #[x, .int .i64 E] ∧ Below M10 w10 wy ∧ TX E M10 a r [] x wy) ((Root_td HE.out hM10 T10.t).mono ?_) ?_
                    · rintro e wy ⟨x, rfl, h1, h2⟩; exact ⟨_, rfl, x, rfl, h1, h2⟩
                    rintro v w12 ⟨x, rfl, b12, X12⟩
                    refine wpl_pure rfl (v := .tuple #[x, .int .i64 E]) (fun w => rfl) ?_
                    refine wpl_nilB ?_
                    try simp only [Act.put, List.setIfInBounds_toArray, List.set_cons_succ, List.set_cons_zero]
                    obtain ⟨M12, hM12⟩ := sz_some w12
                    have l12 := below_sz b12 hM10 hM12
                    have lz12 := lz10.trans (b12.mono l10)
                    replace X12 : TX E (S + 1) a r [] x w12 := X12.imp (fun ⟨h, k, e, hk, hT⟩ => ⟨h, k, e, by omega, hT⟩) id
                    clear b12 T10 U10 lz10 hM10
                    refine wpAny_pot (rem := [8, 9, 10]) (FV M12 26 rgNone (fun j => if j = 8 then some (x) else if j = 9 then some (.int .i64 E) else if j = 10 then some (x) else none)) NoB (Below M12 w12) _ _ _ _ (by kernel_rfl) (size_dst (by kernel_rfl)) (Below.refl _ _) ?_ ?_
                    · intro i hi ax wa hI ha hv
                      simp only [List.mem_cons, List.not_mem_nil, or_false] at hi
                      rcases hi with rfl | rfl | rfl
                      · have h : ax.tmps.getD 117 undef = .tuple #[x, .int .i64 E] := ha 117 (not_dst (by kernel_rfl))
                        exact potv_run rfl rfl _ rfl (run_ex (x := .tmp 117) rfl _ h rfl) hM12 hI
                      · have h : ax.tmps.getD 117 undef = .tuple #[x, .int .i64 E] := ha 117 (not_dst (by kernel_rfl))
                        exact potv_run rfl rfl _ rfl (run_ex (x := .tmp 117) rfl _ h rfl) hM12 hI
                      · obtain ⟨v, hv1, hv2⟩ := hv 8 (by simp) (by kernel_rfl)
                        have e := hv2.val rfl
                        subst e
                        have h := hv1 125 (by rfl)
                        exact potv_run rfl rfl _ rfl (run_as (x := .tmp 125) rfl _ h) hM12 hI
                    intro vals w13 hI hF hG
                    have e8 := (hF 8 (by simp)).val rfl
                    have e9 := (hF 9 (by simp)).val rfl
                    have e10 := (hF 10 (by simp)).val rfl
                    clear hF hG
                    simp only [List.foldl_cons, List.foldl_nil, dstOf, List.getElem?_toArray, List.getElem?_cons_succ, List.getElem?_cons_zero, Option.bind_some, Act.put, List.setIfInBounds_toArray, List.set_cons_succ, List.set_cons_zero, e8, e9, e10]
                    clear e8 e9 e10
                    refine wpAny_chain [11] _ _ _ _ (by kernel_rfl) (by decide) ?_
                    simp only [List.filterMap_cons, List.filterMap_nil, List.getElem?_toArray, List.getElem?_cons_succ, List.getElem?_cons_zero]
                    go_wp2_with fail
                    go_meet
                    exact ⟨rfl, X12.below hM12 hI, lz12.trans (hI.mono (by omega))⟩
                | cons t us =>
                  as_aux_lemma =>
                    simp only [ptrOf]
                    go_upto_region 21 with fail
                    refine wp_region_any (by kernel_rfl) ?_
                    have S9d : Has w6.drew S 71 7 (stC a r) := h6
                    have B9d := B6.drew
                    have hM9d : Sz w6.drew (S + 1) := hM6
                    have U9d : Tks w6.drew (t :: us) := U6.same (fun _ _ => rfl)
                    have lz9 : Below (S + 1) w6 w6.drew := (Below.refl _ _).drew
                    have cId : w6.drew.cell? ⟨S, 0, none⟩ = some (.int .i64 a) := cI
                    have cRd : ∀ j, j < 6 → w6.drew.cell? ⟨S, 1 + j, none⟩ = some (rgC r j) := cR
                    change wpAny _ _ _ _ _ _ _ (World.drew _)
                    clear h6 B6 C6 O6 hM6 lo6 cI cR U6
                    generalize w6.drew = w9 at *
                    refine wpAny_pot (rem := [0, 1, 2, 3, 4, 5, 6]) (FV (S + 1) 26 rgNone (fun j => if j = 0 then some (.pointer (some ⟨M11, 0, none⟩)) else if j = 1 then some (.pointer (some ⟨t.b, 0, none⟩)) else if j = 2 then some (.pointer (some ⟨S, 0, none⟩)) else if j = 3 then some (.int .i64 a) else if j = 4 then some (.pointer (some ⟨S, 1, none⟩)) else if j = 5 then some (rgV r) else if j = 6 then some (rgV r) else none)) NoB (Below (S + 1) w9) _ _ _ _ (by kernel_rfl) (size_dst (by kernel_rfl)) (Below.refl _ _) ?_ ?_
                    · intro i hi ax wa hI ha hv
                      simp only [List.mem_cons, List.not_mem_nil, or_false] at hi
                      rcases hi with rfl | rfl | rfl | rfl | rfl | rfl | rfl
                      · have h : ax.tmps.getD 11 undef = .pointer (some ⟨M11, 0, none⟩) := ha 11 (not_dst (by kernel_rfl))
                        exact potv_run rfl rfl _ rfl (by clear hv ha; go_simp) hM9d hI
                      · have h : ax.tmps.getD 14 undef = .pointer (some ⟨t.b, 0, none⟩) := ha 14 (not_dst (by kernel_rfl))
                        exact potv_run rfl rfl _ rfl (by clear hv ha; go_simp) hM9d hI
                      · have h : ax.tmps.getD 17 undef = .pointer (some ⟨S, 0, none⟩) := ha 17 (not_dst (by kernel_rfl))
                        exact potv_run rfl rfl _ rfl (by clear hv ha; go_simp) hM9d hI
                      · obtain ⟨v, hv1, hv2⟩ := hv 2 (by simp) (by kernel_rfl)
                        have e := hv2.val rfl
                        subst e
                        have h := hv1 130 (by rfl)
                        have c := cellB hM9d cId hI
                        exact potv_run rfl rfl _ rfl (by clear hv hv1 hv2 ha; go_simp) hM9d hI
                      · have h : ax.tmps.getD 17 undef = .pointer (some ⟨S, 0, none⟩) := ha 17 (not_dst (by kernel_rfl))
                        exact potv_run rfl rfl _ rfl (by clear hv ha; go_simp) hM9d hI
                      · obtain ⟨v, hv1, hv2⟩ := hv 4 (by simp) (by kernel_rfl)
                        have e := hv2.val rfl
                        subst e
                        have h := hv1 132 (by rfl)
                        exact potv_run rfl rfl _ rfl (run_ldc 24 (.tmp 132) rfl S 1 h 6 (rgC r) (fun j hj => cellB hM9d (cRd j hj) hI) _ v1 v2 szRF) hM9d hI
                      · obtain ⟨v, hv1, hv2⟩ := hv 5 (by simp) (by kernel_rfl)
                        have e := hv2.val rfl
                        subst e
                        have h := hv1 133 (by rfl)
                        exact potv_cl rfl rfl 40 _ _ rfl #[rgV r] (by simp only [List.map_toArray, List.map_cons, List.map_nil]; exact congrArg (fun u => #[u]) (hv1 133 (by rfl))) (by kernel_rfl) _ (fun K hK => To12_any r wa K hK) rfl hM9d hI
                    intro vals w10 hI hF hG
                    have e0 := (hF 0 (by simp)).val rfl
                    have e1 := (hF 1 (by simp)).val rfl
                    have e2 := (hF 2 (by simp)).val rfl
                    have e3 := (hF 3 (by simp)).val rfl
                    have e4 := (hF 4 (by simp)).val rfl
                    have e5 := (hF 5 (by simp)).val rfl
                    have e6 := (hF 6 (by simp)).val rfl
                    clear hF hG
                    simp only [List.foldl_cons, List.foldl_nil, dstOf, List.getElem?_toArray, List.getElem?_cons_succ, List.getElem?_cons_zero, Option.bind_some, Act.put, List.setIfInBounds_toArray, List.set_cons_succ, List.set_cons_zero, e0, e1, e2, e3, e4, e5, e6]
                    clear e0 e1 e2 e3 e4 e5 e6
                    obtain ⟨M10, hM10⟩ := sz_some w10
                    have l10 := below_sz hI hM9d hM10
                    have T10 := B9d.below hM9d (show M11 ≤ S + 1 by omega) hI
                    have U10 := U9d.below hM9d hI
                    have lz10 := lz9.trans hI
                    clear S9d B9d U9d lz9 cId cRd hM9d hI
                    refine wpAny_part [7, 8] _ _ _ _ (by kernel_rfl) ?_
                    simp only [List.filterMap_cons, List.filterMap_nil, List.getElem?_toArray, List.getElem?_cons_succ, List.getElem?_cons_zero]
                    refine wpl_callX rfl 28 #[.tmp 128, .tmp 129, .tmp 131, .tmp 134] _ rfl #[.pointer (some ⟨M11, 0, none⟩), .pointer (some ⟨t.b, 0, none⟩), .int .i64 a, rgV r] (by simp only [List.map_toArray, List.map_cons, List.map_nil]; rfl) (by kernel_rfl) (S := fun v wy => ∃ x, v = .tuple #[x, .int .i64 E] ∧ Below M10 w10 wy ∧ TX E M10 a r (t :: us) x wy) ((Derive_td HE.out hlen hMt hM10 T10.t U10).mono ?_) ?_
                    · rintro e wy ⟨x, rfl, h1, h2⟩; exact ⟨_, rfl, x, rfl, h1, h2⟩
                    rintro v w12 ⟨x, rfl, b12, X12⟩
                    refine wpl_pure rfl (v := .tuple #[x, .int .i64 E]) (fun w => rfl) ?_
                    refine wpl_nilB ?_
                    try simp only [Act.put, List.setIfInBounds_toArray, List.set_cons_succ, List.set_cons_zero]
                    obtain ⟨M12, hM12⟩ := sz_some w12
                    have l12 := below_sz b12 hM10 hM12
                    have lz12 := lz10.trans (b12.mono l10)
                    replace X12 : TX E (S + 1) a r (t :: us) x w12 := X12.imp (fun ⟨h, k, e, hk, hT⟩ => ⟨h, k, e, by omega, hT⟩) id
                    clear b12 T10 U10 lz10 hM10
                    refine wpAny_pot (rem := [9, 10, 11]) (FV M12 26 rgNone (fun j => if j = 9 then some (x) else if j = 10 then some (.int .i64 E) else if j = 11 then some (x) else none)) NoB (Below M12 w12) _ _ _ _ (by kernel_rfl) (size_dst (by kernel_rfl)) (Below.refl _ _) ?_ ?_
                    · intro i hi ax wa hI ha hv
                      simp only [List.mem_cons, List.not_mem_nil, or_false] at hi
                      rcases hi with rfl | rfl | rfl
                      · have h : ax.tmps.getD 127 undef = .tuple #[x, .int .i64 E] := ha 127 (not_dst (by kernel_rfl))
                        exact potv_run rfl rfl _ rfl (run_ex (x := .tmp 127) rfl _ h rfl) hM12 hI
                      · have h : ax.tmps.getD 127 undef = .tuple #[x, .int .i64 E] := ha 127 (not_dst (by kernel_rfl))
                        exact potv_run rfl rfl _ rfl (run_ex (x := .tmp 127) rfl _ h rfl) hM12 hI
                      · obtain ⟨v, hv1, hv2⟩ := hv 9 (by simp) (by kernel_rfl)
                        have e := hv2.val rfl
                        subst e
                        have h := hv1 136 (by rfl)
                        exact potv_run rfl rfl _ rfl (run_as (x := .tmp 136) rfl _ h) hM12 hI
                    intro vals w13 hI hF hG
                    have e9 := (hF 9 (by simp)).val rfl
                    have e10 := (hF 10 (by simp)).val rfl
                    have e11 := (hF 11 (by simp)).val rfl
                    clear hF hG
                    simp only [List.foldl_cons, List.foldl_nil, dstOf, List.getElem?_toArray, List.getElem?_cons_succ, List.getElem?_cons_zero, Option.bind_some, Act.put, List.setIfInBounds_toArray, List.set_cons_succ, List.set_cons_zero, e9, e10, e11]
                    clear e9 e10 e11
                    refine wpAny_chain [12] _ _ _ _ (by kernel_rfl) (by decide) ?_
                    simp only [List.filterMap_cons, List.filterMap_nil, List.getElem?_toArray, List.getElem?_cons_succ, List.getElem?_cons_zero]
                    go_wp2_with fail
                    go_meet
                    exact ⟨rfl, X12.below hM12 hI, lz12.trans (hI.mono (by omega))⟩
              obtain ⟨rfl, X, hb⟩ := hcut
              have B7 := B6.below hM6 (show M11 ≤ S + 1 by omega) hb
              have S7 := h6.below hb (by omega)
              have U7 := U6.below hM6 hb
              have O7 := O6.below hb (Nat.le_of_eq hM6)
              have bK7 := bK6.trans (hb.mono (by omega))
              obtain ⟨M7, hM7⟩ := sz_some wc
              have l7 := below_sz hb hM6 hM7
              clear B6 h6 U6 C6 O6 lo6 hb hM6 cI cR bK6
              as_aux_lemma =>
                rcases X with ⟨rfl, kk, rfl, hkk, UK⟩ | ⟨hE0, rfl⟩
                · skip
                  go_upto_region 24 with (first
                    | (go_at_call 41; refine (More_any (A := CA) (R := CR) (by omega) _ M7 hM7 B7.r (own_stp O7)).mono ?_; rintro e w8 ⟨rfl, b8⟩; rw [HE.out])
                    | ((with_reducible show wpList _ _ _ (_ :: _) _ _); first
                      | (refine wpl_load rfl 71 (.tmp 17) rfl S rfl 71 7 _ S7 _ s1 s2 szStp ?_; try simp only [pA])
                      | (refine wpl_run rfl (.bool false) _ (run_neqI (x := .tmp 138) (y := .tmp 142) rfl rfl rfl rfl _) ?_; try simp only [pA])
                      | (refine wpl_want ?_ ?_; rotate_left; (refine wpl_run rfl (.bool true) _ (run_eqlI (x := .tmp 145) (y := .const (.int .i64 0)) rfl rfl rfl rfl _) ?_); rotate_left; rfl; try simp only [pA])
                      | (refine wpl_want ?_ ?_; rotate_left; (refine wpl_run rfl (.bool false) _ (run_neqB (x := .tmp 146) (y := .tmp 148) rfl rfl rfl rfl _) ?_); rotate_left; rfl; try simp only [pA]))
                    | fail)
                  obtain ⟨M8, hM8⟩ := sz_some w8
                  have l8 := below_sz b8 hM7 hM8
                  have S8 := S7.below b8 (S7.ltN hM7)
                  have U8 := UK.below hM7 b8
                  have O8 := O7.below b8 (Nat.le_of_eq hM7)
                  have bK8 := bK7.trans (b8.mono (by omega))
                  clear b8 S7 U7 O7 bK7 B7 hM7 UK
                  have cK0 : w8.cell? ⟨kk, 0, none⟩ = some (.int .i64 a) := U8.1.cell (j := 0) (by omega)
                  have cKR := U8.rights
                  have cK7 : w8.cell? ⟨kk, 7, none⟩ = some (ptrOf ts) := U8.1.cell (j := 7) (by omega)
                  have cS0 : w8.cell? ⟨S, 0, none⟩ = some (.int .i64 a) := S8.cell (j := 0) (by omega)
                  have cSR : ∀ j, j < 6 → w8.cell? ⟨S, 1 + j, none⟩ = some (rgC r j) := fun j hj => by
                    rw [S8.cell (j := 1 + j) (by omega)]
                    unfold stC
                    rw [if_neg (by omega), show 1 + j - 1 = j by omega]
                  obtain ⟨dR, u1, u2⟩ := undRR
                  go_upto_region 25 with (first
                    | ((with_reducible show wpList _ _ _ (_ :: _) _ _); first
                      | (refine wpl_run rfl (.bool true) _ (run_eqlI (x := .tmp 151) (y := .const (.int .i64 0)) rfl rfl rfl rfl _) ?_; try simp only [pA]))
                    | fail)
                  as_aux_lemma =>
                    refine wp_region_later M8 (by kernel_rfl) (by kernel_rfl) ?_
                    try simp only [pA]
                    go_big_quiet_step (fail)
                    go_big_quiet_step (fail)
                    go_big_quiet_step (fail)
                    refine later_c1 hM8 3 (.tmp 155) rfl rfl (show Tryd.prog.underlying 3 = some (.int .i64) by kernel_rfl) rfl cK0 (by rfl) ?_; try simp only [pA]
                    go_big_quiet_step (fail)
                    refine later_c1 hM8 3 (.tmp 157) rfl rfl (show Tryd.prog.underlying 3 = some (.int .i64) by kernel_rfl) rfl cS0 (by rfl) ?_; try simp only [pA]
                    refine later_val (v := .bool false) (fun x => run_neqI (x := .tmp 156) (y := .tmp 158) rfl rfl rfl (by simp) _) (by rfl) ?_; try simp only [pA]
                    go_big_quiet_step (fail)
                    go_big_quiet_step (fail)
                    go_big_quiet_step (fail)
                    go_big_quiet_step (fail)
                    refine later_val (v := .agg (cellsOf (rgC r) 6)) (fun x => run_ldc 26 (.tmp 163) rfl kk 1 rfl 6 (rgC r) (fun j hj => Later.cell hM8 (cKR j hj) x) _ u1 u2 szRR) (by rfl) ?_; try simp only [pA]
                    go_big_quiet_step (fail)
                    refine later_val (v := .agg (cellsOf (rgC r) 6)) (fun x => run_ldc 24 (.tmp 165) rfl S 1 rfl 6 (rgC r) (fun j hj => Later.cell hM8 (cSR j hj) x) _ v1 v2 szRF) (by rfl) ?_; try simp only [pA]
                    go_big_quiet_step ((go_at_call 40; exact later_of hM8 _ (fun K hK hKN => To12_any r _ K hK)))
                    refine later_val (v := .bool false) (fun x => run_neq_op 26 26 (.tmp 164) (.tmp 167) rfl _ _ rfl rfl true (by kernel_rfl) (by rw [run_eq_rr, (Rg.beq_iff r r).2 rfl])) (by rfl) ?_; try simp only [pA]
                    go_big_quiet_step (fail)
                    go_big_quiet_step (fail)
                    go_big_quiet_step (fail)
                    go_big_quiet_step (fail)
                    go_big_quiet_step (fail)
                    refine later_c1 hM8 55 (.tmp 173) rfl rfl undTp rfl cK7 (by rfl) ?_; try simp only [pA]
                    go_big_quiet_step (fail)
                    refine later_val (v := .bool false) (fun x => run_neqTk (ts := ts) (x := .tmp 174) (y := .tmp 175) rfl rfl rfl _) (by rfl) ?_; try simp only [pA]
                    go_big_quiet_step (fail)
                    refine wpQuiet_nil (laterE hM8 ?_)
                    intro w9 M9 b9 hM9 l9
                    have S9 := S8.below b9 (S8.ltN hM8)
                    have U9 := U8.below hM8 b9
                    have O9 := O8.below b9 (Nat.le_of_eq hM8)
                    have bK9 := bK8.trans (b9.mono (by omega))
                    clear cK0 cKR cK7 cS0 cSR S8 U8 O8 bK8 b9 hM8
                    as_aux_lemma =>
                      go_wp2_with (first
                        | ((with_reducible show wpList _ _ _ (_ :: _) _ _); first
                          | (refine wpl_load rfl 71 (.tmp 17) rfl S rfl 71 7 _ S9 _ s1 s2 szStp ?_; try simp only [pA])
                          | (refine wpl_bsS rfl (.tmp 180) rfl a r rfl M9 hM9 ?_; intro w10 hM10 b10 h10; have O10 := O9.below b10 (Nat.le_of_eq hM9); try simp only [pA])
                          | (refine wpl_appK rfl (.tmp 179) (.tmp 181) 52 rfl 71 7 (by omega) undSteps kSt qc nc capc rfl _ O10 (some ⟨M9, 0, none⟩) 1 1 rfl (stC a r) h10.ats.cells (fun j _ => stC_one a r j) (by omega) ?_; intro p2 c2 w14 O14 g14 hp2 hq2))
                        | fail)
                      have U10 := U9.below hM9 b10
                      have bK10 := bK9.trans (b10.mono (by omega))
                      have e10 : w10.heap.size = M9 + 1 := hM10
                      have uM : ∀ u ∈ (⟨kk, a, r⟩ :: ts : List Tk), u.b < M9 := fun u hu => by have h9 := U9.lt u hu; rwa [show w9.heap.size = M9 from hM9] at h9
                      have hqk : ∀ u ∈ (⟨kk, a, r⟩ :: ts : List Tk), blk qc ≠ some u.b := fun u hu e => by
                        rcases List.mem_cons.1 hu with rfl | hu
                        · have h9 := qS _ e; simp only at h9; omega
                        · exact hqt u hu e
                      have U14 := U10.same (fun u hu => g14.block u.b (by have h9 := uM u hu; omega) (fun e => hqk u hu e.symm))
                      have bK14 := g14.below bK10 (by omega) (fun g hg => hqc g hg)
                      go_roundg (n3 - (k + 1))
                      case measure => have h9 := Hlt.out; omega
                      case rel => exact ⟨k + 1, nc + 1, c2, p2, ⟨kk, a, r⟩ :: ts, addI CA nc a, addR CR nc r, by have h9 := Hlt.out; omega, rfl, rfl, rfl, by go_num, by simp [hlen], by omega, hMt.add hlen kk, more_snd HE.out hlen hMt hsn kk, O14.congr (fun j hj => st_add CA CR nc a r j hj), fun j hj => (by rcases hp2 with h9 | h9; rw [h9] at hj; exact hqc j hj; rw [h9] at hj; have h8 := Option.some.inj hj; omega), fun u hu e => (by rcases hp2 with h9 | h9; rw [h9] at e; exact hqk u hu e; rw [h9] at e; have h8 := Option.some.inj e; have h7 := uM u hu; omega), U14, bK14⟩
                · as_aux_lemma =>
                    have hz : (E == 0) = false := beq_eq_false_iff_ne.2 hE0
                    have HZ0 := hid hz
                    have HNE : Hid ((E != E) = false) := hid (by simp)
                    clear hz
                    go_upto_region 24 with (first
                      | (go_at_call 41; refine (More_any (A := CA) (R := CR) (by omega) _ M7 hM7 B7.r (own_stp O7)).mono ?_; rintro e w8 ⟨rfl, b8⟩; rw [HE.out])
                      | ((with_reducible show wpList _ _ _ (_ :: _) _ _); first
                        | (refine wpl_load rfl 71 (.tmp 17) rfl S rfl 71 7 _ S7 _ s1 s2 szStp ?_; try simp only [pA])
                        | (refine wpl_run rfl (.bool false) _ (run_neqI (x := .tmp 138) (y := .tmp 142) rfl rfl rfl HNE.out _) ?_; try simp only [pA])
                        | (refine wpl_want ?_ ?_; rotate_left; (refine wpl_run rfl (.bool false) _ (run_eqlI (x := .tmp 145) (y := .const (.int .i64 0)) rfl rfl rfl HZ0.out _) ?_); rotate_left; rfl; try simp only [pA])
                        | (refine wpl_want ?_ ?_; rotate_left; (refine wpl_run rfl (.bool false) _ (run_neqB (x := .tmp 146) (y := .tmp 148) rfl rfl rfl rfl _) ?_); rotate_left; rfl; try simp only [pA]))
                      | fail)
                    obtain ⟨M8, hM8⟩ := sz_some w8
                    have l8 := below_sz b8 hM7 hM8
                    have S8 := S7.below b8 (S7.ltN hM7)
                    have U8 := U7.below hM7 b8
                    have O8 := O7.below b8 (Nat.le_of_eq hM7)
                    have bK8 := bK7.trans (b8.mono (by omega))
                    clear b8 S7 U7 O7 bK7 B7 hM7
                    go_wp2_with (first
                      | ((with_reducible show wpList _ _ _ (_ :: _) _ _); first
                        | (refine wpl_run rfl (.bool false) _ (run_eqlI (x := .tmp 151) (y := .const (.int .i64 0)) rfl rfl rfl HZ0.out _) ?_; try simp only [pA]))
                      | fail)
                    go_roundg (n3 - (k + 1))
                    case measure => have h9 := Hlt.out; omega
                    case rel => exact ⟨k + 1, nc, capc, qc, ts, CA, CR, by have h9 := Hlt.out; omega, rfl, rfl, rfl, by go_num, hlen, by omega, hMt, hsn, O8, hqc, hqt, U8, bK8⟩
          · as_aux_lemma =>
              have hx := Hn3.out
              have i1 : ¬ ((k : Int) < (n2 : Int)) ∨ ((k : Int) < (n2 : Int) ∧ ¬ ((k : Int) < 9)) := by omega
              clear hx
              go_upto_region 14 with fail
              go_cut [107] (fun v wx => v = (Value.bool false) ∧ wx = wr)
              case first =>
                rcases i1 with i1 | ⟨i1, i2⟩
                all_goals (go_wp2_with fail; go_meet; exact ⟨rfl, rfl⟩)
              obtain ⟨rfl, ewc⟩ := hcut
              subst ewc
              have hHc := hH.below hN lo
              have hNS : N ≤ S := by omega
              clear cq2 hC i1
              by_cases hz : nc = 0
              · as_aux_lemma =>
                  subst hz
                  obtain rfl : ts = [] := List.eq_nil_of_length_eq_zero hlen
                  simp only [ptrOf]
                  go_wp2_with (first
                    | (go_at_call 31; refine (Chain_nil _ S).mono ?_; rintro e w5 ⟨rfl, b5⟩; obtain ⟨M5, hM5⟩ := sz_some w5; have l5 := below_sz b5 hM hM5)
                    | (go_at_call 32; refine (Sound_nil _ _ M5).mono ?_; rintro e w6 ⟨rfl, b6⟩)
                    | ((with_reducible show wpList _ _ _ (_ :: _) _ _); first
                      | (refine wpl_want ?_ ?_; rotate_left; (refine wpl_run rfl (.bool false) _ (run_neqB (x := .tmp 193) (y := .tmp 195) rfl rfl rfl rfl _) ?_); rotate_left; rfl; try simp only [pA]))
                    | fail)
                  have lo6 := lo.trans ((b5.trans (b6.mono l5)).mono (by omega))
                  go_loopg [21] 1 (fun g i wr => g = 1 ∧ i = .int .i64 0 ∧ Below N w wr)
                  case atStart => exact ⟨rfl, rfl, lo6⟩
                  case round =>
                    clear lo6
                    obtain ⟨rfl, rfl, hb⟩ := hrel
                    go_wp2_with fail
                    go_ret
                    exact ⟨rfl, hb⟩
              · as_aux_lemma =>
                  have h0 : 0 < ts.length := by omega
                  obtain ⟨t0, us0, ets⟩ : ∃ t us, ts = t :: us := by
                    cases ts with
                    | nil => exact absurd h0 (by simp)
                    | cons t us => exact ⟨t, us, rfl⟩
                  have hp : ptrOf ts = .pointer (some ⟨t0.b, 0, none⟩) := by rw [ets]; rfl
                  have HC := Chain_any ts h0 (by omega) wc S hM hU
                  rw [hp, hlen] at HC
                  have HS := fun w N hN hT hU => Sound_any M11 c f ts h0 (by omega) w N hN hT hU
                  rw [hp, hsn] at HS
                  rw [hp]
                  have HL := hid hlen
                  clear hp hlen ets h0
                  go_wp2_with (first
                    | (go_at_call 31; refine HC.mono ?_; rintro e w5 ⟨g, capg, rfl, lg, OG, b5⟩; obtain ⟨M5, hM5⟩ := sz_some w5; have l5 := below_sz b5 hM hM5)
                    | (go_at_call 32; refine (HS _ M5 hM5 (B.below hM hNM b5).t (hU.below hM b5)).mono ?_; rintro e w6 ⟨rfl, b6⟩)
                    | ((with_reducible show wpList _ _ _ (_ :: _) _ _); first
                      | (refine wpl_run rfl (.bool false) _ (run_neqI (x := .tmp 186) (y := .tmp 188) rfl rfl rfl (by simp) _) ?_; try simp only [pA])
                      | (refine wpl_want ?_ ?_; rotate_left; (refine wpl_run rfl (.bool false) _ (run_neqB (x := .tmp 193) (y := .tmp 195) rfl rfl rfl rfl _) ?_); rotate_left; rfl; try simp only [pA]))
                    | fail)
                  have b56 := b5.trans (b6.mono l5)
                  have UL := hU.below hM b56
                  have OL := hOc.below b56 (Nat.le_of_eq hM)
                  have OGL := OG.below b6 (Nat.le_of_eq hM5)
                  have HpL := hHc.below hM b56
                  have loL := hid (lo.trans (b56.mono hNS))
                  obtain ⟨wL, rfl⟩ : ∃ x, x = w6 := ⟨_, rfl⟩
                  obtain ⟨ML, hML⟩ := sz_some wL
                  have lNL := below_sz loL.out hN hML
                  have HF := hid (And.intro UL (And.intro OGL (And.intro OL HpL)))
                  clear UL OL OGL HpL HC HS b5 b6 b56 OG hM5 l5 hU hOc hHc B bK lo hM
                  go_loopg [21] nc (fun gh i wr => ∃ j : Nat, j ≤ nc ∧ gh = nc - j ∧ i = .int .i64 (j : Int) ∧ Below ML wL wr)
                  case atStart => exact ⟨0, by omega, rfl, rfl, Below.refl _ _⟩
                  case round =>
                    obtain ⟨j, hj, rfl, rfl, bL⟩ := hrel
                    obtain ⟨S3, hM3⟩ := sz_some wr
                    have lL := below_sz bL hML hM3
                    have j0 : (0 : Int) ≤ (j : Int) := by omega
                    by_cases hlt3 : j < nc
                    · as_aux_lemma =>
                        have i1 : (j : Int) < (nc : Int) := by omega
                        have hnc9 : nc ≤ 9 := by omega
                        obtain ⟨t, e1, e2, e3⟩ := hMt.at_ j (by rw [HL.out]; exact hlt3)
                        rw [HL.out] at e1
                        obtain ⟨D, eD⟩ : ∃ D, ts.drop (nc - j) = D := ⟨_, rfl⟩
                        rw [eD] at e1
                        clear eD
                        have U := HF.out.1.below hML bL
                        have OG := HF.out.2.1.below bL (Nat.le_of_eq hML)
                        have O := HF.out.2.2.1.below bL (Nat.le_of_eq hML)
                        have HpR := HF.out.2.2.2.below hML bL
                        obtain ⟨cb, co, rfl, hsc⟩ := own_stp O (by omega)
                        have d6 : ∀ i, i < 6 → wr.cell? ⟨cb, co + j * 7 + 1 + i, none⟩ = some (rgC t.r i) := fun i hi => by
                          have h9 := hsc j hlt3 (1 + i) (by omega)
                          rw [← Nat.add_assoc] at h9
                          rw [h9, ← e3]
                          unfold stC
                          rw [if_neg (by omega), show 1 + i - 1 = i by omega]
                        have cA : wr.cell? ⟨cb, co + j * 7, none⟩ = some (.int .i64 t.at_) := by
                          have h9 := hsc j hlt3 0 (by omega)
                          rw [Nat.add_zero] at h9
                          rw [h9, e2]; rfl
                        have E1 := hid e1
                        have E3 := hid e3
                        have Hlt3 := hid hlt3
                        obtain ⟨dF, v1, v2⟩ := undRF
                        clear hsc O e1 e2 e3 hlt3 hj
                        go_upto_region 36 with (first
                          | (refine wpl_load_cells rfl 24 (.tmp 207) rfl cb (co + j * 7 + 1) rfl 6 (rgC t.r) d6 _ v1 v2 szRF ?_)
                          | (refine wpl_alloc rfl 24 rfl 6 (rgC rgNone) zeRF S3 hM3 ?_; intro w7 hM7 b7 h7)
                          | (refine wpl_store rfl 24 (.tmp 22) (.tmp 208) rfl S3 6 (rgC t.r) rfl rfl 24 _ h7 szRF (fun j _ => rgC_one _ j) ?_; intro w8 t8 h8)
                          | fail)
                        have b8 := t8.below b7 (Nat.le_refl S3)
                        have hM8 := t8.sz hM7
                        have U8 := U.below hM3 b8
                        have OG8 := OG.below b8 (Nat.le_of_eq hM3)
                        have cA8 := cellB hM3 cA b8
                        have Hp8 := HpR.below hM3 b8
                        have bL8 := bL.trans (b8.mono lL)
                        clear d6 cA U OG HpR bL b7 b8 h7 t8 hM7 hM3
                        obtain ⟨M8, eM8⟩ : ∃ M, S3 + 1 = M := ⟨_, rfl⟩
                        have l8 : S3 < M8 := by omega
                        rw [eM8] at hM8
                        clear eM8
                        as_aux_lemma =>
                          have UD := tks_at U8 E1.out
                          have cL := own_tok OG8 Hlt3.out E1.out
                          have c0 : w8.cell? ⟨t.b, 0, none⟩ = some (.int .i64 t.at_) := UD.1.cell (j := 0) (by omega)
                          have q0 : w8.cell? ⟨S3, 0, none⟩ = some (Wd t.r.c) := h8.cell (j := 0) (by omega)
                          have q1 : w8.cell? ⟨S3, 1, none⟩ = some (Wd t.r.p) := h8.cell (j := 1) (by omega)
                          have q2 : w8.cell? ⟨S3, 2, none⟩ = some (Wd t.r.m) := h8.cell (j := 2) (by omega)
                          have q3 : w8.cell? ⟨S3, 3, none⟩ = some (Wd t.r.h) := h8.cell (j := 3) (by omega)
                          clear q3
                          refine wp_region_later M8 (by kernel_rfl) (by kernel_rfl) ?_
                          try simp only [pA]
                          go_big_quiet_step (fail)
                          go_big_quiet_step (fail)
                          go_big_quiet_step (fail)
                          refine later_c1 hM8 55 (.tmp 211) rfl rfl undTp rfl cL (by rfl) ?_; try simp only [pA]
                          go_big_quiet_step (fail)
                          go_big_quiet_step (fail)
                          refine later_c1 hM8 3 (.tmp 214) rfl rfl (show Tryd.prog.underlying 3 = some (.int .i64) by kernel_rfl) rfl c0 (by rfl) ?_; try simp only [pA]
                          go_big_quiet_step (fail)
                          go_big_quiet_step (fail)
                          go_big_quiet_step (fail)
                          go_big_quiet_step (fail)
                          refine later_c1 hM8 3 (.tmp 219) rfl rfl (show Tryd.prog.underlying 3 = some (.int .i64) by kernel_rfl) rfl cA8 (by rfl) ?_; try simp only [pA]
                          refine later_val (v := .bool false) (fun x => run_neqI (x := .tmp 215) (y := .tmp 220) rfl rfl rfl (by simp) _) (by rfl) ?_; try simp only [pA]
                          go_big_quiet_step (fail)
                          go_big_quiet_step (fail)
                          go_big_quiet_step (fail)
                          go_big_quiet_step (fail)
                          refine later_c1 hM8 55 (.tmp 225) rfl rfl undTp rfl cL (by rfl) ?_; try simp only [pA]
                          go_big_quiet_step (fail)
                          go_big_quiet_step ((go_at_call 33; exact later_of hM8 _ (fun K hK hKN => Cm_tok zn hK (UD.below hM8 (Later.b _)))))
                          go_big_quiet_step (fail)
                          refine later_c1 hM8 22 (.tmp 229) rfl rfl und16 rfl q0 (by rfl) ?_; try simp only [pA]
                          go_big_quiet_step (fail)
                          go_big_quiet_step ((go_at_call 42; exact later_of_same _ (may_any _ _ _)))
                          go_big_quiet_step (fail)
                          go_big_quiet_step (fail)
                          go_big_quiet_step (fail)
                          go_big_quiet_step (fail)
                          go_big_quiet_step (fail)
                          go_big_quiet_step (fail)
                          refine later_c1 hM8 55 (.tmp 238) rfl rfl undTp rfl cL (by rfl) ?_; try simp only [pA]
                          go_big_quiet_step (fail)
                          go_big_quiet_step ((go_at_call 34; exact later_of hM8 _ (fun K hK hKN => Pr_tok zn hK (UD.below hM8 (Later.b _)))))
                          go_big_quiet_step (fail)
                          refine later_c1 hM8 22 (.tmp 242) rfl rfl und16 rfl q1 (by rfl) ?_; try simp only [pA]
                          go_big_quiet_step (fail)
                          go_big_quiet_step ((go_at_call 42; exact later_of_same _ (may_any _ _ _)))
                          go_big_quiet_step (fail)
                          go_big_quiet_step (fail)
                          go_big_quiet_step (fail)
                          go_big_quiet_step (fail)
                          go_big_quiet_step (fail)
                          go_big_quiet_step (fail)
                          refine later_c1 hM8 55 (.tmp 251) rfl rfl undTp rfl cL (by rfl) ?_; try simp only [pA]
                          go_big_quiet_step (fail)
                          go_big_quiet_step ((go_at_call 35; exact later_of hM8 _ (fun K hK hKN => Ma_tok zn hK (UD.below hM8 (Later.b _)))))
                          go_big_quiet_step (fail)
                          refine later_c1 hM8 22 (.tmp 255) rfl rfl und16 rfl q2 (by rfl) ?_; try simp only [pA]
                          go_big_quiet_step (fail)
                          go_big_quiet_step ((go_at_call 42; exact later_of_same _ (may_any _ _ _)))
                          go_big_quiet_step (fail)
                          go_big_quiet_step (fail)
                          refine wpQuiet_nil (laterE hM8 ?_)
                          intro w9 M9 b9 hM9 l9
                          have U9 := U8.below hM8 b9
                          have OG9 := OG8.below b9 (Nat.le_of_eq hM8)
                          have h9_ := h8.below b9 (h8.ltN hM8)
                          have Hp9 := Hp8.below hM8 b9
                          have bL9 := bL8.trans (b9.mono (by omega))
                          clear UD cL c0 q0 q1 q2 U8 OG8 h8 Hp8 cA8 bL8 b9 hM8
                          as_aux_lemma =>
                            have UD := tks_at U9 E1.out
                            have cL := own_tok OG9 Hlt3.out E1.out
                            go_upto_region 40 with (first
                              | (go_at_call 25; refine (Bit_any zh _ Hp9).mono ?_; rintro e u ⟨rfl, hu⟩; have hu2 := hu.symm; subst hu2; clear hu)
                              | (go_at_call 36; refine (He_tok zh hM9 Hp9 UD).mono ?_; rintro e w10 ⟨rfl, b10⟩)
                              | fail)
                            obtain ⟨M10, hM10⟩ := sz_some w10
                            have l10 := below_sz b10 hM9 hM10
                            have U10 := U9.below hM9 b10
                            have OG10 := OG9.below b10 (Nat.le_of_eq hM9)
                            have h10_ := h9_.below b10 (h9_.ltN hM9)
                            have Hp10 := Hp9.below hM9 b10
                            have bL10 := bL9.trans (b10.mono (by omega))
                            clear UD cL U9 OG9 h9_ Hp9 bL9 b10 hM9
                            have q3 : w10.cell? ⟨S3, 3, none⟩ = some (Wd t.r.h) := h10_.cell (j := 3) (by omega)
                            obtain ⟨H1, eH1⟩ : ∃ x, helpE t.r zh = x := ⟨_, rfl⟩
                            rw [eH1]
                            have HH1 := hid eH1
                            clear eH1
                            go_cut [23, 24, 25, 288] (fun _ _ hx v wx => hx = .int .i64 H1 ∧ v = (Value.bool false) ∧ wx = w10)
                            case first =>
                              have e9 := HH1.out
                              unfold helpE at e9
                              cases hb : bitOf zh with
                              | none =>
                                rw [hb] at e9
                                subst e9
                                simp only [Option.isSome_none, Option.getD_none]
                                go_wp2_with fail
                                go_meet
                                exact ⟨rfl, rfl, rfl⟩
                              | some kb =>
                                rw [hb] at e9
                                replace e9 : hasE t.r.h (kb : Int) = H1 := e9
                                subst e9
                                simp only [Option.isSome_some, Option.getD_some]
                                go_wp2_with (first
                                  | (go_at_call 42; refine (may_any _ _ _).mono ?_; rintro e u ⟨rfl, hu⟩; have hu2 := hu.symm; subst hu2; clear hu)
                                  | fail)
                                go_meet
                                exact ⟨rfl, rfl, rfl⟩
                            obtain ⟨rfl, rfl, ewc⟩ := hcut
                            subst ewc
                            clear q3
                            as_aux_lemma =>
                              by_cases hj0 : j = 0
                              · as_aux_lemma =>
                                  subst hj0
                                  go_wp2_with (first
                                    | fail)
                                  go_roundg (nc - (0 + 1))
                                  case measure => have h9 := Hlt3.out; omega
                                  case rel => exact ⟨0 + 1, by have h9 := Hlt3.out; omega, rfl, by go_num, bL10⟩
                              · as_aux_lemma =>
                                  obtain ⟨i, ei⟩ : ∃ i, i = j - 1 := ⟨_, rfl⟩
                                  have hi : i < nc := by have := Hlt3.out; omega
                                  obtain ⟨u, f1, f2, f3⟩ := hMt.at_ i (by rw [HL.out]; exact hi)
                                  rw [HL.out] at f1
                                  obtain ⟨D2, eD⟩ : ∃ D, ts.drop (nc - i) = D := ⟨_, rfl⟩
                                  rw [eD] at f1
                                  clear eD
                                  have hw : rWithin t.r u.r = true := by
                                    have h9 := snd_within hMt hsn j (by omega) (by rw [HL.out]; exact Hlt3.out)
                                    rw [← E3.out, ← ei, ← f3] at h9
                                    exact h9
                                  have HW := hid hw
                                  have EU := hid f1
                                  have Hi := hid hi
                                  have EI : Hid (((j : Nat) : Int) - 1 = ((i : Nat) : Int)) := hid (by omega)
                                  have i0 : (0 : Int) ≤ (i : Int) := by omega
                                  have i9 : (i : Int) < (nc : Int) := by omega
                                  have j1 : (0 : Int) < (j : Int) := by omega
                                  have hi9 : i < 9 := by omega
                                  have cL := own_tok OG10 Hlt3.out E1.out
                                  have cP := own_tok OG10 Hi.out EU.out
                                  obtain ⟨E1_, eE1⟩ : ∃ x, hasE t.r.c zn = x := ⟨_, rfl⟩
                                  have HE1 := hid eE1
                                  clear hw f1 f2 f3 hi ei eE1
                                  by_cases h1 : E1_ = 0
                                  · by_cases h2 : H1 = 0
                                    · as_aux_lemma =>
                                        have Z1 : Hid ((E1_ == 0) = true) := hid (by rw [h1]; rfl)
                                        have Z2 : Hid ((H1 == 0) = true) := hid (by rw [h2]; rfl)
                                        have K1 := hid (hasE_tok HW.out zn (HE1.out.trans h1))
                                        have K2 := hid (helpE_tok HW.out zh (HH1.out.trans h2))
                                        clear h1 h2
                                        go_wp2_with (first
                                          | (go_at_call 33; refine (Cm_tok (t := t) (D := D) zn hM10 (tks_at U10 E1.out)).mono ?_; rintro e w11' ⟨rfl, b11⟩; rw [HE1.out]; obtain ⟨M11', hM11'⟩ := sz_some w11'; have l11' := below_sz b11 hM10 hM11'; have U11 := U10.below hM10 b11; have OG11 := OG10.below b11 (Nat.le_of_eq hM10); have Hp11 := Hp10.below hM10 b11; have bL11 := bL10.trans (b11.mono (by omega)); have cP11 := own_tok OG11 Hi.out EU.out; clear U10 OG10 Hp10 bL10 b11 hM10 cP)
                                          | (go_at_call 33; refine (Cm_tok (t := u) (D := D2) zn hM11' (tks_at U11 EU.out)).mono ?_; rintro e w12' ⟨rfl, b12⟩; rw [K1.out]; obtain ⟨M12, hM12⟩ := sz_some w12'; have l12 := below_sz b12 hM11' hM12; have U12 := U11.below hM11' b12; have OG12 := OG11.below b12 (Nat.le_of_eq hM11'); have Hp12 := Hp11.below hM11' b12; have bL12 := bL11.trans (b12.mono (by omega)); have cP12 := own_tok OG12 Hi.out EU.out; clear U11 OG11 Hp11 bL11 b12 hM11' cP11)
                                          | (go_at_call 36; refine (He_tok (t := u) (D := D2) zh hM12 Hp12 (tks_at U12 EU.out)).mono ?_; rintro e w13' ⟨rfl, b13⟩; rw [K2.out]; have bL13 := bL12.trans (b13.mono (by omega)))
                                          | ((with_reducible show wpList _ _ _ (_ :: _) _ _); first
                                            | (refine wpl_want ?_ ?_; rotate_left; (refine wpl_run rfl (.bool true) _ (run_eqlI (x := .tmp 297) (y := .const (.int .i64 0)) rfl rfl rfl Z1.out _) ?_); rotate_left; rfl; try simp only [pA])
                                            | (refine wpl_want ?_ ?_; rotate_left; (refine wpl_run rfl (.bool true) _ (run_eqlI (x := .tmp 310) (y := .const (.int .i64 0)) rfl rfl rfl Z2.out _) ?_); rotate_left; rfl; try simp only [pA])
                                            | (refine wpl_want ?_ ?_; rotate_left; (refine wpl_run rfl (.int .i64 (i : Int)) _ (subN1 (x := .tmp 301) (y := .const (.int .i64 1)) rfl rfl rfl EI.out i0 (by omega) _) ?_); rotate_left; rfl; try simp only [pA])
                                            | (refine wpl_want ?_ ?_; rotate_left; (refine wpl_run rfl (.int .i64 (i : Int)) _ (subN1 (x := .tmp 314) (y := .const (.int .i64 1)) rfl rfl rfl EI.out i0 (by omega) _) ?_); rotate_left; rfl; try simp only [pA]))
                                          | fail)
                                        go_roundg (nc - (j + 1))
                                        case measure => have h9 := Hlt3.out; omega
                                        case rel => exact ⟨j + 1, by have h9 := Hlt3.out; omega, rfl, by go_num, bL13⟩
                                    · as_aux_lemma =>
                                        have Z1 : Hid ((E1_ == 0) = true) := hid (by rw [h1]; rfl)
                                        have Z2 : Hid ((H1 == 0) = false) := hid (beq_eq_false_iff_ne.2 h2)
                                        have K1 := hid (hasE_tok HW.out zn (HE1.out.trans h1))
                                        clear h1 h2
                                        go_wp2_with (first
                                          | (go_at_call 33; refine (Cm_tok (t := t) (D := D) zn hM10 (tks_at U10 E1.out)).mono ?_; rintro e w11' ⟨rfl, b11⟩; rw [HE1.out]; obtain ⟨M11', hM11'⟩ := sz_some w11'; have l11' := below_sz b11 hM10 hM11'; have U11 := U10.below hM10 b11; have OG11 := OG10.below b11 (Nat.le_of_eq hM10); have Hp11 := Hp10.below hM10 b11; have bL11 := bL10.trans (b11.mono (by omega)); have cP11 := own_tok OG11 Hi.out EU.out; clear U10 OG10 Hp10 bL10 b11 hM10 cP)
                                          | (go_at_call 33; refine (Cm_tok (t := u) (D := D2) zn hM11' (tks_at U11 EU.out)).mono ?_; rintro e w12' ⟨rfl, b12⟩; rw [K1.out]; obtain ⟨M12, hM12⟩ := sz_some w12'; have l12 := below_sz b12 hM11' hM12; have U12 := U11.below hM11' b12; have OG12 := OG11.below b12 (Nat.le_of_eq hM11'); have Hp12 := Hp11.below hM11' b12; have bL12 := bL11.trans (b12.mono (by omega)); have cP12 := own_tok OG12 Hi.out EU.out; clear U11 OG11 Hp11 bL11 b12 hM11' cP11)
                                          | ((with_reducible show wpList _ _ _ (_ :: _) _ _); first
                                            | (refine wpl_want ?_ ?_; rotate_left; (refine wpl_run rfl (.bool true) _ (run_eqlI (x := .tmp 297) (y := .const (.int .i64 0)) rfl rfl rfl Z1.out _) ?_); rotate_left; rfl; try simp only [pA])
                                            | (refine wpl_want ?_ ?_; rotate_left; (refine wpl_run rfl (.bool false) _ (run_eqlI (x := .tmp 310) (y := .const (.int .i64 0)) rfl rfl rfl Z2.out _) ?_); rotate_left; rfl; try simp only [pA])
                                            | (refine wpl_want ?_ ?_; rotate_left; (refine wpl_run rfl (.int .i64 (i : Int)) _ (subN1 (x := .tmp 301) (y := .const (.int .i64 1)) rfl rfl rfl EI.out i0 (by omega) _) ?_); rotate_left; rfl; try simp only [pA])
                                            | (refine wpl_want ?_ ?_; rotate_left; (refine wpl_run rfl (.int .i64 (i : Int)) _ (subN1 (x := .tmp 314) (y := .const (.int .i64 1)) rfl rfl rfl EI.out i0 (by omega) _) ?_); rotate_left; rfl; try simp only [pA]))
                                          | fail)
                                        go_roundg (nc - (j + 1))
                                        case measure => have h9 := Hlt3.out; omega
                                        case rel => exact ⟨j + 1, by have h9 := Hlt3.out; omega, rfl, by go_num, bL12⟩
                                  · by_cases h2 : H1 = 0
                                    · as_aux_lemma =>
                                        have Z1 : Hid ((E1_ == 0) = false) := hid (beq_eq_false_iff_ne.2 h1)
                                        have Z2 : Hid ((H1 == 0) = true) := hid (by rw [h2]; rfl)
                                        have K2 := hid (helpE_tok HW.out zh (HH1.out.trans h2))
                                        clear h1 h2
                                        go_wp2_with (first
                                          | (go_at_call 33; refine (Cm_tok (t := t) (D := D) zn hM10 (tks_at U10 E1.out)).mono ?_; rintro e w11' ⟨rfl, b11⟩; rw [HE1.out]; obtain ⟨M11', hM11'⟩ := sz_some w11'; have l11' := below_sz b11 hM10 hM11'; have U11 := U10.below hM10 b11; have OG11 := OG10.below b11 (Nat.le_of_eq hM10); have Hp11 := Hp10.below hM10 b11; have bL11 := bL10.trans (b11.mono (by omega)); have cP11 := own_tok OG11 Hi.out EU.out; clear U10 OG10 Hp10 bL10 b11 hM10 cP)
                                          | (go_at_call 36; refine (He_tok (t := u) (D := D2) zh hM11' Hp11 (tks_at U11 EU.out)).mono ?_; rintro e w13' ⟨rfl, b13⟩; rw [K2.out]; have bL13 := bL11.trans (b13.mono (by omega)))
                                          | ((with_reducible show wpList _ _ _ (_ :: _) _ _); first
                                            | (refine wpl_want ?_ ?_; rotate_left; (refine wpl_run rfl (.bool false) _ (run_eqlI (x := .tmp 297) (y := .const (.int .i64 0)) rfl rfl rfl Z1.out _) ?_); rotate_left; rfl; try simp only [pA])
                                            | (refine wpl_want ?_ ?_; rotate_left; (refine wpl_run rfl (.bool true) _ (run_eqlI (x := .tmp 310) (y := .const (.int .i64 0)) rfl rfl rfl Z2.out _) ?_); rotate_left; rfl; try simp only [pA])
                                            | (refine wpl_want ?_ ?_; rotate_left; (refine wpl_run rfl (.int .i64 (i : Int)) _ (subN1 (x := .tmp 301) (y := .const (.int .i64 1)) rfl rfl rfl EI.out i0 (by omega) _) ?_); rotate_left; rfl; try simp only [pA])
                                            | (refine wpl_want ?_ ?_; rotate_left; (refine wpl_run rfl (.int .i64 (i : Int)) _ (subN1 (x := .tmp 314) (y := .const (.int .i64 1)) rfl rfl rfl EI.out i0 (by omega) _) ?_); rotate_left; rfl; try simp only [pA]))
                                          | fail)
                                        go_roundg (nc - (j + 1))
                                        case measure => have h9 := Hlt3.out; omega
                                        case rel => exact ⟨j + 1, by have h9 := Hlt3.out; omega, rfl, by go_num, bL13⟩
                                    · as_aux_lemma =>
                                        have Z1 : Hid ((E1_ == 0) = false) := hid (beq_eq_false_iff_ne.2 h1)
                                        have Z2 : Hid ((H1 == 0) = false) := hid (beq_eq_false_iff_ne.2 h2)
                                        clear h1 h2
                                        go_wp2_with (first
                                          | (go_at_call 33; refine (Cm_tok (t := t) (D := D) zn hM10 (tks_at U10 E1.out)).mono ?_; rintro e w11' ⟨rfl, b11⟩; rw [HE1.out]; obtain ⟨M11', hM11'⟩ := sz_some w11'; have l11' := below_sz b11 hM10 hM11'; have U11 := U10.below hM10 b11; have OG11 := OG10.below b11 (Nat.le_of_eq hM10); have Hp11 := Hp10.below hM10 b11; have bL11 := bL10.trans (b11.mono (by omega)); have cP11 := own_tok OG11 Hi.out EU.out; clear U10 OG10 Hp10 bL10 b11 hM10 cP)
                                          | ((with_reducible show wpList _ _ _ (_ :: _) _ _); first
                                            | (refine wpl_want ?_ ?_; rotate_left; (refine wpl_run rfl (.bool false) _ (run_eqlI (x := .tmp 297) (y := .const (.int .i64 0)) rfl rfl rfl Z1.out _) ?_); rotate_left; rfl; try simp only [pA])
                                            | (refine wpl_want ?_ ?_; rotate_left; (refine wpl_run rfl (.bool false) _ (run_eqlI (x := .tmp 310) (y := .const (.int .i64 0)) rfl rfl rfl Z2.out _) ?_); rotate_left; rfl; try simp only [pA])
                                            | (refine wpl_want ?_ ?_; rotate_left; (refine wpl_run rfl (.int .i64 (i : Int)) _ (subN1 (x := .tmp 301) (y := .const (.int .i64 1)) rfl rfl rfl EI.out i0 (by omega) _) ?_); rotate_left; rfl; try simp only [pA])
                                            | (refine wpl_want ?_ ?_; rotate_left; (refine wpl_run rfl (.int .i64 (i : Int)) _ (subN1 (x := .tmp 314) (y := .const (.int .i64 1)) rfl rfl rfl EI.out i0 (by omega) _) ?_); rotate_left; rfl; try simp only [pA]))
                                          | fail)
                                        go_roundg (nc - (j + 1))
                                        case measure => have h9 := Hlt3.out; omega
                                        case rel => exact ⟨j + 1, by have h9 := Hlt3.out; omega, rfl, by go_num, bL11⟩
                    · as_aux_lemma =>
                        have i3 : ¬ ((j : Int) < (nc : Int)) := by omega
                        go_wp2_with fail
                        go_ret
                        exact ⟨rfl, loL.out.trans (bL.mono lNL)⟩
end Go.Proofs.YtilhkgbninbkkaaDoor
