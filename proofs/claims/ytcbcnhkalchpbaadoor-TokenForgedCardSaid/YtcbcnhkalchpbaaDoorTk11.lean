/- TokenForged: the walk. -/
import Derived.Test.YtcbcnhkalchpbaaDoorTk10
namespace Go.Proofs.YtcbcnhkalchpbaaDoor
open Go Go.RowKit
set_option maxRecDepth 100000 in
set_option maxHeartbeats 4000000 in
theorem law_tforged (q : Option Addr) (n cap : Nat) (Z : Nat → Int) (q2 : Option Addr) (n2 cap2 : Nat) (SA : Nat → Int) (SR : Nat → Rg) (w : World) (N : Nat) (hN : Sz w N) (hn : n ≤ 9223372036854775807) (hZ : Ats w q n (fun j => .int .i64 (Z j)))
    (hn2 : n2 ≤ 9223372036854775807) (hS : Stp w q2 n2 SA SR) (hH : Hp w) :
    Calls Tryd.prog 10 #[.agg (cellsOf (csC q n cap q2 n2 cap2) 2)] w fun e w' => e = .returned (.bool true) ∧ Below N w w' := by
  obtain ⟨n1, hn1⟩ : ∃ n1, n1 = min n 10 := ⟨_, rfl⟩
  have Hn1 := hid hn1
  have b1 : n1 ≤ 10 := by omega
  have b2 : n1 ≤ n := by omega
  clear hn1
  go_enter Tryd.func10, Tryd.ntmps10
  go_wp2_with (first
    | (refine wpl_box rfl 54 (.tmp 0) rfl 2 _ rfl N hN ?_; intro w0 hN0 hb0 hC)
    | (go_at_call 29; refine (New_any _ (N + 1) hN0).mono ?_; rintro e w1 ⟨rfl, hb1, T1, hN1⟩)
    | (go_at_call 37; refine (RNew_any _ (N + 1 + 1) hN1).mono ?_; rintro e w2 ⟨p, cp, rfl, hb2, R2, hp, hN2⟩)
    | fail)
  have C2 := (hC.below hb1 (by omega)).below hb2 (by omega)
  have S0 : Both w0 w2 (N + 1) (N + 1) 1 (fun _ => 0) (N + 1 + 1 + 1) p cp := ⟨T1.below hN1 hb2, R2, by omega, fun e => by have := hp (N + 1) e; omega, by omega, by omega, fun k hk => by have := hp k hk; omega, hb1.trans (hb2.mono (by omega))⟩
  have H0 := hid (And.intro S0 C2)
  have lo0 := hid hb0
  have hZ0 := hZ.below hN hb0
  clear S0 T1 R2 hb1 hb2 hp hN1 hN2 C2 hC hb0 hZ
  go_loopg [5] n1 (fun g i wr => ∃ (k c : Nat) (f : Nat → Nat) (p : Option Addr) (cp : Nat), k ≤ n1 ∧ g = n1 - k ∧ i = .int .i64 k ∧ Both w0 wr (N + 1) (N + 1) c f (N + 1 + 1 + 1) p cp ∧ Has wr N 54 2 (csC q n cap q2 n2 cap2))
  case atStart => exact ⟨0, 1, _, p, cp, by omega, rfl, rfl, H0.out.1, H0.out.2⟩
  case round =>
    clear H0
    obtain ⟨k, c, f, p, cp, hk, rfl, rfl, B, hC⟩ := hrel
    obtain ⟨M, hM⟩ := sz_some wr
    have hNM := below_sz B.bel hN0 hM
    have k0 : (0 : Int) ≤ (k : Int) := by omega
    have k20 : (k : Int) ≤ 10 := by omega
    have cq : wr.cell? ⟨N, 0, none⟩ = some (.slice q n cap) := hC.cell (j := 0) (by omega)
    by_cases hlt : k < n1
    · have i1 : (k : Int) < (n : Int) := by omega
      have i2 : (k : Int) < 10 := by omega
      obtain ⟨rb, ro, rfl, hrc⟩ := hZ0 (by omega)
      have hrb : rb < N + 1 := by have := World.block_lt_of_cell? w0 _ (hrc k (by omega)); have e : w0.heap.size = N + 1 := hN0; simp only at this ⊢; omega
      have d1 : wr.cell? ⟨rb, ro + k, none⟩ = some (.int .i64 (Z k)) := (B.bel.cell (p := ⟨rb, ro + k, none⟩) hrb).trans (hrc k (by omega))
      have D1 : Hid (w0.cell? ⟨rb, ro + k, none⟩ = some (.int .i64 (Z k))) := hid (hrc k (by omega))
      clear hrc
      obtain ⟨z, hz⟩ : ∃ z, z = Z k := ⟨_, rfl⟩
      rw [← hz] at d1 D1
      clear hz
      by_cases he : makeErr f c z = 0
      · obtain ⟨u, rfl, hu, h4, h8⟩ := makeErr_zero he
        have hu0 : (0 : Int) ≤ (u : Int) := by omega
        clear he
        go_wp2_with (first
          | (go_at_call 38
             refine (Make_ok (N + 1) c f u hu h4 h8 _ M hM B.t).mono ?_
             rintro e w3 ⟨rfl, t3, T3⟩
             obtain ⟨M3, hM3⟩ := sz_some w3
             have l3 := sz_turn t3 hM hM3
             have R3 := B.r.turn t3 (fun e => B.ne e.symm) (fun k hk e => B.np (by rw [hk, e]))
             have b3 : Below (N + 1) w0 w3 := t3.below B.bel (fun j h => by omega) (by rw [show wr.heap.size = M from hM]; omega)
             have hC3 := hC.turn t3 (by omega)
             have cq3 : w3.cell? ⟨N, 0, none⟩ = some (.slice (some ⟨rb, ro, none⟩) n cap) := hC3.cell (j := 0) (by omega)
             have d3 : w3.cell? ⟨rb, ro + k, none⟩ = some (.int .i64 (u : Int)) := (b3.cell (p := ⟨rb, ro + k, none⟩) hrb).trans D1.out)
          | (go_at_call 39; refine (DocMake_ok (N + 1 + 1 + 1) c cp p f u hu h4 h8 _ M3 hM3 R3).mono ?_; rintro e w4 ⟨rfl, t4, p4, cp4, R4, hp4⟩)
          | fail)
        have T4 := T3.turn t4 (fun h => by
          rcases h with h | h
          · omega
          · exact B.np h)
        have b4 : Below (N + 1) w0 w4 := t4.below b3 (fun j h => by
          rcases h with h | h
          · omega
          · exact B.lp j h) (by rw [show w3.heap.size = M3 from hM3]; omega)
        have hC4 := hC3.turn t4 (fun h => by
          rcases h with h | h
          · omega
          · have := B.lp N h; omega)
        go_roundg (n1 - (k + 1))
        case measure => omega
        case rel => exact ⟨k + 1, c + 1, addU f c u, p4, cp4, by omega, rfl, by go_num, ⟨T4, R4, by omega, fun e => by
            rcases hp4 with hp4 | hp4
            · rw [hp4] at e; exact B.np e
            · have := hp4 (N + 1) e
              have := B.t.h.ltN hM
              omega, by omega, by omega, fun j hj => by
            rcases hp4 with hp4 | hp4
            · rw [hp4] at hj; exact B.lp j hj
            · have := hp4 j hj; omega, b4⟩, hC4⟩
      · have hu0 := hid he
        clear he
        obtain ⟨er, her⟩ : ∃ er, er = makeErr f c z := ⟨_, rfl⟩
        have C1 := fun w hM hT => Make_no (N + 1) c f z hu0.out w M hM hT
        have C2 := fun w M hM hT => DocMake_no (N + 1 + 1 + 1) c cp p f z hu0.out w M hM hT
        rw [← her] at C1 C2
        clear her hu0
        go_wp2_with (first
          | (go_at_call 38
             refine (C1 _ hM B.t).mono ?_
             rintro e w3 ⟨rfl, b3⟩
             have B3 := B.below hM hNM b3
             obtain ⟨M3, hM3⟩ := sz_some w3
             have l3 := below_sz b3 hM hM3
             have d3 : w3.cell? ⟨rb, ro + k, none⟩ = some (.int .i64 z) := (B3.bel.cell (p := ⟨rb, ro + k, none⟩) hrb).trans D1.out
             have hC3 := hC.below b3 (hC.ltN hM)
             have cq3 : w3.cell? ⟨N, 0, none⟩ = some (.slice (some ⟨rb, ro, none⟩) n cap) := hC3.cell (j := 0) (by omega))
          | (go_at_call 39; refine (C2 _ M3 hM3 B3.r).mono ?_; rintro e w4 ⟨rfl, b4⟩; have B4 := B3.below hM3 (by omega) b4)
          | fail)
        have hC4 := hC3.below b4 (hC3.ltN hM3)
        go_roundg (n1 - (k + 1))
        case measure => omega
        case rel => exact ⟨k + 1, c, f, p, cp, by omega, rfl, by go_num, B4, hC4⟩
    · have hx := Hn1.out
      have i1 : ¬ ((k : Int) < (n : Int)) ∨ ((k : Int) < (n : Int) ∧ ¬ ((k : Int) < 10)) := by omega
      clear hx
      rcases i1 with i1 | ⟨i1, i2⟩
      · go_wp2_with fail
        obtain ⟨n3, hn3⟩ : ∃ n3, n3 = min n2 6 := ⟨_, rfl⟩
        have Hn3 := hid hn3
        have g1 : n3 ≤ 6 := by omega
        have g2 : n3 ≤ n2 := by omega
        clear hn3
        have H1 := hid (And.intro B hC)
        clear cq hM hNM k0 k20 hlt hk B hC hZ0 Hn1
        go_loopg [6, 7, 8] n3 (fun g x sv i wr => ∃ (k : Nat) (ts : List Tk), k ≤ n3 ∧ g = n3 - k ∧ x = ptrOf ts ∧ sv = .bool (sndT f c ts) ∧ i = .int .i64 (k : Int) ∧ ts.length = k ∧ (∀ t us, ts = t :: us → t.at_ = SA (k - 1) ∧ t.r = SR (k - 1)) ∧
          Tks wr ts ∧ Both w0 wr (N + 1) (N + 1) c f (N + 1 + 1 + 1) p cp ∧ Has wr N 54 2 (csC q n cap q2 n2 cap2))
        case atStart => exact ⟨0, [], by omega, rfl, rfl, rfl, rfl, rfl, fun t us e => (by cases e), trivial, H1.out.1, H1.out.2⟩
        case round =>
          clear H1
          obtain ⟨k, ts, hk, rfl, rfl, rfl, rfl, hlen, hhd, hU, B, hC⟩ := hrel
          obtain ⟨S, hM⟩ := sz_some wr
          have hNM := below_sz B.bel hN0 hM
          have lo := lo0.out.trans (B.bel.mono (show N ≤ N + 1 by omega))
          have k0 : (0 : Int) ≤ (k : Int) := by omega
          have cq2 : wr.cell? ⟨N, 1, none⟩ = some (.slice q2 n2 cap2) := hC.cell (j := 1) (by omega)
          by_cases hlt : k < n3
          · have i1 : (k : Int) < (n2 : Int) := by omega
            have i2 : (k : Int) < 6 := by omega
            obtain ⟨sb, so, rfl, hsc⟩ := hS (by omega)
            have hsb : sb < N := by have := World.block_lt_of_cell? w _ (hsc k (by omega) 0 (by omega)); have e : w.heap.size = N := hN; simp only at this ⊢; omega
            obtain ⟨a, ha⟩ : ∃ a, a = SA k := ⟨_, rfl⟩
            obtain ⟨r, hr⟩ : ∃ r, r = SR k := ⟨_, rfl⟩
            have d7 : ∀ i, i < 7 → wr.cell? ⟨sb, so + k * 7 + i, none⟩ = some (stC a r i) := fun i hi => by
              rw [lo.cell (p := ⟨sb, so + k * 7 + i, none⟩) hsb, ha, hr]
              exact hsc k (by omega) i hi
            have Ha : Hid (a = SA (k + 1 - 1)) := hid ha
            have Hr : Hid (r = SR (k + 1 - 1)) := hid hr
            have Hlt := hid hlt
            have Hsc := hid hsc
            clear ha hr hlt hsc
            obtain ⟨dS, s1, s2⟩ := undStp
            obtain ⟨dF, v1, v2⟩ := undRF
            go_upto_region 13 with (first
              | (refine wpl_load_cells rfl 71 (.tmp 52) rfl sb (so + k * 7) rfl 7 (stC a r) d7 _ s1 s2 szStp ?_)
              | (refine wpl_alloc rfl 71 rfl 7 (stC 0 rgNone) zeStp S hM ?_; intro w5 hM5 b5 h5)
              | (refine wpl_store rfl 71 (.tmp 9) (.tmp 53) rfl S 7 (stC a r) rfl rfl 71 _ h5 szStp (fun j _ => stC_one a r j) ?_; intro w6 t6 h6)
              | fail)
            have b6 := t6.below b5 (Nat.le_refl S)
            have hM6 := t6.sz hM5
            have B6 := B.below hM hNM b6
            have U6 := hU.below hM b6
            have C6 := hC.below b6 (hC.ltN hM)
            have lo6 := lo.trans (b6.mono (by omega))
            have cI : w6.cell? ⟨S, 0, none⟩ = some (.int .i64 a) := h6.cell (j := 0) (by omega)
            have cR : ∀ j, j < 6 → w6.cell? ⟨S, 1 + j, none⟩ = some (rgC r j) := fun j hj => by
              rw [h6.cell (j := 1 + j) (by omega)]
              unfold stC
              rw [if_neg (by omega), show 1 + j - 1 = j by omega]
            clear d7 b5 h5 t6 hM5 B hU hC hM b6 lo
            by_cases hz : k = 0
            · subst hz
              obtain rfl : ts = [] := List.eq_nil_of_length_eq_zero hlen
              clear hhd U6 hlen
              have HW := fun w M hM => RWithin_any r rgAll w M hM
              have HH := fun w hT => Has_any (N + 1 + 1 + 1) c cp p f a w hT
              have SV := hid (fun b' : Nat => sndT_one (f := f) (c := c) ⟨b', a, r⟩)
              obtain ⟨x1, hx1⟩ : ∃ x1, x1 = rWithin r rgAll := ⟨_, rfl⟩
              have Hx1 := hid hx1
              rw [← hx1] at HW
              clear hx1
              have hA : ∀ x : Later (S + 1) w6, (Instr.loadAt 3 (.pointer (some ⟨S, 0, none⟩))).run Tryd.prog x.w' = .ok (.int .i64 a) x.w' := fun x => by
                have c := Later.cell hM6 cI x
                go_simp
              go_upto_region 14 with fail
              refine wp_region_later (S + 1) (by kernel_rfl) (by kernel_rfl) ?_
              try simp only [Act.put, List.setIfInBounds_toArray, List.set_cons_succ, List.set_cons_zero]
              go_big_quiet_step (fail)
              refine later_val (fun x => run_ldc 24 (.tmp 56) rfl S 1 rfl 6 (rgC r) (fun j hj => Later.cell hM6 (cR j hj) x) _ v1 v2 szRF) (by rfl) ?_; simp only [Act.put, List.setIfInBounds_toArray, List.set_cons_succ, List.set_cons_zero]
              go_big_quiet_step ((go_at_call 43; exact later_of hM6 _ (fun K hK hKN => All12_any _ K hK)))
              go_big_quiet_step ((go_at_call 18; exact later_of hM6 _ (fun K hK hKN => HW _ K hK)))
              cases x1
              · iterate 7 go_big_quiet_step (fail)
                refine wpQuiet_nil ?_
                rintro w9 ⟨q9, e9⟩
                have b9 := q9.b
                rw [← e9] at b9
                clear e9 q9
                have l6 : N + 1 ≤ S + 1 := by omega
                have B9 := B6.below hM6 l6 b9
                have C9 := C6.below b9 (C6.ltN hM6)
                have S9 := h6.below b9 (by omega)
                have U9 : Tks w9 [] := trivial
                obtain ⟨M9, hM9⟩ := sz_some w9
                have l9' := below_sz b9 hM6 hM9
                have l9 : N + 1 ≤ M9 := by omega
                clear B6 C6 h6 b9 hM6 lo6 cI cR hA HW HH
                go_upto_region 17 with fail
                have HV := hid (fun b' => (SV.out b').trans (by show (rWithin r rgAll && isIn c a) = _; rw [← Hx1.out]; rfl : _ = false))
                refine wp_region_any (by kernel_rfl) ?_
                have S9d : Has w9.drew S 71 7 (stC a r) := S9
                have U9d : Tks w9.drew ([]) := U9.same (fun _ _ => rfl)
                have B9d := B9.drew
                have C9d : Has w9.drew N 54 2 (csC q n cap (some ⟨sb, so, none⟩) n2 cap2) := C9
                have hM9d : Sz w9.drew M9 := hM9
                change wpAny _ _ _ _ _ _ _ (World.drew _)
                clear S9 U9 B9 C9 hM9
                generalize w9.drew = w9 at *
                have cI : w9.cell? ⟨S, 0, none⟩ = some (.int .i64 a) := S9d.cell (j := 0) (by omega)
                have cR : ∀ j, j < 6 → w9.cell? ⟨S, 1 + j, none⟩ = some (rgC r j) := fun j hj => by
                  rw [S9d.cell (j := 1 + j) (by omega)]
                  unfold stC
                  rw [if_neg (by omega), show 1 + j - 1 = j by omega]
                refine wpAny_pot (rem := [0, 1, 2, 3, 4, 5, 6]) (FV M9 26 rgNone (fun j => if j = 0 then some (.pointer (some ⟨S, 0, none⟩)) else if j = 1 then some (.int .i64 a) else if j = 2 then some (.pointer (some ⟨S, 1, none⟩)) else if j = 3 then some (rgV r) else if j = 4 then some (rgV r)
                    else if j = 5 then some (.pointer none) else if j = 6 then some (.agg (cellsOf (tkC a r (.pointer none)) 8)) else none)) NoB (Below M9 w9) _ _ _ _ (by kernel_rfl) (size_dst (by kernel_rfl)) (Below.refl _ _) ?_ ?_
                · intro i hi ax wa hI ha hv
                  simp only [List.mem_cons, List.not_mem_nil, or_false] at hi
                  rcases hi with rfl | rfl | rfl | rfl | rfl | rfl | rfl
                  · have h : ax.tmps.getD 9 undef = .pointer (some ⟨S, 0, none⟩) := ha 9 (not_dst (by kernel_rfl))
                    exact potv_run rfl rfl _ rfl (by clear hv ha; go_simp) hM9d hI
                  · obtain ⟨v, hv1, hv2⟩ := hv 0 (by simp) (by kernel_rfl)
                    have e := hv2.val rfl
                    subst e
                    have h := hv1 88 (by rfl)
                    have c := cellB hM9d cI hI
                    exact potv_run rfl rfl _ rfl (by clear hv hv1 hv2 ha; go_simp) hM9d hI
                  · have h : ax.tmps.getD 9 undef = .pointer (some ⟨S, 0, none⟩) := ha 9 (not_dst (by kernel_rfl))
                    exact potv_run rfl rfl _ rfl (by clear hv ha; go_simp) hM9d hI
                  · obtain ⟨v, hv1, hv2⟩ := hv 2 (by simp) (by kernel_rfl)
                    have e := hv2.val rfl
                    subst e
                    have h := hv1 90 (by rfl)
                    obtain ⟨dF, v1, v2⟩ := undRF
                    exact potv_run rfl rfl _ rfl (run_ldc 24 (.tmp 90) rfl S 1 h 6 (rgC r) (fun j hj => cellB hM9d (cR j hj) hI) _ v1 v2 szRF) hM9d hI
                  · obtain ⟨v, hv1, hv2⟩ := hv 3 (by simp) (by kernel_rfl)
                    have e := hv2.val rfl
                    subst e
                    exact potv_cl rfl rfl 40 _ _ rfl #[rgV r] (by simp only [List.map_toArray, List.map_cons, List.map_nil]; exact congrArg (fun u => #[u]) (hv1 91 (by rfl))) (by kernel_rfl) _ (fun K hK => To12_any r wa K hK) rfl hM9d hI
                  · have h : ax.tmps.getD 6 undef = .pointer none := ha 6 (not_dst (by kernel_rfl))
                    exact potv_run rfl rfl _ rfl (by clear hv ha; go_simp) hM9d hI
                  · obtain ⟨x1, hx1, hy1⟩ := hv 1 (by simp) (by kernel_rfl)
                    obtain ⟨x2, hx2, hy2⟩ := hv 4 (by simp) (by kernel_rfl)
                    obtain ⟨x3, hx3, hy3⟩ := hv 5 (by simp) (by kernel_rfl)
                    have e1 : ax.eval (.tmp 89) = .int .i64 a := (hx1 89 (by rfl)).trans (hy1.val rfl)
                    have e2 : ax.eval (.tmp 92) = rgV r := (hx2 92 (by rfl)).trans (hy2.val rfl)
                    have e3 : ax.eval (.tmp 93) = .pointer none := (hx3 93 (by rfl)).trans (hy3.val rfl)
                    exact op_list rfl (wpl_build rfl 74 _ rfl (cellsOf (tkC a r (.pointer none)) 8) (by
                      simp only [List.map_toArray, List.map_cons, List.map_nil, e1, e2, e3]
                      kernel_rfl) (potV_val rfl _ rfl hM9d hI _ (fun M _ => Below.refl M _)))
                · intro vals w10 hI hF hG
                  have e0 := (hF 0 (by simp)).val rfl
                  have e1 := (hF 1 (by simp)).val rfl
                  have e2 := (hF 2 (by simp)).val rfl
                  have e3 := (hF 3 (by simp)).val rfl
                  have e4 := (hF 4 (by simp)).val rfl
                  have e5 := (hF 5 (by simp)).val rfl
                  have e6 := (hF 6 (by simp)).val rfl
                  clear hF hG
                  simp only [List.foldl_cons, List.foldl_nil, dstOf, List.getElem?_toArray, List.getElem?_cons_succ, List.getElem?_cons_zero, Option.bind_some, Act.put, List.setIfInBounds_toArray, List.set_cons_succ, List.set_cons_zero, e0, e1, e2, e3, e4, e5, e6]
                  refine wpAny_chain [7, 8] _ _ _ _ (by kernel_rfl) (by decide) ?_
                  simp only [List.filterMap_cons, List.filterMap_nil, List.getElem?_toArray, List.getElem?_cons_succ, List.getElem?_cons_zero]
                  obtain ⟨M10, hM10⟩ := sz_some w10
                  have l10 := below_sz hI hM9d hM10
                  refine wpl_box rfl 74 (.tmp 94) rfl 8 _ rfl M10 hM10 ?_
                  intro w11 hM11 b11 h11
                  simp only [Act.put, List.setIfInBounds_toArray, List.set_cons_succ, List.set_cons_zero]
                  refine wpl_pure rfl (v := .pointer (some ⟨M10, 0, none⟩)) (fun w => rfl) ?_
                  simp only [Act.put, List.setIfInBounds_toArray, List.set_cons_succ, List.set_cons_zero]
                  have b11' := hI.trans (b11.mono l10)
                  have B11 := B9d.below hM9d l9 b11'
                  have C11 := C9d.below b11' (C9d.ltN hM9d)
                  have U11a := U9d.below hM9d b11'
                  have U11 : Tks w11 (⟨M10, a, r⟩ :: []) := And.intro h11 (And.intro (fun x hx => by have := U9d.lt x hx; have e : w9.heap.size = M9 := hM9d; show x.b < M10; omega) U11a)
                  clear e0 e1 e2 e3 e4 e5 e6 hI b11 b11' h11 S9d U9d B9d C9d cI cR hM9d hM10
                  have CS := fun w M hM hT hU => Sound_any (N + 1) c f (⟨M10, a, r⟩ :: []) (by simp) (by simp only [List.length_cons, List.length_nil]; omega) w M hM hT hU
                  rw [HV.out M10] at CS
                  have CC := fun w M hM hU => Chain_any (⟨M10, a, r⟩ :: []) (by simp) (by simp only [List.length_cons, List.length_nil]; omega) w M hM hU
                  obtain ⟨K, hK⟩ : ∃ K, K = (⟨M10, a, r⟩ :: [] : List Tk).length := ⟨_, rfl⟩
                  rw [← hK] at CC
                  have l11 : N + 1 ≤ M10 + 1 := by omega
                  obtain rfl : K = 1 := hK
                  go_wp2_with (first
                    | (go_at_call 32; refine (CS _ _ hM11 B11.t U11).mono ?_; rintro e w12 ⟨rfl, b12⟩; obtain ⟨M12, hM12⟩ := sz_some w12; have l12 := below_sz b12 hM11 hM12; have U12 := U11.below hM11 b12)
                    | (go_at_call 31; refine (CC _ M12 hM12 U12).mono ?_; rintro e w13 ⟨g, cap', rfl, hg, hO, b13⟩)
                    | fail)
                  have b13' := b12.trans (b13.mono l12)
                  have B13 := B11.below hM11 l11 b13'
                  have C13 := C11.below b13' (C11.ltN hM11)
                  have U13 := U11.below hM11 b13'
                  go_roundg (n3 - (0 + 1))
                  case measure => have := Hlt.out; omega
                  case rel => exact ⟨0 + 1, ⟨M10, a, r⟩ :: [], Hlt.out, rfl, rfl, by rw [HV.out M10], by go_num, rfl, fun t us e => by
                      injection e with e1 e2
                      subst e1
                      exact ⟨Ha.out, Hr.out⟩, U13, B13, C13⟩
              · iterate 3 go_big_quiet_step (fail)
                refine later_val (fun x => ld_one 3 (.tmp 62) rfl ⟨S, 0, none⟩ rfl _ (hA x)) (by rfl) ?_; simp only [Act.put, List.setIfInBounds_toArray, List.set_cons_succ, List.set_cons_zero]
                go_big_quiet_step ((go_at_call 44; exact later_of_same _ (HH _ (B6.r.below hM6 (Later.b _)))))
                iterate 2 go_big_quiet_step (fail)
                refine wpQuiet_nil ?_
                rintro w9 ⟨q9, e9⟩
                have b9 := q9.b
                rw [← e9] at b9
                clear e9 q9
                have l6 : N + 1 ≤ S + 1 := by omega
                have B9 := B6.below hM6 l6 b9
                have C9 := C6.below b9 (C6.ltN hM6)
                have S9 := h6.below b9 (by omega)
                have U9 : Tks w9 [] := trivial
                obtain ⟨M9, hM9⟩ := sz_some w9
                have l9' := below_sz b9 hM6 hM9
                have l9 : N + 1 ≤ M9 := by omega
                clear B6 C6 h6 b9 hM6 lo6 cI cR hA HW HH
                go_upto_region 17 with fail
                have HV := hid (fun b' => (SV.out b').trans (by show (rWithin r rgAll && isIn c a) = _; rw [← Hx1.out]; rfl : _ = isIn c a))
                refine wp_region_any (by kernel_rfl) ?_
                have S9d : Has w9.drew S 71 7 (stC a r) := S9
                have U9d : Tks w9.drew ([]) := U9.same (fun _ _ => rfl)
                have B9d := B9.drew
                have C9d : Has w9.drew N 54 2 (csC q n cap (some ⟨sb, so, none⟩) n2 cap2) := C9
                have hM9d : Sz w9.drew M9 := hM9
                change wpAny _ _ _ _ _ _ _ (World.drew _)
                clear S9 U9 B9 C9 hM9
                generalize w9.drew = w9 at *
                have cI : w9.cell? ⟨S, 0, none⟩ = some (.int .i64 a) := S9d.cell (j := 0) (by omega)
                have cR : ∀ j, j < 6 → w9.cell? ⟨S, 1 + j, none⟩ = some (rgC r j) := fun j hj => by
                  rw [S9d.cell (j := 1 + j) (by omega)]
                  unfold stC
                  rw [if_neg (by omega), show 1 + j - 1 = j by omega]
                refine wpAny_pot (rem := [0, 1, 2, 3, 4, 5, 6]) (FV M9 26 rgNone (fun j => if j = 0 then some (.pointer (some ⟨S, 0, none⟩)) else if j = 1 then some (.int .i64 a) else if j = 2 then some (.pointer (some ⟨S, 1, none⟩)) else if j = 3 then some (rgV r) else if j = 4 then some (rgV r)
                    else if j = 5 then some (.pointer none) else if j = 6 then some (.agg (cellsOf (tkC a r (.pointer none)) 8)) else none)) NoB (Below M9 w9) _ _ _ _ (by kernel_rfl) (size_dst (by kernel_rfl)) (Below.refl _ _) ?_ ?_
                · intro i hi ax wa hI ha hv
                  simp only [List.mem_cons, List.not_mem_nil, or_false] at hi
                  rcases hi with rfl | rfl | rfl | rfl | rfl | rfl | rfl
                  · have h : ax.tmps.getD 9 undef = .pointer (some ⟨S, 0, none⟩) := ha 9 (not_dst (by kernel_rfl))
                    exact potv_run rfl rfl _ rfl (by clear hv ha; go_simp) hM9d hI
                  · obtain ⟨v, hv1, hv2⟩ := hv 0 (by simp) (by kernel_rfl)
                    have e := hv2.val rfl
                    subst e
                    have h := hv1 88 (by rfl)
                    have c := cellB hM9d cI hI
                    exact potv_run rfl rfl _ rfl (by clear hv hv1 hv2 ha; go_simp) hM9d hI
                  · have h : ax.tmps.getD 9 undef = .pointer (some ⟨S, 0, none⟩) := ha 9 (not_dst (by kernel_rfl))
                    exact potv_run rfl rfl _ rfl (by clear hv ha; go_simp) hM9d hI
                  · obtain ⟨v, hv1, hv2⟩ := hv 2 (by simp) (by kernel_rfl)
                    have e := hv2.val rfl
                    subst e
                    have h := hv1 90 (by rfl)
                    obtain ⟨dF, v1, v2⟩ := undRF
                    exact potv_run rfl rfl _ rfl (run_ldc 24 (.tmp 90) rfl S 1 h 6 (rgC r) (fun j hj => cellB hM9d (cR j hj) hI) _ v1 v2 szRF) hM9d hI
                  · obtain ⟨v, hv1, hv2⟩ := hv 3 (by simp) (by kernel_rfl)
                    have e := hv2.val rfl
                    subst e
                    exact potv_cl rfl rfl 40 _ _ rfl #[rgV r] (by simp only [List.map_toArray, List.map_cons, List.map_nil]; exact congrArg (fun u => #[u]) (hv1 91 (by rfl))) (by kernel_rfl) _ (fun K hK => To12_any r wa K hK) rfl hM9d hI
                  · have h : ax.tmps.getD 6 undef = .pointer none := ha 6 (not_dst (by kernel_rfl))
                    exact potv_run rfl rfl _ rfl (by clear hv ha; go_simp) hM9d hI
                  · obtain ⟨x1, hx1, hy1⟩ := hv 1 (by simp) (by kernel_rfl)
                    obtain ⟨x2, hx2, hy2⟩ := hv 4 (by simp) (by kernel_rfl)
                    obtain ⟨x3, hx3, hy3⟩ := hv 5 (by simp) (by kernel_rfl)
                    have e1 : ax.eval (.tmp 89) = .int .i64 a := (hx1 89 (by rfl)).trans (hy1.val rfl)
                    have e2 : ax.eval (.tmp 92) = rgV r := (hx2 92 (by rfl)).trans (hy2.val rfl)
                    have e3 : ax.eval (.tmp 93) = .pointer none := (hx3 93 (by rfl)).trans (hy3.val rfl)
                    exact op_list rfl (wpl_build rfl 74 _ rfl (cellsOf (tkC a r (.pointer none)) 8) (by
                      simp only [List.map_toArray, List.map_cons, List.map_nil, e1, e2, e3]
                      kernel_rfl) (potV_val rfl _ rfl hM9d hI _ (fun M _ => Below.refl M _)))
                · intro vals w10 hI hF hG
                  have e0 := (hF 0 (by simp)).val rfl
                  have e1 := (hF 1 (by simp)).val rfl
                  have e2 := (hF 2 (by simp)).val rfl
                  have e3 := (hF 3 (by simp)).val rfl
                  have e4 := (hF 4 (by simp)).val rfl
                  have e5 := (hF 5 (by simp)).val rfl
                  have e6 := (hF 6 (by simp)).val rfl
                  clear hF hG
                  simp only [List.foldl_cons, List.foldl_nil, dstOf, List.getElem?_toArray, List.getElem?_cons_succ, List.getElem?_cons_zero, Option.bind_some, Act.put, List.setIfInBounds_toArray, List.set_cons_succ, List.set_cons_zero, e0, e1, e2, e3, e4, e5, e6]
                  refine wpAny_chain [7, 8] _ _ _ _ (by kernel_rfl) (by decide) ?_
                  simp only [List.filterMap_cons, List.filterMap_nil, List.getElem?_toArray, List.getElem?_cons_succ, List.getElem?_cons_zero]
                  obtain ⟨M10, hM10⟩ := sz_some w10
                  have l10 := below_sz hI hM9d hM10
                  refine wpl_box rfl 74 (.tmp 94) rfl 8 _ rfl M10 hM10 ?_
                  intro w11 hM11 b11 h11
                  simp only [Act.put, List.setIfInBounds_toArray, List.set_cons_succ, List.set_cons_zero]
                  refine wpl_pure rfl (v := .pointer (some ⟨M10, 0, none⟩)) (fun w => rfl) ?_
                  simp only [Act.put, List.setIfInBounds_toArray, List.set_cons_succ, List.set_cons_zero]
                  have b11' := hI.trans (b11.mono l10)
                  have B11 := B9d.below hM9d l9 b11'
                  have C11 := C9d.below b11' (C9d.ltN hM9d)
                  have U11a := U9d.below hM9d b11'
                  have U11 : Tks w11 (⟨M10, a, r⟩ :: []) := And.intro h11 (And.intro (fun x hx => by have := U9d.lt x hx; have e : w9.heap.size = M9 := hM9d; show x.b < M10; omega) U11a)
                  clear e0 e1 e2 e3 e4 e5 e6 hI b11 b11' h11 S9d U9d B9d C9d cI cR hM9d hM10
                  have CS := fun w M hM hT hU => Sound_any (N + 1) c f (⟨M10, a, r⟩ :: []) (by simp) (by simp only [List.length_cons, List.length_nil]; omega) w M hM hT hU
                  rw [HV.out M10] at CS
                  have CC := fun w M hM hU => Chain_any (⟨M10, a, r⟩ :: []) (by simp) (by simp only [List.length_cons, List.length_nil]; omega) w M hM hU
                  obtain ⟨K, hK⟩ : ∃ K, K = (⟨M10, a, r⟩ :: [] : List Tk).length := ⟨_, rfl⟩
                  rw [← hK] at CC
                  have l11 : N + 1 ≤ M10 + 1 := by omega
                  obtain rfl : K = 1 := hK
                  generalize isIn c a = q9 at *
                  have qq : (q9 != q9) = false := by simp
                  go_wp2_with (first
                    | (go_at_call 32; refine (CS _ _ hM11 B11.t U11).mono ?_; rintro e w12 ⟨rfl, b12⟩; obtain ⟨M12, hM12⟩ := sz_some w12; have l12 := below_sz b12 hM11 hM12; have U12 := U11.below hM11 b12)
                    | (go_at_call 31; refine (CC _ M12 hM12 U12).mono ?_; rintro e w13 ⟨g, cap', rfl, hg, hO, b13⟩)
                    | fail)
                  have b13' := b12.trans (b13.mono l12)
                  have B13 := B11.below hM11 l11 b13'
                  have C13 := C11.below b13' (C11.ltN hM11)
                  have U13 := U11.below hM11 b13'
                  go_roundg (n3 - (0 + 1))
                  case measure => have := Hlt.out; omega
                  case rel => exact ⟨0 + 1, ⟨M10, a, r⟩ :: [], Hlt.out, rfl, rfl, by rw [HV.out M10], by go_num, rfl, fun t us e => by
                      injection e with e1 e2
                      subst e1
                      exact ⟨Ha.out, Hr.out⟩, U13, B13, C13⟩
            · obtain ⟨l, rfl⟩ : ∃ l, k = l + 1 := ⟨k - 1, by omega⟩
              obtain ⟨u, us, rfl⟩ : ∃ u us, ts = u :: us := by
                cases ts with
                | nil => simp at hlen
                | cons u us => exact ⟨u, us, rfl⟩
              obtain ⟨hu1, hu2⟩ := hhd u us rfl
              rw [Nat.add_sub_cancel] at hu1 hu2
              simp only [ptrOf]
              have hus : us.length = l := by simpa using hlen
              clear hhd hlen hz
              have hl9 : l ≤ 6 := by have := Hlt.out; omega
              have SV0 : ∀ b' : Nat, sndT f c (⟨b', a, r⟩ :: u :: us) = ((sndT f c (u :: us) && insI f c a u.at_) && rWithin r u.r) := fun b' => sndT_two ⟨b', a, r⟩ u us
              have d8 : ∀ i, i < 7 → w6.cell? ⟨sb, so + l * 7 + i, none⟩ = some (stC u.at_ u.r i) := fun i hi => by
                rw [lo6.cell (p := ⟨sb, so + l * 7 + i, none⟩) hsb, hu1, hu2]
                exact Hsc.out l (by have := Hlt.out; omega) i hi
              clear hu1 hu2
              have lz : ((l : Int) + 1 == 0) = false := by rw [beq_eq_false_iff_ne]; omega
              have l0 : (0 : Int) ≤ (l : Int) := by omega
              have l2 : (l : Int) < (n2 : Int) := by omega
              have cq6 : w6.cell? ⟨N, 1, none⟩ = some (.slice (some ⟨sb, so, none⟩) n2 cap2) := C6.cell (j := 1) (by omega)
              go_upto_region 16 with (first
                | (refine wpl_load_cells rfl 71 (.tmp 70) rfl sb (so + l * 7) rfl 7 (stC u.at_ u.r) d8 _ s1 s2 szStp ?_)
                | (refine wpl_alloc rfl 71 rfl 7 (stC 0 rgNone) zeStp (S + 1) hM6 ?_; intro w7 hM7 b7 h7)
                | (refine wpl_store rfl 71 (.tmp 10) (.tmp 71) rfl (S + 1) 7 (stC u.at_ u.r) rfl rfl 71 _ h7 szStp (fun j _ => stC_one _ _ j) ?_; intro w8 t8 h8)
                | fail)
              have b8 := t8.below b7 (Nat.le_refl (S + 1))
              have hM8 := t8.sz hM7
              have l6 : N + 1 ≤ S + 1 := by omega
              have B8 := B6.below hM6 l6 b8
              have U8 := U6.below hM6 b8
              have C8 := C6.below b8 (C6.ltN hM6)
              have S8 := h6.below b8 (by omega)
              have cI8 := cellB hM6 cI b8
              have cR8 := fun j hj => cellB hM6 (cR j hj) b8
              have cJ8 : w8.cell? ⟨S + 1, 0, none⟩ = some (.int .i64 u.at_) := h8.cell (j := 0) (by omega)
              have cT8 : ∀ j, j < 6 → w8.cell? ⟨S + 1, 1 + j, none⟩ = some (rgC u.r j) := fun j hj => by
                rw [h8.cell (j := 1 + j) (by omega)]
                unfold stC
                rw [if_neg (by omega), show 1 + j - 1 = j by omega]
              have l8 : N + 1 ≤ S + 1 + 1 := by omega
              clear d8 h7 b7 t8 hM7 B6 U6 C6 h6 h8 b8 cI cR hM6 lo6 cq6
              have CI := fun w M hM hT => RInside_any (N + 1 + 1 + 1) c cp p f a u.at_ w M hM hT
              have CW := fun w M hM => RWithin_any r u.r w M hM
              obtain ⟨x1, hx1⟩ : ∃ x1, x1 = sndT f c (u :: us) := ⟨_, rfl⟩
              obtain ⟨x2, hx2⟩ : ∃ x2, x2 = insI f c a u.at_ := ⟨_, rfl⟩
              obtain ⟨x3, hx3⟩ : ∃ x3, x3 = rWithin r u.r := ⟨_, rfl⟩
              rw [← hx1, ← hx2, ← hx3] at SV0
              have SV := hid SV0
              rw [← hx2] at CI
              rw [← hx3] at CW
              rw [← hx1]
              clear hx1 hx2 hx3 SV0
              cases x1
              · go_upto_region 17 with fail
                have B9 := B8
                have U9 := U8
                have C9 := C8
                have S9 := S8
                have hM9 := hM8
                have l9 := l8
                clear B8 U8 C8 S8 hM8 cI8 cR8 cJ8 cT8 CI CW
                generalize w8 = w9 at *
                obtain ⟨M9, hM9e⟩ : ∃ M9, M9 = S + 1 + 1 := ⟨_, rfl⟩
                rw [← hM9e] at hM9 l9
                clear hM9e
                have HV := hid (fun b' => (SV.out b').trans (by rfl : _ = false))
                refine wp_region_any (by kernel_rfl) ?_
                have S9d : Has w9.drew S 71 7 (stC a r) := S9
                have U9d : Tks w9.drew (u :: us) := U9.same (fun _ _ => rfl)
                have B9d := B9.drew
                have C9d : Has w9.drew N 54 2 (csC q n cap (some ⟨sb, so, none⟩) n2 cap2) := C9
                have hM9d : Sz w9.drew M9 := hM9
                change wpAny _ _ _ _ _ _ _ (World.drew _)
                clear S9 U9 B9 C9 hM9
                generalize w9.drew = w9 at *
                have cI : w9.cell? ⟨S, 0, none⟩ = some (.int .i64 a) := S9d.cell (j := 0) (by omega)
                have cR : ∀ j, j < 6 → w9.cell? ⟨S, 1 + j, none⟩ = some (rgC r j) := fun j hj => by
                  rw [S9d.cell (j := 1 + j) (by omega)]
                  unfold stC
                  rw [if_neg (by omega), show 1 + j - 1 = j by omega]
                refine wpAny_pot (rem := [0, 1, 2, 3, 4, 5, 6]) (FV M9 26 rgNone (fun j => if j = 0 then some (.pointer (some ⟨S, 0, none⟩)) else if j = 1 then some (.int .i64 a) else if j = 2 then some (.pointer (some ⟨S, 1, none⟩)) else if j = 3 then some (rgV r) else if j = 4 then some (rgV r)
                    else if j = 5 then some (.pointer (some ⟨u.b, 0, none⟩)) else if j = 6 then some (.agg (cellsOf (tkC a r (.pointer (some ⟨u.b, 0, none⟩))) 8)) else none)) NoB (Below M9 w9) _ _ _ _ (by kernel_rfl) (size_dst (by kernel_rfl)) (Below.refl _ _) ?_ ?_
                · intro i hi ax wa hI ha hv
                  simp only [List.mem_cons, List.not_mem_nil, or_false] at hi
                  rcases hi with rfl | rfl | rfl | rfl | rfl | rfl | rfl
                  · have h : ax.tmps.getD 9 undef = .pointer (some ⟨S, 0, none⟩) := ha 9 (not_dst (by kernel_rfl))
                    exact potv_run rfl rfl _ rfl (by clear hv ha; go_simp) hM9d hI
                  · obtain ⟨v, hv1, hv2⟩ := hv 0 (by simp) (by kernel_rfl)
                    have e := hv2.val rfl
                    subst e
                    have h := hv1 88 (by rfl)
                    have c := cellB hM9d cI hI
                    exact potv_run rfl rfl _ rfl (by clear hv hv1 hv2 ha; go_simp) hM9d hI
                  · have h : ax.tmps.getD 9 undef = .pointer (some ⟨S, 0, none⟩) := ha 9 (not_dst (by kernel_rfl))
                    exact potv_run rfl rfl _ rfl (by clear hv ha; go_simp) hM9d hI
                  · obtain ⟨v, hv1, hv2⟩ := hv 2 (by simp) (by kernel_rfl)
                    have e := hv2.val rfl
                    subst e
                    have h := hv1 90 (by rfl)
                    obtain ⟨dF, v1, v2⟩ := undRF
                    exact potv_run rfl rfl _ rfl (run_ldc 24 (.tmp 90) rfl S 1 h 6 (rgC r) (fun j hj => cellB hM9d (cR j hj) hI) _ v1 v2 szRF) hM9d hI
                  · obtain ⟨v, hv1, hv2⟩ := hv 3 (by simp) (by kernel_rfl)
                    have e := hv2.val rfl
                    subst e
                    exact potv_cl rfl rfl 40 _ _ rfl #[rgV r] (by simp only [List.map_toArray, List.map_cons, List.map_nil]; exact congrArg (fun u => #[u]) (hv1 91 (by rfl))) (by kernel_rfl) _ (fun K hK => To12_any r wa K hK) rfl hM9d hI
                  · have h : ax.tmps.getD 6 undef = .pointer (some ⟨u.b, 0, none⟩) := ha 6 (not_dst (by kernel_rfl))
                    exact potv_run rfl rfl _ rfl (by clear hv ha; go_simp) hM9d hI
                  · obtain ⟨x1, hx1, hy1⟩ := hv 1 (by simp) (by kernel_rfl)
                    obtain ⟨x2, hx2, hy2⟩ := hv 4 (by simp) (by kernel_rfl)
                    obtain ⟨x3, hx3, hy3⟩ := hv 5 (by simp) (by kernel_rfl)
                    have e1 : ax.eval (.tmp 89) = .int .i64 a := (hx1 89 (by rfl)).trans (hy1.val rfl)
                    have e2 : ax.eval (.tmp 92) = rgV r := (hx2 92 (by rfl)).trans (hy2.val rfl)
                    have e3 : ax.eval (.tmp 93) = .pointer (some ⟨u.b, 0, none⟩) := (hx3 93 (by rfl)).trans (hy3.val rfl)
                    exact op_list rfl (wpl_build rfl 74 _ rfl (cellsOf (tkC a r (.pointer (some ⟨u.b, 0, none⟩))) 8) (by
                      simp only [List.map_toArray, List.map_cons, List.map_nil, e1, e2, e3]
                      kernel_rfl) (potV_val rfl _ rfl hM9d hI _ (fun M _ => Below.refl M _)))
                · intro vals w10 hI hF hG
                  have e0 := (hF 0 (by simp)).val rfl
                  have e1 := (hF 1 (by simp)).val rfl
                  have e2 := (hF 2 (by simp)).val rfl
                  have e3 := (hF 3 (by simp)).val rfl
                  have e4 := (hF 4 (by simp)).val rfl
                  have e5 := (hF 5 (by simp)).val rfl
                  have e6 := (hF 6 (by simp)).val rfl
                  clear hF hG
                  simp only [List.foldl_cons, List.foldl_nil, dstOf, List.getElem?_toArray, List.getElem?_cons_succ, List.getElem?_cons_zero, Option.bind_some, Act.put, List.setIfInBounds_toArray, List.set_cons_succ, List.set_cons_zero, e0, e1, e2, e3, e4, e5, e6]
                  refine wpAny_chain [7, 8] _ _ _ _ (by kernel_rfl) (by decide) ?_
                  simp only [List.filterMap_cons, List.filterMap_nil, List.getElem?_toArray, List.getElem?_cons_succ, List.getElem?_cons_zero]
                  obtain ⟨M10, hM10⟩ := sz_some w10
                  have l10 := below_sz hI hM9d hM10
                  refine wpl_box rfl 74 (.tmp 94) rfl 8 _ rfl M10 hM10 ?_
                  intro w11 hM11 b11 h11
                  simp only [Act.put, List.setIfInBounds_toArray, List.set_cons_succ, List.set_cons_zero]
                  refine wpl_pure rfl (v := .pointer (some ⟨M10, 0, none⟩)) (fun w => rfl) ?_
                  simp only [Act.put, List.setIfInBounds_toArray, List.set_cons_succ, List.set_cons_zero]
                  have b11' := hI.trans (b11.mono l10)
                  have B11 := B9d.below hM9d l9 b11'
                  have C11 := C9d.below b11' (C9d.ltN hM9d)
                  have U11a := U9d.below hM9d b11'
                  have U11 : Tks w11 (⟨M10, a, r⟩ :: u :: us) := And.intro h11 (And.intro (fun x hx => by have := U9d.lt x hx; have e : w9.heap.size = M9 := hM9d; show x.b < M10; omega) U11a)
                  clear e0 e1 e2 e3 e4 e5 e6 hI b11 b11' h11 S9d U9d B9d C9d cI cR hM9d hM10
                  have CS := fun w M hM hT hU => Sound_any (N + 1) c f (⟨M10, a, r⟩ :: u :: us) (by simp) (by simp only [List.length_cons, List.length_nil]; omega) w M hM hT hU
                  rw [HV.out M10] at CS
                  have CC := fun w M hM hU => Chain_any (⟨M10, a, r⟩ :: u :: us) (by simp) (by simp only [List.length_cons, List.length_nil]; omega) w M hM hU
                  obtain ⟨K, hK⟩ : ∃ K, K = (⟨M10, a, r⟩ :: u :: us : List Tk).length := ⟨_, rfl⟩
                  rw [← hK] at CC
                  have l11 : N + 1 ≤ M10 + 1 := by omega
                  obtain rfl : K = l + 2 := by rw [hK]; simp only [List.length_cons, hus]
                  clear hK
                  go_wp2_with (first
                    | (go_at_call 32; refine (CS _ _ hM11 B11.t U11).mono ?_; rintro e w12 ⟨rfl, b12⟩; obtain ⟨M12, hM12⟩ := sz_some w12; have l12 := below_sz b12 hM11 hM12; have U12 := U11.below hM11 b12)
                    | (go_at_call 31; refine (CC _ M12 hM12 U12).mono ?_; rintro e w13 ⟨g, cap', rfl, hg, hO, b13⟩)
                    | fail)
                  have b13' := b12.trans (b13.mono l12)
                  have B13 := B11.below hM11 l11 b13'
                  have C13 := C11.below b13' (C11.ltN hM11)
                  have U13 := U11.below hM11 b13'
                  go_roundg (n3 - (l + 1 + 1))
                  case measure => have := Hlt.out; omega
                  case rel => exact ⟨l + 1 + 1, ⟨M10, a, r⟩ :: u :: us, Hlt.out, rfl, rfl, by rw [HV.out M10], by go_num, by simp only [List.length_cons, hus], fun t us e => by
                      injection e with e1 e2
                      subst e1
                      exact ⟨Ha.out, Hr.out⟩, U13, B13, C13⟩
              · cases x2
                · go_upto_region 17 with (first
                    | (go_at_call 45; refine (CI _ _ hM8 B8.r).mono ?_; rintro e w9 ⟨rfl, b9⟩)
                    | fail)
                  have B9 := B8.below hM8 l8 b9
                  have U9 := U8.below hM8 b9
                  have C9 := C8.below b9 (C8.ltN hM8)
                  have S9 := S8.below b9 (by omega)
                  obtain ⟨M9, hM9⟩ := sz_some w9
                  have l9' := below_sz b9 hM8 hM9
                  have l9 : N + 1 ≤ M9 := by omega
                  clear B8 U8 C8 S8 hM8 cI8 cR8 cJ8 cT8 CI CW b9
                  have HV := hid (fun b' => (SV.out b').trans (by rfl : _ = false))
                  refine wp_region_any (by kernel_rfl) ?_
                  have S9d : Has w9.drew S 71 7 (stC a r) := S9
                  have U9d : Tks w9.drew (u :: us) := U9.same (fun _ _ => rfl)
                  have B9d := B9.drew
                  have C9d : Has w9.drew N 54 2 (csC q n cap (some ⟨sb, so, none⟩) n2 cap2) := C9
                  have hM9d : Sz w9.drew M9 := hM9
                  change wpAny _ _ _ _ _ _ _ (World.drew _)
                  clear S9 U9 B9 C9 hM9
                  generalize w9.drew = w9 at *
                  have cI : w9.cell? ⟨S, 0, none⟩ = some (.int .i64 a) := S9d.cell (j := 0) (by omega)
                  have cR : ∀ j, j < 6 → w9.cell? ⟨S, 1 + j, none⟩ = some (rgC r j) := fun j hj => by
                    rw [S9d.cell (j := 1 + j) (by omega)]
                    unfold stC
                    rw [if_neg (by omega), show 1 + j - 1 = j by omega]
                  refine wpAny_pot (rem := [0, 1, 2, 3, 4, 5, 6]) (FV M9 26 rgNone (fun j => if j = 0 then some (.pointer (some ⟨S, 0, none⟩)) else if j = 1 then some (.int .i64 a) else if j = 2 then some (.pointer (some ⟨S, 1, none⟩)) else if j = 3 then some (rgV r) else if j = 4 then some (rgV r)
                      else if j = 5 then some (.pointer (some ⟨u.b, 0, none⟩)) else if j = 6 then some (.agg (cellsOf (tkC a r (.pointer (some ⟨u.b, 0, none⟩))) 8)) else none)) NoB (Below M9 w9) _ _ _ _ (by kernel_rfl) (size_dst (by kernel_rfl)) (Below.refl _ _) ?_ ?_
                  · intro i hi ax wa hI ha hv
                    simp only [List.mem_cons, List.not_mem_nil, or_false] at hi
                    rcases hi with rfl | rfl | rfl | rfl | rfl | rfl | rfl
                    · have h : ax.tmps.getD 9 undef = .pointer (some ⟨S, 0, none⟩) := ha 9 (not_dst (by kernel_rfl))
                      exact potv_run rfl rfl _ rfl (by clear hv ha; go_simp) hM9d hI
                    · obtain ⟨v, hv1, hv2⟩ := hv 0 (by simp) (by kernel_rfl)
                      have e := hv2.val rfl
                      subst e
                      have h := hv1 88 (by rfl)
                      have c := cellB hM9d cI hI
                      exact potv_run rfl rfl _ rfl (by clear hv hv1 hv2 ha; go_simp) hM9d hI
                    · have h : ax.tmps.getD 9 undef = .pointer (some ⟨S, 0, none⟩) := ha 9 (not_dst (by kernel_rfl))
                      exact potv_run rfl rfl _ rfl (by clear hv ha; go_simp) hM9d hI
                    · obtain ⟨v, hv1, hv2⟩ := hv 2 (by simp) (by kernel_rfl)
                      have e := hv2.val rfl
                      subst e
                      have h := hv1 90 (by rfl)
                      obtain ⟨dF, v1, v2⟩ := undRF
                      exact potv_run rfl rfl _ rfl (run_ldc 24 (.tmp 90) rfl S 1 h 6 (rgC r) (fun j hj => cellB hM9d (cR j hj) hI) _ v1 v2 szRF) hM9d hI
                    · obtain ⟨v, hv1, hv2⟩ := hv 3 (by simp) (by kernel_rfl)
                      have e := hv2.val rfl
                      subst e
                      exact potv_cl rfl rfl 40 _ _ rfl #[rgV r] (by simp only [List.map_toArray, List.map_cons, List.map_nil]; exact congrArg (fun u => #[u]) (hv1 91 (by rfl))) (by kernel_rfl) _ (fun K hK => To12_any r wa K hK) rfl hM9d hI
                    · have h : ax.tmps.getD 6 undef = .pointer (some ⟨u.b, 0, none⟩) := ha 6 (not_dst (by kernel_rfl))
                      exact potv_run rfl rfl _ rfl (by clear hv ha; go_simp) hM9d hI
                    · obtain ⟨x1, hx1, hy1⟩ := hv 1 (by simp) (by kernel_rfl)
                      obtain ⟨x2, hx2, hy2⟩ := hv 4 (by simp) (by kernel_rfl)
                      obtain ⟨x3, hx3, hy3⟩ := hv 5 (by simp) (by kernel_rfl)
                      have e1 : ax.eval (.tmp 89) = .int .i64 a := (hx1 89 (by rfl)).trans (hy1.val rfl)
                      have e2 : ax.eval (.tmp 92) = rgV r := (hx2 92 (by rfl)).trans (hy2.val rfl)
                      have e3 : ax.eval (.tmp 93) = .pointer (some ⟨u.b, 0, none⟩) := (hx3 93 (by rfl)).trans (hy3.val rfl)
                      exact op_list rfl (wpl_build rfl 74 _ rfl (cellsOf (tkC a r (.pointer (some ⟨u.b, 0, none⟩))) 8) (by
                        simp only [List.map_toArray, List.map_cons, List.map_nil, e1, e2, e3]
                        kernel_rfl) (potV_val rfl _ rfl hM9d hI _ (fun M _ => Below.refl M _)))
                  · intro vals w10 hI hF hG
                    have e0 := (hF 0 (by simp)).val rfl
                    have e1 := (hF 1 (by simp)).val rfl
                    have e2 := (hF 2 (by simp)).val rfl
                    have e3 := (hF 3 (by simp)).val rfl
                    have e4 := (hF 4 (by simp)).val rfl
                    have e5 := (hF 5 (by simp)).val rfl
                    have e6 := (hF 6 (by simp)).val rfl
                    clear hF hG
                    simp only [List.foldl_cons, List.foldl_nil, dstOf, List.getElem?_toArray, List.getElem?_cons_succ, List.getElem?_cons_zero, Option.bind_some, Act.put, List.setIfInBounds_toArray, List.set_cons_succ, List.set_cons_zero, e0, e1, e2, e3, e4, e5, e6]
                    refine wpAny_chain [7, 8] _ _ _ _ (by kernel_rfl) (by decide) ?_
                    simp only [List.filterMap_cons, List.filterMap_nil, List.getElem?_toArray, List.getElem?_cons_succ, List.getElem?_cons_zero]
                    obtain ⟨M10, hM10⟩ := sz_some w10
                    have l10 := below_sz hI hM9d hM10
                    refine wpl_box rfl 74 (.tmp 94) rfl 8 _ rfl M10 hM10 ?_
                    intro w11 hM11 b11 h11
                    simp only [Act.put, List.setIfInBounds_toArray, List.set_cons_succ, List.set_cons_zero]
                    refine wpl_pure rfl (v := .pointer (some ⟨M10, 0, none⟩)) (fun w => rfl) ?_
                    simp only [Act.put, List.setIfInBounds_toArray, List.set_cons_succ, List.set_cons_zero]
                    have b11' := hI.trans (b11.mono l10)
                    have B11 := B9d.below hM9d l9 b11'
                    have C11 := C9d.below b11' (C9d.ltN hM9d)
                    have U11a := U9d.below hM9d b11'
                    have U11 : Tks w11 (⟨M10, a, r⟩ :: u :: us) := And.intro h11 (And.intro (fun x hx => by have := U9d.lt x hx; have e : w9.heap.size = M9 := hM9d; show x.b < M10; omega) U11a)
                    clear e0 e1 e2 e3 e4 e5 e6 hI b11 b11' h11 S9d U9d B9d C9d cI cR hM9d hM10
                    have CS := fun w M hM hT hU => Sound_any (N + 1) c f (⟨M10, a, r⟩ :: u :: us) (by simp) (by simp only [List.length_cons, List.length_nil]; omega) w M hM hT hU
                    rw [HV.out M10] at CS
                    have CC := fun w M hM hU => Chain_any (⟨M10, a, r⟩ :: u :: us) (by simp) (by simp only [List.length_cons, List.length_nil]; omega) w M hM hU
                    obtain ⟨K, hK⟩ : ∃ K, K = (⟨M10, a, r⟩ :: u :: us : List Tk).length := ⟨_, rfl⟩
                    rw [← hK] at CC
                    have l11 : N + 1 ≤ M10 + 1 := by omega
                    obtain rfl : K = l + 2 := by rw [hK]; simp only [List.length_cons, hus]
                    clear hK
                    go_wp2_with (first
                      | (go_at_call 32; refine (CS _ _ hM11 B11.t U11).mono ?_; rintro e w12 ⟨rfl, b12⟩; obtain ⟨M12, hM12⟩ := sz_some w12; have l12 := below_sz b12 hM11 hM12; have U12 := U11.below hM11 b12)
                      | (go_at_call 31; refine (CC _ M12 hM12 U12).mono ?_; rintro e w13 ⟨g, cap', rfl, hg, hO, b13⟩)
                      | fail)
                    have b13' := b12.trans (b13.mono l12)
                    have B13 := B11.below hM11 l11 b13'
                    have C13 := C11.below b13' (C11.ltN hM11)
                    have U13 := U11.below hM11 b13'
                    go_roundg (n3 - (l + 1 + 1))
                    case measure => have := Hlt.out; omega
                    case rel => exact ⟨l + 1 + 1, ⟨M10, a, r⟩ :: u :: us, Hlt.out, rfl, rfl, by rw [HV.out M10], by go_num, by simp only [List.length_cons, hus], fun t us e => by
                        injection e with e1 e2
                        subst e1
                        exact ⟨Ha.out, Hr.out⟩, U13, B13, C13⟩
                · go_upto_region 17 with (first
                    | (go_at_call 45
                       refine (CI _ _ hM8 B8.r).mono ?_
                       rintro e w7 ⟨rfl, b7⟩
                       obtain ⟨M7, hM7⟩ := sz_some w7
                       have l7 := below_sz b7 hM8 hM7
                       have cR7 := fun j hj => cellB hM8 (cR8 j hj) b7
                       have cT7 := fun j hj => cellB hM8 (cT8 j hj) b7)
                    | (refine wpl_load_cellsg 24 (.tmp 82) rfl S 1 rfl 6 (rgC r) cR7 _ v1 v2 szRF ?_ (by rfl))
                    | (refine wpl_load_cellsg 24 (.tmp 84) rfl (S + 1) 1 rfl 6 (rgC u.r) cT7 _ v1 v2 szRF ?_ (by rfl))
                    | (go_at_call 18; refine (CW _ _ hM7).mono ?_; rintro e w9 ⟨rfl, b9⟩)
                    | fail)
                  have b9' := b7.trans (b9.mono l7)
                  have B9 := B8.below hM8 l8 b9'
                  have U9 := U8.below hM8 b9'
                  have C9 := C8.below b9' (C8.ltN hM8)
                  have S9 := S8.below b9' (by omega)
                  obtain ⟨M9, hM9⟩ := sz_some w9
                  have l9' := below_sz b9' hM8 hM9
                  have l9 : N + 1 ≤ M9 := by omega
                  clear B8 U8 C8 S8 hM8 cI8 cR8 cJ8 cT8 CI CW b9 b9' b7 cR7 cT7 hM7
                  have HV := hid (fun b' => (SV.out b').trans (by rfl : _ = x3))
                  refine wp_region_any (by kernel_rfl) ?_
                  have S9d : Has w9.drew S 71 7 (stC a r) := S9
                  have U9d : Tks w9.drew (u :: us) := U9.same (fun _ _ => rfl)
                  have B9d := B9.drew
                  have C9d : Has w9.drew N 54 2 (csC q n cap (some ⟨sb, so, none⟩) n2 cap2) := C9
                  have hM9d : Sz w9.drew M9 := hM9
                  change wpAny _ _ _ _ _ _ _ (World.drew _)
                  clear S9 U9 B9 C9 hM9
                  generalize w9.drew = w9 at *
                  have cI : w9.cell? ⟨S, 0, none⟩ = some (.int .i64 a) := S9d.cell (j := 0) (by omega)
                  have cR : ∀ j, j < 6 → w9.cell? ⟨S, 1 + j, none⟩ = some (rgC r j) := fun j hj => by
                    rw [S9d.cell (j := 1 + j) (by omega)]
                    unfold stC
                    rw [if_neg (by omega), show 1 + j - 1 = j by omega]
                  refine wpAny_pot (rem := [0, 1, 2, 3, 4, 5, 6]) (FV M9 26 rgNone (fun j => if j = 0 then some (.pointer (some ⟨S, 0, none⟩)) else if j = 1 then some (.int .i64 a) else if j = 2 then some (.pointer (some ⟨S, 1, none⟩)) else if j = 3 then some (rgV r) else if j = 4 then some (rgV r)
                      else if j = 5 then some (.pointer (some ⟨u.b, 0, none⟩)) else if j = 6 then some (.agg (cellsOf (tkC a r (.pointer (some ⟨u.b, 0, none⟩))) 8)) else none)) NoB (Below M9 w9) _ _ _ _ (by kernel_rfl) (size_dst (by kernel_rfl)) (Below.refl _ _) ?_ ?_
                  · intro i hi ax wa hI ha hv
                    simp only [List.mem_cons, List.not_mem_nil, or_false] at hi
                    rcases hi with rfl | rfl | rfl | rfl | rfl | rfl | rfl
                    · have h : ax.tmps.getD 9 undef = .pointer (some ⟨S, 0, none⟩) := ha 9 (not_dst (by kernel_rfl))
                      exact potv_run rfl rfl _ rfl (by clear hv ha; go_simp) hM9d hI
                    · obtain ⟨v, hv1, hv2⟩ := hv 0 (by simp) (by kernel_rfl)
                      have e := hv2.val rfl
                      subst e
                      have h := hv1 88 (by rfl)
                      have c := cellB hM9d cI hI
                      exact potv_run rfl rfl _ rfl (by clear hv hv1 hv2 ha; go_simp) hM9d hI
                    · have h : ax.tmps.getD 9 undef = .pointer (some ⟨S, 0, none⟩) := ha 9 (not_dst (by kernel_rfl))
                      exact potv_run rfl rfl _ rfl (by clear hv ha; go_simp) hM9d hI
                    · obtain ⟨v, hv1, hv2⟩ := hv 2 (by simp) (by kernel_rfl)
                      have e := hv2.val rfl
                      subst e
                      have h := hv1 90 (by rfl)
                      obtain ⟨dF, v1, v2⟩ := undRF
                      exact potv_run rfl rfl _ rfl (run_ldc 24 (.tmp 90) rfl S 1 h 6 (rgC r) (fun j hj => cellB hM9d (cR j hj) hI) _ v1 v2 szRF) hM9d hI
                    · obtain ⟨v, hv1, hv2⟩ := hv 3 (by simp) (by kernel_rfl)
                      have e := hv2.val rfl
                      subst e
                      exact potv_cl rfl rfl 40 _ _ rfl #[rgV r] (by simp only [List.map_toArray, List.map_cons, List.map_nil]; exact congrArg (fun u => #[u]) (hv1 91 (by rfl))) (by kernel_rfl) _ (fun K hK => To12_any r wa K hK) rfl hM9d hI
                    · have h : ax.tmps.getD 6 undef = .pointer (some ⟨u.b, 0, none⟩) := ha 6 (not_dst (by kernel_rfl))
                      exact potv_run rfl rfl _ rfl (by clear hv ha; go_simp) hM9d hI
                    · obtain ⟨x1, hx1, hy1⟩ := hv 1 (by simp) (by kernel_rfl)
                      obtain ⟨x2, hx2, hy2⟩ := hv 4 (by simp) (by kernel_rfl)
                      obtain ⟨x3, hx3, hy3⟩ := hv 5 (by simp) (by kernel_rfl)
                      have e1 : ax.eval (.tmp 89) = .int .i64 a := (hx1 89 (by rfl)).trans (hy1.val rfl)
                      have e2 : ax.eval (.tmp 92) = rgV r := (hx2 92 (by rfl)).trans (hy2.val rfl)
                      have e3 : ax.eval (.tmp 93) = .pointer (some ⟨u.b, 0, none⟩) := (hx3 93 (by rfl)).trans (hy3.val rfl)
                      exact op_list rfl (wpl_build rfl 74 _ rfl (cellsOf (tkC a r (.pointer (some ⟨u.b, 0, none⟩))) 8) (by
                        simp only [List.map_toArray, List.map_cons, List.map_nil, e1, e2, e3]
                        kernel_rfl) (potV_val rfl _ rfl hM9d hI _ (fun M _ => Below.refl M _)))
                  · intro vals w10 hI hF hG
                    have e0 := (hF 0 (by simp)).val rfl
                    have e1 := (hF 1 (by simp)).val rfl
                    have e2 := (hF 2 (by simp)).val rfl
                    have e3 := (hF 3 (by simp)).val rfl
                    have e4 := (hF 4 (by simp)).val rfl
                    have e5 := (hF 5 (by simp)).val rfl
                    have e6 := (hF 6 (by simp)).val rfl
                    clear hF hG
                    simp only [List.foldl_cons, List.foldl_nil, dstOf, List.getElem?_toArray, List.getElem?_cons_succ, List.getElem?_cons_zero, Option.bind_some, Act.put, List.setIfInBounds_toArray, List.set_cons_succ, List.set_cons_zero, e0, e1, e2, e3, e4, e5, e6]
                    refine wpAny_chain [7, 8] _ _ _ _ (by kernel_rfl) (by decide) ?_
                    simp only [List.filterMap_cons, List.filterMap_nil, List.getElem?_toArray, List.getElem?_cons_succ, List.getElem?_cons_zero]
                    obtain ⟨M10, hM10⟩ := sz_some w10
                    have l10 := below_sz hI hM9d hM10
                    refine wpl_box rfl 74 (.tmp 94) rfl 8 _ rfl M10 hM10 ?_
                    intro w11 hM11 b11 h11
                    simp only [Act.put, List.setIfInBounds_toArray, List.set_cons_succ, List.set_cons_zero]
                    refine wpl_pure rfl (v := .pointer (some ⟨M10, 0, none⟩)) (fun w => rfl) ?_
                    simp only [Act.put, List.setIfInBounds_toArray, List.set_cons_succ, List.set_cons_zero]
                    have b11' := hI.trans (b11.mono l10)
                    have B11 := B9d.below hM9d l9 b11'
                    have C11 := C9d.below b11' (C9d.ltN hM9d)
                    have U11a := U9d.below hM9d b11'
                    have U11 : Tks w11 (⟨M10, a, r⟩ :: u :: us) := And.intro h11 (And.intro (fun x hx => by have := U9d.lt x hx; have e : w9.heap.size = M9 := hM9d; show x.b < M10; omega) U11a)
                    clear e0 e1 e2 e3 e4 e5 e6 hI b11 b11' h11 S9d U9d B9d C9d cI cR hM9d hM10
                    have CS := fun w M hM hT hU => Sound_any (N + 1) c f (⟨M10, a, r⟩ :: u :: us) (by simp) (by simp only [List.length_cons, List.length_nil]; omega) w M hM hT hU
                    rw [HV.out M10] at CS
                    have CC := fun w M hM hU => Chain_any (⟨M10, a, r⟩ :: u :: us) (by simp) (by simp only [List.length_cons, List.length_nil]; omega) w M hM hU
                    obtain ⟨K, hK⟩ : ∃ K, K = (⟨M10, a, r⟩ :: u :: us : List Tk).length := ⟨_, rfl⟩
                    rw [← hK] at CC
                    have l11 : N + 1 ≤ M10 + 1 := by omega
                    obtain rfl : K = l + 2 := by rw [hK]; simp only [List.length_cons, hus]
                    clear hK
                    have qq : (x3 != x3) = false := by simp
                    go_wp2_with (first
                      | (go_at_call 32; refine (CS _ _ hM11 B11.t U11).mono ?_; rintro e w12 ⟨rfl, b12⟩; obtain ⟨M12, hM12⟩ := sz_some w12; have l12 := below_sz b12 hM11 hM12; have U12 := U11.below hM11 b12)
                      | (go_at_call 31; refine (CC _ M12 hM12 U12).mono ?_; rintro e w13 ⟨g, cap', rfl, hg, hO, b13⟩)
                      | fail)
                    have b13' := b12.trans (b13.mono l12)
                    have B13 := B11.below hM11 l11 b13'
                    have C13 := C11.below b13' (C11.ltN hM11)
                    have U13 := U11.below hM11 b13'
                    go_roundg (n3 - (l + 1 + 1))
                    case measure => have := Hlt.out; omega
                    case rel => exact ⟨l + 1 + 1, ⟨M10, a, r⟩ :: u :: us, Hlt.out, rfl, rfl, by rw [HV.out M10], by go_num, by simp only [List.length_cons, hus], fun t us e => by
                        injection e with e1 e2
                        subst e1
                        exact ⟨Ha.out, Hr.out⟩, U13, B13, C13⟩
          · have q1 : ¬ ((k : Int) < (n2 : Int)) ∨ ((k : Int) < (n2 : Int) ∧ ¬ ((k : Int) < 6)) := by have := Hn3.out; omega
            have hHr := hH.below hN lo
            have DD := derives_any wr S hM hHr
            clear hlt
            rcases q1 with q1 | ⟨q1, q2'⟩
            · go_wp2_with (first
                | (go_at_call 30; refine DD.mono ?_; rintro e w9 ⟨rfl, b9⟩)
                | fail)
              go_ret
              exact ⟨rfl, lo.trans (b9.mono (by omega))⟩
            · go_wp2_with (first
                | (go_at_call 30; refine DD.mono ?_; rintro e w9 ⟨rfl, b9⟩)
                | fail)
              go_ret
              exact ⟨rfl, lo.trans (b9.mono (by omega))⟩
      · go_wp2_with fail
        obtain ⟨n3, hn3⟩ : ∃ n3, n3 = min n2 6 := ⟨_, rfl⟩
        have Hn3 := hid hn3
        have g1 : n3 ≤ 6 := by omega
        have g2 : n3 ≤ n2 := by omega
        clear hn3
        have H1 := hid (And.intro B hC)
        clear cq hM hNM k0 k20 hlt hk B hC hZ0 Hn1
        go_loopg [6, 7, 8] n3 (fun g x sv i wr => ∃ (k : Nat) (ts : List Tk), k ≤ n3 ∧ g = n3 - k ∧ x = ptrOf ts ∧ sv = .bool (sndT f c ts) ∧ i = .int .i64 (k : Int) ∧ ts.length = k ∧ (∀ t us, ts = t :: us → t.at_ = SA (k - 1) ∧ t.r = SR (k - 1)) ∧
          Tks wr ts ∧ Both w0 wr (N + 1) (N + 1) c f (N + 1 + 1 + 1) p cp ∧ Has wr N 54 2 (csC q n cap q2 n2 cap2))
        case atStart => exact ⟨0, [], by omega, rfl, rfl, rfl, rfl, rfl, fun t us e => (by cases e), trivial, H1.out.1, H1.out.2⟩
        case round =>
          clear H1
          obtain ⟨k, ts, hk, rfl, rfl, rfl, rfl, hlen, hhd, hU, B, hC⟩ := hrel
          obtain ⟨S, hM⟩ := sz_some wr
          have hNM := below_sz B.bel hN0 hM
          have lo := lo0.out.trans (B.bel.mono (show N ≤ N + 1 by omega))
          have k0 : (0 : Int) ≤ (k : Int) := by omega
          have cq2 : wr.cell? ⟨N, 1, none⟩ = some (.slice q2 n2 cap2) := hC.cell (j := 1) (by omega)
          by_cases hlt : k < n3
          · have i1 : (k : Int) < (n2 : Int) := by omega
            have i2 : (k : Int) < 6 := by omega
            obtain ⟨sb, so, rfl, hsc⟩ := hS (by omega)
            have hsb : sb < N := by have := World.block_lt_of_cell? w _ (hsc k (by omega) 0 (by omega)); have e : w.heap.size = N := hN; simp only at this ⊢; omega
            obtain ⟨a, ha⟩ : ∃ a, a = SA k := ⟨_, rfl⟩
            obtain ⟨r, hr⟩ : ∃ r, r = SR k := ⟨_, rfl⟩
            have d7 : ∀ i, i < 7 → wr.cell? ⟨sb, so + k * 7 + i, none⟩ = some (stC a r i) := fun i hi => by
              rw [lo.cell (p := ⟨sb, so + k * 7 + i, none⟩) hsb, ha, hr]
              exact hsc k (by omega) i hi
            have Ha : Hid (a = SA (k + 1 - 1)) := hid ha
            have Hr : Hid (r = SR (k + 1 - 1)) := hid hr
            have Hlt := hid hlt
            have Hsc := hid hsc
            clear ha hr hlt hsc
            obtain ⟨dS, s1, s2⟩ := undStp
            obtain ⟨dF, v1, v2⟩ := undRF
            go_upto_region 13 with (first
              | (refine wpl_load_cells rfl 71 (.tmp 52) rfl sb (so + k * 7) rfl 7 (stC a r) d7 _ s1 s2 szStp ?_)
              | (refine wpl_alloc rfl 71 rfl 7 (stC 0 rgNone) zeStp S hM ?_; intro w5 hM5 b5 h5)
              | (refine wpl_store rfl 71 (.tmp 9) (.tmp 53) rfl S 7 (stC a r) rfl rfl 71 _ h5 szStp (fun j _ => stC_one a r j) ?_; intro w6 t6 h6)
              | fail)
            have b6 := t6.below b5 (Nat.le_refl S)
            have hM6 := t6.sz hM5
            have B6 := B.below hM hNM b6
            have U6 := hU.below hM b6
            have C6 := hC.below b6 (hC.ltN hM)
            have lo6 := lo.trans (b6.mono (by omega))
            have cI : w6.cell? ⟨S, 0, none⟩ = some (.int .i64 a) := h6.cell (j := 0) (by omega)
            have cR : ∀ j, j < 6 → w6.cell? ⟨S, 1 + j, none⟩ = some (rgC r j) := fun j hj => by
              rw [h6.cell (j := 1 + j) (by omega)]
              unfold stC
              rw [if_neg (by omega), show 1 + j - 1 = j by omega]
            clear d7 b5 h5 t6 hM5 B hU hC hM b6 lo
            by_cases hz : k = 0
            · subst hz
              obtain rfl : ts = [] := List.eq_nil_of_length_eq_zero hlen
              clear hhd U6 hlen
              have HW := fun w M hM => RWithin_any r rgAll w M hM
              have HH := fun w hT => Has_any (N + 1 + 1 + 1) c cp p f a w hT
              have SV := hid (fun b' : Nat => sndT_one (f := f) (c := c) ⟨b', a, r⟩)
              obtain ⟨x1, hx1⟩ : ∃ x1, x1 = rWithin r rgAll := ⟨_, rfl⟩
              have Hx1 := hid hx1
              rw [← hx1] at HW
              clear hx1
              have hA : ∀ x : Later (S + 1) w6, (Instr.loadAt 3 (.pointer (some ⟨S, 0, none⟩))).run Tryd.prog x.w' = .ok (.int .i64 a) x.w' := fun x => by
                have c := Later.cell hM6 cI x
                go_simp
              go_upto_region 14 with fail
              refine wp_region_later (S + 1) (by kernel_rfl) (by kernel_rfl) ?_
              try simp only [Act.put, List.setIfInBounds_toArray, List.set_cons_succ, List.set_cons_zero]
              go_big_quiet_step (fail)
              refine later_val (fun x => run_ldc 24 (.tmp 56) rfl S 1 rfl 6 (rgC r) (fun j hj => Later.cell hM6 (cR j hj) x) _ v1 v2 szRF) (by rfl) ?_; simp only [Act.put, List.setIfInBounds_toArray, List.set_cons_succ, List.set_cons_zero]
              go_big_quiet_step ((go_at_call 43; exact later_of hM6 _ (fun K hK hKN => All12_any _ K hK)))
              go_big_quiet_step ((go_at_call 18; exact later_of hM6 _ (fun K hK hKN => HW _ K hK)))
              cases x1
              · iterate 7 go_big_quiet_step (fail)
                refine wpQuiet_nil ?_
                rintro w9 ⟨q9, e9⟩
                have b9 := q9.b
                rw [← e9] at b9
                clear e9 q9
                have l6 : N + 1 ≤ S + 1 := by omega
                have B9 := B6.below hM6 l6 b9
                have C9 := C6.below b9 (C6.ltN hM6)
                have S9 := h6.below b9 (by omega)
                have U9 : Tks w9 [] := trivial
                obtain ⟨M9, hM9⟩ := sz_some w9
                have l9' := below_sz b9 hM6 hM9
                have l9 : N + 1 ≤ M9 := by omega
                clear B6 C6 h6 b9 hM6 lo6 cI cR hA HW HH
                go_upto_region 17 with fail
                have HV := hid (fun b' => (SV.out b').trans (by show (rWithin r rgAll && isIn c a) = _; rw [← Hx1.out]; rfl : _ = false))
                refine wp_region_any (by kernel_rfl) ?_
                have S9d : Has w9.drew S 71 7 (stC a r) := S9
                have U9d : Tks w9.drew ([]) := U9.same (fun _ _ => rfl)
                have B9d := B9.drew
                have C9d : Has w9.drew N 54 2 (csC q n cap (some ⟨sb, so, none⟩) n2 cap2) := C9
                have hM9d : Sz w9.drew M9 := hM9
                change wpAny _ _ _ _ _ _ _ (World.drew _)
                clear S9 U9 B9 C9 hM9
                generalize w9.drew = w9 at *
                have cI : w9.cell? ⟨S, 0, none⟩ = some (.int .i64 a) := S9d.cell (j := 0) (by omega)
                have cR : ∀ j, j < 6 → w9.cell? ⟨S, 1 + j, none⟩ = some (rgC r j) := fun j hj => by
                  rw [S9d.cell (j := 1 + j) (by omega)]
                  unfold stC
                  rw [if_neg (by omega), show 1 + j - 1 = j by omega]
                refine wpAny_pot (rem := [0, 1, 2, 3, 4, 5, 6]) (FV M9 26 rgNone (fun j => if j = 0 then some (.pointer (some ⟨S, 0, none⟩)) else if j = 1 then some (.int .i64 a) else if j = 2 then some (.pointer (some ⟨S, 1, none⟩)) else if j = 3 then some (rgV r) else if j = 4 then some (rgV r)
                    else if j = 5 then some (.pointer none) else if j = 6 then some (.agg (cellsOf (tkC a r (.pointer none)) 8)) else none)) NoB (Below M9 w9) _ _ _ _ (by kernel_rfl) (size_dst (by kernel_rfl)) (Below.refl _ _) ?_ ?_
                · intro i hi ax wa hI ha hv
                  simp only [List.mem_cons, List.not_mem_nil, or_false] at hi
                  rcases hi with rfl | rfl | rfl | rfl | rfl | rfl | rfl
                  · have h : ax.tmps.getD 9 undef = .pointer (some ⟨S, 0, none⟩) := ha 9 (not_dst (by kernel_rfl))
                    exact potv_run rfl rfl _ rfl (by clear hv ha; go_simp) hM9d hI
                  · obtain ⟨v, hv1, hv2⟩ := hv 0 (by simp) (by kernel_rfl)
                    have e := hv2.val rfl
                    subst e
                    have h := hv1 88 (by rfl)
                    have c := cellB hM9d cI hI
                    exact potv_run rfl rfl _ rfl (by clear hv hv1 hv2 ha; go_simp) hM9d hI
                  · have h : ax.tmps.getD 9 undef = .pointer (some ⟨S, 0, none⟩) := ha 9 (not_dst (by kernel_rfl))
                    exact potv_run rfl rfl _ rfl (by clear hv ha; go_simp) hM9d hI
                  · obtain ⟨v, hv1, hv2⟩ := hv 2 (by simp) (by kernel_rfl)
                    have e := hv2.val rfl
                    subst e
                    have h := hv1 90 (by rfl)
                    obtain ⟨dF, v1, v2⟩ := undRF
                    exact potv_run rfl rfl _ rfl (run_ldc 24 (.tmp 90) rfl S 1 h 6 (rgC r) (fun j hj => cellB hM9d (cR j hj) hI) _ v1 v2 szRF) hM9d hI
                  · obtain ⟨v, hv1, hv2⟩ := hv 3 (by simp) (by kernel_rfl)
                    have e := hv2.val rfl
                    subst e
                    exact potv_cl rfl rfl 40 _ _ rfl #[rgV r] (by simp only [List.map_toArray, List.map_cons, List.map_nil]; exact congrArg (fun u => #[u]) (hv1 91 (by rfl))) (by kernel_rfl) _ (fun K hK => To12_any r wa K hK) rfl hM9d hI
                  · have h : ax.tmps.getD 6 undef = .pointer none := ha 6 (not_dst (by kernel_rfl))
                    exact potv_run rfl rfl _ rfl (by clear hv ha; go_simp) hM9d hI
                  · obtain ⟨x1, hx1, hy1⟩ := hv 1 (by simp) (by kernel_rfl)
                    obtain ⟨x2, hx2, hy2⟩ := hv 4 (by simp) (by kernel_rfl)
                    obtain ⟨x3, hx3, hy3⟩ := hv 5 (by simp) (by kernel_rfl)
                    have e1 : ax.eval (.tmp 89) = .int .i64 a := (hx1 89 (by rfl)).trans (hy1.val rfl)
                    have e2 : ax.eval (.tmp 92) = rgV r := (hx2 92 (by rfl)).trans (hy2.val rfl)
                    have e3 : ax.eval (.tmp 93) = .pointer none := (hx3 93 (by rfl)).trans (hy3.val rfl)
                    exact op_list rfl (wpl_build rfl 74 _ rfl (cellsOf (tkC a r (.pointer none)) 8) (by
                      simp only [List.map_toArray, List.map_cons, List.map_nil, e1, e2, e3]
                      kernel_rfl) (potV_val rfl _ rfl hM9d hI _ (fun M _ => Below.refl M _)))
                · intro vals w10 hI hF hG
                  have e0 := (hF 0 (by simp)).val rfl
                  have e1 := (hF 1 (by simp)).val rfl
                  have e2 := (hF 2 (by simp)).val rfl
                  have e3 := (hF 3 (by simp)).val rfl
                  have e4 := (hF 4 (by simp)).val rfl
                  have e5 := (hF 5 (by simp)).val rfl
                  have e6 := (hF 6 (by simp)).val rfl
                  clear hF hG
                  simp only [List.foldl_cons, List.foldl_nil, dstOf, List.getElem?_toArray, List.getElem?_cons_succ, List.getElem?_cons_zero, Option.bind_some, Act.put, List.setIfInBounds_toArray, List.set_cons_succ, List.set_cons_zero, e0, e1, e2, e3, e4, e5, e6]
                  refine wpAny_chain [7, 8] _ _ _ _ (by kernel_rfl) (by decide) ?_
                  simp only [List.filterMap_cons, List.filterMap_nil, List.getElem?_toArray, List.getElem?_cons_succ, List.getElem?_cons_zero]
                  obtain ⟨M10, hM10⟩ := sz_some w10
                  have l10 := below_sz hI hM9d hM10
                  refine wpl_box rfl 74 (.tmp 94) rfl 8 _ rfl M10 hM10 ?_
                  intro w11 hM11 b11 h11
                  simp only [Act.put, List.setIfInBounds_toArray, List.set_cons_succ, List.set_cons_zero]
                  refine wpl_pure rfl (v := .pointer (some ⟨M10, 0, none⟩)) (fun w => rfl) ?_
                  simp only [Act.put, List.setIfInBounds_toArray, List.set_cons_succ, List.set_cons_zero]
                  have b11' := hI.trans (b11.mono l10)
                  have B11 := B9d.below hM9d l9 b11'
                  have C11 := C9d.below b11' (C9d.ltN hM9d)
                  have U11a := U9d.below hM9d b11'
                  have U11 : Tks w11 (⟨M10, a, r⟩ :: []) := And.intro h11 (And.intro (fun x hx => by have := U9d.lt x hx; have e : w9.heap.size = M9 := hM9d; show x.b < M10; omega) U11a)
                  clear e0 e1 e2 e3 e4 e5 e6 hI b11 b11' h11 S9d U9d B9d C9d cI cR hM9d hM10
                  have CS := fun w M hM hT hU => Sound_any (N + 1) c f (⟨M10, a, r⟩ :: []) (by simp) (by simp only [List.length_cons, List.length_nil]; omega) w M hM hT hU
                  rw [HV.out M10] at CS
                  have CC := fun w M hM hU => Chain_any (⟨M10, a, r⟩ :: []) (by simp) (by simp only [List.length_cons, List.length_nil]; omega) w M hM hU
                  obtain ⟨K, hK⟩ : ∃ K, K = (⟨M10, a, r⟩ :: [] : List Tk).length := ⟨_, rfl⟩
                  rw [← hK] at CC
                  have l11 : N + 1 ≤ M10 + 1 := by omega
                  obtain rfl : K = 1 := hK
                  go_wp2_with (first
                    | (go_at_call 32; refine (CS _ _ hM11 B11.t U11).mono ?_; rintro e w12 ⟨rfl, b12⟩; obtain ⟨M12, hM12⟩ := sz_some w12; have l12 := below_sz b12 hM11 hM12; have U12 := U11.below hM11 b12)
                    | (go_at_call 31; refine (CC _ M12 hM12 U12).mono ?_; rintro e w13 ⟨g, cap', rfl, hg, hO, b13⟩)
                    | fail)
                  have b13' := b12.trans (b13.mono l12)
                  have B13 := B11.below hM11 l11 b13'
                  have C13 := C11.below b13' (C11.ltN hM11)
                  have U13 := U11.below hM11 b13'
                  go_roundg (n3 - (0 + 1))
                  case measure => have := Hlt.out; omega
                  case rel => exact ⟨0 + 1, ⟨M10, a, r⟩ :: [], Hlt.out, rfl, rfl, by rw [HV.out M10], by go_num, rfl, fun t us e => by
                      injection e with e1 e2
                      subst e1
                      exact ⟨Ha.out, Hr.out⟩, U13, B13, C13⟩
              · iterate 3 go_big_quiet_step (fail)
                refine later_val (fun x => ld_one 3 (.tmp 62) rfl ⟨S, 0, none⟩ rfl _ (hA x)) (by rfl) ?_; simp only [Act.put, List.setIfInBounds_toArray, List.set_cons_succ, List.set_cons_zero]
                go_big_quiet_step ((go_at_call 44; exact later_of_same _ (HH _ (B6.r.below hM6 (Later.b _)))))
                iterate 2 go_big_quiet_step (fail)
                refine wpQuiet_nil ?_
                rintro w9 ⟨q9, e9⟩
                have b9 := q9.b
                rw [← e9] at b9
                clear e9 q9
                have l6 : N + 1 ≤ S + 1 := by omega
                have B9 := B6.below hM6 l6 b9
                have C9 := C6.below b9 (C6.ltN hM6)
                have S9 := h6.below b9 (by omega)
                have U9 : Tks w9 [] := trivial
                obtain ⟨M9, hM9⟩ := sz_some w9
                have l9' := below_sz b9 hM6 hM9
                have l9 : N + 1 ≤ M9 := by omega
                clear B6 C6 h6 b9 hM6 lo6 cI cR hA HW HH
                go_upto_region 17 with fail
                have HV := hid (fun b' => (SV.out b').trans (by show (rWithin r rgAll && isIn c a) = _; rw [← Hx1.out]; rfl : _ = isIn c a))
                refine wp_region_any (by kernel_rfl) ?_
                have S9d : Has w9.drew S 71 7 (stC a r) := S9
                have U9d : Tks w9.drew ([]) := U9.same (fun _ _ => rfl)
                have B9d := B9.drew
                have C9d : Has w9.drew N 54 2 (csC q n cap (some ⟨sb, so, none⟩) n2 cap2) := C9
                have hM9d : Sz w9.drew M9 := hM9
                change wpAny _ _ _ _ _ _ _ (World.drew _)
                clear S9 U9 B9 C9 hM9
                generalize w9.drew = w9 at *
                have cI : w9.cell? ⟨S, 0, none⟩ = some (.int .i64 a) := S9d.cell (j := 0) (by omega)
                have cR : ∀ j, j < 6 → w9.cell? ⟨S, 1 + j, none⟩ = some (rgC r j) := fun j hj => by
                  rw [S9d.cell (j := 1 + j) (by omega)]
                  unfold stC
                  rw [if_neg (by omega), show 1 + j - 1 = j by omega]
                refine wpAny_pot (rem := [0, 1, 2, 3, 4, 5, 6]) (FV M9 26 rgNone (fun j => if j = 0 then some (.pointer (some ⟨S, 0, none⟩)) else if j = 1 then some (.int .i64 a) else if j = 2 then some (.pointer (some ⟨S, 1, none⟩)) else if j = 3 then some (rgV r) else if j = 4 then some (rgV r)
                    else if j = 5 then some (.pointer none) else if j = 6 then some (.agg (cellsOf (tkC a r (.pointer none)) 8)) else none)) NoB (Below M9 w9) _ _ _ _ (by kernel_rfl) (size_dst (by kernel_rfl)) (Below.refl _ _) ?_ ?_
                · intro i hi ax wa hI ha hv
                  simp only [List.mem_cons, List.not_mem_nil, or_false] at hi
                  rcases hi with rfl | rfl | rfl | rfl | rfl | rfl | rfl
                  · have h : ax.tmps.getD 9 undef = .pointer (some ⟨S, 0, none⟩) := ha 9 (not_dst (by kernel_rfl))
                    exact potv_run rfl rfl _ rfl (by clear hv ha; go_simp) hM9d hI
                  · obtain ⟨v, hv1, hv2⟩ := hv 0 (by simp) (by kernel_rfl)
                    have e := hv2.val rfl
                    subst e
                    have h := hv1 88 (by rfl)
                    have c := cellB hM9d cI hI
                    exact potv_run rfl rfl _ rfl (by clear hv hv1 hv2 ha; go_simp) hM9d hI
                  · have h : ax.tmps.getD 9 undef = .pointer (some ⟨S, 0, none⟩) := ha 9 (not_dst (by kernel_rfl))
                    exact potv_run rfl rfl _ rfl (by clear hv ha; go_simp) hM9d hI
                  · obtain ⟨v, hv1, hv2⟩ := hv 2 (by simp) (by kernel_rfl)
                    have e := hv2.val rfl
                    subst e
                    have h := hv1 90 (by rfl)
                    obtain ⟨dF, v1, v2⟩ := undRF
                    exact potv_run rfl rfl _ rfl (run_ldc 24 (.tmp 90) rfl S 1 h 6 (rgC r) (fun j hj => cellB hM9d (cR j hj) hI) _ v1 v2 szRF) hM9d hI
                  · obtain ⟨v, hv1, hv2⟩ := hv 3 (by simp) (by kernel_rfl)
                    have e := hv2.val rfl
                    subst e
                    exact potv_cl rfl rfl 40 _ _ rfl #[rgV r] (by simp only [List.map_toArray, List.map_cons, List.map_nil]; exact congrArg (fun u => #[u]) (hv1 91 (by rfl))) (by kernel_rfl) _ (fun K hK => To12_any r wa K hK) rfl hM9d hI
                  · have h : ax.tmps.getD 6 undef = .pointer none := ha 6 (not_dst (by kernel_rfl))
                    exact potv_run rfl rfl _ rfl (by clear hv ha; go_simp) hM9d hI
                  · obtain ⟨x1, hx1, hy1⟩ := hv 1 (by simp) (by kernel_rfl)
                    obtain ⟨x2, hx2, hy2⟩ := hv 4 (by simp) (by kernel_rfl)
                    obtain ⟨x3, hx3, hy3⟩ := hv 5 (by simp) (by kernel_rfl)
                    have e1 : ax.eval (.tmp 89) = .int .i64 a := (hx1 89 (by rfl)).trans (hy1.val rfl)
                    have e2 : ax.eval (.tmp 92) = rgV r := (hx2 92 (by rfl)).trans (hy2.val rfl)
                    have e3 : ax.eval (.tmp 93) = .pointer none := (hx3 93 (by rfl)).trans (hy3.val rfl)
                    exact op_list rfl (wpl_build rfl 74 _ rfl (cellsOf (tkC a r (.pointer none)) 8) (by
                      simp only [List.map_toArray, List.map_cons, List.map_nil, e1, e2, e3]
                      kernel_rfl) (potV_val rfl _ rfl hM9d hI _ (fun M _ => Below.refl M _)))
                · intro vals w10 hI hF hG
                  have e0 := (hF 0 (by simp)).val rfl
                  have e1 := (hF 1 (by simp)).val rfl
                  have e2 := (hF 2 (by simp)).val rfl
                  have e3 := (hF 3 (by simp)).val rfl
                  have e4 := (hF 4 (by simp)).val rfl
                  have e5 := (hF 5 (by simp)).val rfl
                  have e6 := (hF 6 (by simp)).val rfl
                  clear hF hG
                  simp only [List.foldl_cons, List.foldl_nil, dstOf, List.getElem?_toArray, List.getElem?_cons_succ, List.getElem?_cons_zero, Option.bind_some, Act.put, List.setIfInBounds_toArray, List.set_cons_succ, List.set_cons_zero, e0, e1, e2, e3, e4, e5, e6]
                  refine wpAny_chain [7, 8] _ _ _ _ (by kernel_rfl) (by decide) ?_
                  simp only [List.filterMap_cons, List.filterMap_nil, List.getElem?_toArray, List.getElem?_cons_succ, List.getElem?_cons_zero]
                  obtain ⟨M10, hM10⟩ := sz_some w10
                  have l10 := below_sz hI hM9d hM10
                  refine wpl_box rfl 74 (.tmp 94) rfl 8 _ rfl M10 hM10 ?_
                  intro w11 hM11 b11 h11
                  simp only [Act.put, List.setIfInBounds_toArray, List.set_cons_succ, List.set_cons_zero]
                  refine wpl_pure rfl (v := .pointer (some ⟨M10, 0, none⟩)) (fun w => rfl) ?_
                  simp only [Act.put, List.setIfInBounds_toArray, List.set_cons_succ, List.set_cons_zero]
                  have b11' := hI.trans (b11.mono l10)
                  have B11 := B9d.below hM9d l9 b11'
                  have C11 := C9d.below b11' (C9d.ltN hM9d)
                  have U11a := U9d.below hM9d b11'
                  have U11 : Tks w11 (⟨M10, a, r⟩ :: []) := And.intro h11 (And.intro (fun x hx => by have := U9d.lt x hx; have e : w9.heap.size = M9 := hM9d; show x.b < M10; omega) U11a)
                  clear e0 e1 e2 e3 e4 e5 e6 hI b11 b11' h11 S9d U9d B9d C9d cI cR hM9d hM10
                  have CS := fun w M hM hT hU => Sound_any (N + 1) c f (⟨M10, a, r⟩ :: []) (by simp) (by simp only [List.length_cons, List.length_nil]; omega) w M hM hT hU
                  rw [HV.out M10] at CS
                  have CC := fun w M hM hU => Chain_any (⟨M10, a, r⟩ :: []) (by simp) (by simp only [List.length_cons, List.length_nil]; omega) w M hM hU
                  obtain ⟨K, hK⟩ : ∃ K, K = (⟨M10, a, r⟩ :: [] : List Tk).length := ⟨_, rfl⟩
                  rw [← hK] at CC
                  have l11 : N + 1 ≤ M10 + 1 := by omega
                  obtain rfl : K = 1 := hK
                  generalize isIn c a = q9 at *
                  have qq : (q9 != q9) = false := by simp
                  go_wp2_with (first
                    | (go_at_call 32; refine (CS _ _ hM11 B11.t U11).mono ?_; rintro e w12 ⟨rfl, b12⟩; obtain ⟨M12, hM12⟩ := sz_some w12; have l12 := below_sz b12 hM11 hM12; have U12 := U11.below hM11 b12)
                    | (go_at_call 31; refine (CC _ M12 hM12 U12).mono ?_; rintro e w13 ⟨g, cap', rfl, hg, hO, b13⟩)
                    | fail)
                  have b13' := b12.trans (b13.mono l12)
                  have B13 := B11.below hM11 l11 b13'
                  have C13 := C11.below b13' (C11.ltN hM11)
                  have U13 := U11.below hM11 b13'
                  go_roundg (n3 - (0 + 1))
                  case measure => have := Hlt.out; omega
                  case rel => exact ⟨0 + 1, ⟨M10, a, r⟩ :: [], Hlt.out, rfl, rfl, by rw [HV.out M10], by go_num, rfl, fun t us e => by
                      injection e with e1 e2
                      subst e1
                      exact ⟨Ha.out, Hr.out⟩, U13, B13, C13⟩
            · obtain ⟨l, rfl⟩ : ∃ l, k = l + 1 := ⟨k - 1, by omega⟩
              obtain ⟨u, us, rfl⟩ : ∃ u us, ts = u :: us := by
                cases ts with
                | nil => simp at hlen
                | cons u us => exact ⟨u, us, rfl⟩
              obtain ⟨hu1, hu2⟩ := hhd u us rfl
              rw [Nat.add_sub_cancel] at hu1 hu2
              simp only [ptrOf]
              have hus : us.length = l := by simpa using hlen
              clear hhd hlen hz
              have hl9 : l ≤ 6 := by have := Hlt.out; omega
              have SV0 : ∀ b' : Nat, sndT f c (⟨b', a, r⟩ :: u :: us) = ((sndT f c (u :: us) && insI f c a u.at_) && rWithin r u.r) := fun b' => sndT_two ⟨b', a, r⟩ u us
              have d8 : ∀ i, i < 7 → w6.cell? ⟨sb, so + l * 7 + i, none⟩ = some (stC u.at_ u.r i) := fun i hi => by
                rw [lo6.cell (p := ⟨sb, so + l * 7 + i, none⟩) hsb, hu1, hu2]
                exact Hsc.out l (by have := Hlt.out; omega) i hi
              clear hu1 hu2
              have lz : ((l : Int) + 1 == 0) = false := by rw [beq_eq_false_iff_ne]; omega
              have l0 : (0 : Int) ≤ (l : Int) := by omega
              have l2 : (l : Int) < (n2 : Int) := by omega
              have cq6 : w6.cell? ⟨N, 1, none⟩ = some (.slice (some ⟨sb, so, none⟩) n2 cap2) := C6.cell (j := 1) (by omega)
              go_upto_region 16 with (first
                | (refine wpl_load_cells rfl 71 (.tmp 70) rfl sb (so + l * 7) rfl 7 (stC u.at_ u.r) d8 _ s1 s2 szStp ?_)
                | (refine wpl_alloc rfl 71 rfl 7 (stC 0 rgNone) zeStp (S + 1) hM6 ?_; intro w7 hM7 b7 h7)
                | (refine wpl_store rfl 71 (.tmp 10) (.tmp 71) rfl (S + 1) 7 (stC u.at_ u.r) rfl rfl 71 _ h7 szStp (fun j _ => stC_one _ _ j) ?_; intro w8 t8 h8)
                | fail)
              have b8 := t8.below b7 (Nat.le_refl (S + 1))
              have hM8 := t8.sz hM7
              have l6 : N + 1 ≤ S + 1 := by omega
              have B8 := B6.below hM6 l6 b8
              have U8 := U6.below hM6 b8
              have C8 := C6.below b8 (C6.ltN hM6)
              have S8 := h6.below b8 (by omega)
              have cI8 := cellB hM6 cI b8
              have cR8 := fun j hj => cellB hM6 (cR j hj) b8
              have cJ8 : w8.cell? ⟨S + 1, 0, none⟩ = some (.int .i64 u.at_) := h8.cell (j := 0) (by omega)
              have cT8 : ∀ j, j < 6 → w8.cell? ⟨S + 1, 1 + j, none⟩ = some (rgC u.r j) := fun j hj => by
                rw [h8.cell (j := 1 + j) (by omega)]
                unfold stC
                rw [if_neg (by omega), show 1 + j - 1 = j by omega]
              have l8 : N + 1 ≤ S + 1 + 1 := by omega
              clear d8 h7 b7 t8 hM7 B6 U6 C6 h6 h8 b8 cI cR hM6 lo6 cq6
              have CI := fun w M hM hT => RInside_any (N + 1 + 1 + 1) c cp p f a u.at_ w M hM hT
              have CW := fun w M hM => RWithin_any r u.r w M hM
              obtain ⟨x1, hx1⟩ : ∃ x1, x1 = sndT f c (u :: us) := ⟨_, rfl⟩
              obtain ⟨x2, hx2⟩ : ∃ x2, x2 = insI f c a u.at_ := ⟨_, rfl⟩
              obtain ⟨x3, hx3⟩ : ∃ x3, x3 = rWithin r u.r := ⟨_, rfl⟩
              rw [← hx1, ← hx2, ← hx3] at SV0
              have SV := hid SV0
              rw [← hx2] at CI
              rw [← hx3] at CW
              rw [← hx1]
              clear hx1 hx2 hx3 SV0
              cases x1
              · go_upto_region 17 with fail
                have B9 := B8
                have U9 := U8
                have C9 := C8
                have S9 := S8
                have hM9 := hM8
                have l9 := l8
                clear B8 U8 C8 S8 hM8 cI8 cR8 cJ8 cT8 CI CW
                generalize w8 = w9 at *
                obtain ⟨M9, hM9e⟩ : ∃ M9, M9 = S + 1 + 1 := ⟨_, rfl⟩
                rw [← hM9e] at hM9 l9
                clear hM9e
                have HV := hid (fun b' => (SV.out b').trans (by rfl : _ = false))
                refine wp_region_any (by kernel_rfl) ?_
                have S9d : Has w9.drew S 71 7 (stC a r) := S9
                have U9d : Tks w9.drew (u :: us) := U9.same (fun _ _ => rfl)
                have B9d := B9.drew
                have C9d : Has w9.drew N 54 2 (csC q n cap (some ⟨sb, so, none⟩) n2 cap2) := C9
                have hM9d : Sz w9.drew M9 := hM9
                change wpAny _ _ _ _ _ _ _ (World.drew _)
                clear S9 U9 B9 C9 hM9
                generalize w9.drew = w9 at *
                have cI : w9.cell? ⟨S, 0, none⟩ = some (.int .i64 a) := S9d.cell (j := 0) (by omega)
                have cR : ∀ j, j < 6 → w9.cell? ⟨S, 1 + j, none⟩ = some (rgC r j) := fun j hj => by
                  rw [S9d.cell (j := 1 + j) (by omega)]
                  unfold stC
                  rw [if_neg (by omega), show 1 + j - 1 = j by omega]
                refine wpAny_pot (rem := [0, 1, 2, 3, 4, 5, 6]) (FV M9 26 rgNone (fun j => if j = 0 then some (.pointer (some ⟨S, 0, none⟩)) else if j = 1 then some (.int .i64 a) else if j = 2 then some (.pointer (some ⟨S, 1, none⟩)) else if j = 3 then some (rgV r) else if j = 4 then some (rgV r)
                    else if j = 5 then some (.pointer (some ⟨u.b, 0, none⟩)) else if j = 6 then some (.agg (cellsOf (tkC a r (.pointer (some ⟨u.b, 0, none⟩))) 8)) else none)) NoB (Below M9 w9) _ _ _ _ (by kernel_rfl) (size_dst (by kernel_rfl)) (Below.refl _ _) ?_ ?_
                · intro i hi ax wa hI ha hv
                  simp only [List.mem_cons, List.not_mem_nil, or_false] at hi
                  rcases hi with rfl | rfl | rfl | rfl | rfl | rfl | rfl
                  · have h : ax.tmps.getD 9 undef = .pointer (some ⟨S, 0, none⟩) := ha 9 (not_dst (by kernel_rfl))
                    exact potv_run rfl rfl _ rfl (by clear hv ha; go_simp) hM9d hI
                  · obtain ⟨v, hv1, hv2⟩ := hv 0 (by simp) (by kernel_rfl)
                    have e := hv2.val rfl
                    subst e
                    have h := hv1 88 (by rfl)
                    have c := cellB hM9d cI hI
                    exact potv_run rfl rfl _ rfl (by clear hv hv1 hv2 ha; go_simp) hM9d hI
                  · have h : ax.tmps.getD 9 undef = .pointer (some ⟨S, 0, none⟩) := ha 9 (not_dst (by kernel_rfl))
                    exact potv_run rfl rfl _ rfl (by clear hv ha; go_simp) hM9d hI
                  · obtain ⟨v, hv1, hv2⟩ := hv 2 (by simp) (by kernel_rfl)
                    have e := hv2.val rfl
                    subst e
                    have h := hv1 90 (by rfl)
                    obtain ⟨dF, v1, v2⟩ := undRF
                    exact potv_run rfl rfl _ rfl (run_ldc 24 (.tmp 90) rfl S 1 h 6 (rgC r) (fun j hj => cellB hM9d (cR j hj) hI) _ v1 v2 szRF) hM9d hI
                  · obtain ⟨v, hv1, hv2⟩ := hv 3 (by simp) (by kernel_rfl)
                    have e := hv2.val rfl
                    subst e
                    exact potv_cl rfl rfl 40 _ _ rfl #[rgV r] (by simp only [List.map_toArray, List.map_cons, List.map_nil]; exact congrArg (fun u => #[u]) (hv1 91 (by rfl))) (by kernel_rfl) _ (fun K hK => To12_any r wa K hK) rfl hM9d hI
                  · have h : ax.tmps.getD 6 undef = .pointer (some ⟨u.b, 0, none⟩) := ha 6 (not_dst (by kernel_rfl))
                    exact potv_run rfl rfl _ rfl (by clear hv ha; go_simp) hM9d hI
                  · obtain ⟨x1, hx1, hy1⟩ := hv 1 (by simp) (by kernel_rfl)
                    obtain ⟨x2, hx2, hy2⟩ := hv 4 (by simp) (by kernel_rfl)
                    obtain ⟨x3, hx3, hy3⟩ := hv 5 (by simp) (by kernel_rfl)
                    have e1 : ax.eval (.tmp 89) = .int .i64 a := (hx1 89 (by rfl)).trans (hy1.val rfl)
                    have e2 : ax.eval (.tmp 92) = rgV r := (hx2 92 (by rfl)).trans (hy2.val rfl)
                    have e3 : ax.eval (.tmp 93) = .pointer (some ⟨u.b, 0, none⟩) := (hx3 93 (by rfl)).trans (hy3.val rfl)
                    exact op_list rfl (wpl_build rfl 74 _ rfl (cellsOf (tkC a r (.pointer (some ⟨u.b, 0, none⟩))) 8) (by
                      simp only [List.map_toArray, List.map_cons, List.map_nil, e1, e2, e3]
                      kernel_rfl) (potV_val rfl _ rfl hM9d hI _ (fun M _ => Below.refl M _)))
                · intro vals w10 hI hF hG
                  have e0 := (hF 0 (by simp)).val rfl
                  have e1 := (hF 1 (by simp)).val rfl
                  have e2 := (hF 2 (by simp)).val rfl
                  have e3 := (hF 3 (by simp)).val rfl
                  have e4 := (hF 4 (by simp)).val rfl
                  have e5 := (hF 5 (by simp)).val rfl
                  have e6 := (hF 6 (by simp)).val rfl
                  clear hF hG
                  simp only [List.foldl_cons, List.foldl_nil, dstOf, List.getElem?_toArray, List.getElem?_cons_succ, List.getElem?_cons_zero, Option.bind_some, Act.put, List.setIfInBounds_toArray, List.set_cons_succ, List.set_cons_zero, e0, e1, e2, e3, e4, e5, e6]
                  refine wpAny_chain [7, 8] _ _ _ _ (by kernel_rfl) (by decide) ?_
                  simp only [List.filterMap_cons, List.filterMap_nil, List.getElem?_toArray, List.getElem?_cons_succ, List.getElem?_cons_zero]
                  obtain ⟨M10, hM10⟩ := sz_some w10
                  have l10 := below_sz hI hM9d hM10
                  refine wpl_box rfl 74 (.tmp 94) rfl 8 _ rfl M10 hM10 ?_
                  intro w11 hM11 b11 h11
                  simp only [Act.put, List.setIfInBounds_toArray, List.set_cons_succ, List.set_cons_zero]
                  refine wpl_pure rfl (v := .pointer (some ⟨M10, 0, none⟩)) (fun w => rfl) ?_
                  simp only [Act.put, List.setIfInBounds_toArray, List.set_cons_succ, List.set_cons_zero]
                  have b11' := hI.trans (b11.mono l10)
                  have B11 := B9d.below hM9d l9 b11'
                  have C11 := C9d.below b11' (C9d.ltN hM9d)
                  have U11a := U9d.below hM9d b11'
                  have U11 : Tks w11 (⟨M10, a, r⟩ :: u :: us) := And.intro h11 (And.intro (fun x hx => by have := U9d.lt x hx; have e : w9.heap.size = M9 := hM9d; show x.b < M10; omega) U11a)
                  clear e0 e1 e2 e3 e4 e5 e6 hI b11 b11' h11 S9d U9d B9d C9d cI cR hM9d hM10
                  have CS := fun w M hM hT hU => Sound_any (N + 1) c f (⟨M10, a, r⟩ :: u :: us) (by simp) (by simp only [List.length_cons, List.length_nil]; omega) w M hM hT hU
                  rw [HV.out M10] at CS
                  have CC := fun w M hM hU => Chain_any (⟨M10, a, r⟩ :: u :: us) (by simp) (by simp only [List.length_cons, List.length_nil]; omega) w M hM hU
                  obtain ⟨K, hK⟩ : ∃ K, K = (⟨M10, a, r⟩ :: u :: us : List Tk).length := ⟨_, rfl⟩
                  rw [← hK] at CC
                  have l11 : N + 1 ≤ M10 + 1 := by omega
                  obtain rfl : K = l + 2 := by rw [hK]; simp only [List.length_cons, hus]
                  clear hK
                  go_wp2_with (first
                    | (go_at_call 32; refine (CS _ _ hM11 B11.t U11).mono ?_; rintro e w12 ⟨rfl, b12⟩; obtain ⟨M12, hM12⟩ := sz_some w12; have l12 := below_sz b12 hM11 hM12; have U12 := U11.below hM11 b12)
                    | (go_at_call 31; refine (CC _ M12 hM12 U12).mono ?_; rintro e w13 ⟨g, cap', rfl, hg, hO, b13⟩)
                    | fail)
                  have b13' := b12.trans (b13.mono l12)
                  have B13 := B11.below hM11 l11 b13'
                  have C13 := C11.below b13' (C11.ltN hM11)
                  have U13 := U11.below hM11 b13'
                  go_roundg (n3 - (l + 1 + 1))
                  case measure => have := Hlt.out; omega
                  case rel => exact ⟨l + 1 + 1, ⟨M10, a, r⟩ :: u :: us, Hlt.out, rfl, rfl, by rw [HV.out M10], by go_num, by simp only [List.length_cons, hus], fun t us e => by
                      injection e with e1 e2
                      subst e1
                      exact ⟨Ha.out, Hr.out⟩, U13, B13, C13⟩
              · cases x2
                · go_upto_region 17 with (first
                    | (go_at_call 45; refine (CI _ _ hM8 B8.r).mono ?_; rintro e w9 ⟨rfl, b9⟩)
                    | fail)
                  have B9 := B8.below hM8 l8 b9
                  have U9 := U8.below hM8 b9
                  have C9 := C8.below b9 (C8.ltN hM8)
                  have S9 := S8.below b9 (by omega)
                  obtain ⟨M9, hM9⟩ := sz_some w9
                  have l9' := below_sz b9 hM8 hM9
                  have l9 : N + 1 ≤ M9 := by omega
                  clear B8 U8 C8 S8 hM8 cI8 cR8 cJ8 cT8 CI CW b9
                  have HV := hid (fun b' => (SV.out b').trans (by rfl : _ = false))
                  refine wp_region_any (by kernel_rfl) ?_
                  have S9d : Has w9.drew S 71 7 (stC a r) := S9
                  have U9d : Tks w9.drew (u :: us) := U9.same (fun _ _ => rfl)
                  have B9d := B9.drew
                  have C9d : Has w9.drew N 54 2 (csC q n cap (some ⟨sb, so, none⟩) n2 cap2) := C9
                  have hM9d : Sz w9.drew M9 := hM9
                  change wpAny _ _ _ _ _ _ _ (World.drew _)
                  clear S9 U9 B9 C9 hM9
                  generalize w9.drew = w9 at *
                  have cI : w9.cell? ⟨S, 0, none⟩ = some (.int .i64 a) := S9d.cell (j := 0) (by omega)
                  have cR : ∀ j, j < 6 → w9.cell? ⟨S, 1 + j, none⟩ = some (rgC r j) := fun j hj => by
                    rw [S9d.cell (j := 1 + j) (by omega)]
                    unfold stC
                    rw [if_neg (by omega), show 1 + j - 1 = j by omega]
                  refine wpAny_pot (rem := [0, 1, 2, 3, 4, 5, 6]) (FV M9 26 rgNone (fun j => if j = 0 then some (.pointer (some ⟨S, 0, none⟩)) else if j = 1 then some (.int .i64 a) else if j = 2 then some (.pointer (some ⟨S, 1, none⟩)) else if j = 3 then some (rgV r) else if j = 4 then some (rgV r)
                      else if j = 5 then some (.pointer (some ⟨u.b, 0, none⟩)) else if j = 6 then some (.agg (cellsOf (tkC a r (.pointer (some ⟨u.b, 0, none⟩))) 8)) else none)) NoB (Below M9 w9) _ _ _ _ (by kernel_rfl) (size_dst (by kernel_rfl)) (Below.refl _ _) ?_ ?_
                  · intro i hi ax wa hI ha hv
                    simp only [List.mem_cons, List.not_mem_nil, or_false] at hi
                    rcases hi with rfl | rfl | rfl | rfl | rfl | rfl | rfl
                    · have h : ax.tmps.getD 9 undef = .pointer (some ⟨S, 0, none⟩) := ha 9 (not_dst (by kernel_rfl))
                      exact potv_run rfl rfl _ rfl (by clear hv ha; go_simp) hM9d hI
                    · obtain ⟨v, hv1, hv2⟩ := hv 0 (by simp) (by kernel_rfl)
                      have e := hv2.val rfl
                      subst e
                      have h := hv1 88 (by rfl)
                      have c := cellB hM9d cI hI
                      exact potv_run rfl rfl _ rfl (by clear hv hv1 hv2 ha; go_simp) hM9d hI
                    · have h : ax.tmps.getD 9 undef = .pointer (some ⟨S, 0, none⟩) := ha 9 (not_dst (by kernel_rfl))
                      exact potv_run rfl rfl _ rfl (by clear hv ha; go_simp) hM9d hI
                    · obtain ⟨v, hv1, hv2⟩ := hv 2 (by simp) (by kernel_rfl)
                      have e := hv2.val rfl
                      subst e
                      have h := hv1 90 (by rfl)
                      obtain ⟨dF, v1, v2⟩ := undRF
                      exact potv_run rfl rfl _ rfl (run_ldc 24 (.tmp 90) rfl S 1 h 6 (rgC r) (fun j hj => cellB hM9d (cR j hj) hI) _ v1 v2 szRF) hM9d hI
                    · obtain ⟨v, hv1, hv2⟩ := hv 3 (by simp) (by kernel_rfl)
                      have e := hv2.val rfl
                      subst e
                      exact potv_cl rfl rfl 40 _ _ rfl #[rgV r] (by simp only [List.map_toArray, List.map_cons, List.map_nil]; exact congrArg (fun u => #[u]) (hv1 91 (by rfl))) (by kernel_rfl) _ (fun K hK => To12_any r wa K hK) rfl hM9d hI
                    · have h : ax.tmps.getD 6 undef = .pointer (some ⟨u.b, 0, none⟩) := ha 6 (not_dst (by kernel_rfl))
                      exact potv_run rfl rfl _ rfl (by clear hv ha; go_simp) hM9d hI
                    · obtain ⟨x1, hx1, hy1⟩ := hv 1 (by simp) (by kernel_rfl)
                      obtain ⟨x2, hx2, hy2⟩ := hv 4 (by simp) (by kernel_rfl)
                      obtain ⟨x3, hx3, hy3⟩ := hv 5 (by simp) (by kernel_rfl)
                      have e1 : ax.eval (.tmp 89) = .int .i64 a := (hx1 89 (by rfl)).trans (hy1.val rfl)
                      have e2 : ax.eval (.tmp 92) = rgV r := (hx2 92 (by rfl)).trans (hy2.val rfl)
                      have e3 : ax.eval (.tmp 93) = .pointer (some ⟨u.b, 0, none⟩) := (hx3 93 (by rfl)).trans (hy3.val rfl)
                      exact op_list rfl (wpl_build rfl 74 _ rfl (cellsOf (tkC a r (.pointer (some ⟨u.b, 0, none⟩))) 8) (by
                        simp only [List.map_toArray, List.map_cons, List.map_nil, e1, e2, e3]
                        kernel_rfl) (potV_val rfl _ rfl hM9d hI _ (fun M _ => Below.refl M _)))
                  · intro vals w10 hI hF hG
                    have e0 := (hF 0 (by simp)).val rfl
                    have e1 := (hF 1 (by simp)).val rfl
                    have e2 := (hF 2 (by simp)).val rfl
                    have e3 := (hF 3 (by simp)).val rfl
                    have e4 := (hF 4 (by simp)).val rfl
                    have e5 := (hF 5 (by simp)).val rfl
                    have e6 := (hF 6 (by simp)).val rfl
                    clear hF hG
                    simp only [List.foldl_cons, List.foldl_nil, dstOf, List.getElem?_toArray, List.getElem?_cons_succ, List.getElem?_cons_zero, Option.bind_some, Act.put, List.setIfInBounds_toArray, List.set_cons_succ, List.set_cons_zero, e0, e1, e2, e3, e4, e5, e6]
                    refine wpAny_chain [7, 8] _ _ _ _ (by kernel_rfl) (by decide) ?_
                    simp only [List.filterMap_cons, List.filterMap_nil, List.getElem?_toArray, List.getElem?_cons_succ, List.getElem?_cons_zero]
                    obtain ⟨M10, hM10⟩ := sz_some w10
                    have l10 := below_sz hI hM9d hM10
                    refine wpl_box rfl 74 (.tmp 94) rfl 8 _ rfl M10 hM10 ?_
                    intro w11 hM11 b11 h11
                    simp only [Act.put, List.setIfInBounds_toArray, List.set_cons_succ, List.set_cons_zero]
                    refine wpl_pure rfl (v := .pointer (some ⟨M10, 0, none⟩)) (fun w => rfl) ?_
                    simp only [Act.put, List.setIfInBounds_toArray, List.set_cons_succ, List.set_cons_zero]
                    have b11' := hI.trans (b11.mono l10)
                    have B11 := B9d.below hM9d l9 b11'
                    have C11 := C9d.below b11' (C9d.ltN hM9d)
                    have U11a := U9d.below hM9d b11'
                    have U11 : Tks w11 (⟨M10, a, r⟩ :: u :: us) := And.intro h11 (And.intro (fun x hx => by have := U9d.lt x hx; have e : w9.heap.size = M9 := hM9d; show x.b < M10; omega) U11a)
                    clear e0 e1 e2 e3 e4 e5 e6 hI b11 b11' h11 S9d U9d B9d C9d cI cR hM9d hM10
                    have CS := fun w M hM hT hU => Sound_any (N + 1) c f (⟨M10, a, r⟩ :: u :: us) (by simp) (by simp only [List.length_cons, List.length_nil]; omega) w M hM hT hU
                    rw [HV.out M10] at CS
                    have CC := fun w M hM hU => Chain_any (⟨M10, a, r⟩ :: u :: us) (by simp) (by simp only [List.length_cons, List.length_nil]; omega) w M hM hU
                    obtain ⟨K, hK⟩ : ∃ K, K = (⟨M10, a, r⟩ :: u :: us : List Tk).length := ⟨_, rfl⟩
                    rw [← hK] at CC
                    have l11 : N + 1 ≤ M10 + 1 := by omega
                    obtain rfl : K = l + 2 := by rw [hK]; simp only [List.length_cons, hus]
                    clear hK
                    go_wp2_with (first
                      | (go_at_call 32; refine (CS _ _ hM11 B11.t U11).mono ?_; rintro e w12 ⟨rfl, b12⟩; obtain ⟨M12, hM12⟩ := sz_some w12; have l12 := below_sz b12 hM11 hM12; have U12 := U11.below hM11 b12)
                      | (go_at_call 31; refine (CC _ M12 hM12 U12).mono ?_; rintro e w13 ⟨g, cap', rfl, hg, hO, b13⟩)
                      | fail)
                    have b13' := b12.trans (b13.mono l12)
                    have B13 := B11.below hM11 l11 b13'
                    have C13 := C11.below b13' (C11.ltN hM11)
                    have U13 := U11.below hM11 b13'
                    go_roundg (n3 - (l + 1 + 1))
                    case measure => have := Hlt.out; omega
                    case rel => exact ⟨l + 1 + 1, ⟨M10, a, r⟩ :: u :: us, Hlt.out, rfl, rfl, by rw [HV.out M10], by go_num, by simp only [List.length_cons, hus], fun t us e => by
                        injection e with e1 e2
                        subst e1
                        exact ⟨Ha.out, Hr.out⟩, U13, B13, C13⟩
                · go_upto_region 17 with (first
                    | (go_at_call 45
                       refine (CI _ _ hM8 B8.r).mono ?_
                       rintro e w7 ⟨rfl, b7⟩
                       obtain ⟨M7, hM7⟩ := sz_some w7
                       have l7 := below_sz b7 hM8 hM7
                       have cR7 := fun j hj => cellB hM8 (cR8 j hj) b7
                       have cT7 := fun j hj => cellB hM8 (cT8 j hj) b7)
                    | (refine wpl_load_cellsg 24 (.tmp 82) rfl S 1 rfl 6 (rgC r) cR7 _ v1 v2 szRF ?_ (by rfl))
                    | (refine wpl_load_cellsg 24 (.tmp 84) rfl (S + 1) 1 rfl 6 (rgC u.r) cT7 _ v1 v2 szRF ?_ (by rfl))
                    | (go_at_call 18; refine (CW _ _ hM7).mono ?_; rintro e w9 ⟨rfl, b9⟩)
                    | fail)
                  have b9' := b7.trans (b9.mono l7)
                  have B9 := B8.below hM8 l8 b9'
                  have U9 := U8.below hM8 b9'
                  have C9 := C8.below b9' (C8.ltN hM8)
                  have S9 := S8.below b9' (by omega)
                  obtain ⟨M9, hM9⟩ := sz_some w9
                  have l9' := below_sz b9' hM8 hM9
                  have l9 : N + 1 ≤ M9 := by omega
                  clear B8 U8 C8 S8 hM8 cI8 cR8 cJ8 cT8 CI CW b9 b9' b7 cR7 cT7 hM7
                  have HV := hid (fun b' => (SV.out b').trans (by rfl : _ = x3))
                  refine wp_region_any (by kernel_rfl) ?_
                  have S9d : Has w9.drew S 71 7 (stC a r) := S9
                  have U9d : Tks w9.drew (u :: us) := U9.same (fun _ _ => rfl)
                  have B9d := B9.drew
                  have C9d : Has w9.drew N 54 2 (csC q n cap (some ⟨sb, so, none⟩) n2 cap2) := C9
                  have hM9d : Sz w9.drew M9 := hM9
                  change wpAny _ _ _ _ _ _ _ (World.drew _)
                  clear S9 U9 B9 C9 hM9
                  generalize w9.drew = w9 at *
                  have cI : w9.cell? ⟨S, 0, none⟩ = some (.int .i64 a) := S9d.cell (j := 0) (by omega)
                  have cR : ∀ j, j < 6 → w9.cell? ⟨S, 1 + j, none⟩ = some (rgC r j) := fun j hj => by
                    rw [S9d.cell (j := 1 + j) (by omega)]
                    unfold stC
                    rw [if_neg (by omega), show 1 + j - 1 = j by omega]
                  refine wpAny_pot (rem := [0, 1, 2, 3, 4, 5, 6]) (FV M9 26 rgNone (fun j => if j = 0 then some (.pointer (some ⟨S, 0, none⟩)) else if j = 1 then some (.int .i64 a) else if j = 2 then some (.pointer (some ⟨S, 1, none⟩)) else if j = 3 then some (rgV r) else if j = 4 then some (rgV r)
                      else if j = 5 then some (.pointer (some ⟨u.b, 0, none⟩)) else if j = 6 then some (.agg (cellsOf (tkC a r (.pointer (some ⟨u.b, 0, none⟩))) 8)) else none)) NoB (Below M9 w9) _ _ _ _ (by kernel_rfl) (size_dst (by kernel_rfl)) (Below.refl _ _) ?_ ?_
                  · intro i hi ax wa hI ha hv
                    simp only [List.mem_cons, List.not_mem_nil, or_false] at hi
                    rcases hi with rfl | rfl | rfl | rfl | rfl | rfl | rfl
                    · have h : ax.tmps.getD 9 undef = .pointer (some ⟨S, 0, none⟩) := ha 9 (not_dst (by kernel_rfl))
                      exact potv_run rfl rfl _ rfl (by clear hv ha; go_simp) hM9d hI
                    · obtain ⟨v, hv1, hv2⟩ := hv 0 (by simp) (by kernel_rfl)
                      have e := hv2.val rfl
                      subst e
                      have h := hv1 88 (by rfl)
                      have c := cellB hM9d cI hI
                      exact potv_run rfl rfl _ rfl (by clear hv hv1 hv2 ha; go_simp) hM9d hI
                    · have h : ax.tmps.getD 9 undef = .pointer (some ⟨S, 0, none⟩) := ha 9 (not_dst (by kernel_rfl))
                      exact potv_run rfl rfl _ rfl (by clear hv ha; go_simp) hM9d hI
                    · obtain ⟨v, hv1, hv2⟩ := hv 2 (by simp) (by kernel_rfl)
                      have e := hv2.val rfl
                      subst e
                      have h := hv1 90 (by rfl)
                      obtain ⟨dF, v1, v2⟩ := undRF
                      exact potv_run rfl rfl _ rfl (run_ldc 24 (.tmp 90) rfl S 1 h 6 (rgC r) (fun j hj => cellB hM9d (cR j hj) hI) _ v1 v2 szRF) hM9d hI
                    · obtain ⟨v, hv1, hv2⟩ := hv 3 (by simp) (by kernel_rfl)
                      have e := hv2.val rfl
                      subst e
                      exact potv_cl rfl rfl 40 _ _ rfl #[rgV r] (by simp only [List.map_toArray, List.map_cons, List.map_nil]; exact congrArg (fun u => #[u]) (hv1 91 (by rfl))) (by kernel_rfl) _ (fun K hK => To12_any r wa K hK) rfl hM9d hI
                    · have h : ax.tmps.getD 6 undef = .pointer (some ⟨u.b, 0, none⟩) := ha 6 (not_dst (by kernel_rfl))
                      exact potv_run rfl rfl _ rfl (by clear hv ha; go_simp) hM9d hI
                    · obtain ⟨x1, hx1, hy1⟩ := hv 1 (by simp) (by kernel_rfl)
                      obtain ⟨x2, hx2, hy2⟩ := hv 4 (by simp) (by kernel_rfl)
                      obtain ⟨x3, hx3, hy3⟩ := hv 5 (by simp) (by kernel_rfl)
                      have e1 : ax.eval (.tmp 89) = .int .i64 a := (hx1 89 (by rfl)).trans (hy1.val rfl)
                      have e2 : ax.eval (.tmp 92) = rgV r := (hx2 92 (by rfl)).trans (hy2.val rfl)
                      have e3 : ax.eval (.tmp 93) = .pointer (some ⟨u.b, 0, none⟩) := (hx3 93 (by rfl)).trans (hy3.val rfl)
                      exact op_list rfl (wpl_build rfl 74 _ rfl (cellsOf (tkC a r (.pointer (some ⟨u.b, 0, none⟩))) 8) (by
                        simp only [List.map_toArray, List.map_cons, List.map_nil, e1, e2, e3]
                        kernel_rfl) (potV_val rfl _ rfl hM9d hI _ (fun M _ => Below.refl M _)))
                  · intro vals w10 hI hF hG
                    have e0 := (hF 0 (by simp)).val rfl
                    have e1 := (hF 1 (by simp)).val rfl
                    have e2 := (hF 2 (by simp)).val rfl
                    have e3 := (hF 3 (by simp)).val rfl
                    have e4 := (hF 4 (by simp)).val rfl
                    have e5 := (hF 5 (by simp)).val rfl
                    have e6 := (hF 6 (by simp)).val rfl
                    clear hF hG
                    simp only [List.foldl_cons, List.foldl_nil, dstOf, List.getElem?_toArray, List.getElem?_cons_succ, List.getElem?_cons_zero, Option.bind_some, Act.put, List.setIfInBounds_toArray, List.set_cons_succ, List.set_cons_zero, e0, e1, e2, e3, e4, e5, e6]
                    refine wpAny_chain [7, 8] _ _ _ _ (by kernel_rfl) (by decide) ?_
                    simp only [List.filterMap_cons, List.filterMap_nil, List.getElem?_toArray, List.getElem?_cons_succ, List.getElem?_cons_zero]
                    obtain ⟨M10, hM10⟩ := sz_some w10
                    have l10 := below_sz hI hM9d hM10
                    refine wpl_box rfl 74 (.tmp 94) rfl 8 _ rfl M10 hM10 ?_
                    intro w11 hM11 b11 h11
                    simp only [Act.put, List.setIfInBounds_toArray, List.set_cons_succ, List.set_cons_zero]
                    refine wpl_pure rfl (v := .pointer (some ⟨M10, 0, none⟩)) (fun w => rfl) ?_
                    simp only [Act.put, List.setIfInBounds_toArray, List.set_cons_succ, List.set_cons_zero]
                    have b11' := hI.trans (b11.mono l10)
                    have B11 := B9d.below hM9d l9 b11'
                    have C11 := C9d.below b11' (C9d.ltN hM9d)
                    have U11a := U9d.below hM9d b11'
                    have U11 : Tks w11 (⟨M10, a, r⟩ :: u :: us) := And.intro h11 (And.intro (fun x hx => by have := U9d.lt x hx; have e : w9.heap.size = M9 := hM9d; show x.b < M10; omega) U11a)
                    clear e0 e1 e2 e3 e4 e5 e6 hI b11 b11' h11 S9d U9d B9d C9d cI cR hM9d hM10
                    have CS := fun w M hM hT hU => Sound_any (N + 1) c f (⟨M10, a, r⟩ :: u :: us) (by simp) (by simp only [List.length_cons, List.length_nil]; omega) w M hM hT hU
                    rw [HV.out M10] at CS
                    have CC := fun w M hM hU => Chain_any (⟨M10, a, r⟩ :: u :: us) (by simp) (by simp only [List.length_cons, List.length_nil]; omega) w M hM hU
                    obtain ⟨K, hK⟩ : ∃ K, K = (⟨M10, a, r⟩ :: u :: us : List Tk).length := ⟨_, rfl⟩
                    rw [← hK] at CC
                    have l11 : N + 1 ≤ M10 + 1 := by omega
                    obtain rfl : K = l + 2 := by rw [hK]; simp only [List.length_cons, hus]
                    clear hK
                    have qq : (x3 != x3) = false := by simp
                    go_wp2_with (first
                      | (go_at_call 32; refine (CS _ _ hM11 B11.t U11).mono ?_; rintro e w12 ⟨rfl, b12⟩; obtain ⟨M12, hM12⟩ := sz_some w12; have l12 := below_sz b12 hM11 hM12; have U12 := U11.below hM11 b12)
                      | (go_at_call 31; refine (CC _ M12 hM12 U12).mono ?_; rintro e w13 ⟨g, cap', rfl, hg, hO, b13⟩)
                      | fail)
                    have b13' := b12.trans (b13.mono l12)
                    have B13 := B11.below hM11 l11 b13'
                    have C13 := C11.below b13' (C11.ltN hM11)
                    have U13 := U11.below hM11 b13'
                    go_roundg (n3 - (l + 1 + 1))
                    case measure => have := Hlt.out; omega
                    case rel => exact ⟨l + 1 + 1, ⟨M10, a, r⟩ :: u :: us, Hlt.out, rfl, rfl, by rw [HV.out M10], by go_num, by simp only [List.length_cons, hus], fun t us e => by
                        injection e with e1 e2
                        subst e1
                        exact ⟨Ha.out, Hr.out⟩, U13, B13, C13⟩
          · have q1 : ¬ ((k : Int) < (n2 : Int)) ∨ ((k : Int) < (n2 : Int) ∧ ¬ ((k : Int) < 6)) := by have := Hn3.out; omega
            have hHr := hH.below hN lo
            have DD := derives_any wr S hM hHr
            clear hlt
            rcases q1 with q1 | ⟨q1, q2'⟩
            · go_wp2_with (first
                | (go_at_call 30; refine DD.mono ?_; rintro e w9 ⟨rfl, b9⟩)
                | fail)
              go_ret
              exact ⟨rfl, lo.trans (b9.mono (by omega))⟩
            · go_wp2_with (first
                | (go_at_call 30; refine DD.mono ?_; rintro e w9 ⟨rfl, b9⟩)
                | fail)
              go_ret
              exact ⟨rfl, lo.trans (b9.mono (by omega))⟩
end Go.Proofs.YtcbcnhkalchpbaaDoor
