/- TokenDepth: the walk. -/
import Derived.Test.YtcbcnhkalchpbaaDoorTk7
import Derived.Test.YtcbcnhkalchpbaaDoorAts2
import Derived.Test.YtcbcnhkalchpbaaDoorRi10
namespace Go.Proofs.YtcbcnhkalchpbaaDoor
open Go Go.RowKit
/-- What of the helpers' rights is left ahead of the i-th token. -/
def rmB (cut h i : Nat) : BitVec 16 := if i ≤ cut then 255#16 else 255#16 &&& ~~~oneB h
def rmR (cut h i : Nat) : Rg := rgCut (rmB cut h i)
/-- The tokens of the law, from the last one on. -/
def Dch (cut h : Nat) : List Tk → Prop
  | [] => True
  | t :: D => t.at_ = 0 ∧ t.r = rmR cut h (D.length + 1) ∧ Dch cut h D
theorem cut_within (x y : BitVec 16) : rWithin (rgCut x) (rgCut y) = (x &&& ~~~y == 0#16) := by
  unfold rWithin rgCut
  simp
theorem rm_within (cut h i : Nat) : rWithin (rmR cut h (i + 1)) (rmR cut h i) = true := by
  unfold rmR
  rw [cut_within]
  unfold rmB
  by_cases h1 : i + 1 ≤ cut
  · rw [if_pos h1, if_pos (by omega), self_and]; rfl
  · rw [if_neg h1]
    by_cases h2 : i ≤ cut
    · rw [if_pos h2, less_and]; rfl
    · rw [if_neg h2, self_and]; rfl
theorem rm_mono (cut h i j : Nat) (hij : i ≤ j) : rWithin (rmR cut h j) (rmR cut h i) = true := by
  unfold rmR
  rw [cut_within]
  unfold rmB
  by_cases h1 : j ≤ cut
  · rw [if_pos h1, if_pos (by omega), self_and]; rfl
  · rw [if_neg h1]
    by_cases h2 : i ≤ cut
    · rw [if_pos h2, less_and]; rfl
    · rw [if_neg h2, self_and]; rfl
theorem rm_all (cut h i : Nat) : rWithin (rmR cut h i) rgAll = true := by
  unfold rmR
  rw [show rgAll = rgCut 255#16 from rfl, cut_within]
  unfold rmB
  by_cases h2 : i ≤ cut
  · rw [if_pos h2, self_and]; rfl
  · rw [if_neg h2, less_and]; rfl
theorem dch_snd (cut h : Nat) : ∀ ts : List Tk, Dch cut h ts → sndT (fun _ => 0) 1 ts = true
  | [], _ => rfl
  | t :: D, hd => by
    obtain ⟨h1, h2, h3⟩ := hd
    have e0 : insI (fun _ => 0) 1 0 0 = true := by decide
    have e := dch_snd cut h D h3
    unfold sndT
    rw [e, Bool.true_and, h1, h2]
    cases D with
    | nil =>
      simp only [prvAt, prvR, List.length_nil, e0, Bool.true_and]
      exact rm_all cut h _
    | cons u us =>
      obtain ⟨k1, k2, k3⟩ := h3
      simp only [prvAt, prvR, k1, k2, e0, Bool.true_and, List.length_cons]
      exact rm_within cut h _
theorem oneB_bit (h : Nat) (hh : h < 8) : (255#16 &&& ~~~oneB h).getLsbD h = false ∧ (255#16).getLsbD h = true := by
  rcases (show h = 0 ∨ h = 1 ∨ h = 2 ∨ h = 3 ∨ h = 4 ∨ h = 5 ∨ h = 6 ∨ h = 7 by omega) with rfl | rfl | rfl | rfl | rfl | rfl | rfl | rfl <;> decide
/-- A helper's right, of the i-th token. -/
theorem help_rm (cut h i : Nat) (hh : h < 8) : helpE (rmR cut h (i + 1)) (hpN h) = if i < cut then 0 else 1 := by
  unfold helpE
  rw [bitOf_some hh rfl]
  obtain ⟨b1, b2⟩ := oneB_bit h hh
  show hasE (rmB cut h (i + 1)) (h : Int) = _
  unfold hasE rmB
  rw [if_neg (by omega), Int.toNat_natCast]
  by_cases hc : i < cut
  · rw [if_pos hc, if_pos (show i + 1 ≤ cut by omega), b2]; rfl
  · rw [if_neg hc, if_neg (show ¬ i + 1 ≤ cut by omega), b1]; rfl
set_option maxRecDepth 100000 in
set_option maxHeartbeats 2000000 in
theorem law_tdepth (z0 z1 z2 : Int) (w : World) (N : Nat) (hN : Sz w N) (hH : Hp w) :
    Calls Tryd.prog 11 #[.int .i64 z0, .int .i64 z1, .int .i64 z2] w fun e w' => e = .returned (.bool true) ∧ Below N w w' := by
  obtain ⟨k, hk, ek⟩ := rest z0 6 (by omega) (by omega)
  obtain ⟨cut, hc, ec⟩ := rest z1 6 (by omega) (by omega)
  obtain ⟨h, hh, eh⟩ := rest z2 8 (by omega) (by omega)
  rw [show ((6 : Nat) : Int) = 6 from rfl] at ek ec
  rw [show ((8 : Nat) : Int) = 8 from rfl] at eh
  have Ek := hid ek
  have Ec := hid ec
  have Eh := hid eh
  clear ek ec eh
  go_enter Tryd.func11, Tryd.ntmps11
  go_upto_region 4 with (first
    | (go_at_call 29; refine (New_any _ N hN).mono ?_; rintro e w1 ⟨rfl, b1, T1, hN1⟩)
    | fail)
  rw [Ec.out, Eh.out, Ek.out]
  clear Ek Ec Eh
  have e1 : wrap64 (1 + (k : Int)) = ((k + 1 : Nat) : Int) := by rw [IntWalk.wrap64_in _ (by omega)]; omega
  rw [e1]
  clear e1
  go_upto_region 5 with fail
  have b2 := below_new w1 (.cells #[.int .i32 1, .int .i32 2, .int .i32 3, .int .i32 5, .int .i32 7, .int .i32 87, .int .i32 88, .int .i32 89] 21) (N + 1) hN1
  have hN2 := sz_alloc hN1 (.cells #[.int .i32 1, .int .i32 2, .int .i32 3, .int .i32 5, .int .i32 7, .int .i32 87, .int .i32 88, .int .i32 89] 21)
  have hB : Has (w1.alloc (.cells #[.int .i32 1, .int .i32 2, .int .i32 3, .int .i32 5, .int .i32 7, .int .i32 87, .int .i32 88, .int .i32 89] 21)) (N + 1) 21 8 (fun j => .int .i32 (hpN j)) := by
    have := Has.new w1 21 8 (fun j => .int .i32 (hpN j))
    rw [show w1.heap.size = N + 1 from hN1] at this
    exact this
  rw [show w1.heap.size = N + 1 from hN1]
  have T2 := T1.below hN1 b2
  have lo2 := b1.trans (b2.mono (by omega))
  clear T1 b1 b2 hN1
  generalize w1.alloc (.cells #[.int .i32 1, .int .i32 2, .int .i32 3, .int .i32 5, .int .i32 7, .int .i32 87, .int .i32 88, .int .i32 89] 21) = w2 at *
  go_upto_region 6 with (first
    | (go_at_call 26; refine (All_any _ _ hN2).mono ?_; rintro e w3 ⟨rfl, b3⟩; obtain ⟨M3, hM3⟩ := sz_some w3; unfold rgV)
    | (refine wpl_alloc rfl 26 rfl 6 (rgC rgNone) zeRR M3 hM3 ?_; intro w4 hM4 b4 h4)
    | (refine wpl_store rfl 26 (.tmp 12) (.tmp 32) rfl M3 6 (rgC rgAll) rfl rfl 26 _ h4 szRR (fun j _ => rgC_one _ j) ?_; intro w5 t5 h5)
    | fail)
  have l3 := below_sz b3 hN2 hM3
  have b5 := t5.below (b3.trans (b4.mono l3)) l3
  have lo5 := lo2.trans (b5.mono (by omega))
  have T5 := T2.below hN2 b5
  have hB5 := hB.below b5 (by omega)
  have hM5 := t5.sz hM4
  have H5 := hH.below hN lo5
  have l5 := below_sz lo5 hN hM5
  clear b3 b4 t5 h4 hM4 hM3 T2 hB lo2 hN2 b5
  go_upto_region 9 with (first
    | (go_at_call 30; refine (derives_any _ _ hM5 H5).mono ?_; rintro e w6 ⟨rfl, b6⟩)
    | fail)
  have lo6 := lo5.trans (b6.mono l5)
  have T6 := T5.below hM5 b6
  have hB6 := hB5.below b6 (by omega)
  have h6 : Has w6 M3 26 6 (rgC (rmR cut h 0)) := by
    have := h5.below b6 (by omega)
    exact this.congr (fun j _ => by unfold rmR rmB; rw [if_pos (by omega)]; rfl)
  have R3 := hid l3
  clear b6 T5 hB5 h5 hM5 lo5 H5 l5 l3
  go_wp2_with fail
  go_loopg [13, 14] (k + 1) (fun g x i wr => ∃ (m : Nat) (ts : List Tk), m ≤ k + 1 ∧ g = k + 1 - m ∧ i = .int .i64 (m : Int) ∧ x = ptrOf ts ∧ ts.length = min m 4 ∧ Dch cut h ts ∧ Tks wr ts ∧ (∀ u ∈ ts, M3 < u.b) ∧
    Tr wr N 1 (fun _ => 0) ∧ Has wr (N + 1) 21 8 (fun j => .int .i32 (hpN j)) ∧ Has wr M3 26 6 (rgC (rmR cut h m)) ∧ Below N w wr)
  case atStart => exact ⟨0, [], by omega, by omega, rfl, rfl, rfl, trivial, trivial, fun u hu => (by cases hu), T6, hB6, h6, lo6⟩
  case round =>
    clear T6 hB6 h6 lo6
    obtain ⟨m, ts, hm, rfl, rfl, rfl, hlen, hD, hU, hRb, hT, hB, hR, lo⟩ := hrel
    have hH' := hH.below hN lo
    obtain ⟨dR, u1, u2⟩ := undRR
    obtain ⟨M, hM⟩ := sz_some wr
    have lM := below_sz lo hN hM
    have m0 : (0 : Int) ≤ (m : Int) := by omega
    have h0 : (0 : Int) ≤ (h : Int) := by omega
    have h8 : (h : Int) < 8 := by omega
    by_cases hlt : m < k + 1
    · have q0 : (m : Int) < ((k + 1 : Nat) : Int) := by omega
      by_cases hcut : m = cut
      · have qe : ((m : Int) == (cut : Int)) = true := by rw [beq_iff_eq]; omega
        have Hcut := hid hcut
        clear hcut
        obtain ⟨f0, f1, f2, f3, f4, f5⟩ := rg_cells hR
        have hRm := hid hR
        clear hR
        go_upto_region 13 with fail
        refine wp_region_quiet_tail 6 (by kernel_rfl) (by kernel_rfl) ?_
        simp only [List.take_succ_cons, List.take_zero, List.drop_succ_cons, List.drop_zero]
        iterate 6 go_big_quiet_step (fail)
        refine wpQuiet_nil ?_
        rintro w4 ⟨q, e4⟩
        have kb0 : Has w4 M3 26 6 (rgC (rmR cut h m)) := by rw [e4]; exact hRm.out
        have hB : Has w4 (N + 1) 21 8 (fun j => .int .i32 (hpN j)) := by rw [e4]; exact hB
        have lo : Below N w w4 := by rw [e4]; exact below_drewN lo q
        have hT : Tr w4 N 1 (fun _ => 0) := by rw [e4]; exact ⟨hT.h, hT.c1, hT.c8, hT.z, hT.dec⟩
        have hU : Tks w4 ts := by rw [e4]; exact hU.same (fun _ _ => rfl)
        have hM : Sz w4 M := by rw [e4]; exact hM
        clear e4 f0 f1 f2 f3 f4 f5 hRm hH'
        have eh : (rmR cut h m).h = 255#16 := by unfold rmR rmB; rw [if_pos (by have := Hcut.out; omega)]; rfl
        rw [wrap_oneB h (by omega), andNot_u6, eh]
        refine wpl_set rfl 22 (.tmp 48) (.tmp 47) rfl M3 3 rfl (Wd (255#16 &&& ~~~oneB h)) rfl (by kernel_rfl) rfl rfl 26 6 _ kb0 (by omega) ?_
        intro w5 t5 k5
        have M3N := kb0.ltN hM
        have hR : Has w5 M3 26 6 (rgC (rmR cut h (m + 1))) := k5.congr (fun i hi => by
          have e1 : rmR cut h (m + 1) = rgCut (255#16 &&& ~~~oneB h) := by unfold rmR rmB; rw [if_neg (by have := Hcut.out; omega)]
          rw [e1]
          exact cut_cells _ _ i hi)
        have r3 := R3.out
        have hB := hB.touch t5 (by omega)
        have lo := t5.below lo (by omega)
        have hT := hT.touch t5 (by omega)
        have hU : Tks w5 ts := hU.same (fun u hu => t5.block u.b (by have := hRb u hu; omega))
        have hM := t5.sz hM
        have hH' := hH.below hN lo
        clear k5 kb0 t5 eh
        go_upto_region 16 with fail
        have c8 := hB.cell (j := h) hh
        by_cases hz : m = 0
        · subst hz
          obtain rfl : ts = [] := List.eq_nil_of_length_eq_zero (by omega)
          have er : rootErr 1 (0 : Int) (rmR cut h 1) = 0 := by unfold rootErr; rw [show isIn 1 0 = true from by decide, if_pos rfl, rm_all, if_pos rfl]
          have CR := fun w M hM hT => Root_ok (b := N) (f := fun _ => 0) (N := M) (w := w) er hM hT
          clear er hD hU
          unfold rgV at CR
          have z0 : (((0 : Nat) : Int) == 0) = true := by simp
          go_upto_region 22 with (first
            | (refine wpl_load rfl 26 (.tmp 12) rfl M3 rfl 26 6 _ hR _ u1 u2 szRR ?_)
            | (go_at_call 27; refine (CR _ M hM hT).mono ?_; rintro e w8 ⟨k2, rfl, l2, b8, U8⟩)
            | fail)
          have HE := help_rm cut h 0 hh
          have c9 : w8.cell? ⟨N + 1, h, none⟩ = some (.int .i32 (hpN h)) := cellB hM c8 b8
          have lo8 := lo.trans (b8.mono lM)
          have T8 := hT.below hM b8
          have B8 := hB.below b8 (hB.ltN hM)
          have R8 := hR.below b8 (hR.ltN hM)
          have H8 := hH'.below hM b8
          obtain ⟨M8, hM8⟩ := sz_some w8
          have l8 := below_sz lo8 hN hM8
          have M3l := hR.ltN hM
          clear hT hB hR hH' c8 b8 lo lM
          obtain ⟨E, hE⟩ : ∃ E, E = helpE (rmR cut h (0 + 1)) (hpN h) := ⟨_, rfl⟩
          have CH := fun w M hM hH hU => Helper_any ([⟨k2, 0, rmR cut h (0 + 1)⟩]) (hpN h) w M hM hH hU
          simp only [rOf] at CH
          rw [← hE] at CH HE
          clear hE
          have Hlt := hid hlt
          clear hlt
          by_cases hcc : 0 < cut
          · rw [if_pos hcc] at HE
            subst HE
            
            go_wp2_with (first
              | (go_at_call 36; refine (CH _ M8 hM8 H8 U8).mono ?_; rintro e w9 ⟨rfl, b9⟩)
              | fail)
            have lo9 := lo8.trans (b9.mono l8)
            have T9 := T8.below hM8 b9
            have B9 := B8.below b9 (B8.ltN hM8)
            have R9 := R8.below b9 (R8.ltN hM8)
            have U9 := U8.below hM8 b9
            go_roundg (k + 1 - (0 + 1))
            case measure => have := Hlt.out; omega
            case rel => exact ⟨0 + 1, [⟨k2, 0, rmR cut h (0 + 1)⟩], Hlt.out, rfl, by go_num, rfl, rfl, And.intro rfl (And.intro rfl trivial), U9, (fun u hu => by obtain rfl := List.mem_singleton.1 hu; show M3 < k2; omega), T9, B9, R9, lo9⟩
          · rw [if_neg hcc] at HE
            subst HE
            have q1 : ¬ (0 : Int) < (cut : Int) := by omega
            clear hcc
            go_wp2_with (first
              | (go_at_call 36; refine (CH _ M8 hM8 H8 U8).mono ?_; rintro e w9 ⟨rfl, b9⟩)
              | fail)
            have lo9 := lo8.trans (b9.mono l8)
            have T9 := T8.below hM8 b9
            have B9 := B8.below b9 (B8.ltN hM8)
            have R9 := R8.below b9 (R8.ltN hM8)
            have U9 := U8.below hM8 b9
            go_roundg (k + 1 - (0 + 1))
            case measure => have := Hlt.out; omega
            case rel => exact ⟨0 + 1, [⟨k2, 0, rmR cut h (0 + 1)⟩], Hlt.out, rfl, by go_num, rfl, rfl, And.intro rfl (And.intro rfl trivial), U9, (fun u hu => by obtain rfl := List.mem_singleton.1 hu; show M3 < k2; omega), T9, B9, R9, lo9⟩
        · obtain ⟨t, D, rfl⟩ : ∃ t D, ts = t :: D := by
            cases ts with
            | nil => simp at hlen; omega
            | cons t D => exact ⟨t, D, rfl⟩
          have hzz : ((m : Int) == 0) = false := by rw [beq_eq_false_iff_ne]; omega
          obtain ⟨d1, d2, d3⟩ := hD
          have D0 : Hid (Dch cut h (t :: D)) := hid ⟨d1, d2, d3⟩
          have i0 : insI (fun _ => 0) 1 0 0 = true := by decide
          have j0 : isIn 1 0 = true := by decide
          simp only [ptrOf]
          by_cases h4 : m < 4
          · have dl : D.length + 1 = m := by have : (t :: D).length = m := by omega
                                             simpa using this
            have er : derErr (fun _ => 0) 1 t D 0 (rmR cut h (m + 1)) = 0 := by
              unfold derErr derE
              rw [j0, if_pos rfl, d1, i0, d2, dl, rm_within, Bool.and_self, if_pos rfl, if_neg (by show ¬ 4 ≤ (t :: D).length; rw [List.length_cons]; omega)]
            have CR := fun w M hM hT hU => Derive_ok (b := N) (f := fun _ => 0) (N := M) (w := w) (us := D) er hM hT hU
            clear er d1 d2 d3
            unfold rgV at CR
            have z4 : ¬ (4 : Int) ≤ (m : Int) := by omega
            go_upto_region 22 with (first
              | (refine wpl_load rfl 26 (.tmp 12) rfl M3 rfl 26 6 _ hR _ u1 u2 szRR ?_)
              | (go_at_call 28; refine (CR _ M hM hT hU).mono ?_; rintro e w8 ⟨k2, rfl, l2, b8, U8⟩)
              | fail)
            have HE := help_rm cut h m hh
            clear hU z4 i0 j0
            have c9 : w8.cell? ⟨N + 1, h, none⟩ = some (.int .i32 (hpN h)) := cellB hM c8 b8
            have lo8 := lo.trans (b8.mono lM)
            have T8 := hT.below hM b8
            have B8 := hB.below b8 (hB.ltN hM)
            have R8 := hR.below b8 (hR.ltN hM)
            have H8 := hH'.below hM b8
            obtain ⟨M8, hM8⟩ := sz_some w8
            have l8 := below_sz lo8 hN hM8
            have M3l := hR.ltN hM
            clear hT hB hR hH' c8 b8 lo lM
            obtain ⟨E, hE⟩ : ∃ E, E = helpE (rmR cut h (m + 1)) (hpN h) := ⟨_, rfl⟩
            have CH := fun w M hM hH hU => Helper_any (⟨k2, 0, rmR cut h (m + 1)⟩ :: t :: D) (hpN h) w M hM hH hU
            simp only [rOf] at CH
            rw [← hE] at CH HE
            clear hE
            have Hlt := hid hlt
            clear hlt
            by_cases hcc : m < cut
            · rw [if_pos hcc] at HE
              subst HE
              have q1 : (m : Int) < (cut : Int) := by omega
              clear hcc
              go_wp2_with (first
                | (go_at_call 36; refine (CH _ M8 hM8 H8 U8).mono ?_; rintro e w9 ⟨rfl, b9⟩)
                | fail)
              have lo9 := lo8.trans (b9.mono l8)
              have T9 := T8.below hM8 b9
              have B9 := B8.below b9 (B8.ltN hM8)
              have R9 := R8.below b9 (R8.ltN hM8)
              have U9 := U8.below hM8 b9
              go_roundg (k + 1 - (m + 1))
              case measure => have := Hlt.out; omega
              case rel => exact ⟨m + 1, ⟨k2, 0, rmR cut h (m + 1)⟩ :: t :: D, Hlt.out, rfl, by go_num, rfl, by rw [List.length_cons, List.length_cons, dl]; omega, And.intro rfl (And.intro (by rw [List.length_cons, dl]) D0.out), U9, (fun u hu => by rcases List.mem_cons.1 hu with rfl | hu; (show M3 < k2; omega); exact hRb u hu), T9, B9, R9, lo9⟩
            · rw [if_neg hcc] at HE
              subst HE
              have q1 : ¬ (m : Int) < (cut : Int) := by omega
              clear hcc
              go_wp2_with (first
                | (go_at_call 36; refine (CH _ M8 hM8 H8 U8).mono ?_; rintro e w9 ⟨rfl, b9⟩)
                | fail)
              have lo9 := lo8.trans (b9.mono l8)
              have T9 := T8.below hM8 b9
              have B9 := B8.below b9 (B8.ltN hM8)
              have R9 := R8.below b9 (R8.ltN hM8)
              have U9 := U8.below hM8 b9
              go_roundg (k + 1 - (m + 1))
              case measure => have := Hlt.out; omega
              case rel => exact ⟨m + 1, ⟨k2, 0, rmR cut h (m + 1)⟩ :: t :: D, Hlt.out, rfl, by go_num, rfl, by rw [List.length_cons, List.length_cons, dl]; omega, And.intro rfl (And.intro (by rw [List.length_cons, dl]) D0.out), U9, (fun u hu => by rcases List.mem_cons.1 hu with rfl | hu; (show M3 < k2; omega); exact hRb u hu), T9, B9, R9, lo9⟩
          · have dl : (t :: D).length = 4 := by omega
            have er : derErr (fun _ => 0) 1 t D 0 (rmR cut h (m + 1)) = 7 := by
              unfold derErr derE
              have d5 : D.length + 1 = 4 := by simpa using dl
              have w1 : rWithin (rmR cut h (m + 1)) (rmR cut h (D.length + 1)) = true := rm_mono cut h _ _ (by omega)
              rw [j0, if_pos rfl, d1, i0, d2, w1, Bool.and_self, if_pos rfl, if_pos (by omega)]
            have CR := fun w M hM hT hU => Derive_no (b := N) (f := fun _ => 0) (N := M) (w := w) (us := D) er (by decide) hM hT hU
            clear er d1 d2 d3
            unfold rgV at CR
            have z4 : (4 : Int) ≤ (m : Int) := by omega
            have Hlt := hid hlt
            clear hlt
            have lo' := lo
            clear i0 j0
            go_wp2_with (first
              | (refine wpl_load rfl 26 (.tmp 12) rfl M3 rfl 26 6 _ hR _ u1 u2 szRR ?_)
              | (go_at_call 28; refine (CR _ M hM hT hU).mono ?_; rintro e w8 ⟨rfl, b8⟩)
              | fail)
            have lo8 := lo.trans (b8.mono lM)
            have T8 := hT.below hM b8
            have B8 := hB.below b8 (hB.ltN hM)
            have R8 := hR.below b8 (hR.ltN hM)
            have U8 := hU.below hM b8
            go_roundg (k + 1 - (m + 1))
            case measure => have := Hlt.out; omega
            case rel => exact ⟨m + 1, t :: D, Hlt.out, rfl, by go_num, rfl, by rw [dl]; omega, D0.out, U8, hRb, T8, B8, R8, lo8⟩
      · have qe : ((m : Int) == (cut : Int)) = false := by rw [beq_eq_false_iff_ne]; omega
        have hR : Has wr M3 26 6 (rgC (rmR cut h (m + 1))) := by
          have e1 : rmR cut h (m + 1) = rmR cut h m := by
            unfold rmR rmB
            by_cases hx : m < cut
            · rw [if_pos (by omega), if_pos (by omega)]
            · rw [if_neg (by omega), if_neg (by omega)]
          rw [e1]
          exact hR
        have r3 := R3.out
        go_upto_region 16 with fail
        have c8 := hB.cell (j := h) hh
        by_cases hz : m = 0
        · subst hz
          obtain rfl : ts = [] := List.eq_nil_of_length_eq_zero (by omega)
          have er : rootErr 1 (0 : Int) (rmR cut h 1) = 0 := by unfold rootErr; rw [show isIn 1 0 = true from by decide, if_pos rfl, rm_all, if_pos rfl]
          have CR := fun w M hM hT => Root_ok (b := N) (f := fun _ => 0) (N := M) (w := w) er hM hT
          clear er hD hU
          unfold rgV at CR
          have z0 : (((0 : Nat) : Int) == 0) = true := by simp
          go_upto_region 22 with (first
            | (refine wpl_load rfl 26 (.tmp 12) rfl M3 rfl 26 6 _ hR _ u1 u2 szRR ?_)
            | (go_at_call 27; refine (CR _ M hM hT).mono ?_; rintro e w8 ⟨k2, rfl, l2, b8, U8⟩)
            | fail)
          have HE := help_rm cut h 0 hh
          have c9 : w8.cell? ⟨N + 1, h, none⟩ = some (.int .i32 (hpN h)) := cellB hM c8 b8
          have lo8 := lo.trans (b8.mono lM)
          have T8 := hT.below hM b8
          have B8 := hB.below b8 (hB.ltN hM)
          have R8 := hR.below b8 (hR.ltN hM)
          have H8 := hH'.below hM b8
          obtain ⟨M8, hM8⟩ := sz_some w8
          have l8 := below_sz lo8 hN hM8
          have M3l := hR.ltN hM
          clear hT hB hR hH' c8 b8 lo lM
          obtain ⟨E, hE⟩ : ∃ E, E = helpE (rmR cut h (0 + 1)) (hpN h) := ⟨_, rfl⟩
          have CH := fun w M hM hH hU => Helper_any ([⟨k2, 0, rmR cut h (0 + 1)⟩]) (hpN h) w M hM hH hU
          simp only [rOf] at CH
          rw [← hE] at CH HE
          clear hE
          have Hlt := hid hlt
          clear hlt
          by_cases hcc : 0 < cut
          · rw [if_pos hcc] at HE
            subst HE
            
            go_wp2_with (first
              | (go_at_call 36; refine (CH _ M8 hM8 H8 U8).mono ?_; rintro e w9 ⟨rfl, b9⟩)
              | fail)
            have lo9 := lo8.trans (b9.mono l8)
            have T9 := T8.below hM8 b9
            have B9 := B8.below b9 (B8.ltN hM8)
            have R9 := R8.below b9 (R8.ltN hM8)
            have U9 := U8.below hM8 b9
            go_roundg (k + 1 - (0 + 1))
            case measure => have := Hlt.out; omega
            case rel => exact ⟨0 + 1, [⟨k2, 0, rmR cut h (0 + 1)⟩], Hlt.out, rfl, by go_num, rfl, rfl, And.intro rfl (And.intro rfl trivial), U9, (fun u hu => by obtain rfl := List.mem_singleton.1 hu; show M3 < k2; omega), T9, B9, R9, lo9⟩
          · exfalso; omega
        · obtain ⟨t, D, rfl⟩ : ∃ t D, ts = t :: D := by
            cases ts with
            | nil => simp at hlen; omega
            | cons t D => exact ⟨t, D, rfl⟩
          have hzz : ((m : Int) == 0) = false := by rw [beq_eq_false_iff_ne]; omega
          obtain ⟨d1, d2, d3⟩ := hD
          have D0 : Hid (Dch cut h (t :: D)) := hid ⟨d1, d2, d3⟩
          have i0 : insI (fun _ => 0) 1 0 0 = true := by decide
          have j0 : isIn 1 0 = true := by decide
          simp only [ptrOf]
          by_cases h4 : m < 4
          · have dl : D.length + 1 = m := by have : (t :: D).length = m := by omega
                                             simpa using this
            have er : derErr (fun _ => 0) 1 t D 0 (rmR cut h (m + 1)) = 0 := by
              unfold derErr derE
              rw [j0, if_pos rfl, d1, i0, d2, dl, rm_within, Bool.and_self, if_pos rfl, if_neg (by show ¬ 4 ≤ (t :: D).length; rw [List.length_cons]; omega)]
            have CR := fun w M hM hT hU => Derive_ok (b := N) (f := fun _ => 0) (N := M) (w := w) (us := D) er hM hT hU
            clear er d1 d2 d3
            unfold rgV at CR
            have z4 : ¬ (4 : Int) ≤ (m : Int) := by omega
            go_upto_region 22 with (first
              | (refine wpl_load rfl 26 (.tmp 12) rfl M3 rfl 26 6 _ hR _ u1 u2 szRR ?_)
              | (go_at_call 28; refine (CR _ M hM hT hU).mono ?_; rintro e w8 ⟨k2, rfl, l2, b8, U8⟩)
              | fail)
            have HE := help_rm cut h m hh
            clear hU z4 i0 j0
            have c9 : w8.cell? ⟨N + 1, h, none⟩ = some (.int .i32 (hpN h)) := cellB hM c8 b8
            have lo8 := lo.trans (b8.mono lM)
            have T8 := hT.below hM b8
            have B8 := hB.below b8 (hB.ltN hM)
            have R8 := hR.below b8 (hR.ltN hM)
            have H8 := hH'.below hM b8
            obtain ⟨M8, hM8⟩ := sz_some w8
            have l8 := below_sz lo8 hN hM8
            have M3l := hR.ltN hM
            clear hT hB hR hH' c8 b8 lo lM
            obtain ⟨E, hE⟩ : ∃ E, E = helpE (rmR cut h (m + 1)) (hpN h) := ⟨_, rfl⟩
            have CH := fun w M hM hH hU => Helper_any (⟨k2, 0, rmR cut h (m + 1)⟩ :: t :: D) (hpN h) w M hM hH hU
            simp only [rOf] at CH
            rw [← hE] at CH HE
            clear hE
            have Hlt := hid hlt
            clear hlt
            by_cases hcc : m < cut
            · rw [if_pos hcc] at HE
              subst HE
              have q1 : (m : Int) < (cut : Int) := by omega
              clear hcc
              go_wp2_with (first
                | (go_at_call 36; refine (CH _ M8 hM8 H8 U8).mono ?_; rintro e w9 ⟨rfl, b9⟩)
                | fail)
              have lo9 := lo8.trans (b9.mono l8)
              have T9 := T8.below hM8 b9
              have B9 := B8.below b9 (B8.ltN hM8)
              have R9 := R8.below b9 (R8.ltN hM8)
              have U9 := U8.below hM8 b9
              go_roundg (k + 1 - (m + 1))
              case measure => have := Hlt.out; omega
              case rel => exact ⟨m + 1, ⟨k2, 0, rmR cut h (m + 1)⟩ :: t :: D, Hlt.out, rfl, by go_num, rfl, by rw [List.length_cons, List.length_cons, dl]; omega, And.intro rfl (And.intro (by rw [List.length_cons, dl]) D0.out), U9, (fun u hu => by rcases List.mem_cons.1 hu with rfl | hu; (show M3 < k2; omega); exact hRb u hu), T9, B9, R9, lo9⟩
            · rw [if_neg hcc] at HE
              subst HE
              have q1 : ¬ (m : Int) < (cut : Int) := by omega
              clear hcc
              go_wp2_with (first
                | (go_at_call 36; refine (CH _ M8 hM8 H8 U8).mono ?_; rintro e w9 ⟨rfl, b9⟩)
                | fail)
              have lo9 := lo8.trans (b9.mono l8)
              have T9 := T8.below hM8 b9
              have B9 := B8.below b9 (B8.ltN hM8)
              have R9 := R8.below b9 (R8.ltN hM8)
              have U9 := U8.below hM8 b9
              go_roundg (k + 1 - (m + 1))
              case measure => have := Hlt.out; omega
              case rel => exact ⟨m + 1, ⟨k2, 0, rmR cut h (m + 1)⟩ :: t :: D, Hlt.out, rfl, by go_num, rfl, by rw [List.length_cons, List.length_cons, dl]; omega, And.intro rfl (And.intro (by rw [List.length_cons, dl]) D0.out), U9, (fun u hu => by rcases List.mem_cons.1 hu with rfl | hu; (show M3 < k2; omega); exact hRb u hu), T9, B9, R9, lo9⟩
          · have dl : (t :: D).length = 4 := by omega
            have er : derErr (fun _ => 0) 1 t D 0 (rmR cut h (m + 1)) = 7 := by
              unfold derErr derE
              have d5 : D.length + 1 = 4 := by simpa using dl
              have w1 : rWithin (rmR cut h (m + 1)) (rmR cut h (D.length + 1)) = true := rm_mono cut h _ _ (by omega)
              rw [j0, if_pos rfl, d1, i0, d2, w1, Bool.and_self, if_pos rfl, if_pos (by omega)]
            have CR := fun w M hM hT hU => Derive_no (b := N) (f := fun _ => 0) (N := M) (w := w) (us := D) er (by decide) hM hT hU
            clear er d1 d2 d3
            unfold rgV at CR
            have z4 : (4 : Int) ≤ (m : Int) := by omega
            have Hlt := hid hlt
            clear hlt
            have lo' := lo
            clear i0 j0
            go_wp2_with (first
              | (refine wpl_load rfl 26 (.tmp 12) rfl M3 rfl 26 6 _ hR _ u1 u2 szRR ?_)
              | (go_at_call 28; refine (CR _ M hM hT hU).mono ?_; rintro e w8 ⟨rfl, b8⟩)
              | fail)
            have lo8 := lo.trans (b8.mono lM)
            have T8 := hT.below hM b8
            have B8 := hB.below b8 (hB.ltN hM)
            have R8 := hR.below b8 (hR.ltN hM)
            have U8 := hU.below hM b8
            go_roundg (k + 1 - (m + 1))
            case measure => have := Hlt.out; omega
            case rel => exact ⟨m + 1, t :: D, Hlt.out, rfl, by go_num, rfl, by rw [dl]; omega, D0.out, U8, hRb, T8, B8, R8, lo8⟩
    · have q0 : ¬ (m : Int) < ((k + 1 : Nat) : Int) := by omega
      obtain rfl : m = k + 1 := by omega
      have hp : 0 < ts.length := by omega
      have CS := fun w M hM hT hU => Sound_any N 1 (fun _ => 0) ts hp (by omega) w M hM hT hU
      rw [dch_snd cut h ts hD] at CS
      have CC := fun w M hM hU => Chain_any ts hp (by omega) w M hM hU
      obtain ⟨K, hK⟩ : ∃ K, K = ts.length := ⟨_, rfl⟩
      rw [← hK] at CC hlen
      obtain ⟨V, hV⟩ : ∃ V, V = ptrOf ts := ⟨_, rfl⟩
      rw [← hV] at CC CS ⊢
      clear hK hV hp
      by_cases h4 : k + 1 ≤ 4
      · obtain rfl : K = k + 1 := by omega
        have q4 : (k : Int) + 1 ≤ 4 := by omega
        clear hlen
        go_wp2_with (first
          | (go_at_call 32; refine (CS _ M hM hT hU).mono ?_; rintro e w8 ⟨rfl, b8⟩; obtain ⟨M8, hM8⟩ := sz_some w8; have l8 := below_sz b8 hM hM8; have U8 := hU.below hM b8)
          | (go_at_call 31; refine (CC _ M8 hM8 U8).mono ?_; rintro e w9 ⟨g, cap, rfl, hg, hO, b9⟩)
          | fail)
        go_ret
        exact ⟨rfl, lo.trans ((b8.trans (b9.mono l8)).mono lM)⟩
      · obtain rfl : K = 4 := by omega
        have q4 : ¬ ((k : Int) + 1 ≤ 4) := by omega
        clear hlen
        go_wp2_with (first
          | (go_at_call 32; refine (CS _ M hM hT hU).mono ?_; rintro e w8 ⟨rfl, b8⟩; obtain ⟨M8, hM8⟩ := sz_some w8; have l8 := below_sz b8 hM hM8; have U8 := hU.below hM b8)
          | (go_at_call 31; refine (CC _ M8 hM8 U8).mono ?_; rintro e w9 ⟨g, cap, rfl, hg, hO, b9⟩)
          | fail)
        go_ret
        exact ⟨rfl, lo.trans ((b8.trans (b9.mono l8)).mono lM)⟩
end Go.Proofs.YtcbcnhkalchpbaaDoor
