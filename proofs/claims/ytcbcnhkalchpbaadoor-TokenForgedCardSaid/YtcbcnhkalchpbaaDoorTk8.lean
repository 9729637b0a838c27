/- TokenInside: the walk. -/
import Derived.Test.YtcbcnhkalchpbaaDoorTk7
import Derived.Test.YtcbcnhkalchpbaaDoorAts2
namespace Go.Proofs.YtcbcnhkalchpbaaDoor
open Go Go.RowKit
theorem makeErr_zero {f : Nat → Nat} {c : Nat} {up : Int} (h : makeErr f c up = 0) : ∃ k : Nat, up = (k : Int) ∧ k < c ∧ (ups f k).length ≤ 4 ∧ c < 8 := by
  unfold makeErr at h
  split at h
  · rename_i hi
    obtain ⟨k, rfl, hk⟩ := isIn_get hi
    rw [depth_nat hk] at h
    split at h
    · cases h
    · split at h
      · cases h
      · exact ⟨k, rfl, hk, by omega, by omega⟩
  · cases h
theorem all_all : rWithin rgAll rgAll = true := by decide
set_option maxRecDepth 100000 in
set_option maxHeartbeats 2000000 in
theorem law_tinside (q : Option Addr) (n cap : Nat) (Z : Nat → Int) (z1 z2 : Int) (w : World) (N : Nat) (hN : Sz w N) (hn : n ≤ 9223372036854775807) (hZ : Ats w q n (fun j => .int .i64 (Z j))) (hH : Hp w) :
    Calls Tryd.prog 12 #[.slice q n cap, .int .i64 z1, .int .i64 z2] w fun e w' => e = .returned (.bool true) ∧ Below N w w' := by
  obtain ⟨n1, hn1⟩ : ∃ n1, n1 = min n 9 := ⟨_, rfl⟩
  have Hn1 := hid hn1
  have b1 : n1 ≤ 9 := by omega
  have b2 : n1 ≤ n := by omega
  clear hn1
  go_enter Tryd.func12, Tryd.ntmps12
  go_wp2_with (first
    | (go_at_call 29; refine (New_any _ N hN).mono ?_; rintro e w1 ⟨rfl, hb1, T1, hN1⟩)
    | fail)
  have H0 := hid (And.intro T1 hb1)
  clear T1 hb1 hN1
  go_loopg [8] n1 (fun g i wr => ∃ (k c : Nat) (f : Nat → Nat), k ≤ n1 ∧ g = n1 - k ∧ i = .int .i64 k ∧ Tr wr N c f ∧ Below N w wr)
  case atStart => exact ⟨0, 1, _, by omega, rfl, rfl, H0.out.1, H0.out.2⟩
  case round =>
    clear H0
    obtain ⟨k, c, f, hk, rfl, rfl, T, B⟩ := hrel
    obtain ⟨M, hM⟩ := sz_some wr
    have hNM := below_sz B hN hM
    have k0 : (0 : Int) ≤ (k : Int) := by omega
    have k20 : (k : Int) ≤ 20 := by omega
    by_cases hlt : k < n1
    · have i1 : (k : Int) < (n : Int) := by omega
      have i2 : (k : Int) < 9 := by omega
      obtain ⟨rb, ro, rfl, hrc⟩ := hZ (by omega)
      have hrb : rb < N := by have := World.block_lt_of_cell? w _ (hrc k (by omega)); have e : w.heap.size = N := hN; simp only at this ⊢; omega
      have d1 : wr.cell? ⟨rb, ro + k, none⟩ = some (.int .i64 (Z k)) := (B.cell (p := ⟨rb, ro + k, none⟩) hrb).trans (hrc k (by omega))
      clear hrc
      obtain ⟨z, hz⟩ : ∃ z, z = Z k := ⟨_, rfl⟩
      rw [← hz] at d1
      clear hz
      by_cases he : makeErr f c z = 0
      · obtain ⟨u, rfl, hu, h4, h8⟩ := makeErr_zero he
        clear he
        have C1 := fun w hM hT => Make_ok N c f u hu h4 h8 w M hM hT
        clear hu h4 h8
        go_wp2_with (first
          | (go_at_call 38; refine (C1 _ hM T).mono ?_; rintro e w3 ⟨rfl, t3, T3⟩)
          | fail)
        have b3 : Below N w w3 := t3.below B (fun j h => by omega) (by rw [show wr.heap.size = M from hM]; exact hNM)
        go_roundg (n1 - (k + 1))
        case measure => omega
        case rel => exact ⟨k + 1, c + 1, addU f c u, by omega, rfl, by go_num, T3, b3⟩
      · have hu0 := hid he
        clear he
        obtain ⟨er, her⟩ : ∃ er, er = makeErr f c z := ⟨_, rfl⟩
        have C1 := fun w hM hT => Make_no N c f z hu0.out w M hM hT
        rw [← her] at C1
        clear her hu0
        go_wp2_with (first
          | (go_at_call 38; refine (C1 _ hM T).mono ?_; rintro e w3 ⟨rfl, b3⟩)
          | fail)
        have T3 := T.below hM b3
        have b4 := B.trans (b3.mono hNM)
        go_roundg (n1 - (k + 1))
        case measure => omega
        case rel => exact ⟨k + 1, c, f, by omega, rfl, by go_num, T3, b4⟩
    · have hx := Hn1.out
      have H3 := hH.below hN B
      have c1 := T.c1
      have c8 := T.c8
      have i1 : ¬ ((k : Int) < (n : Int)) ∨ ((k : Int) < (n : Int) ∧ ¬ ((k : Int) < 9)) := by omega
      clear hx hZ hH

      rcases i1 with i1 | ⟨i1, i2⟩
      · have D1 := fun w M hM hH => derives_any w M hM hH
        have k1 : ¬ (c : Int) < 1 := by omega
        go_upto_region 8 with (first
          | (go_at_call 30; refine (D1 _ M hM H3).mono ?_; rintro e w4 ⟨rfl, b4⟩; have T4 := T.below hM b4)
          | (go_at_call 46; refine (Len_any N c f _ T4).mono ?_; rintro e w5 ⟨rfl, rfl⟩)
          | fail)
        have lo4 := B.trans (b4.mono hNM)
        obtain ⟨M4, hM4⟩ := sz_some w5
        have l4 := below_sz lo4 hN hM4
        clear T B b4 H3 hM hNM D1
        have jz : ((c : Int) == 0) = false := by rw [beq_eq_false_iff_ne]; omega
        have ju : IntKind.u64.wrap (c : Int) = (c : Int) := by rw [IntKind.wrap_u64]; omega
        obtain ⟨i, hi, ei⟩ := rest z1 c (by omega) (by omega)
        obtain ⟨j, hj, ej⟩ := rest z2 c (by omega) (by omega)
        have Ei := hid ei
        have Ej := hid ej
        clear ei ej
        refine wp_region_later M4 (by kernel_rfl) (by kernel_rfl) ?_
        try simp only [Act.put, List.setIfInBounds_toArray, List.set_cons_succ, List.set_cons_zero]
        iterate 3 go_big_quiet_step (fail)
        go_big_quiet_step ((go_at_call 46; exact later_of_same _ (Len_any N c f _ (T4.below hM4 (Later.b _)))))
        iterate 6 go_big_quiet_step (fail)
        go_big_quiet_step ((go_at_call 46; exact later_of_same _ (Len_any N c f _ (T4.below hM4 (Later.b _)))))
        iterate 5 go_big_quiet_step (fail)
        refine wpQuiet_nil ?_
        rintro w6 ⟨q6, e6⟩
        have b6 := q6.b
        rw [← e6] at b6
        clear e6 q6
        rw [Ei.out, Ej.out]
        clear Ei Ej jz ju
        have T6 := T4.below hM4 b6
        have lo6 := lo4.trans (b6.mono l4)
        obtain ⟨M6, hM6⟩ := sz_some w6
        have l6 := below_sz lo6 hN hM6
        clear T4 b6 lo4 hM4 l4
        have ri : rootErr c (i : Int) rgAll = 0 := by unfold rootErr; rw [isIn_nat hi, if_pos rfl, all_all, if_pos rfl]
        have CR := fun w M hM hT => Root_ok (b := N) (f := f) (N := M) (w := w) ri hM hT
        clear ri
        go_upto_region 10 with (first
          | (go_at_call 26; refine (All_any _ _ hM6).mono ?_; rintro e w7 ⟨rfl, b7⟩; obtain ⟨M7, hM7⟩ := sz_some w7)
          | (go_at_call 27; refine (CR _ M7 hM7 (T6.below hM6 b7)).mono ?_; rintro e w8 ⟨k1, rfl, l1, b8, U8⟩)
          | fail)
        have l7 := below_sz b7 hM6 hM7
        have b8' := b7.trans (b8.mono l7)
        have lo8 := lo6.trans (b8'.mono l6)
        have T8 := T6.below hM6 b8'
        obtain ⟨M8, hM8⟩ := sz_some w8
        have l8 := below_sz lo8 hN hM8
        clear CR T6 b7 b8 b8' lo6 hM7 hM6 l7 l6 l1
        have ic : isIn c (c : Int) = false := by simp [isIn]
        have CN : derErr f c ⟨k1, (i : Int), rgAll⟩ [] (c : Int) rgAll = 2 := by unfold derErr; rw [ic, if_neg (by decide)]
        have CNo := fun w M hM hT hU => Derive_no (b := N) (w := w) (N := M) CN (by decide) hM hT hU
        clear CN ic
        have dE : derErr f c ⟨k1, (i : Int), rgAll⟩ [] (j : Int) rgAll = if insI f c (j : Int) (i : Int) then 0 else 1 := by
          unfold derErr derE
          rw [isIn_nat hj, if_pos rfl, all_all, Bool.and_true]
          cases insI f c (j : Int) (i : Int) <;> rfl
        have CI := fun w M hM hT => Inside_any N c f (j : Int) (i : Int) w M hM hT
        cases hij : insI f c (j : Int) (i : Int)
        · rw [hij] at dE CI
          rw [if_neg (by decide)] at dE
          have CD := fun w M hM hT hU => Derive_no (b := N) (w := w) (N := M) dE (by decide) hM hT hU
          clear dE hij
          go_upto_region 11 with (first
            | (go_at_call 26; refine (All_any _ _ hM8).mono ?_; rintro e w9 ⟨rfl, b9⟩; obtain ⟨M9, hM9⟩ := sz_some w9)
            | (go_at_call 28; refine (CD _ M9 hM9 (T8.below hM8 b9) (U8.below hM8 b9)).mono ?_; rintro e w10 ⟨rfl, b10⟩)
            | fail)
          have l9 := below_sz b9 hM8 hM9
          have b10' := b9.trans (b10.mono l9)
          have lo10 := lo8.trans (b10'.mono l8)
          have T10 := T8.below hM8 b10'
          have U10 := U8.below hM8 b10'
          obtain ⟨M10, hM10⟩ := sz_some w10
          have l10 := below_sz lo10 hN hM10
          clear T8 U8 b9 b10 b10' lo8 hM8 hM9 l9 l8 CD
          go_upto_region 13 with (first
            | (go_at_call 47; refine (CI _ M10 hM10 T10).mono ?_; rintro e w11 ⟨rfl, b11⟩)
            | fail)
          have lo11 := lo10.trans (b11.mono l10)
          have T11 := T10.below hM10 b11
          have U11 := U10.below hM10 b11
          obtain ⟨M11, hM11⟩ := sz_some w11
          have l11 := below_sz lo11 hN hM11
          clear T10 U10 b11 lo10 hM10 l10 CI
          go_wp2_with (first
            | (go_at_call 46; refine (Len_any N c f _ T11).mono ?_; rintro e w12 ⟨rfl, rfl⟩)
            | (go_at_call 26; refine (All_any _ _ hM11).mono ?_; rintro e w13 ⟨rfl, b13⟩; obtain ⟨M13, hM13⟩ := sz_some w13; have l13 := below_sz b13 hM11 hM13)
            | (go_at_call 28; refine (CNo _ M13 hM13 (T11.below hM11 b13) (U11.below hM11 b13)).mono ?_; rintro e w14 ⟨rfl, b14⟩)
            | fail)
          go_ret
          exact ⟨rfl, lo11.trans ((b13.trans (b14.mono l13)).mono l11)⟩
        · rw [hij] at dE CI
          rw [if_pos rfl] at dE
          have CD := fun w M hM hT hU => Derive_ok (b := N) (w := w) (N := M) dE hM hT hU
          clear dE
          go_upto_region 11 with (first
            | (go_at_call 26; refine (All_any _ _ hM8).mono ?_; rintro e w9 ⟨rfl, b9⟩; obtain ⟨M9, hM9⟩ := sz_some w9)
            | (go_at_call 28; refine (CD _ M9 hM9 (T8.below hM8 b9) (U8.below hM8 b9)).mono ?_; rintro e w10 ⟨k2, rfl, l2, b10, V10⟩)
            | fail)
          have l9 := below_sz b9 hM8 hM9
          have b10' := b9.trans (b10.mono l9)
          have lo10 := lo8.trans (b10'.mono l8)
          have T10 := T8.below hM8 b10'
          have U10 := U8.below hM8 b10'
          obtain ⟨M10, hM10⟩ := sz_some w10
          have l10 := below_sz lo10 hN hM10
          have sn : sndT f c [⟨k2, (j : Int), rgAll⟩, ⟨k1, (i : Int), rgAll⟩] = true := by
            have e1 : insI f c (i : Int) (i : Int) = true := (ins_nat hi).2 (mem_self f i)
            simp only [sndT, prvAt, prvR, e1, hij, all_all, Bool.and_true]
          have CS := fun w M hM hT hU => Sound_any N c f [⟨k2, (j : Int), rgAll⟩, ⟨k1, (i : Int), rgAll⟩] (by simp) (by simp) w M hM hT hU
          rw [sn] at CS
          clear sn hij
          clear T8 U8 b9 b10 b10' lo8 hM8 hM9 l9 l8 CD
          go_upto_region 13 with (first
            | (go_at_call 47; refine (CI _ M10 hM10 T10).mono ?_; rintro e w11 ⟨rfl, b11⟩)
            | fail)
          have lo11 := lo10.trans (b11.mono l10)
          have T11 := T10.below hM10 b11
          have U11 := U10.below hM10 b11
          have V11 := V10.below hM10 b11
          obtain ⟨M11, hM11⟩ := sz_some w11
          have l11 := below_sz lo11 hN hM11
          clear T10 U10 V10 b11 lo10 hM10 l10 CI
          go_upto_region 14 with (first
            | (go_at_call 46; refine (Len_any N c f _ T11).mono ?_; rintro e w12 ⟨rfl, rfl⟩)
            | (go_at_call 26; refine (All_any _ _ hM11).mono ?_; rintro e w13 ⟨rfl, b13⟩; obtain ⟨M13, hM13⟩ := sz_some w13; have l13 := below_sz b13 hM11 hM13)
            | (go_at_call 28; refine (CNo _ M13 hM13 (T11.below hM11 b13) (U11.below hM11 b13)).mono ?_; rintro e w14 ⟨rfl, b14⟩)
            | fail)
          have b14' := b13.trans (b14.mono l13)
          have lo14 := lo11.trans (b14'.mono l11)
          have T14 := T11.below hM11 b14'
          have V14 := V11.below hM11 b14'
          obtain ⟨M14, hM14⟩ := sz_some w14
          have l14 := below_sz lo14 hN hM14
          have cs := V14.sp
          have jj : ((j : Int) == (j : Int)) = true := by simp
          clear T11 U11 V11 b13 b14 b14' lo11 hM11 hM13 l13 l11 CNo
          go_wp2_with (first
            | (go_at_call 32; refine (CS _ M14 hM14 T14 V14).mono ?_; rintro e w15 ⟨rfl, b15⟩)
            | fail)
          go_ret
          exact ⟨rfl, lo14.trans (b15.mono l14)⟩
      · have D1 := fun w M hM hH => derives_any w M hM hH
        have k1 : ¬ (c : Int) < 1 := by omega
        go_upto_region 8 with (first
          | (go_at_call 30; refine (D1 _ M hM H3).mono ?_; rintro e w4 ⟨rfl, b4⟩; have T4 := T.below hM b4)
          | (go_at_call 46; refine (Len_any N c f _ T4).mono ?_; rintro e w5 ⟨rfl, rfl⟩)
          | fail)
        have lo4 := B.trans (b4.mono hNM)
        obtain ⟨M4, hM4⟩ := sz_some w5
        have l4 := below_sz lo4 hN hM4
        clear T B b4 H3 hM hNM D1
        have jz : ((c : Int) == 0) = false := by rw [beq_eq_false_iff_ne]; omega
        have ju : IntKind.u64.wrap (c : Int) = (c : Int) := by rw [IntKind.wrap_u64]; omega
        obtain ⟨i, hi, ei⟩ := rest z1 c (by omega) (by omega)
        obtain ⟨j, hj, ej⟩ := rest z2 c (by omega) (by omega)
        have Ei := hid ei
        have Ej := hid ej
        clear ei ej
        refine wp_region_later M4 (by kernel_rfl) (by kernel_rfl) ?_
        try simp only [Act.put, List.setIfInBounds_toArray, List.set_cons_succ, List.set_cons_zero]
        iterate 3 go_big_quiet_step (fail)
        go_big_quiet_step ((go_at_call 46; exact later_of_same _ (Len_any N c f _ (T4.below hM4 (Later.b _)))))
        iterate 6 go_big_quiet_step (fail)
        go_big_quiet_step ((go_at_call 46; exact later_of_same _ (Len_any N c f _ (T4.below hM4 (Later.b _)))))
        iterate 5 go_big_quiet_step (fail)
        refine wpQuiet_nil ?_
        rintro w6 ⟨q6, e6⟩
        have b6 := q6.b
        rw [← e6] at b6
        clear e6 q6
        rw [Ei.out, Ej.out]
        clear Ei Ej jz ju
        have T6 := T4.below hM4 b6
        have lo6 := lo4.trans (b6.mono l4)
        obtain ⟨M6, hM6⟩ := sz_some w6
        have l6 := below_sz lo6 hN hM6
        clear T4 b6 lo4 hM4 l4
        have ri : rootErr c (i : Int) rgAll = 0 := by unfold rootErr; rw [isIn_nat hi, if_pos rfl, all_all, if_pos rfl]
        have CR := fun w M hM hT => Root_ok (b := N) (f := f) (N := M) (w := w) ri hM hT
        clear ri
        go_upto_region 10 with (first
          | (go_at_call 26; refine (All_any _ _ hM6).mono ?_; rintro e w7 ⟨rfl, b7⟩; obtain ⟨M7, hM7⟩ := sz_some w7)
          | (go_at_call 27; refine (CR _ M7 hM7 (T6.below hM6 b7)).mono ?_; rintro e w8 ⟨k1, rfl, l1, b8, U8⟩)
          | fail)
        have l7 := below_sz b7 hM6 hM7
        have b8' := b7.trans (b8.mono l7)
        have lo8 := lo6.trans (b8'.mono l6)
        have T8 := T6.below hM6 b8'
        obtain ⟨M8, hM8⟩ := sz_some w8
        have l8 := below_sz lo8 hN hM8
        clear CR T6 b7 b8 b8' lo6 hM7 hM6 l7 l6 l1
        have ic : isIn c (c : Int) = false := by simp [isIn]
        have CN : derErr f c ⟨k1, (i : Int), rgAll⟩ [] (c : Int) rgAll = 2 := by unfold derErr; rw [ic, if_neg (by decide)]
        have CNo := fun w M hM hT hU => Derive_no (b := N) (w := w) (N := M) CN (by decide) hM hT hU
        clear CN ic
        have dE : derErr f c ⟨k1, (i : Int), rgAll⟩ [] (j : Int) rgAll = if insI f c (j : Int) (i : Int) then 0 else 1 := by
          unfold derErr derE
          rw [isIn_nat hj, if_pos rfl, all_all, Bool.and_true]
          cases insI f c (j : Int) (i : Int) <;> rfl
        have CI := fun w M hM hT => Inside_any N c f (j : Int) (i : Int) w M hM hT
        cases hij : insI f c (j : Int) (i : Int)
        · rw [hij] at dE CI
          rw [if_neg (by decide)] at dE
          have CD := fun w M hM hT hU => Derive_no (b := N) (w := w) (N := M) dE (by decide) hM hT hU
          clear dE hij
          go_upto_region 11 with (first
            | (go_at_call 26; refine (All_any _ _ hM8).mono ?_; rintro e w9 ⟨rfl, b9⟩; obtain ⟨M9, hM9⟩ := sz_some w9)
            | (go_at_call 28; refine (CD _ M9 hM9 (T8.below hM8 b9) (U8.below hM8 b9)).mono ?_; rintro e w10 ⟨rfl, b10⟩)
            | fail)
          have l9 := below_sz b9 hM8 hM9
          have b10' := b9.trans (b10.mono l9)
          have lo10 := lo8.trans (b10'.mono l8)
          have T10 := T8.below hM8 b10'
          have U10 := U8.below hM8 b10'
          obtain ⟨M10, hM10⟩ := sz_some w10
          have l10 := below_sz lo10 hN hM10
          clear T8 U8 b9 b10 b10' lo8 hM8 hM9 l9 l8 CD
          go_upto_region 13 with (first
            | (go_at_call 47; refine (CI _ M10 hM10 T10).mono ?_; rintro e w11 ⟨rfl, b11⟩)
            | fail)
          have lo11 := lo10.trans (b11.mono l10)
          have T11 := T10.below hM10 b11
          have U11 := U10.below hM10 b11
          obtain ⟨M11, hM11⟩ := sz_some w11
          have l11 := below_sz lo11 hN hM11
          clear T10 U10 b11 lo10 hM10 l10 CI
          go_wp2_with (first
            | (go_at_call 46; refine (Len_any N c f _ T11).mono ?_; rintro e w12 ⟨rfl, rfl⟩)
            | (go_at_call 26; refine (All_any _ _ hM11).mono ?_; rintro e w13 ⟨rfl, b13⟩; obtain ⟨M13, hM13⟩ := sz_some w13; have l13 := below_sz b13 hM11 hM13)
            | (go_at_call 28; refine (CNo _ M13 hM13 (T11.below hM11 b13) (U11.below hM11 b13)).mono ?_; rintro e w14 ⟨rfl, b14⟩)
            | fail)
          go_ret
          exact ⟨rfl, lo11.trans ((b13.trans (b14.mono l13)).mono l11)⟩
        · rw [hij] at dE CI
          rw [if_pos rfl] at dE
          have CD := fun w M hM hT hU => Derive_ok (b := N) (w := w) (N := M) dE hM hT hU
          clear dE
          go_upto_region 11 with (first
            | (go_at_call 26; refine (All_any _ _ hM8).mono ?_; rintro e w9 ⟨rfl, b9⟩; obtain ⟨M9, hM9⟩ := sz_some w9)
            | (go_at_call 28; refine (CD _ M9 hM9 (T8.below hM8 b9) (U8.below hM8 b9)).mono ?_; rintro e w10 ⟨k2, rfl, l2, b10, V10⟩)
            | fail)
          have l9 := below_sz b9 hM8 hM9
          have b10' := b9.trans (b10.mono l9)
          have lo10 := lo8.trans (b10'.mono l8)
          have T10 := T8.below hM8 b10'
          have U10 := U8.below hM8 b10'
          obtain ⟨M10, hM10⟩ := sz_some w10
          have l10 := below_sz lo10 hN hM10
          have sn : sndT f c [⟨k2, (j : Int), rgAll⟩, ⟨k1, (i : Int), rgAll⟩] = true := by
            have e1 : insI f c (i : Int) (i : Int) = true := (ins_nat hi).2 (mem_self f i)
            simp only [sndT, prvAt, prvR, e1, hij, all_all, Bool.and_true]
          have CS := fun w M hM hT hU => Sound_any N c f [⟨k2, (j : Int), rgAll⟩, ⟨k1, (i : Int), rgAll⟩] (by simp) (by simp) w M hM hT hU
          rw [sn] at CS
          clear sn hij
          clear T8 U8 b9 b10 b10' lo8 hM8 hM9 l9 l8 CD
          go_upto_region 13 with (first
            | (go_at_call 47; refine (CI _ M10 hM10 T10).mono ?_; rintro e w11 ⟨rfl, b11⟩)
            | fail)
          have lo11 := lo10.trans (b11.mono l10)
          have T11 := T10.below hM10 b11
          have U11 := U10.below hM10 b11
          have V11 := V10.below hM10 b11
          obtain ⟨M11, hM11⟩ := sz_some w11
          have l11 := below_sz lo11 hN hM11
          clear T10 U10 V10 b11 lo10 hM10 l10 CI
          go_upto_region 14 with (first
            | (go_at_call 46; refine (Len_any N c f _ T11).mono ?_; rintro e w12 ⟨rfl, rfl⟩)
            | (go_at_call 26; refine (All_any _ _ hM11).mono ?_; rintro e w13 ⟨rfl, b13⟩; obtain ⟨M13, hM13⟩ := sz_some w13; have l13 := below_sz b13 hM11 hM13)
            | (go_at_call 28; refine (CNo _ M13 hM13 (T11.below hM11 b13) (U11.below hM11 b13)).mono ?_; rintro e w14 ⟨rfl, b14⟩)
            | fail)
          have b14' := b13.trans (b14.mono l13)
          have lo14 := lo11.trans (b14'.mono l11)
          have T14 := T11.below hM11 b14'
          have V14 := V11.below hM11 b14'
          obtain ⟨M14, hM14⟩ := sz_some w14
          have l14 := below_sz lo14 hN hM14
          have cs := V14.sp
          have jj : ((j : Int) == (j : Int)) = true := by simp
          clear T11 U11 V11 b13 b14 b14' lo11 hM11 hM13 l13 l11 CNo
          go_wp2_with (first
            | (go_at_call 32; refine (CS _ M14 hM14 T14 V14).mono ?_; rintro e w15 ⟨rfl, b15⟩)
            | fail)
          go_ret
          exact ⟨rfl, lo14.trans (b15.mono l14)⟩
end Go.Proofs.YtcbcnhkalchpbaaDoor
