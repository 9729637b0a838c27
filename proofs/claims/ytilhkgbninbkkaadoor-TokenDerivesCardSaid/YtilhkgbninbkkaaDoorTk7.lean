/- Tokens: Root and Derive by their answers; derives of the law. -/
import Derived.Test.YtilhkgbninbkkaaDoorTk6
namespace Go.Proofs.YtilhkgbninbkkaaDoor
open Go Go.RowKit
theorem Tks.one {w : World} {t : Tk} (h : Has w t.b 74 8 (tkC t.at_ t.r (.pointer none))) : Tks w [t] := And.intro h (And.intro (fun u hu => by cases hu) trivial)
theorem Tks.cons {w : World} {t u : Tk} {us : List Tk} (h : Has w t.b 74 8 (tkC t.at_ t.r (.pointer (some ⟨u.b, 0, none⟩)))) (hl : ∀ x ∈ u :: us, x.b < t.b) (h2 : Tks w (u :: us)) : Tks w (t :: u :: us) := And.intro h (And.intro hl h2)
section
variable {b c : Nat} {f : Nat → Nat} {at_ : Int} {r : Rg} {w : World} {N : Nat}
theorem Root_ok (he : rootErr c at_ r = 0) (hN : Sz w N) (hT : Tr w b c f) :
    Calls Tryd.prog 27 #[.pointer (some ⟨b, 0, none⟩), .int .i64 at_, rgV r] w fun e w' => ∃ k, e = .returned (.tuple #[.pointer (some ⟨k, 0, none⟩), .int .i64 0]) ∧ N ≤ k ∧ Below N w w' ∧ Tks w' [⟨k, at_, r⟩] := by
  refine (Root_any b c f at_ r w N hN hT).mono ?_
  rintro e w' ⟨hb, h⟩
  rw [if_pos he] at h
  obtain ⟨k, h1, h2, h3⟩ := h
  exact ⟨k, h1, h2, hb, Tks.one h3⟩
theorem Root_no {er : Int} (he : rootErr c at_ r = er) (h0 : er ≠ 0) (hN : Sz w N) (hT : Tr w b c f) :
    Calls Tryd.prog 27 #[.pointer (some ⟨b, 0, none⟩), .int .i64 at_, rgV r] w fun e w' => e = .returned (.tuple #[.pointer none, .int .i64 er]) ∧ Below N w w' := by
  refine (Root_any b c f at_ r w N hN hT).mono ?_
  rintro e w' ⟨hb, h⟩
  rw [he, if_neg h0] at h
  exact ⟨h, hb⟩
def derErr (f : Nat → Nat) (c : Nat) (t : Tk) (us : List Tk) (at_ : Int) (r : Rg) : Int := if isIn c at_ then derE f c t us at_ r else 2
variable {t : Tk} {us : List Tk}
theorem Derive_any (hN : Sz w N) (hT : Tr w b c f) (hU : Tks w (t :: us)) :
    Calls Tryd.prog 28 #[.pointer (some ⟨b, 0, none⟩), .pointer (some ⟨t.b, 0, none⟩), .int .i64 at_, rgV r] w (newPost N w at_ r (.pointer (some ⟨t.b, 0, none⟩)) (derErr f c t us at_ r)) := by
  unfold derErr
  cases hb : isIn c at_
  · rw [if_neg (by decide)]; exact Derive_out b c f t us at_ r hb w N hN hT
  · rw [if_pos rfl]
    have := Derive_in b c f t us at_ r hb _ _ _ rfl rfl rfl w N hN hT hU
    simp only [decide_eq_true_eq] at this
    exact this
theorem Derive_ok (he : derErr f c t us at_ r = 0) (hN : Sz w N) (hT : Tr w b c f) (hU : Tks w (t :: us)) :
    Calls Tryd.prog 28 #[.pointer (some ⟨b, 0, none⟩), .pointer (some ⟨t.b, 0, none⟩), .int .i64 at_, rgV r] w fun e w' => ∃ k, e = .returned (.tuple #[.pointer (some ⟨k, 0, none⟩), .int .i64 0]) ∧ N ≤ k ∧ Below N w w' ∧ Tks w' (⟨k, at_, r⟩ :: t :: us) := by
  refine (Derive_any hN hT hU).mono ?_
  rintro e w' ⟨hb, h⟩
  rw [if_pos he] at h
  obtain ⟨k, h1, h2, h3⟩ := h
  refine ⟨k, h1, h2, hb, Tks.cons h3 (fun u hu => ?_) (hU.below hN hb)⟩
  have := hU.lt u hu
  rw [show w.heap.size = N from hN] at this
  exact Nat.lt_of_lt_of_le this h2
theorem Derive_no {er : Int} (he : derErr f c t us at_ r = er) (h0 : er ≠ 0) (hN : Sz w N) (hT : Tr w b c f) (hU : Tks w (t :: us)) :
    Calls Tryd.prog 28 #[.pointer (some ⟨b, 0, none⟩), .pointer (some ⟨t.b, 0, none⟩), .int .i64 at_, rgV r] w fun e w' => e = .returned (.tuple #[.pointer none, .int .i64 er]) ∧ Below N w w' := by
  refine (Derive_any hN hT hU).mono ?_
  rintro e w' ⟨hb, h⟩
  rw [he, if_neg h0] at h
  exact ⟨h, hb⟩
end
/-- All rights, of helpers these. -/
def rgCut (h : BitVec 16) : Rg := ⟨255#16, 15#16, 63#16, h, true, false⟩
theorem cut_cells (h g : BitVec 16) (i : Nat) (hi : i < 6) : upd (rgC (rgCut h)) 3 (.int .u16 (u6 g)) i = rgC (rgCut g) i := by
  rcases (show i = 0 ∨ i = 1 ∨ i = 2 ∨ i = 3 ∨ i = 4 ∨ i = 5 by omega) with rfl | rfl | rfl | rfl | rfl | rfl <;> rfl
theorem andNot16 : bits .andNot .u16 255 16 = u6 239#16 := by decide
set_option maxRecDepth 100000 in
set_option maxHeartbeats 1000000 in
theorem derives_any (w : World) (N : Nat) (hN : Sz w N) (hH : Hp w) :
    Calls Tryd.prog 30 #[] w fun e w' => e = .returned (.bool true) ∧ Below N w w' := by
  go_enter Tryd.func30, Tryd.ntmps30
  go_upto_region 2 with (first
    | (go_at_call 29; refine (New_any _ N hN).mono ?_; rintro e w1 ⟨rfl, b1, T1, hN1⟩)
    | fail)
  have H1 := hH.below hN b1
  go_upto_region 3 with (first
    | (go_at_call 26; refine (All_any _ _ hN1).mono ?_; rintro e w2 ⟨rfl, b2⟩; obtain ⟨M2, hM2⟩ := sz_some w2)
    | (go_at_call 27; refine (Root_ok (at_ := 0) (r := rgAll) (by decide) hM2 (T1.below hN1 b2)).mono ?_; rintro e w3 ⟨k1, rfl, l1, b3, U3⟩)
    | fail)
  have l2 := below_sz b2 hN1 hM2
  have lo3 := b1.trans ((b2.mono (by omega)).trans (b3.mono (by omega)) : Below N w1 w3)
  have T3 := (T1.below hN1 b2).below hM2 b3
  have H3 := (H1.below hN1 b2).below hM2 b3
  obtain ⟨M3, hM3⟩ := sz_some w3
  have lM3 := below_sz lo3 hN hM3
  clear b1 b2 b3 T1 H1 hM2 hN1
  go_upto_region 4 with (first
    | (go_at_call 26; refine (All_any _ _ hM3).mono ?_; rintro e w4 ⟨rfl, b4⟩; obtain ⟨M4, hM4⟩ := sz_some w4; unfold rgV)
    | (refine wpl_alloc rfl 26 rfl 6 (rgC rgNone) zeRR M4 hM4 ?_; intro w5 hM5 b5 h5)
    | (refine wpl_store rfl 26 (.tmp 4) (.tmp 16) rfl M4 6 (rgC rgAll) rfl rfl 26 _ h5 szRR (fun j _ => rgC_one _ j) ?_; intro w6 t6 h6)
    | fail)
  have lM4 := below_sz b4 hM3 hM4
  have b6 : Below M3 w3 w6 := t6.below (b4.trans (b5.mono lM4)) lM4
  have hM6 : Sz w6 (M4 + 1) := t6.sz hM5
  clear b4 b5 t6 h5 hM5
  have c3 : w6.cell? ⟨M4, 3, none⟩ = some (.int .u16 255) := h6.cell (j := 3) (by omega)
  have A1 := andNot16
  go_upto_region 5 with (first
    | (refine wpl_set rfl 22 (.tmp 20) (.tmp 19) rfl M4 3 rfl (.int .u16 (u6 239#16)) (by rw [← A1]; rfl) (by kernel_rfl) rfl rfl 26 6 _ h6 (by omega) ?_; intro w7 t7 h7)
    | fail)
  have h7 := h7.congr (fun i hi => cut_cells 255#16 239#16 i hi)
  have b7 := t7.below b6 lM4
  have lo7 := lo3.trans (b7.mono lM3)
  have T7 := T3.below hM3 b7
  have H7 := H3.below hM3 b7
  have U7 := U3.below hM3 b7
  have hM7 := t7.sz hM6
  clear b6 t7 h6 c3 A1 T3 H3 U3 hM6 hM4 hM3 b7 lo3 lM3
  obtain ⟨dR, u1, u2⟩ := undRR
  have CD := Derive_ok (b := N) (c := 1) (f := fun _ => 0) (at_ := 0) (r := rgCut 239#16) (t := ⟨k1, 0, rgAll⟩) (us := []) (w := w7) (by kernel_rfl) hM7 T7 U7
  unfold rgV at CD
  go_upto_region 6 with (first
    | (refine wpl_load rfl 26 (.tmp 4) rfl M4 rfl 26 6 _ h7 _ u1 u2 szRR ?_)
    | (go_at_call 28; refine CD.mono ?_; rintro e w8 ⟨k2, rfl, l2, b8, U8⟩)
    | fail)
  have l7 := below_sz lo7 hN hM7
  have lo8 := lo7.trans (b8.mono l7)
  have T8 := T7.below hM7 b8
  have H8 := H7.below hM7 b8
  have U8b := U8.2.2
  obtain ⟨M8, hM8⟩ := sz_some w8
  clear h7 T7 H7 U7 lo7 b8
  go_upto_region 7 with (first
    | (go_at_call 26; refine (All_any _ _ hM8).mono ?_; rintro e w9 ⟨rfl, b9⟩; obtain ⟨M9, hM9⟩ := sz_some w9)
    | (go_at_call 28; refine (Derive_no (at_ := 0) (r := rgAll) (t := ⟨k2, 0, rgCut 239#16⟩) (us := [⟨k1, 0, rgAll⟩]) (er := 1) (by kernel_rfl) (by decide) hM9 (T8.below hM8 b9) (U8.below hM8 b9)).mono ?_; rintro e w10 ⟨rfl, b10⟩)
    | fail)
  have l8 := below_sz lo8 hN hM8
  have l9 := below_sz b9 hM8 hM9
  have b10' := b9.trans (b10.mono l9)
  have lo10 := lo8.trans (b10'.mono l8)
  have T10 := T8.below hM8 b10'
  have H10 := H8.below hM8 b10'
  have U10 := U8.below hM8 b10'
  have V10 := U8b.below hM8 b10'
  obtain ⟨M10, hM10⟩ := sz_some w10
  have l10 := below_sz lo10 hN hM10
  clear T8 H8 U8 U8b lo8 b9 b10 b10' hM9 hM8 l8 l9 l7
  have E1 : helpE rgAll 7 = 0 := by decide
  have E2 : helpE (rgCut 239#16) 7 = 1 := by decide
  have E3 : sndT (fun _ => 0) 1 [⟨k2, 0, rgCut 239#16⟩, ⟨k1, 0, rgAll⟩] = true := by kernel_rfl
  have C1 := fun w N hN hH hT => Helper_any [⟨k1, 0, rgAll⟩] 7 w N hN hH hT
  have C2 := fun w N hN hH hT => Helper_any [⟨k2, 0, rgCut 239#16⟩, ⟨k1, 0, rgAll⟩] 7 w N hN hH hT
  have C3 := fun w M hM hT hU => Sound_any N 1 (fun _ => 0) [⟨k2, 0, rgCut 239#16⟩, ⟨k1, 0, rgAll⟩] (by simp) (by simp) w M hM hT hU
  rw [E3] at C3
  simp only [rOf, E1, E2] at C1 C2
  clear E1 E2 E3
  go_wp2_with (first
    | (go_at_call 36; refine (C1 _ M10 hM10 H10 V10).mono ?_; rintro e w11 ⟨rfl, b11⟩; obtain ⟨M11, hM11⟩ := sz_some w11; have H11 := H10.below hM10 b11; have U11 := U10.below hM10 b11; have T11 := T10.below hM10 b11; have lo11 := lo10.trans (b11.mono l10); have l11 := below_sz lo11 hN hM11; clear C1)
    | (go_at_call 36; refine (C2 _ M11 hM11 H11 U11).mono ?_; rintro e w12 ⟨rfl, b12⟩; obtain ⟨M12, hM12⟩ := sz_some w12; have U12 := U11.below hM11 b12; have T12 := T11.below hM11 b12; have lo12 := lo11.trans (b12.mono l11); have l12 := below_sz lo12 hN hM12)
    | (go_at_call 32; refine (C3 _ M12 hM12 T12 U12).mono ?_; rintro e w13 ⟨rfl, b13⟩; obtain ⟨M13, hM13⟩ := sz_some w13; have U13 := U12.below hM12 b13; have lo13 := lo12.trans (b13.mono l12); have l13 := below_sz lo13 hN hM13)
    | (go_at_call 31; refine (Chain_any [⟨k2, 0, rgCut 239#16⟩, ⟨k1, 0, rgAll⟩] (by simp) (by simp) _ M13 hM13 U13).mono ?_; rintro e w14 ⟨g, cap, rfl, hg, hO, b14⟩)
    | fail)
  go_ret
  exact ⟨rfl, lo13.trans (b14.mono l13)⟩
end Go.Proofs.YtilhkgbninbkkaaDoor
