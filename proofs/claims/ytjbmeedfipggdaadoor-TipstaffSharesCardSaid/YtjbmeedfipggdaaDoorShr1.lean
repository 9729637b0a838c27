/- A table of one object and two tables of descriptors: the calls of TipstaffShares on them. -/
import Derived.Test.YtjbmeedfipggdaaDoorObHS
import Derived.Test.YtjbmeedfipggdaaDoorObLS
namespace Go.Proofs.YtjbmeedfipggdaaDoor
open Go Go.RowKit
def xS : ByteArray := ⟨#[120]⟩
/-- The first k descriptors stand for object 1. -/
def idF (k : Nat) : Nat → Int := fun j => if j < k then 1 else 0
theorem us_idF (k n : Nat) (h : k ≤ n) : us (idF k) n = List.range k :=
  us_prefix (idF k) k n h (fun j hj => by unfold idF; rw [if_pos hj]; omega) (fun j hj _ => by unfold idF; rw [if_neg (by omega)])
theorem idF_up (k j : Nat) : (if j = k then (1 : Int) else idF k j) = idF (k + 1) j := by
  unfold idF
  by_cases h : j = k
  · subst h; rw [if_pos rfl, if_pos (by omega)]
  · rw [if_neg h]
    by_cases h2 : j < k
    · rw [if_pos h2, if_pos (by omega)]
    · rw [if_neg h2, if_neg (by omega)]
theorem idF_down (k j : Nat) : (if j = k then (0 : Int) else idF (k + 1) j) = idF k j := by
  unfold idF
  by_cases h : j = k
  · subst h; rw [if_pos rfl, if_neg (by omega)]
  · rw [if_neg h]
    by_cases h2 : j < k
    · rw [if_pos (by omega), if_pos h2]
    · rw [if_neg (by omega), if_neg h2]
/-- An object in n1 of 1 places, held so often; so many descriptors in a, in b. -/
def S3 (w0 : World) (N na nb n1 : Nat) (held : Int) (w : World) : Prop :=
  ∃ (p : Option Addr) (cap : Nat), ObS w (N + 1) 2 1 p n1 cap (fun _ => ⟨1, held, xS⟩) ∧ (∀ g, blk p = some g → N + 6 ≤ g) ∧ Fd w (N + 3) (N + 2) 8 (idF na) ∧ Fd w (N + 5) (N + 4) 8 (idF nb) ∧ Below N w0 w
section
variable {w0 w : World} {N na nb n1 : Nat} {held : Int}
theorem S3.bel (h : S3 w0 N na nb n1 held w) : Below N w0 w := by obtain ⟨_, _, _, _, _, _, h⟩ := h; exact h
theorem S3.below {w' : World} {M : Nat} (h : S3 w0 N na nb n1 held w) (hN : Sz w0 N) (hM : Sz w M) (hb : Below M w w') : S3 w0 N na nb n1 held w' := by
  obtain ⟨p, cap, h1, h2, h3, h4, h5⟩ := h
  exact ⟨p, cap, h1.below hM hb, h2, h3.below hM hb, h4.below hM hb, h5.trans (hb.mono (below_sz h5 hN hM))⟩
theorem S3.hold (hN : Sz w0 N) (h : S3 w0 N na nb 1 held w) (h0 : 0 ≤ held) (hh : held < 1000) :
    Calls Tryd.prog 9 #[.pointer (some ⟨N + 1, 0, none⟩), .int .i64 1] w fun e w' => e = .returned (.int .i64 0) ∧ S3 w0 N na nb 1 (held + 1) w' := by
  obtain ⟨p, cap, h1, h2, h3, h4, h5⟩ := h
  obtain ⟨M, hM⟩ := sz_some w
  refine (OHoldS_ok (N + 1) 2 1 p 1 cap _ 1 0 (by omega) rfl (fun i hi => by omega) h0 hh (by omega) w M hM h1).mono ?_
  rintro e w' ⟨rfl, T, O⟩
  have ng : ∀ k, k < N + 6 → ¬ (blk p = some k) := fun k hk e => by have := h2 k e; omega
  exact ⟨rfl, p, cap, O.congr (fun k hk => by obtain rfl : k = 0 := by omega
                                              rfl), h2, ⟨h3.h.turn T (ng _ (by omega)), h3.r.turn T (ng _ (by omega)), h3.ne⟩, ⟨h4.h.turn T (ng _ (by omega)), h4.r.turn T (ng _ (by omega)), h4.ne⟩, T.below h5 (fun j hj => by have := h2 j hj; omega) (below_le h5 hN)⟩
theorem S3.heldc (hN : Sz w0 N) (h : S3 w0 N na nb 1 held w) :
    Calls Tryd.prog 12 #[.pointer (some ⟨N + 1, 0, none⟩), .int .i64 1] w fun e w' => e = .returned (.int .i64 held) ∧ S3 w0 N na nb 1 held w' ∧ Below w.heap.size w w' := by
  have h' := h
  obtain ⟨p, cap, h1, h2, h3, h4, h5⟩ := h
  obtain ⟨M, hM⟩ := sz_some w
  exact (OHeldS_ok (N + 1) 2 1 p 1 cap _ 1 0 (by omega) rfl (fun i hi => by omega) (by omega) w M hM h1).mono fun e w' ⟨he, hb⟩ => ⟨he, h'.below hN hM hb, by rw [show w.heap.size = M from hM]; exact hb⟩
theorem S3.dropMore (hN : Sz w0 N) (h : S3 w0 N na nb 1 held w) (h0 : 2 ≤ held) (hh : held ≤ 1000) :
    Calls Tryd.prog 14 #[.pointer (some ⟨N + 1, 0, none⟩), .int .i64 1] w fun e w' => e = .returned (.tuple #[.bool false, .int .i64 0]) ∧ S3 w0 N na nb 1 (held - 1) w' := by
  obtain ⟨p, cap, h1, h2, h3, h4, h5⟩ := h
  obtain ⟨M, hM⟩ := sz_some w
  refine (ODropS_more (N + 1) 2 1 p 1 cap _ 1 0 (by omega) rfl (fun i hi => by omega) h0 hh (by omega) w M hM h1).mono ?_
  rintro e w' ⟨rfl, T, O⟩
  have ng : ∀ k, k < N + 6 → ¬ (blk p = some k) := fun k hk e => by have := h2 k e; omega
  exact ⟨rfl, p, cap, O.congr (fun k hk => by obtain rfl : k = 0 := by omega
                                              rfl), h2, ⟨h3.h.turn T (ng _ (by omega)), h3.r.turn T (ng _ (by omega)), h3.ne⟩, ⟨h4.h.turn T (ng _ (by omega)), h4.r.turn T (ng _ (by omega)), h4.ne⟩, T.below h5 (fun j hj => by have := h2 j hj; omega) (below_le h5 hN)⟩
theorem S3.dropLast (hN : Sz w0 N) (h : S3 w0 N na nb 1 held w) (h0 : held = 1) :
    Calls Tryd.prog 14 #[.pointer (some ⟨N + 1, 0, none⟩), .int .i64 1] w fun e w' => e = .returned (.tuple #[.bool true, .int .i64 0]) ∧ S3 w0 N na nb 0 (held - 1) w' := by
  obtain ⟨p, cap, h1, h2, h3, h4, h5⟩ := h
  obtain ⟨M, hM⟩ := sz_some w
  refine (ODropS_last (N + 1) 2 1 p 1 cap _ 1 0 (by omega) rfl (fun i hi => by omega) h0 (by omega) w M hM h1).mono ?_
  rintro e w' ⟨rfl, T, O⟩
  have ng : ∀ k, k < N + 6 → k ≠ N + 1 → ¬ (k = N + 1 ∨ blk p = some k) := fun k hk hne e => by
    rcases e with e | e
    · exact hne e
    · have := h2 k e; omega
  exact ⟨rfl, p, cap, O.congr (fun k hk => by omega), h2, ⟨h3.h.turn T (ng _ (by omega) (by omega)), h3.r.turn T (ng _ (by omega) (by omega)), h3.ne⟩, ⟨h4.h.turn T (ng _ (by omega) (by omega)), h4.r.turn T (ng _ (by omega) (by omega)), h4.ne⟩,
    T.below h5 (fun j hj => by rcases hj with rfl | hj; omega; have := h2 j hj; omega) (below_le h5 hN)⟩
theorem S3.openA (hN : Sz w0 N) (h : S3 w0 N na nb n1 held w) (ha : na < 8) :
    Calls Tryd.prog 10 #[.pointer (some ⟨N + 3, 0, none⟩), .int .i64 1] w fun e w' => e = .returned (.tuple #[.int .i64 (na : Int), .int .i64 0]) ∧ S3 w0 N (na + 1) nb n1 held w' := by
  obtain ⟨p, cap, h1, h2, h3, h4, h5⟩ := h
  refine (Open_at (N + 3) (N + 2) 8 (idF na) 1 na (by omega) ha (by omega) (by unfold idF; rw [if_neg (by omega)]) (fun i hi => by unfold idF; rw [if_pos hi]; omega) w h3).mono ?_
  rintro e w' ⟨rfl, T, F⟩
  exact ⟨rfl, p, cap, h1.turn T.turn (by omega) (fun g hg e => by have := h2 g hg; omega), h2, F.congr (fun j _ => idF_up na j), h4.touch T (by omega) (by omega), T.below h5 (by omega)⟩
theorem S3.openB (hN : Sz w0 N) (h : S3 w0 N na nb n1 held w) (hb : nb < 8) :
    Calls Tryd.prog 10 #[.pointer (some ⟨N + 5, 0, none⟩), .int .i64 1] w fun e w' => e = .returned (.tuple #[.int .i64 (nb : Int), .int .i64 0]) ∧ S3 w0 N na (nb + 1) n1 held w' := by
  obtain ⟨p, cap, h1, h2, h3, h4, h5⟩ := h
  refine (Open_at (N + 5) (N + 4) 8 (idF nb) 1 nb (by omega) hb (by omega) (by unfold idF; rw [if_neg (by omega)]) (fun i hi => by unfold idF; rw [if_pos hi]; omega) w h4).mono ?_
  rintro e w' ⟨rfl, T, F⟩
  exact ⟨rfl, p, cap, h1.turn T.turn (by omega) (fun g hg e => by have := h2 g hg; omega), h2, h3.touch T (by omega) (by omega), F.congr (fun j _ => idF_up nb j), T.below h5 (by omega)⟩
theorem S3.closeA (hN : Sz w0 N) (h : S3 w0 N (na + 1) nb n1 held w) (ha : na < 8) :
    Calls Tryd.prog 13 #[.pointer (some ⟨N + 3, 0, none⟩), .int .i64 (na : Int)] w fun e w' => e = .returned (.tuple #[.int .i64 1, .int .i64 0]) ∧ S3 w0 N na nb n1 held w' := by
  obtain ⟨p, cap, h1, h2, h3, h4, h5⟩ := h
  have e1 : idF (na + 1) na = 1 := by unfold idF; rw [if_pos (by omega)]
  have C := Close_ok (N + 3) (N + 2) 8 (idF (na + 1)) na ha (by omega) (by rw [e1]; omega) w h3
  rw [e1] at C
  refine C.mono ?_
  rintro e w' ⟨rfl, T, F⟩
  exact ⟨rfl, p, cap, h1.turn T.turn (by omega) (fun g hg e => by have := h2 g hg; omega), h2, F.congr (fun j _ => idF_down na j), h4.touch T (by omega) (by omega), T.below h5 (by omega)⟩
theorem S3.closeB (hN : Sz w0 N) (h : S3 w0 N na (nb + 1) n1 held w) (hb : nb < 8) :
    Calls Tryd.prog 13 #[.pointer (some ⟨N + 5, 0, none⟩), .int .i64 (nb : Int)] w fun e w' => e = .returned (.tuple #[.int .i64 1, .int .i64 0]) ∧ S3 w0 N na nb n1 held w' := by
  obtain ⟨p, cap, h1, h2, h3, h4, h5⟩ := h
  have e1 : idF (nb + 1) nb = 1 := by unfold idF; rw [if_pos (by omega)]
  have C := Close_ok (N + 5) (N + 4) 8 (idF (nb + 1)) nb hb (by omega) (by rw [e1]; omega) w h4
  rw [e1] at C
  refine C.mono ?_
  rintro e w' ⟨rfl, T, F⟩
  exact ⟨rfl, p, cap, h1.turn T.turn (by omega) (fun g hg e => by have := h2 g hg; omega), h2, h3.touch T (by omega) (by omega), F.congr (fun j _ => idF_down nb j), T.below h5 (by omega)⟩
theorem S3.usedA (hN : Sz w0 N) (h : S3 w0 N na nb n1 held w) (ha : na ≤ 8) :
    Calls Tryd.prog 11 #[.pointer (some ⟨N + 3, 0, none⟩)] w fun e w' => ∃ q c, e = .returned (.slice q na c) ∧ S3 w0 N na nb n1 held w' ∧ Below w.heap.size w w' ∧ ∀ j, j < na → ∃ g, q = some ⟨g, 0, none⟩ ∧ g < w'.heap.size ∧ w'.cell? ⟨g, j, none⟩ = some (.int .i64 (j : Int)) := by
  have h' := h
  obtain ⟨p, cap, h1, h2, h3, h4, h5⟩ := h
  obtain ⟨M, hM⟩ := sz_some w
  have C := Used_any (N + 3) (N + 2) 8 (idF na) (by omega) w M hM h3
  rw [us_idF na 8 ha, List.length_range] at C
  refine C.mono ?_
  rintro e w' ⟨q, c, rfl, o, hq, hb⟩
  refine ⟨q, c, rfl, h'.below hN hM hb, by rw [show w.heap.size = M from hM]; exact hb, fun j hj => ?_⟩
  obtain ⟨g, rfl, hc⟩ := o.cell (by omega)
  refine ⟨g, rfl, o.lt g rfl, ?_⟩
  have := hc j hj
  rw [Nat.zero_add] at this
  rw [this]
  unfold usC
  rw [us_idF na 8 ha, List.getD_eq_getElem?_getD, List.getElem?_range hj]
  rfl
theorem S3.usedB (hN : Sz w0 N) (h : S3 w0 N na nb n1 held w) (hb8 : nb ≤ 8) :
    Calls Tryd.prog 11 #[.pointer (some ⟨N + 5, 0, none⟩)] w fun e w' => ∃ q c, e = .returned (.slice q nb c) ∧ S3 w0 N na nb n1 held w' ∧ Below w.heap.size w w' ∧ ∀ j, j < nb → ∃ g, q = some ⟨g, 0, none⟩ ∧ g < w'.heap.size ∧ w'.cell? ⟨g, j, none⟩ = some (.int .i64 (j : Int)) := by
  have h' := h
  obtain ⟨p, cap, h1, h2, h3, h4, h5⟩ := h
  obtain ⟨M, hM⟩ := sz_some w
  have C := Used_any (N + 5) (N + 4) 8 (idF nb) (by omega) w M hM h4
  rw [us_idF nb 8 hb8, List.length_range] at C
  refine C.mono ?_
  rintro e w' ⟨q, c, rfl, o, hq, hb⟩
  refine ⟨q, c, rfl, h'.below hN hM hb, by rw [show w.heap.size = M from hM]; exact hb, fun j hj => ?_⟩
  obtain ⟨g, rfl, hc⟩ := o.cell (by omega)
  refine ⟨g, rfl, o.lt g rfl, ?_⟩
  have := hc j hj
  rw [Nat.zero_add] at this
  rw [this]
  unfold usC
  rw [us_idF nb 8 hb8, List.getD_eq_getElem?_getD, List.getElem?_range hj]
  rfl
theorem S3.freeA (hN : Sz w0 N) (h : S3 w0 N 0 nb n1 held w) :
    Calls Tryd.prog 16 #[.pointer (some ⟨N + 3, 0, none⟩)] w fun e w' => e = .returned (.int .i64 8) ∧ S3 w0 N 0 nb n1 held w' := by
  have h' := h
  obtain ⟨p, cap, h1, h2, h3, h4, h5⟩ := h
  obtain ⟨M, hM⟩ := sz_some w
  have C := Free_any (N + 3) (N + 2) 8 (idF 0) (by omega) w M hM h3
  rw [us_idF 0 8 (by omega), List.length_range] at C
  exact C.mono fun e w' ⟨he, hb⟩ => ⟨he, h'.below hN hM hb⟩
theorem S3.freeB (hN : Sz w0 N) (h : S3 w0 N na 0 n1 held w) :
    Calls Tryd.prog 16 #[.pointer (some ⟨N + 5, 0, none⟩)] w fun e w' => e = .returned (.int .i64 8) ∧ S3 w0 N na 0 n1 held w' := by
  have h' := h
  obtain ⟨p, cap, h1, h2, h3, h4, h5⟩ := h
  obtain ⟨M, hM⟩ := sz_some w
  have C := Free_any (N + 5) (N + 4) 8 (idF 0) (by omega) w M hM h4
  rw [us_idF 0 8 (by omega), List.length_range] at C
  exact C.mono fun e w' ⟨he, hb⟩ => ⟨he, h'.below hN hM hb⟩
theorem S3.live (hN : Sz w0 N) (h : S3 w0 N na nb 0 held w) :
    Calls Tryd.prog 15 #[.pointer (some ⟨N + 1, 0, none⟩)] w fun e w' => ∃ q c, e = .returned (.slice q 0 c) ∧ S3 w0 N na nb 0 held w' := by
  have h' := h
  obtain ⟨p, cap, h1, h2, h3, h4, h5⟩ := h
  obtain ⟨M, hM⟩ := sz_some w
  exact (OLiveS_any (N + 1) 2 1 p 0 cap _ (by omega) w M hM h1).mono fun e w' ⟨q, c, he, _, _, hb⟩ => ⟨q, c, he, h'.below hN hM hb⟩
end
set_option maxRecDepth 100000 in
theorem topens_any (w : World) (N : Nat) (hN : Sz w N) :
    Calls Tryd.prog 8 #[] w fun e w' => e = .returned (.bool true) ∧ Below N w w' := by
  go_enter Tryd.func8, Tryd.ntmps8
  go_wp2_with fail
  refine (FNew_any 2 (by omega) (by omega) _ N hN).mono ?_
  rintro e w1 ⟨rfl, hb1, hF1, hN1⟩
  go_wp2_with fail
  refine (Open_at (N + 1) N 2 (fun _ => 0) 5 0 (by omega) (by omega) (by omega) rfl (fun i hi => by omega) _ hF1).mono ?_
  rintro e w2 ⟨rfl, ht2, hF2⟩
  have hF2' : Fd w2 (N + 1) N 2 (fun j => if j = 0 then 5 else 0) := hF2.congr (fun _ _ => rfl)
  clear hF2
  go_wp2_with fail
  refine (Get_ok (N + 1) N 2 (fun j => if j = 0 then 5 else 0) 0 (by omega) (by omega) (by simp) _ hF2').mono ?_
  rintro e w3 ⟨rfl, rfl⟩
  go_wp2_with fail
  go_ret
  exact ⟨rfl, ht2.below hb1 (Nat.le_refl N)⟩
end Go.Proofs.YtjbmeedfipggdaaDoor
