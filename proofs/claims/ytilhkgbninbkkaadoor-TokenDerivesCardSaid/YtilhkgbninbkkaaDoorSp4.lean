/- Contracts of the document's own tree (layer 10): New, Has, Path, Inside, DocMake. -/
import Derived.Test.YtilhkgbninbkkaaDoorSp3
namespace Go.Proofs.YtilhkgbninbkkaaDoor
open Go Go.RowKit
structure RTr (w : World) (b c : Nat) (p : Option Addr) (cap : Nat) (f : Nat → Nat) : Prop where
  h : Has w b 99 1 (fun _ => .slice p c cap)
  r : Own w 3 p c cap (fun j => In (f j : Nat))
  ne : blk p ≠ some b
  c1 : 1 ≤ c
  c8 : c ≤ 8
  dec : Dec f c
section
variable {w w' : World} {b c cap : Nat} {p : Option Addr} {f : Nat → Nat}
theorem RTr.cell (h : RTr w b c p cap f) : w.cell? ⟨b, 0, none⟩ = some (.slice p c cap) := h.h.cell (j := 0) (by omega)
theorem RTr.lo (h : RTr w b c p cap f) : ∀ k, blk p = some k → k < w.heap.size := h.r.lt
theorem RTr.below {N : Nat} (h : RTr w b c p cap f) (hN : Sz w N) (hb : Below N w w') : RTr w' b c p cap f :=
  ⟨h.h.below hb (h.h.ltN hN), h.r.below hb (Nat.le_of_eq hN), h.ne, h.c1, h.c8, h.dec⟩
theorem RTr.turn {S : Nat → Prop} (h : RTr w b c p cap f) (t : Turn S w w') (hb : ¬ S b) (hp : ∀ k, blk p = some k → ¬ S k) : RTr w' b c p cap f :=
  ⟨h.h.turn t hb, h.r.turn t hp, h.ne, h.c1, h.c8, h.dec⟩
theorem RTr.ptr (h : RTr w b c p cap f) : ∃ g, p = some ⟨g, 0, none⟩ ∧ g ≠ b ∧ ∀ j, j < c → w.cell? ⟨g, j, none⟩ = some (.int .i64 (f j : Nat)) := by
  obtain ⟨g, e, hc⟩ := h.r.cell h.c1
  refine ⟨g, e, ?_, fun j hj => by have := hc j hj; rwa [Nat.zero_add] at this⟩
  rintro rfl
  exact h.ne (by rw [e]; rfl)
theorem RTr.drew (h : RTr w b c p cap f) : RTr w.drew b c p cap f := ⟨h.h, h.r, h.ne, h.c1, h.c8, h.dec⟩
end
set_option maxRecDepth 100000 in
theorem RNew_any (w : World) (N : Nat) (hN : Sz w N) :
    Calls Tryd.prog 37 #[] w fun e w' => ∃ p cap, e = .returned (.pointer (some ⟨N + 1, 0, none⟩)) ∧ Below N w w' ∧ RTr w' (N + 1) 1 p cap (fun _ => 0) ∧ (∀ k, blk p = some k → N ≤ k) ∧ Sz w' (N + 2) := by
  go_enter Tryd.func37, Tryd.ntmps37
  go_wp2_with fail
  go_ret
  have e0 : w.heap.size = N := hN
  have s1 : Sz (w.alloc (.cells #[.int .i64 0] 3)) (N + 1) := sz_alloc hN _
  have b1 := below_new w (.cells #[.int .i64 0] 3) N hN
  have o1 : Own (w.alloc (.cells #[.int .i64 0] 3)) 3 (some ⟨N, 0, none⟩) 1 1 (fun _ => In ((0 : Nat) : Int)) :=
    .inr ⟨N, #[.int .i64 0], rfl, by rw [← e0]; exact heap_alloc_new w _, by omega, rfl, fun j hj => by
      obtain rfl : j = 0 := by omega
      rfl⟩
  have h2 := has_new s1 99 1 (fun _ => .slice (some ⟨N, 0, none⟩) 1 1)
  have b2 := below_new _ (.cells (cellsOf (fun _ => Value.slice (some ⟨N, 0, none⟩) 1 1) 1) 99) (N + 1) s1
  refine ⟨some ⟨N, 0, none⟩, 1, ?_, ?_, ⟨?_, ?_, ?_, by omega, by omega, fun j h1 h2 => by omega⟩, fun k hk => by simp [blk] at hk; omega, ?_⟩
  · rw [e0]; first | rfl | (rw [show (w.alloc (.cells #[.int .i64 0] 3)).heap.size = N + 1 from s1]; rfl)
  · rw [e0]; exact b1.trans (b2.mono (by omega))
  · rw [e0]; exact h2
  · rw [e0]; exact o1.below b2 (Nat.le_of_eq s1)
  · simp [blk]
  · rw [e0]; exact sz_alloc s1 _
set_option maxRecDepth 100000 in
theorem Has_any (b c cap : Nat) (p : Option Addr) (f : Nat → Nat) (n : Int) (w : World) (hT : RTr w b c p cap f) :
    Calls Tryd.prog 44 #[.pointer (some ⟨b, 0, none⟩), .int .i64 n] w fun e w' => e = .returned (.bool (isIn c n)) ∧ w' = w := by
  have c0 := hT.cell
  go_enter Tryd.func44, Tryd.ntmps44
  by_cases h1 : 0 ≤ n
  · by_cases h2 : n < (c : Int)
    · have e : isIn c n = true := by simp [isIn]; omega
      rw [e]
      go_wp2
      go_ret
      exact ⟨rfl, rfl⟩
    · have e : isIn c n = false := by simp [isIn]; omega
      rw [e]
      go_wp2
      go_ret
      exact ⟨rfl, rfl⟩
  · have e : isIn c n = false := by simp [isIn]; omega
    rw [e]
    go_wp2
    go_ret
    exact ⟨rfl, rfl⟩
set_option maxRecDepth 100000 in
theorem RPath_out (b c cap : Nat) (p : Option Addr) (f : Nat → Nat) (n : Int) (hn : isIn c n = false) (w : World) (hT : RTr w b c p cap f) :
    Calls Tryd.prog 59 #[.pointer (some ⟨b, 0, none⟩), .int .i64 n] w fun e w' => e = .returned (.slice none 0 0) ∧ w' = w := by
  have HF := Has_any b c cap p f n w hT
  rw [hn] at HF
  go_enter Tryd.func59, Tryd.ntmps59
  go_wp2_with (first
    | (go_at_call 44; refine HF.mono ?_; rintro e w1 ⟨rfl, rfl⟩)
    | fail)
  go_ret
  exact ⟨rfl, rfl⟩
set_option maxRecDepth 100000 in
theorem RPath_in (b c cp : Nat) (p : Option Addr) (f : Nat → Nat) (n : Nat) (hn : n < c) (w : World) (N : Nat) (hN : Sz w N) (hT : RTr w b c p cp f) :
    Calls Tryd.prog 59 #[.pointer (some ⟨b, 0, none⟩), .int .i64 (n : Int)] w fun e w' => ∃ g cap, e = .returned (.slice (some ⟨g, 0, none⟩) (ups f n).length cap) ∧ N ≤ g ∧ Own w' 3 (some ⟨g, 0, none⟩) (ups f n).length cap (fun j => In (way f n j)) ∧ Below N w w' := by
  have hd := hT.dec
  have c8 := hT.c8
  have hlen := ups_len hd n hn
  have hpos := ups_pos f n
  have HF := Has_any b c cp p f n w hT
  rw [isIn_nat hn] at HF
  have Hd := hid hd
  clear hd
  go_enter Tryd.func59, Tryd.ntmps59
  go_wp2_with (first
    | (go_at_call 44; refine HF.mono ?_; rintro e w1 ⟨rfl, rfl⟩)
    | fail)
  have b1 := below_new w1 (.cells #[.int .i64 (n : Int)] 3) N hN
  have s1 := sz_alloc hN (.cells #[.int .i64 (n : Int)] 3)
  have o1 : Own (w1.alloc (.cells #[.int .i64 (n : Int)] 3)) 3 (some ⟨N, 0, none⟩) 1 1 (fun j => In ((ups f n).getD (1 - 1 - j) 0 : Nat)) :=
    .inr ⟨N, #[.int .i64 (n : Int)], rfl, by rw [← show w1.heap.size = N from hN]; exact heap_alloc_new w1 _, by omega, rfl, fun j hj => by
      obtain rfl : j = 0 := by omega
      show some (In (n : Int)) = some (In ((ups f n).getD 0 0 : Nat))
      rw [ups_head]⟩
  rw [show w1.heap.size = N from hN]
  generalize w1.alloc (.cells #[.int .i64 (n : Int)] 3) = w2 at *
  go_loopg [1, 5] ((ups f n).length - 1) (fun k x p wr => ∃ (i g cap : Nat), k = (ups f n).length - i ∧ 1 ≤ i ∧ i ≤ (ups f n).length ∧ x = .int .i64 ((ups f n).getD (i - 1) 0 : Nat) ∧ p = .slice (some ⟨g, 0, none⟩) i cap ∧ N ≤ g ∧
    Own wr 3 (some ⟨g, 0, none⟩) i cap (fun j => In ((ups f n).getD (i - 1 - j) 0 : Nat)) ∧ Below N w1 wr)
  case atStart => exact ⟨1, N, 1, rfl, by omega, by omega, by rw [Nat.sub_self, ups_head], rfl, Nat.le_refl _, o1, b1⟩
  case round =>
    clear o1 b1 s1 HF
    obtain ⟨i, g, cap, rfl, hi1, hi2, rfl, rfl, hg, hO, hb⟩ := hrel
    have hnx := ups_next Hd.out hn (i := i - 1) (by omega)
    rw [show i - 1 + 1 = i by omega] at hnx
    obtain ⟨x, hx⟩ : ∃ x, x = (ups f n).getD (i - 1) 0 := ⟨_, rfl⟩
    rw [← hx] at hnx ⊢
    clear hx
    obtain ⟨hxn, hx0, hx1⟩ := hnx
    by_cases h0 : x = 0
    · have hil := hx0 h0
      subst h0
      clear hx0 hx1
      have hil' := hid hil
      clear hil
      go_wp2_with fail
      go_ret
      have e := hil'.out
      exact ⟨g, cap, by rw [← e]; rfl, hg, by rw [← e]; exact hO.congr (fun j hj => by show In _ = In _; unfold way; rw [← e]), hb⟩
    · obtain ⟨h3, h4⟩ := hx1 h0
      have T := hT.below hN hb
      obtain ⟨gp, rfl, hgb, hcells⟩ := T.ptr
      have c0 := T.cell
      have cx := hcells x (by omega)
      have xc : (x : Int) < (c : Int) := by omega
      have x0 : (0 : Int) ≤ (x : Int) := by omega
      have hz : ((x : Int) == 0) = false := by rw [beq_eq_false_iff_ne]; omega
      obtain ⟨M, hM⟩ := sz_some wr
      have hNM := below_sz hb hN hM
      have H4 := hid h4
      have H0 := hid h0
      clear hx0 hx1 h0 h4 hcells
      obtain ⟨y, hy⟩ : ∃ y, y = f x := ⟨_, rfl⟩
      rw [← hy] at cx
      have Hy := hid hy
      clear hy
      have n7 : i + 1 ≤ 10000 := by omega
      have e0 : wr.heap.size = M := hM
      have o0 : Own (wr.alloc (.cells #[.int .i64 (y : Int)] 3)) 3 (some ⟨M, 0, none⟩) 1 1 (fun _ => In ((y : Nat) : Int)) :=
        .inr ⟨M, #[.int .i64 (y : Int)], rfl, by rw [← e0]; exact heap_alloc_new wr _, by omega, rfl, fun j hj => by
          obtain rfl : j = 0 := by omega
          rfl⟩
      have O0 := hid o0
      have Hcl := hid ((hO.alloc (.cells #[.int .i64 (y : Int)] 3)).ats.cells)
      clear o0
      go_wp2_with (first
        | (refine wpl_app rfl (.tmp 22) (.tmp 23) 51 rfl 3 undInts oneInt (some ⟨M, 0, none⟩) 1 1 (by rw [← e0]; rfl) (fun _ => In ((y : Nat) : Int)) O0.out (some ⟨g, 0, none⟩) i cap rfl _ Hcl.out (fun _ _ => rfl) (by omega) ?_; intro p1 cap1 w4 o4 g4 k4 n4)
        | fail)
      have s4 : Below N w1 (wr.alloc (.cells #[.int .i64 (y : Int)] 3)) := hb.trans ((below_new wr _ M hM).mono hNM)
      have z4 : (wr.alloc (.cells #[.int .i64 (y : Int)] 3)).heap.size = M + 1 := sz_alloc hM _
      obtain ⟨g', e'⟩ : ∃ g', p1 = some ⟨g', 0, none⟩ := by
        rcases o4 with ⟨h, h2, _⟩ | ⟨g', C, h, _⟩
        · omega
        · exact ⟨g', h⟩
      subst e'
      have hg' := ge_step (a := blk (some ⟨M, 0, none⟩)) (N := N) (fun j hj => by simp [blk] at hj; omega) (by rw [z4] at k4; exact k4) (by omega) g' rfl
      rw [show 1 + i = i + 1 by omega] at o4 ⊢
      go_roundg ((ups f n).length - (i + 1))
      case measure => omega
      case rel => exact ⟨i + 1, g', cap1, rfl, by omega, by omega, by rw [Nat.add_sub_cancel, H4.out, Hy.out], rfl, hg', o4.congr (fun j hj => by
        unfold cat
        by_cases e : j < 1
        · obtain rfl : j = 0 := by omega
          rw [if_pos (by omega), Nat.add_sub_cancel, Nat.sub_zero, H4.out, Hy.out]
        · rw [if_neg e]
          dsimp only
          rw [show i - 1 - (j - 1) = i + 1 - 1 - j by omega]), g4.below s4 (by omega) (fun j hj => by simp [blk] at hj; omega)⟩
set_option maxRecDepth 100000 in
theorem RInside_any (b c cp : Nat) (p : Option Addr) (f : Nat → Nat) (n o : Int) (w : World) (N : Nat) (hN : Sz w N) (hT : RTr w b c p cp f) :
    Calls Tryd.prog 45 #[.pointer (some ⟨b, 0, none⟩), .int .i64 n, .int .i64 o] w fun e w' => e = .returned (.bool (insI f c n o)) ∧ Below N w w' := by
  cases hb : isIn c n
  · have HP := RPath_out b c cp p f n hb w hT
    have e1 : insI f c n o = false := by unfold insI; rw [hb]; rfl
    rw [e1]
    go_enter Tryd.func45, Tryd.ntmps45
    go_wp2_with (first
      | (go_at_call 59; refine HP.mono ?_; rintro e w2 ⟨rfl, rfl⟩)
      | fail)
    refine wp_loop_rounds 1 ?_
    rw [rounds_succ]
    go_wp2
    go_ret
    exact ⟨rfl, Below.refl _ _⟩
  · obtain ⟨k, rfl, hk⟩ := isIn_get hb
    have hl := ups_len hT.dec k hk
    have c8 := hT.c8
    have HI := hid (ins_iff (f := f) hk o)
    go_enter Tryd.func45, Tryd.ntmps45
    go_wp2_with (first
      | (go_at_call 59; refine (RPath_in b c cp p f k hk _ N hN hT).mono ?_; rintro e w2 ⟨g, cap, rfl, hg, hO, hb2⟩)
      | fail)
    obtain ⟨L, hL⟩ : ∃ L, L = (ups f k).length := ⟨_, rfl⟩
    rw [← hL] at hl hO HI ⊢
    clear hL
    have l9 : (L : Int) ≤ 9 := by omega
    go_loop [8] (fun i => ∃ j : Nat, j ≤ L ∧ i = .int .i64 j ∧ Hid (∀ l, l < j → ((way f k l : Nat) : Int) ≠ o)) (fun i => L - (intOf i).toNat)
    case atStart => exact ⟨0, by omega, rfl, hid (fun l hl => by omega)⟩
    case round =>
      obtain ⟨j, hj, rfl, H⟩ := hrel
      by_cases he : j < L
      · have hlt : (j : Int) < (L : Int) := by omega
        have j0 : (0 : Int) ≤ (j : Int) := by omega
        have cj : w2.cell? ⟨g, j, none⟩ = some (.int .i64 (way f k j : Nat)) := (hO.at j he).1
        by_cases hx : ((way f k j : Nat) : Int) = o
        · have E1 := hid (show insI f c (k : Int) o = true from HI.out.2 ⟨j, he, hx⟩)
          have hx' : (((way f k j : Nat) : Int) == o) = true := by rw [hx]; simp
          clear hx
          generalize way f k j = z at cj hx'
          go_wp2
          go_ret
          exact ⟨by rw [E1.out]; rfl, hb2⟩
        · have Hx := hid hx
          have hx' : (((way f k j : Nat) : Int) == o) = false := by rw [beq_eq_false_iff_ne]; exact hx
          clear hx
          generalize way f k j = z at cj hx'
          go_wp2
          go_round
          case rel => exact ⟨j + 1, by omega, by go_num, hid (fun l hl => by
            by_cases e : l = j
            · rw [e]; exact Hx.out
            · exact H.out l (by omega))⟩
          case measure => simp [intOf]; omega
      · have hlt : ¬ (j : Int) < (L : Int) := by omega
        have e1 : insI f c (k : Int) o = false := by
          cases h : insI f c (k : Int) o
          · rfl
          · obtain ⟨l, h1, h2⟩ := HI.out.1 h
            exact absurd h2 (H.out l (by omega))
        have E1 := hid e1
        clear e1
        go_wp2
        go_ret
        exact ⟨by rw [E1.out]; rfl, hb2⟩
end Go.Proofs.YtilhkgbninbkkaaDoor
