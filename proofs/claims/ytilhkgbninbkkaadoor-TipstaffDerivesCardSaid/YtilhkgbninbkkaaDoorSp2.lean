/- Contracts of space: New, find, Path, Depth, Up, Len, Inside, Make. -/
import Derived.Test.YtilhkgbninbkkaaDoorSp1
namespace Go.Proofs.YtilhkgbninbkkaaDoor
open Go Go.RowKit
/-- A tree's cells: of each that within which it is; how many there are. -/
def trC (f : Nat → Nat) (c : Nat) : Nat → Value := fun j => if j < 8 then .int .i64 (f j : Int) else .int .i64 (c : Int)
structure Tr (w : World) (b c : Nat) (f : Nat → Nat) : Prop where
  h : Has w b 94 9 (trC f c)
  c1 : 1 ≤ c
  c8 : c ≤ 8
  z : f 0 = 0
  dec : Dec f c
section
variable {w w' : World} {b c : Nat} {f : Nat → Nat}
theorem Tr.at (h : Tr w b c f) (j : Nat) (hj : j < 8) : w.cell? ⟨b, j, none⟩ = some (.int .i64 (f j : Int)) := by
  have := h.h.cell (j := j) (by omega)
  unfold trC at this
  rwa [if_pos hj] at this
theorem Tr.cnt (h : Tr w b c f) : w.cell? ⟨b, 8, none⟩ = some (.int .i64 (c : Int)) := h.h.cell (j := 8) (by omega)
theorem Tr.below {N : Nat} (h : Tr w b c f) (hN : Sz w N) (hb : Below N w w') : Tr w' b c f := ⟨h.h.below hb (h.h.ltN hN), h.c1, h.c8, h.z, h.dec⟩
theorem Tr.touch {d : Nat} (h : Tr w b c f) (t : Touch d w w') (hd : b ≠ d) : Tr w' b c f := ⟨h.h.touch t hd, h.c1, h.c8, h.z, h.dec⟩
theorem Tr.turn {S : Nat → Prop} (h : Tr w b c f) (t : Turn S w w') (hd : ¬ S b) : Tr w' b c f := ⟨h.h.turn t hd, h.c1, h.c8, h.z, h.dec⟩
theorem Tr.drew (h : Tr w b c f) : Tr w.drew b c f := ⟨h.h, h.c1, h.c8, h.z, h.dec⟩
end
/-- A number is one of those that are there. -/
def isIn (c : Nat) (n : Int) : Bool := decide (0 ≤ n) && decide (n < (c : Int))
theorem isIn_nat {c n : Nat} (h : n < c) : isIn c (n : Int) = true := by simp [isIn, h]
theorem isIn_get {c : Nat} {n : Int} (h : isIn c n = true) : ∃ k : Nat, n = (k : Int) ∧ k < c := by
  simp only [isIn, Bool.and_eq_true, decide_eq_true_eq] at h
  exact ⟨n.toNat, by omega, by omega⟩
set_option maxRecDepth 100000 in
theorem find_any (b c : Nat) (f : Nat → Nat) (n : Int) (w : World) (hT : Tr w b c f) :
    Calls Tryd.prog 71 #[.pointer (some ⟨b, 0, none⟩), .int .i64 n] w fun e w' => e = .returned (.int .i64 (if isIn c n then 0 else 2)) ∧ w' = w := by
  have c0 := hT.cnt
  go_enter Tryd.func71, Tryd.ntmps71
  by_cases h1 : n < 0
  · have e : isIn c n = false := by simp [isIn]; omega
    rw [e]
    go_wp2
    go_ret
    exact ⟨rfl, rfl⟩
  · by_cases h2 : n < (c : Int)
    · have e : isIn c n = true := by simp [isIn]; omega
      have h2' : ¬ (c : Int) ≤ n := by omega
      rw [e]
      go_wp2
      go_ret
      exact ⟨rfl, rfl⟩
    · have e : isIn c n = false := by simp [isIn]; omega
      have h2' : (c : Int) ≤ n := by omega
      rw [e]
      go_wp2
      go_ret
      exact ⟨rfl, rfl⟩
theorem ups_next {f : Nat → Nat} {c n i : Nat} (h : Dec f c) (hn : n < c) (hi : i < (ups f n).length) :
    (ups f n).getD i 0 ≤ n ∧ ((ups f n).getD i 0 = 0 → i + 1 = (ups f n).length) ∧ ((ups f n).getD i 0 ≠ 0 → i + 1 < (ups f n).length ∧ (ups f n).getD (i + 1) 0 = f ((ups f n).getD i 0)) := by
  obtain ⟨x, hx, e1, e2⟩ := ups_drop h n hn i hi
  have ex : (ups f n).getD i 0 = x := by simp [e1]
  have hl : ((ups f n).drop i).length = (ups f n).length - i := List.length_drop ..
  rw [ex]
  refine ⟨hx, fun h0 => ?_, fun h0 => ?_⟩
  · subst h0
    rw [e2, ups_zero] at hl
    simp at hl
    omega
  · have e3 := ups_step h (show x < c by omega) h0
    have hp := ups_pos f (f x)
    rw [e2, e3, List.length_cons] at hl
    refine ⟨by omega, ?_⟩
    have e4 : (ups f n)[i + 1]? = ((ups f n).drop i)[1]? := by rw [List.getElem?_drop]
    have e5 : (ups f (f x))[0]? = some (f x) := by
      unfold ups
      cases f x with
      | zero => rfl
      | succ m => simp [chn]
    have : (ups f n)[i + 1]? = some (f x) := by rw [e4, e2, e3]; simpa using e5
    simp [this]
theorem ups_head (f : Nat → Nat) (n : Nat) : (ups f n).getD 0 0 = n := by
  unfold ups
  cases n with
  | zero => rfl
  | succ m => simp [chn]
set_option maxRecDepth 100000 in
theorem Path_in (b c : Nat) (f : Nat → Nat) (n : Nat) (hn : n < c) (w : World) (N : Nat) (hN : Sz w N) (hT : Tr w b c f) :
    Calls Tryd.prog 61 #[.pointer (some ⟨b, 0, none⟩), .int .i64 (n : Int)] w fun e w' => ∃ g cap, e = .returned (.slice (some ⟨g, 0, none⟩) (ups f n).length cap) ∧ N ≤ g ∧ Own w' 3 (some ⟨g, 0, none⟩) (ups f n).length cap (fun j => In (way f n j)) ∧ Below N w w' := by
  have hd := hT.dec
  have c8 := hT.c8
  have hbN := hT.h.ltN hN
  have hlen := ups_len hd n hn
  have hpos := ups_pos f n
  have HF := find_any b c f n w hT
  rw [isIn_nat hn, if_pos rfl] at HF
  have Hd := hid hd
  clear hd
  go_enter Tryd.func61, Tryd.ntmps61
  go_wp2_with (first
    | (go_at_call 71; refine HF.mono ?_; rintro e w1 ⟨rfl, rfl⟩)
    | fail)
  have b1 := below_new w1 (.cells #[.int .i64 (n : Int)] 3) N hN
  have s1 := sz_alloc hN (.cells #[.int .i64 (n : Int)] 3)
  have o1 : Own (w1.alloc (.cells #[.int .i64 (n : Int)] 3)) 3 (some ⟨N, 0, none⟩) 1 1 (fun j => In ((ups f n).getD j 0 : Nat)) :=
    .inr ⟨N, #[.int .i64 (n : Int)], rfl, by rw [← show w1.heap.size = N from hN]; exact heap_alloc_new w1 _, by omega, rfl, fun j hj => by
      obtain rfl : j = 0 := by omega
      show some (In (n : Int)) = some (In ((ups f n).getD 0 0 : Nat))
      rw [ups_head]⟩
  rw [show w1.heap.size = N from hN]
  have T1 := hT.below hN b1
  generalize w1.alloc (.cells #[.int .i64 (n : Int)] 3) = w2 at *
  go_loopg [1, 5] ((ups f n).length - 1) (fun k x p wr => ∃ (i g cap : Nat), k = (ups f n).length - i ∧ 1 ≤ i ∧ i ≤ (ups f n).length ∧ x = .int .i64 ((ups f n).getD (i - 1) 0 : Nat) ∧ p = .slice (some ⟨g, 0, none⟩) i cap ∧ N ≤ g ∧
    Own wr 3 (some ⟨g, 0, none⟩) i cap (fun j => In ((ups f n).getD j 0 : Nat)) ∧ Below N w1 wr)
  case atStart => exact ⟨1, N, 1, rfl, by omega, by omega, by rw [Nat.sub_self, ups_head], rfl, Nat.le_refl _, o1, b1⟩
  case round =>
    clear o1 b1 T1 s1 HF
    obtain ⟨i, g, cap, rfl, hi1, hi2, rfl, rfl, hg, hO, hb⟩ := hrel
    have hnx := ups_next Hd.out hn (i := i - 1) (by omega)
    rw [show i - 1 + 1 = i by omega] at hnx
    obtain ⟨x, hx⟩ : ∃ x, x = (ups f n).getD (i - 1) 0 := ⟨_, rfl⟩
    rw [← hx] at hnx ⊢
    clear hx
    obtain ⟨hxn, hx0, hx1⟩ := hnx
    by_cases h0 : x = 0
    · have hil := hx0 h0
      subst h0
      clear hx0 hx1
      have hil' := hid hil
      clear hil
      go_wp2_with (first
        | (go_at_call 73; refine (Reverse_own g i cap (fun j => ((ups f n).getD j 0 : Nat)) (by omega) _ hO).mono ?_; rintro e w3 ⟨rfl, ht, hO3⟩)
        | fail)
      go_ret
      refine ⟨g, cap, by rw [← hil'.out]; rfl, hg, ?_, ht.below hb (fun j h => by omega) (below_le hb hN)⟩
      have e := hil'.out
      rw [← e]
      exact hO3.congr (fun j hj => by show In _ = In _; unfold way; rw [← e])
    · obtain ⟨h3, h4⟩ := hx1 h0
      have cx := (hT.below hN hb).at x (by omega)
      have x8 : (x : Int) < 8 := by omega
      have x0 : (0 : Int) ≤ (x : Int) := by omega
      have hz : ((x : Int) == 0) = false := by rw [beq_eq_false_iff_ne]; omega
      obtain ⟨M, hM⟩ := sz_some wr
      have hNM := below_sz hb hN hM
      have H4 := hid h4
      have H0 := hid h0
      clear hx0 hx1 h0 h4
      obtain ⟨y, hy⟩ : ∃ y, y = f x := ⟨_, rfl⟩
      rw [← hy] at cx
      have Hy := hid hy
      clear hy
      have n7 : i + 1 ≤ 10000 := by omega
      go_wp2_with (first
        | (refine wpl_app rfl (.tmp 20) (.tmp 22) 51 rfl 3 undInts oneInt (some ⟨g, 0, none⟩) i cap rfl (fun j => In ((ups f n).getD j 0 : Nat)) (hO.alloc _) (some ⟨M, 0, none⟩) 1 1 (by rw [← show wr.heap.size = M from hM]; rfl) (fun _ => .int .i64 (y : Int)) (cells_new_one wr _ _ M hM) (fun _ _ => rfl) (by omega) ?_; intro p1 cap1 w4 o4 g4 k4 n4)
        | fail)
      have s4 : Below N w1 (wr.alloc (.cells #[.int .i64 (y : Int)] 3)) := hb.trans ((below_new wr _ M hM).mono hNM)
      have z4 : (wr.alloc (.cells #[.int .i64 (y : Int)] 3)).heap.size = M + 1 := sz_alloc hM _
      obtain ⟨g', e'⟩ : ∃ g', p1 = some ⟨g', 0, none⟩ := by
        rcases o4 with ⟨h, h2, _⟩ | ⟨g', C, h, _⟩
        · omega
        · exact ⟨g', h⟩
      subst e'
      have hg' := ge_step (a := blk (some ⟨g, 0, none⟩)) (N := N) (fun j hj => by simp [blk] at hj; omega) (by rw [z4] at k4; exact k4) (by omega) g' rfl
      go_roundg ((ups f n).length - (i + 1))
      case measure => omega
      case rel => exact ⟨i + 1, g', cap1, rfl, by omega, by omega, by rw [Nat.add_sub_cancel, H4.out, Hy.out], rfl, hg', o4.congr (fun j hj => by
        unfold cat
        by_cases e : j < i
        · rw [if_pos e]
        · obtain rfl : j = i := by omega
          rw [if_neg e, H4.out, Hy.out]; rfl), g4.below s4 (by omega) (fun j hj => by simp [blk] at hj; omega)⟩
set_option maxRecDepth 100000 in
theorem Path_out (b c : Nat) (f : Nat → Nat) (n : Int) (hn : isIn c n = false) (w : World) (hT : Tr w b c f) :
    Calls Tryd.prog 61 #[.pointer (some ⟨b, 0, none⟩), .int .i64 n] w fun e w' => e = .returned (.slice none 0 0) ∧ w' = w := by
  have HF := find_any b c f n w hT
  rw [hn, if_neg (by decide)] at HF
  go_enter Tryd.func61, Tryd.ntmps61
  go_wp2_with (first
    | (go_at_call 71; refine HF.mono ?_; rintro e w1 ⟨rfl, rfl⟩)
    | fail)
  go_ret
  exact ⟨rfl, rfl⟩
end Go.Proofs.YtilhkgbninbkkaaDoor
