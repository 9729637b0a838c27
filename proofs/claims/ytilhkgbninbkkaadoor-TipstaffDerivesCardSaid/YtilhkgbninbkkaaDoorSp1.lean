/- Contracts of space: slices.Index, Contains and Reverse at ints; find, Path, Depth, Up, Len, Inside, New, Make. -/
import Derived.Test.YtilhkgbninbkkaaDoorChecked
import Derived.Test.YtilhkgbninbkkaaDoorOw2
import Derived.Test.YtilhkgbninbkkaaDoorInns
import Derived.Test.YtilhkgbninbkkaaDoorMgAts
import Derived.Test.YtilhkgbninbkkaaDoorSp0
import Derived.RegionTactic
import Derived.ChangeAlike
import Derived.Deep.LoopGhost
namespace Go.Proofs.YtilhkgbninbkkaaDoor
open Go Go.RowKit
theorem undInts : Tryd.prog.underlying 51 = some (.slice 3) := by kernel_rfl
theorem infInt : (Tryd.prog.info? 3).map (·.size) = some 1 := by kernel_rfl
theorem zerInt : (Tryd.prog.info? 3).map (fun i => (i.zero, i.size, i.bytes)) = some (some (.int .i64 0), 1, 8) := by kernel_rfl
theorem oneInt : OneCell Tryd.prog 3 := oneCell_of zerInt (by omega) rfl
/-- A number. -/
def In (z : Int) : Value := .int .i64 z
theorem Own.set {w : World} {E g n cap : Nat} {f : Nat → Value} (h : Own w E (some ⟨g, 0, none⟩) n cap f) (k : Nat) (v : Value) : Own (w.setCell ⟨g, k, none⟩ v) E (some ⟨g, 0, none⟩) n cap (upd f k v) := by
  rcases h with ⟨h, _⟩ | ⟨g', C, e, hg, h1, h2, h3⟩
  · cases h
  · obtain rfl : g = g' := by injection e with e; injection e
    refine .inr ⟨g, C.setIfInBounds k v, rfl, by simp [World.setCell, Array.getElem?_modify, hg], h1, by simpa using h2, fun j hj => ?_⟩
    rw [Array.getElem?_setIfInBounds]
    have := h3 j hj
    have hlt := (Array.getElem?_eq_some_iff.1 this).1
    by_cases e : k = j
    · subst e; simp [hlt, upd]
    · rw [if_neg e, this]; simp only [upd]; rw [if_neg (fun e' => e e'.symm)]
theorem Own.at {w : World} {E g n cap : Nat} {f : Nat → Value} (h : Own w E (some ⟨g, 0, none⟩) n cap f) (j : Nat) (hj : j < n) : w.cell? ⟨g, j, none⟩ = some (f j) ∧ w.frozen? ⟨g, j, none⟩ = false := by
  rcases h with ⟨h, _⟩ | ⟨g', C, e, hg, h1, h2, h3⟩
  · cases h
  · obtain rfl : g = g' := by injection e with e; injection e
    exact ⟨by rw [cell_of_row w g j C E (0, 0) hg]; exact h3 j hj, by simp [World.frozen?, hg]⟩
theorem Own.drew {w : World} {E n cap : Nat} {p : Option Addr} {f : Nat → Value} (h : Own w E p n cap f) : Own w.drew E p n cap f := h
set_option maxRecDepth 100000 in
theorem Index_any (g off n cap : Nat) (F : Nat → Int) (x : Int) (hn : n ≤ 1000) (w : World) (hc : ∀ j, j < n → w.cell? ⟨g, off + j, none⟩ = some (In (F j))) :
    Calls Tryd.prog 72 #[.slice (some ⟨g, off, none⟩) n cap, .int .i64 x] w fun e w' => (∃ r : Int, e = .returned (.int .i64 r) ∧ (0 ≤ r ↔ ∃ j, j < n ∧ F j = x)) ∧ w' = w := by
  have Hc := hid hc
  clear hc
  go_enter Tryd.func72, Tryd.ntmps72
  go_wp2
  go_loop [5, 8] (fun u i => ∃ j : Nat, j ≤ n ∧ i = .int .i64 j ∧ Hid (∀ l, l < j → F l ≠ x)) (fun _ i => n - (intOf i).toNat)
  case atStart => exact ⟨0, by omega, rfl, hid (fun l hl => by omega)⟩
  case round =>
    obtain ⟨j, hj, rfl, H⟩ := hrel
    by_cases he : j < n
    · have hlt : (j : Int) < (n : Int) := by omega
      have cj : w.cell? ⟨g, off + j, none⟩ = some (.int .i64 (F j)) := Hc.out j he
      by_cases hx : F j = x
      · have Hx := hid hx
        have hx' : (x == F j) = true := by rw [hx]; simp
        clear hx
        generalize F j = z at cj hx'
        go_wp2
        go_ret
        exact ⟨⟨_, rfl, ⟨fun _ => ⟨j, he, Hx.out⟩, fun _ => by omega⟩⟩, rfl⟩
      · have Hx := hid hx
        have hx' : (x == F j) = false := by rw [beq_eq_false_iff_ne]; exact fun e => hx e.symm
        clear hx
        generalize F j = z at cj hx'
        go_wp2
        go_round
        case rel => exact ⟨j + 1, by omega, by go_num, hid (fun l hl => by
          by_cases e : l = j
          · rw [e]; exact Hx.out
          · exact H.out l (by omega))⟩
        case measure => simp [intOf]; omega
    · have hlt : ¬ (j : Int) < (n : Int) := by omega
      go_wp2
      go_ret
      refine ⟨⟨_, rfl, ⟨fun h => by omega, fun ⟨l, hl, e⟩ => absurd e (H.out l (by omega))⟩⟩, rfl⟩
set_option maxRecDepth 100000 in
theorem Contains_any (g off n cap : Nat) (F : Nat → Int) (x : Int) (b : Bool) (hb : b = true ↔ ∃ j, j < n ∧ F j = x) (hn : n ≤ 1000) (w : World) (hc : ∀ j, j < n → w.cell? ⟨g, off + j, none⟩ = some (In (F j))) :
    Calls Tryd.prog 60 #[.slice (some ⟨g, off, none⟩) n cap, .int .i64 x] w fun e w' => e = .returned (.bool b) ∧ w' = w := by
  have Hb := hid hb
  clear hb
  go_enter Tryd.func60, Tryd.ntmps60
  go_wp2_with (first
    | (go_at_call 72; refine (Index_any g off n cap F x hn _ hc).mono ?_; rintro e w' ⟨⟨r, rfl, hr⟩, rfl⟩; have Hr := hid hr; clear hr)
    | fail)
  go_ret
  refine ⟨?_, rfl⟩
  have : decide (0 ≤ r) = b := by
    rw [Bool.eq_iff_iff, decide_eq_true_iff, Hr.out, Hb.out]
  rw [this]
  rfl
set_option maxRecDepth 100000 in
theorem Index_nil (x : Int) (w : World) : Calls Tryd.prog 72 #[.slice none 0 0, .int .i64 x] w fun e w' => e = .returned (.int .i64 (-1)) ∧ w' = w := by
  go_enter Tryd.func72, Tryd.ntmps72
  go_wp2
  refine wp_loop_rounds 1 ?_
  rw [rounds_succ]
  go_wp2
  go_ret
  exact ⟨rfl, rfl⟩
set_option maxRecDepth 100000 in
theorem Contains_nil (x : Int) (w : World) : Calls Tryd.prog 60 #[.slice none 0 0, .int .i64 x] w fun e w' => e = .returned (.bool false) ∧ w' = w := by
  go_enter Tryd.func60, Tryd.ntmps60
  go_wp2_with (first
    | (go_at_call 72; refine (Index_nil x _).mono ?_; rintro e w' ⟨rfl, rfl⟩)
    | fail)
  go_ret
  exact ⟨rfl, rfl⟩
/-- The ends are exchanged as far as i. -/
def swpF (F : Nat → Int) (n i : Nat) : Nat → Int := fun j => if j < i ∨ n ≤ j + i then F (n - 1 - j) else F j
theorem swpF_step (F : Nat → Int) (n i : Nat) (h : 2 * i + 1 < n) (j : Nat) (hj : j < n) :
    upd (upd (fun j => In (swpF F n i j)) i (In (swpF F n i (n - 1 - i)))) (n - 1 - i) (In (swpF F n i i)) j = In (swpF F n (i + 1) j) := by
  unfold upd swpF
  by_cases h1 : j = n - 1 - i
  · subst h1
    rw [if_pos rfl, if_neg (by omega), if_pos (by omega), show n - 1 - (n - 1 - i) = i by omega]
  · rw [if_neg h1]
    by_cases h2 : j = i
    · subst h2
      rw [if_pos rfl, if_neg (by omega), if_pos (by omega)]
    · rw [if_neg h2]
      dsimp only
      by_cases h3 : j < i ∨ n ≤ j + i
      · rw [if_pos h3, if_pos (by omega)]
      · rw [if_neg h3, if_neg (by omega)]
theorem swpF_end (F : Nat → Int) (n i : Nat) (h : ¬ 2 * i + 1 < n) (j : Nat) (hj : j < n) : swpF F n i j = F (n - 1 - j) := by
  unfold swpF
  by_cases h3 : j < i ∨ n ≤ j + i
  · rw [if_pos h3]
  · rw [if_neg h3]
    congr 1
    omega
theorem turn_alike {S : Nat → Prop} {a w : World} (h : Turn S a w) : Turn S a w.drew := ⟨h.os, h.tape, h.output, h.size, h.block⟩
set_option maxRecDepth 100000 in
theorem Reverse_own (g n cap : Nat) (F : Nat → Int) (hn : n ≤ 1000) (w : World) (hO : Own w 3 (some ⟨g, 0, none⟩) n cap (fun j => In (F j))) :
    Calls Tryd.prog 73 #[.slice (some ⟨g, 0, none⟩) n cap] w fun e w' => e = .returned (.tuple #[]) ∧ Turn (fun k => k = g) w w' ∧ Own w' 3 (some ⟨g, 0, none⟩) n cap (fun j => In (F (n - 1 - j))) := by
  go_enter Tryd.func73, Tryd.ntmps73
  go_wp2
  go_loopg [2, 3] (n + 1) (fun k u v wr => ∃ i : Nat, k = n + 1 - i ∧ i ≤ n ∧ u = .int .i64 i ∧ v = .int .i64 ((n : Int) - 1 - i) ∧ Own wr 3 (some ⟨g, 0, none⟩) n cap (fun j => In (swpF F n i j)) ∧ Turn (fun k => k = g) w wr)
  case atStart => exact ⟨0, by omega, by omega, rfl, by simp, hO.congr (fun j hj => by unfold swpF; rw [if_neg (by omega)]), Turn.refl _ _⟩
  case round =>
    clear hO
    obtain ⟨i, rfl, hin, rfl, rfl, hO, hT⟩ := hrel
    have n0 : (n : Int) ≤ 1000 := by omega
    have i0 : (0 : Int) ≤ (i : Int) := by omega
    by_cases hlt : 2 * i + 1 < n
    · obtain ⟨jn, hjn⟩ : ∃ jn : Nat, jn = n - 1 - i := ⟨_, rfl⟩
      have ej : (n : Int) - 1 - i = (jn : Int) := by omega
      rw [ej]
      have hij : i < jn := by omega
      have hji : jn < n := by omega
      have t1 : (i : Int) < (jn : Int) := by omega
      have t2 : (jn : Int) < (n : Int) := by omega
      have t3 : (i : Int) < (n : Int) := by omega
      obtain ⟨ci0, fi⟩ := hO.at i (by omega)
      obtain ⟨cj0, fj⟩ := hO.at jn (by omega)
      have ci : wr.cell? ⟨g, i, none⟩ = some (.int .i64 (swpF F n i i)) := ci0
      have cj : wr.cell? ⟨g, jn, none⟩ = some (.int .i64 (swpF F n i jn)) := cj0
      clear ci0 cj0
      have HS := hid (swpF_step F n i hlt)
      have Hj := hid hjn
      have He := hid ej
      clear hjn ej
      obtain ⟨za, hza⟩ : ∃ za, za = swpF F n i i := ⟨_, rfl⟩
      obtain ⟨zb, hzb⟩ : ∃ zb, zb = swpF F n i jn := ⟨_, rfl⟩
      have Hza := hid hza
      have Hzb := hid hzb
      rw [← hza] at ci
      rw [← hzb] at cj
      clear hza hzb
      go_wp2_with fail
      go_region
      go_wp2
      go_roundg (n + 1 - (i + 1))
      case measure => omega
      case rel =>
        refine ⟨i + 1, rfl, by omega, by go_num, ?_, ?_, ?_⟩
        · have := He.out; congr 1; push_cast; omega
        · have A := (((hO.set i (In zb)).set jn (In za)).drew).congr (f' := fun j => In (swpF F n (i + 1) j)) (fun j hj => by
            have := HS.out j hj
            rw [← Hj.out, ← Hza.out, ← Hzb.out] at this
            exact this)
          exact A
        · have B := (hT.trans (touch_setCell wr ⟨g, i, none⟩ (In zb)).turn (fun j h _ => h)).trans (touch_setCell _ ⟨g, jn, none⟩ (In za)).turn (fun j h _ => h)
          exact turn_alike B
    · have t1 : ¬ ((i : Int) < (n : Int) - 1 - i) := by omega
      have HE := hid (swpF_end F n i hlt)
      go_wp2
      go_end0
      exact ⟨rfl, hT, hO.congr (fun j hj => by show In _ = In _; rw [HE.out j hj])⟩
end Go.Proofs.YtilhkgbninbkkaaDoor
