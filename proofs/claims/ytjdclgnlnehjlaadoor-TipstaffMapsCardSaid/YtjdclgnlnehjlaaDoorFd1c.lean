/- Contracts of fdtab: New, Open, Get, Close. -/
import Derived.Test.YtjdclgnlnehjlaaDoorChecked
import Derived.Test.YtjdclgnlnehjlaaDoorOw2
import Derived.Test.YtjdclgnlnehjlaaDoorInns
namespace Go.Proofs.YtjdclgnlnehjlaaDoor
open Go Go.RowKit
theorem undIntsc : Tryd.prog.underlying 52 = some (.slice 3) := by kernel_rfl
theorem infIntc : (Tryd.prog.info? 3).map (·.size) = some 1 := by kernel_rfl
theorem zerIntc : (Tryd.prog.info? 3).map (fun i => (i.zero, i.size, i.bytes)) = some (some (.int .i64 0), 1, 8) := by kernel_rfl
/-- A tenant's table: n descriptors, by their objects' numbers; 0: free. -/
structure Fd (w : World) (b c n : Nat) (f : Nat → Int) : Prop where
  h : Has w b 123 1 (fun _ => .slice (some ⟨c, 0, none⟩) n n)
  r : Has w c 3 n (fun j => .int .i64 (f j))
  ne : b ≠ c
section
variable {w w' : World} {b c n : Nat} {f : Nat → Int}
theorem Fd.cell (h : Fd w b c n f) : w.cell? ⟨b, 0, none⟩ = some (.slice (some ⟨c, 0, none⟩) n n) := h.h.cell (by omega)
theorem Fd.at (h : Fd w b c n f) (k : Nat) (hk : k < n) : w.cell? ⟨c, k, none⟩ = some (.int .i64 (f k)) := h.r.cell hk
theorem Fd.below {N : Nat} (h : Fd w b c n f) (hN : Sz w N) (hb : Below N w w') : Fd w' b c n f := ⟨h.h.below hb (h.h.ltN hN), h.r.below hb (h.r.ltN hN), h.ne⟩
theorem Fd.drew (h : Fd w b c n f) : Fd w.drew b c n f := ⟨h.h, h.r, h.ne⟩
theorem Fd.touch {d : Nat} (h : Fd w b c n f) (t : Touch d w w') (hb : b ≠ d) (hc : c ≠ d) : Fd w' b c n f := ⟨h.h.touch t hb, h.r.touch t hc, h.ne⟩
theorem Fd.congr {g : Nat → Int} (h : Fd w b c n f) (e : ∀ j, j < n → f j = g j) : Fd w b c n g := ⟨h.h, h.r.congr (fun j hj => by rw [e j hj]), h.ne⟩
theorem Fd.ltN {N : Nat} (h : Fd w b c n f) (hN : Sz w N) : b < N ∧ c < N := ⟨h.h.ltN hN, h.r.ltN hN⟩
end
set_option maxRecDepth 100000 in
theorem FNew_any (n : Nat) (h1 : 1 ≤ n) (h2 : n ≤ 16) (w : World) (N : Nat) (hN : Sz w N) :
    Calls Tryd.prog 48 #[.int .i64 (n : Int)] w fun e w' => e = .returned (.tuple #[.pointer (some ⟨N + 1, 0, none⟩), .int .i64 0]) ∧ Below N w w' ∧ Fd w' (N + 1) N n (fun _ => 0) ∧ Sz w' (N + 2) := by
  have t1 : decide ((n : Int) < 1) = false := by simp; omega
  have t2 : decide ((16 : Int) < (n : Int)) = false := by simp; omega
  go_enter Tryd.func48, Tryd.ntmps48
  go_wp2_with (first
    | (refine wpl_make_full rfl 52 (.tmp 10) (.tmp 10) rfl n rfl rfl 3 (.int .i64 0) 8 undIntsc zerIntc (by omega) rfl (by omega) N hN ?_; intro w1 hN1 hb1 hh1)
    | (refine wpl_build rfl 123 _ rfl (cellsOf (fun _ => .slice (some ⟨N, 0, none⟩) n n) 1) (by kernel_rfl) ?_)
    | (refine wpl_box rfl 123 (.tmp 12) rfl 1 _ rfl (N + 1) hN1 ?_; intro w2 hN2 hb2 hh2)
    | fail)
  go_ret2
  exact ⟨rfl, hb1.trans (hb2.mono (by omega)), ⟨hh2, hh1.below hb2 (by omega), by omega⟩, hN2⟩
set_option maxRecDepth 100000 in
theorem Open_at (b c n : Nat) (f : Nat → Int) (id : Int) (k : Nat) (hid1 : 1 ≤ id) (hk : k < n) (hn : n ≤ 16) (hf : f k = 0) (hl : ∀ i, i < k → f i ≠ 0) (w : World) (hF : Fd w b c n f) :
    Calls Tryd.prog 49 #[.pointer (some ⟨b, 0, none⟩), .int .i64 id] w fun e w' => e = .returned (.tuple #[.int .i64 (k : Int), .int .i64 0]) ∧ Touch c w w' ∧ Fd w' b c n (fun j => if j = k then id else f j) := by
  have t1 : decide (id < 1) = false := by simp; omega
  have c0 := hF.cell
  have Hl := hid hl
  have Hf := hid hf
  clear hl hf
  go_enter Tryd.func49, Tryd.ntmps49
  go_wp2
  go_loop [19] (fun i => ∃ j : Nat, j ≤ k ∧ i = .int .i64 j) (fun i => n - (intOf i).toNat)
  case atStart => exact ⟨0, by omega, rfl⟩
  case round =>
    obtain ⟨j, hj, rfl⟩ := hrel
    have hlt : (j : Int) < (n : Int) := by omega
    have cj := hF.at j (by omega)
    by_cases he : j = k
    · subst he
      rw [Hf.out] at cj
      go_wp2_with (first
        | (refine wpl_set rfl 3 (.tmp 32) (.tmp 31) rfl c j rfl (.int .i64 id) rfl infIntc rfl rfl 3 n _ hF.r hk ?_; intro w1 ht1 hh1)
        | fail)
      go_ret2
      exact ⟨rfl, ht1, hF.h.touch ht1 hF.ne, hh1.congr (fun i _ => by unfold upd; split <;> rfl), hF.ne⟩
    · have hz : (f j == 0) = false := by rw [beq_eq_false_iff_ne]; exact Hl.out j (by omega)
      have Hz := hid hz
      have hz2 : f j ≠ 0 := Hl.out j (by omega)
      generalize f j = z at cj hz2 hz Hz
      go_wp2
      go_round
      case rel => exact ⟨j + 1, by omega, by go_num⟩
      case measure => simp [intOf]; omega
set_option maxRecDepth 100000 in
theorem Get_ok (b c n : Nat) (f : Nat → Int) (k : Nat) (hk : k < n) (hn : n ≤ 16) (hf : f k ≠ 0) (w : World) (hF : Fd w b c n f) :
    Calls Tryd.prog 50 #[.pointer (some ⟨b, 0, none⟩), .int .i64 (k : Int)] w fun e w' => e = .returned (.tuple #[.int .i64 (f k), .int .i64 0]) ∧ w = w' := by
  have hlt : (k : Int) < (n : Int) := by omega
  have t1 : decide ((k : Int) < 0) = false := by simp
  have t2 : decide ((n : Int) ≤ (k : Int)) = false := by simp; omega
  have hz : (f k == 0) = false := by rw [beq_eq_false_iff_ne]; exact hf
  have c0 := hF.cell
  have cj := hF.at k hk
  clear hf
  generalize f k = z at cj hz
  go_enter Tryd.func50, Tryd.ntmps50
  go_wp2
  go_ret2
  exact ⟨rfl, rfl⟩
end Go.Proofs.YtjdclgnlnehjlaaDoor
