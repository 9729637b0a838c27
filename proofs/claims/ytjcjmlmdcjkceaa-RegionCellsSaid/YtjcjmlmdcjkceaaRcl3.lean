/- region: the maps of a memory; whether a cell may be written. -/
import Derived.Test.YtjcjmlmdcjkceaaRcl2
namespace Go.Proofs.Ytjcjmlmdcjkceaa
open Go Go.RowKit
set_option maxRecDepth 100000 in
set_option maxHeartbeats 4000000 in
theorem Map_0 (b : Nat) (me : Me) (ms c mb : Nat) (hmp : me.mp = .slice (some ⟨ms, 0, none⟩) 1 c) (w : World) (hh : Has w b 83 193 (meC me)) (q : w.cell? ⟨ms, 0, none⟩ = some (.pointer (some ⟨mb, 0, none⟩))) : Calls Try.prog 13 #[.pointer (some ⟨b, 0, none⟩), .int .i64 0] w fun e w' => e = .returned (.pointer (some ⟨mb, 0, none⟩)) ∧ w' = w := by
  have c0 : w.cell? ⟨b, 192, none⟩ = some (.slice (some ⟨ms, 0, none⟩) 1 c) := by rw [← hmp]; exact hh.cell (j := 192) (by omega)
  go_enter Try.func13, Try.ntmps13
  go_wp2_with fail
  go_ret
  exact ⟨rfl, rfl⟩
set_option maxRecDepth 100000 in
set_option maxHeartbeats 4000000 in
theorem Map_off (b : Nat) (me : Me) (ms c : Nat) (hmp : me.mp = .slice (some ⟨ms, 0, none⟩) 1 c) (i : Int) (hi : i = 1 ∨ i = -1) (w : World) (hh : Has w b 83 193 (meC me)) : Calls Try.prog 13 #[.pointer (some ⟨b, 0, none⟩), .int .i64 i] w fun e w' => e = .returned (.pointer none) ∧ w' = w := by
  have c0 : w.cell? ⟨b, 192, none⟩ = some (.slice (some ⟨ms, 0, none⟩) 1 c) := by rw [← hmp]; exact hh.cell (j := 192) (by omega)
  rcases hi with rfl | rfl
  · go_enter Try.func13, Try.ntmps13
    go_wp2_with fail
    go_ret
    exact ⟨rfl, rfl⟩
  · go_enter Try.func13, Try.ntmps13
    go_wp2_with fail
    go_ret
    exact ⟨rfl, rfl⟩
set_option maxRecDepth 100000 in
set_option maxHeartbeats 4000000 in
theorem Writable_cell (b : Nat) (v : Vl) (hv : v.tag = 5) (hs : v.sl = 0) (me : Me) (ms c : Nat) (hmp : me.mp = .slice (some ⟨ms, 0, none⟩) 1 c) (m : Mp) (fz : Bool) (hf : m.fz = fz) (w : World) (N : Nat) (hN : Sz w N) (hh : Has w b 83 193 (meC me)) (q : w.cell? ⟨ms, 0, none⟩ = some (.pointer (some ⟨m.b, 0, none⟩))) (hA : MpAt w m) :
    Calls Try.prog 32 #[.pointer (some ⟨b, 0, none⟩), vlV v] w fun e w' => e = .returned (.bool (!fz)) ∧ Below N w w' := by
  obtain ⟨tag, vn, sl, cc⟩ := v
  simp only at hv hs
  subst hv
  subst hs
  have hbl := hh.ltN hN
  unfold vlV
  go_enter Try.func32, Try.ntmps32
  go_upto_region 1 with (first
    | (refine wpl_box rfl 26 (.tmp 1) rfl 4 _ rfl N hN ?_; intro w1 hN1 hb1 h1)
    | fail)
  have hh1 := hh.below hb1 (by omega)
  have q1 := keep_c hb1 hN q
  have hA1 := hA.below hN hb1
  have c0 : w1.cell? ⟨N, 0, none⟩ = some (.int .i64 5) := h1.cell (j := 0) (by omega)
  have c2 : w1.cell? ⟨N, 2, none⟩ = some (.int .i64 0) := h1.cell (j := 2) (by omega)
  clear hh q hA
  go_wp2_with (first
    | (go_at_call 13; refine (Map_0 b me ms c m.b hmp _ hh1 q1).mono ?_; rintro e w2 ⟨rfl, hu⟩; have hu2 := hu.symm; subst hu2; clear hu)
    | (go_at_call 50; refine (Frozen_is m fz hf _ hA1).mono ?_; rintro e w3 ⟨rfl, hu⟩; subst hu; cases fz)
    | fail)
  all_goals (go_ret; exact ⟨rfl, hb1⟩)
end Go.Proofs.Ytjcjmlmdcjkceaa
