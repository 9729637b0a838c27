/- bmap: place. bmap: place. -/
import Derived.Test.YtjdclgnlnehjlaaDoorBm2
namespace Go.Proofs.YtjdclgnlnehjlaaDoor
open Go Go.RowKit
set_option maxRecDepth 100000 in
theorem same_yes (e : Me) (d : Nat) (w : World) (N : Nat) (hN : Sz w N) (hd : w.cell? ⟨d, 0, none⟩ = some (.string e.k)) :
    Calls Tryd.prog 71 #[.agg (cellsOf (me1 e) 2), .pointer (some ⟨d, 0, none⟩)] w fun r w' => r = .returned (.bool true) ∧ Below N w w' := by
  have hdN : d < N := by have := World.block_lt_of_cell? w _ hd; have e : w.heap.size = N := hN; simp only at this; omega
  go_enter Tryd.func71, Tryd.ntmps71
  go_wp2_with (first
    | (refine wpl_box rfl 82 (.tmp 0) rfl 2 _ rfl N hN ?_; intro w1 hN1 hb1 hh1; have c0 : w1.cell? ⟨N, 0, none⟩ = some (.string e.k) := hh1.cell (by omega); have hd1 : w1.cell? ⟨d, 0, none⟩ = some (.string e.k) := (hb1.cell (p := ⟨d, 0, none⟩) hdN).trans hd)
    | fail)
  go_ret
  exact ⟨rfl, hb1⟩
set_option maxRecDepth 100000 in
theorem same_no (e : Me) (key : ByteArray) (hk : e.k ≠ key) (d : Nat) (w : World) (N : Nat) (hN : Sz w N) (hd : w.cell? ⟨d, 0, none⟩ = some (.string key)) :
    Calls Tryd.prog 71 #[.agg (cellsOf (me1 e) 2), .pointer (some ⟨d, 0, none⟩)] w fun r w' => r = .returned (.bool false) ∧ Below N w w' := by
  have hdN : d < N := by have := World.block_lt_of_cell? w _ hd; have e : w.heap.size = N := hN; simp only at this; omega
  have hk' : (e.k.toList == key.toList) = false := by
    rw [beq_eq_false_iff_ne]
    intro h
    rw [ByteArray.toList_eq, ByteArray.toList_eq] at h
    exact hk (ByteArray.ext (Array.toList_inj.1 h))
  go_enter Tryd.func71, Tryd.ntmps71
  go_wp2_with (first
    | (refine wpl_box rfl 82 (.tmp 0) rfl 2 _ rfl N hN ?_; intro w1 hN1 hb1 hh1; have c0 : w1.cell? ⟨N, 0, none⟩ = some (.string e.k) := hh1.cell (by omega); have hd1 : w1.cell? ⟨d, 0, none⟩ = some (.string key) := (hb1.cell (p := ⟨d, 0, none⟩) hdN).trans hd)
    | fail)
  go_ret
  exact ⟨rfl, hb1⟩
set_option maxRecDepth 100000 in
theorem index_at (m : Mp) (key : ByteArray) (d k : Nat) (hk : k < m.n) (hz : (m.E k).k = key) (hl : ∀ i, i < k → (m.E i).k ≠ key) (hn : m.n ≤ 1000) (w : World) (N : Nat) (hN : Sz w N) (hA : MpAt w m) (hd : w.cell? ⟨d, 0, none⟩ = some (.string key)) :
    Calls Tryd.prog 70 #[.slice m.p m.n m.cap, .func (.func 71) #[] #[.pointer (some ⟨d, 0, none⟩)]] w fun e w' => e = .returned (.int .i64 (k : Int)) ∧ Below N w w' := by
  obtain ⟨g, hg⟩ := hA.ptr (by omega)
  obtain ⟨fs, hfs⟩ := stBE
  have hdN : d < N := by have := World.block_lt_of_cell? w _ hd; have e : w.heap.size = N := hN; simp only at this; omega
  have Hl := hid hl
  have Hz := hid hz
  have Hg := hid hg
  clear hl hz
  rw [hg]
  clear hg
  go_enter Tryd.func70, Tryd.ntmps70
  go_wp2
  go_loopw [8] (fun i wr => ∃ j : Nat, j ≤ k ∧ i = .int .i64 j ∧ Below N w wr) (fun i _ => m.n - (intOf i).toNat)
  case atStart => exact ⟨0, by omega, rfl, Below.refl _ _⟩
  case round =>
    obtain ⟨j, hj, rfl, qb⟩ := hrel
    obtain ⟨M, hM⟩ := sz_some wr
    have hNM := below_sz qb hN hM
    have hlt : (j : Int) < (m.n : Int) := by omega
    have hdr : wr.cell? ⟨d, 0, none⟩ = some (.string key) := (qb.cell (p := ⟨d, 0, none⟩) hdN).trans hd
    have Hce := hid (fun i hi => (hA.below hN qb).at Hg.out j (by omega) i hi)
    by_cases he : j = k
    · subst he
      have hdr' : wr.cell? ⟨d, 0, none⟩ = some (.string (m.E j).k) := by rw [Hz.out]; exact hdr
      clear hdr
      go_wp2_with (first
        | (refine wpl_load_cells rfl 82 (.tmp 14) rfl g (j * 2) rfl 2 (me1 (m.E j)) Hce.out _ hfs rfl szBE ?_)
        | (go_at_call 71; refine (same_yes (m.E j) d _ M hM hdr').mono ?_; rintro e w1 ⟨rfl, hb1⟩)
        | fail)
      go_ret
      exact ⟨rfl, qb.trans (hb1.mono hNM)⟩
    · have hne : (m.E j).k ≠ key := Hl.out j (by omega)
      have Hne := hid hne
      clear hne
      go_wp2_with (first
        | (refine wpl_load_cells rfl 82 (.tmp 14) rfl g (j * 2) rfl 2 (me1 (m.E j)) Hce.out _ hfs rfl szBE ?_)
        | (go_at_call 71; refine (same_no (m.E j) key Hne.out d _ M hM hdr).mono ?_; rintro e w1 ⟨rfl, hb1⟩)
        | fail)
      exact ⟨⟨j + 1, by omega, by go_num, qb.trans (hb1.mono hNM)⟩, by simp [intOf]; omega⟩
set_option maxRecDepth 100000 in
theorem index_no (m : Mp) (key : ByteArray) (d : Nat) (hl : ∀ i, i < m.n → (m.E i).k ≠ key) (hn : m.n ≤ 1000) (w : World) (N : Nat) (hN : Sz w N) (hA : MpAt w m) (hd : w.cell? ⟨d, 0, none⟩ = some (.string key)) :
    Calls Tryd.prog 70 #[.slice m.p m.n m.cap, .func (.func 71) #[] #[.pointer (some ⟨d, 0, none⟩)]] w fun e w' => e = .returned (.int .i64 (-1)) ∧ Below N w w' := by
  obtain ⟨fs, hfs⟩ := stBE
  have hdN : d < N := by have := World.block_lt_of_cell? w _ hd; have e : w.heap.size = N := hN; simp only at this; omega
  have Hl := hid hl
  clear hl
  go_enter Tryd.func70, Tryd.ntmps70
  go_wp2
  go_loopw [8] (fun i wr => ∃ j : Nat, j ≤ m.n ∧ i = .int .i64 j ∧ Below N w wr) (fun i _ => m.n - (intOf i).toNat)
  case atStart => exact ⟨0, by omega, rfl, Below.refl _ _⟩
  case round =>
    obtain ⟨j, hj, rfl, qb⟩ := hrel
    obtain ⟨M, hM⟩ := sz_some wr
    have hNM := below_sz qb hN hM
    by_cases he : j < m.n
    · have hlt : (j : Int) < (m.n : Int) := by omega
      obtain ⟨g, hg⟩ := hA.ptr (by omega)
      have hdr : wr.cell? ⟨d, 0, none⟩ = some (.string key) := (qb.cell (p := ⟨d, 0, none⟩) hdN).trans hd
      have Hce := hid (fun i hi => (hA.below hN qb).at hg j (by omega) i hi)
      rw [hg]
      clear hg
      have Hne := hid (Hl.out j he)
      go_wp2_with (first
        | (refine wpl_load_cells rfl 82 (.tmp 14) rfl g (j * 2) rfl 2 (me1 (m.E j)) Hce.out _ hfs rfl szBE ?_)
        | (go_at_call 71; refine (same_no (m.E j) key Hne.out d _ M hM hdr).mono ?_; rintro e w1 ⟨rfl, hb1⟩)
        | fail)
      exact ⟨⟨j + 1, by omega, by go_num, qb.trans (hb1.mono hNM)⟩, by simp [intOf]; omega⟩
    · go_wp2
      go_ret
      exact ⟨rfl, qb⟩
end Go.Proofs.YtjdclgnlnehjlaaDoor
namespace Go.Proofs.YtjdclgnlnehjlaaDoor
open Go Go.RowKit
set_option maxRecDepth 100000 in
theorem place_at (m : Mp) (key : ByteArray) (k : Nat) (hk : k < m.n) (hz : (m.E k).k = key) (hl : ∀ i, i < k → (m.E i).k ≠ key) (hn : m.n ≤ 1000) (w : World) (N : Nat) (hN : Sz w N) (hA : MpAt w m) :
    Calls Tryd.prog 41 #[.pointer (some ⟨m.b, 0, none⟩), .string key] w fun e w' => e = .returned (.int .i64 (k : Int)) ∧ Below N w w' := by
  have hmf : ∀ (fn : Fn) (first cap : Array Value) (w : World), (Instr.makeFunc fn first cap).run Tryd.prog w = .ok (.func fn first cap) w := fun _ _ _ _ => rfl
  have hx : (w.alloc (.cells #[.string key] 9)).cell? ⟨w.heap.size, 0, none⟩ = some (.string key) := by
    rw [World.cell?_alloc_at _ _ _ _ rfl]; rfl
  have hb1 := below_new w (.cells #[.string key] 9) N hN
  have hN1 := sz_alloc hN (.cells #[.string key] 9)
  have A1 := hA.below hN hb1
  have d5 := A1.c5
  have Hz := hid hz
  have Hl := hid hl
  clear hz hl
  go_enter Tryd.func41, Tryd.ntmps41
  go_wp2_with fail
  refine (index_at m key w.heap.size k hk Hz.out Hl.out hn _ (N + 1) hN1 A1 hx).mono ?_
  rintro e w1 ⟨rfl, hb2⟩
  go_wp2
  go_ret
  exact ⟨rfl, hb1.trans (hb2.mono (by omega))⟩
set_option maxRecDepth 100000 in
theorem place_no (m : Mp) (key : ByteArray) (hl : ∀ i, i < m.n → (m.E i).k ≠ key) (hn : m.n ≤ 1000) (w : World) (N : Nat) (hN : Sz w N) (hA : MpAt w m) :
    Calls Tryd.prog 41 #[.pointer (some ⟨m.b, 0, none⟩), .string key] w fun e w' => e = .returned (.int .i64 (-1)) ∧ Below N w w' := by
  have hmf : ∀ (fn : Fn) (first cap : Array Value) (w : World), (Instr.makeFunc fn first cap).run Tryd.prog w = .ok (.func fn first cap) w := fun _ _ _ _ => rfl
  have hx : (w.alloc (.cells #[.string key] 9)).cell? ⟨w.heap.size, 0, none⟩ = some (.string key) := by
    rw [World.cell?_alloc_at _ _ _ _ rfl]; rfl
  have hb1 := below_new w (.cells #[.string key] 9) N hN
  have hN1 := sz_alloc hN (.cells #[.string key] 9)
  have A1 := hA.below hN hb1
  have d5 := A1.c5
  have Hl := hid hl
  clear hl
  go_enter Tryd.func41, Tryd.ntmps41
  go_wp2_with fail
  refine (index_no m key w.heap.size Hl.out hn _ (N + 1) hN1 A1 hx).mono ?_
  rintro e w1 ⟨rfl, hb2⟩
  go_wp2
  go_ret
  exact ⟨rfl, hb1.trans (hb2.mono (by omega))⟩
end Go.Proofs.YtjdclgnlnehjlaaDoor
