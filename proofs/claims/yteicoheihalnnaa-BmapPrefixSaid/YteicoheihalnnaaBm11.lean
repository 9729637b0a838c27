/- bmap: next, Push, Peek, Pop. -/
import Derived.Test.YteicoheihalnnaaBm7
import Derived.Test.YteicoheihalnnaaBm9
namespace Go.Proofs.Yteicoheihalnnaa
open Go Go.RowKit
theorem ret_int {k : IntKind} {a b : Int} (h : a = b) : Ending.returned (.int k a) = .returned (.int k b) := by rw [h]
/-- i is the place of what comes first out of a line. -/
def NextIs (m : Mp) (i : Nat) : Prop := i < m.n ∧ (m.ty = 3 ∧ i = 0 ∨ m.ty = 4 ∧ i + 1 = m.n)
set_option maxRecDepth 100000 in
theorem next_at (m : Mp) (i : Nat) (h : NextIs m i) (hn : m.n ≤ 1000) (w : World) (hA : MpAt w m) :
    Calls Try.prog 33 #[.pointer (some ⟨m.b, 0, none⟩)] w fun e w' => e = .returned (.int .i64 (i : Int)) ∧ ∃ x, w' = w.drewN x := by
  obtain ⟨hi, ⟨ht, rfl⟩ | ⟨ht, he⟩⟩ := h
  · have d0 := hA.c0
    rw [ht] at d0
    clear ht
    go_enter Try.func33, Try.ntmps33
    go_wp2
    go_ret
    exact ⟨rfl, 0, rfl⟩
  · have d0 := hA.c0
    have d5 := hA.c5
    rw [ht] at d0
    clear ht
    have n1 : (1 : Int) ≤ (m.n : Int) := by omega
    have n2 : (m.n : Int) ≤ 1000 := by omega
    have He := hid he
    clear he
    go_enter Try.func33, Try.ntmps33
    go_wp2
    go_ret
    exact ⟨ret_int (by have := He.out; omega), 0, rfl⟩
set_option maxRecDepth 100000 in
theorem Push_ok (m : Mp) (ht : m.ty = 3 ∨ m.ty = 4) (hfz : m.fz = false) (hn : m.n < m.ent) (he : m.ent ≤ 64) (h1 : 1 ≤ m.val) (h2 : m.val ≤ 64) (x : Option Addr) (cx : Nat) (X : Nat → BitVec 8) (w : World) (N : Nat) (hN : Sz w N) (hA : MpAt w m) (hx : Ats w x m.val (fun j => By (X j))) :
    Calls Try.prog 15 #[.pointer (some ⟨m.b, 0, none⟩), .slice x m.val cx, .int .u64 0] w fun e w' => e = .returned (.int .i64 0) ∧ PutLater m N ⟨#[]⟩ X w w' := by
  have d4 := hA.c4
  rw [hfz] at d4
  have d2 := hA.c2
  clear hfz
  have Ht := hid ht
  clear ht
  go_enter Try.func15, Try.ntmps15
  go_wp2_with (first
    | (go_at_call 31; refine (isLine_yes m Ht.out _ hA).mono ?_; rintro e w1 ⟨rfl, rfl⟩)
    | (go_at_call 32; refine (full_no m hn _ N hN hA).mono ?_; rintro e w1 ⟨rfl, T1, N1⟩; have A1 := hA.below hN T1; have x1 := hx.below hN T1; clear d4 d2)
    | (go_at_call 20; refine (put_any m ⟨#[]⟩ x cx X (by omega) h1 h2 _ N N1 A1 x1).mono ?_; rintro e w2 ⟨rfl, p2⟩)
    | fail)
  go_ret
  exact ⟨rfl, N, Nat.le_refl N, turn_low hN T1 p2.1, p2.2⟩
set_option maxRecDepth 100000 in
theorem Push_full (m : Mp) (ht : m.ty = 3 ∨ m.ty = 4) (hfz : m.fz = false) (hn : m.ent ≤ m.n) (x : Option Addr) (cx : Nat) (w : World) (N : Nat) (hN : Sz w N) (hA : MpAt w m) :
    Calls Try.prog 15 #[.pointer (some ⟨m.b, 0, none⟩), .slice x m.val cx, .int .u64 0] w fun e w' => e = .returned (.int .i64 7) ∧ Below N w w' := by
  have d4 := hA.c4
  rw [hfz] at d4
  have d2 := hA.c2
  clear hfz
  have Ht := hid ht
  clear ht
  go_enter Try.func15, Try.ntmps15
  go_wp2_with (first
    | (go_at_call 31; refine (isLine_yes m Ht.out _ hA).mono ?_; rintro e w1 ⟨rfl, rfl⟩)
    | (go_at_call 32; refine (full_yes m hn _ N hN hA).mono ?_; rintro e w1 ⟨rfl, T1, N1⟩)
    | fail)
  go_ret
  exact ⟨rfl, T1⟩
set_option maxRecDepth 100000 in
set_option maxHeartbeats 1000000 in
theorem Peek_ok (m : Mp) (i : Nat) (h : NextIs m i) (hn : m.n ≤ 1000) (h1 : 1 ≤ m.val) (h2 : m.val ≤ 64) (w : World) (N : Nat) (hN : Sz w N) (hA : MpAt w m) :
    Calls Try.prog 16 #[.pointer (some ⟨m.b, 0, none⟩)] w fun e w' => Val N m.val (m.E i).v e w' ∧ Below N w w' := by
  have ht : m.ty = 3 ∨ m.ty = 4 := by rcases h.2 with h | h; exact .inl h.1; exact .inr h.1
  have hi := h.1
  have d5 := hA.c5
  obtain ⟨g, hg⟩ := hA.ptr (by omega)
  have dc : w.cell? ⟨g, i * 2 + 1, none⟩ = some (.pointer (some ⟨(m.E i).c, 0, none⟩)) := hA.at hg i hi 1 (by omega)
  rw [hg] at d5
  clear hg
  have t0 : ((m.n : Int) == 0) = false := by rw [beq_eq_false_iff_ne]; omega
  have i1 : (i : Int) < (m.n : Int) := by omega
  have Ht := hid ht
  clear ht
  go_enter Try.func16, Try.ntmps16
  go_wp2_with (first
    | (go_at_call 31; refine (isLine_yes m Ht.out _ hA).mono ?_; rintro e w1 ⟨rfl, rfl⟩)
    | fail)
  refine wp_region_quiet_tail 10 (by kernel_rfl) (by kernel_rfl) ?_
  simp only [List.take_succ_cons, List.take_zero, List.drop_succ_cons, List.drop_zero]
  repeat (go_big_quiet_step ((go_at_call 33; exact Calls.quiet_of (next_at m i h hn _ (hA.drewN _)))))
  refine wpQuiet_nil ?_
  intro _ hw'
  obtain ⟨x, rfl⟩ := hw'
  have A1 := hA.drewN x
  have N1 : Sz (w.drewN x) N := hN
  have b1 : Below N w (w.drewN x) := below_drewN (Below.refl _ _) x
  clear d5 dc
  generalize w.drewN x = wx at *
  go_wp2_with (first
    | (go_at_call 29; refine (value_any m (m.E i).c (m.E i).b (m.E i).v h1 h2 _ N N1 A1 (A1.c i hi) (A1.v i hi)).mono ?_; rintro e w2 ⟨rfl, hb2, hN2, hv2⟩)
    | fail)
  go_ret2
  exact ⟨⟨N, Nat.le_refl N, rfl, hv2⟩, b1.trans hb2⟩
set_option maxRecDepth 100000 in
theorem Peek_no (m : Mp) (ht : m.ty = 3 ∨ m.ty = 4) (hn : m.n = 0) (w : World) (hA : MpAt w m) :
    Calls Try.prog 16 #[.pointer (some ⟨m.b, 0, none⟩)] w fun e w' => e = .returned (.tuple #[.slice none 0 0, .int .i64 2]) ∧ w = w' := by
  have d5 := hA.c5
  rw [hn] at d5
  clear hn
  have Ht := hid ht
  clear ht
  go_enter Try.func16, Try.ntmps16
  go_wp2_with (first
    | (go_at_call 31; refine (isLine_yes m Ht.out _ hA).mono ?_; rintro e w1 ⟨rfl, rfl⟩)
    | fail)
  go_ret2
  exact ⟨rfl, rfl⟩
set_option maxRecDepth 100000 in
theorem Pop_ok (m : Mp) (i : Nat) (h : NextIs m i) (hfz : m.fz = false) (hn : m.n ≤ 1000) (h1 : 1 ≤ m.val) (h2 : m.val ≤ 64) (w : World) (N : Nat) (hN : Sz w N) (hA : MpAt w m) :
    Calls Try.prog 17 #[.pointer (some ⟨m.b, 0, none⟩)] w fun e w' => Val N m.val (m.E i).v e w' ∧ Turn (Top m) w w' ∧ MpAt w' (m.del i) := by
  have d4 := hA.c4
  rw [hfz] at d4
  have hi := h.1
  clear hfz
  go_enter Try.func17, Try.ntmps17
  go_wp2_with (first
    | (go_at_call 16; refine (Peek_ok m i h hn h1 h2 _ N hN hA).mono ?_; rintro e w1 ⟨⟨K, hK, rfl, hv1⟩, hb1⟩; have A1 := hA.below hN hb1; clear d4)
    | (go_at_call 33; refine (next_at m i h hn _ A1).mono ?_; rintro e w2 ⟨rfl, x, rfl⟩; have A2 := A1.drewN x)
    | (go_at_call 30; refine (remove_any m i hi hn _ A2).mono ?_; rintro e w3 ⟨rfl, t3, s3, A3⟩)
    | fail)
  go_ret2
  have hb2 : Below N w (w1.drewN x) := below_drewN hb1 x
  refine ⟨⟨K, hK, rfl, (hv1.drewN x).turn t3 (fun hT => ?_)⟩, turn_low hN hb2 t3, A3⟩
  have := hA.lt hN K (top_foot hT)
  omega
set_option maxRecDepth 100000 in
theorem Pop_no (m : Mp) (ht : m.ty = 3 ∨ m.ty = 4) (hfz : m.fz = false) (hn : m.n = 0) (w : World) (hA : MpAt w m) :
    Calls Try.prog 17 #[.pointer (some ⟨m.b, 0, none⟩)] w fun e w' => e = .returned (.tuple #[.slice none 0 0, .int .i64 2]) ∧ w = w' := by
  have d4 := hA.c4
  rw [hfz] at d4
  clear hfz
  go_enter Try.func17, Try.ntmps17
  go_wp2_with (first
    | (go_at_call 16; refine (Peek_no m ht hn _ hA).mono ?_; rintro e w1 ⟨rfl, rfl⟩)
    | fail)
  go_ret2
  exact ⟨rfl, rfl⟩
end Go.Proofs.Yteicoheihalnnaa
