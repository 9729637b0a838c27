/- BmapFrozen: Delete, Push, Peek, Pop of any map; what a frozen one tells. BmapFrozen: the document's Right, the law's to, New of every spec. BmapFrozen: the sum of a map, as it was. -/
import Derived.Test.YtjdclgnlnehjlaaDoorMgBm11
namespace Go.Proofs.YtjdclgnlnehjlaaDoor
open Go Go.RowKit
set_option maxRecDepth 100000 in
theorem Del_any (m : Mp) (hm : FInv m) (hfz : m.fz = false) (D : Nat → BitVec 8) (n : Nat) (q : Option Addr) (c : Nat) (w : World) (N : Nat) (hN : Sz w N) (hA : MpAt w m) (hq : Ats w q n (fun j => By (D j))) :
    Calls Tryd.prog 20 #[.pointer (some ⟨m.b, 0, none⟩), .slice q n c] w (ErrNx m w N) := by
  have d4 := hA.c4
  rw [hfz] at d4
  clear hfz
  go_enter Tryd.func20, Tryd.ntmps20
  go_wp2_with fail
  refine (keyText_any m hm.sp D n q c _ N hN hA hq).mono ?_
  rintro e w1 ⟨hr, hb1⟩
  obtain ⟨M1, hM1⟩ := sz_some w1
  have L1 := below_sz hb1 hN hM1
  have A1 := hA.below hN hb1
  clear d4
  rcases hr with rfl | ⟨_, _, _, D', rfl⟩
  · go_wp2_with fail
    go_ret
    exact ⟨22, m, rfl, Nx.stay hN hA hm hb1⟩
  · have d0 := hid A1.c0
    by_cases h0 : m.ty = 0
    · have E28 := hid (show ((m.ty : Int) == 0) = true by rw [h0]; rfl)
      go_wp2_with (first
        | ((with_reducible show wpList _ _ _ (_ :: _) _ _); first
          | (refine wpl_want (by rfl) ?_; refine wpl_run rfl (.int .i64 (m.ty : Int)) _ (run_cell1 (x := .tmp 26) 3 rfl rfl undIt rfl d0.out) ?_; try simp only [pA])
          | (refine wpl_want (by rfl) ?_; refine wpl_run rfl (.bool true) _ (run_eqK (x := .tmp 27) rfl rfl rfl E28.out _) ?_; try simp only [pA]))
        | fail)
      go_ret
      exact ⟨22, m, rfl, Nx.stay hN hA hm hb1⟩
    · have E28 := hid (show ((m.ty : Int) == 0) = false by rw [beq_eq_false_iff_ne]; omega)
      go_wp2_with (first
        | ((with_reducible show wpList _ _ _ (_ :: _) _ _); first
          | (refine wpl_want (by rfl) ?_; refine wpl_run rfl (.int .i64 (m.ty : Int)) _ (run_cell1 (x := .tmp 26) 3 rfl rfl undIt rfl d0.out) ?_; try simp only [pA])
          | (refine wpl_want (by rfl) ?_; refine wpl_run rfl (.bool false) _ (run_eqK (x := .tmp 27) rfl rfl rfl E28.out _) ?_; try simp only [pA]))
        | fail)
      refine (place_any m hm.sp _ _ M1 hM1 A1).mono ?_
      rintro e w2 ⟨hP, hb2⟩
      obtain ⟨M2, hM2⟩ := sz_some w2
      have hb02 := hb1.trans (hb2.mono L1)
      have A2 := hA.below hN hb02
      clear A1 hb1 hb2 d0 E28
      rcases hP with ⟨k, hk, rfl⟩ | ⟨hk, rfl⟩
      · have E34 := hid (show ((k : Int) == -1) = false by rw [beq_eq_false_iff_ne]; omega)
        go_wp2_with (first
          | ((with_reducible show wpList _ _ _ (_ :: _) _ _); first
            | (refine wpl_run rfl (.bool false) _ (run_eqK (x := .tmp 33) rfl rfl rfl E34.out _) ?_; try simp only [pA]))
          | fail)
        refine (remove_any m k hk.1 hm.sp.n1000 _ A2).mono ?_
        rintro e w3 ⟨rfl, T, _, A3⟩
        go_wp2_with fail
        go_ret
        refine ⟨0, _, rfl, (Nx.pre (m' := m.del k) hN hb02 hM2 ⟨SameM.refl m, A3, hm.del k hk.1, T.mono (fun x hx => top_foot hx), fun x hx => .inl (foot_del hx hk.1)⟩)⟩
      · go_wp2_with fail
        go_ret
        exact ⟨2, m, rfl, Nx.stay hN hA hm hb02⟩
set_option maxRecDepth 100000 in
theorem Push_any (m : Mp) (hm : FInv m) (hfz : m.fz = false) (x : Option Addr) (nx cx : Nat) (X : Nat → BitVec 8) (f : Int) (w : World) (N : Nat) (hN : Sz w N) (hA : MpAt w m) (hx : Ats w x nx (fun j => By (X j))) :
    Calls Tryd.prog 21 #[.pointer (some ⟨m.b, 0, none⟩), .slice x nx cx, .int .u64 f] w (ErrNx m w N) := by
  have hs := hm.sp
  by_cases hl : m.ty = 3 ∨ m.ty = 4
  · by_cases hv : nx = m.val
    · by_cases hf : f = 0
      · subst hf hv
        by_cases hn : m.n < m.ent
        · exact (Push_ok m hl hfz hn hs.ent hs.v1 hs.v64 x cx X w N hN hA hx).mono fun e w' ⟨he, hp⟩ => by
            obtain ⟨m', h⟩ := hp.nx hm hn (by decide) (.inl hl)
            exact ⟨0, m', he, h⟩
        · exact (Push_full m hl hfz (by omega) x cx w N hN hA).mono fun e w' ⟨he, hb⟩ => ⟨7, m, he, Nx.stay hN hA hm hb⟩
      · have d4 := hA.c4
        rw [hfz] at d4
        have d2 := hid hA.c2
        have E24 := hid (show ((nx : Int) != (m.val : Int)) = false by rw [hv]; simp)
        have E28 := hid (show (f != 0) = true from bne_iff_ne.2 hf)
        clear hfz hv
        go_enter Tryd.func21, Tryd.ntmps21
        go_wp2_with (first
          | (go_at_call 37; refine (isLine_yes m hl _ hA).mono ?_; rintro e w1 ⟨rfl, rfl⟩)
          | ((with_reducible show wpList _ _ _ (_ :: _) _ _); first
            | (refine wpl_want (by rfl) ?_; refine wpl_run rfl (.int .i64 (nx : Int)) _ (run_lenL (x := .tmp 17) rfl undBB rfl _) ?_; try simp only [pA])
            | (refine wpl_want (by rfl) ?_; refine wpl_run rfl (.int .i64 (m.val : Int)) _ (run_cell1 (x := .tmp 22) 3 rfl rfl undIt rfl d2.out) ?_; try simp only [pA])
            | (refine wpl_want (by rfl) ?_; refine wpl_run rfl (.bool false) _ (run_neqZ (x := .tmp 18) rfl rfl rfl E24.out _) ?_; try simp only [pA])
            | (refine wpl_want (by rfl) ?_; refine wpl_run rfl (.bool true) _ (run_neqU (x := .tmp 27) rfl rfl rfl E28.out _) ?_; try simp only [pA]))
          | fail)
        go_ret
        exact ⟨22, m, rfl, Nx.stay hN hA hm (Below.refl _ _)⟩
    · have d4 := hA.c4
      rw [hfz] at d4
      have d2 := hid hA.c2
      have E24 := hid (show ((nx : Int) != (m.val : Int)) = true by rw [bne_iff_ne]; omega)
      clear hfz hv
      go_enter Tryd.func21, Tryd.ntmps21
      go_wp2_with (first
        | (go_at_call 37; refine (isLine_yes m hl _ hA).mono ?_; rintro e w1 ⟨rfl, rfl⟩)
        | ((with_reducible show wpList _ _ _ (_ :: _) _ _); first
          | (refine wpl_want (by rfl) ?_; refine wpl_run rfl (.int .i64 (nx : Int)) _ (run_lenL (x := .tmp 17) rfl undBB rfl _) ?_; try simp only [pA])
          | (refine wpl_want (by rfl) ?_; refine wpl_run rfl (.int .i64 (m.val : Int)) _ (run_cell1 (x := .tmp 22) 3 rfl rfl undIt rfl d2.out) ?_; try simp only [pA])
          | (refine wpl_want (by rfl) ?_; refine wpl_run rfl (.bool true) _ (run_neqZ (x := .tmp 18) rfl rfl rfl E24.out _) ?_; try simp only [pA]))
        | fail)
      go_ret
      exact ⟨22, m, rfl, Nx.stay hN hA hm (Below.refl _ _)⟩
  · have d4 := hA.c4
    rw [hfz] at d4
    have h3 : m.ty ≠ 3 := fun h => hl (.inl h)
    have h4 : m.ty ≠ 4 := fun h => hl (.inr h)
    clear hfz
    go_enter Tryd.func21, Tryd.ntmps21
    go_wp2_with (first
      | (go_at_call 37; refine (isLine_no m h3 h4 _ hA).mono ?_; rintro e w1 ⟨rfl, rfl⟩)
      | fail)
    go_ret
    exact ⟨22, m, rfl, Nx.stay hN hA hm (Below.refl _ _)⟩
def PeekR (m : Mp) (N : Nat) (e : Ending) (w' : World) : Prop := (∃ z : Int, z ≠ 0 ∧ e = .returned (.tuple #[.slice none 0 0, .int .i64 z])) ∨ ∃ D, Val N m.val D e w'
theorem next_or (m : Mp) (hl : m.ty = 3 ∨ m.ty = 4) (h0 : m.n ≠ 0) : ∃ i, NextIs m i := by
  rcases hl with h | h
  · exact ⟨0, by omega, .inl ⟨h, rfl⟩⟩
  · exact ⟨m.n - 1, by omega, .inr ⟨h, by omega⟩⟩
set_option maxRecDepth 100000 in
theorem Peek_any (m : Mp) (hs : Sp m) (w : World) (N : Nat) (hN : Sz w N) (hA : MpAt w m) :
    Calls Tryd.prog 17 #[.pointer (some ⟨m.b, 0, none⟩)] w fun e w' => PeekR m N e w' ∧ Below N w w' := by
  by_cases hl : m.ty = 3 ∨ m.ty = 4
  · by_cases h0 : m.n = 0
    · exact (Peek_no m hl h0 w hA).mono fun e w' ⟨he, ew⟩ => ⟨.inl ⟨2, by decide, he⟩, by subst ew; exact Below.refl _ _⟩
    · obtain ⟨i, hi⟩ := next_or m hl h0
      exact (Peek_ok m i hi hs.n1000 hs.v1 hs.v64 w N hN hA).mono fun e w' ⟨hv, hb⟩ => ⟨.inr ⟨_, hv⟩, hb⟩
  · have h3 : m.ty ≠ 3 := fun h => hl (.inl h)
    have h4 : m.ty ≠ 4 := fun h => hl (.inr h)
    go_enter Tryd.func17, Tryd.ntmps17
    go_wp2_with (first
      | (go_at_call 37; refine (isLine_no m h3 h4 _ hA).mono ?_; rintro e w1 ⟨rfl, rfl⟩)
      | fail)
    go_ret2
    exact ⟨.inl ⟨22, by decide, rfl⟩, Below.refl _ _⟩
def PopN (m : Mp) (w : World) (N : Nat) (e : Ending) (w' : World) : Prop := PeekR m N e w' ∧ ∃ m', Nx m w N w' m'
set_option maxRecDepth 100000 in
theorem Pop_any (m : Mp) (hm : FInv m) (hfz : m.fz = false) (w : World) (N : Nat) (hN : Sz w N) (hA : MpAt w m) :
    Calls Tryd.prog 18 #[.pointer (some ⟨m.b, 0, none⟩)] w (PopN m w N) := by
  have hs := hm.sp
  by_cases hl : m.ty = 3 ∨ m.ty = 4
  · by_cases h0 : m.n = 0
    · exact (Pop_no m hl hfz h0 w hA).mono fun e w' ⟨he, ew⟩ => ⟨.inl ⟨2, by decide, he⟩, m, by subst ew; exact Nx.stay hN hA hm (Below.refl _ _)⟩
    · obtain ⟨i, hi⟩ := next_or m hl h0
      exact (Pop_ok m i hi hfz hs.n1000 hs.v1 hs.v64 w N hN hA).mono fun e w' ⟨hv, T, A⟩ => ⟨.inr ⟨_, hv⟩, m.del i, SameM.refl m, A, hm.del i hi.1, T.mono (fun x hx => top_foot hx), fun x hx => .inl (foot_del hx hi.1)⟩
  · have h3 : m.ty ≠ 3 := fun h => hl (.inl h)
    have h4 : m.ty ≠ 4 := fun h => hl (.inr h)
    have d4 := hA.c4
    rw [hfz] at d4
    clear hfz
    have hpk : Calls Tryd.prog 17 #[.pointer (some ⟨m.b, 0, none⟩)] w fun e w' => e = .returned (.tuple #[.slice none 0 0, .int .i64 22]) ∧ w = w' := by
      clear d4
      go_enter Tryd.func17, Tryd.ntmps17
      go_wp2_with (first
        | (go_at_call 37; refine (isLine_no m h3 h4 _ hA).mono ?_; rintro e w1 ⟨rfl, rfl⟩)
        | fail)
      go_ret2
      exact ⟨rfl, rfl⟩
    go_enter Tryd.func18, Tryd.ntmps18
    go_wp2_with (first
      | (go_at_call 17; refine hpk.mono ?_; rintro e w1 ⟨rfl, rfl⟩)
      | fail)
    go_ret2
    exact ⟨.inl ⟨22, by decide, rfl⟩, m, Nx.stay hN hA hm (Below.refl _ _)⟩
section
variable (m : Mp) (hfz : m.fz = true) (w : World) (hA : MpAt w m)
include hfz hA
set_option maxRecDepth 100000 in
theorem Del_frozen (a : Value) : Calls Tryd.prog 20 #[.pointer (some ⟨m.b, 0, none⟩), a] w fun e w' => e = .returned (.int .i64 1) ∧ w = w' := by
  have d4 := hA.c4
  rw [hfz] at d4
  go_enter Tryd.func20, Tryd.ntmps20
  go_wp2
  go_ret
  exact ⟨rfl, rfl⟩
set_option maxRecDepth 100000 in
theorem Push_frozen (a f : Value) : Calls Tryd.prog 21 #[.pointer (some ⟨m.b, 0, none⟩), a, f] w fun e w' => e = .returned (.int .i64 1) ∧ w = w' := by
  have d4 := hA.c4
  rw [hfz] at d4
  go_enter Tryd.func21, Tryd.ntmps21
  go_wp2
  go_ret
  exact ⟨rfl, rfl⟩
set_option maxRecDepth 100000 in
theorem Pop_frozen : Calls Tryd.prog 18 #[.pointer (some ⟨m.b, 0, none⟩)] w fun e w' => e = .returned (.tuple #[.slice none 0 0, .int .i64 1]) ∧ w = w' := by
  have d4 := hA.c4
  rw [hfz] at d4
  go_enter Tryd.func18, Tryd.ntmps18
  go_wp2
  go_ret2
  exact ⟨rfl, rfl⟩
set_option maxRecDepth 100000 in
theorem Freeze_frozen : Calls Tryd.prog 12 #[.pointer (some ⟨m.b, 0, none⟩)] w fun e w' => e = .returned (.int .i64 16) ∧ w = w' := by
  have d4 := hA.c4
  rw [hfz] at d4
  go_enter Tryd.func12, Tryd.ntmps12
  go_wp2
  go_ret
  exact ⟨rfl, rfl⟩
end
end Go.Proofs.YtjdclgnlnehjlaaDoor
namespace Go.Proofs.YtjdclgnlnehjlaaDoor
open Go Go.RowKit
def sp4 (a b c d : Int) : Nat → Value := fun j => if j = 0 then .int .i64 a else if j = 1 then .int .i64 b else if j = 2 then .int .i64 c else .int .i64 d
def RightS (a b c d : Int) : Prop := 0 ≤ a ∧ a ≤ 5 ∧ 1 ≤ c ∧ c ≤ 64 ∧ 1 ≤ d ∧ d ≤ 64 ∧ (a = 0 → b = 4) ∧ (a = 1 ∨ a = 2 → 1 ≤ b ∧ b ≤ 16) ∧ (a = 5 → 5 ≤ b ∧ b ≤ 16) ∧ (a = 3 ∨ a = 4 → b = 0)
def RightR (a b c d : Int) (e : Ending) : Prop := ∃ r, e = .returned (.bool r) ∧ (r = true → RightS a b c d)
set_option maxRecDepth 100000 in
set_option maxHeartbeats 8000000 in
theorem Right_any (a b c d : Int) (w : World) (N : Nat) (hN : Sz w N) :
    Calls Tryd.prog 6 #[.agg (cellsOf (sp4 a b c d) 4)] w fun e w' => RightR a b c d e ∧ Below N w w' := by
  go_enter Tryd.func6, Tryd.ntmps6
  go_upto_region 1 with (first
    | (refine wpl_box rfl 23 (.tmp 0) rfl 4 (sp4 a b c d) rfl N hN ?_; intro w1 hM1 b1 k1)
    | fail)
  have c0 : w1.cell? ⟨N, 0, none⟩ = some (.int .i64 a) := k1.cell (j := 0) (by omega)
  have c1 : w1.cell? ⟨N, 1, none⟩ = some (.int .i64 b) := k1.cell (j := 1) (by omega)
  have c2 : w1.cell? ⟨N, 2, none⟩ = some (.int .i64 c) := k1.cell (j := 2) (by omega)
  have c3 : w1.cell? ⟨N, 3, none⟩ = some (.int .i64 d) := k1.cell (j := 3) (by omega)
  clear k1
  have no : (false = true → RightS a b c d) := fun h => by cases h
  by_cases h1 : a < 0
  · go_wp2
    go_ret
    exact ⟨⟨_, rfl, no⟩, b1⟩
  by_cases h2 : 5 < a
  · go_wp2
    go_ret
    exact ⟨⟨_, rfl, no⟩, b1⟩
  by_cases h3 : c < 1
  · go_wp2
    go_ret
    exact ⟨⟨_, rfl, no⟩, b1⟩
  by_cases h4 : 64 < c
  · go_wp2
    go_ret
    exact ⟨⟨_, rfl, no⟩, b1⟩
  by_cases h5 : d < 1
  · go_wp2
    go_ret
    exact ⟨⟨_, rfl, no⟩, b1⟩
  by_cases h6 : 64 < d
  · go_wp2
    go_ret
    exact ⟨⟨_, rfl, no⟩, b1⟩
  by_cases e0 : a = 0
  · subst e0
    go_wp2
    go_ret
    exact ⟨⟨_, rfl, fun h => ⟨by omega, by omega, by omega, by omega, by omega, by omega, fun _ => by simpa using h, fun h => by omega, fun h => by omega, fun h => by omega⟩⟩, b1⟩
  by_cases e1 : a = 1
  · subst e1
    by_cases l1 : 1 ≤ b
    · by_cases l2 : b ≤ 16
      · go_wp2
        go_ret
        exact ⟨⟨_, rfl, fun _ => ⟨by omega, by omega, by omega, by omega, by omega, by omega, fun h => by omega, fun _ => ⟨l1, l2⟩, fun h => by omega, fun h => by omega⟩⟩, b1⟩
      · go_wp2
        go_ret
        exact ⟨⟨_, rfl, no⟩, b1⟩
    · go_wp2
      go_ret
      exact ⟨⟨_, rfl, no⟩, b1⟩
  by_cases e2 : a = 2
  · subst e2
    by_cases l1 : 1 ≤ b
    · by_cases l2 : b ≤ 16
      · go_wp2
        go_ret
        exact ⟨⟨_, rfl, fun _ => ⟨by omega, by omega, by omega, by omega, by omega, by omega, fun h => by omega, fun _ => ⟨l1, l2⟩, fun h => by omega, fun h => by omega⟩⟩, b1⟩
      · go_wp2
        go_ret
        exact ⟨⟨_, rfl, no⟩, b1⟩
    · go_wp2
      go_ret
      exact ⟨⟨_, rfl, no⟩, b1⟩
  by_cases e5 : a = 5
  · subst e5
    by_cases l1 : 5 ≤ b
    · by_cases l2 : b ≤ 16
      · go_wp2
        go_ret
        exact ⟨⟨_, rfl, fun _ => ⟨by omega, by omega, by omega, by omega, by omega, by omega, fun h => by omega, fun h => by omega, fun _ => ⟨l1, l2⟩, fun h => by omega⟩⟩, b1⟩
      · go_wp2
        go_ret
        exact ⟨⟨_, rfl, no⟩, b1⟩
    · go_wp2
      go_ret
      exact ⟨⟨_, rfl, no⟩, b1⟩
  · have f0 : (a == 0) = false := beq_eq_false_iff_ne.2 e0
    have f1 : (a == 1) = false := beq_eq_false_iff_ne.2 e1
    have f2 : (a == 2) = false := beq_eq_false_iff_ne.2 e2
    have f5 : (a == 5) = false := beq_eq_false_iff_ne.2 e5
    go_wp2
    go_ret
    exact ⟨⟨_, rfl, fun h => ⟨by omega, by omega, by omega, by omega, by omega, by omega, fun h => by omega, fun h => by omega, fun h => by omega, fun _ => by simpa using h⟩⟩, b1⟩
theorem RightS.nat {a b c d : Int} (h : RightS a b c d) : ∃ ty key val ent : Nat, a = (ty : Int) ∧ b = (key : Int) ∧ c = (val : Int) ∧ d = (ent : Int) ∧ SpecOk ty key val ent := by
  obtain ⟨h1, h2, h3, h4, h5, h6, k0, k1, k5, k3⟩ := h
  have hb : 0 ≤ b ∧ b ≤ 16 := by
    rcases (show a = 0 ∨ (a = 1 ∨ a = 2) ∨ a = 5 ∨ (a = 3 ∨ a = 4) by omega) with e | e | e | e
    · have := k0 e; omega
    · have := k1 e; omega
    · have := k5 e; omega
    · have := k3 e; omega
  refine ⟨a.toNat, b.toNat, c.toNat, d.toNat, by omega, by omega, by omega, by omega, ?_, by omega, by omega, by omega, by omega⟩
  rcases (show a = 0 ∨ a = 1 ∨ a = 2 ∨ a = 3 ∨ a = 4 ∨ a = 5 by omega) with e | e | e | e | e | e <;> subst e
  · have := k0 rfl; exact ⟨4, 4, .inl ⟨rfl, rfl, rfl⟩, by omega, by omega⟩
  · have := k1 (.inl rfl); exact ⟨1, 16, .inr (.inl ⟨rfl, rfl, rfl⟩), by omega, by omega⟩
  · have := k1 (.inr rfl); exact ⟨1, 16, .inr (.inr (.inl ⟨rfl, rfl, rfl⟩)), by omega, by omega⟩
  · have := k3 (.inl rfl); exact ⟨0, 0, .inr (.inr (.inr (.inl ⟨rfl, rfl, rfl⟩))), by omega, by omega⟩
  · have := k3 (.inr rfl); exact ⟨0, 0, .inr (.inr (.inr (.inr (.inl ⟨rfl, rfl, rfl⟩)))), by omega, by omega⟩
  · have := k5 rfl; exact ⟨5, 16, .inr (.inr (.inr (.inr (.inr ⟨rfl, rfl, rfl⟩)))), by omega, by omega⟩
/-- A map that is new. -/
def NewF (ty key val ent : Nat) (N : Nat) (w : World) (e : Ending) (w' : World) : Prop := ∃ m, e = .returned (.tuple #[.pointer (some ⟨m.b, 0, none⟩), .int .i64 0]) ∧ MpAt w' m ∧ FInv m ∧ m.fz = false ∧ m.ty = ty ∧ m.key = key ∧ m.val = val ∧ m.ent = ent ∧ Below N w w' ∧ ∀ x, Foot m x → N ≤ x
theorem New_any (ty key val ent : Nat) (h : SpecOk ty key val ent) (w : World) (N : Nat) (hN : Sz w N) :
    Calls Tryd.prog 7 #[spV ty key val ent] w (NewF ty key val ent N w) := by
  have h' := h
  obtain ⟨⟨lo, hi, hz, hl, hh⟩, v1, v64, e1, e64⟩ := h'
  have hty : ty ≤ 5 ∧ key ≤ 16 ∧ (ty = 5 → 4 ≤ key) ∧ (ty = 3 ∨ ty = 4 → key = 0) ∧ (ty = 0 → key = 4) := by
    unfold Sizes at hz
    omega
  obtain ⟨t5, k16, k5, k3, k0⟩ := hty
  by_cases h0 : ty = 0
  · subst h0
    obtain rfl := k0 rfl
    refine (New_array val ent v1 v64 e1 e64 w N hN).mono ?_
    rintro e w' ⟨b, m, hb, rfl, A⟩
    have hn := A.en
    refine ⟨m, by rw [A.eb], A.at_, ⟨⟨by rw [A.ety]; omega, by rw [A.ekey]; omega, fun h => by rw [A.ety] at h; omega, fun h => by rw [A.ety] at h; omega, by rw [A.eval]; exact v1, by rw [A.eval]; exact v64, by rw [A.eent]; exact e1, by rw [A.eent]; exact e64, by rw [A.eent]; omega⟩, fun i hi => ?_, fun _ _ i j hi hj e => ?_⟩, A.efz, A.ety, A.ekey, A.eval, A.eent, A.bel, A.lo⟩
    · rw [A.ks i (by omega)]
      show (strOf _ 4).size ≤ 16
      rw [strOf_size]; omega
    · rw [A.ks i (by omega), A.ks j (by omega)] at e
      exact key4_inj (by omega) (by omega) e
  · refine (New_plain ty key val ent h h0 w N hN).mono ?_
    rintro e w' ⟨⟨b, hb, rfl, A⟩, bl⟩
    refine ⟨mp0 ty key val ent b, rfl, A, ⟨⟨t5, k16, k5, k3, v1, v64, e1, e64, Nat.zero_le _⟩, fun i hi => absurd hi (Nat.not_lt_zero i), fun _ _ i _ hi => absurd hi (Nat.not_lt_zero i)⟩, rfl, rfl, rfl, rfl, rfl, bl, fun x hx => ?_⟩
    rcases hx with hx | hx | ⟨i, hi, _⟩
    · rw [hx]; exact hb
    · cases hx
    · exact absurd hi (Nat.not_lt_zero i)
end Go.Proofs.YtjdclgnlnehjlaaDoor
namespace Go.Proofs.YtjdclgnlnehjlaaDoor
open Go Go.RowKit Go.Sort
theorem sp_sum {m : Mp} (hm : FInv m) : SumOk m := ⟨hm.sp.ty, hm.sp.key, hm.sp.v1, hm.sp.v64, hm.sp.ent, by have := hm.sp.n; have := hm.sp.ent; omega, hm.k⟩
def sumF (m : Mp) : Nat → BitVec 8 := if m.ty = 3 ∨ m.ty = 4 then sumD m m.E else sumD m (can m)
theorem MSumF {m : Mp} {w : World} {N : Nat} (hm : FInv m) (hA : MpAt w m) (hN : Sz w N) (hT : Tabs w) : Calls Tryd.prog 11 #[.pointer (some ⟨m.b, 0, none⟩)] w fun e w' => e = .returned (.agg (cellsOf (fun j => By (sumF m j)) 32)) ∧ Below N w w' := by
  refine (MSum_any m (sp_sum hm) w N hN hT hA).mono ?_
  rintro e w' ⟨E', ho, rfl, hb⟩
  refine ⟨?_, hb⟩
  have e : sumD m E' = sumF m := by
    unfold sumF
    by_cases hl : m.ty = 3 ∨ m.ty = 4
    · rw [if_pos hl, ho.2 hl]
    · rw [if_neg hl]
      have h : m.ty ≠ 3 ∧ m.ty ≠ 4 := ⟨fun e => hl (.inl e), fun e => hl (.inr e)⟩
      exact sum_perm rfl rfl rfl rfl rfl rfl (ho.1 h) ((can_ord m h).1 h) (List.Perm.refl _) (hm.dis h.1 h.2)
  rw [e]
theorem sumF_no {m : Mp} (h : m.ty ≠ 3 ∧ m.ty ≠ 4) : sumF m = sumD m (can m) := if_neg (by omega)
def ixU (n k : Nat) : Nat → Nat := fun i => if i = n - 1 then k else if i < k then i else i + 1
theorem useE (m : Mp) (k i : Nat) : (m.use k).E i = m.E (ixU m.n k i) := by
  show setF (delF m.E k) (m.n - 1) (m.E k) i = m.E (if i = m.n - 1 then k else if i < k then i else i + 1)
  by_cases e : i = m.n - 1
  · rw [if_pos e, e, setF_self]
  · rw [if_neg e, setF_ne _ _ _ e]
    unfold delF
    split <;> rfl
theorem kv_nodup {m : Mp} (h : FInv m) (hl : m.ty ≠ 3 ∧ m.ty ≠ 4) (v : Nat) : ((List.range m.n).map (fun i => kv v (m.E i))).Nodup := by
  rw [List.nodup_iff_pairwise_ne, List.pairwise_map]
  refine List.Pairwise.imp_of_mem (fun {i j} hi hj hne => fun e => hne ?_) (List.nodup_iff_pairwise_ne.1 List.nodup_range)
  have e1 : (m.E i).k = (m.E j).k := congrArg Prod.fst e
  exact h.dis hl.1 hl.2 i j (List.mem_range.1 hi) (List.mem_range.1 hj) e1
theorem sumF_use {m m' : Mp} {k : Nat} (hm : FInv m) (hk : k < m.n) (h : UseOf m k m') : sumF m' = sumF m := by
  rcases h with ⟨_, rfl⟩ | ⟨h2, rfl⟩
  · rfl
  · have hl : m.ty ≠ 3 ∧ m.ty ≠ 4 := by omega
    have hm' := hm.use k hk
    have hl' : (m.use k).ty ≠ 3 ∧ (m.use k).ty ≠ 4 := hl
    rw [sumF_no hl, sumF_no hl']
    refine sum_perm (m1 := m.use k) (m2 := m) (n := m.n) rfl rfl rfl rfl rfl rfl ((can_ord (m.use k) hl').1 hl') ((can_ord m hl).1 hl) ?_ (hm'.dis hl'.1 hl'.2)
    refine (List.perm_ext_iff_of_nodup (kv_nodup hm' hl' _) (kv_nodup hm hl _)).2 (fun x => ?_)
    rw [List.mem_map, List.mem_map]
    constructor
    · rintro ⟨i, hi, rfl⟩
      have hi' : i < m.n := List.mem_range.1 hi
      refine ⟨ixU m.n k i, List.mem_range.2 ?_, by rw [useE]⟩
      unfold ixU
      split; omega; split <;> omega
    · rintro ⟨j, hj, rfl⟩
      have hj' : j < m.n := List.mem_range.1 hj
      by_cases e : j = k
      · refine ⟨m.n - 1, List.mem_range.2 (show m.n - 1 < m.n by omega), ?_⟩
        show kv _ ((m.use k).E (m.n - 1)) = _
        rw [useE]; unfold ixU; rw [if_pos rfl, e]
      · by_cases e2 : j < k
        · refine ⟨j, List.mem_range.2 hj', ?_⟩
          show kv _ ((m.use k).E j) = _
          rw [useE]; unfold ixU; rw [if_neg (by omega), if_pos e2]
        · refine ⟨j - 1, List.mem_range.2 (show j - 1 < m.n by omega), ?_⟩
          show kv _ ((m.use k).E (j - 1)) = _
          rw [useE]; unfold ixU; rw [if_neg (by omega), if_neg (by omega), show j - 1 + 1 = j by omega]
end Go.Proofs.YtjdclgnlnehjlaaDoor
