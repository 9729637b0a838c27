/- BmapFrozen: add, Update of any key, any value, any flags. bmap: next, Push, Peek, Pop. -/
import Derived.Test.YtjdclgnlnehjlaaDoorMgFz5
import Derived.Test.YtjdclgnlnehjlaaDoorMgBm7
import Derived.Test.YtjdclgnlnehjlaaDoorMgBk
namespace Go.Proofs.YtjdclgnlnehjlaaDoor
open Go Go.RowKit
theorem Putted.nx {m : Mp} {N M : Nat} {t : ByteArray} {D : Nat → BitVec 8} {w w' : World} (hm : FInv m) (hNM : N ≤ M) (hn : m.n < m.ent) (ht : t.size ≤ 16) (hk : (m.ty = 3 ∨ m.ty = 4) ∨ KNo m t) (h : Putted m M t D w w') : ∃ m', Nx m w N w' m' := by
  obtain ⟨T, p', cap', A, hp⟩ := h
  exact ⟨m.put p' cap' M t D, SameM.refl m, A, hm.put p' cap' M t D hn ht hk, T.mono (fun x hx => top_foot hx), fun x hx => (foot_put hx hp).imp (fun h => h) (fun h => by omega)⟩
theorem PutLater.nx {m : Mp} {N : Nat} {t : ByteArray} {D : Nat → BitVec 8} {w w' : World} (hm : FInv m) (hn : m.n < m.ent) (ht : t.size ≤ 16) (hk : (m.ty = 3 ∨ m.ty = 4) ∨ KNo m t) (h : PutLater m N t D w w') : ∃ m', Nx m w N w' m' := by
  obtain ⟨M, hM, hP⟩ := h
  exact hP.nx hm hM hn ht hk
theorem foot_put2 {m : Mp} {p' : Option Addr} {cap' N M : Nat} {key : ByteArray} {D : Nat → BitVec 8} {x : Nat} (h : Foot (m.put p' cap' M key D) x) (hNM : N ≤ M) (hp : blk p' = blk m.p ∨ ∀ g, blk p' = some g → N ≤ g) : Foot m x ∨ N ≤ x := by
  rcases h with h | h | ⟨i, hi, h⟩
  · exact .inl (.inl h)
  · rcases hp with hp | hp
    · exact .inl (.inr (.inl (by rw [← hp]; exact h)))
    · exact .inr (hp _ h)
  · have hi : i < m.n + 1 := hi
    by_cases hin : i = m.n
    · right
      simp only [Mp.put, setF, if_pos hin] at h
      omega
    · left
      simp only [Mp.put, setF, if_neg hin] at h
      exact .inr (.inr ⟨i, by omega, h⟩)
theorem kno_del {m : Mp} {t : ByteArray} (h : KNo m t) (k : Nat) (hk : k < m.n) : KNo (m.del k) t := fun i hi => by
  have hi' : i < m.n - 1 := hi
  show (delF m.E k i).k ≠ t
  unfold delF
  split
  · exact h i (by omega)
  · exact h (i + 1) (by omega)
theorem Nx.setv {m m' : Mp} {w w2 w3 : World} {N k : Nat} {X : Nat → BitVec 8} (h : Nx m w N w2 m') (hN : Sz w N) (hk : k < m'.n) (t : Touch (m'.E k).b w2 w3) (v : Has w3 (m'.E k).b 5 m'.val (fun j => By (X j))) : Nx m w N w3 (m'.set k X) :=
  ⟨h.sm, h.at_.setv k hk X t v, h.inv.setv k X, h.turn.trans t.turn (fun j hj hjw => by
    have e : j = (m'.E k).b := hj
    have hl : j < N := by have e2 : w.heap.size = N := hN; omega
    rcases h.ft j (.inr (.inr ⟨k, hk, .inr e⟩)) with h | h
    · exact h
    · omega), fun x hx => h.ft x (foot_set hx)⟩
def ErrNx (m : Mp) (w : World) (N : Nat) (e : Ending) (w' : World) : Prop := ∃ (z : Int) (m' : Mp), e = .returned (.int .i64 z) ∧ Nx m w N w' m'
theorem add_any (m : Mp) (hm : FInv m) (t : ByteArray) (ht : t.size ≤ 16) (hk : KNo m t) (f : Nat) (hf : f ≤ 2) (q : Option Addr) (cq : Nat) (D : Nat → BitVec 8) (w : World) (N : Nat) (hN : Sz w N) (hA : MpAt w m) (hq : Ats w q m.val (fun j => By (D j))) (hqF : ∀ g, blk q = some g → ¬ Foot m g) :
    Calls Tryd.prog 42 #[.pointer (some ⟨m.b, 0, none⟩), .string t, .slice q m.val cq, .int .u64 (f : Int)] w (ErrNx m w N) := by
  have hs := hm.sp
  by_cases h0 : m.ty = 0
  · exact (add_array m t h0 _ _ w hA).mono fun e w' ⟨he, ew⟩ => ⟨7, m, he, by subst ew; exact Nx.stay hN hA hm (Below.refl _ _)⟩
  · by_cases hf2 : f = 2
    · subst hf2
      exact (add_old m t h0 _ w hA).mono fun e w' ⟨he, ew⟩ => ⟨2, m, he, by subst ew; exact Nx.stay hN hA hm (Below.refl _ _)⟩
    · by_cases hn : m.n < m.ent
      · exact (add_new m t f (by omega) h0 hn hs.ent q cq D hs.v1 hs.v64 w N hN hA hq).mono fun e w' ⟨he, hp⟩ => by
          obtain ⟨m', hx⟩ := hp.nx hm hn ht (.inr hk)
          exact ⟨0, m', he, hx⟩
      · by_cases h2 : m.ty = 2
        · have h1 := hs.e1
          have h64 := hs.ent
          have hnn := hs.n
          exact (add_lru m t f (by omega) h2 (by omega) (by omega) (by omega) q cq D hs.v1 hs.v64 w N hN hA hq (fun g hg hT => hqF g hg (top_foot hT))).mono fun e w' ⟨he, T, p', cap', M, hM, A, hp⟩ => by
            have hd := (hm.del 0 (by omega)).put p' cap' M t D (show m.n - 1 < m.ent by omega) ht (.inr (kno_del hk 0 (by omega)))
            refine ⟨0, (m.del 0).put p' cap' M t D, he, SameM.refl m, A, hd, T.mono (fun x hx => top_foot hx), fun x hx => ?_⟩
            rcases foot_put2 (m := m.del 0) hx hM hp with h | h
            · exact .inl (foot_del h (by omega))
            · exact .inr (by omega)
        · exact (add_full m t f (by omega) h0 h2 (by omega) _ w N hN hA).mono fun e w' ⟨he, hb⟩ => ⟨7, m, he, Nx.stay hN hA hm hb⟩
set_option maxRecDepth 100000 in
theorem Upd_any (m : Mp) (hm : FInv m) (hfz : m.fz = false) (D : Nat → BitVec 8) (n : Nat) (q : Option Addr) (c : Nat) (x : Option Addr) (nx cx : Nat) (X : Nat → BitVec 8) (f : Int) (hf0 : 0 ≤ f) (w : World) (N : Nat) (hN : Sz w N) (hA : MpAt w m) (hq : Ats w q n (fun j => By (D j))) (hx : Ats w x nx (fun j => By (X j))) (hxF : ∀ g, blk x = some g → ¬ Foot m g) :
    Calls Tryd.prog 19 #[.pointer (some ⟨m.b, 0, none⟩), .slice q n c, .slice x nx cx, .int .u64 f] w (ErrNx m w N) := by
  have d4 := hA.c4
  rw [hfz] at d4
  clear hfz
  go_enter Tryd.func19, Tryd.ntmps19
  go_wp2_with fail
  refine (keyText_any m hm.sp D n q c _ N hN hA hq).mono ?_
  rintro e w1 ⟨hr, hb1⟩
  obtain ⟨M1, hM1⟩ := sz_some w1
  have L1 := below_sz hb1 hN hM1
  have A1 := hA.below hN hb1
  have x1 := hx.below hN hb1
  clear d4
  rcases hr with rfl | ⟨_, _, _, D', rfl⟩
  · go_wp2_with fail
    go_ret
    exact ⟨22, m, rfl, Nx.stay hN hA hm hb1⟩
  · have d2 := hid A1.c2
    obtain ⟨b1, hb34⟩ : ∃ b, ((nx : Int) != (m.val : Int)) = b := ⟨_, rfl⟩
    have E34 := hid hb34
    obtain ⟨b2, hb38⟩ : ∃ b, decide ((2 : Int) < f) = b := ⟨_, rfl⟩
    have E38 := hid hb38
    clear hb34 hb38
    cases b1 with
    | true =>
      go_wp2_with (first
        | ((with_reducible show wpList _ _ _ (_ :: _) _ _); first
          | (refine wpl_want (by rfl) ?_; refine wpl_run rfl (.int .i64 (nx : Int)) _ (run_lenL (x := .tmp 27) rfl undBB rfl _) ?_; try simp only [pA])
          | (refine wpl_want (by rfl) ?_; refine wpl_run rfl (.int .i64 (m.val : Int)) _ (run_cell1 (x := .tmp 32) 3 rfl rfl undIt rfl d2.out) ?_; try simp only [pA])
          | (refine wpl_want (by rfl) ?_; refine wpl_run rfl (.bool true) _ (run_neqZ (x := .tmp 28) rfl rfl rfl E34.out _) ?_; try simp only [pA])
          | (refine wpl_want (by rfl) ?_; refine wpl_run rfl (.bool b2) _ (run_gtrK (x := .tmp 37) rfl rfl rfl E38.out _) ?_; try simp only [pA]))
        | fail)
      go_ret
      exact ⟨22, m, rfl, Nx.stay hN hA hm hb1⟩
    | false =>
      have env : nx = m.val := by have := E34.out; simp at this; omega
      cases b2 with
      | true =>
        go_wp2_with (first
          | ((with_reducible show wpList _ _ _ (_ :: _) _ _); first
            | (refine wpl_want (by rfl) ?_; refine wpl_run rfl (.int .i64 (nx : Int)) _ (run_lenL (x := .tmp 27) rfl undBB rfl _) ?_; try simp only [pA])
            | (refine wpl_want (by rfl) ?_; refine wpl_run rfl (.int .i64 (m.val : Int)) _ (run_cell1 (x := .tmp 32) 3 rfl rfl undIt rfl d2.out) ?_; try simp only [pA])
            | (refine wpl_want (by rfl) ?_; refine wpl_run rfl (.bool false) _ (run_neqZ (x := .tmp 28) rfl rfl rfl E34.out _) ?_; try simp only [pA])
            | (refine wpl_want (by rfl) ?_; refine wpl_run rfl (.bool true) _ (run_gtrK (x := .tmp 37) rfl rfl rfl E38.out _) ?_; try simp only [pA]))
          | fail)
        go_ret
        exact ⟨22, m, rfl, Nx.stay hN hA hm hb1⟩
      | false =>
        obtain ⟨f', rfl⟩ : ∃ f' : Nat, f = (f' : Int) := ⟨f.toNat, by omega⟩
        have hf2 : f' ≤ 2 := by have := of_decide_eq_false E38.out; omega
        go_wp2_with (first
          | ((with_reducible show wpList _ _ _ (_ :: _) _ _); first
            | (refine wpl_want (by rfl) ?_; refine wpl_run rfl (.int .i64 (nx : Int)) _ (run_lenL (x := .tmp 27) rfl undBB rfl _) ?_; try simp only [pA])
            | (refine wpl_want (by rfl) ?_; refine wpl_run rfl (.int .i64 (m.val : Int)) _ (run_cell1 (x := .tmp 32) 3 rfl rfl undIt rfl d2.out) ?_; try simp only [pA])
            | (refine wpl_want (by rfl) ?_; refine wpl_run rfl (.bool false) _ (run_neqZ (x := .tmp 28) rfl rfl rfl E34.out _) ?_; try simp only [pA])
            | (refine wpl_want (by rfl) ?_; refine wpl_run rfl (.bool false) _ (run_gtrK (x := .tmp 37) rfl rfl rfl E38.out _) ?_; try simp only [pA]))
          | fail)
        subst env
        clear E34 E38 d2
        refine (place_any m hm.sp _ _ M1 hM1 A1).mono ?_
        rintro e w2 ⟨hP, hb2⟩
        obtain ⟨M2, hM2⟩ := sz_some w2
        have L2 := below_sz hb2 hM1 hM2
        have hb02 := hb1.trans (hb2.mono L1)
        have A2 := hA.below hN hb02
        have x2 := hx.below hN hb02
        clear A1 x1 hb1 hb2
        rcases hP with ⟨k, hk, rfl⟩ | ⟨hk, rfl⟩
        · have E44 := hid (show ((k : Int) == -1) = false by rw [beq_eq_false_iff_ne]; omega)
          by_cases hf1 : f' = 1
          · have E51 := hid (show ((f' : Int) == 1) = true by rw [hf1]; rfl)
            go_wp2_with (first
              | ((with_reducible show wpList _ _ _ (_ :: _) _ _); first
                | (refine wpl_run rfl (.bool false) _ (run_eqK (x := .tmp 43) rfl rfl rfl E44.out _) ?_; try simp only [pA])
                | (refine wpl_run rfl (.bool true) _ (run_eqK (x := .tmp 50) rfl rfl rfl E51.out _) ?_; try simp only [pA]))
              | fail)
            go_ret
            exact ⟨17, m, rfl, Nx.stay hN hA hm hb02⟩
          · have E51 := hid (show ((f' : Int) == 1) = false by rw [beq_eq_false_iff_ne]; omega)
            go_wp2_with (first
              | ((with_reducible show wpList _ _ _ (_ :: _) _ _); first
                | (refine wpl_run rfl (.bool false) _ (run_eqK (x := .tmp 43) rfl rfl rfl E44.out _) ?_; try simp only [pA])
                | (refine wpl_run rfl (.bool false) _ (run_eqK (x := .tmp 50) rfl rfl rfl E51.out _) ?_; try simp only [pA]))
              | fail)
            refine (use_any m hm k hk.1 _ M2 hM2 A2).mono ?_
            rintro e w3 ⟨rfl, m', hu, h3⟩
            obtain ⟨k', hk', e'⟩ := hu.at_ hk.1
            have x3 := x2.turn h3.turn hxF
            have hc := h3.at_.c k' hk'
            have hv := h3.at_.v k' hk'
            have ev := h3.sm.2.2.2.1
            go_wp2_with fail
            rw [← e', ← ev]
            rw [← ev] at x3
            refine (set_old (m'.E k').c (m'.E k').b m'.val h3.inv.sp.v1 h3.inv.sp.v64 x cx X (m'.E k').v _ hc hv x3).mono ?_
            rintro e w4 ⟨rfl, t4, v4⟩
            go_wp2_with fail
            go_ret
            exact ⟨0, _, rfl, (h3.pre hN hb02 hM2).setv hN hk' t4 v4⟩
        · go_wp2_with fail
          refine (add_any m hm _ (by rw [strOf_size]; exact hm.sp.key) hk f' hf2 x cx X _ M2 hM2 A2 x2 hxF).mono ?_
          rintro e w3 ⟨z, m', rfl, h3⟩
          go_wp2_with fail
          go_ret
          exact ⟨z, m', rfl, h3.pre hN hb02 hM2⟩
end Go.Proofs.YtjdclgnlnehjlaaDoor
namespace Go.Proofs.YtjdclgnlnehjlaaDoor
open Go Go.RowKit
theorem ret_int {k : IntKind} {a b : Int} (h : a = b) : Ending.returned (.int k a) = .returned (.int k b) := by rw [h]
/-- i is the place of what comes first out of a line. -/
def NextIs (m : Mp) (i : Nat) : Prop := i < m.n ∧ (m.ty = 3 ∧ i = 0 ∨ m.ty = 4 ∧ i + 1 = m.n)
set_option maxRecDepth 100000 in
theorem next_at (m : Mp) (i : Nat) (h : NextIs m i) (hn : m.n ≤ 1000) (w : World) (hA : MpAt w m) :
    Calls Tryd.prog 38 #[.pointer (some ⟨m.b, 0, none⟩)] w fun e w' => e = .returned (.int .i64 (i : Int)) ∧ ∃ x, w' = w.drewN x := by
  obtain ⟨hi, ⟨ht, rfl⟩ | ⟨ht, he⟩⟩ := h
  · have d0 := hA.c0
    rw [ht] at d0
    clear ht
    go_enter Tryd.func38, Tryd.ntmps38
    go_wp2
    go_ret
    exact ⟨rfl, 0, rfl⟩
  · have d0 := hA.c0
    have d5 := hA.c5
    rw [ht] at d0
    clear ht
    have n1 : (1 : Int) ≤ (m.n : Int) := by omega
    have n2 : (m.n : Int) ≤ 1000 := by omega
    have He := hid he
    clear he
    go_enter Tryd.func38, Tryd.ntmps38
    go_wp2
    go_ret
    exact ⟨ret_int (by have := He.out; omega), 0, rfl⟩
set_option maxRecDepth 100000 in
theorem Push_ok (m : Mp) (ht : m.ty = 3 ∨ m.ty = 4) (hfz : m.fz = false) (hn : m.n < m.ent) (he : m.ent ≤ 64) (h1 : 1 ≤ m.val) (h2 : m.val ≤ 64) (x : Option Addr) (cx : Nat) (X : Nat → BitVec 8) (w : World) (N : Nat) (hN : Sz w N) (hA : MpAt w m) (hx : Ats w x m.val (fun j => By (X j))) :
    Calls Tryd.prog 21 #[.pointer (some ⟨m.b, 0, none⟩), .slice x m.val cx, .int .u64 0] w fun e w' => e = .returned (.int .i64 0) ∧ PutLater m N ⟨#[]⟩ X w w' := by
  have d4 := hA.c4
  rw [hfz] at d4
  have d2 := hA.c2
  clear hfz
  have Ht := hid ht
  clear ht
  go_enter Tryd.func21, Tryd.ntmps21
  go_wp2_with (first
    | (go_at_call 37; refine (isLine_yes m Ht.out _ hA).mono ?_; rintro e w1 ⟨rfl, rfl⟩)
    | (go_at_call 45; refine (full_no m hn _ N hN hA).mono ?_; rintro e w1 ⟨rfl, T1, N1⟩; have A1 := hA.below hN T1; have x1 := hx.below hN T1; clear d4 d2)
    | (go_at_call 27; refine (put_any m ⟨#[]⟩ x cx X (by omega) h1 h2 _ N N1 A1 x1).mono ?_; rintro e w2 ⟨rfl, p2⟩)
    | fail)
  go_ret
  exact ⟨rfl, N, Nat.le_refl N, turn_low hN T1 p2.1, p2.2⟩
set_option maxRecDepth 100000 in
theorem Push_full (m : Mp) (ht : m.ty = 3 ∨ m.ty = 4) (hfz : m.fz = false) (hn : m.ent ≤ m.n) (x : Option Addr) (cx : Nat) (w : World) (N : Nat) (hN : Sz w N) (hA : MpAt w m) :
    Calls Tryd.prog 21 #[.pointer (some ⟨m.b, 0, none⟩), .slice x m.val cx, .int .u64 0] w fun e w' => e = .returned (.int .i64 7) ∧ Below N w w' := by
  have d4 := hA.c4
  rw [hfz] at d4
  have d2 := hA.c2
  clear hfz
  have Ht := hid ht
  clear ht
  go_enter Tryd.func21, Tryd.ntmps21
  go_wp2_with (first
    | (go_at_call 37; refine (isLine_yes m Ht.out _ hA).mono ?_; rintro e w1 ⟨rfl, rfl⟩)
    | (go_at_call 45; refine (full_yes m hn _ N hN hA).mono ?_; rintro e w1 ⟨rfl, T1, N1⟩)
    | fail)
  go_ret
  exact ⟨rfl, T1⟩
set_option maxRecDepth 100000 in
set_option maxHeartbeats 1000000 in
theorem Peek_ok (m : Mp) (i : Nat) (h : NextIs m i) (hn : m.n ≤ 1000) (h1 : 1 ≤ m.val) (h2 : m.val ≤ 64) (w : World) (N : Nat) (hN : Sz w N) (hA : MpAt w m) :
    Calls Tryd.prog 17 #[.pointer (some ⟨m.b, 0, none⟩)] w fun e w' => Val N m.val (m.E i).v e w' ∧ Below N w w' := by
  have ht : m.ty = 3 ∨ m.ty = 4 := by rcases h.2 with h | h; exact .inl h.1; exact .inr h.1
  have hi := h.1
  have d5 := hA.c5
  obtain ⟨g, hg⟩ := hA.ptr (by omega)
  have dc : w.cell? ⟨g, i * 2 + 1, none⟩ = some (.pointer (some ⟨(m.E i).c, 0, none⟩)) := hA.at hg i hi 1 (by omega)
  rw [hg] at d5
  clear hg
  have t0 : ((m.n : Int) == 0) = false := by rw [beq_eq_false_iff_ne]; omega
  have i1 : (i : Int) < (m.n : Int) := by omega
  have Ht := hid ht
  clear ht
  go_enter Tryd.func17, Tryd.ntmps17
  go_wp2_with (first
    | (go_at_call 37; refine (isLine_yes m Ht.out _ hA).mono ?_; rintro e w1 ⟨rfl, rfl⟩)
    | fail)
  refine wp_region_quiet_tail 10 (by kernel_rfl) (by kernel_rfl) ?_
  simp only [List.take_succ_cons, List.take_zero, List.drop_succ_cons, List.drop_zero]
  repeat (go_big_quiet_step ((go_at_call 38; exact Calls.quiet_of (next_at m i h hn _ (hA.drewN _)))))
  refine wpQuiet_nil ?_
  intro _ hw'
  obtain ⟨x, rfl⟩ := hw'
  have A1 := hA.drewN x
  have N1 : Sz (w.drewN x) N := hN
  have b1 : Below N w (w.drewN x) := below_drewN (Below.refl _ _) x
  clear d5 dc
  generalize w.drewN x = wx at *
  go_wp2_with (first
    | (go_at_call 35; refine (value_any m (m.E i).c (m.E i).b (m.E i).v h1 h2 _ N N1 A1 (A1.c i hi) (A1.v i hi)).mono ?_; rintro e w2 ⟨rfl, hb2, hN2, hv2⟩)
    | fail)
  go_ret2
  exact ⟨⟨N, Nat.le_refl N, rfl, hv2⟩, b1.trans hb2⟩
set_option maxRecDepth 100000 in
theorem Peek_no (m : Mp) (ht : m.ty = 3 ∨ m.ty = 4) (hn : m.n = 0) (w : World) (hA : MpAt w m) :
    Calls Tryd.prog 17 #[.pointer (some ⟨m.b, 0, none⟩)] w fun e w' => e = .returned (.tuple #[.slice none 0 0, .int .i64 2]) ∧ w = w' := by
  have d5 := hA.c5
  rw [hn] at d5
  clear hn
  have Ht := hid ht
  clear ht
  go_enter Tryd.func17, Tryd.ntmps17
  go_wp2_with (first
    | (go_at_call 37; refine (isLine_yes m Ht.out _ hA).mono ?_; rintro e w1 ⟨rfl, rfl⟩)
    | fail)
  go_ret2
  exact ⟨rfl, rfl⟩
set_option maxRecDepth 100000 in
theorem Pop_ok (m : Mp) (i : Nat) (h : NextIs m i) (hfz : m.fz = false) (hn : m.n ≤ 1000) (h1 : 1 ≤ m.val) (h2 : m.val ≤ 64) (w : World) (N : Nat) (hN : Sz w N) (hA : MpAt w m) :
    Calls Tryd.prog 18 #[.pointer (some ⟨m.b, 0, none⟩)] w fun e w' => Val N m.val (m.E i).v e w' ∧ Turn (Top m) w w' ∧ MpAt w' (m.del i) := by
  have d4 := hA.c4
  rw [hfz] at d4
  have hi := h.1
  clear hfz
  go_enter Tryd.func18, Tryd.ntmps18
  go_wp2_with (first
    | (go_at_call 17; refine (Peek_ok m i h hn h1 h2 _ N hN hA).mono ?_; rintro e w1 ⟨⟨K, hK, rfl, hv1⟩, hb1⟩; have A1 := hA.below hN hb1; clear d4)
    | (go_at_call 38; refine (next_at m i h hn _ A1).mono ?_; rintro e w2 ⟨rfl, x, rfl⟩; have A2 := A1.drewN x)
    | (go_at_call 39; refine (remove_any m i hi hn _ A2).mono ?_; rintro e w3 ⟨rfl, t3, s3, A3⟩)
    | fail)
  go_ret2
  have hb2 : Below N w (w1.drewN x) := below_drewN hb1 x
  refine ⟨⟨K, hK, rfl, (hv1.drewN x).turn t3 (fun hT => ?_)⟩, turn_low hN hb2 t3, A3⟩
  have := hA.lt hN K (top_foot hT)
  omega
set_option maxRecDepth 100000 in
theorem Pop_no (m : Mp) (ht : m.ty = 3 ∨ m.ty = 4) (hfz : m.fz = false) (hn : m.n = 0) (w : World) (hA : MpAt w m) :
    Calls Tryd.prog 18 #[.pointer (some ⟨m.b, 0, none⟩)] w fun e w' => e = .returned (.tuple #[.slice none 0 0, .int .i64 2]) ∧ w = w' := by
  have d4 := hA.c4
  rw [hfz] at d4
  clear hfz
  go_enter Tryd.func18, Tryd.ntmps18
  go_wp2_with (first
    | (go_at_call 17; refine (Peek_no m ht hn _ hA).mono ?_; rintro e w1 ⟨rfl, rfl⟩)
    | fail)
  go_ret2
  exact ⟨rfl, rfl⟩
end Go.Proofs.YtjdclgnlnehjlaaDoor
