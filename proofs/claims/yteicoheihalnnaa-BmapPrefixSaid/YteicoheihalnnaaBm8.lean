/- bmap: the other ways of Update; Delete. -/
import Derived.Test.YteicoheihalnnaaBm7
namespace Go.Proofs.Yteicoheihalnnaa
open Go Go.RowKit
set_option maxRecDepth 100000 in
theorem Upd_full (m : Mp) (D : Nat → BitVec 8) (t : ByteArray) (hK : KeyIs m D t) (hfz : m.fz = false) (h0 : m.ty ≠ 0) (ht : m.ty ≠ 2) (hk : KNo m t) (f : Nat) (hf : f ≤ 1) (hf2 : m.ent ≤ m.n) (hn : m.n ≤ 1000) (q : Option Addr) (c : Nat) (x : Option Addr) (cx : Nat) 
    (w : World) (N : Nat) (hN : Sz w N) (hA : MpAt w m) (hq : Ats w q m.key (fun j => By (D j))) :
    Calls Try.prog 10 #[.pointer (some ⟨m.b, 0, none⟩), .slice q m.key c, .slice x m.val cx, .int .u64 (f : Int)] w fun e w' => e = .returned (.int .i64 7) ∧ Below N w w' := by
  have d4 := hA.c4
  rw [hfz] at d4
  have tf : decide ((2 : Int) < (f : Int)) = false := by rw [decide_eq_false_iff_not]; omega
  have tf' : ¬ ((2 : Int) < (f : Int)) := by omega
  have Hk := hid hk
  clear hk hfz
  go_enter Try.func10, Try.ntmps10
  go_wp2_with (first
    | (go_at_call 23; refine (keyText_ok m D t hK q c _ N hN hA hq).mono ?_; rintro e w1 ⟨rfl, hb1⟩; obtain ⟨M1, hM1⟩ := sz_some w1; have L1 := below_sz hb1 hN hM1; have A1 := hA.below hN hb1; have d2 := A1.c2; clear d4)
    | (go_at_call 24; refine (place_no m t Hk.out hn _ M1 hM1 A1).mono ?_; rintro e w2 ⟨rfl, hb2⟩; have A2 := A1.below hM1 hb2; obtain ⟨M2, hM2⟩ := sz_some w2; clear d2)
    | (go_at_call 25; refine (add_full m t f hf h0 ht hf2 _ _ M2 hM2 A2).mono ?_; rintro e w3 ⟨rfl, hb3⟩)
    | fail)
  go_ret
  exact ⟨rfl, (hb1.trans (hb2.mono L1)).trans (hb3.mono (by have := below_sz hb2 hM1 hM2; omega))⟩
set_option maxRecDepth 100000 in
theorem Upd_none (m : Mp) (D : Nat → BitVec 8) (t : ByteArray) (hK : KeyIs m D t) (hfz : m.fz = false) (h0 : m.ty ≠ 0) (hk : KNo m t) (hn : m.n ≤ 1000) (q : Option Addr) (c : Nat) (x : Option Addr) (cx : Nat) 
    (w : World) (N : Nat) (hN : Sz w N) (hA : MpAt w m) (hq : Ats w q m.key (fun j => By (D j))) :
    Calls Try.prog 10 #[.pointer (some ⟨m.b, 0, none⟩), .slice q m.key c, .slice x m.val cx, .int .u64 2] w fun e w' => e = .returned (.int .i64 2) ∧ Below N w w' := by
  have d4 := hA.c4
  rw [hfz] at d4
  have Hk := hid hk
  clear hk hfz
  go_enter Try.func10, Try.ntmps10
  go_wp2_with (first
    | (go_at_call 23; refine (keyText_ok m D t hK q c _ N hN hA hq).mono ?_; rintro e w1 ⟨rfl, hb1⟩; obtain ⟨M1, hM1⟩ := sz_some w1; have L1 := below_sz hb1 hN hM1; have A1 := hA.below hN hb1; have d2 := A1.c2; clear d4)
    | (go_at_call 24; refine (place_no m t Hk.out hn _ M1 hM1 A1).mono ?_; rintro e w2 ⟨rfl, hb2⟩; have A2 := A1.below hM1 hb2; obtain ⟨M2, hM2⟩ := sz_some w2; clear d2)
    | (go_at_call 25; refine (add_old m t h0 _ _ A2).mono ?_; rintro e w3 ⟨rfl, rfl⟩)
    | fail)
  go_ret
  exact ⟨rfl, hb1.trans (hb2.mono L1)⟩
set_option maxRecDepth 100000 in
theorem Upd_array (m : Mp) (D : Nat → BitVec 8) (t : ByteArray) (hK : KeyIs m D t) (hfz : m.fz = false) (h0 : m.ty = 0) (hk : KNo m t) (f : Nat) (hf : f ≤ 2) (hn : m.n ≤ 1000) (q : Option Addr) (c : Nat) (x : Option Addr) (cx : Nat) 
    (w : World) (N : Nat) (hN : Sz w N) (hA : MpAt w m) (hq : Ats w q m.key (fun j => By (D j))) :
    Calls Try.prog 10 #[.pointer (some ⟨m.b, 0, none⟩), .slice q m.key c, .slice x m.val cx, .int .u64 (f : Int)] w fun e w' => e = .returned (.int .i64 7) ∧ Below N w w' := by
  have d4 := hA.c4
  rw [hfz] at d4
  have tf : decide ((2 : Int) < (f : Int)) = false := by rw [decide_eq_false_iff_not]; omega
  have tf' : ¬ ((2 : Int) < (f : Int)) := by omega
  have Hk := hid hk
  clear hk hfz
  go_enter Try.func10, Try.ntmps10
  go_wp2_with (first
    | (go_at_call 23; refine (keyText_ok m D t hK q c _ N hN hA hq).mono ?_; rintro e w1 ⟨rfl, hb1⟩; obtain ⟨M1, hM1⟩ := sz_some w1; have L1 := below_sz hb1 hN hM1; have A1 := hA.below hN hb1; have d2 := A1.c2; clear d4)
    | (go_at_call 24; refine (place_no m t Hk.out hn _ M1 hM1 A1).mono ?_; rintro e w2 ⟨rfl, hb2⟩; have A2 := A1.below hM1 hb2; obtain ⟨M2, hM2⟩ := sz_some w2; clear d2)
    | (go_at_call 25; refine (add_array m t h0 _ _ _ A2).mono ?_; rintro e w3 ⟨rfl, rfl⟩)
    | fail)
  go_ret
  exact ⟨rfl, hb1.trans (hb2.mono L1)⟩
set_option maxRecDepth 100000 in
theorem Upd_exist (m : Mp) (D : Nat → BitVec 8) (t : ByteArray) (hK : KeyIs m D t) (hfz : m.fz = false) (k : Nat) (hk : KAt m t k) (hn : m.n ≤ 1000) (q : Option Addr) (c : Nat) (x : Option Addr) (cx : Nat) 
    (w : World) (N : Nat) (hN : Sz w N) (hA : MpAt w m) (hq : Ats w q m.key (fun j => By (D j))) :
    Calls Try.prog 10 #[.pointer (some ⟨m.b, 0, none⟩), .slice q m.key c, .slice x m.val cx, .int .u64 1] w fun e w' => e = .returned (.int .i64 17) ∧ Below N w w' := by
  have d4 := hA.c4
  rw [hfz] at d4
  have kn : ((k : Int) == -1) = false := by rw [beq_eq_false_iff_ne]; omega
  have hkn := hk.1
  have Hz := hid hk.2.1
  have Hl := hid hk.2.2
  clear hk hfz
  go_enter Try.func10, Try.ntmps10
  go_wp2_with (first
    | (go_at_call 23; refine (keyText_ok m D t hK q c _ N hN hA hq).mono ?_; rintro e w1 ⟨rfl, hb1⟩; obtain ⟨M1, hM1⟩ := sz_some w1; have L1 := below_sz hb1 hN hM1; have A1 := hA.below hN hb1; have d2 := A1.c2; clear d4)
    | (go_at_call 24; refine (place_at m t k hkn Hz.out Hl.out hn _ M1 hM1 A1).mono ?_; rintro e w2 ⟨rfl, hb2⟩; have A2 := A1.below hM1 hb2; obtain ⟨M2, hM2⟩ := sz_some w2; have L2 := below_sz hb2 hM1 hM2; clear d2)
    | fail)
  go_ret
  exact ⟨rfl, hb1.trans (hb2.mono L1)⟩
set_option maxRecDepth 100000 in
theorem Upd_set (m : Mp) (D : Nat → BitVec 8) (t : ByteArray) (hK : KeyIs m D t) (hfz : m.fz = false) (ht : m.ty ≠ 2) (k : Nat) (hk : KAt m t k) (f : Nat) (hf : f ≤ 2) (hf1 : f ≠ 1) (hn : m.n ≤ 1000) (h1 : 1 ≤ m.val) (h2 : m.val ≤ 64) (q : Option Addr) (c : Nat) (x : Option Addr) (cx : Nat) (X : Nat → BitVec 8)
    (w : World) (N : Nat) (hN : Sz w N) (hA : MpAt w m) (hq : Ats w q m.key (fun j => By (D j))) (hx : Ats w x m.val (fun j => By (X j))) :
    Calls Try.prog 10 #[.pointer (some ⟨m.b, 0, none⟩), .slice q m.key c, .slice x m.val cx, .int .u64 (f : Int)] w fun e w' => e = .returned (.int .i64 0) ∧ Turn (fun j => j = (m.E k).b) w w' ∧ MpAt w' (m.set k X) := by
  have d4 := hA.c4
  rw [hfz] at d4
  have tf : decide ((2 : Int) < (f : Int)) = false := by rw [decide_eq_false_iff_not]; omega
  have tf' : ¬ ((2 : Int) < (f : Int)) := by omega
  have tf1 : ((f : Int) == 1) = false := by rw [beq_eq_false_iff_ne]; omega
  have kn : ((k : Int) == -1) = false := by rw [beq_eq_false_iff_ne]; omega
  have hkn := hk.1
  have Hz := hid hk.2.1
  have Hl := hid hk.2.2
  clear hk hfz
  go_enter Try.func10, Try.ntmps10
  go_wp2_with (first
    | (go_at_call 23; refine (keyText_ok m D t hK q c _ N hN hA hq).mono ?_; rintro e w1 ⟨rfl, hb1⟩; obtain ⟨M1, hM1⟩ := sz_some w1; have L1 := below_sz hb1 hN hM1; have A1 := hA.below hN hb1; have d2 := A1.c2; have x1 := hx.below hN hb1; clear d4)
    | (go_at_call 24; refine (place_at m t k hkn Hz.out Hl.out hn _ M1 hM1 A1).mono ?_; rintro e w2 ⟨rfl, hb2⟩; have A2 := A1.below hM1 hb2; obtain ⟨M2, hM2⟩ := sz_some w2; have L2 := below_sz hb2 hM1 hM2; have x2 := x1.below hM1 hb2; clear d2)
    | (go_at_call 27; refine (use_plain m k hkn hn ht _ M2 hM2 A2).mono ?_; rintro e w3 ⟨rfl, hb3⟩; have A3 := A2.below hM2 hb3; have x3 := x2.below hM2 hb3)
    | (go_at_call 26; refine (set_old (m.E k).c (m.E k).b m.val h1 h2 x cx X (m.E k).v _ (A3.c k hkn) (A3.v k hkn) x3).mono ?_; rintro e w4 ⟨rfl, t4, v4⟩)
    | fail)
  go_ret
  exact ⟨rfl, turn_low hN ((hb1.trans (hb2.mono L1)).trans (hb3.mono (by omega))) t4.turn, A3.setv k hkn X t4 v4⟩
set_option maxRecDepth 100000 in
theorem Upd_set_lru (m : Mp) (D : Nat → BitVec 8) (t : ByteArray) (hK : KeyIs m D t) (hfz : m.fz = false) (ht : m.ty = 2) (k : Nat) (hk : KAt m t k) (f : Nat) (hf : f ≤ 2) (hf1 : f ≠ 1) (hn : m.n ≤ 1000) (h1 : 1 ≤ m.val) (h2 : m.val ≤ 64) (q : Option Addr) (c : Nat) (x : Option Addr) (cx : Nat) (X : Nat → BitVec 8)
    (w : World) (N : Nat) (hN : Sz w N) (hA : MpAt w m) (hq : Ats w q m.key (fun j => By (D j))) (hx : Ats w x m.val (fun j => By (X j))) (hxF : ∀ g, blk x = some g → ¬ Top m g) :
    Calls Try.prog 10 #[.pointer (some ⟨m.b, 0, none⟩), .slice q m.key c, .slice x m.val cx, .int .u64 (f : Int)] w fun e w' => e = .returned (.int .i64 0) ∧ Turn (Foot m) w w' ∧ MpAt w' ((m.use k).set (m.n - 1) X) := by
  have d4 := hA.c4
  rw [hfz] at d4
  have tf : decide ((2 : Int) < (f : Int)) = false := by rw [decide_eq_false_iff_not]; omega
  have tf' : ¬ ((2 : Int) < (f : Int)) := by omega
  have tf1 : ((f : Int) == 1) = false := by rw [beq_eq_false_iff_ne]; omega
  have hu : (m.use k).E (m.n - 1) = m.E k := setF_self _ _ _
  have hun : m.n - 1 < (m.use k).n := by show m.n - 1 < m.n; have := hk.1; omega
  have Hu := hid hu
  have Ht := hid ht
  clear hu ht
  have kn : ((k : Int) == -1) = false := by rw [beq_eq_false_iff_ne]; omega
  have hkn := hk.1
  have Hz := hid hk.2.1
  have Hl := hid hk.2.2
  clear hk hfz
  go_enter Try.func10, Try.ntmps10
  go_wp2_with (first
    | (go_at_call 23; refine (keyText_ok m D t hK q c _ N hN hA hq).mono ?_; rintro e w1 ⟨rfl, hb1⟩; obtain ⟨M1, hM1⟩ := sz_some w1; have L1 := below_sz hb1 hN hM1; have A1 := hA.below hN hb1; have d2 := A1.c2; have x1 := hx.below hN hb1; clear d4)
    | (go_at_call 24; refine (place_at m t k hkn Hz.out Hl.out hn _ M1 hM1 A1).mono ?_; rintro e w2 ⟨rfl, hb2⟩; have A2 := A1.below hM1 hb2; obtain ⟨M2, hM2⟩ := sz_some w2; have L2 := below_sz hb2 hM1 hM2; have x2 := x1.below hM1 hb2; clear d2)
    | (go_at_call 27; refine (use_lru m k hkn hn Ht.out _ M2 hM2 A2).mono ?_; rintro e w3 ⟨rfl, t3, A3⟩; have x3 := x2.turn t3 hxF)
    | (go_at_call 26; refine (set_old (m.E k).c (m.E k).b m.val h1 h2 x cx X (m.E k).v _ (by have h := A3.c (m.n - 1) hun; rw [Hu.out] at h; exact h) (by have h := A3.v (m.n - 1) hun; rw [Hu.out] at h; exact h) x3).mono ?_; rintro e w4 ⟨rfl, t4, v4⟩)
    | fail)
  go_ret
  refine ⟨rfl, ((turn_low hN (hb1.trans (hb2.mono L1)) t3).mono (fun j hj => top_foot hj)).trans t4.turn (fun j hj _ => ?_), A3.setv (m.n - 1) hun X (by rw [Hu.out]; exact t4) (by rw [Hu.out]; exact v4)⟩
  subst hj
  exact .inr (.inr ⟨k, hkn, .inr rfl⟩)
set_option maxRecDepth 100000 in
theorem Upd_lru (m : Mp) (D : Nat → BitVec 8) (t : ByteArray) (hK : KeyIs m D t) (hfz : m.fz = false) (ht : m.ty = 2) (hk : KNo m t) (f : Nat) (hf : f ≤ 1) (hf2 : m.ent ≤ m.n) (h0 : 0 < m.n) (hn : m.n ≤ 64) (h1 : 1 ≤ m.val) (h2 : m.val ≤ 64) (q : Option Addr) (c : Nat) (x : Option Addr) (cx : Nat) (X : Nat → BitVec 8)
    (w : World) (N : Nat) (hN : Sz w N) (hA : MpAt w m) (hq : Ats w q m.key (fun j => By (D j))) (hx : Ats w x m.val (fun j => By (X j))) (hxF : ∀ g, blk x = some g → ¬ Top m g) :
    Calls Try.prog 10 #[.pointer (some ⟨m.b, 0, none⟩), .slice q m.key c, .slice x m.val cx, .int .u64 (f : Int)] w fun e w' => e = .returned (.int .i64 0) ∧ Turn (Top m) w w' ∧ ∃ p' cap' M, N ≤ M ∧ MpAt w' ((m.del 0).put p' cap' M t X) ∧ (blk p' = blk m.p ∨ ∀ g, blk p' = some g → N ≤ g) := by
  have d4 := hA.c4
  rw [hfz] at d4
  have tf : decide ((2 : Int) < (f : Int)) = false := by rw [decide_eq_false_iff_not]; omega
  have tf' : ¬ ((2 : Int) < (f : Int)) := by omega
  have Ht := hid ht
  clear ht
  have Hk := hid hk
  clear hk hfz
  go_enter Try.func10, Try.ntmps10
  go_wp2_with (first
    | (go_at_call 23; refine (keyText_ok m D t hK q c _ N hN hA hq).mono ?_; rintro e w1 ⟨rfl, hb1⟩; obtain ⟨M1, hM1⟩ := sz_some w1; have L1 := below_sz hb1 hN hM1; have A1 := hA.below hN hb1; have d2 := A1.c2; have x1 := hx.below hN hb1; clear d4)
    | (go_at_call 24; refine (place_no m t Hk.out (by omega) _ M1 hM1 A1).mono ?_; rintro e w2 ⟨rfl, hb2⟩; have A2 := A1.below hM1 hb2; obtain ⟨M2, hM2⟩ := sz_some w2; have x2 := x1.below hM1 hb2; have L2 := below_sz hb2 hM1 hM2; clear d2)
    | (go_at_call 25; refine (add_lru m t f hf Ht.out hf2 h0 hn x cx X h1 h2 _ M2 hM2 A2 x2 hxF).mono ?_; rintro e w3 ⟨rfl, p3⟩)
    | fail)
  go_ret
  obtain ⟨t3, p', cap', M, hM, A3, hp⟩ := p3
  refine ⟨rfl, turn_low hN (hb1.trans (hb2.mono L1)) t3, p', cap', M, by omega, A3, ?_⟩
  rcases hp with hp | hp
  · exact .inl hp
  · exact .inr (fun g hg => by have := hp g hg; omega)
set_option maxRecDepth 100000 in
theorem Upd_frozen (m : Mp) (hfz : m.fz = true) (a b f : Value) (w : World) (hA : MpAt w m) :
    Calls Try.prog 10 #[.pointer (some ⟨m.b, 0, none⟩), a, b, f] w fun e w' => e = .returned (.int .i64 1) ∧ w = w' := by
  have d4 := hA.c4
  rw [hfz] at d4
  clear hfz
  go_enter Try.func10, Try.ntmps10
  go_wp2
  go_ret
  exact ⟨rfl, rfl⟩
set_option maxRecDepth 100000 in
theorem Del_at (m : Mp) (D : Nat → BitVec 8) (t : ByteArray) (hK : KeyIs m D t) (hfz : m.fz = false) (h0 : m.ty ≠ 0) (k : Nat) (hk : KAt m t k) (hn : m.n ≤ 1000) (q : Option Addr) (c : Nat) (w : World) (N : Nat) (hN : Sz w N) (hA : MpAt w m) (hq : Ats w q m.key (fun j => By (D j))) :
    Calls Try.prog 13 #[.pointer (some ⟨m.b, 0, none⟩), .slice q m.key c] w fun e w' => e = .returned (.int .i64 0) ∧ Turn (Top m) w w' ∧ MpAt w' (m.del k) := by
  have d4 := hA.c4
  rw [hfz] at d4
  have t0 : ((m.ty : Int) == 0) = false := by rw [beq_eq_false_iff_ne]; omega
  have kn : ((k : Int) == -1) = false := by rw [beq_eq_false_iff_ne]; omega
  have hkn := hk.1
  have Hz := hid hk.2.1
  have Hl := hid hk.2.2
  clear hk hfz
  go_enter Try.func13, Try.ntmps13
  go_wp2_with (first
    | (go_at_call 23; refine (keyText_ok m D t hK q c _ N hN hA hq).mono ?_; rintro e w1 ⟨rfl, hb1⟩; obtain ⟨M1, hM1⟩ := sz_some w1; have L1 := below_sz hb1 hN hM1; have A1 := hA.below hN hb1; have d0 := A1.c0; clear d4)
    | (go_at_call 24; refine (place_at m t k hkn Hz.out Hl.out hn _ M1 hM1 A1).mono ?_; rintro e w2 ⟨rfl, hb2⟩; have A2 := A1.below hM1 hb2; obtain ⟨M2, hM2⟩ := sz_some w2; have L2 := below_sz hb2 hM1 hM2; clear d0)
    | (go_at_call 30; refine (remove_any m k hkn hn _ A2).mono ?_; rintro e w3 ⟨rfl, t3, s3, A3⟩)
    | fail)
  go_ret
  exact ⟨rfl, turn_low hN (hb1.trans (hb2.mono L1)) t3, A3⟩
set_option maxRecDepth 100000 in
theorem Del_array (m : Mp) (D : Nat → BitVec 8) (t : ByteArray) (hK : KeyIs m D t) (hfz : m.fz = false) (h0 : m.ty = 0) (q : Option Addr) (c : Nat) (w : World) (N : Nat) (hN : Sz w N) (hA : MpAt w m) (hq : Ats w q m.key (fun j => By (D j))) :
    Calls Try.prog 13 #[.pointer (some ⟨m.b, 0, none⟩), .slice q m.key c] w fun e w' => e = .returned (.int .i64 22) ∧ Below N w w' := by
  have d4 := hA.c4
  rw [hfz] at d4
  clear hfz
  have H0 := hid h0
  clear h0
  go_enter Try.func13, Try.ntmps13
  go_wp2_with (first
    | (go_at_call 23; refine (keyText_ok m D t hK q c _ N hN hA hq).mono ?_; rintro e w1 ⟨rfl, hb1⟩; obtain ⟨M1, hM1⟩ := sz_some w1; have L1 := below_sz hb1 hN hM1; have A1 := hA.below hN hb1; have d0 : w1.cell? ⟨m.b, 0, none⟩ = some (.int .i64 0) := A1.c0.trans (by rw [H0.out]; rfl); clear d4)
    | fail)
  go_ret
  exact ⟨rfl, hb1⟩
end Go.Proofs.Yteicoheihalnnaa
