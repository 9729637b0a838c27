/- bmap: the other ways of Update; Delete. -/
import Derived.Test.YtjdclgnlnehjlaaDoorBm7
namespace Go.Proofs.YtjdclgnlnehjlaaDoor
open Go Go.RowKit
set_option maxRecDepth 100000 in
theorem Upd_set (m : Mp) (D : Nat → BitVec 8) (t : ByteArray) (hK : KeyIs m D t) (hfz : m.fz = false) (ht : m.ty ≠ 2) (k : Nat) (hk : KAt m t k) (f : Nat) (hf : f ≤ 2) (hf1 : f ≠ 1) (hn : m.n ≤ 1000) (h1 : 1 ≤ m.val) (h2 : m.val ≤ 64) (q : Option Addr) (c : Nat) (x : Option Addr) (cx : Nat) (X : Nat → BitVec 8)
    (w : World) (N : Nat) (hN : Sz w N) (hA : MpAt w m) (hq : Ats w q m.key (fun j => By (D j))) (hx : Ats w x m.val (fun j => By (X j))) :
    Calls Tryd.prog 19 #[.pointer (some ⟨m.b, 0, none⟩), .slice q m.key c, .slice x m.val cx, .int .u64 (f : Int)] w fun e w' => e = .returned (.int .i64 0) ∧ Turn (fun j => j = (m.E k).b) w w' ∧ MpAt w' (m.set k X) := by
  have d4 := hA.c4
  rw [hfz] at d4
  have tf : decide ((2 : Int) < (f : Int)) = false := by rw [decide_eq_false_iff_not]; omega
  have tf' : ¬ ((2 : Int) < (f : Int)) := by omega
  have tf1 : ((f : Int) == 1) = false := by rw [beq_eq_false_iff_ne]; omega
  have kn : ((k : Int) == -1) = false := by rw [beq_eq_false_iff_ne]; omega
  have hkn := hk.1
  have Hz := hid hk.2.1
  have Hl := hid hk.2.2
  clear hk hfz
  go_enter Tryd.func19, Tryd.ntmps19
  go_wp2_with (first
    | (go_at_call 40; refine (keyText_ok m D t hK q c _ N hN hA hq).mono ?_; rintro e w1 ⟨rfl, hb1⟩; obtain ⟨M1, hM1⟩ := sz_some w1; have L1 := below_sz hb1 hN hM1; have A1 := hA.below hN hb1; have d2 := A1.c2; have x1 := hx.below hN hb1; clear d4)
    | (go_at_call 41; refine (place_at m t k hkn Hz.out Hl.out hn _ M1 hM1 A1).mono ?_; rintro e w2 ⟨rfl, hb2⟩; have A2 := A1.below hM1 hb2; obtain ⟨M2, hM2⟩ := sz_some w2; have L2 := below_sz hb2 hM1 hM2; have x2 := x1.below hM1 hb2; clear d2)
    | (go_at_call 44; refine (use_plain m k hkn hn ht _ M2 hM2 A2).mono ?_; rintro e w3 ⟨rfl, hb3⟩; have A3 := A2.below hM2 hb3; have x3 := x2.below hM2 hb3)
    | (go_at_call 43; refine (set_old (m.E k).c (m.E k).b m.val h1 h2 x cx X (m.E k).v _ (A3.c k hkn) (A3.v k hkn) x3).mono ?_; rintro e w4 ⟨rfl, t4, v4⟩)
    | fail)
  go_ret
  exact ⟨rfl, turn_low hN ((hb1.trans (hb2.mono L1)).trans (hb3.mono (by omega))) t4.turn, A3.setv k hkn X t4 v4⟩
set_option maxRecDepth 100000 in
theorem Upd_set_lru (m : Mp) (D : Nat → BitVec 8) (t : ByteArray) (hK : KeyIs m D t) (hfz : m.fz = false) (ht : m.ty = 2) (k : Nat) (hk : KAt m t k) (f : Nat) (hf : f ≤ 2) (hf1 : f ≠ 1) (hn : m.n ≤ 1000) (h1 : 1 ≤ m.val) (h2 : m.val ≤ 64) (q : Option Addr) (c : Nat) (x : Option Addr) (cx : Nat) (X : Nat → BitVec 8)
    (w : World) (N : Nat) (hN : Sz w N) (hA : MpAt w m) (hq : Ats w q m.key (fun j => By (D j))) (hx : Ats w x m.val (fun j => By (X j))) (hxF : ∀ g, blk x = some g → ¬ Top m g) :
    Calls Tryd.prog 19 #[.pointer (some ⟨m.b, 0, none⟩), .slice q m.key c, .slice x m.val cx, .int .u64 (f : Int)] w fun e w' => e = .returned (.int .i64 0) ∧ Turn (Foot m) w w' ∧ MpAt w' ((m.use k).set (m.n - 1) X) := by
  have d4 := hA.c4
  rw [hfz] at d4
  have tf : decide ((2 : Int) < (f : Int)) = false := by rw [decide_eq_false_iff_not]; omega
  have tf' : ¬ ((2 : Int) < (f : Int)) := by omega
  have tf1 : ((f : Int) == 1) = false := by rw [beq_eq_false_iff_ne]; omega
  have hu : (m.use k).E (m.n - 1) = m.E k := setF_self _ _ _
  have hun : m.n - 1 < (m.use k).n := by show m.n - 1 < m.n; have := hk.1; omega
  have Hu := hid hu
  have Ht := hid ht
  clear hu ht
  have kn : ((k : Int) == -1) = false := by rw [beq_eq_false_iff_ne]; omega
  have hkn := hk.1
  have Hz := hid hk.2.1
  have Hl := hid hk.2.2
  clear hk hfz
  go_enter Tryd.func19, Tryd.ntmps19
  go_wp2_with (first
    | (go_at_call 40; refine (keyText_ok m D t hK q c _ N hN hA hq).mono ?_; rintro e w1 ⟨rfl, hb1⟩; obtain ⟨M1, hM1⟩ := sz_some w1; have L1 := below_sz hb1 hN hM1; have A1 := hA.below hN hb1; have d2 := A1.c2; have x1 := hx.below hN hb1; clear d4)
    | (go_at_call 41; refine (place_at m t k hkn Hz.out Hl.out hn _ M1 hM1 A1).mono ?_; rintro e w2 ⟨rfl, hb2⟩; have A2 := A1.below hM1 hb2; obtain ⟨M2, hM2⟩ := sz_some w2; have L2 := below_sz hb2 hM1 hM2; have x2 := x1.below hM1 hb2; clear d2)
    | (go_at_call 44; refine (use_lru m k hkn hn Ht.out _ M2 hM2 A2).mono ?_; rintro e w3 ⟨rfl, t3, A3⟩; have x3 := x2.turn t3 hxF)
    | (go_at_call 43; refine (set_old (m.E k).c (m.E k).b m.val h1 h2 x cx X (m.E k).v _ (by have h := A3.c (m.n - 1) hun; rw [Hu.out] at h; exact h) (by have h := A3.v (m.n - 1) hun; rw [Hu.out] at h; exact h) x3).mono ?_; rintro e w4 ⟨rfl, t4, v4⟩)
    | fail)
  go_ret
  refine ⟨rfl, ((turn_low hN (hb1.trans (hb2.mono L1)) t3).mono (fun j hj => top_foot hj)).trans t4.turn (fun j hj _ => ?_), A3.setv (m.n - 1) hun X (by rw [Hu.out]; exact t4) (by rw [Hu.out]; exact v4)⟩
  subst hj
  exact .inr (.inr ⟨k, hkn, .inr rfl⟩)
end Go.Proofs.YtjdclgnlnehjlaaDoor
