/- bmap: Cell, Lookup, Update, Delete. -/
import Derived.Test.YtjdclgnlnehjlaaDoorBm6
namespace Go.Proofs.YtjdclgnlnehjlaaDoor
open Go Go.RowKit
/-- t stands at k, for the first time. -/
def KAt (m : Mp) (t : ByteArray) (k : Nat) : Prop := k < m.n ∧ (m.E k).k = t ∧ ∀ i, i < k → (m.E i).k ≠ t
def KNo (m : Mp) (t : ByteArray) : Prop := ∀ i, i < m.n → (m.E i).k ≠ t
set_option maxRecDepth 100000 in
theorem Cell_at (m : Mp) (D : Nat → BitVec 8) (t : ByteArray) (hK : KeyIs m D t) (ht : m.ty ≠ 2) (k : Nat) (hk : KAt m t k) (hn : m.n ≤ 1000) (q : Option Addr) (c : Nat) (w : World) (N : Nat) (hN : Sz w N) (hA : MpAt w m) (hq : Ats w q m.key (fun j => By (D j))) :
    Calls Tryd.prog 33 #[.pointer (some ⟨m.b, 0, none⟩), .slice q m.key c] w fun e w' => e = .returned (.tuple #[.pointer (some ⟨(m.E k).c, 0, none⟩), .int .i64 0]) ∧ Below N w w' := by
  have kn : ((k : Int) == -1) = false := by rw [beq_eq_false_iff_ne]; omega
  have h5 := hK.2.2.1
  obtain ⟨hk, hz, hl⟩ := hk
  have Hz := hid hz
  have Hl := hid hl
  clear hz hl
  go_enter Tryd.func33, Tryd.ntmps33
  go_wp2_with (first
    | (go_at_call 40; refine (keyText_ok m D t hK q c _ N hN hA hq).mono ?_; rintro e w1 ⟨rfl, hb1⟩; obtain ⟨M1, hM1⟩ := sz_some w1; have L1 := below_sz hb1 hN hM1; have A1 := hA.below hN hb1)
    | (go_at_call 58; refine (nearest_at m t h5 k hk Hz.out Hl.out hn _ M1 hM1 A1).mono ?_; rintro e w2 ⟨rfl, hb2⟩; have A2 := A1.below hM1 hb2; obtain ⟨M2, hM2⟩ := sz_some w2; have L2 := below_sz hb2 hM1 hM2)
    | (go_at_call 44; refine (use_plain m k hk hn ht _ M2 hM2 A2).mono ?_; rintro e w3 ⟨rfl, hb3⟩)
    | fail)
  go_ret2
  exact ⟨rfl, (hb1.trans (hb2.mono L1)).trans (hb3.mono (by omega))⟩
set_option maxRecDepth 100000 in
theorem Cell_lru (m : Mp) (D : Nat → BitVec 8) (t : ByteArray) (hK : KeyIs m D t) (ht : m.ty = 2) (k : Nat) (hk : KAt m t k) (hn : m.n ≤ 1000) (q : Option Addr) (c : Nat) (w : World) (N : Nat) (hN : Sz w N) (hA : MpAt w m) (hq : Ats w q m.key (fun j => By (D j))) :
    Calls Tryd.prog 33 #[.pointer (some ⟨m.b, 0, none⟩), .slice q m.key c] w fun e w' => e = .returned (.tuple #[.pointer (some ⟨(m.E k).c, 0, none⟩), .int .i64 0]) ∧ Turn (Top m) w w' ∧ MpAt w' (m.use k) := by
  have kn : ((k : Int) == -1) = false := by rw [beq_eq_false_iff_ne]; omega
  have h5 := hK.2.2.1
  obtain ⟨hk, hz, hl⟩ := hk
  have Hz := hid hz
  have Hl := hid hl
  have Ht := hid ht
  clear hz hl ht
  go_enter Tryd.func33, Tryd.ntmps33
  go_wp2_with (first
    | (go_at_call 40; refine (keyText_ok m D t hK q c _ N hN hA hq).mono ?_; rintro e w1 ⟨rfl, hb1⟩; obtain ⟨M1, hM1⟩ := sz_some w1; have L1 := below_sz hb1 hN hM1; have A1 := hA.below hN hb1)
    | (go_at_call 58; refine (nearest_at m t h5 k hk Hz.out Hl.out hn _ M1 hM1 A1).mono ?_; rintro e w2 ⟨rfl, hb2⟩; have A2 := A1.below hM1 hb2; obtain ⟨M2, hM2⟩ := sz_some w2)
    | (go_at_call 44; refine (use_lru m k hk hn Ht.out _ M2 hM2 A2).mono ?_; rintro e w3 ⟨rfl, t3, A3⟩)
    | fail)
  go_ret2
  exact ⟨rfl, turn_low hN (hb1.trans (hb2.mono L1)) t3, A3⟩
set_option maxRecDepth 100000 in
theorem Cell_no (m : Mp) (D : Nat → BitVec 8) (t : ByteArray) (hK : KeyIs m D t) (hk : KNo m t) (hn : m.n ≤ 1000) (q : Option Addr) (c : Nat) (w : World) (N : Nat) (hN : Sz w N) (hA : MpAt w m) (hq : Ats w q m.key (fun j => By (D j))) :
    Calls Tryd.prog 33 #[.pointer (some ⟨m.b, 0, none⟩), .slice q m.key c] w fun e w' => e = .returned (.tuple #[.pointer none, .int .i64 2]) ∧ Below N w w' := by
  have h5 := hK.2.2.1
  have Hk := hid hk
  clear hk
  go_enter Tryd.func33, Tryd.ntmps33
  go_wp2_with (first
    | (go_at_call 40; refine (keyText_ok m D t hK q c _ N hN hA hq).mono ?_; rintro e w1 ⟨rfl, hb1⟩; obtain ⟨M1, hM1⟩ := sz_some w1; have L1 := below_sz hb1 hN hM1; have A1 := hA.below hN hb1)
    | (go_at_call 58; refine (nearest_no m t h5 Hk.out hn _ M1 hM1 A1).mono ?_; rintro e w2 ⟨rfl, hb2⟩)
    | fail)
  go_ret2
  exact ⟨rfl, hb1.trans (hb2.mono L1)⟩
/-- A value came back, in new memory, and all is well. -/
def Val (N v : Nat) (D : Nat → BitVec 8) (e : Ending) (w' : World) : Prop := ∃ M, N ≤ M ∧ e = .returned (.tuple #[.slice (some ⟨M, 0, none⟩) v v, .int .i64 0]) ∧ Has w' M 5 v (fun j => By (D j))
set_option maxRecDepth 100000 in
theorem Look_at (m : Mp) (D : Nat → BitVec 8) (t : ByteArray) (hK : KeyIs m D t) (ht : m.ty ≠ 2) (k : Nat) (hk : KAt m t k) (hn : m.n ≤ 1000) (v : Nat) (hv : m.val = v) (h1 : 1 ≤ v) (h2 : v ≤ 64) (q : Option Addr) (c : Nat) (w : World) (N : Nat) (hN : Sz w N) (hA : MpAt w m) (hq : Ats w q m.key (fun j => By (D j))) :
    Calls Tryd.prog 16 #[.pointer (some ⟨m.b, 0, none⟩), .slice q m.key c] w fun e w' => Val N v (m.E k).v e w' ∧ Below N w w' := by
  subst hv
  have hkn := hk.1
  go_enter Tryd.func16, Tryd.ntmps16
  go_wp2_with (first
    | (go_at_call 33; refine (Cell_at m D t hK ht k hk hn q c _ N hN hA hq).mono ?_; rintro e w1 ⟨rfl, hb1⟩; obtain ⟨M1, hM1⟩ := sz_some w1; have L1 := below_sz hb1 hN hM1; have A1 := hA.below hN hb1)
    | (go_at_call 35; refine (value_any m (m.E k).c (m.E k).b (m.E k).v h1 h2 _ M1 hM1 A1 (A1.c k hkn) (A1.v k hkn)).mono ?_; rintro e w2 ⟨rfl, hb2, hN2, hv2⟩)
    | fail)
  go_ret2
  exact ⟨⟨M1, L1, rfl, hv2⟩, hb1.trans (hb2.mono L1)⟩
set_option maxRecDepth 100000 in
theorem Look_lru (m : Mp) (D : Nat → BitVec 8) (t : ByteArray) (hK : KeyIs m D t) (ht : m.ty = 2) (k : Nat) (hk : KAt m t k) (hn : m.n ≤ 1000) (v : Nat) (hv : m.val = v) (h1 : 1 ≤ v) (h2 : v ≤ 64) (q : Option Addr) (c : Nat) (w : World) (N : Nat) (hN : Sz w N) (hA : MpAt w m) (hq : Ats w q m.key (fun j => By (D j))) :
    Calls Tryd.prog 16 #[.pointer (some ⟨m.b, 0, none⟩), .slice q m.key c] w fun e w' => Val N v (m.E k).v e w' ∧ Turn (Top m) w w' ∧ MpAt w' (m.use k) := by
  subst hv
  have hkn := hk.1
  have hu : (m.use k).E (m.n - 1) = m.E k := setF_self _ _ _
  have hun : m.n - 1 < (m.use k).n := by show m.n - 1 < m.n; omega
  have Hu := hid hu
  clear hu
  go_enter Tryd.func16, Tryd.ntmps16
  go_wp2_with (first
    | (go_at_call 33; refine (Cell_lru m D t hK ht k hk hn q c _ N hN hA hq).mono ?_; rintro e w1 ⟨rfl, t1, A1⟩; obtain ⟨M1, hM1⟩ := sz_some w1; have L1 := sz_turn t1 hN hM1)
    | (go_at_call 35; refine (value_any (m.use k) (m.E k).c (m.E k).b (m.E k).v h1 h2 _ M1 hM1 A1 (by have h := A1.c (m.n - 1) hun; rw [Hu.out] at h; exact h) (by have h := A1.v (m.n - 1) hun; rw [Hu.out] at h; exact h)).mono ?_; rintro e w2 ⟨rfl, hb2, hN2, hv2⟩)
    | fail)
  go_ret2
  exact ⟨⟨M1, L1, rfl, hv2⟩, t1.trans (turn_below hM1 hb2 (fun _ => False)) (fun _ h => h.elim), A1.below hM1 hb2⟩
set_option maxRecDepth 100000 in
theorem Look_no (m : Mp) (D : Nat → BitVec 8) (t : ByteArray) (hK : KeyIs m D t) (hk : KNo m t) (hn : m.n ≤ 1000) (q : Option Addr) (c : Nat) (w : World) (N : Nat) (hN : Sz w N) (hA : MpAt w m) (hq : Ats w q m.key (fun j => By (D j))) :
    Calls Tryd.prog 16 #[.pointer (some ⟨m.b, 0, none⟩), .slice q m.key c] w fun e w' => e = .returned (.tuple #[.slice none 0 0, .int .i64 2]) ∧ Below N w w' := by
  have Hk := hid hk
  clear hk
  go_enter Tryd.func16, Tryd.ntmps16
  go_wp2_with (first
    | (go_at_call 33; refine (Cell_no m D t hK Hk.out hn q c _ N hN hA hq).mono ?_; rintro e w1 ⟨rfl, hb1⟩)
    | fail)
  go_ret2
  exact ⟨rfl, hb1⟩
set_option maxRecDepth 100000 in
theorem Upd_new (m : Mp) (D : Nat → BitVec 8) (t : ByteArray) (hK : KeyIs m D t) (hfz : m.fz = false) (h0 : m.ty ≠ 0) (hk : KNo m t) (f : Nat) (hf : f ≤ 1) (hn : m.n < m.ent) (he : m.ent ≤ 64) (h1 : 1 ≤ m.val) (h2 : m.val ≤ 64) (q : Option Addr) (c : Nat) (x : Option Addr) (cx : Nat) (X : Nat → BitVec 8)
    (w : World) (N : Nat) (hN : Sz w N) (hA : MpAt w m) (hq : Ats w q m.key (fun j => By (D j))) (hx : Ats w x m.val (fun j => By (X j))) :
    Calls Tryd.prog 19 #[.pointer (some ⟨m.b, 0, none⟩), .slice q m.key c, .slice x m.val cx, .int .u64 (f : Int)] w fun e w' => e = .returned (.int .i64 0) ∧ PutLater m N t X w w' := by
  have d4 := hA.c4
  rw [hfz] at d4
  have tf : decide ((2 : Int) < (f : Int)) = false := by rw [decide_eq_false_iff_not]; omega
  have tf' : ¬ ((2 : Int) < (f : Int)) := by omega
  have Hk := hid hk
  clear hk hfz
  go_enter Tryd.func19, Tryd.ntmps19
  go_wp2_with (first
    | (go_at_call 40; refine (keyText_ok m D t hK q c _ N hN hA hq).mono ?_; rintro e w1 ⟨rfl, hb1⟩; obtain ⟨M1, hM1⟩ := sz_some w1; have L1 := below_sz hb1 hN hM1; have A1 := hA.below hN hb1; have d2 := A1.c2; have x1 := hx.below hN hb1; clear d4)
    | (go_at_call 41; refine (place_no m t Hk.out (by omega) _ M1 hM1 A1).mono ?_; rintro e w2 ⟨rfl, hb2⟩; have A2 := A1.below hM1 hb2; have x2 := x1.below hM1 hb2; obtain ⟨M2, hM2⟩ := sz_some w2; clear d2)
    | (go_at_call 42; refine (add_new m t f hf h0 hn he x cx X h1 h2 _ M2 hM2 A2 x2).mono ?_; rintro e w3 ⟨rfl, p3⟩)
    | fail)
  go_ret
  exact ⟨rfl, (p3.low hM1 hb2 hM2).low hN hb1 hM1⟩
end Go.Proofs.YtjdclgnlnehjlaaDoor
