/- bmap: keyText, nearest, add, Cell, Lookup, Update, Delete. bmap: Cell, Lookup, Update, Delete. -/
import Derived.Test.YtjdclgnlnehjlaaDoorBm5
namespace Go.Proofs.YtjdclgnlnehjlaaDoor
open Go Go.RowKit
/-- t is what the bytes D say of such a map's key. -/
def KeyIs (m : Mp) (D : Nat → BitVec 8) (t : ByteArray) : Prop := m.ty ≠ 3 ∧ m.ty ≠ 4 ∧ m.ty ≠ 5 ∧ t = strOf D m.key
theorem KeyIs.of {m m' : Mp} {D : Nat → BitVec 8} {t : ByteArray} (h : KeyIs m D t) (h1 : m'.ty = m.ty) (h2 : m'.key = m.key) : KeyIs m' D t := by
  unfold KeyIs at *; rw [h1, h2]; exact h
/-- The entry's bytes are others. -/
theorem MpAt.setv {w w' : World} {m : Mp} (hA : MpAt w m) (k : Nat) (hk : k < m.n) (D : Nat → BitVec 8) (ht : Touch (m.E k).b w w') (hb : Has w' (m.E k).b 5 m.val (fun j => By (D j))) : MpAt w' (m.set k D) := by
  have e : ∀ i, ((m.set k D).E i).c = (m.E i).c ∧ ((m.set k D).E i).b = (m.E i).b ∧ ((m.set k D).E i).k = (m.E i).k := fun i => by
    simp only [Mp.set, setF]
    by_cases hik : i = k
    · rw [if_pos hik, hik]; exact ⟨rfl, rfl, rfl⟩
    · rw [if_neg hik]; exact ⟨rfl, rfl, rfl⟩
  refine ⟨(hA.h.touch ht (hA.cb k hk).2.symm).congr (fun j _ => rfl), ?_, fun i hi => ?_, fun i hi => ?_, fun i j hi hj hij => ?_⟩
  · refine (hA.e.touch ht (fun g hg => (hA.cp k hk g hg).2.symm)).congr (fun j hj => ?_)
    show me1 (m.E (j / 2)) (j % 2) = me1 ((m.set k D).E (j / 2)) (j % 2)
    unfold me1
    rw [(e _).1, (e _).2.2]
  · rw [(e i).1, (e i).2.1]
    exact (hA.c i hi).touch ht (hA.cc i k hi hk)
  · rw [(e i).2.1]
    by_cases hik : i = k
    · subst hik
      refine hb.congr (fun j _ => ?_)
      simp only [Mp.set, setF_self]
    · refine ((hA.v i hi).touch ht (hA.inj i k hi hk hik).2).congr (fun j _ => ?_)
      simp only [Mp.set, setF_ne _ _ _ hik]
  · rw [(e i).1, (e i).2.1, (e j).1, (e j).2.1]
    exact hA.inj i j hi hj hij
set_option maxRecDepth 100000 in
theorem keyText_ok (m : Mp) (D : Nat → BitVec 8) (t : ByteArray) (hK : KeyIs m D t) (q : Option Addr) (c : Nat) (w : World) (N : Nat) (hN : Sz w N) (hA : MpAt w m) (hq : Ats w q m.key (fun j => By (D j))) :
    Calls Tryd.prog 40 #[.pointer (some ⟨m.b, 0, none⟩), .slice q m.key c] w fun e w' => e = .returned (.tuple #[.string t, .bool true]) ∧ Below N w w' := by
  obtain ⟨h3, h4, h5, rfl⟩ := hK
  have d0 := hA.c0
  have d1 := hA.c1
  have t5 : ((m.ty : Int) != 5) = true := by rw [bne_iff_ne]; omega
  have hcv := run_string (P := Tryd.prog) w 35 9 5 undBB undBy undBS q m.key c D hq
  have Hcv := hid hcv
  clear hcv
  go_enter Tryd.func40, Tryd.ntmps40
  go_wp2_with (first
    | (go_at_call 37; refine (isLine_no m h3 h4 _ hA).mono ?_; rintro e w1 ⟨rfl, rfl⟩)
    | (refine wpl_conv rfl 35 9 (.tmp 20) rfl _ (.string (strOf D m.key)) rfl Hcv.out ?_)
    | fail)
  go_ret2
  exact ⟨rfl, Below.refl _ _⟩
set_option maxRecDepth 100000 in
theorem nearest_at (m : Mp) (key : ByteArray) (h5 : m.ty ≠ 5) (k : Nat) (hk : k < m.n) (hz : (m.E k).k = key) (hl : ∀ i, i < k → (m.E i).k ≠ key) (hn : m.n ≤ 1000) (w : World) (N : Nat) (hN : Sz w N) (hA : MpAt w m) :
    Calls Tryd.prog 58 #[.pointer (some ⟨m.b, 0, none⟩), .string key] w fun e w' => e = .returned (.int .i64 (k : Int)) ∧ Below N w w' := by
  have d0 := hA.c0
  have t5 : ((m.ty : Int) != 5) = true := by rw [bne_iff_ne]; omega
  have Hz := hid hz
  have Hl := hid hl
  clear hz hl
  go_enter Tryd.func58, Tryd.ntmps58
  go_wp2_with (first
    | (go_at_call 41; refine (place_at m key k hk Hz.out Hl.out hn _ N hN hA).mono ?_; rintro e w1 ⟨rfl, hb1⟩)
    | fail)
  go_ret
  exact ⟨rfl, hb1⟩
set_option maxRecDepth 100000 in
theorem nearest_no (m : Mp) (key : ByteArray) (h5 : m.ty ≠ 5) (hl : ∀ i, i < m.n → (m.E i).k ≠ key) (hn : m.n ≤ 1000) (w : World) (N : Nat) (hN : Sz w N) (hA : MpAt w m) :
    Calls Tryd.prog 58 #[.pointer (some ⟨m.b, 0, none⟩), .string key] w fun e w' => e = .returned (.int .i64 (-1)) ∧ Below N w w' := by
  have d0 := hA.c0
  have t5 : ((m.ty : Int) != 5) = true := by rw [bne_iff_ne]; omega
  have Hl := hid hl
  clear hl
  go_enter Tryd.func58, Tryd.ntmps58
  go_wp2_with (first
    | (go_at_call 41; refine (place_no m key Hl.out hn _ N hN hA).mono ?_; rintro e w1 ⟨rfl, hb1⟩)
    | fail)
  go_ret
  exact ⟨rfl, hb1⟩
theorem turn_low {S : Nat → Prop} {N : Nat} {w w1 w2 : World} (hN : Sz w N) (hb : Below N w w1) (t : Turn S w1 w2) : Turn S w w2 := (turn_below hN hb S).trans t (fun _ h _ => h)
/-- An entry was put in, behind others. -/
def PutLater (m : Mp) (N : Nat) (key : ByteArray) (D : Nat → BitVec 8) (w w' : World) : Prop := ∃ M, N ≤ M ∧ Putted m M key D w w'
theorem PutLater.low {m : Mp} {N M : Nat} {key : ByteArray} {D : Nat → BitVec 8} {w w1 w2 : World} (hN : Sz w N) (hb : Below N w w1) (hM : Sz w1 M) (h : PutLater m M key D w1 w2) : PutLater m N key D w w2 := by
  obtain ⟨K, hK, T, h⟩ := h
  exact ⟨K, by have := below_sz hb hN hM; omega, turn_low hN hb T, h⟩
set_option maxRecDepth 100000 in
theorem add_new (m : Mp) (key : ByteArray) (f : Nat) (hf : f ≤ 1) (h0 : m.ty ≠ 0) (hn : m.n < m.ent) (he : m.ent ≤ 64) (q : Option Addr) (cq : Nat) (D : Nat → BitVec 8) (h1 : 1 ≤ m.val) (h2 : m.val ≤ 64) (w : World) (N : Nat) (hN : Sz w N) (hA : MpAt w m) (hq : Ats w q m.val (fun j => By (D j))) :
    Calls Tryd.prog 42 #[.pointer (some ⟨m.b, 0, none⟩), .string key, .slice q m.val cq, .int .u64 (f : Int)] w fun e w' => e = .returned (.int .i64 0) ∧ PutLater m N key D w w' := by
  have d0 := hA.c0
  have t0 : ((m.ty : Int) == 0) = false := by rw [beq_eq_false_iff_ne]; omega
  have tf : ((f : Int) == 2) = false := by rw [beq_eq_false_iff_ne]; omega
  go_enter Tryd.func42, Tryd.ntmps42
  go_wp2_with (first
    | (go_at_call 45; refine (full_no m hn _ N hN hA).mono ?_; rintro e w1 ⟨rfl, T1, N1⟩; have A1 := hA.below hN T1; have q1 := hq.below hN T1; clear d0)
    | (go_at_call 27; refine (put_any m key q cq D (by omega) h1 h2 _ N N1 A1 q1).mono ?_; rintro e w2 ⟨rfl, p2⟩)
    | fail)
  go_ret
  exact ⟨rfl, N, Nat.le_refl N, turn_low hN T1 p2.1, p2.2⟩
set_option maxRecDepth 100000 in
theorem add_full (m : Mp) (key : ByteArray) (f : Nat) (hf : f ≤ 1) (h0 : m.ty ≠ 0) (ht : m.ty ≠ 2) (hn : m.ent ≤ m.n) (q : Value) (w : World) (N : Nat) (hN : Sz w N) (hA : MpAt w m) :
    Calls Tryd.prog 42 #[.pointer (some ⟨m.b, 0, none⟩), .string key, q, .int .u64 (f : Int)] w fun e w' => e = .returned (.int .i64 7) ∧ Below N w w' := by
  have d0 := hA.c0
  have t0 : ((m.ty : Int) == 0) = false := by rw [beq_eq_false_iff_ne]; omega
  have t2 : ((m.ty : Int) != 2) = true := by rw [bne_iff_ne]; omega
  have tf : ((f : Int) == 2) = false := by rw [beq_eq_false_iff_ne]; omega
  go_enter Tryd.func42, Tryd.ntmps42
  go_wp2_with (first
    | (go_at_call 45; refine (full_yes m hn _ N hN hA).mono ?_; rintro e w1 ⟨rfl, T1, N1⟩; have d01 := (hA.below hN T1).c0; clear d0)
    | fail)
  go_ret
  exact ⟨rfl, T1⟩
set_option maxRecDepth 100000 in
theorem add_lru (m : Mp) (key : ByteArray) (f : Nat) (hf : f ≤ 1) (ht : m.ty = 2) (hn : m.ent ≤ m.n) (h0 : 0 < m.n) (hm : m.n ≤ 64) (q : Option Addr) (cq : Nat) (D : Nat → BitVec 8) (h1 : 1 ≤ m.val) (h2 : m.val ≤ 64) (w : World) (N : Nat) (hN : Sz w N) (hA : MpAt w m) (hq : Ats w q m.val (fun j => By (D j))) (hqF : ∀ g, blk q = some g → ¬ Top m g) :
    Calls Tryd.prog 42 #[.pointer (some ⟨m.b, 0, none⟩), .string key, .slice q m.val cq, .int .u64 (f : Int)] w fun e w' => e = .returned (.int .i64 0) ∧ Turn (Top m) w w' ∧ ∃ p' cap' M, N ≤ M ∧ MpAt w' ((m.del 0).put p' cap' M key D) ∧ (blk p' = blk m.p ∨ ∀ g, blk p' = some g → N ≤ g) := by
  have d0 := hA.c0
  rw [ht] at d0
  have tf : ((f : Int) == 2) = false := by rw [beq_eq_false_iff_ne]; omega
  have Ht := hid ht
  clear ht
  go_enter Tryd.func42, Tryd.ntmps42
  go_wp2_with (first
    | (go_at_call 45; refine (full_yes m hn _ N hN hA).mono ?_; rintro e w1 ⟨rfl, T1, N1⟩; have A1 := hA.below hN T1; have d01 : w1.cell? ⟨m.b, 0, none⟩ = some (.int .i64 2) := A1.c0.trans (by rw [Ht.out]; rfl); have q1 := hq.below hN T1; clear d0)
    | (go_at_call 39; refine (remove_any m 0 h0 (by omega) _ A1).mono ?_; rintro e w2 ⟨rfl, t2, s2, A2⟩; have N2 : Sz w2 N := s2.trans N1; have q2 := q1.turn t2 hqF; clear d01)
    | (go_at_call 27; refine (put_any (m.del 0) key q cq D (by show m.n - 1 ≤ 1000; omega) h1 h2 _ N N2 A2 q2).mono ?_; rintro e w3 ⟨rfl, p3⟩)
    | fail)
  go_ret
  obtain ⟨T3, p', cap', A3, hp⟩ := p3
  exact ⟨rfl, (turn_low hN T1 t2).trans T3 (fun j hj _ => hj), p', cap', N, Nat.le_refl N, A3, hp⟩
set_option maxRecDepth 100000 in
theorem add_old (m : Mp) (key : ByteArray) (h0 : m.ty ≠ 0) (q : Value) (w : World) (hA : MpAt w m) :
    Calls Tryd.prog 42 #[.pointer (some ⟨m.b, 0, none⟩), .string key, q, .int .u64 2] w fun e w' => e = .returned (.int .i64 2) ∧ w = w' := by
  have d0 := hA.c0
  have t0 : ((m.ty : Int) == 0) = false := by rw [beq_eq_false_iff_ne]; omega
  go_enter Tryd.func42, Tryd.ntmps42
  go_wp2
  go_ret
  exact ⟨rfl, rfl⟩
set_option maxRecDepth 100000 in
theorem add_array (m : Mp) (key : ByteArray) (h0 : m.ty = 0) (q f : Value) (w : World) (hA : MpAt w m) :
    Calls Tryd.prog 42 #[.pointer (some ⟨m.b, 0, none⟩), .string key, q, f] w fun e w' => e = .returned (.int .i64 7) ∧ w = w' := by
  have d0 := hA.c0
  rw [h0] at d0
  clear h0
  go_enter Tryd.func42, Tryd.ntmps42
  go_wp2
  go_ret
  exact ⟨rfl, rfl⟩
end Go.Proofs.YtjdclgnlnehjlaaDoor
namespace Go.Proofs.YtjdclgnlnehjlaaDoor
open Go Go.RowKit
theorem keyIs_of (m : Mp) (T n : Nat) (hT : m.ty = T) (hn : m.key = n) (h : T ≠ 3 ∧ T ≠ 4 ∧ T ≠ 5) (D : Nat → BitVec 8) : KeyIs m D (strOf D n) := by
  subst hT; subst hn; exact ⟨h.1, h.2.1, h.2.2, rfl⟩
/-- t stands at k, for the first time. -/
def KAt (m : Mp) (t : ByteArray) (k : Nat) : Prop := k < m.n ∧ (m.E k).k = t ∧ ∀ i, i < k → (m.E i).k ≠ t
def KNo (m : Mp) (t : ByteArray) : Prop := ∀ i, i < m.n → (m.E i).k ≠ t
set_option maxRecDepth 100000 in
theorem Cell_at (m : Mp) (D : Nat → BitVec 8) (t : ByteArray) (hK : KeyIs m D t) (ht : m.ty ≠ 2) (k : Nat) (hk : KAt m t k) (hn : m.n ≤ 1000) (q : Option Addr) (c : Nat) (w : World) (N : Nat) (hN : Sz w N) (hA : MpAt w m) (hq : Ats w q m.key (fun j => By (D j))) :
    Calls Tryd.prog 33 #[.pointer (some ⟨m.b, 0, none⟩), .slice q m.key c] w fun e w' => e = .returned (.tuple #[.pointer (some ⟨(m.E k).c, 0, none⟩), .int .i64 0]) ∧ Below N w w' := by
  have kn : ((k : Int) == -1) = false := by rw [beq_eq_false_iff_ne]; omega
  have h5 := hK.2.2.1
  obtain ⟨hk, hz, hl⟩ := hk
  have Hz := hid hz
  have Hl := hid hl
  clear hz hl
  go_enter Tryd.func33, Tryd.ntmps33
  go_wp2_with (first
    | (go_at_call 40; refine (keyText_ok m D t hK q c _ N hN hA hq).mono ?_; rintro e w1 ⟨rfl, hb1⟩; obtain ⟨M1, hM1⟩ := sz_some w1; have L1 := below_sz hb1 hN hM1; have A1 := hA.below hN hb1)
    | (go_at_call 58; refine (nearest_at m t h5 k hk Hz.out Hl.out hn _ M1 hM1 A1).mono ?_; rintro e w2 ⟨rfl, hb2⟩; have A2 := A1.below hM1 hb2; obtain ⟨M2, hM2⟩ := sz_some w2; have L2 := below_sz hb2 hM1 hM2)
    | (go_at_call 44; refine (use_plain m k hk hn ht _ M2 hM2 A2).mono ?_; rintro e w3 ⟨rfl, hb3⟩)
    | fail)
  go_ret2
  exact ⟨rfl, (hb1.trans (hb2.mono L1)).trans (hb3.mono (by omega))⟩
/-- A value came back, in new memory, and all is well. -/
def Val (N v : Nat) (D : Nat → BitVec 8) (e : Ending) (w' : World) : Prop := ∃ M, N ≤ M ∧ e = .returned (.tuple #[.slice (some ⟨M, 0, none⟩) v v, .int .i64 0]) ∧ Has w' M 5 v (fun j => By (D j))
set_option maxRecDepth 100000 in
theorem Look_at (m : Mp) (D : Nat → BitVec 8) (t : ByteArray) (hK : KeyIs m D t) (ht : m.ty ≠ 2) (k : Nat) (hk : KAt m t k) (hn : m.n ≤ 1000) (v : Nat) (hv : m.val = v) (h1 : 1 ≤ v) (h2 : v ≤ 64) (q : Option Addr) (c : Nat) (w : World) (N : Nat) (hN : Sz w N) (hA : MpAt w m) (hq : Ats w q m.key (fun j => By (D j))) :
    Calls Tryd.prog 16 #[.pointer (some ⟨m.b, 0, none⟩), .slice q m.key c] w fun e w' => Val N v (m.E k).v e w' ∧ Below N w w' := by
  subst hv
  have hkn := hk.1
  go_enter Tryd.func16, Tryd.ntmps16
  go_wp2_with (first
    | (go_at_call 33; refine (Cell_at m D t hK ht k hk hn q c _ N hN hA hq).mono ?_; rintro e w1 ⟨rfl, hb1⟩; obtain ⟨M1, hM1⟩ := sz_some w1; have L1 := below_sz hb1 hN hM1; have A1 := hA.below hN hb1)
    | (go_at_call 35; refine (value_any m (m.E k).c (m.E k).b (m.E k).v h1 h2 _ M1 hM1 A1 (A1.c k hkn) (A1.v k hkn)).mono ?_; rintro e w2 ⟨rfl, hb2, hN2, hv2⟩)
    | fail)
  go_ret2
  exact ⟨⟨M1, L1, rfl, hv2⟩, hb1.trans (hb2.mono L1)⟩
set_option maxRecDepth 100000 in
theorem Upd_new (m : Mp) (D : Nat → BitVec 8) (t : ByteArray) (hK : KeyIs m D t) (hfz : m.fz = false) (h0 : m.ty ≠ 0) (hk : KNo m t) (f : Nat) (hf : f ≤ 1) (hn : m.n < m.ent) (he : m.ent ≤ 64) (h1 : 1 ≤ m.val) (h2 : m.val ≤ 64) (q : Option Addr) (c : Nat) (x : Option Addr) (cx : Nat) (X : Nat → BitVec 8)
    (w : World) (N : Nat) (hN : Sz w N) (hA : MpAt w m) (hq : Ats w q m.key (fun j => By (D j))) (hx : Ats w x m.val (fun j => By (X j))) :
    Calls Tryd.prog 19 #[.pointer (some ⟨m.b, 0, none⟩), .slice q m.key c, .slice x m.val cx, .int .u64 (f : Int)] w fun e w' => e = .returned (.int .i64 0) ∧ PutLater m N t X w w' := by
  have d4 := hA.c4
  rw [hfz] at d4
  have tf : decide ((2 : Int) < (f : Int)) = false := by rw [decide_eq_false_iff_not]; omega
  have tf' : ¬ ((2 : Int) < (f : Int)) := by omega
  have Hk := hid hk
  clear hk hfz
  go_enter Tryd.func19, Tryd.ntmps19
  go_wp2_with (first
    | (go_at_call 40; refine (keyText_ok m D t hK q c _ N hN hA hq).mono ?_; rintro e w1 ⟨rfl, hb1⟩; obtain ⟨M1, hM1⟩ := sz_some w1; have L1 := below_sz hb1 hN hM1; have A1 := hA.below hN hb1; have d2 := A1.c2; have x1 := hx.below hN hb1; clear d4)
    | (go_at_call 41; refine (place_no m t Hk.out (by omega) _ M1 hM1 A1).mono ?_; rintro e w2 ⟨rfl, hb2⟩; have A2 := A1.below hM1 hb2; have x2 := x1.below hM1 hb2; obtain ⟨M2, hM2⟩ := sz_some w2; clear d2)
    | (go_at_call 42; refine (add_new m t f hf h0 hn he x cx X h1 h2 _ M2 hM2 A2 x2).mono ?_; rintro e w3 ⟨rfl, p3⟩)
    | fail)
  go_ret
  exact ⟨rfl, (p3.low hM1 hb2 hM2).low hN hb1 hM1⟩
end Go.Proofs.YtjdclgnlnehjlaaDoor
