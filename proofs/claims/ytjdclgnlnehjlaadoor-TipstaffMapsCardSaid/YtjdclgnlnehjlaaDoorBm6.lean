/- bmap: keyText, nearest, add, Cell, Lookup, Update, Delete. -/
import Derived.Test.YtjdclgnlnehjlaaDoorBm5
namespace Go.Proofs.YtjdclgnlnehjlaaDoor
open Go Go.RowKit
/-- t is what the bytes D say of such a map's key. -/
def KeyIs (m : Mp) (D : Nat → BitVec 8) (t : ByteArray) : Prop := m.ty ≠ 3 ∧ m.ty ≠ 4 ∧ m.ty ≠ 5 ∧ t = strOf D m.key
theorem KeyIs.of {m m' : Mp} {D : Nat → BitVec 8} {t : ByteArray} (h : KeyIs m D t) (h1 : m'.ty = m.ty) (h2 : m'.key = m.key) : KeyIs m' D t := by
  unfold KeyIs at *; rw [h1, h2]; exact h
/-- The entry's bytes are others. -/
theorem MpAt.setv {w w' : World} {m : Mp} (hA : MpAt w m) (k : Nat) (hk : k < m.n) (D : Nat → BitVec 8) (ht : Touch (m.E k).b w w') (hb : Has w' (m.E k).b 5 m.val (fun j => By (D j))) : MpAt w' (m.set k D) := by
  have e : ∀ i, ((m.set k D).E i).c = (m.E i).c ∧ ((m.set k D).E i).b = (m.E i).b ∧ ((m.set k D).E i).k = (m.E i).k := fun i => by
    simp only [Mp.set, setF]
    by_cases hik : i = k
    · rw [if_pos hik, hik]; exact ⟨rfl, rfl, rfl⟩
    · rw [if_neg hik]; exact ⟨rfl, rfl, rfl⟩
  refine ⟨(hA.h.touch ht (hA.cb k hk).2.symm).congr (fun j _ => rfl), ?_, fun i hi => ?_, fun i hi => ?_, fun i j hi hj hij => ?_⟩
  · refine (hA.e.touch ht (fun g hg => (hA.cp k hk g hg).2.symm)).congr (fun j hj => ?_)
    show me1 (m.E (j / 2)) (j % 2) = me1 ((m.set k D).E (j / 2)) (j % 2)
    unfold me1
    rw [(e _).1, (e _).2.2]
  · rw [(e i).1, (e i).2.1]
    exact (hA.c i hi).touch ht (hA.cc i k hi hk)
  · rw [(e i).2.1]
    by_cases hik : i = k
    · subst hik
      refine hb.congr (fun j _ => ?_)
      simp only [Mp.set, setF_self]
    · refine ((hA.v i hi).touch ht (hA.inj i k hi hk hik).2).congr (fun j _ => ?_)
      simp only [Mp.set, setF_ne _ _ _ hik]
  · rw [(e i).1, (e i).2.1, (e j).1, (e j).2.1]
    exact hA.inj i j hi hj hij
set_option maxRecDepth 100000 in
theorem keyText_ok (m : Mp) (D : Nat → BitVec 8) (t : ByteArray) (hK : KeyIs m D t) (q : Option Addr) (c : Nat) (w : World) (N : Nat) (hN : Sz w N) (hA : MpAt w m) (hq : Ats w q m.key (fun j => By (D j))) :
    Calls Tryd.prog 40 #[.pointer (some ⟨m.b, 0, none⟩), .slice q m.key c] w fun e w' => e = .returned (.tuple #[.string t, .bool true]) ∧ Below N w w' := by
  obtain ⟨h3, h4, h5, rfl⟩ := hK
  have d0 := hA.c0
  have d1 := hA.c1
  have t5 : ((m.ty : Int) != 5) = true := by rw [bne_iff_ne]; omega
  have hcv := run_string (P := Tryd.prog) w 35 9 5 undBB undBy undBS q m.key c D hq
  have Hcv := hid hcv
  clear hcv
  go_enter Tryd.func40, Tryd.ntmps40
  go_wp2_with (first
    | (go_at_call 37; refine (isLine_no m h3 h4 _ hA).mono ?_; rintro e w1 ⟨rfl, rfl⟩)
    | (refine wpl_conv rfl 35 9 (.tmp 20) rfl _ (.string (strOf D m.key)) rfl Hcv.out ?_)
    | fail)
  go_ret2
  exact ⟨rfl, Below.refl _ _⟩
set_option maxRecDepth 100000 in
theorem nearest_at (m : Mp) (key : ByteArray) (h5 : m.ty ≠ 5) (k : Nat) (hk : k < m.n) (hz : (m.E k).k = key) (hl : ∀ i, i < k → (m.E i).k ≠ key) (hn : m.n ≤ 1000) (w : World) (N : Nat) (hN : Sz w N) (hA : MpAt w m) :
    Calls Tryd.prog 58 #[.pointer (some ⟨m.b, 0, none⟩), .string key] w fun e w' => e = .returned (.int .i64 (k : Int)) ∧ Below N w w' := by
  have d0 := hA.c0
  have t5 : ((m.ty : Int) != 5) = true := by rw [bne_iff_ne]; omega
  have Hz := hid hz
  have Hl := hid hl
  clear hz hl
  go_enter Tryd.func58, Tryd.ntmps58
  go_wp2_with (first
    | (go_at_call 41; refine (place_at m key k hk Hz.out Hl.out hn _ N hN hA).mono ?_; rintro e w1 ⟨rfl, hb1⟩)
    | fail)
  go_ret
  exact ⟨rfl, hb1⟩
set_option maxRecDepth 100000 in
theorem nearest_no (m : Mp) (key : ByteArray) (h5 : m.ty ≠ 5) (hl : ∀ i, i < m.n → (m.E i).k ≠ key) (hn : m.n ≤ 1000) (w : World) (N : Nat) (hN : Sz w N) (hA : MpAt w m) :
    Calls Tryd.prog 58 #[.pointer (some ⟨m.b, 0, none⟩), .string key] w fun e w' => e = .returned (.int .i64 (-1)) ∧ Below N w w' := by
  have d0 := hA.c0
  have t5 : ((m.ty : Int) != 5) = true := by rw [bne_iff_ne]; omega
  have Hl := hid hl
  clear hl
  go_enter Tryd.func58, Tryd.ntmps58
  go_wp2_with (first
    | (go_at_call 41; refine (place_no m key Hl.out hn _ N hN hA).mono ?_; rintro e w1 ⟨rfl, hb1⟩)
    | fail)
  go_ret
  exact ⟨rfl, hb1⟩
theorem turn_low {S : Nat → Prop} {N : Nat} {w w1 w2 : World} (hN : Sz w N) (hb : Below N w w1) (t : Turn S w1 w2) : Turn S w w2 := (turn_below hN hb S).trans t (fun _ h _ => h)
/-- An entry was put in, behind others. -/
def PutLater (m : Mp) (N : Nat) (key : ByteArray) (D : Nat → BitVec 8) (w w' : World) : Prop := ∃ M, N ≤ M ∧ Putted m M key D w w'
theorem PutLater.low {m : Mp} {N M : Nat} {key : ByteArray} {D : Nat → BitVec 8} {w w1 w2 : World} (hN : Sz w N) (hb : Below N w w1) (hM : Sz w1 M) (h : PutLater m M key D w1 w2) : PutLater m N key D w w2 := by
  obtain ⟨K, hK, T, h⟩ := h
  exact ⟨K, by have := below_sz hb hN hM; omega, turn_low hN hb T, h⟩
set_option maxRecDepth 100000 in
theorem add_new (m : Mp) (key : ByteArray) (f : Nat) (hf : f ≤ 1) (h0 : m.ty ≠ 0) (hn : m.n < m.ent) (he : m.ent ≤ 64) (q : Option Addr) (cq : Nat) (D : Nat → BitVec 8) (h1 : 1 ≤ m.val) (h2 : m.val ≤ 64) (w : World) (N : Nat) (hN : Sz w N) (hA : MpAt w m) (hq : Ats w q m.val (fun j => By (D j))) :
    Calls Tryd.prog 42 #[.pointer (some ⟨m.b, 0, none⟩), .string key, .slice q m.val cq, .int .u64 (f : Int)] w fun e w' => e = .returned (.int .i64 0) ∧ PutLater m N key D w w' := by
  have d0 := hA.c0
  have t0 : ((m.ty : Int) == 0) = false := by rw [beq_eq_false_iff_ne]; omega
  have tf : ((f : Int) == 2) = false := by rw [beq_eq_false_iff_ne]; omega
  go_enter Tryd.func42, Tryd.ntmps42
  go_wp2_with (first
    | (go_at_call 45; refine (full_no m hn _ N hN hA).mono ?_; rintro e w1 ⟨rfl, T1, N1⟩; have A1 := hA.below hN T1; have q1 := hq.below hN T1; clear d0)
    | (go_at_call 27; refine (put_any m key q cq D (by omega) h1 h2 _ N N1 A1 q1).mono ?_; rintro e w2 ⟨rfl, p2⟩)
    | fail)
  go_ret
  exact ⟨rfl, N, Nat.le_refl N, turn_low hN T1 p2.1, p2.2⟩
end Go.Proofs.YtjdclgnlnehjlaaDoor
