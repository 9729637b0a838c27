/- bmap: keyText, nearest, add, Cell, Lookup, Update, Delete. -/
import Derived.Test.YtjcjmlmdcjkceaaBm5r
namespace Go.Proofs.Ytjcjmlmdcjkceaa
open Go Go.RowKit
/-- t is what the bytes D say of such a map's key. -/
def KeyIs (m : Mp) (D : Nat → BitVec 8) (t : ByteArray) : Prop := m.ty ≠ 3 ∧ m.ty ≠ 4 ∧ m.ty ≠ 5 ∧ t = strOf D m.key
theorem KeyIs.of {m m' : Mp} {D : Nat → BitVec 8} {t : ByteArray} (h : KeyIs m D t) (h1 : m'.ty = m.ty) (h2 : m'.key = m.key) : KeyIs m' D t := by
  unfold KeyIs at *; rw [h1, h2]; exact h
/-- The entry's bytes are others. -/
theorem MpAt.setv {w w' : World} {m : Mp} (hA : MpAt w m) (k : Nat) (hk : k < m.n) (D : Nat → BitVec 8) (ht : Touch (m.E k).b w w') (hb : Has w' (m.E k).b 5 m.val (fun j => By (D j))) : MpAt w' (m.set k D) := by
  have e : ∀ i, ((m.set k D).E i).c = (m.E i).c ∧ ((m.set k D).E i).b = (m.E i).b ∧ ((m.set k D).E i).k = (m.E i).k := fun i => by
    simp only [Mp.set, setF]
    by_cases hik : i = k
    · rw [if_pos hik, hik]; exact ⟨rfl, rfl, rfl⟩
    · rw [if_neg hik]; exact ⟨rfl, rfl, rfl⟩
  refine ⟨(hA.h.touch ht (hA.cb k hk).2.symm).congr (fun j _ => rfl), ?_, fun i hi => ?_, fun i hi => ?_, fun i j hi hj hij => ?_⟩
  · refine (hA.e.touch ht (fun g hg => (hA.cp k hk g hg).2.symm)).congr (fun j hj => ?_)
    show me1 (m.E (j / 2)) (j % 2) = me1 ((m.set k D).E (j / 2)) (j % 2)
    unfold me1
    rw [(e _).1, (e _).2.2]
  · rw [(e i).1, (e i).2.1]
    exact (hA.c i hi).touch ht (hA.cc i k hi hk)
  · rw [(e i).2.1]
    by_cases hik : i = k
    · subst hik
      refine hb.congr (fun j _ => ?_)
      simp only [Mp.set, setF_self]
    · refine ((hA.v i hi).touch ht (hA.inj i k hi hk hik).2).congr (fun j _ => ?_)
      simp only [Mp.set, setF_ne _ _ _ hik]
  · rw [(e i).1, (e i).2.1, (e j).1, (e j).2.1]
    exact hA.inj i j hi hj hij
set_option maxRecDepth 100000 in
theorem keyText_ok (m : Mp) (D : Nat → BitVec 8) (t : ByteArray) (hK : KeyIs m D t) (q : Option Addr) (c : Nat) (w : World) (N : Nat) (hN : Sz w N) (hA : MpAt w m) (hq : Ats w q m.key (fun j => By (D j))) :
    Calls Try.prog 40 #[.pointer (some ⟨m.b, 0, none⟩), .slice q m.key c] w fun e w' => e = .returned (.tuple #[.string t, .bool true]) ∧ Below N w w' := by
  obtain ⟨h3, h4, h5, rfl⟩ := hK
  have d0 := hA.c0
  have d1 := hA.c1
  have t5 : ((m.ty : Int) != 5) = true := by rw [bne_iff_ne]; omega
  have hcv := run_string (P := Try.prog) w 32 9 5 undBB undBy undBS q m.key c D hq
  have Hcv := hid hcv
  clear hcv
  go_enter Try.func40, Try.ntmps40
  go_wp2_with (first
    | (go_at_call 52; refine (isLine_no m h3 h4 _ hA).mono ?_; rintro e w1 ⟨rfl, rfl⟩)
    | (refine wpl_conv rfl 32 9 (.tmp 20) rfl _ (.string (strOf D m.key)) rfl Hcv.out ?_)
    | fail)
  go_ret2
  exact ⟨rfl, Below.refl _ _⟩
set_option maxRecDepth 100000 in
theorem nearest_at (m : Mp) (key : ByteArray) (h5 : m.ty ≠ 5) (k : Nat) (hk : k < m.n) (hz : (m.E k).k = key) (hl : ∀ i, i < k → (m.E i).k ≠ key) (hn : m.n ≤ 1000) (w : World) (N : Nat) (hN : Sz w N) (hA : MpAt w m) :
    Calls Try.prog 45 #[.pointer (some ⟨m.b, 0, none⟩), .string key] w fun e w' => e = .returned (.int .i64 (k : Int)) ∧ Below N w w' := by
  have d0 := hA.c0
  have t5 : ((m.ty : Int) != 5) = true := by rw [bne_iff_ne]; omega
  have Hz := hid hz
  have Hl := hid hl
  clear hz hl
  go_enter Try.func45, Try.ntmps45
  go_wp2_with (first
    | (go_at_call 41; refine (place_at m key k hk Hz.out Hl.out hn _ N hN hA).mono ?_; rintro e w1 ⟨rfl, hb1⟩)
    | fail)
  go_ret
  exact ⟨rfl, hb1⟩
theorem turn_low {S : Nat → Prop} {N : Nat} {w w1 w2 : World} (hN : Sz w N) (hb : Below N w w1) (t : Turn S w1 w2) : Turn S w w2 := (turn_below hN hb S).trans t (fun _ h _ => h)
end Go.Proofs.Ytjcjmlmdcjkceaa
