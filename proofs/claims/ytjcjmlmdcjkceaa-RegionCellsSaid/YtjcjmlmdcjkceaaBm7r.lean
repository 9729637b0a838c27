/- bmap: Cell, Lookup, Update, Delete. -/
import Derived.Test.YtjcjmlmdcjkceaaBm6r
namespace Go.Proofs.Ytjcjmlmdcjkceaa
open Go Go.RowKit
theorem keyIs_of (m : Mp) (T n : Nat) (hT : m.ty = T) (hn : m.key = n) (h : T ≠ 3 ∧ T ≠ 4 ∧ T ≠ 5) (D : Nat → BitVec 8) : KeyIs m D (strOf D n) := by
  subst hT; subst hn; exact ⟨h.1, h.2.1, h.2.2, rfl⟩
/-- t stands at k, for the first time. -/
def KAt (m : Mp) (t : ByteArray) (k : Nat) : Prop := k < m.n ∧ (m.E k).k = t ∧ ∀ i, i < k → (m.E i).k ≠ t
set_option maxRecDepth 100000 in
theorem Cell_at (m : Mp) (D : Nat → BitVec 8) (t : ByteArray) (hK : KeyIs m D t) (ht : m.ty ≠ 2) (k : Nat) (hk : KAt m t k) (hn : m.n ≤ 1000) (q : Option Addr) (c : Nat) (w : World) (N : Nat) (hN : Sz w N) (hA : MpAt w m) (hq : Ats w q m.key (fun j => By (D j))) :
    Calls Try.prog 22 #[.pointer (some ⟨m.b, 0, none⟩), .slice q m.key c] w fun e w' => e = .returned (.tuple #[.pointer (some ⟨(m.E k).c, 0, none⟩), .int .i64 0]) ∧ Below N w w' := by
  have kn : ((k : Int) == -1) = false := by rw [beq_eq_false_iff_ne]; omega
  have h5 := hK.2.2.1
  obtain ⟨hk, hz, hl⟩ := hk
  have Hz := hid hz
  have Hl := hid hl
  clear hz hl
  go_enter Try.func22, Try.ntmps22
  go_wp2_with (first
    | (go_at_call 40; refine (keyText_ok m D t hK q c _ N hN hA hq).mono ?_; rintro e w1 ⟨rfl, hb1⟩; obtain ⟨M1, hM1⟩ := sz_some w1; have L1 := below_sz hb1 hN hM1; have A1 := hA.below hN hb1)
    | (go_at_call 45; refine (nearest_at m t h5 k hk Hz.out Hl.out hn _ M1 hM1 A1).mono ?_; rintro e w2 ⟨rfl, hb2⟩; have A2 := A1.below hM1 hb2; obtain ⟨M2, hM2⟩ := sz_some w2; have L2 := below_sz hb2 hM1 hM2)
    | (go_at_call 44; refine (use_plain m k hk hn ht _ M2 hM2 A2).mono ?_; rintro e w3 ⟨rfl, hb3⟩)
    | fail)
  go_ret2
  exact ⟨rfl, (hb1.trans (hb2.mono L1)).trans (hb3.mono (by omega))⟩
/-- A value came back, in new memory, and all is well. -/
def Val (N v : Nat) (D : Nat → BitVec 8) (e : Ending) (w' : World) : Prop := ∃ M, N ≤ M ∧ e = .returned (.tuple #[.slice (some ⟨M, 0, none⟩) v v, .int .i64 0]) ∧ Has w' M 5 v (fun j => By (D j))
set_option maxRecDepth 100000 in
theorem Look_at (m : Mp) (D : Nat → BitVec 8) (t : ByteArray) (hK : KeyIs m D t) (ht : m.ty ≠ 2) (k : Nat) (hk : KAt m t k) (hn : m.n ≤ 1000) (v : Nat) (hv : m.val = v) (h1 : 1 ≤ v) (h2 : v ≤ 64) (q : Option Addr) (c : Nat) (w : World) (N : Nat) (hN : Sz w N) (hA : MpAt w m) (hq : Ats w q m.key (fun j => By (D j))) :
    Calls Try.prog 23 #[.pointer (some ⟨m.b, 0, none⟩), .slice q m.key c] w fun e w' => Val N v (m.E k).v e w' ∧ Below N w w' := by
  subst hv
  have hkn := hk.1
  go_enter Try.func23, Try.ntmps23
  go_wp2_with (first
    | (go_at_call 22; refine (Cell_at m D t hK ht k hk hn q c _ N hN hA hq).mono ?_; rintro e w1 ⟨rfl, hb1⟩; obtain ⟨M1, hM1⟩ := sz_some w1; have L1 := below_sz hb1 hN hM1; have A1 := hA.below hN hb1)
    | (go_at_call 46; refine (value_any m (m.E k).c (m.E k).b (m.E k).v h1 h2 _ M1 hM1 A1 (A1.c k hkn) (A1.v k hkn)).mono ?_; rintro e w2 ⟨rfl, hb2, hN2, hv2⟩)
    | fail)
  go_ret2
  exact ⟨⟨M1, L1, rfl, hv2⟩, hb1.trans (hb2.mono L1)⟩
end Go.Proofs.Ytjcjmlmdcjkceaa
