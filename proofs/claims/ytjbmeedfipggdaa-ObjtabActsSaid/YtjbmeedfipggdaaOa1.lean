/- Both tables of ObjtabActs: they hold the same objects, each where it lies; calls on no table. -/
import Derived.Test.YtjbmeedfipggdaaRt2
import Derived.Test.YtjbmeedfipggdaaObLI
import Derived.Test.YtjbmeedfipggdaaObHI
import Derived.Test.YtjbmeedfipggdaaOl1
namespace Go.Proofs.Ytjbmeedfipggdaa
open Go Go.RowKit
set_option maxRecDepth 100000 in
theorem onone_any (w : World) : Calls Try.prog 9 #[] w fun e w' => e = .returned (.pointer none) ∧ w = w' := by
  go_enter Try.func9, Try.ntmps9
  go_wp2
  go_ret
  exact ⟨rfl, rfl⟩
set_option maxRecDepth 100000 in
theorem MakeI_nil (x : Int) (w : World) : Calls Try.prog 10 #[.pointer none, .int .i64 x] w fun e w' => e = .returned (.tuple #[.int .i64 0, .int .i64 22]) ∧ w = w' := by
  go_enter Try.func10, Try.ntmps10
  go_wp2
  go_ret2
  exact ⟨rfl, rfl⟩
set_option maxRecDepth 100000 in
theorem DropI_nil (x : Int) (w : World) : Calls Try.prog 11 #[.pointer none, .int .i64 x] w fun e w' => e = .returned (.tuple #[.bool false, .int .i64 22]) ∧ w = w' := by
  go_enter Try.func11, Try.ntmps11
  go_wp2
  go_ret2
  exact ⟨rfl, rfl⟩
set_option maxRecDepth 100000 in
theorem GetI_nil (x : Int) (w : World) : Calls Try.prog 12 #[.pointer none, .int .i64 x] w fun e w' => e = .returned (.tuple #[.int .i64 0, .int .i64 22]) ∧ w = w' := by
  go_enter Try.func12, Try.ntmps12
  go_wp2
  go_ret2
  exact ⟨rfl, rfl⟩
set_option maxRecDepth 100000 in
theorem HoldI_nil (x : Int) (w : World) : Calls Try.prog 14 #[.pointer none, .int .i64 x] w fun e w' => e = .returned (.int .i64 22) ∧ w = w' := by
  go_enter Try.func14, Try.ntmps14
  go_wp2
  go_ret
  exact ⟨rfl, rfl⟩
set_option maxRecDepth 100000 in
theorem HeldI_nil (x : Int) (w : World) : Calls Try.prog 15 #[.pointer none, .int .i64 x] w fun e w' => e = .returned (.int .i64 0) ∧ w = w' := by
  go_enter Try.func15, Try.ntmps15
  go_wp2
  go_ret
  exact ⟨rfl, rfl⟩
set_option maxRecDepth 100000 in
theorem LiveI_nil (w : World) : Calls Try.prog 16 #[.pointer none] w fun e w' => e = .returned (.slice none 0 0) ∧ w = w' := by
  go_enter Try.func16, Try.ntmps16
  go_wp2
  go_ret
  exact ⟨rfl, rfl⟩
set_option maxRecDepth 100000 in
theorem ONewI_bad (z : Int) (h : z < 1 ∨ 64 < z) (w : World) : Calls Try.prog 17 #[.int .i64 z] w fun e w' => e = .returned (.tuple #[.pointer none, .int .i64 22]) ∧ w = w' := by
  by_cases h1 : z < 1
  · go_enter Try.func17, Try.ntmps17
    go_wp2
    go_ret2
    exact ⟨rfl, rfl⟩
  · have h2 : 64 < z := by omega
    clear h
    go_enter Try.func17, Try.ntmps17
    go_wp2
    go_ret2
    exact ⟨rfl, rfl⟩
/-- Number, object, count, as the document's table has them. -/
def sw (E : Nat → En Int) : Nat → En Int := fun k => ⟨(E k).id, (E k).x, (E k).held⟩
theorem sw_set (E : Nat → En Int) (k : Nat) (e : En Int) : sw (setE E k e) = setE (sw E) k ⟨e.id, e.x, e.held⟩ := by
  funext j; unfold sw setE; by_cases h : j = k <;> simp [h]
theorem sw_del (E : Nat → En Int) (k : Nat) : sw (delE E k) = delE (sw E) k := by
  funext j; unfold sw delE; by_cases h : j < k <;> simp [h]
/-- The code's table and the document's. -/
structure Ac (w0 : World) (N b d : Nat) (size lo : Int) (p : Option Addr) (no cap : Nat) (Eo : Nat → En Int) (lr : Int) (q : Option Addr) (nr capq : Nat) (Er : Nat → En Int) (w : World) : Prop where
  o : ObI w b size lo p no cap Eo
  r : Rt w d size lr q nr capq Er
  bd : b ≠ d
  bn : N ≤ b
  dn : N ≤ d
  pn : ∀ g, blk p = some g → N ≤ g ∧ g ≠ d
  qn : ∀ g, blk q = some g → N ≤ g ∧ g ≠ b
  pq : ∀ g, blk p = some g → blk q ≠ some g
  bel : Below N w0 w
section
variable {w0 w w' : World} {N b d M : Nat} {size lo lr lo' lr' : Int} {p q p' q' : Option Addr} {no nr cap capq no' nr' cap' capq' : Nat} {Eo Er Eo' Er' : Nat → En Int}
theorem Ac.stepO (h : Ac w0 N b d size lo p no cap Eo lr q nr capq Er w) (hN : Sz w0 N) (hM : Sz w M) (T : Turn (fun j => j = b ∨ blk p = some j) w w') (hp : ∀ g, blk p' = some g → blk p = some g ∨ M ≤ g) (O : ObI w' b size lo' p' no' cap' Eo') :
    Ac w0 N b d size lo' p' no' cap' Eo' lr q nr capq Er w' := by
  have hNM := below_sz h.bel hN hM
  have dM := h.r.h.ltN hM
  have qM : ∀ g, blk q = some g → g < M := fun g hg => by have := h.r.e.lt g hg; have e : w.heap.size = M := hM; omega
  refine ⟨O, ⟨h.r.h.turn T (fun e => ?_), h.r.e.turn T (fun g hg e => ?_), h.r.ne⟩, h.bd, h.bn, h.dn, fun g hg => ?_, h.qn, fun g hg e => ?_, T.below h.bel (fun j hj => ?_) (below_le h.bel hN)⟩
  · rcases e with e | e
    · exact h.bd e.symm
    · exact (h.pn d e).2 rfl
  · rcases e with e | e
    · exact (h.qn g hg).2 e
    · exact h.pq g e hg
  · rcases hp g hg with e | e
    · exact h.pn g e
    · exact ⟨by omega, by omega⟩
  · rcases hp g hg with e' | e'
    · exact h.pq g e' e
    · have := qM g e; omega
  · rcases hj with e | e
    · rw [e]; exact h.bn
    · exact (h.pn j e).1
theorem Ac.stepR (h : Ac w0 N b d size lo p no cap Eo lr q nr capq Er w) (hN : Sz w0 N) (hM : Sz w M) (T : Turn (fun j => j = d ∨ blk q = some j) w w') (hq : ∀ g, blk q' = some g → blk q = some g ∨ M ≤ g) (O : Rt w' d size lr' q' nr' capq' Er') :
    Ac w0 N b d size lo p no cap Eo lr' q' nr' capq' Er' w' := by
  have hNM := below_sz h.bel hN hM
  have bM := h.o.h.ltN hM
  have pM : ∀ g, blk p = some g → g < M := fun g hg => by have := h.o.e.lt g hg; have e : w.heap.size = M := hM; omega
  refine ⟨⟨h.o.h.turn T (fun e => ?_), h.o.e.turn T (fun g hg e => ?_), h.o.ne⟩, O, h.bd, h.bn, h.dn, h.pn, fun g hg => ?_, fun g hg e => ?_, T.below h.bel (fun j hj => ?_) (below_le h.bel hN)⟩
  · rcases e with e | e
    · exact h.bd e
    · exact (h.qn b e).2 rfl
  · rcases e with e | e
    · exact (h.pn g hg).2 e
    · exact h.pq g hg e
  · rcases hq g hg with e | e
    · exact h.qn g e
    · exact ⟨by omega, by omega⟩
  · rcases hq g e with e' | e'
    · exact h.pq g hg e'
    · have := pM g hg; omega
  · rcases hj with e | e
    · rw [e]; exact h.dn
    · exact (h.qn j e).1
theorem Ac.below (h : Ac w0 N b d size lo p no cap Eo lr q nr capq Er w) (hN : Sz w0 N) (hM : Sz w M) (hb : Below M w w') : Ac w0 N b d size lo p no cap Eo lr q nr capq Er w' :=
  ⟨h.o.below hM hb, ⟨h.r.h.below hb (h.r.h.ltN hM), h.r.e.below hb (Nat.le_of_eq hM), h.r.ne⟩, h.bd, h.bn, h.dn, h.pn, h.qn, h.pq, h.bel.trans (hb.mono (below_sz h.bel hN hM))⟩
end
/-- The objects' numbers rise; each is held. -/
structure Iv (size j last n : Nat) (E : Nat → En Int) : Prop where
  ns : n ≤ size
  lj : last ≤ j
  id : ∀ k, k < n → 1 ≤ (E k).id ∧ (E k).id ≤ (last : Int)
  held : ∀ k, k < n → 1 ≤ (E k).held ∧ (E k).held ≤ 1000
  up : ∀ a c, a < c → c < n → (E a).id < (E c).id
section
variable {size j last n : Nat} {E : Nat → En Int}
theorem Iv.other (h : Iv size j last n E) {k i : Nat} (hk : k < n) (hi : i < k) {z : Int} (hz : (E k).id = z) : (E i).id ≠ z := by
  have := h.up i k hi hk; omega
theorem Iv.more (h : Iv size j last n E) : Iv size (j + 1) last n E := ⟨h.ns, Nat.le_succ_of_le h.lj, h.id, h.held, h.up⟩
theorem Iv.make (h : Iv size j last n E) (hn : n < size) (x : Int) : Iv size (j + 1) (last + 1) (n + 1) (setE E n ⟨(last : Int) + 1, 1, x⟩) := by
  have hlj := h.lj
  refine ⟨by omega, by omega, fun k hk => ?_, fun k hk => ?_, fun a c hac hc => ?_⟩
  · unfold setE
    by_cases e : k = n
    · rw [if_pos e]; exact ⟨by show (1 : Int) ≤ (last : Int) + 1; omega, by show (last : Int) + 1 ≤ _; omega⟩
    · rw [if_neg e]; have := h.id k (by omega); exact ⟨this.1, by omega⟩
  · unfold setE
    by_cases e : k = n
    · rw [if_pos e]; exact ⟨by show (1 : Int) ≤ 1; omega, by show (1 : Int) ≤ 1000; omega⟩
    · rw [if_neg e]; exact h.held k (by omega)
  · unfold setE
    rw [if_neg (show ¬ a = n by omega)]
    by_cases e : c = n
    · rw [if_pos e]; have := h.id a (by omega); show (E a).id < (last : Int) + 1; omega
    · rw [if_neg e]; exact h.up a c hac (by omega)
theorem Iv.set (h : Iv size j last n E) {k : Nat} (hk : k < n) {z : Int} (h1 : 1 ≤ z) (h2 : z ≤ 1000) : Iv size (j + 1) last n (setE E k ⟨(E k).id, z, (E k).x⟩) := by
  have hlj := h.lj
  have key : ∀ i, (setE E k ⟨(E k).id, z, (E k).x⟩ i).id = (E i).id := fun i => by
    unfold setE
    by_cases e : i = k
    · rw [if_pos e, e]
    · rw [if_neg e]
  refine ⟨h.ns, by omega, fun i hi => by rw [key]; exact h.id i hi, fun i hi => ?_, fun a c hac hc => by rw [key, key]; exact h.up a c hac hc⟩
  unfold setE
  by_cases e : i = k
  · rw [if_pos e]; exact ⟨h1, h2⟩
  · rw [if_neg e]; exact h.held i hi
theorem Iv.del (h : Iv size j last n E) {k : Nat} (hk : k < n) : Iv size (j + 1) last (n - 1) (delE E k) := by
  have hlj := h.lj
  have hns := h.ns
  refine ⟨by omega, by omega, fun i hi => ?_, fun i hi => ?_, fun a c hac hc => ?_⟩
  · unfold delE; split
    · exact h.id i (by omega)
    · exact h.id (i + 1) (by omega)
  · unfold delE; split
    · exact h.held i (by omega)
    · exact h.held (i + 1) (by omega)
  · unfold delE
    by_cases h1 : a < k
    · rw [if_pos h1]
      split
      · exact h.up a c hac (by omega)
      · exact h.up a (c + 1) (by omega) (by omega)
    · rw [if_neg h1, if_neg (by omega)]
      exact h.up (a + 1) (c + 1) (by omega) (by omega)
end
/-- Both tables hold the same objects, behind j calls. -/
def StA (w0 : World) (N b d size j : Nat) (w : World) : Prop :=
  ∃ (last n : Nat) (E : Nat → En Int) (p : Option Addr) (cap : Nat) (q : Option Addr) (capq : Nat), Iv size j last n E ∧ Ac w0 N b d (size : Int) (last : Int) p n cap E (last : Int) q n capq (sw E) w
end Go.Proofs.Ytjbmeedfipggdaa
