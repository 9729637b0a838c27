/- bmap: the words; isLine, full, set, value, Delete, remove, put. -/
import Derived.Test.YtjdclgnlnehjlaaDoorChecked
import Derived.Test.YtjdclgnlnehjlaaDoorBm0
import Derived.Test.YtjdclgnlnehjlaaDoorQTail
namespace Go.Proofs.YtjdclgnlnehjlaaDoor
open Go Go.RowKit
theorem undBE : Tryd.prog.underlying 57 = some (.slice 82) := by kernel_rfl
theorem undBB : Tryd.prog.underlying 35 = some (.slice 5) := by kernel_rfl
theorem undBy : Tryd.prog.underlying 5 = some (.int .u8) := by kernel_rfl
theorem undBS : Tryd.prog.underlying 9 = some .string := by kernel_rfl
theorem szBE : (Tryd.prog.info? 82).map (·.size) = some 2 := by kernel_rfl
theorem szSlBE : (Tryd.prog.info? 57).map (·.size) = some 1 := by kernel_rfl
theorem szSlBB : (Tryd.prog.info? 35).map (·.size) = some 1 := by kernel_rfl
theorem szBy : (Tryd.prog.info? 5).map (·.size) = some 1 := by kernel_rfl
theorem zBy : (Tryd.prog.info? 5).map (fun i => (i.zero, i.size, i.bytes)) = some (some (.int .u8 0), 1, 1) := by kernel_rfl
def me0 : Nat → Value := fun j => if j = 0 then .string ⟨#[]⟩ else .pointer none
theorem zBE : (Tryd.prog.info? 82).map (fun i => (i.zero, i.size)) = some (some (.agg (cellsOf me0 2)), 2) := by kernel_rfl
theorem kBE : KCell Tryd.prog 82 2 := kCell_of (v := .agg (cellsOf me0 2)) (k := 24) (by kernel_rfl) (by omega) rfl
theorem stBE : ∃ fs, Tryd.prog.underlying 82 = some (.struct fs) := by
  have h : (match Tryd.prog.underlying 82 with | some (.struct _) => true | _ => false) = true := by kernel_rfl
  cases e : Tryd.prog.underlying 82 with
  | none => rw [e] at h; cases h
  | some d => cases d <;> first | exact ⟨_, rfl⟩ | (rw [e] at h; cases h)
/-- A map lies there. -/
structure MpAt (w : World) (m : Mp) : Prop where
  h : Has w m.b 59 6 (mpC m)
  e : OwnK w 82 2 m.p m.n m.cap (meC m.E)
  c : ∀ i, i < m.n → Has w (m.E i).c 78 1 (fun _ => .slice (some ⟨(m.E i).b, 0, none⟩) m.val m.val)
  v : ∀ i, i < m.n → Has w (m.E i).b 5 m.val (fun j => By ((m.E i).v j))
  inj : ∀ i j, i < m.n → j < m.n → i ≠ j → (m.E i).c ≠ (m.E j).c ∧ (m.E i).b ≠ (m.E j).b
section
variable {w w' : World} {m : Mp}
theorem MpAt.c0 (h : MpAt w m) : w.cell? ⟨m.b, 0, none⟩ = some (.int .i64 (m.ty : Int)) := h.h.cell (by omega)
theorem MpAt.c1 (h : MpAt w m) : w.cell? ⟨m.b, 1, none⟩ = some (.int .i64 (m.key : Int)) := h.h.cell (by omega)
theorem MpAt.c2 (h : MpAt w m) : w.cell? ⟨m.b, 2, none⟩ = some (.int .i64 (m.val : Int)) := h.h.cell (by omega)
theorem MpAt.c3 (h : MpAt w m) : w.cell? ⟨m.b, 3, none⟩ = some (.int .i64 (m.ent : Int)) := h.h.cell (by omega)
theorem MpAt.c4 (h : MpAt w m) : w.cell? ⟨m.b, 4, none⟩ = some (.bool m.fz) := h.h.cell (by omega)
theorem MpAt.c5 (h : MpAt w m) : w.cell? ⟨m.b, 5, none⟩ = some (.slice m.p m.n m.cap) := h.h.cell (by omega)
theorem MpAt.ptr (h : MpAt w m) (h0 : 0 < m.n) : ∃ g, m.p = some ⟨g, 0, none⟩ := by
  obtain ⟨g, hg, _⟩ := h.e.cell h0
  exact ⟨g, hg⟩
theorem MpAt.at (h : MpAt w m) {g : Nat} (hg : m.p = some ⟨g, 0, none⟩) (k : Nat) (hk : k < m.n) (i : Nat) (hi : i < 2) : w.cell? ⟨g, k * 2 + i, none⟩ = some (me1 (m.E k) i) := by
  obtain ⟨g', hg', hc⟩ := h.e.cell (by omega)
  obtain rfl : g = g' := by rw [hg] at hg'; injection hg' with hg'; injection hg'
  have := hc (k * 2 + i) (by omega)
  rw [Nat.zero_add] at this
  rw [this, meC_at _ _ _ hi]
theorem MpAt.lt (h : MpAt w m) {N : Nat} (hN : Sz w N) (k : Nat) (hk : Foot m k) : k < N := by
  rcases hk with rfl | hk | ⟨i, hi, rfl | rfl⟩
  · exact h.h.ltN hN
  · have := h.e.lt k hk
    have e : w.heap.size = N := hN
    omega
  · exact (h.c i hi).ltN hN
  · exact (h.v i hi).ltN hN
theorem MpAt.turn {S : Nat → Prop} (h : MpAt w m) (t : Turn S w w') (hn : ∀ k, Foot m k → ¬ S k) : MpAt w' m :=
  ⟨h.h.turn t (hn _ (.inl rfl)), h.e.turn t (fun g hg => hn _ (.inr (.inl hg))), fun i hi => (h.c i hi).turn t (hn _ (.inr (.inr ⟨i, hi, .inl rfl⟩))), fun i hi => (h.v i hi).turn t (hn _ (.inr (.inr ⟨i, hi, .inr rfl⟩))), h.inj⟩
theorem MpAt.below {N : Nat} (h : MpAt w m) (hN : Sz w N) (hb : Below N w w') : MpAt w' m :=
  h.turn (turn_below hN hb (fun _ => False)) (fun _ _ h => h)
theorem MpAt.drew (h : MpAt w m) : MpAt w.drew m := ⟨h.h, h.e, h.c, h.v, h.inj⟩
theorem MpAt.drewN (h : MpAt w m) (k : Nat) : MpAt (w.drewN k) m := ⟨h.h, h.e, h.c, h.v, h.inj⟩
theorem MpAt.pb (h : MpAt w m) : ∀ g, blk m.p = some g → g ≠ m.b := fun g hg e => has_own h.h h.e (by decide) g hg e.symm
theorem MpAt.cb (h : MpAt w m) (i : Nat) (hi : i < m.n) : (m.E i).c ≠ m.b ∧ (m.E i).b ≠ m.b := ⟨has_types (h.c i hi) h.h (by decide), has_types (h.v i hi) h.h (by decide)⟩
theorem MpAt.cp (h : MpAt w m) (i : Nat) (hi : i < m.n) : ∀ g, blk m.p = some g → (m.E i).c ≠ g ∧ (m.E i).b ≠ g := fun g hg => ⟨has_own (h.c i hi) h.e (by decide) g hg, has_own (h.v i hi) h.e (by decide) g hg⟩
theorem MpAt.cc (h : MpAt w m) (i j : Nat) (hi : i < m.n) (hj : j < m.n) : (m.E i).c ≠ (m.E j).b := has_types (h.c i hi) (h.v j hj) (by decide)
end
set_option maxRecDepth 100000 in
theorem isLine_no (m : Mp) (h3 : m.ty ≠ 3) (h4 : m.ty ≠ 4) (w : World) (hA : MpAt w m) :
    Calls Tryd.prog 37 #[.pointer (some ⟨m.b, 0, none⟩)] w fun e w' => e = .returned (.bool false) ∧ w = w' := by
  have c0 := hA.c0
  have t3 : ((m.ty : Int) == 3) = false := by rw [beq_eq_false_iff_ne]; omega
  have t4 : ((m.ty : Int) == 4) = false := by rw [beq_eq_false_iff_ne]; omega
  go_enter Tryd.func37, Tryd.ntmps37
  go_wp2
  go_ret
  exact ⟨rfl, rfl⟩
set_option maxRecDepth 100000 in
theorem isLine_yes (m : Mp) (h3 : m.ty = 3 ∨ m.ty = 4) (w : World) (hA : MpAt w m) :
    Calls Tryd.prog 37 #[.pointer (some ⟨m.b, 0, none⟩)] w fun e w' => e = .returned (.bool true) ∧ w = w' := by
  have c0 := hA.c0
  rcases h3 with h3 | h3
  · rw [h3] at c0
    go_enter Tryd.func37, Tryd.ntmps37
    go_wp2
    go_ret
    exact ⟨rfl, rfl⟩
  · rw [h3] at c0
    go_enter Tryd.func37, Tryd.ntmps37
    go_wp2
    go_ret
    exact ⟨rfl, rfl⟩
set_option maxRecDepth 100000 in
theorem full_no (m : Mp) (hn : m.n < m.ent) (w : World) (N : Nat) (hN : Sz w N) (hA : MpAt w m) :
    Calls Tryd.prog 45 #[.pointer (some ⟨m.b, 0, none⟩)] w fun e w' => e = .returned (.bool false) ∧ Below N w w' ∧ Sz w' N := by
  have c3 := hA.c3
  have c5 := hA.c5
  have t1 : decide ((m.ent : Int) ≤ (m.n : Int)) = false := by rw [decide_eq_false_iff_not]; omega
  have t2 : decide (m.ent ≤ m.n) = false := by rw [decide_eq_false_iff_not]; omega
  go_enter Tryd.func45, Tryd.ntmps45
  go_wp2
  go_quiet (fail)
  go_wp2
  go_ret
  exact ⟨rfl, below_drewN (Below.refl _ _) _, hN⟩
end Go.Proofs.YtjdclgnlnehjlaaDoor
