/- TokenForged: words; the document's own rights; a step's cells. -/
import Derived.Test.YtilhkgbninbkkaaDoorTk8
namespace Go.Proofs.YtilhkgbninbkkaaDoor
open Go Go.RowKit
set_option maxRecDepth 100000 in
theorem All12_any (w : World) (N : Nat) (hN : Sz w N) : Calls Tryd.prog 43 #[] w fun e w' => e = .returned (rgV rgAll) ∧ Below N w w' := by
  go_enter Tryd.func43, Tryd.ntmps43
  go_wp2_with (first
    | (refine wpl_alloc rfl 24 rfl 6 (rgC rgNone) zeRF N hN ?_; intro w1 hN1 hb1 hh1)
    | (refine wpl_build rfl 24 _ rfl (cellsOf (rgC rgAll) 6) (by kernel_rfl) ?_)
    | (refine wpl_store rfl 24 (.tmp 0) (.tmp 1) rfl N 6 (rgC rgAll) rfl rfl 24 _ hh1 szRF (fun j _ => rgC_one _ j) ?_; intro w2 ht2 hh2)
    | fail)
  obtain ⟨dF, v1, v2⟩ := undRF
  refine post_rg rfl N rfl hh2 ⟨_, v1, v2⟩ szRF rfl ?_
  exact ⟨rfl, ht2.below hb1 (Nat.le_refl N)⟩
section
variable {P : Program} {ops : Array Oper} {rest : List Oper} {o : Oper} {a : Act} {w : World} {Q : Exit → Act → World → Prop}
/-- Several cells are read, guarded or not. -/
theorem wpl_load_cellsg (ty : TypeId) (x : Operand) (ho : o.op = .load ty x) (b off : Nat) (hx : a.eval x = .pointer (some ⟨b, off, none⟩)) (m : Nat) (g : Nat → Value) (hc : ∀ j, j < m → w.cell? ⟨b, off + j, none⟩ = some (g j))
    (d : TypeDesc) (hu : P.underlying ty = some d) (hd : d.isRow = true) (hi : (P.info? ty).map (·.size) = some m) (h : wpList P ops Q rest (a.put o.dst (.agg (cellsOf g m))) w) (hw : Region.wanted o (yielded ops a.tmps) = true) : wpList P ops Q (o :: rest) a w :=
  wpl_want hw (wpl_load_cells rfl ty x ho b off hx m g hc d hu hd hi h)
end
/-- A step's cells. -/
def stC (a : Int) (r : Rg) (i : Nat) : Value := if i = 0 then .int .i64 a else rgC r (i - 1)
/-- A case's cells. -/
def csC (q : Option Addr) (n cap : Nat) (q2 : Option Addr) (n2 cap2 : Nat) : Nat → Value := fun j => if j = 0 then .slice q n cap else .slice q2 n2 cap2
/-- Steps that were given. -/
def Stp (w : World) (q : Option Addr) (n : Nat) (A : Nat → Int) (R : Nat → Rg) : Prop := 0 < n → ∃ b off, q = some ⟨b, off, none⟩ ∧ ∀ j, j < n → ∀ i, i < 7 → w.cell? ⟨b, off + j * 7 + i, none⟩ = some (stC (A j) (R j) i)
theorem stC_one (a : Int) (r : Rg) (i : Nat) : (stC a r i).oneCell' = true := by
  unfold stC
  by_cases h : i = 0
  · rw [if_pos h]; rfl
  · rw [if_neg h]; exact rgC_one r _
theorem undStp : ∃ d, Tryd.prog.underlying 71 = some d ∧ d.isRow = true := row_of (by kernel_rfl)
theorem szStp : (Tryd.prog.info? 71).map (·.size) = some 7 := by kernel_rfl
theorem zeStp : (Tryd.prog.info? 71).map (fun i => (i.zero, i.size)) = some (some (.agg (cellsOf (stC 0 rgNone) 7)), 7) := by kernel_rfl
theorem insI_self {f : Nat → Nat} {c : Nat} (a : Int) : insI f c a a = isIn c a := by
  cases h : isIn c a
  · unfold insI; rw [h]; rfl
  · obtain ⟨k, rfl, hk⟩ := isIn_get h
    exact (ins_nat hk).2 (mem_self f k)
/-- A tree and the document's own one, of the same namespaces. -/
structure Both (w0 w : World) (N b c : Nat) (f : Nat → Nat) (rb : Nat) (p : Option Addr) (cp : Nat) : Prop where
  t : Tr w b c f
  r : RTr w rb c p cp f
  ne : b ≠ rb
  np : blk p ≠ some b
  lb : N ≤ b
  lr : N ≤ rb
  lp : ∀ k, blk p = some k → N ≤ k
  bel : Below N w0 w
section
variable {w0 w w' : World} {N b c rb cp : Nat} {p : Option Addr} {f : Nat → Nat}
theorem Both.below {M : Nat} (h : Both w0 w N b c f rb p cp) (hM : Sz w M) (hNM : N ≤ M) (hb : Below M w w') : Both w0 w' N b c f rb p cp :=
  ⟨h.t.below hM hb, h.r.below hM hb, h.ne, h.np, h.lb, h.lr, h.lp, h.bel.trans (hb.mono hNM)⟩
theorem Both.drewN (h : Both w0 w N b c f rb p cp) (n : Nat) : Both w0 (w.drewN n) N b c f rb p cp :=
  ⟨⟨h.t.h, h.t.c1, h.t.c8, h.t.z, h.t.dec⟩, ⟨h.r.h, h.r.r, h.r.ne, h.r.c1, h.r.c8, h.r.dec⟩, h.ne, h.np, h.lb, h.lr, h.lp, below_drewN h.bel n⟩
theorem Both.drew (h : Both w0 w N b c f rb p cp) : Both w0 w.drew N b c f rb p cp := ⟨h.t.drew, h.r.drew, h.ne, h.np, h.lb, h.lr, h.lp, h.bel.drew⟩
end
end Go.Proofs.YtilhkgbninbkkaaDoor
