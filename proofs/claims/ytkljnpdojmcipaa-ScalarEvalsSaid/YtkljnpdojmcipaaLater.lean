/- A region that draws its order, whose operations read and whose callees only make memory: nothing that was there turns, so one walk in the text's order serves. Nothing of the program. -/
import Derived.Test.YtkljnpdojmcipaaKit2
import Derived.BigQuiet
namespace Go.Proofs.Ytkljnpdojmcipaa
open Go Go.RowKit
/-- A later world, in which nothing below N has turned. -/
structure Later (N : Nat) (w : World) where
  w' : World
  b : Below N w w'
instance (N : Nat) (w : World) : Nonempty (Later N w) := ⟨⟨w, Below.refl N w⟩⟩
section
variable {P : Program} {N : Nat} {w : World}
theorem wp_region_later {id : Nat} {Q : Exit → Act → World → Prop} {a : Act} {l : List Oper} (N : Nat) (hm : P.follows .mixedOrders = true) (hB : Region.lexB .any l.toArray = true)
    (h : wpQuiet P l.toArray (fun w' => ∃ x : Later N w, w' = x.w') (fun a' => ∀ w', (∃ x : Later N w, w' = x.w') → Q .normal a' w') l a) : (Code.region id l.toArray true).wp P Q a w :=
  wp_region_quiet (C := fun w' => ∃ x : Later N w, w' = x.w') hm hB ⟨⟨w.drew, (Below.refl N w).drew⟩, rfl⟩ (by simpa using h)
/-- One operation, by what it runs to there. -/
theorem later_val {ops : Array Oper} {Q : Act → Prop} {a : Act} {o : Oper} {rest : List Oper} {v : Value} (hr : ∀ x : Later N w, (execOp a.eval o).run P x.w' = .ok (.value v) x.w') (hw : Region.wanted o (yielded ops a.tmps) = true)
    (h : wpQuiet P ops (fun w' => ∃ x : Later N w, w' = x.w') Q rest (a.put o.dst v)) : wpQuiet P ops (fun w' => ∃ x : Later N w, w' = x.w') Q (o :: rest) a :=
  wpQuiet_step fun K hK => by
    rw [if_pos hw]
    exact ⟨v, fun w1 ⟨x, e⟩ => by subst e; unfold Oper.quietAt; rw [hr x]; exact ⟨rfl, rfl⟩, hK _ h⟩
/-- A callee's contract there. -/
theorem later_of {f : FuncId} {args : Array Value} {v : Value} (hN : Sz w N) (x : Later N w) (h : ∀ M, Sz x.w' M → N ≤ M → Calls P f args x.w' fun e w' => e = .returned v ∧ Below M x.w' w') :
    Calls P f args x.w' fun e w'' => e = .returned v ∧ ∃ y : Later N w, w'' = y.w' :=
  have hNM := below_sz x.b hN (m := x.w'.heap.size) rfl
  (h _ rfl hNM).mono fun e w'' ⟨he, hb⟩ => ⟨he, ⟨w'', x.b.trans (hb.mono hNM)⟩, rfl⟩
theorem later_of_same {f : FuncId} {args : Array Value} {v : Value} (x : Later N w) (h : Calls P f args x.w' fun e w' => e = .returned v ∧ w' = x.w') :
    Calls P f args x.w' fun e w'' => e = .returned v ∧ ∃ y : Later N w, w'' = y.w' :=
  h.mono fun e w'' ⟨he, hb⟩ => ⟨he, x, hb⟩
theorem later_of_drew {f : FuncId} {args : Array Value} {v : Value} (x : Later N w) (h : Calls P f args x.w' fun e w' => e = .returned v ∧ ∃ k, w' = x.w'.drewN k) :
    Calls P f args x.w' fun e w'' => e = .returned v ∧ ∃ y : Later N w, w'' = y.w' :=
  h.mono fun e w'' ⟨he, k, hb⟩ => ⟨he, ⟨x.w'.drewN k, below_drewN x.b k⟩, hb⟩
theorem Later.cell {b o : Nat} {v : Value} (hN : Sz w N) (h : w.cell? ⟨b, o, none⟩ = some v) (x : Later N w) : x.w'.cell? ⟨b, o, none⟩ = some v := by
  rw [x.b.cell (p := ⟨b, o, none⟩) (by have := World.block_lt_of_cell? w _ h; have e : w.heap.size = N := hN; simp only at this ⊢; omega)]; exact h
theorem Later.has {b T n : Nat} {f : Nat → Value} (hN : Sz w N) (h : Has w b T n f) (x : Later N w) : Has x.w' b T n f := h.below x.b (h.ltN hN)
/-- A whole array is read. -/
theorem later_load {b T n : Nat} {f : Nat → Value} (hN : Sz w N) (h : Has w b T n f) (ty : TypeId) (d : TypeDesc) (hu : P.underlying ty = some d) (hd : d.isRow = true) (hi : (P.info? ty).map (·.size) = some n) (x : Later N w) :
    (Instr.loadAt ty (.pointer (some ⟨b, 0, none⟩))).run P x.w' = .ok (.agg (cellsOf f n)) x.w' := by
  have := run_load_part (P := P) (Later.has hN h x) 0 n (by omega) ty d hu hd hi
  simpa using this
end
end Go.Proofs.Ytkljnpdojmcipaa
