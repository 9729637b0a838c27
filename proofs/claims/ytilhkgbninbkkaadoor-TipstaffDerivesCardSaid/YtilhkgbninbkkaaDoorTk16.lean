/- TokenDerives: words: what Root and Derive tell of a chain; what stands at each place of it. -/
import Derived.Test.YtilhkgbninbkkaaDoorMgTk14
namespace Go.Proofs.YtilhkgbninbkkaaDoor
open Go Go.RowKit
/-- A chain's tokens are these, from the root on. -/
def Mt : List Tk → (Nat → Int) → (Nat → Rg) → Prop
  | [], _, _ => True
  | t :: D, A, R => t.at_ = A D.length ∧ t.r = R D.length ∧ Mt D A R
section
variable {w w' : World} {N M b c nc : Nat} {f : Nat → Nat} {A : Nat → Int} {R : Nat → Rg} {a E : Int} {r : Rg} {ts us : List Tk} {t : Tk} {x : Value}
/-- .. and what the row of steps is behind it. -/
def addI (A : Nat → Int) (n : Nat) (a : Int) : Nat → Int := fun j => if j = n then a else A j
def addR (R : Nat → Rg) (n : Nat) (r : Rg) : Nat → Rg := fun j => if j = n then r else R j
theorem Mt.congr : ∀ {ts : List Tk} {A' : Nat → Int} {R' : Nat → Rg}, Mt ts A R → (∀ j, j < ts.length → A' j = A j ∧ R' j = R j) → Mt ts A' R'
  | [], _, _, _, _ => trivial
  | t :: D, _, _, h, e => ⟨h.1.trans (e D.length (by simp)).1.symm, h.2.1.trans (e D.length (by simp)).2.symm, Mt.congr h.2.2 (fun j hj => e j (by simp; omega))⟩
theorem Mt.add (hm : Mt ts A R) (hl : ts.length = nc) (k : Nat) : Mt (⟨k, a, r⟩ :: ts) (addI A nc a) (addR R nc r) := by
  subst hl
  refine ⟨?_, ?_, hm.congr (fun j hj => ?_)⟩
  · unfold addI; rw [if_pos rfl]
  · unfold addR; rw [if_pos rfl]
  · unfold addI addR; rw [if_neg (by omega), if_neg (by omega)]; exact ⟨rfl, rfl⟩
/-- A chain's tokens, from the root on. -/
theorem Mt.at_ : ∀ {ts : List Tk} {A : Nat → Int} {R : Nat → Rg}, Mt ts A R → ∀ j, j < ts.length → ∃ t, ts.drop (ts.length - 1 - j) = t :: ts.drop (ts.length - j) ∧ t.at_ = A j ∧ t.r = R j
  | [], _, _, _, j, hj => absurd hj (by simp)
  | t :: D, A, R, h, j, hj => by
    by_cases e : j = D.length
    · subst e
      refine ⟨t, ?_, h.1, h.2.1⟩
      rw [show (t :: D).length - 1 - D.length = 0 by simp, show (t :: D).length - D.length = 1 by simp]; rfl
    · have hj2 : j < D.length := by simp at hj; omega
      obtain ⟨u, e1, e2, e3⟩ := Mt.at_ h.2.2 j hj2
      refine ⟨u, ?_, e2, e3⟩
      rw [show (t :: D).length - 1 - j = (D.length - 1 - j) + 1 by simp; omega, show (t :: D).length - j = (D.length - j) + 1 by simp; omega]
      exact e1
theorem snd_within (hm : Mt ts A R) (hs : sndT f c ts = true) (j : Nat) (h0 : 0 < j) (hj : j < ts.length) : rWithin (R j) (R (j - 1)) = true := by
  obtain ⟨t, e1, _, e3⟩ := hm.at_ j hj
  obtain ⟨u, e4, _, e6⟩ := hm.at_ (j - 1) (by omega)
  have hd : sndT f c (ts.drop (ts.length - 1 - j)) = true := by
    cases hc : sndT f c (ts.drop (ts.length - 1 - j)) with
    | true => rfl
    | false => rw [sndT_drop _ hc] at hs; cases hs
  rw [e1, show ts.length - j = ts.length - 1 - (j - 1) by omega, e4] at hd
  have hd2 : (sndT f c (u :: ts.drop (ts.length - (j - 1))) && (insI f c t.at_ u.at_ && rWithin t.r u.r)) = true := hd
  simp only [Bool.and_eq_true] at hd2
  rw [← e3, ← e6]
  exact hd2.2.2
end
section
variable {P : Program} {a : Act} {o : Oper} {T ty : TypeId} {x y : Operand}
end
section
variable {ops : Array Oper} {rest : List Oper} {o : Oper} {a : Act} {w : World} {Q : Exit → Act → World → Prop} {x y : Operand} {T ty : TypeId}
theorem run_neqI {P : Program} {p q : Int} {r : Bool} (ho : o.op = .binOp .neq T x y ty) (hx : a.eval x = .int .i64 p) (hy : a.eval y = .int .i64 q) (h : (p != q) = r) (w : World) : (execOp a.eval o).run P w = .ok (.value (.bool r)) w := by
  subst h; unfold execOp; simp only [ho, hx, hy]; go_simp
end
theorem load_cell {P : Program} {w : World} {p : Addr} {v : Value} (ty : TypeId) {d : TypeDesc} (hu : P.underlying ty = some d) (hd : (match d with | .struct _ | .array _ _ => false | _ => true) = true) (h : w.cell? p = some v) : (Instr.loadAt ty (.pointer (some p))).run P w = .ok v w := by
  have hagg : (isAgg ty).run P w = .ok false w := by
    unfold isAgg
    rw [Sem.run_bind, run_underlying hu w]
    cases d <;> simp_all
  unfold Instr.loadAt
  simp [Instr.sureAddr, Sem.run_bind, hagg, h, loadVar]
/-- One cell is read. -/
theorem run_c1 {P : Program} {a : Act} {w : World} {o : Oper} (ty : TypeId) (x : Operand) (ho : o.op = .load ty x) (p : Addr) (hx : a.eval x = .pointer (some p)) {d : TypeDesc} (hu : P.underlying ty = some d) (hd : (match d with | .struct _ | .array _ _ => false | _ => true) = true) {v : Value} (h : w.cell? p = some v) :
    (execOp a.eval o).run P w = .ok (.value v) w := by
  unfold execOp
  simp only [ho, hx, Sem.run_bind, load_cell ty hu hd h, Result.andThen_ok, Sem.run_pure]
section
variable {P : Program} {N : Nat} {w : World}
theorem later_c1 {ops : Array Oper} {R : Act → Prop} {a : Act} {o : Oper} {rest : List Oper} (hN : Sz w N) (ty : TypeId) (x : Operand) (ho : o.op = .load ty x) {b k : Nat} (hx : a.eval x = .pointer (some ⟨b, k, none⟩)) {d : TypeDesc} (hu : P.underlying ty = some d) (hd : (match d with | .struct _ | .array _ _ => false | _ => true) = true) {v : Value} (h : w.cell? ⟨b, k, none⟩ = some v)
    (hw : Region.wanted o (yielded ops a.tmps) = true) (hq : wpQuiet P ops (fun w' => ∃ x : Later N w, w' = x.w') R rest (a.put o.dst v)) : wpQuiet P ops (fun w' => ∃ x : Later N w, w' = x.w') R (o :: rest) a :=
  later_val (fun q => run_c1 ty x ho _ hx hu hd (Later.cell hN h q)) hw hq
end
end Go.Proofs.YtilhkgbninbkkaaDoor
