/- TokenDerives: laws of its last loop. -/
import Derived.Test.YtilhkgbninbkkaaDoorTk16
namespace Go.Proofs.YtilhkgbninbkkaaDoor
open Go Go.RowKit
section
variable {P : Program} {a : Act} {o : Oper} {T ty : TypeId} {x y : Operand}
theorem subN1 {p r : Int} (ho : o.op = .binOp .sub T x y ty) (hx : a.eval x = .int .i64 p) (hy : a.eval y = .int .i64 1) (h : p - 1 = r) (h0 : 0 ≤ r) (h1 : r < 1000) (w : World) : (execOp a.eval o).run P w = .ok (.value (.int .i64 r)) w := by
  have e : IntKind.i64.wrap r = r := by rw [IntKind.wrap_i64]; omega
  subst h
  unfold execOp; simp only [ho, hx, hy]; go_simp
end
theorem hasE_tok {x y : Rg} (h : rWithin x y = true) (n : Int) (h0 : hasE x.c n = 0) : hasE y.c n = 0 := hasE_mono (within_parts h).1 n h0
theorem helpE_tok {x y : Rg} (h : rWithin x y = true) (n : Int) (h0 : helpE x n = 0) : helpE y n = 0 := helpE_mono (within_parts h).2 n h0
theorem own_tok {w : World} {ts : List Tk} {g n cap : Nat} (h : Own w 55 (some ⟨g, 0, none⟩) n cap (fun j => Pk (blkAt ts (n - 1 - j)))) {j : Nat} (hj : j < n) {t : Tk} {D : List Tk} (e : ts.drop (n - 1 - j) = t :: D) : w.cell? ⟨g, j, none⟩ = some (.pointer (some ⟨t.b, 0, none⟩)) := by
  have h9 := (h.at j hj).1
  rw [blkAt_drop e] at h9
  exact h9
theorem tks_at {w : World} {ts : List Tk} (h : Tks w ts) {k : Nat} {t : Tk} {D : List Tk} (e : ts.drop k = t :: D) : Tks w (t :: D) := by
  have h9 := h.drop k
  rwa [e] at h9
theorem Cm_tok {w : World} {N : Nat} {t : Tk} {D : List Tk} (n : Int) (hN : Sz w N) (hT : Tks w (t :: D)) : Calls Tryd.prog 33 #[.pointer (some ⟨t.b, 0, none⟩), .int .i64 n] w fun e w' => e = .returned (.int .i64 (hasE t.r.c n)) ∧ Below N w w' := Command_any (t :: D) n w N hN hT
theorem Pr_tok {w : World} {N : Nat} {t : Tk} {D : List Tk} (n : Int) (hN : Sz w N) (hT : Tks w (t :: D)) : Calls Tryd.prog 34 #[.pointer (some ⟨t.b, 0, none⟩), .int .i64 n] w fun e w' => e = .returned (.int .i64 (hasE t.r.p n)) ∧ Below N w w' := Program_any (t :: D) n w N hN hT
theorem Ma_tok {w : World} {N : Nat} {t : Tk} {D : List Tk} (n : Int) (hN : Sz w N) (hT : Tks w (t :: D)) : Calls Tryd.prog 35 #[.pointer (some ⟨t.b, 0, none⟩), .int .i64 n] w fun e w' => e = .returned (.int .i64 (hasE t.r.m n)) ∧ Below N w w' := Map_any (t :: D) n w N hN hT
theorem He_tok {w : World} {N : Nat} {t : Tk} {D : List Tk} (n : Int) (hN : Sz w N) (hH : Hp w) (hT : Tks w (t :: D)) : Calls Tryd.prog 36 #[.pointer (some ⟨t.b, 0, none⟩), .int .i32 n] w fun e w' => e = .returned (.int .i64 (helpE t.r n)) ∧ Below N w w' := Helper_any (t :: D) n w N hN hH hT
end Go.Proofs.YtilhkgbninbkkaaDoor
