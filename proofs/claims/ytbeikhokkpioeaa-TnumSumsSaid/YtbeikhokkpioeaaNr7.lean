/- Contracts of the document's bits: sums and differences, bit by bit. -/
import Derived.Test.YtbeikhokkpioeaaNr6
namespace Go.Proofs.Ytbeikhokkpioeaa
open Go Go.RowKit
theorem sum_no {m : Bool} {x y c : Bool × Bool} {p q r : Nat} (hp : p < 2) (hq : q < 2) (hr : r < 2) (h : (sel x p && sel y q && sel c r) = false) : sumN m x y c (4 * p + 2 * q + (r + 1)) = sumN m x y c (4 * p + 2 * q + r) := by
  show sumOne m x y c (4 * p + 2 * q + r) _ = _
  unfold sumOne
  rw [show (4 * p + 2 * q + r) / 4 = p from by omega, show (4 * p + 2 * q + r) / 2 % 2 = q from by omega, show (4 * p + 2 * q + r) % 2 = r from by omega]
  unfold sel at h
  have : (!(if p = 0 then x.1 else x.2) || !(if q = 0 then y.1 else y.2) || !(if r = 0 then c.1 else c.2)) = true := by
    rw [← Bool.not_and, ← Bool.not_and, h]; rfl
  simp only [this, if_true]
  rfl
theorem sum_yes {m : Bool} {x y c : Bool × Bool} {p q r : Nat} (hp : p < 2) (hq : q < 2) (hr : r < 2) (h : (sel x p && sel y q && sel c r) = true) : sumN m x y c (4 * p + 2 * q + (r + 1)) =
    ((if (if m then (p + 4 - q - r) % 2 else (p + q + r) % 2) = 0 then (true, (sumN m x y c (4 * p + 2 * q + r)).1.2) else ((sumN m x y c (4 * p + 2 * q + r)).1.1, true)), (if (if m then min (q + r - p) 1 else (p + q + r) / 2) = 0 then (true, (sumN m x y c (4 * p + 2 * q + r)).2.2) else ((sumN m x y c (4 * p + 2 * q + r)).2.1, true))) := by
  show sumOne m x y c (4 * p + 2 * q + r) _ = _
  unfold sumOne
  rw [show (4 * p + 2 * q + r) / 4 = p from by omega, show (4 * p + 2 * q + r) / 2 % 2 = q from by omega, show (4 * p + 2 * q + r) % 2 = r from by omega]
  unfold sel at h
  have : (!(if p = 0 then x.1 else x.2) || !(if q = 0 then y.1 else y.2) || !(if r = 0 then c.1 else c.2)) = false := by
    rw [← Bool.not_and, ← Bool.not_and, h]; rfl
  simp only [this, Bool.false_eq_true, if_false]
  rfl
theorem carN_zero (m : Bool) (a b : Nm) : carN m a b 0 = (true, false) := rfl
theorem carN_next (m : Bool) (a b : Nm) (k : Nat) : carN m a b (k + 1) = (sumN m (rBits a k) (rBits b k) (carN m a b k) 8).2 := rfl
end Go.Proofs.Ytbeikhokkpioeaa
