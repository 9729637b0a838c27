/- Contracts of the document's bits: each with each. -/
import Derived.Test.YtbeikhokkpioeaaNr5
namespace Go.Proofs.Ytbeikhokkpioeaa
open Go Go.RowKit
/-- What comes of two bits: 0 and, 1 or, 2 exclusive or. -/
def eachC (what p q : Nat) : Nat := if what = 0 then p &&& q else if what = 1 then p ||| q else p ^^^ q
def eachOne (what : Nat) (x y : Bool × Bool) (k : Nat) (s : Bool × Bool) : Bool × Bool := if sel x (k / 2) && sel y (k % 2) then (if eachC what (k / 2) (k % 2) = 0 then (true, s.2) else (s.1, true)) else s
def eachN (what : Nat) (x y : Bool × Bool) : Nat → Bool × Bool
  | 0 => (false, false)
  | k + 1 => eachOne what x y k (eachN what x y k)
def rEach (a b : Nm) (what : Nat) : Nm := rN (fun i => eachN what (rBits a i) (rBits b i) 4) 64
theorem each_no {what p q : Nat} {x y : Bool × Bool} (hq : q < 2) (h : (sel x p && sel y q) = false) : eachN what x y (2 * p + (q + 1)) = eachN what x y (2 * p + q) := by
  show eachOne what x y (2 * p + q) _ = _
  unfold eachOne
  rw [show (2 * p + q) / 2 = p from by omega, show (2 * p + q) % 2 = q from by omega, h]; rfl
theorem each_yes {what p q : Nat} {x y : Bool × Bool} (hq : q < 2) (h : (sel x p && sel y q) = true) : eachN what x y (2 * p + (q + 1)) = if eachC what p q = 0 then (true, (eachN what x y (2 * p + q)).2) else ((eachN what x y (2 * p + q)).1, true) := by
  show eachOne what x y (2 * p + q) _ = _
  unfold eachOne
  rw [show (2 * p + q) / 2 = p from by omega, show (2 * p + q) % 2 = q from by omega, h]; rfl
theorem set_bC (s : Bool × Bool) (c : Nat) (hc : c < 2) (j : Nat) (hj : j < 2) : upd (bC s) c (.bool true) j = bC (if c = 0 then (true, s.2) else (s.1, true)) j := by
  unfold upd bC
  rcases (show c = 0 ∨ c = 1 by omega) with rfl | rfl <;> rcases (show j = 0 ∨ j = 1 by omega) with rfl | rfl <;> rfl
end Go.Proofs.Ytbeikhokkpioeaa
