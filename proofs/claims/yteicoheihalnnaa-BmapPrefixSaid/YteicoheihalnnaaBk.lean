/- bmap: keys of one byte, rests of bytes. -/
import Derived.Test.YteicoheihalnnaaBm10
import Derived.Test.YteicoheihalnnaaRegB
namespace Go.Proofs.Yteicoheihalnnaa
open Go Go.RowKit
theorem kAt_upto (m : Mp) (t : ByteArray) : ∀ n, n ≤ m.n → (∃ k, k < n ∧ KAt m t k) ∨ ∀ i, i < n → (m.E i).k ≠ t
  | 0, _ => .inr (fun i hi => by omega)
  | n + 1, hn => by
    rcases kAt_upto m t n (by omega) with ⟨k, hk, h⟩ | h
    · exact .inl ⟨k, by omega, h⟩
    · by_cases e : (m.E n).k = t
      · exact .inl ⟨n, by omega, by omega, e, h⟩
      · refine .inr (fun i hi => ?_)
        by_cases hin : i = n
        · rw [hin]; exact e
        · exact h i (by omega)
theorem kAt_or (m : Mp) (t : ByteArray) : (∃ k, KAt m t k) ∨ KNo m t := by
  rcases kAt_upto m t m.n (Nat.le_refl _) with ⟨k, _, h⟩ | h
  · exact .inl ⟨k, h⟩
  · exact .inr h
def b8 (c : Nat) : BitVec 8 := BitVec.ofNat 8 c
theorem by_nat (c : Nat) (hc : c < 256) : Value.int .u8 (c : Int) = By (b8 c) := by
  unfold By v8 b8
  rw [BitVec.toNat_ofNat, Nat.mod_eq_of_lt (by omega)]
def key1 (c : Nat) : ByteArray := strOf (fun _ => b8 c) 1
theorem key1_inj {c d : Nat} (hc : c < 256) (hd : d < 256) (h : key1 c = key1 d) : c = d := by
  have := strOf_inj h 0 (by omega)
  unfold b8 at this
  have := congrArg BitVec.toNat this
  rw [BitVec.toNat_ofNat, BitVec.toNat_ofNat, Nat.mod_eq_of_lt (by omega), Nat.mod_eq_of_lt (by omega)] at this
  exact this
theorem one_ats {w : World} {b o : Nat} {v : Value} (h : w.cell? ⟨b, o, none⟩ = some v) : Ats w (some ⟨b, o, none⟩) 1 (fun _ => v) := fun _ => ⟨b, o, rfl, fun j hj => by
  obtain rfl : j = 0 := by omega
  exact h⟩
section
variable {ops : Array Oper} {rest : List Oper} {o : Oper} {a : Act} {w : World} {Q : Exit → Act → World → Prop}
/-- Lists written out, whether guarded or not. -/
theorem wpl_bs1g (x : Operand) (ho : o.op = .buildSlice 22 1 #[(0, x)]) (d : BitVec 8) (hx : a.eval x = By d) (N : Nat) (hN : Sz w N)
    (h : ∀ w1, Sz w1 (N + 1) → Below N w w1 → Has w1 N 5 1 (fun _ => By d) → wpList Try.prog ops Q rest (a.put o.dst (.slice (some ⟨N, 0, none⟩) 1 1)) w1) (hw : Region.wanted o (yielded ops a.tmps) = true) : wpList Try.prog ops Q (o :: rest) a w :=
  wpl_want hw (wpl_bs1 (o := { o with guard := none }) rfl x ho d hx N hN h)
theorem wpl_bs4g (x y z t : Operand) (ho : o.op = .buildSlice 22 4 #[(0, x), (1, y), (2, z), (3, t)]) (d0 d1 d2 d3 : BitVec 8) (hx : a.eval x = By d0) (hy : a.eval y = By d1) (hz : a.eval z = By d2) (ht : a.eval t = By d3) (N : Nat) (hN : Sz w N)
    (h : ∀ w1, Sz w1 (N + 1) → Below N w w1 → Has w1 N 5 4 (fun j => By (four d0 d1 d2 d3 j)) → wpList Try.prog ops Q rest (a.put o.dst (.slice (some ⟨N, 0, none⟩) 4 4)) w1) (hw : Region.wanted o (yielded ops a.tmps) = true) : wpList Try.prog ops Q (o :: rest) a w :=
  wpl_want hw (wpl_bs4 (o := { o with guard := none }) rfl x y z t ho d0 d1 d2 d3 hx hy hz ht N hN h)
/-- The rest of a byte. -/
theorem wpl_rem8 (hgd : o.guard = none) (x : Operand) (m : Nat) (ho : o.op = .binOp .rem 5 x (.const (.int .u8 (m : Int))) 5) (d : BitVec 8) (hx : a.eval x = .int .u8 (v8 d)) (h0 : 0 < m) (hm : m < 256)
    (h : ∀ c : Nat, c < m → Hid (c = d.toNat % m) → wpList Try.prog ops Q rest (a.put o.dst (.int .u8 (c : Int))) w) : wpList Try.prog ops Q (o :: rest) a w := by
  have hlo := v8_lo d
  have hhi := v8_hi d
  have h0' : ¬ ((m : Int) = 0) := by omega
  have e1 : (v8 d).tmod (m : Int) = ((d.toNat % m : Nat) : Int) := by
    rw [Int.tmod_eq_emod_of_nonneg hlo]; unfold v8; omega
  have e2 : d.toNat % m < 256 := by have := Nat.mod_lt d.toNat h0; omega
  refine wpl_run hgd (.int .u8 ((d.toNat % m : Nat) : Int)) w ?_ (h _ (Nat.mod_lt _ h0) (hid rfl))
  clear h
  have hy : a.eval (.const (.int .u8 (m : Int))) = .int .u8 (m : Int) := rfl
  generalize a.eval = ev at *
  unfold execOp
  simp only [ho]
  generalize d.toNat % m = r at *
  generalize v8 d = z at *
  go_simp
  omega
end
end Go.Proofs.Yteicoheihalnnaa
