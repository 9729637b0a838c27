/- Cells from some place on, by a function; strings of bytes. Nothing of the program. -/
import Derived.Test.YtjdclgnlnehjlaaDoorOw
import Derived.Test.YtjdclgnlnehjlaaDoorNum
import Derived.Laws.IdiomStrings
namespace Go.Proofs.YtjdclgnlnehjlaaDoor
open Go Go.RowKit
/-- n cells from some place on. -/
def Ats (w : World) (p : Option Addr) (n : Nat) (g : Nat → Value) : Prop := 0 < n → ∃ b off, p = some ⟨b, off, none⟩ ∧ ∀ j, j < n → w.cell? ⟨b, off + j, none⟩ = some (g j)
section
variable {w w' : World} {p : Option Addr} {n : Nat} {g : Nat → Value}
theorem Ats.below {N : Nat} (h : Ats w p n g) (hN : Sz w N) (hb : Below N w w') : Ats w' p n g := fun h0 => by
  obtain ⟨b, off, e, hc⟩ := h h0
  refine ⟨b, off, e, fun j hj => ?_⟩
  have h1 := hc j hj
  rw [hb.cell (p := ⟨b, off + j, none⟩) (by have := World.block_lt_of_cell? w _ h1; have e : w.heap.size = N := hN; simp only at this ⊢; omega)]
  exact h1
theorem Ats.lt {N : Nat} (h : Ats w p n g) (hN : Sz w N) : ∀ b, 0 < n → blk p = some b → b < N := fun b h0 hb => by
  obtain ⟨b', off, e, hc⟩ := h h0
  subst e
  obtain rfl : b' = b := by simpa [blk] using hb
  have := World.block_lt_of_cell? w _ (hc 0 h0)
  have e : w.heap.size = N := hN
  simp only at this
  omega
theorem Ats.cells (h : Ats w p n g) : Cells w p n g := fun h0 => by
  obtain ⟨b, off, e, hc⟩ := h h0
  exact ⟨_, e, fun j hj => by rw [Addr.add_mid]; exact hc j hj⟩
theorem Ats.congr {g' : Nat → Value} (h : Ats w p n g) (e : ∀ j, j < n → g j = g' j) : Ats w p n g' := fun h0 => by
  obtain ⟨b, off, ep, hc⟩ := h h0
  exact ⟨b, off, ep, fun j hj => by rw [hc j hj, e j hj]⟩
theorem Ats.cut {m : Nat} (h : Ats w p n g) (hm : m ≤ n) : Ats w p m g := fun h0 => by
  obtain ⟨b, off, e, hc⟩ := h (by omega)
  exact ⟨b, off, e, fun j hj => hc j (by omega)⟩
theorem Ats.drew (h : Ats w p n g) : Ats w.drew p n g := h
theorem OwnK.ats {E s cap : Nat} (h : OwnK w E s p n cap g) : Ats w p (n * s) g := fun h0 => by
  obtain ⟨b, e, hc⟩ := h.cell (by rcases Nat.eq_zero_or_pos n with rfl | h; (rw [Nat.zero_mul] at h0; omega); exact h)
  exact ⟨b, 0, e, hc⟩
theorem Own.ats {E cap : Nat} (h : Own w E p n cap g) : Ats w p n g := fun h0 => by
  obtain ⟨b, e, hc⟩ := h.cell h0
  exact ⟨b, 0, e, hc⟩
theorem Ats.nil (w : World) (p : Option Addr) (g : Nat → Value) : Ats w p 0 g := fun h => by omega
theorem Has.ats {b T : Nat} (h : Has w b T n g) : Ats w (some ⟨b, 0, none⟩) n g := fun _ => ⟨b, 0, rfl, fun j hj => by rw [Nat.zero_add]; exact h.cell hj⟩
end
/-- A string's bytes. -/
def strOf (D : Nat → BitVec 8) (n : Nat) : ByteArray := ⟨((List.range n).map (fun j => UInt8.ofNat (D j).toNat)).toArray⟩
theorem strOf_congr {D E : Nat → BitVec 8} {n : Nat} (h : ∀ j, j < n → D j = E j) : strOf D n = strOf E n := by
  unfold strOf
  rw [List.map_congr_left (fun j hj => by rw [h j (by simpa using hj)])]
theorem run_string {P : Program} (w : World) (src dst e : TypeId) (hs : P.underlying src = some (.slice e)) (he : P.underlying e = some (.int .u8)) (hd : P.underlying dst = some .string)
    (p : Option Addr) (n cap : Nat) (D : Nat → BitVec 8) (h : Ats w p n (fun j => By (D j))) : (convert src dst (.slice p n cap)).run P w = .ok (.string (strOf D n)) w := by
  have hlen : ((List.range n).map (fun j => UInt8.ofNat (D j).toNat)).length = n := by simp
  by_cases h0 : 0 < n
  · obtain ⟨b, off, rfl, hc⟩ := h h0
    have := run_convert_bytes_back (P := P) w src dst e ⟨b, off, none⟩ cap ((List.range n).map (fun j => UInt8.ofNat (D j).toNat)) hs he hd (fun j hj => by
      rw [hlen] at hj
      rw [Addr.add_mid, hc j hj]
      simp [By, v8])
    rw [hlen] at this
    exact this
  · obtain rfl : n = 0 := by omega
    cases p with
    | none =>
      rw [run_convert_bytes_string w src dst e none 0 cap hs he hd]
      simp [Conv.bytesToString]
      rfl
    | some a =>
      have := run_convert_bytes_back (P := P) w src dst e a cap [] hs he hd (fun j hj => by simp at hj)
      exact this
end Go.Proofs.YtjdclgnlnehjlaaDoor
