/- A row of acts on a stack, as it was read. -/
import Derived.Test.YtcdhngceiochoaaArgK
import Derived.Test.YtcdhngceiochoaaAsu
namespace Go.Proofs.Ytcdhngceiochoaa
open Go Go.ChangeShapes Go.WideShapes Go.ChangeAt Go.WideMaps Go.WideElems Go.RowKit
theorem bounds_i64 {k : Int} (h : (Lit.int .i64 k).wf = true) : -9223372036854775808 ≤ k ∧ k ≤ 9223372036854775807 := by
  simp only [Lit.wf, Bool.and_eq_true, decide_eq_true_eq] at h
  have e1 : IntKind.i64.min = -9223372036854775808 := by decide
  have e2 : IntKind.i64.max = 9223372036854775807 := by decide
  rw [e1, e2] at h; exact h
section
variable {H : Type} {enc : TypeId × Value → H} {w : World} {base : Nat} {sp : Nat → Bool} {held : Bool}
set_option maxRecDepth 100000 in
theorem open_axs {fuel : Nat} {v : Value} {x : DataW H × List MemPlace} (h : DataW.trod enc Try.prog w base sp held fuel 69 [v] = some x) :
    ∃ (q : Option Addr) (n cap : Nat) (Z : Nat → Ax), v = .slice q n cap ∧ n ≤ cap ∧ n ≤ maxLen ∧ Rowx w q n Z ∧ ∀ k, k < n → -9223372036854775808 ≤ (Z k).at_ ∧ (Z k).at_ < 9223372036854775808 := by
  obtain ⟨fs, hu, hl⟩ := flds_of (T := 83) (l := [(2, 0), (3, 1), (4, 2)]) (by kernel_rfl)
  have cofA : Try.prog.cellsOf 83 = 3 := by kernel_rfl
  have k0 : Try.prog.cellsOf 2 = 1 := by kernel_rfl
  have k2 : Try.prog.cellsOf 4 = 1 := by kernel_rfl
  rcases Deep.open_slice undAxs h with ⟨hcs, _⟩ | ⟨a, l, c, m, k, D, Pl, hcs, _, hle, hm, hmm, _, hel⟩
  · exact ⟨none, 0, 0, fun _ => zeroX, by simpa using hcs, Nat.le_refl _, Nat.zero_le _, fun h0 => absurd h0 (by omega), fun k hk => absurd hk (by omega)⟩
  · have hlm : l ≤ m := by rw [hmm]; split <;> omega
    have hall : ∀ i : Nat, ∃ z : Ax, i < l → (∀ j, j < 3 → w.cell? (a.add (i * 3 + j)) = some (actC z j)) ∧ (-9223372036854775808 ≤ z.at_ ∧ z.at_ < 9223372036854775808) := fun i => by
      by_cases hi : i < l
      · obtain ⟨cs', h1, h2⟩ := hel i (by omega)
        rw [cofA] at h1
        obtain ⟨_, hlen, hat⟩ := World.cells?_some h1
        obtain ⟨y0, m0, e0⟩ := trod_fld hu hl h2 0 _ _ rfl
        obtain ⟨y1, m1, e1⟩ := trod_fld hu hl h2 1 _ _ rfl
        obtain ⟨y2, m2, e2⟩ := trod_fld hu hl h2 2 _ _ rfl
        rw [k0] at e0
        rw [cofI1] at e1
        rw [k2] at e2
        obtain ⟨z0, r0, _, w0⟩ := DataW.trod_int (show Try.prog.underlying 2 = some (.int .i64) by kernel_rfl) e0
        obtain ⟨z1, r1, _, _⟩ := DataW.trod_int (show Try.prog.underlying 3 = some (.int .i64) by kernel_rfl) e1
        obtain ⟨b2, r2, _⟩ := DataW.trod_bool (show Try.prog.underlying 4 = some .bool by kernel_rfl) e2
        have hb := bounds_i64 w0
        refine ⟨⟨z0, z1, b2⟩, fun _ => ⟨fun j hj => ?_, hb.1, Int.lt_of_le_of_lt hb.2 (by decide)⟩⟩
        rw [← Go.Deep.add_add, hat j hj]
        rcases (show j = 0 ∨ j = 1 ∨ j = 2 by omega) with rfl | rfl | rfl
        · exact at_oneN r0
        · exact at_oneN r1
        · exact at_oneN r2
      · exact ⟨zeroX, fun h => absurd h hi⟩
    obtain ⟨Z, hZ⟩ := Classical.axiomOfChoice hall
    refine ⟨some a, l, c, Z, by simpa using hcs, hle, by omega, fun h0 => ?_, fun k hk => (hZ k hk).2⟩
    have hc0 := (hZ 0 h0).1 0 (by omega)
    have ha : a = ⟨a.block, a.off, none⟩ := plain_addr (v := actC (Z 0) 0) (by simpa [Addr.add] using hc0)
    refine ⟨a.block, a.off, by rw [← ha], fun i hi j hj => ?_⟩
    have hcj := (hZ i hi).1 j hj
    rw [ha, Addr.add_mid] at hcj
    rw [Nat.add_assoc]
    exact hcj
end
end Go.Proofs.Ytcdhngceiochoaa
