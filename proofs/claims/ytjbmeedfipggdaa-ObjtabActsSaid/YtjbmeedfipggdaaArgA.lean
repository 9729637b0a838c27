/- Arguments opened: a row of calls, three numbers each. -/
import Derived.Test.YtjbmeedfipggdaaArgP
import Derived.Deep.Strs
namespace Go.Proofs.Ytjbmeedfipggdaa
open Go Go.ChangeShapes Go.WideShapes Go.ChangeAt Go.WideMaps Go.WideElems Go.RowKit
def act3Fs : TypeDesc → Bool
  | .struct fs => fs.toList.map (fun f => (f.type, f.offset)) == [(3, 0), (3, 1), (3, 2)]
  | _ => false
set_option maxRecDepth 100000 in
theorem undAct3 : ∃ f0 f1 f2 : Field, Try.prog.underlying 42 = some (.struct #[f0, f1, f2]) ∧ (f0.type = 3 ∧ f0.offset = 0) ∧ (f1.type = 3 ∧ f1.offset = 1) ∧ (f2.type = 3 ∧ f2.offset = 2) := by
  have h : (Try.prog.underlying 42).map act3Fs = some true := by kernel_rfl
  cases e : Try.prog.underlying 42 with
  | none => rw [e] at h; cases h
  | some d =>
    rw [e] at h
    cases d with
    | struct fs =>
      obtain ⟨l⟩ := fs
      simp only [Option.map_some, Option.some.injEq, act3Fs, beq_iff_eq] at h
      match l, h with
      | [f0, f1, f2], h =>
        simp only [List.map_cons, List.map_nil, List.cons.injEq, Prod.mk.injEq, and_true] at h
        obtain ⟨h0, h1, h2⟩ := h
        exact ⟨f0, f1, f2, rfl, h0, h1, h2⟩
    | _ => simp [act3Fs] at h
theorem cofAct3 : Try.prog.cellsOf 42 = 3 := by kernel_rfl
theorem cofIntA : Try.prog.cellsOf 3 = 1 := by kernel_rfl
theorem undIntA : Try.prog.underlying 3 = some (.int .i64) := by kernel_rfl
theorem at_one {cs : List Value} {k : Nat} {v : Value} (h : (cs.drop k).take 1 = [v]) : cs[k]? = some v := by
  have := congrArg (fun l => l[0]?) h
  simpa using this
section
variable {H : Type} {enc : TypeId × Value → H} {w : World} {base : Nat} {sp : Nat → Bool} {held : Bool}
set_option maxRecDepth 100000 in
theorem open_acts {fuel : Nat} {v : Value} {x : DataW H × List MemPlace} (h : DataW.trod enc Try.prog w base sp held fuel 22 [v] = some x) :
    ∃ (q : Option Addr) (n cap : Nat) (Z : Nat → Nat → Int), v = .slice q n cap ∧ n ≤ cap ∧ n ≤ maxLen ∧ (0 < n → ∃ bb off, q = some ⟨bb, off, none⟩ ∧ ∀ k, k < n → ∀ j, j < 3 → w.cell? ⟨bb, off + k * 3 + j, none⟩ = some (.int .i64 (Z k j))) := by
  obtain ⟨f0, f1, f2, hu, ⟨t0, o0⟩, ⟨t1, o1⟩, ⟨t2, o2⟩⟩ := undAct3
  rcases Deep.open_slice (show Try.prog.underlying 22 = some (.slice 42) by kernel_rfl) h with ⟨hcs, _⟩ | ⟨a, l, c, m, k, D, Pl, hcs, _, hl, hm, hmm, _, hel⟩
  · exact ⟨none, 0, 0, fun _ _ => 0, by simpa using hcs, Nat.le_refl _, Nat.zero_le _, fun h0 => by omega⟩
  · have hlm : l ≤ m := by rw [hmm]; split <;> omega
    have hall : ∀ i : Nat, ∃ z : Nat → Int, i < l → ∀ j, j < 3 → w.cell? (a.add (i * 3 + j)) = some (.int .i64 (z j)) := fun i => by
      by_cases hi : i < l
      · obtain ⟨cs', h1, h2⟩ := hel i (by omega)
        rw [cofAct3] at h1
        obtain ⟨_, hlen, hat⟩ := World.cells?_some h1
        obtain ⟨y0, y1, y2, n, _, _, e0, e1, e2⟩ := Go.Deep.trod_struct3 hu h2
        rw [t0, o0, cofIntA] at e0
        rw [t1, o1, cofIntA] at e1
        rw [t2, o2, cofIntA] at e2
        obtain ⟨z0, r0, _, _⟩ := DataW.trod_int undIntA e0
        obtain ⟨z1, r1, _, _⟩ := DataW.trod_int undIntA e1
        obtain ⟨z2, r2, _, _⟩ := DataW.trod_int undIntA e2
        refine ⟨fun j => if j = 0 then z0 else if j = 1 then z1 else z2, fun _ j hj => ?_⟩
        rw [← Go.Deep.add_add, hat j hj]
        rcases (show j = 0 ∨ j = 1 ∨ j = 2 by omega) with rfl | rfl | rfl
        · exact at_one r0
        · exact at_one r1
        · exact at_one r2
      · exact ⟨fun _ => 0, fun h => absurd h hi⟩
    obtain ⟨Z, hZ⟩ := Classical.axiomOfChoice hall
    refine ⟨some a, l, c, Z, by simpa using hcs, hl, by omega, fun h0 => ?_⟩
    have hc0 := hZ 0 h0 0 (by omega)
    have ha : a = ⟨a.block, a.off, none⟩ := plain_addr (v := .int .i64 (Z 0 0)) (by simpa [Addr.add] using hc0)
    refine ⟨a.block, a.off, by rw [← ha], fun i hi j hj => ?_⟩
    have hcj := hZ i hi j hj
    rw [ha, Addr.add_mid] at hcj
    rw [Nat.add_assoc]
    exact hcj
end
end Go.Proofs.Ytjbmeedfipggdaa
