/- What the lifted proofs share: structs by their fields; rows of numbers that were read. -/
import Derived.Test.YtjcjmlmdcjkceaaArgN1
import Derived.Test.YtjcjmlmdcjkceaaSl1
import Derived.Deep.Slices
namespace Go.Proofs.Ytjcjmlmdcjkceaa
open Go Go.ChangeShapes Go.WideShapes Go.ChangeAt Go.WideMaps Go.WideElems Go.RowKit
theorem plain_addr {w : World} {a : Addr} {v : Value} (h : w.cell? a = some v) : a = ⟨a.block, a.off, none⟩ := by
  obtain ⟨b, o, s⟩ := a
  cases s with
  | none => rfl
  | some x =>
    unfold World.cell? at h
    split at h <;> simp at h
def fldsAre (l : List (Nat × Nat)) : TypeDesc → Bool
  | .struct fs => fs.toList.map (fun f => (f.type, f.offset)) == l
  | _ => false
theorem flds_of {T : TypeId} {l : List (Nat × Nat)} (h : (Try.prog.underlying T).map (fldsAre l) = some true) : ∃ fs : Array Field, Try.prog.underlying T = some (.struct fs) ∧ fs.toList.map (fun f => (f.type, f.offset)) = l := by
  cases e : Try.prog.underlying T with
  | none => rw [e] at h; cases h
  | some d =>
    rw [e] at h
    cases d with
    | struct fs => exact ⟨fs, rfl, by simpa [fldsAre] using h⟩
    | _ => simp [fldsAre] at h
theorem cofI1 : Try.prog.cellsOf 3 = 1 := by kernel_rfl
section
variable {H : Type} {enc : TypeId × Value → H} {w : World} {base : Nat} {sp : Nat → Bool} {held : Bool}
set_option maxRecDepth 100000 in
theorem trod_fld {t : TypeId} {fs : Array Field} {l : List (Nat × Nat)} {fuel : Nat} {cs : List Value} {x : DataW H × List MemPlace} (ht : Try.prog.underlying t = some (.struct fs)) (hl : fs.toList.map (fun f => (f.type, f.offset)) = l) (h : DataW.trod enc Try.prog w base sp held fuel t cs = some x) (i T o : Nat) (hi : l[i]? = some (T, o)) :
    ∃ y n, DataW.trod enc Try.prog w base sp held n T ((cs.drop o).take (Try.prog.cellsOf T)) = some y := by
  obtain ⟨xs, n, _, _, _, hlen, hf⟩ := DataW.trod_struct ht h
  subst hl
  rw [List.getElem?_map] at hi
  cases hh : fs.toList[i]? with
  | none => rw [hh] at hi; cases hi
  | some f =>
    rw [hh, Option.map_some, Option.some.injEq, Prod.mk.injEq] at hi
    obtain ⟨rfl, rfl⟩ := hi
    have hlt : i < fs.toList.length := (List.getElem?_eq_some_iff.1 hh).1
    have hx : i < xs.length := by rw [hlen]; simpa using hlt
    have := hf i f (by simpa using hh)
    rw [List.getElem?_eq_getElem hx] at this
    exact ⟨_, _, this⟩
end
end Go.Proofs.Ytjcjmlmdcjkceaa
