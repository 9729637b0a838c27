/- What all rows of the seat share: the package's tables as the row's condition gives them. Arguments opened: bytes, and slices of bytes. A row of acts on a map, and a map's numbers, as they were read. -/
import Derived.Test.YtjdclgnlnehjlaaDoorRows
import Derived.Test.YtjdclgnlnehjlaaDoorMgDig2
import Derived.WalkKit
import Derived.ProofKit
import Derived.OpenShut
import Derived.LaidMore
import Derived.Stop.Joined
import Derived.Deep.Slices
import Derived.Test.YtjdclgnlnehjlaaDoorMgPotB
import Derived.Test.YtjdclgnlnehjlaaDoorFe1
namespace Go.Proofs.YtjdclgnlnehjlaaDoor
open Go Go.ChangeShapes Go.WideShapes Go.ChangeAt Go.WideMaps Go.WideElems Go.RowKit Sha
theorem own : ownKnob Tryd.prog.godebug = none := by kernel_rfl
theorem laidOut : laidOutB Tryd.prog = true := by kernel_rfl
def laid2 : List (String × DataW Unit) := [("tipstaff/digest.beginnings", Rows.laid_tipstaff_digest_beginnings), ("tipstaff/digest.constants", Rows.laid_tipstaff_digest_constants)]
theorem gH : Tryd.prog.globalNamed "tipstaff/digest.beginnings" = some 0 := by kernel_rfl
theorem gK : Tryd.prog.globalNamed "tipstaff/digest.constants" = some 2 := by kernel_rfl
theorem tH : (Tryd.prog.globals[0]?).map (·.type) = some 109 := by kernel_rfl
theorem tK : (Tryd.prog.globals[2]?).map (·.type) = some 140 := by kernel_rfl
theorem und35 : Tryd.prog.underlying 108 = some (.int .u32) := by kernel_rfl
theorem cof35 : Tryd.prog.cellsOf 108 = 1 := by kernel_rfl
/-- The door's own heap meets the condition. -/
theorem door_met (os : Os) (args : Array Value) : laidMetH Tryd.prog laid2 ((World.doorLaid Tryd.prog 400 os).forCall (fun _ _ => 0) ⟨#[], args, []⟩).memory :=
  laidMetH_of_parts3 (fuel := 8) (laidMet_of_run' 8 (by kernel_rfl) (by kernel_rfl)) (by kernel_rfl) (by kernel_rfl)
theorem cells_of_laid {H : Type} {enc : TypeId × Value → H} {P : Program} {w : World} {base : Nat} {sp : Nat → Bool} {held : Bool} {fuel t e n : Nat} {cs : List Value} {L : List Int} {q : List MemPlace}
    (ht : P.underlying t = some (.array n e)) (he : P.underlying e = some (.int .u32)) (hc : P.cellsOf e = 1)
    (h : DataW.trod enc P w base sp held fuel t cs = some (.agg (L.map fun z => .lit (.int .u32 z)), q)) (hct : P.cellsOf t = n) : cs = L.map fun z => .int .u32 z := by
  obtain ⟨xs, m, rfl, hx, hlen, hn, hel⟩ := DataW.trod_array ht h
  simp only [Prod.mk.injEq, DataW.agg.injEq] at hx
  have hLn : L.length = n := by
    have := congrArg List.length hx.1
    simp only [List.length_map] at this
    omega
  rw [hct] at hlen
  apply List.ext_getElem?
  intro i
  by_cases hi : i < n
  · have h0 := hel i hi
    rw [hc, Nat.mul_one] at h0
    have hxi : xs[i]? = some xs[i] := List.getElem?_eq_getElem (by omega)
    rw [hxi] at h0
    obtain ⟨k, e1, e2, _⟩ := DataW.trod_int he h0
    have h1 := congrArg (fun l => l[i]?) hx.1
    simp only [List.getElem?_map, hxi, e2, Option.map_some] at h1
    have hLi : L[i]? = some L[i] := List.getElem?_eq_getElem (by omega)
    rw [hLi] at h1
    simp only [Option.map_some, Option.some.injEq, DataW.lit.injEq, Lit.int.injEq, true_and] at h1
    rw [List.getElem?_map, hLi, Option.map_some, h1]
    have hci : cs[i]? = some cs[i] := List.getElem?_eq_getElem (by omega)
    have : (cs.drop i).take 1 = [cs[i]] := by
      rw [List.drop_eq_getElem_cons (by omega)]; rfl
    rw [this] at e1
    rw [hci]
    simpa using e1
  · rw [List.getElem?_eq_none (by omega), List.getElem?_eq_none (by simp; omega)]
theorem of_laid {W : World} (h : laidMetH Tryd.prog laid2 W) : Tabs W := by
  rw [MakeChecks.laidMetH_plain _ _ _ (by kernel_rfl)] at h
  obtain ⟨ps, ⟨g0, t0, cs0, f0, p0, q0, hg0, ht0, hv0, hd0, ⟨g1, t1, cs1, f1, p1, q1, hg1, ht1, hv1, hd1, _, _⟩, _⟩, _, _⟩ := h
  obtain rfl := Option.some.inj (gH.symm.trans hg0)
  obtain rfl := Option.some.inj (gK.symm.trans hg1)
  obtain rfl := Option.some.inj (tH.symm.trans ht0)
  obtain rfl := Option.some.inj (tK.symm.trans ht1)
  have a0 := cells_of_laid (L := hL.map Int.ofNat) und37 und35 cof35 hd0 (by kernel_rfl)
  have a1 := cells_of_laid (L := kL.map Int.ofNat) und36 und35 cof35 hd1 (by kernel_rfl)
  have blockOf : ∀ (g : Nat) (n : String) (cs : Array Value), Tryd.prog.globalNamed n = some g → W.var? Tryd.prog n = some cs → ∃ T fr, W.heap[g]? = some (.cells cs T fr) := fun g n cs hg hv => by
    unfold World.var? at hv
    rw [hg] at hv
    simp only [Option.bind_some] at hv
    split at hv
    · rename_i cs' T fr heq
      obtain rfl : cs' = cs := by simpa using hv
      exact ⟨T, fr, heq⟩
    · cases hv
  obtain ⟨T0, fr0, b0⟩ := blockOf _ _ _ hg0 hv0
  obtain ⟨T1, fr1, b1⟩ := blockOf _ _ _ hg1 hv1
  refine ⟨⟨T0, fr0, ?_⟩, ⟨T1, fr1, ?_⟩⟩
  · rw [b0]
    have : cs0 = cellsOf (fun j => U (Hc j)) 8 := by
      apply Array.ext'; rw [a0]; rfl
    rw [this]
  · rw [b1]
    have : cs1 = cellsOf (fun j => U (Kc j)) 64 := by
      apply Array.ext'; rw [a1]; rfl
    rw [this]
end Go.Proofs.YtjdclgnlnehjlaaDoor
namespace Go.Proofs.YtjdclgnlnehjlaaDoor
open Go Go.ChangeShapes Go.WideShapes Go.ChangeAt Go.WideMaps Go.WideElems Go.RowKit Sha
theorem By_of_int (z : Int) (h0 : 0 ≤ z) (h1 : z < 256) : Value.int .u8 z = By (BitVec.ofInt 8 z) := by
  unfold By v8
  rw [BitVec.toNat_ofInt]
  congr 1; omega
theorem addr_plain {w : World} {a : Addr} {v : Value} (h : w.cell? a = some v) : a = ⟨a.block, a.off, none⟩ := by
  obtain ⟨b, o, s⟩ := a
  cases s with
  | none => rfl
  | some x =>
    unfold World.cell? at h
    split at h <;> simp at h
section
variable {H : Type} {enc : TypeId × Value → H} {w : World} {base : Nat} {sp : Nat → Bool} {held : Bool}
end
end Go.Proofs.YtjdclgnlnehjlaaDoor
namespace Go.Proofs.YtjdclgnlnehjlaaDoor
open Go Go.ChangeShapes Go.WideShapes Go.ChangeAt Go.WideMaps Go.WideElems Go.RowKit
def fldsAre (l : List (Nat × Nat)) : TypeDesc → Bool
  | .struct fs => fs.toList.map (fun f => (f.type, f.offset)) == l
  | _ => false
theorem flds_of {T : TypeId} {l : List (Nat × Nat)} (h : (Tryd.prog.underlying T).map (fldsAre l) = some true) : ∃ fs : Array Field, Tryd.prog.underlying T = some (.struct fs) ∧ fs.toList.map (fun f => (f.type, f.offset)) = l := by
  cases e : Tryd.prog.underlying T with
  | none => rw [e] at h; cases h
  | some d =>
    rw [e] at h
    cases d with
    | struct fs => exact ⟨fs, rfl, by simpa [fldsAre] using h⟩
    | _ => simp [fldsAre] at h
theorem bounds_u64 {k : Int} (h : (Lit.int .u64 k).wf = true) : 0 ≤ k := by
  simp only [Lit.wf, Bool.and_eq_true, decide_eq_true_eq] at h
  have e1 : IntKind.u64.min = 0 := by decide
  rw [e1] at h; exact h.1
section
variable {H : Type} {enc : TypeId × Value → H} {w : World} {base : Nat} {sp : Nat → Bool} {held : Bool}
set_option maxRecDepth 100000 in
theorem trod_fld {t : TypeId} {fs : Array Field} {l : List (Nat × Nat)} {fuel : Nat} {cs : List Value} {x : DataW H × List MemPlace} (ht : Tryd.prog.underlying t = some (.struct fs)) (hl : fs.toList.map (fun f => (f.type, f.offset)) = l) (h : DataW.trod enc Tryd.prog w base sp held fuel t cs = some x) (i T o : Nat) (hi : l[i]? = some (T, o)) :
    ∃ y n, DataW.trod enc Tryd.prog w base sp held n T ((cs.drop o).take (Tryd.prog.cellsOf T)) = some y := by
  obtain ⟨xs, n, _, _, _, hlen, hf⟩ := DataW.trod_struct ht h
  subst hl
  rw [List.getElem?_map] at hi
  cases hh : fs.toList[i]? with
  | none => rw [hh] at hi; cases hi
  | some f =>
    rw [hh, Option.map_some, Option.some.injEq, Prod.mk.injEq] at hi
    obtain ⟨rfl, rfl⟩ := hi
    have hlt : i < fs.toList.length := (List.getElem?_eq_some_iff.1 hh).1
    have hx : i < xs.length := by rw [hlen]; simpa using hlt
    have := hf i f (by simpa using hh)
    rw [List.getElem?_eq_getElem hx] at this
    exact ⟨_, _, this⟩
set_option maxRecDepth 100000 in
theorem trod_len {t : TypeId} {fs : Array Field} {fuel : Nat} {cs : List Value} {x : DataW H × List MemPlace} (ht : Tryd.prog.underlying t = some (.struct fs)) (h : DataW.trod enc Tryd.prog w base sp held fuel t cs = some x) : cs.length = Tryd.prog.cellsOf t := by
  obtain ⟨_, _, _, _, hl, _, _⟩ := DataW.trod_struct ht h
  exact hl
theorem at_oneF {cs : List Value} {k : Nat} {v : Value} (h : (cs.drop k).take 1 = [v]) : cs[k]? = some v := by
  have := congrArg (fun l => l[0]?) h
  simpa [List.getElem?_take, List.getElem?_drop] using this
theorem open_bytesF {fuel : Nat} {cs : List Value} {x : DataW H × List MemPlace} (h : DataW.trod enc Tryd.prog w base sp held fuel 35 cs = some x) :
    ∃ (q : Option Addr) (n cap : Nat) (D : Nat → BitVec 8), cs = [.slice q n cap] ∧ n ≤ cap ∧ Ats w q n (fun j => By (D j)) := by
  rcases open_ints und22 und5 (by kernel_rfl) h with ⟨hcs, _⟩ | ⟨a, l, c, zs, hcs, _, hl, hm, hz, _, hcell, hwz⟩
  · exact ⟨none, 0, 0, fun _ => 0, hcs, Nat.le_refl _, fun h0 => absurd h0 (by omega)⟩
  · refine ⟨some a, l, c, fun j => BitVec.ofInt 8 (zs.getD j 0), hcs, hl, fun h0 => ?_⟩
    have hz' : l ≤ zs.length := by rw [hz]; split <;> omega
    have hc0 := hcell 0 (by omega)
    have ha : a = ⟨a.block, a.off, none⟩ := addr_plain (v := .int .u8 (zs.getD 0 0)) (by simpa [Addr.add] using hc0)
    refine ⟨a.block, a.off, by rw [← ha], fun j hj => ?_⟩
    have hcj := hcell j (by omega)
    rw [ha, Addr.add_mid] at hcj
    rw [hcj]
    have hw := hwz (zs.getD j 0) (by rw [List.getD_eq_getElem?_getD, List.getElem?_eq_getElem (by omega)]; exact List.getElem_mem _)
    have hb := bounds_u8 hw
    exact congrArg some (By_of_int _ hb.1 (by have := hb.2; omega))
def avNone : Av := ⟨0, none, 0, 0, fun _ => 0, none, 0, 0, fun _ => 0, 0, false⟩
set_option maxRecDepth 100000 in
theorem open_acts {fuel : Nat} {v : Value} {x : DataW H × List MemPlace} (h : DataW.trod enc Tryd.prog w base sp held fuel 24 [v] = some x) :
    ∃ (q : Option Addr) (n cap : Nat) (A : Nat → Av), v = .slice q n cap ∧ n ≤ cap ∧ n ≤ maxLen ∧ ActsAt w q n A := by
  obtain ⟨fs, hu, hl⟩ := flds_of (T := 38) (l := [(3, 0), (35, 1), (35, 2), (36, 3), (4, 4)]) (by kernel_rfl)
  have cofA : Tryd.prog.cellsOf 38 = 5 := by kernel_rfl
  have k0 : Tryd.prog.cellsOf 3 = 1 := by kernel_rfl
  have k1 : Tryd.prog.cellsOf 35 = 1 := by kernel_rfl
  have k3 : Tryd.prog.cellsOf 36 = 1 := by kernel_rfl
  have k4 : Tryd.prog.cellsOf 4 = 1 := by kernel_rfl
  rcases Deep.open_slice undActs h with ⟨hcs, _⟩ | ⟨a, l, c, m, k, D, Pl, hcs, _, hle, hm, hmm, _, hel⟩
  · exact ⟨none, 0, 0, fun _ => avNone, by simpa using hcs, Nat.le_refl _, Nat.zero_le _, ⟨fun h0 => absurd h0 (by omega), fun k hk => absurd hk (by omega)⟩⟩
  · have hlm : l ≤ m := by rw [hmm]; split <;> omega
    have hall : ∀ i : Nat, ∃ z : Av, i < l → (∀ j, j < 5 → w.cell? (a.add (i * 5 + j)) = some (avC z j)) ∧ AvOk w z := fun i => by
      by_cases hi : i < l
      · obtain ⟨cs', h1, h2⟩ := hel i (by omega)
        rw [cofA] at h1
        obtain ⟨_, hlen, hat⟩ := World.cells?_some h1
        obtain ⟨y0, m0, e0⟩ := trod_fld hu hl h2 0 _ _ rfl
        obtain ⟨y1, m1, e1⟩ := trod_fld hu hl h2 1 _ _ rfl
        obtain ⟨y2, m2, e2⟩ := trod_fld hu hl h2 2 _ _ rfl
        obtain ⟨y3, m3, e3⟩ := trod_fld hu hl h2 3 _ _ rfl
        obtain ⟨y4, m4, e4⟩ := trod_fld hu hl h2 4 _ _ rfl
        rw [k0] at e0
        rw [k1] at e1
        rw [k1] at e2
        rw [k3] at e3
        rw [k4] at e4
        obtain ⟨z0, r0, _, _⟩ := DataW.trod_int (show Tryd.prog.underlying 3 = some (.int .i64) by kernel_rfl) e0
        obtain ⟨q1, n1, c1, D1, r1, l1, a1⟩ := open_bytesF e1
        obtain ⟨q2, n2, c2, D2, r2, l2, a2⟩ := open_bytesF e2
        obtain ⟨z3, r3, _, w3⟩ := DataW.trod_int (show Tryd.prog.underlying 36 = some (.int .u64) by kernel_rfl) e3
        obtain ⟨b4, r4, _⟩ := DataW.trod_bool (show Tryd.prog.underlying 4 = some .bool by kernel_rfl) e4
        refine ⟨⟨z0, q1, n1, c1, D1, q2, n2, c2, D2, z3, b4⟩, fun _ => ⟨fun j hj => ?_, ⟨l1, l2, bounds_u64 w3, a1, a2⟩⟩⟩
        rw [← Go.Deep.add_add, hat j hj]
        rcases (show j = 0 ∨ j = 1 ∨ j = 2 ∨ j = 3 ∨ j = 4 by omega) with rfl | rfl | rfl | rfl | rfl
        · exact at_oneF r0
        · exact at_oneF r1
        · exact at_oneF r2
        · exact at_oneF r3
        · exact at_oneF r4
      · exact ⟨avNone, fun h => absurd h hi⟩
    obtain ⟨Z, hZ⟩ := Classical.axiomOfChoice hall
    refine ⟨some a, l, c, Z, by simpa using hcs, hle, by omega, ⟨fun h0 => ?_, fun k hk => (hZ k hk).2⟩⟩
    have hc0 := (hZ 0 h0).1 0 (by omega)
    have ha : a = ⟨a.block, a.off, none⟩ := addr_plain (v := avC (Z 0) 0) (by simpa [Addr.add] using hc0)
    refine ⟨a.block, a.off, by rw [← ha], fun i hi j hj => ?_⟩
    have hcj := (hZ i hi).1 j hj
    rw [ha, Addr.add_mid] at hcj
    rw [Nat.add_assoc]
    exact hcj
set_option maxRecDepth 100000 in
theorem open_spec {v : Value} {d : DataW H} {p : List MemPlace} {r : Reach} {b0 : Nat} (hv : Value.okWide Tryd.prog w r b0 23 v) (h : DataW.Trod enc Tryd.prog w base sp held 23 v d p) :
    ∃ z0 z1 z2 z3 : Int, v = .agg (cellsOf (sp4 z0 z1 z2 z3) 4) := by
  obtain ⟨fs, hu, hl⟩ := flds_of (T := 23) (l := [(3, 0), (3, 1), (3, 2), (3, 3)]) (by kernel_rfl)
  have cofS : Tryd.prog.cellsOf 23 = 4 := by kernel_rfl
  have k0 : Tryd.prog.cellsOf 3 = 1 := by kernel_rfl
  obtain ⟨cs, rfl, _⟩ := okWide_struct hu hv
  obtain ⟨fuel, hf⟩ := h
  have hlen := trod_len hu hf
  rw [cofS] at hlen
  obtain ⟨y0, m0, e0⟩ := trod_fld hu hl hf 0 _ _ rfl
  obtain ⟨y1, m1, e1⟩ := trod_fld hu hl hf 1 _ _ rfl
  obtain ⟨y2, m2, e2⟩ := trod_fld hu hl hf 2 _ _ rfl
  obtain ⟨y3, m3, e3⟩ := trod_fld hu hl hf 3 _ _ rfl
  rw [k0] at e0 e1 e2 e3
  obtain ⟨z0, r0, _, _⟩ := DataW.trod_int (show Tryd.prog.underlying 3 = some (.int .i64) by kernel_rfl) e0
  obtain ⟨z1, r1, _, _⟩ := DataW.trod_int (show Tryd.prog.underlying 3 = some (.int .i64) by kernel_rfl) e1
  obtain ⟨z2, r2, _, _⟩ := DataW.trod_int (show Tryd.prog.underlying 3 = some (.int .i64) by kernel_rfl) e2
  obtain ⟨z3, r3, _, _⟩ := DataW.trod_int (show Tryd.prog.underlying 3 = some (.int .i64) by kernel_rfl) e3
  refine ⟨z0, z1, z2, z3, ?_⟩
  have h0 := at_oneF r0
  have h1 := at_oneF r1
  have h2 := at_oneF r2
  have h3 := at_oneF r3
  congr 1
  apply Array.ext'
  have hc : cs.toList = [.int .i64 z0, .int .i64 z1, .int .i64 z2, .int .i64 z3] := by
    have hcs : (Value.agg cs).cells.toList = cs.toList := by simp [Value.cells]
    rw [hcs] at hlen h0 h1 h2 h3
    apply List.ext_getElem?
    intro i
    rcases Nat.lt_or_ge i 4 with hi | hi
    · rcases (show i = 0 ∨ i = 1 ∨ i = 2 ∨ i = 3 by omega) with rfl | rfl | rfl | rfl
      · exact h0
      · exact h1
      · exact h2
      · exact h3
    · rw [List.getElem?_eq_none (by omega), List.getElem?_eq_none (by simpa using hi)]
  rw [hc]
  rfl
end
end Go.Proofs.YtjdclgnlnehjlaaDoor
