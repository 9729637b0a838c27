/- Arguments opened: a case: rows of numbers and of steps. -/
import Derived.Test.YtilhkgbninbkkaaDoorArgR
import Derived.Test.YtilhkgbninbkkaaDoorArgS
import Derived.Test.YtilhkgbninbkkaaDoorTk10
import Derived.Deep.Slices
namespace Go.Proofs.YtilhkgbninbkkaaDoor
open Go Go.ChangeShapes Go.WideShapes Go.ChangeAt Go.WideMaps Go.WideElems Go.RowKit
def stpFs : TypeDesc → Bool
  | .struct fs => fs.toList.map (fun f => (f.type, f.offset)) == [(3, 0), (24, 1)]
  | _ => false
def cseFs : TypeDesc → Bool
  | .struct fs => fs.toList.map (fun f => (f.type, f.offset)) == [(51, 0), (52, 1)]
  | _ => false
theorem two_of {T a b p q : Nat} {g : TypeDesc → Bool} (hg : ∀ fs : Array Field, g (.struct fs) = (fs.toList.map (fun f => (f.type, f.offset)) == [(a, p), (b, q)])) (hn : ∀ d, (∀ fs, d ≠ .struct fs) → g d = false) (h : (Tryd.prog.underlying T).map g = some true) :
    ∃ f0 f1 : Field, Tryd.prog.underlying T = some (.struct #[f0, f1]) ∧ (f0.type = a ∧ f0.offset = p) ∧ (f1.type = b ∧ f1.offset = q) := by
  cases e : Tryd.prog.underlying T with
  | none => rw [e] at h; cases h
  | some d =>
    rw [e] at h
    simp only [Option.map_some, Option.some.injEq] at h
    by_cases hs : ∃ fs, d = .struct fs
    · obtain ⟨⟨l⟩, rfl⟩ := hs
      rw [hg] at h
      simp only [beq_iff_eq] at h
      match l, h with
      | [f0, f1], h =>
        simp only [List.map_cons, List.map_nil, List.cons.injEq, Prod.mk.injEq, and_true] at h
        exact ⟨f0, f1, rfl, h.1, h.2⟩
    · rw [hn d (fun fs e => hs ⟨fs, e⟩)] at h
      cases h
set_option maxRecDepth 100000 in
theorem undStpC : ∃ f0 f1 : Field, Tryd.prog.underlying 71 = some (.struct #[f0, f1]) ∧ (f0.type = 3 ∧ f0.offset = 0) ∧ (f1.type = 24 ∧ f1.offset = 1) :=
  two_of (g := stpFs) (fun _ => rfl) (fun d hd => by cases d <;> first | rfl | exact absurd rfl (hd _)) (by kernel_rfl)
set_option maxRecDepth 100000 in
theorem undCse : ∃ f0 f1 : Field, Tryd.prog.underlying 54 = some (.struct #[f0, f1]) ∧ (f0.type = 51 ∧ f0.offset = 0) ∧ (f1.type = 52 ∧ f1.offset = 1) :=
  two_of (g := cseFs) (fun _ => rfl) (fun d hd => by cases d <;> first | rfl | exact absurd rfl (hd _)) (by kernel_rfl)
theorem cofStp : Tryd.prog.cellsOf 71 = 7 := by kernel_rfl
theorem cofRf : Tryd.prog.cellsOf 24 = 6 := by kernel_rfl
theorem cofIn' : Tryd.prog.cellsOf 3 = 1 := by kernel_rfl
theorem cofIs : Tryd.prog.cellsOf 51 = 1 := by kernel_rfl
theorem cofSs : Tryd.prog.cellsOf 52 = 1 := by kernel_rfl
theorem cofCs : Tryd.prog.cellsOf 54 = 2 := by kernel_rfl
section
variable {H : Type} {enc : TypeId × Value → H} {w : World} {base : Nat} {sp : Nat → Bool} {held : Bool}
theorem trod_struct2 {t : TypeId} {f0 f1 : Field} {fuel : Nat} {cs : List Value} {x : DataW H × List MemPlace} (ht : Tryd.prog.underlying t = some (.struct #[f0, f1])) (h : DataW.trod enc Tryd.prog w base sp held fuel t cs = some x) :
    ∃ y0 y1 n, cs.length = Tryd.prog.cellsOf t ∧ DataW.trod enc Tryd.prog w base sp held n f0.type ((cs.drop f0.offset).take (Tryd.prog.cellsOf f0.type)) = some y0 ∧
      DataW.trod enc Tryd.prog w base sp held n f1.type ((cs.drop f1.offset).take (Tryd.prog.cellsOf f1.type)) = some y1 := by
  obtain ⟨xs, n, _, _, hl, hlen, hf⟩ := DataW.trod_struct ht h
  match xs, hlen with
  | [y0, y1], _ => exact ⟨y0, y1, n, hl, by simpa using hf 0 f0 rfl, by simpa using hf 1 f1 rfl⟩
set_option maxRecDepth 100000 in
theorem open_steps {fuel : Nat} {v : Value} {x : DataW H × List MemPlace} (h : DataW.trod enc Tryd.prog w base sp held fuel 52 [v] = some x) :
    ∃ (q : Option Addr) (n cap : Nat) (A : Nat → Int) (R : Nat → Rg), v = .slice q n cap ∧ n ≤ maxLen ∧ Stp w q n A R := by
  obtain ⟨f0, f1, hu, ⟨t0, o0⟩, ⟨t1, o1⟩⟩ := undStpC
  rcases Deep.open_slice (show Tryd.prog.underlying 52 = some (.slice 71) by kernel_rfl) h with ⟨hcs, _⟩ | ⟨a, l, c, m, k, D, Pl, hcs, _, hl, hm, hmm, _, hel⟩
  · exact ⟨none, 0, 0, fun _ => 0, fun _ => rgNone, by simpa using hcs, Nat.zero_le _, fun h0 => by omega⟩
  · have hlm : l ≤ m := by rw [hmm]; split <;> omega
    have hall : ∀ i : Nat, ∃ s : Int × Rg, i < l → ∀ j, j < 7 → w.cell? (a.add (i * 7 + j)) = some (stC s.1 s.2 j) := fun i => by
      by_cases hi : i < l
      · obtain ⟨cs', h1, h2⟩ := hel i (by omega)
        rw [cofStp] at h1
        obtain ⟨_, hlen, hat⟩ := World.cells?_some h1
        obtain ⟨y0, y1, n, _, e0, e1⟩ := trod_struct2 hu h2
        rw [t0, o0, cofIn'] at e0
        rw [t1, o1, cofRf] at e1
        obtain ⟨z0, r0, _, _⟩ := DataW.trod_int (show Tryd.prog.underlying 3 = some (.int .i64) by kernel_rfl) e0
        obtain ⟨r, r1⟩ := open_rgc (T := 24) (by kernel_rfl) cofRf e1
        refine ⟨⟨z0, r⟩, fun _ j hj => ?_⟩
        have hcj : cs'[j]? = some (stC z0 r j) := by
          unfold stC
          by_cases h0 : j = 0
          · subst h0; rw [if_pos rfl]; exact at_one r0
          · rw [if_neg h0]
            have := congrArg (fun l => l[j - 1]?) r1
            simp only [List.getElem?_take, List.getElem?_drop, List.getElem?_map] at this
            rw [if_pos (by omega), show 1 + (j - 1) = j from by omega, List.getElem?_range (by omega)] at this
            exact this
        rw [← Go.Deep.add_add, hat j hj]
        exact hcj
      · exact ⟨⟨0, rgNone⟩, fun h => absurd h hi⟩
    obtain ⟨S, hS⟩ := Classical.axiomOfChoice hall
    refine ⟨some a, l, c, fun i => (S i).1, fun i => (S i).2, by simpa using hcs, by omega, fun h0 => ?_⟩
    have hc0 := hS 0 h0 0 (by omega)
    have ha : a = ⟨a.block, a.off, none⟩ := plain_addr (v := stC (S 0).1 (S 0).2 0) (by simpa [Addr.add] using hc0)
    refine ⟨a.block, a.off, by rw [← ha], fun i hi j hj => ?_⟩
    have hcj := hS i hi j hj
    rw [ha, Addr.add_mid] at hcj
    rw [Nat.add_assoc]
    exact hcj
set_option maxRecDepth 100000 in
theorem open_case {v : Value} {d : DataW H} {p : List MemPlace} {r : Reach} {b0 : Nat} (hv : Value.okWide Tryd.prog w r b0 54 v) (h : DataW.Trod enc Tryd.prog w base sp held 54 v d p) :
    ∃ (q : Option Addr) (n cap : Nat) (Z : Nat → Int) (q2 : Option Addr) (n2 cap2 : Nat) (A : Nat → Int) (R : Nat → Rg), v = .agg (cellsOf (csC q n cap q2 n2 cap2) 2) ∧ n ≤ maxLen ∧ Ats w q n (fun j => .int .i64 (Z j)) ∧ n2 ≤ maxLen ∧ Stp w q2 n2 A R := by
  obtain ⟨f0, f1, hu, ⟨t0, o0⟩, ⟨t1, o1⟩⟩ := undCse
  obtain ⟨cs, rfl, _⟩ := okWide_struct hu hv
  obtain ⟨fuel, hf⟩ := h
  obtain ⟨y0, y1, n, hl, e0, e1⟩ := trod_struct2 hu hf
  rw [cofCs] at hl
  rw [t0, o0, cofIs] at e0
  rw [t1, o1, cofSs] at e1
  obtain ⟨c0, c1, hcs⟩ : ∃ c0 c1, (Value.agg cs).cells.toList = [c0, c1] := by
    match hm : (Value.agg cs).cells.toList, hl with
    | [c0, c1], _ => exact ⟨c0, c1, rfl⟩
  rw [hcs] at e0 e1
  obtain ⟨q, n, cap, Z, rfl, _, hn, hZ⟩ := open_numbers e0
  obtain ⟨q2, n2, cap2, A, R, rfl, hn2, hS⟩ := open_steps e1
  refine ⟨q, n, cap, Z, q2, n2, cap2, A, R, ?_, hn, hZ, hn2, hS⟩
  congr 1
  apply Array.ext'
  have : cs.toList = [.slice q n cap, .slice q2 n2 cap2] := by simpa [Value.cells] using hcs
  rw [this]
  rfl
end
end Go.Proofs.YtilhkgbninbkkaaDoor
