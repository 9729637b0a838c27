/- Rights as words: laws of the operations of the document's Parse. -/
import Derived.Test.YtilhkgbninbkkaaDoorRq0
import Derived.Test.YtilhkgbninbkkaaDoorOw2
namespace Go.Proofs.YtilhkgbninbkkaaDoor
open Go Go.RowKit
section
variable {P : Program} {a : Act} {o : Oper} {T ty : TypeId} {x y z : Operand} {k : IntKind} {p q : Int} {r : Bool}
theorem run_leqK (ho : o.op = .binOp .leq T x y ty) (hx : a.eval x = .int k p) (hy : a.eval y = .int k q) (h : decide (p ≤ q) = r) (w : World) : (execOp a.eval o).run P w = .ok (.value (.bool r)) w := by
  subst h; unfold execOp; simp only [ho, hx, hy]; go_simp
theorem run_geqK (ho : o.op = .binOp .geq T x y ty) (hx : a.eval x = .int k p) (hy : a.eval y = .int k q) (h : decide (q ≤ p) = r) (w : World) : (execOp a.eval o).run P w = .ok (.value (.bool r)) w := by
  subst h; unfold execOp; simp only [ho, hx, hy]; go_simp
theorem run_lssK (ho : o.op = .binOp .lss T x y ty) (hx : a.eval x = .int k p) (hy : a.eval y = .int k q) (h : decide (p < q) = r) (w : World) : (execOp a.eval o).run P w = .ok (.value (.bool r)) w := by
  subst h; unfold execOp; simp only [ho, hx, hy]; go_simp
theorem run_gtrK (ho : o.op = .binOp .gtr T x y ty) (hx : a.eval x = .int k p) (hy : a.eval y = .int k q) (h : decide (q < p) = r) (w : World) : (execOp a.eval o).run P w = .ok (.value (.bool r)) w := by
  subst h; unfold execOp; simp only [ho, hx, hy]; go_simp
theorem run_eqK (ho : o.op = .binOp .eql T x y ty) (hx : a.eval x = .int k p) (hy : a.eval y = .int k q) (h : (p == q) = r) (w : World) : (execOp a.eval o).run P w = .ok (.value (.bool r)) w := by
  subst h; unfold execOp; simp only [ho, hx, hy]; go_simp
theorem run_eqT {u v : ByteArray} (ho : o.op = .binOp .eql T x y ty) (hx : a.eval x = .string u) (hy : a.eval y = .string v) (h : (u.toList == v.toList) = r) (w : World) : (execOp a.eval o).run P w = .ok (.value (.bool r)) w := by
  subst h; unfold execOp; simp only [ho, hx, hy]; go_simp
theorem run_mul16 {n m : Nat} (ho : o.op = .binOp .mul T x y ty) (hx : a.eval x = .int .u16 (n : Int)) (hy : a.eval y = .int .u16 16) (hm : m = n * 16) (h : m < 65536) (w : World) : (execOp a.eval o).run P w = .ok (.value (.int .u16 (m : Int))) w := by
  have e : IntKind.u16.wrap ((n : Int) * 16) = (m : Int) := by
    simp [IntKind.wrap, IntKind.signed, IntKind.bits]; omega
  unfold execOp; simp only [ho, hx, hy]; go_simp; first | done | exact e | simp [e]
theorem run_sub8 {c d m : Nat} (ho : o.op = .binOp .sub T x y ty) (hx : a.eval x = .int .u8 (c : Int)) (hy : a.eval y = .int .u8 p) (hp : p = (d : Int)) (hd : d ≤ c) (hc : c < 256) (hm : m = c - d) (w : World) : (execOp a.eval o).run P w = .ok (.value (.int .u8 (m : Int))) w := by
  subst hp
  have e : IntKind.u8.wrap ((c : Int) - (d : Int)) = (m : Int) := by
    simp [IntKind.wrap, IntKind.signed, IntKind.bits]; omega
  unfold execOp; simp only [ho, hx, hy]; go_simp; first | done | exact e | simp [e]
theorem run_cv816 {src dst : TypeId} {c : Nat} (ho : o.op = .convert src dst x) (hs : P.underlying src = some (.int .u8)) (hd : P.underlying dst = some (.int .u16)) (hx : a.eval x = .int .u8 (c : Int)) (hc : c < 256) (w : World) : (execOp a.eval o).run P w = .ok (.value (.int .u16 (c : Int))) w := by
  have e : IntKind.u16.wrap (c : Int) = (c : Int) := by
    simp [IntKind.wrap, IntKind.signed, IntKind.bits]; omega
  unfold execOp
  simp only [ho, hx]
  simp [convert, Sem.run_bind, run_underlying hs, run_underlying hd, Conv.intToInt, e]
theorem run_add16 {n d m : Nat} (ho : o.op = .binOp .add T x y ty) (hx : a.eval x = .int .u16 (n : Int)) (hy : a.eval y = .int .u16 p) (hp : p = (d : Int)) (hm : m = n + d) (h : m < 65536) (w : World) : (execOp a.eval o).run P w = .ok (.value (.int .u16 (m : Int))) w := by
  subst hp
  have e : IntKind.u16.wrap ((n : Int) + (d : Int)) = (m : Int) := by
    simp [IntKind.wrap, IntKind.signed, IntKind.bits]; omega
  unfold execOp; simp only [ho, hx, hy]; go_simp; first | done | exact e | simp [e]
theorem run_inc {i m : Nat} (ho : o.op = .binOp .add T x y ty) (hx : a.eval x = .int .i64 (i : Int)) (hy : a.eval y = .int .i64 1) (hm : m = i + 1) (hi : i < 1000000000000000) (w : World) : (execOp a.eval o).run P w = .ok (.value (.int .i64 (m : Int))) w := by
  subst hm
  have e : IntKind.i64.wrap ((i : Int) + 1) = ((i + 1 : Nat) : Int) := by rw [IntKind.wrap_i64]; omega
  have e2 : IntKind.i64.wrap ((i : Int) + 1) = (i : Int) + 1 := by rw [IntKind.wrap_i64]; omega
  unfold execOp; simp only [ho, hx, hy]; go_simp; first | done | exact e | exact e2 | (rw [e2]; rfl)
theorem run_lenS {t : TypeId} {s : ByteArray} {n : Nat} (ho : o.op = .call { callee := .builtin .len, args := #[x], argTypes := #[t] }) (ht : P.underlying t = some .string) (hx : a.eval x = .string s) (hn : s.size = n) (w : World) : (execOp a.eval o).run P w = .ok (.value (.int .i64 (n : Int))) w := by
  subst hn
  unfold execOp
  simp [ho, resolve, invoke, builtin, hx, run_len_string w t o.type s ht, Result.andThen, goInt]
theorem run_lenL {t e : TypeId} {b : Option Addr} {n c : Nat} (ho : o.op = .call { callee := .builtin .len, args := #[x], argTypes := #[t] }) (ht : P.underlying t = some (.slice e)) (hx : a.eval x = .slice b n c) (w : World) : (execOp a.eval o).run P w = .ok (.value (.int .i64 (n : Int))) w := by
  have he : P.underlying t = some (.slice (P.elem t)) := by rw [ht]; unfold Program.elem; simp [ht]
  unfold execOp
  simp [ho, resolve, invoke, builtin, hx, run_len_slice w t o.type b n c he, Result.andThen, goInt]
theorem get_data (s : ByteArray) (i : Nat) (hi : i < s.size) : s.data.toList[i]? = some s[i] := by
  rw [List.getElem?_eq_getElem (by rw [Lib.size_eq] at hi; exact hi)]
  rfl
theorem run_ixS {t : TypeId} {s : ByteArray} {i : Nat} {c : UInt8} (ho : o.op = .index t x y) (ht : P.underlying t = some .string) (hx : a.eval x = .string s) (hy : a.eval y = .int .i64 (i : Int)) (hc : s.data.toList[i]? = some c) (w : World) : (execOp a.eval o).run P w = .ok (.value (.int .u8 ((c.toNat : Nat) : Int))) w := by
  have hi : i < s.size := by rw [Lib.size_eq]; exact (List.getElem?_eq_some_iff.1 hc).1
  have hc2 := get_data s i hi
  rw [hc] at hc2
  obtain rfl := Option.some.inj hc2
  have h := run_index_string (P := P) w t s .i64 (i : Int) ht
  rw [dif_pos (by omega)] at h
  unfold execOp
  simp only [ho, hx, hy, Sem.run_bind, h, Result.andThen_ok, Sem.run_pure]
  rfl
theorem extract_one (s : ByteArray) (i : Nat) (c : UInt8) (hc : s.data.toList[i]? = some c) : s.extract i (i + 1) = ⟨#[c]⟩ := by
  have hi : i < s.data.size := by have := (List.getElem?_eq_some_iff.1 hc).1; simpa using this
  have hz : s.data.size = s.size := rfl
  apply ByteArray.ext
  rw [ByteArray.data_extract]
  apply Array.ext
  · simp; omega
  · intro j h1 h2
    have hj : j = 0 := by simp at h2; omega
    subst hj
    have h9 : s.data[i]? = some c := by rw [← Array.getElem?_toList]; exact hc
    rw [Array.getElem?_eq_getElem hi] at h9
    simp only [Array.getElem_extract, Nat.add_zero]
    exact Option.some.inj h9
theorem run_cut1 {t : TypeId} {s : ByteArray} {i m : Nat} {c : UInt8} (ho : o.op = .slice t x (some y) (some z) none) (ht : P.underlying t = some .string) (hx : a.eval x = .string s) (hy : a.eval y = .int .i64 (i : Int)) (hz : a.eval z = .int .i64 (m : Int)) (hm : m = i + 1) (hc : s.data.toList[i]? = some c) (w : World) : (execOp a.eval o).run P w = .ok (.value (.string ⟨#[c]⟩)) w := by
  subst hm
  have hi : i < s.size := by rw [Lib.size_eq]; exact (List.getElem?_eq_some_iff.1 hc).1
  have h := run_slice_string (P := P) w t s .i64 .i64 (i : Int) ((i + 1 : Nat) : Int) ht (by omega) (by omega) (by omega)
  have h2 := run_sliceAt_string (P := P) w t (.string s) (some (.int .i64 (i : Int))) (some (.int .i64 ((i + 1 : Nat) : Int))) none ht
  rw [h] at h2
  unfold execOp
  simp only [ho, hx, hy, hz, Option.map_some, Option.map_none, Sem.run_bind, h2, Result.andThen_ok, Sem.run_pure]
  rw [show ((i : Nat) : Int).toNat = i by omega, show (((i + 1 : Nat) : Int)).toNat = i + 1 by omega, extract_one s i c hc]
theorem load_cellQ {p : Addr} {v : Value} {w : World} (ty : TypeId) {d : TypeDesc} (hu : P.underlying ty = some d) (hd : (match d with | .struct _ | .array _ _ => false | _ => true) = true) (h : w.cell? p = some v) : (Instr.loadAt ty (.pointer (some p))).run P w = .ok v w := by
  have hagg : (isAgg ty).run P w = .ok false w := by
    unfold isAgg
    rw [Sem.run_bind, run_underlying hu w]
    cases d <;> simp_all
  unfold Instr.loadAt
  simp [Instr.sureAddr, Sem.run_bind, hagg, h, loadVar]
theorem run_cell1 (t : TypeId) (ho : o.op = .load t x) {b j : Nat} (hx : a.eval x = .pointer (some ⟨b, j, none⟩)) {d : TypeDesc} (hu : P.underlying t = some d) (hd : (match d with | .struct _ | .array _ _ => false | _ => true) = true) {v : Value} {w : World} (h : w.cell? ⟨b, j, none⟩ = some v) :
    (execOp a.eval o).run P w = .ok (.value v) w := by
  have hagg : P.underlying t = some d := hu
  unfold execOp
  simp only [ho, hx, Sem.run_bind, load_cellQ t hu hd h, Result.andThen_ok, Sem.run_pure]
theorem run_iaL {t e : TypeId} {g n c i : Nat} {b : Option Addr} (ho : o.op = .indexAddr t x y) (hx : a.eval x = .slice b n c) (hb : b = some ⟨g, 0, none⟩) (hy : a.eval y = .int .i64 (i : Int)) (hu : P.underlying t = some (.slice e)) (hs : (P.info? e).map (·.size) = some 1) (hi : i < n) (w : World) : (execOp a.eval o).run P w = .ok (.value (.pointer (some ⟨g, i, none⟩))) w := by
  subst hb
  cases hq : P.info? e with
  | none => rw [hq] at hs; cases hs
  | some u =>
    rw [hq] at hs
    have h1 : u.size = 1 := by simpa using hs
    have h2 : ¬ (n ≤ i) := by omega
    unfold execOp
    simp only [ho, hx, hy]
    simp [Instr.indexAt, Instr.sureAddr, asIntOf, Sem.run_bind, run_underlying hu, sizeOf, typeInfo, hq, h1, Addr.add, h2, hi]
    exact fun h => h.symm
theorem run_iaP {t e : TypeId} {b n i : Nat} (ho : o.op = .indexAddr t x y) (hx : a.eval x = .pointer (some ⟨b, 0, none⟩)) (hy : a.eval y = .int .i64 (i : Int)) (hu : P.underlying t = some (.array n e)) (hs : (P.info? e).map (·.size) = some 1) (hi : i < n) (w : World) : (execOp a.eval o).run P w = .ok (.value (.pointer (some ⟨b, i, none⟩))) w := by
  cases hq : P.info? e with
  | none => rw [hq] at hs; cases hs
  | some u =>
    rw [hq] at hs
    have h1 : u.size = 1 := by simpa using hs
    have h2 : ¬ (n ≤ i) := by omega
    unfold execOp
    simp only [ho, hx, hy]
    simp [Instr.indexAt, Instr.sureAddr, asIntOf, Sem.run_bind, run_underlying hu, sizeOf, typeInfo, hq, h1, Addr.add, h2, hi]
    exact fun h => h.symm
end
/-- A list of one text. -/
theorem wpl_bsT {ops : Array Oper} {rest : List Oper} {o : Oper} {a : Act} {w : World} {Q : Exit → Act → World → Prop} (hgd : o.guard = none) (x : Operand) (ho : o.op = .buildSlice 84 1 #[(0, x)]) (s : ByteArray) (hx : a.eval x = .string s) (N : Nat) (hN : Sz w N)
    (h : ∀ w1, Sz w1 (N + 1) → Below N w w1 → Has w1 N 9 1 (fun _ => .string s) → wpList Tryd.prog ops Q rest (a.put o.dst (.slice (some ⟨N, 0, none⟩) 1 1)) w1) : wpList Tryd.prog ops Q (o :: rest) a w := by
  have e : w.heap.size = N := hN
  subst e
  refine wpl_run hgd (.slice (some ⟨w.heap.size, 0, none⟩) 1 1) (w.alloc (.cells #[.string s] 9)) ?_ (h _ (sz_alloc rfl _) (below_new _ _ _ rfl) ?_)
  · clear h hN
    generalize a.eval = ev at *
    unfold execOp
    simp only [ho]
    go_simp
  · exact has_new rfl 9 1 (fun _ => .string s)
theorem undTs : Tryd.prog.underlying 84 = some (.slice 9) := by kernel_rfl
theorem oneT : OneCell Tryd.prog 9 := oneCell_of (k := 16) (v := .string ⟨#[]⟩) (by kernel_rfl) (by omega) rfl
end Go.Proofs.YtilhkgbninbkkaaDoor
