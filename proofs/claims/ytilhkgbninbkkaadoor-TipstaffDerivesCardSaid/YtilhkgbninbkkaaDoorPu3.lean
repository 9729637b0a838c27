/- Rights as words: guess, Parse. -/
import Derived.Test.YtilhkgbninbkkaaDoorMgPu2
namespace Go.Proofs.YtilhkgbninbkkaaDoor
open Go Go.RowKit
def wPriv : ByteArray := ⟨#[112, 114, 105, 118, 105, 108, 101, 103, 101, 100]⟩
def wSign : ByteArray := ⟨#[115, 105, 103, 110, 101, 100]⟩
/-- What a text's rights are, if it is any rights' text. -/
def gsR (s : ByteArray) : Rg :=
  ⟨BitVec.ofNat 16 (numOf s ⟨#[99]⟩), BitVec.ofNat 16 (numOf (restOf s) ⟨#[112]⟩), BitVec.ofNat 16 (numOf (restOf (restOf s)) ⟨#[109]⟩), BitVec.ofNat 16 (numOf (restOf (restOf (restOf s))) ⟨#[104]⟩),
   Lib.hasPrefix (restOf (restOf (restOf (restOf s)))).data.toList wPriv.data.toList, Lib.hasSuffix (restOf (restOf (restOf (restOf s)))).data.toList wSign.data.toList⟩
theorem Wd_ofNat {n : Nat} (h : n < 65536) : Value.int .u16 (n : Int) = Wd (BitVec.ofNat 16 n) := by
  have e : (BitVec.ofNat 16 n).toNat = n := by rw [BitVec.toNat_ofNat]; exact Nat.mod_eq_of_lt h
  show _ = Value.int .u16 (((BitVec.ofNat 16 n).toNat : Nat) : Int)
  rw [e]
theorem szU16 : (Tryd.prog.info? 22).map (·.size) = some 1 := by kernel_rfl
theorem szBo1 : (Tryd.prog.info? 4).map (·.size) = some 1 := by kernel_rfl
theorem post_cb {fn : Func} {R : Ending → World → Prop} {p u : Tmp} {T : TypeId} {a : Act} {w : World} (hr : fn.results = #[.cell p T, .tmp u]) (b : Nat) (hp : a.tmps.getD p undef = .pointer (some ⟨b, 0, none⟩))
    {n : Nat} {f : Nat → Value} (hh : Has w b T n f) (hu : ∃ d, Tryd.prog.underlying T = some d ∧ d.isRow = true) (hi : (Tryd.prog.info? T).map (·.size) = some n) {x : Value} (hx : a.tmps.getD u undef = x)
    (hdef : a.defers = []) (hR : R (.returned (.tuple #[.agg (cellsOf f n), x])) w) : bodyPost Tryd.prog fn R .ret a w := by
  obtain ⟨d, h1, h2⟩ := hu
  refine bodyPost_ret (v := .tuple #[.agg (cellsOf f n), x]) ?_ hdef hR
  have hld := run_loadVar_row (P := Tryd.prog) w b T T (cellsOf f n) (0, 0) d hh.out h1 (by cases d <;> simp_all) (by rw [hi, size_cellsOf])
  rw [results_cell_tmp hr a.tmps Tryd.prog w, hp, hx]
  simp [asAddr, hld]
theorem run_neqT {P : Program} {a : Act} {o : Oper} {T ty : TypeId} {x y : Operand} {p q : ByteArray} {r : Bool} (ho : o.op = .binOp .neq T x y ty) (hx : a.eval x = .string p) (hy : a.eval y = .string q) (h : (!(p.toList == q.toList)) = r) (w : World) : (execOp a.eval o).run P w = .ok (.value (.bool r)) w := by
  subst h; unfold execOp; simp only [ho, hx, hy]; go_simp
/-- What Parse tells. -/
def okT (s : ByteArray) : Bool := (textOf (gsR s)).toList == s.toList
def prR (s : ByteArray) : Rg := if okT s = true then gsR s else rgNone
def prE (s : ByteArray) : Int := if okT s = true then 0 else 22
end Go.Proofs.YtilhkgbninbkkaaDoor
