/- Laws of single operations: comparisons, small numbers, texts, cells. Nothing of the program. A map's sum: what it is the sum of; words of its walk. -/
import Derived.Test.YtjdclgnlnehjlaaDoorMgOb0
import Derived.Lib.ConvBytes
import Derived.Lib.Bytealg
import Derived.Test.YtjdclgnlnehjlaaDoorMgSu2
import Derived.Test.YtjdclgnlnehjlaaDoorMgPotB
import Derived.Test.YtjdclgnlnehjlaaDoorMgBk
namespace Go.Proofs.YtjdclgnlnehjlaaDoor
open Go Go.RowKit
section
variable {P : Program} {a : Act} {o : Oper} {T ty : TypeId} {x y z : Operand} {k : IntKind} {p q : Int} {r : Bool}
theorem run_leqK (ho : o.op = .binOp .leq T x y ty) (hx : a.eval x = .int k p) (hy : a.eval y = .int k q) (h : decide (p ≤ q) = r) (w : World) : (execOp a.eval o).run P w = .ok (.value (.bool r)) w := by
  subst h; unfold execOp; simp only [ho, hx, hy]; go_simp
theorem run_geqK (ho : o.op = .binOp .geq T x y ty) (hx : a.eval x = .int k p) (hy : a.eval y = .int k q) (h : decide (q ≤ p) = r) (w : World) : (execOp a.eval o).run P w = .ok (.value (.bool r)) w := by
  subst h; unfold execOp; simp only [ho, hx, hy]; go_simp
theorem run_lssK (ho : o.op = .binOp .lss T x y ty) (hx : a.eval x = .int k p) (hy : a.eval y = .int k q) (h : decide (p < q) = r) (w : World) : (execOp a.eval o).run P w = .ok (.value (.bool r)) w := by
  subst h; unfold execOp; simp only [ho, hx, hy]; go_simp
theorem run_gtrK (ho : o.op = .binOp .gtr T x y ty) (hx : a.eval x = .int k p) (hy : a.eval y = .int k q) (h : decide (q < p) = r) (w : World) : (execOp a.eval o).run P w = .ok (.value (.bool r)) w := by
  subst h; unfold execOp; simp only [ho, hx, hy]; go_simp
theorem run_eqK (ho : o.op = .binOp .eql T x y ty) (hx : a.eval x = .int k p) (hy : a.eval y = .int k q) (h : (p == q) = r) (w : World) : (execOp a.eval o).run P w = .ok (.value (.bool r)) w := by
  subst h; unfold execOp; simp only [ho, hx, hy]; go_simp
theorem run_eqT {u v : ByteArray} (ho : o.op = .binOp .eql T x y ty) (hx : a.eval x = .string u) (hy : a.eval y = .string v) (h : (u.toList == v.toList) = r) (w : World) : (execOp a.eval o).run P w = .ok (.value (.bool r)) w := by
  subst h; unfold execOp; simp only [ho, hx, hy]; go_simp
theorem run_inc {i m : Nat} (ho : o.op = .binOp .add T x y ty) (hx : a.eval x = .int .i64 (i : Int)) (hy : a.eval y = .int .i64 1) (hm : m = i + 1) (hi : i < 1000000000000000) (w : World) : (execOp a.eval o).run P w = .ok (.value (.int .i64 (m : Int))) w := by
  subst hm
  have e : IntKind.i64.wrap ((i : Int) + 1) = ((i + 1 : Nat) : Int) := by rw [IntKind.wrap_i64]; omega
  have e2 : IntKind.i64.wrap ((i : Int) + 1) = (i : Int) + 1 := by rw [IntKind.wrap_i64]; omega
  unfold execOp; simp only [ho, hx, hy]; go_simp; first | done | exact e | exact e2 | (rw [e2]; rfl)
theorem run_lenS {t : TypeId} {s : ByteArray} {n : Nat} (ho : o.op = .call { callee := .builtin .len, args := #[x], argTypes := #[t] }) (ht : P.underlying t = some .string) (hx : a.eval x = .string s) (hn : s.size = n) (w : World) : (execOp a.eval o).run P w = .ok (.value (.int .i64 (n : Int))) w := by
  subst hn
  unfold execOp
  simp [ho, resolve, invoke, builtin, hx, run_len_string w t o.type s ht, Result.andThen, goInt]
theorem run_lenL {t e : TypeId} {b : Option Addr} {n c : Nat} (ho : o.op = .call { callee := .builtin .len, args := #[x], argTypes := #[t] }) (ht : P.underlying t = some (.slice e)) (hx : a.eval x = .slice b n c) (w : World) : (execOp a.eval o).run P w = .ok (.value (.int .i64 (n : Int))) w := by
  have he : P.underlying t = some (.slice (P.elem t)) := by rw [ht]; unfold Program.elem; simp [ht]
  unfold execOp
  simp [ho, resolve, invoke, builtin, hx, run_len_slice w t o.type b n c he, Result.andThen, goInt]
theorem get_data (s : ByteArray) (i : Nat) (hi : i < s.size) : s.data.toList[i]? = some s[i] := by
  rw [List.getElem?_eq_getElem (by rw [Lib.size_eq] at hi; exact hi)]
  rfl
theorem run_ixS {t : TypeId} {s : ByteArray} {i : Nat} {c : UInt8} (ho : o.op = .index t x y) (ht : P.underlying t = some .string) (hx : a.eval x = .string s) (hy : a.eval y = .int .i64 (i : Int)) (hc : s.data.toList[i]? = some c) (w : World) : (execOp a.eval o).run P w = .ok (.value (.int .u8 ((c.toNat : Nat) : Int))) w := by
  have hi : i < s.size := by rw [Lib.size_eq]; exact (List.getElem?_eq_some_iff.1 hc).1
  have hc2 := get_data s i hi
  rw [hc] at hc2
  obtain rfl := Option.some.inj hc2
  have h := run_index_string (P := P) w t s .i64 (i : Int) ht
  rw [dif_pos (by omega)] at h
  unfold execOp
  simp only [ho, hx, hy, Sem.run_bind, h, Result.andThen_ok, Sem.run_pure]
  rfl
theorem load_cellQ {p : Addr} {v : Value} {w : World} (ty : TypeId) {d : TypeDesc} (hu : P.underlying ty = some d) (hd : (match d with | .struct _ | .array _ _ => false | _ => true) = true) (h : w.cell? p = some v) : (Instr.loadAt ty (.pointer (some p))).run P w = .ok v w := by
  have hagg : (isAgg ty).run P w = .ok false w := by
    unfold isAgg
    rw [Sem.run_bind, run_underlying hu w]
    cases d <;> simp_all
  unfold Instr.loadAt
  simp [Instr.sureAddr, Sem.run_bind, hagg, h, loadVar]
theorem run_cell1 (t : TypeId) (ho : o.op = .load t x) {b j : Nat} (hx : a.eval x = .pointer (some ⟨b, j, none⟩)) {d : TypeDesc} (hu : P.underlying t = some d) (hd : (match d with | .struct _ | .array _ _ => false | _ => true) = true) {v : Value} {w : World} (h : w.cell? ⟨b, j, none⟩ = some v) :
    (execOp a.eval o).run P w = .ok (.value v) w := by
  have hagg : P.underlying t = some d := hu
  unfold execOp
  simp only [ho, hx, Sem.run_bind, load_cellQ t hu hd h, Result.andThen_ok, Sem.run_pure]
end
end Go.Proofs.YtjdclgnlnehjlaaDoor
namespace Go.Proofs.YtjdclgnlnehjlaaDoor
open Go Go.RowKit Sha
/-- A text's bytes. -/
def byD (s : ByteArray) : Nat → BitVec 8 := fun j => BitVec.ofNat 8 (s.data.toList.getD j 0).toNat
/-- The parts that a map's sum is of: its type, its keys and values. -/
def ptN (m : Mp) (E : Nat → Me) (j : Nat) : Nat := if j = 0 then 4 else if j % 2 = 1 then (E ((j - 1) / 2)).k.size else m.val
def ptD (m : Mp) (E : Nat → Me) (j : Nat) : Nat → BitVec 8 := if j = 0 then four (b8 m.ty) (b8 m.key) (b8 m.val) (b8 m.ent) else if j % 2 = 1 then byD (E ((j - 1) / 2)).k else (E ((j - 2) / 2)).v
def ptS (m : Mp) (E : Nat → Me) (j : Nat) : Part := ⟨none, ptN m E j, 0, ptD m E j⟩
/-- A map's sum. -/
def sumD (m : Mp) (E : Nat → Me) : Nat → BitVec 8 := joinD (ptS m E) (1 + 2 * m.n)
theorem join_congr {S T : Nat → Part} : ∀ n, (∀ j, j < n → (S j).n = (T j).n ∧ ∀ i, i < (S j).n → (S j).D i = (T j).D i) → joinDg S n = joinDg T n ∧ joinL S n = joinL T n
  | 0, _ => ⟨rfl, rfl⟩
  | n + 1, h => by
    obtain ⟨h1, h2⟩ := join_congr n (fun j hj => h j (by omega))
    obtain ⟨e, hD⟩ := h n (by omega)
    refine ⟨?_, ?_⟩
    · show feed (feed (joinDg S n) _ 8) _ _ = feed (feed (joinDg T n) _ 8) _ _
      rw [h1, e, feed_congr _ _ _ _ (fun i hi => hD i (by omega))]
    · show joinL S n + 8 + (S n).n = joinL T n + 8 + (T n).n
      rw [h2, e]
theorem joinD_congr {S T : Nat → Part} (n : Nat) (h : ∀ j, j < n → (S j).n = (T j).n ∧ ∀ i, i < (S j).n → (S j).D i = (T j).D i) : joinD S n = joinD T n := by
  obtain ⟨h1, h2⟩ := join_congr n h
  unfold joinD; rw [h1, h2]
/-- Each of those in order is one of the map's. -/
theorem Ordd.mem {m : Mp} {E' : Nat → Me} (h : Ordd m E') (i : Nat) (hi : i < m.n) : ∃ j, j < m.n ∧ E' i = m.E j := by
  by_cases hl : m.ty = 3 ∨ m.ty = 4
  · exact ⟨i, hi, by rw [h.2 hl]⟩
  · have ho := h.1 ⟨fun e => hl (.inl e), fun e => hl (.inr e)⟩
    have : E' i ∈ (List.range m.n).map m.E := ho.perm.mem_iff.1 (List.mem_map.2 ⟨i, List.mem_range.2 hi, rfl⟩)
    obtain ⟨j, hj, e⟩ := List.mem_map.1 this
    exact ⟨j, List.mem_range.1 hj, e.symm⟩
/-- Parts gathered so far, and what stands beside them. -/
structure SumW (w : World) (N : Nat) (m : Mp) (E : Nat → Me) (r : Option Addr) (rc k : Nat) (S : Nat → Part) (p : Option Addr) (cap : Nat) (wr : World) : Prop where
  lo : Below N w wr
  res : Has wr N 40 32 (fun _ => By 0)
  own : Own wr 35 p (1 + 2 * k) cap (fun j => .slice (S j).q (S j).n (S j).cap)
  pt : ∀ j, j < 1 + 2 * k → (S j).n = ptN m E j ∧ (S j).D = ptD m E j ∧ (S j).n ≤ (S j).cap ∧ Bytes wr (S j).q (S j).n (S j).D ∧ ∃ b, (S j).q = some ⟨b, 0, none⟩ ∧ b < wr.heap.size ∧ blk p ≠ some b
  row : OwnK wr 82 2 r m.n rc (meC E)
  rp : ∀ g, blk p = some g → N < g ∧ blk r ≠ some g
theorem Bytes.same {w w' : World} {q : Option Addr} {n : Nat} {D : Nat → BitVec 8} (h : Bytes w q n D) (e : ∀ b, blk q = some b → b < w.heap.size → w'.heap[b]? = w.heap[b]?) : Bytes w' q n D := fun h0 => by
  obtain ⟨bb, off, eq, hc⟩ := h h0
  refine ⟨bb, off, eq, fun j hj => ?_⟩
  have h1 := hc j hj
  have hlt := World.block_lt_of_cell? w _ h1
  rw [← h1]
  unfold World.cell?
  rw [e bb (by rw [eq]; rfl) hlt]
section
variable {w wr w2 : World} {N M k cap rc : Nat} {m : Mp} {E : Nat → Me} {r p : Option Addr} {S : Nat → Part}
theorem SumW.below (F : SumW w N m E r rc k S p cap wr) (hM : Sz wr M) (b : Below M wr w2) : SumW w N m E r rc k S p cap w2 := by
  have hl : wr.heap.size ≤ M := by have : wr.heap.size = M := hM; omega
  have hr := F.res.ltN hM
  refine ⟨F.lo.trans (b.mono (by omega)), F.res.below b hr, F.own.below b hl, fun j hj => ?_, F.row.below b hl, F.rp⟩
  obtain ⟨h1, h2, h3, h4, bb, h5, h6, h7⟩ := F.pt j hj
  exact ⟨h1, h2, h3, h4.below hM b, bb, h5, Nat.lt_of_lt_of_le h6 b.size, h7⟩
/-- One entry more. -/
theorem SumW.push {p2 : Option Addr} {cap2 b1 c1 b2 c2 : Nat} {w3 : World} (F : SumW w N m E r rc k S p cap w2) 
    (o3 : Own w3 35 p2 (1 + 2 * k + 2) cap2 (cat (fun j => .slice (S j).q (S j).n (S j).cap) (1 + 2 * k) (fun j => if j = 0 then .slice (some ⟨b1, 0, none⟩) (E k).k.size c1 else .slice (some ⟨b2, 0, none⟩) m.val c2))) (g3 : Grew (blk p) w2 w3) (e3 : blk p2 = blk p ∨ blk p2 = some w2.heap.size)
    (h1 : (E k).k.size ≤ c1) (y1 : Bytes w2 (some ⟨b1, 0, none⟩) (E k).k.size (byD (E k).k)) (l1 : b1 < w2.heap.size) (n1 : blk p ≠ some b1)
    (h2 : m.val ≤ c2) (y2 : Bytes w2 (some ⟨b2, 0, none⟩) m.val (E k).v) (l2 : b2 < w2.heap.size) (n2 : blk p ≠ some b2) :
    SumW w N m E r rc (k + 1) (fun j => if j < 1 + 2 * k then S j else if j = 1 + 2 * k then ⟨some ⟨b1, 0, none⟩, (E k).k.size, c1, byD (E k).k⟩ else ⟨some ⟨b2, 0, none⟩, m.val, c2, (E k).v⟩) p2 cap2 w3 := by
  have hr := F.res.lt
  have keep : ∀ b, b < w2.heap.size → blk p ≠ some b → w3.heap[b]? = w2.heap[b]? := fun b hb hne => g3.block b hb (fun e => hne e.symm)
  have sep : ∀ b, b < w2.heap.size → blk p ≠ some b → blk p2 ≠ some b := fun b hb hne e => by
    rcases e3 with e3 | e3
    · exact hne (by rw [← e3]; exact e)
    · rw [e3] at e; injection e with e; omega
  have bs : ∀ {b n : Nat} {D : Nat → BitVec 8}, Bytes w2 (some ⟨b, 0, none⟩) n D → b < w2.heap.size → blk p ≠ some b → Bytes w3 (some ⟨b, 0, none⟩) n D := fun h hb hne => h.same (fun b' hb' hlt => keep b' hlt (by
    have e : _ = b' := Option.some.inj hb'
    rw [← e]; exact hne))
  refine ⟨g3.below F.lo (by omega) (fun g hg => by have := (F.rp g hg).1; omega), F.res.same (keep N hr (fun e => by have := (F.rp N e).1; omega)), ?_, fun j hj => ?_, F.row.grew g3 ?_, fun g hg => ?_⟩
  · rw [show 1 + 2 * (k + 1) = 1 + 2 * k + 2 by omega]
    refine o3.congr (fun j hj => ?_)
    unfold cat
    by_cases h : j < 1 + 2 * k
    · rw [if_pos h, if_pos h]
    · rw [if_neg h, if_neg h]
      by_cases h' : j = 1 + 2 * k
      · rw [if_pos h']
        show (if j - (1 + 2 * k) = 0 then _ else _) = _
        rw [if_pos (by omega)]
      · rw [if_neg h']
        show (if j - (1 + 2 * k) = 0 then _ else _) = _
        rw [if_neg (by omega)]
  · by_cases h : j < 1 + 2 * k
    · simp only [if_pos h]
      obtain ⟨a1, a2, a3, a4, bb, a5, a6, a7⟩ := F.pt j h
      refine ⟨a1, a2, a3, ?_, bb, a5, Nat.lt_of_lt_of_le a6 g3.size, sep bb a6 a7⟩
      rw [a5] at a4 ⊢
      exact bs a4 a6 a7
    · simp only [if_neg h]
      by_cases h' : j = 1 + 2 * k
      · simp only [if_pos h']
        refine ⟨?_, ?_, h1, bs y1 l1 n1, b1, rfl, Nat.lt_of_lt_of_le l1 g3.size, sep b1 l1 n1⟩
        · unfold ptN; rw [if_neg (by omega), if_pos (by omega), show (j - 1) / 2 = k by omega]
        · unfold ptD; rw [if_neg (by omega), if_pos (by omega), show (j - 1) / 2 = k by omega]
      · simp only [if_neg h']
        refine ⟨?_, ?_, h2, bs y2 l2 n2, b2, rfl, Nat.lt_of_lt_of_le l2 g3.size, sep b2 l2 n2⟩
        · unfold ptN; rw [if_neg (by omega), if_neg (by omega)]
        · unfold ptD; rw [if_neg (by omega), if_neg (by omega), show (j - 2) / 2 = k by omega]
  · obtain ⟨g, eg, _⟩ := F.own.cell (by omega)
    have e : blk p = some g := by rw [eg]; rfl
    exact .inr (by rw [e]; exact (F.rp g e).2)
  · rcases e3 with e | e
    · exact F.rp g (by rw [← e]; exact hg)
    · rw [e] at hg; injection hg with hg
      refine ⟨by omega, fun h => ?_⟩
      have := F.row.lt g h
      omega
end
end Go.Proofs.YtjdclgnlnehjlaaDoor
