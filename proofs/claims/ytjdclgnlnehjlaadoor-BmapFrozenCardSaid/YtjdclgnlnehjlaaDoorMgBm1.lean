/- Entries of maps: plain words. Nothing of the program. A region that draws its order: a head that only reads (its callees may draw), then a tail that comes in its order: one walk of the head, in the text's order, and the tail behind it, in every world that the draws leave. Nothing of the program. bmap: the words; isLine, full, set, value, Delete, remove, put. -/
import Derived.Test.YtjdclgnlnehjlaaDoorMgOb0
import Derived.Test.YtjdclgnlnehjlaaDoorMgAts
import Derived.StillTail
import Derived.Deep.QuietTactic
import Derived.BigQuiet
import Derived.Test.YtjdclgnlnehjlaaDoorChecked
namespace Go.Proofs.YtjdclgnlnehjlaaDoor
open Go Go.RowKit
/-- One entry: its key, its cell's block, its bytes' block, its bytes. -/
structure Me where
  k : ByteArray
  c : Nat
  b : Nat
  v : Nat → BitVec 8
def me1 (e : Me) : Nat → Value := fun j => if j = 0 then .string e.k else .pointer (some ⟨e.c, 0, none⟩)
def meC (E : Nat → Me) : Nat → Value := fun j => me1 (E (j / 2)) (j % 2)
theorem me1_one (e : Me) (j : Nat) : (me1 e j).oneCell' = true := by unfold me1; split <;> rfl
theorem meC_one (E : Nat → Me) (j : Nat) : (meC E j).oneCell' = true := me1_one _ _
theorem meC_at (E : Nat → Me) (k i : Nat) (hi : i < 2) : meC E (k * 2 + i) = me1 (E k) i := by
  unfold meC
  rw [show (k * 2 + i) % 2 = i by omega, show (k * 2 + i) / 2 = k by omega]
/-- Without the one at k. -/
def delF {α : Type} (E : Nat → α) (k : Nat) : Nat → α := fun j => if j < k then E j else E (j + 1)
/-- With another one at n. -/
def setF {α : Type} (E : Nat → α) (n : Nat) (e : α) : Nat → α := fun j => if j = n then e else E j
theorem setF_self {α : Type} (E : Nat → α) (n : Nat) (e : α) : setF E n e n = e := if_pos rfl
theorem setF_ne {α : Type} (E : Nat → α) (n : Nat) (e : α) {j : Nat} (h : j ≠ n) : setF E n e j = E j := if_neg h
theorem meC_del (E : Nat → Me) (k n : Nat) (hk : k < n) (j : Nat) (hj : j < (n - 1) * 2) : cat (meC E) (k * 2) (fun j => meC E ((k + 1) * 2 + j)) j = meC (delF E k) j := by
  unfold cat
  by_cases h : j < k * 2
  · rw [if_pos h]
    unfold meC delF
    rw [if_pos (show j / 2 < k by omega)]
  · rw [if_neg h]
    unfold meC delF
    dsimp only
    rw [if_neg (show ¬ j / 2 < k by omega), show ((k + 1) * 2 + (j - k * 2)) % 2 = j % 2 by omega, show ((k + 1) * 2 + (j - k * 2)) / 2 = j / 2 + 1 by omega]
theorem meC_set (E : Nat → Me) (n : Nat) (e : Me) (g : Nat → Value) (hg : ∀ j, j < 2 → g j = me1 e j) (j : Nat) (hj : j < (n + 1) * 2) : cat (meC E) (n * 2) g j = meC (setF E n e) j := by
  unfold cat
  by_cases h : j < n * 2
  · rw [if_pos h]
    unfold meC setF
    rw [if_neg (show ¬ j / 2 = n by omega)]
  · rw [if_neg h, hg (j - n * 2) (by omega)]
    unfold meC setF
    rw [if_pos (show j / 2 = n by omega), show j % 2 = j - n * 2 by omega]
/-- A map: what it was made of, whether it is frozen, its entries. -/
structure Mp where
  ty : Nat
  key : Nat
  val : Nat
  ent : Nat
  fz : Bool
  b : Nat
  p : Option Addr
  n : Nat
  cap : Nat
  E : Nat → Me
def Mp.sp (m : Mp) : Nat → Value := fun j => if j = 0 then .int .i64 (m.ty : Int) else if j = 1 then .int .i64 (m.key : Int) else if j = 2 then .int .i64 (m.val : Int) else .int .i64 (m.ent : Int)
def mpC (m : Mp) : Nat → Value := fun j => if j < 4 then m.sp j else if j = 4 then .bool m.fz else .slice m.p m.n m.cap
/-- The blocks that a map has. -/
def Foot (m : Mp) (k : Nat) : Prop := k = m.b ∨ blk m.p = some k ∨ ∃ i, i < m.n ∧ (k = (m.E i).c ∨ k = (m.E i).b)
/-- Its own block and that of its row. -/
def Top (m : Mp) (k : Nat) : Prop := k = m.b ∨ blk m.p = some k
theorem top_foot {m : Mp} {k : Nat} (h : Top m k) : Foot m k := h.elim .inl (fun h => .inr (.inl h))
theorem me1_two (e : Me) : cellsOf (me1 e) 2 = #[.string e.k, .pointer (some ⟨e.c, 0, none⟩)] := rfl
theorem has_types {w : World} {b c T U n m : Nat} {f g : Nat → Value} (h : Has w b T n f) (k : Has w c U m g) (hT : T ≠ U) : b ≠ c := by
  rintro rfl
  unfold Has at h k
  rw [h] at k
  injection k with k
  injection k with _ k
  exact hT k
theorem has_own {w : World} {b T E s n m cap : Nat} {p : Option Addr} {f g : Nat → Value} (h : Has w b T n f) (k : OwnK w E s p m cap g) (hT : T ≠ E) (d : Nat) (hd : blk p = some d) : b ≠ d := by
  rintro rfl
  rcases k with ⟨rfl, _⟩ | ⟨x, C, rfl, hg, _⟩
  · cases hd
  · obtain rfl : x = b := by simpa [blk] using hd
    unfold Has at h
    rw [h] at hg
    injection hg with hg
    injection hg with _ hg
    exact hT hg
theorem cells_new_two (w : World) (a b : Value) (E : TypeId) (g : Nat → Value) (h0 : g 0 = a) (h1 : g 1 = b) : Cells (w.alloc (.cells #[a, b] E)) (some ⟨w.heap.size, 0, none⟩) (1 * 2) g := fun _ => ⟨_, rfl, fun j hj => by
  rw [Addr.add_mid, Nat.zero_add]
  rw [cell_of_row _ w.heap.size j #[a, b] E (0, 0) (heap_alloc_new w _)]
  rcases (show j = 0 ∨ j = 1 by omega) with rfl | rfl
  · rw [h0]; rfl
  · rw [h1]; rfl⟩
theorem Ats.turn {w w' : World} {q : Option Addr} {n : Nat} {g : Nat → Value} {S : Nat → Prop} (h : Ats w q n g) (t : Turn S w w') (hn : ∀ k, blk q = some k → ¬ S k) : Ats w' q n g := fun h0 => by
  obtain ⟨b, off, e, hc⟩ := h h0
  refine ⟨b, off, e, fun j hj => ?_⟩
  have h1 := hc j hj
  have hlt := World.block_lt_of_cell? w _ h1
  have hb := t.block b hlt (hn b (by rw [e]; rfl))
  rw [← h1]
  unfold World.cell?
  rw [hb]
def Mp.del (m : Mp) (k : Nat) : Mp := { m with n := m.n - 1, E := delF m.E k }
def Mp.put (m : Mp) (p' : Option Addr) (cap' N : Nat) (key : ByteArray) (D : Nat → BitVec 8) : Mp := { m with p := p', n := m.n + 1, cap := cap', E := setF m.E m.n ⟨key, N, N + 1, D⟩ }
def Mp.set (m : Mp) (k : Nat) (D : Nat → BitVec 8) : Mp := { m with E := setF m.E k ⟨(m.E k).k, (m.E k).c, (m.E k).b, D⟩ }
theorem foot_del {m : Mp} {k x : Nat} (h : Foot (m.del k) x) (hk : k < m.n) : Foot m x := by
  rcases h with h | h | ⟨i, hi, h⟩
  · exact .inl h
  · exact .inr (.inl h)
  · have hi : i < m.n - 1 := hi
    refine .inr (.inr ⟨if i < k then i else i + 1, by split <;> omega, ?_⟩)
    simp only [Mp.del, delF] at h
    by_cases hik : i < k
    · rw [if_pos hik] at h ⊢; exact h
    · rw [if_neg hik] at h ⊢; exact h
theorem foot_put {m : Mp} {p' : Option Addr} {cap' N : Nat} {key : ByteArray} {D : Nat → BitVec 8} {x : Nat} (h : Foot (m.put p' cap' N key D) x) (hp : blk p' = blk m.p ∨ ∀ g, blk p' = some g → N ≤ g) : Foot m x ∨ N ≤ x := by
  rcases h with h | h | ⟨i, hi, h⟩
  · exact .inl (.inl h)
  · rcases hp with hp | hp
    · exact .inl (.inr (.inl (by rw [← hp]; exact h)))
    · exact .inr (hp _ h)
  · have hi : i < m.n + 1 := hi
    by_cases hin : i = m.n
    · right
      simp only [Mp.put, setF, if_pos hin] at h
      omega
    · left
      simp only [Mp.put, setF, if_neg hin] at h
      exact .inr (.inr ⟨i, by omega, h⟩)
theorem foot_set {m : Mp} {k x : Nat} {D : Nat → BitVec 8} (h : Foot (m.set k D) x) : Foot m x := by
  rcases h with h | h | ⟨i, hi, h⟩
  · exact .inl h
  · exact .inr (.inl h)
  · refine .inr (.inr ⟨i, hi, ?_⟩)
    simp only [Mp.set, setF] at h
    by_cases hik : i = k
    · rw [if_pos hik] at h; rw [hik]; exact h
    · rw [if_neg hik] at h; exact h
theorem strOf_size (D : Nat → BitVec 8) (n : Nat) : (strOf D n).size = n := by simp [strOf, ByteArray.size]
theorem strOf_inj {D E : Nat → BitVec 8} {n : Nat} (h : strOf D n = strOf E n) (j : Nat) (hj : j < n) : D j = E j := by
  unfold strOf at h
  injection h with h
  have h := congrArg Array.toList h
  simp only [List.map_inj_left, List.mem_range] at h
  have := congrArg UInt8.toNat (h j hj)
  simp only [UInt8.toNat_ofNat'] at this
  apply BitVec.eq_of_toNat_eq
  have a := (D j).isLt
  have b := (E j).isLt
  omega
end Go.Proofs.YtjdclgnlnehjlaaDoor
namespace Go.Proofs.YtjdclgnlnehjlaaDoor
open Go
section
variable {P : Program} {ops : Array Oper} {md : Region.Mode} {C : World → Prop}
/-- The head, in whatever order; L is asked behind it. -/
def hdQ (P : Program) (md : Region.Mode) (ops : Array Oper) (C : World → Prop) (n : Nat) (L : Array Bool → Act → Prop) : Nat → Array Bool → Act → Prop
  | 0, s, a => L s a
  | f + 1, s, a => Region.ready md ops s ≠ [] ∧ ∀ i ∈ Region.ready md ops s, i < n ∧ qOp P ops C i (hdQ P md ops C n L f (s.setIfInBounds i true)) a
theorem any_of_hdQ {n g : Nat} {L : Array Bool → Act → Prop} {Q : Exit → Act → World → Prop} (hL : ∀ s a w, C w → L s a → wpAny P md ops Q g s a w) :
    ∀ (f : Nat) (s : Array Bool) (a : Act) (w : World), C w → hdQ P md ops C n L f s a → wpAny P md ops Q (f + g) s a w
  | 0, s, a, w, hw, h => by rw [Nat.zero_add]; exact hL _ _ _ hw h
  | f + 1, s, a, w, hw, h => by
    rw [show f + 1 + g = (f + g) + 1 by omega]
    exact ⟨fun h0 => absurd h0 h.1, fun i hi => wpOp_of_qOp hw (fun a' w' hw' h' => any_of_hdQ hL f _ a' w' hw' h') (h.2 i hi).2⟩
/-- One that may come up now may be taken first. -/
theorem hdQ_first {n i : Nat} {o : Oper} {v : Value} {L : Array Bool → Act → Prop} (hi : ops[i]? = some o) (hsel : ∀ (j : Nat) (o : Oper) cs b, ops[j]? = some o → o.op ≠ .select cs b)
    (hs : Region.sinkB md ops n = true) (hc : Region.chainB md ops n = true) (hn : n < ops.size) (hin : i < n) (hdone : ∀ s a, L s a → ∀ j ∈ Region.ready md ops s, n ≤ j) :
    ∀ (f : Nat) (s : Array Bool) (a : Act), HeadInv md ops n s →
      (∀ j oj, ops[j]? = some oj → j ≠ i → s.getD j true = false → (∀ e ∈ oj.after, Region.binds md e = true → e.on ≠ i) → o.apart ops oj = true) →
      i ∈ Region.ready md ops s → YieldsIn P ops C o v a → hdQ P md ops C n L f (s.setIfInBounds i true) (a.put o.dst v) → hdQ P md ops C n L (f + 1) s a := by
  intro f
  induction f with
  | zero =>
    intro s a inv _ hr hy H
    refine ⟨fun h => (by rw [h] at hr; cases hr), fun j hj => ?_⟩
    have hjn : j < n := Nat.lt_of_not_le fun h => tail_waits hs hc hn inv _ i rfl hin (mem_ready.1 hr).1 j h hj
    refine ⟨hjn, ?_⟩
    by_cases hji : j = i
    · subst hji; exact hy.qOp hi H
    · have := hdone _ _ H j (ready_mono hj hji); omega
  | succ f ih =>
    intro s a inv hfree hr hy H
    refine ⟨fun h => (by rw [h] at hr; cases hr), fun j hj => ?_⟩
    have hjn : j < n := Nat.lt_of_not_le fun h => tail_waits hs hc hn inv _ i rfl hin (mem_ready.1 hr).1 j h hj
    refine ⟨hjn, ?_⟩
    by_cases hji : j = i
    · subst hji; exact hy.qOp hi H
    · have h1 := (H.2 j (ready_mono hj hji)).2
      obtain ⟨hjun, oj, hoj, hall⟩ := mem_ready.1 hj
      have hnot : ∀ e ∈ oj.after, Region.binds md e = true → e.on ≠ i := fun e he hb heq => by
        have h3 := hall e he hb
        rw [heq, getD_both (mem_ready.1 hr).1] at h3
        cases h3
      refine qOp_mono (fun a' h3 => ih (s.setIfInBounds j true) a' (inv.set hj hjn) (fun k ok hk hki hun hno => ?_) (ready_mono hr (Ne.symm hji)) h3.1 ?_)
        (qOp_put hoj (hfree j oj hoj hji hjun hnot) (fun cs b => hsel i o cs b hi) (fun cs b => hsel j oj cs b hoj) hy h1)
      · refine hfree k ok hk hki ?_ hno
        by_cases hjk : j = k
        · subst hjk; exact hjun
        · rw [getD_set_ne true hjk] at hun; exact hun
      · rw [Array.setIfInBounds_comm _ _ hji]
        exact h3.2
theorem hdQ_lex {n g : Nat} {Lq : Act → Prop} (hsel : Region.noSelect ops = true) (hs : Region.sinkB md ops n = true) (hc : Region.chainB md ops n = true) (hn : n < ops.size) :
    ∀ (l : List Oper) (k : Nat) (s : Array Bool) (a : Act), (∀ j, j < l.length → l[j]? = ops[k + j]?) → k + l.length = n → HeadInv md ops n s →
    Region.lexHead md ops g l.length k s = true → wpQuiet P ops C Lq l a → hdQ P md ops C n (fun s' a' => Region.seqB md ops g n s' = true ∧ Lq a') l.length s a
  | [], k, s, a, _, hk, _, hB, h => by
    obtain rfl : k = n := by simpa using hk
    exact ⟨by simpa [Region.lexHead] using hB, h⟩
  | o :: l, k, s, a, hl, hk, inv, hB, h => by
    have h0 : ops[k]? = some o := by simpa using (hl 0 (by simp)).symm
    simp only [List.length_cons, Region.lexHead, Bool.and_eq_true] at hB
    obtain ⟨⟨hr, hf⟩, hB'⟩ := hB
    have hkn : k < n := by simp only [List.length_cons] at hk; omega
    have hr' : k ∈ Region.ready md ops s := by simpa using hr
    have hq : qOp P ops C k (wpQuiet P ops C Lq l) a := by unfold qOp; simp only [h0]; exact h
    obtain ⟨v, hy, hK⟩ := yieldsIn_of_qOp h0 hq
    exact hdQ_first h0 (Region.noSelect_spec hsel) hs hc hn hkn (fun s' a' hL => seqB_ready hL.1) l.length s a inv (Region.free_spec h0 hf) hr' hy
      (hdQ_lex hsel hs hc hn l (k + 1) _ _ (fun j hj => by have := hl (j + 1) (by simp; omega); simpa [Nat.add_assoc, Nat.add_comm 1 j] using this) (by simp only [List.length_cons] at hk; omega) (inv.set hr' hkn) hB' hK)
theorem wp_region_quiet_tail {id : Nat} {Q : Exit → Act → World → Prop} {a : Act} {w : World} {l : List Oper} (n : Nat) (hm : P.follows .mixedOrders = true) (hB : Region.lexTailB .any l.toArray n = true)
    (h : wpQuiet P l.toArray (fun w' => ∃ k, w' = w.drewN k) (fun a' => ∀ w', (∃ k, w' = w.drewN k) → wpList P l.toArray Q (l.drop n) a' w') (l.take n) a) : (Code.region id l.toArray true).wp P Q a w := by
  simp only [Region.lexTailB, Bool.and_eq_true, decide_eq_true_eq] at hB
  obtain ⟨⟨⟨⟨hsel, hn⟩, hs⟩, hc⟩, hlex⟩ := hB
  have hn' : n < l.length := by simpa using hn
  have htl : (l.take n).length = n := by simp; omega
  have hdl : (l.drop n).length = l.toArray.size - n := by simp
  have inv0 : HeadInv .any l.toArray n (Array.replicate l.toArray.size false) :=
    ⟨by simp, fun j oj _ hl => (by rw [getD_replicate_false] at hl; cases hl), fun t _ ht => getD_in (by simpa using ht) (getD_replicate_false _ _)⟩
  have H := hdQ_lex (md := .any) (g := l.toArray.size - n) hsel hs hc hn (l.take n) 0 _ a (fun j hj => by
    have hj' : j < n := by rw [htl] at hj; exact hj
    simp [hj']) (by simpa using htl) inv0 (by rw [htl]; exact hlex) h
  refine wp_region_any hm ?_
  have := any_of_hdQ (Q := Q) (g := l.toArray.size - n) (fun s a' w' hw' hL => by
    have := wpAny_of_seq (md := .any) (Q' := Q) (l.drop n) n s a' w' (fun j => by simp [List.getElem?_drop]) (by rw [hdl]; exact hL.1) (hL.2 w' hw')
    rwa [hdl] at this) _ _ _ (w.drewN 1) ⟨1, rfl⟩ H
  rw [htl, show n + (l.toArray.size - n) = l.toArray.size by omega] at this
  exact this
end
end Go.Proofs.YtjdclgnlnehjlaaDoor
namespace Go.Proofs.YtjdclgnlnehjlaaDoor
open Go Go.RowKit
theorem undBE : Tryd.prog.underlying 57 = some (.slice 82) := by kernel_rfl
theorem undBB : Tryd.prog.underlying 35 = some (.slice 5) := by kernel_rfl
theorem undBy : Tryd.prog.underlying 5 = some (.int .u8) := by kernel_rfl
theorem undBS : Tryd.prog.underlying 9 = some .string := by kernel_rfl
theorem szBE : (Tryd.prog.info? 82).map (·.size) = some 2 := by kernel_rfl
theorem szSlBE : (Tryd.prog.info? 57).map (·.size) = some 1 := by kernel_rfl
theorem szSlBB : (Tryd.prog.info? 35).map (·.size) = some 1 := by kernel_rfl
theorem szBy : (Tryd.prog.info? 5).map (·.size) = some 1 := by kernel_rfl
theorem zBy : (Tryd.prog.info? 5).map (fun i => (i.zero, i.size, i.bytes)) = some (some (.int .u8 0), 1, 1) := by kernel_rfl
def me0 : Nat → Value := fun j => if j = 0 then .string ⟨#[]⟩ else .pointer none
theorem zBE : (Tryd.prog.info? 82).map (fun i => (i.zero, i.size)) = some (some (.agg (cellsOf me0 2)), 2) := by kernel_rfl
theorem kBE : KCell Tryd.prog 82 2 := kCell_of (v := .agg (cellsOf me0 2)) (k := 24) (by kernel_rfl) (by omega) rfl
theorem stBE : ∃ fs, Tryd.prog.underlying 82 = some (.struct fs) := by
  have h : (match Tryd.prog.underlying 82 with | some (.struct _) => true | _ => false) = true := by kernel_rfl
  cases e : Tryd.prog.underlying 82 with
  | none => rw [e] at h; cases h
  | some d => cases d <;> first | exact ⟨_, rfl⟩ | (rw [e] at h; cases h)
/-- A map lies there. -/
structure MpAt (w : World) (m : Mp) : Prop where
  h : Has w m.b 59 6 (mpC m)
  e : OwnK w 82 2 m.p m.n m.cap (meC m.E)
  c : ∀ i, i < m.n → Has w (m.E i).c 78 1 (fun _ => .slice (some ⟨(m.E i).b, 0, none⟩) m.val m.val)
  v : ∀ i, i < m.n → Has w (m.E i).b 5 m.val (fun j => By ((m.E i).v j))
  inj : ∀ i j, i < m.n → j < m.n → i ≠ j → (m.E i).c ≠ (m.E j).c ∧ (m.E i).b ≠ (m.E j).b
section
variable {w w' : World} {m : Mp}
theorem MpAt.c0 (h : MpAt w m) : w.cell? ⟨m.b, 0, none⟩ = some (.int .i64 (m.ty : Int)) := h.h.cell (by omega)
theorem MpAt.c1 (h : MpAt w m) : w.cell? ⟨m.b, 1, none⟩ = some (.int .i64 (m.key : Int)) := h.h.cell (by omega)
theorem MpAt.c2 (h : MpAt w m) : w.cell? ⟨m.b, 2, none⟩ = some (.int .i64 (m.val : Int)) := h.h.cell (by omega)
theorem MpAt.c3 (h : MpAt w m) : w.cell? ⟨m.b, 3, none⟩ = some (.int .i64 (m.ent : Int)) := h.h.cell (by omega)
theorem MpAt.c4 (h : MpAt w m) : w.cell? ⟨m.b, 4, none⟩ = some (.bool m.fz) := h.h.cell (by omega)
theorem MpAt.c5 (h : MpAt w m) : w.cell? ⟨m.b, 5, none⟩ = some (.slice m.p m.n m.cap) := h.h.cell (by omega)
theorem MpAt.ptr (h : MpAt w m) (h0 : 0 < m.n) : ∃ g, m.p = some ⟨g, 0, none⟩ := by
  obtain ⟨g, hg, _⟩ := h.e.cell h0
  exact ⟨g, hg⟩
theorem MpAt.at (h : MpAt w m) {g : Nat} (hg : m.p = some ⟨g, 0, none⟩) (k : Nat) (hk : k < m.n) (i : Nat) (hi : i < 2) : w.cell? ⟨g, k * 2 + i, none⟩ = some (me1 (m.E k) i) := by
  obtain ⟨g', hg', hc⟩ := h.e.cell (by omega)
  obtain rfl : g = g' := by rw [hg] at hg'; injection hg' with hg'; injection hg'
  have := hc (k * 2 + i) (by omega)
  rw [Nat.zero_add] at this
  rw [this, meC_at _ _ _ hi]
theorem MpAt.lt (h : MpAt w m) {N : Nat} (hN : Sz w N) (k : Nat) (hk : Foot m k) : k < N := by
  rcases hk with rfl | hk | ⟨i, hi, rfl | rfl⟩
  · exact h.h.ltN hN
  · have := h.e.lt k hk
    have e : w.heap.size = N := hN
    omega
  · exact (h.c i hi).ltN hN
  · exact (h.v i hi).ltN hN
theorem MpAt.turn {S : Nat → Prop} (h : MpAt w m) (t : Turn S w w') (hn : ∀ k, Foot m k → ¬ S k) : MpAt w' m :=
  ⟨h.h.turn t (hn _ (.inl rfl)), h.e.turn t (fun g hg => hn _ (.inr (.inl hg))), fun i hi => (h.c i hi).turn t (hn _ (.inr (.inr ⟨i, hi, .inl rfl⟩))), fun i hi => (h.v i hi).turn t (hn _ (.inr (.inr ⟨i, hi, .inr rfl⟩))), h.inj⟩
theorem MpAt.below {N : Nat} (h : MpAt w m) (hN : Sz w N) (hb : Below N w w') : MpAt w' m :=
  h.turn (turn_below hN hb (fun _ => False)) (fun _ _ h => h)
theorem MpAt.drew (h : MpAt w m) : MpAt w.drew m := ⟨h.h, h.e, h.c, h.v, h.inj⟩
theorem MpAt.drewN (h : MpAt w m) (k : Nat) : MpAt (w.drewN k) m := ⟨h.h, h.e, h.c, h.v, h.inj⟩
theorem MpAt.pb (h : MpAt w m) : ∀ g, blk m.p = some g → g ≠ m.b := fun g hg e => has_own h.h h.e (by decide) g hg e.symm
theorem MpAt.cb (h : MpAt w m) (i : Nat) (hi : i < m.n) : (m.E i).c ≠ m.b ∧ (m.E i).b ≠ m.b := ⟨has_types (h.c i hi) h.h (by decide), has_types (h.v i hi) h.h (by decide)⟩
theorem MpAt.cp (h : MpAt w m) (i : Nat) (hi : i < m.n) : ∀ g, blk m.p = some g → (m.E i).c ≠ g ∧ (m.E i).b ≠ g := fun g hg => ⟨has_own (h.c i hi) h.e (by decide) g hg, has_own (h.v i hi) h.e (by decide) g hg⟩
theorem MpAt.cc (h : MpAt w m) (i j : Nat) (hi : i < m.n) (hj : j < m.n) : (m.E i).c ≠ (m.E j).b := has_types (h.c i hi) (h.v j hj) (by decide)
end
set_option maxRecDepth 100000 in
theorem isLine_no (m : Mp) (h3 : m.ty ≠ 3) (h4 : m.ty ≠ 4) (w : World) (hA : MpAt w m) :
    Calls Tryd.prog 37 #[.pointer (some ⟨m.b, 0, none⟩)] w fun e w' => e = .returned (.bool false) ∧ w = w' := by
  have c0 := hA.c0
  have t3 : ((m.ty : Int) == 3) = false := by rw [beq_eq_false_iff_ne]; omega
  have t4 : ((m.ty : Int) == 4) = false := by rw [beq_eq_false_iff_ne]; omega
  go_enter Tryd.func37, Tryd.ntmps37
  go_wp2
  go_ret
  exact ⟨rfl, rfl⟩
set_option maxRecDepth 100000 in
theorem isLine_yes (m : Mp) (h3 : m.ty = 3 ∨ m.ty = 4) (w : World) (hA : MpAt w m) :
    Calls Tryd.prog 37 #[.pointer (some ⟨m.b, 0, none⟩)] w fun e w' => e = .returned (.bool true) ∧ w = w' := by
  have c0 := hA.c0
  rcases h3 with h3 | h3
  · rw [h3] at c0
    go_enter Tryd.func37, Tryd.ntmps37
    go_wp2
    go_ret
    exact ⟨rfl, rfl⟩
  · rw [h3] at c0
    go_enter Tryd.func37, Tryd.ntmps37
    go_wp2
    go_ret
    exact ⟨rfl, rfl⟩
set_option maxRecDepth 100000 in
theorem full_no (m : Mp) (hn : m.n < m.ent) (w : World) (N : Nat) (hN : Sz w N) (hA : MpAt w m) :
    Calls Tryd.prog 45 #[.pointer (some ⟨m.b, 0, none⟩)] w fun e w' => e = .returned (.bool false) ∧ Below N w w' ∧ Sz w' N := by
  have c3 := hA.c3
  have c5 := hA.c5
  have t1 : decide ((m.ent : Int) ≤ (m.n : Int)) = false := by rw [decide_eq_false_iff_not]; omega
  have t2 : decide (m.ent ≤ m.n) = false := by rw [decide_eq_false_iff_not]; omega
  go_enter Tryd.func45, Tryd.ntmps45
  go_wp2
  go_quiet (fail)
  go_wp2
  go_ret
  exact ⟨rfl, below_drewN (Below.refl _ _) _, hN⟩
set_option maxRecDepth 100000 in
theorem full_yes (m : Mp) (hn : m.ent ≤ m.n) (w : World) (N : Nat) (hN : Sz w N) (hA : MpAt w m) :
    Calls Tryd.prog 45 #[.pointer (some ⟨m.b, 0, none⟩)] w fun e w' => e = .returned (.bool true) ∧ Below N w w' ∧ Sz w' N := by
  have c3 := hA.c3
  have c5 := hA.c5
  have t1 : decide ((m.ent : Int) ≤ (m.n : Int)) = true := by rw [decide_eq_true_eq]; omega
  have t2 : decide (m.ent ≤ m.n) = true := by rw [decide_eq_true_eq]; omega
  go_enter Tryd.func45, Tryd.ntmps45
  go_wp2
  go_quiet (fail)
  go_wp2
  go_ret
  exact ⟨rfl, below_drewN (Below.refl _ _) _, hN⟩
end Go.Proofs.YtjdclgnlnehjlaaDoor
