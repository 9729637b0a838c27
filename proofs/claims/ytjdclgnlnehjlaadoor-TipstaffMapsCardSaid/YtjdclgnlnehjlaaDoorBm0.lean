/- Entries of maps: plain words. Nothing of the program. -/
import Derived.Test.YtjdclgnlnehjlaaDoorOb0
import Derived.Test.YtjdclgnlnehjlaaDoorAts
namespace Go.Proofs.YtjdclgnlnehjlaaDoor
open Go Go.RowKit
/-- One entry: its key, its cell's block, its bytes' block, its bytes. -/
structure Me where
  k : ByteArray
  c : Nat
  b : Nat
  v : Nat → BitVec 8
def me1 (e : Me) : Nat → Value := fun j => if j = 0 then .string e.k else .pointer (some ⟨e.c, 0, none⟩)
def meC (E : Nat → Me) : Nat → Value := fun j => me1 (E (j / 2)) (j % 2)
theorem me1_one (e : Me) (j : Nat) : (me1 e j).oneCell' = true := by unfold me1; split <;> rfl
theorem meC_one (E : Nat → Me) (j : Nat) : (meC E j).oneCell' = true := me1_one _ _
theorem meC_at (E : Nat → Me) (k i : Nat) (hi : i < 2) : meC E (k * 2 + i) = me1 (E k) i := by
  unfold meC
  rw [show (k * 2 + i) % 2 = i by omega, show (k * 2 + i) / 2 = k by omega]
/-- Without the one at k. -/
def delF {α : Type} (E : Nat → α) (k : Nat) : Nat → α := fun j => if j < k then E j else E (j + 1)
/-- With another one at n. -/
def setF {α : Type} (E : Nat → α) (n : Nat) (e : α) : Nat → α := fun j => if j = n then e else E j
theorem setF_self {α : Type} (E : Nat → α) (n : Nat) (e : α) : setF E n e n = e := if_pos rfl
theorem setF_ne {α : Type} (E : Nat → α) (n : Nat) (e : α) {j : Nat} (h : j ≠ n) : setF E n e j = E j := if_neg h
theorem meC_del (E : Nat → Me) (k n : Nat) (hk : k < n) (j : Nat) (hj : j < (n - 1) * 2) : cat (meC E) (k * 2) (fun j => meC E ((k + 1) * 2 + j)) j = meC (delF E k) j := by
  unfold cat
  by_cases h : j < k * 2
  · rw [if_pos h]
    unfold meC delF
    rw [if_pos (show j / 2 < k by omega)]
  · rw [if_neg h]
    unfold meC delF
    dsimp only
    rw [if_neg (show ¬ j / 2 < k by omega), show ((k + 1) * 2 + (j - k * 2)) % 2 = j % 2 by omega, show ((k + 1) * 2 + (j - k * 2)) / 2 = j / 2 + 1 by omega]
theorem meC_set (E : Nat → Me) (n : Nat) (e : Me) (g : Nat → Value) (hg : ∀ j, j < 2 → g j = me1 e j) (j : Nat) (hj : j < (n + 1) * 2) : cat (meC E) (n * 2) g j = meC (setF E n e) j := by
  unfold cat
  by_cases h : j < n * 2
  · rw [if_pos h]
    unfold meC setF
    rw [if_neg (show ¬ j / 2 = n by omega)]
  · rw [if_neg h, hg (j - n * 2) (by omega)]
    unfold meC setF
    rw [if_pos (show j / 2 = n by omega), show j % 2 = j - n * 2 by omega]
/-- A map: what it was made of, whether it is frozen, its entries. -/
structure Mp where
  ty : Nat
  key : Nat
  val : Nat
  ent : Nat
  fz : Bool
  b : Nat
  p : Option Addr
  n : Nat
  cap : Nat
  E : Nat → Me
def Mp.sp (m : Mp) : Nat → Value := fun j => if j = 0 then .int .i64 (m.ty : Int) else if j = 1 then .int .i64 (m.key : Int) else if j = 2 then .int .i64 (m.val : Int) else .int .i64 (m.ent : Int)
def mpC (m : Mp) : Nat → Value := fun j => if j < 4 then m.sp j else if j = 4 then .bool m.fz else .slice m.p m.n m.cap
/-- The blocks that a map has. -/
def Foot (m : Mp) (k : Nat) : Prop := k = m.b ∨ blk m.p = some k ∨ ∃ i, i < m.n ∧ (k = (m.E i).c ∨ k = (m.E i).b)
/-- Its own block and that of its row. -/
def Top (m : Mp) (k : Nat) : Prop := k = m.b ∨ blk m.p = some k
theorem top_foot {m : Mp} {k : Nat} (h : Top m k) : Foot m k := h.elim .inl (fun h => .inr (.inl h))
theorem me1_two (e : Me) : cellsOf (me1 e) 2 = #[.string e.k, .pointer (some ⟨e.c, 0, none⟩)] := rfl
theorem has_types {w : World} {b c T U n m : Nat} {f g : Nat → Value} (h : Has w b T n f) (k : Has w c U m g) (hT : T ≠ U) : b ≠ c := by
  rintro rfl
  unfold Has at h k
  rw [h] at k
  injection k with k
  injection k with _ k
  exact hT k
theorem has_own {w : World} {b T E s n m cap : Nat} {p : Option Addr} {f g : Nat → Value} (h : Has w b T n f) (k : OwnK w E s p m cap g) (hT : T ≠ E) (d : Nat) (hd : blk p = some d) : b ≠ d := by
  rintro rfl
  rcases k with ⟨rfl, _⟩ | ⟨x, C, rfl, hg, _⟩
  · cases hd
  · obtain rfl : x = b := by simpa [blk] using hd
    unfold Has at h
    rw [h] at hg
    injection hg with hg
    injection hg with _ hg
    exact hT hg
theorem cells_new_two (w : World) (a b : Value) (E : TypeId) (g : Nat → Value) (h0 : g 0 = a) (h1 : g 1 = b) : Cells (w.alloc (.cells #[a, b] E)) (some ⟨w.heap.size, 0, none⟩) (1 * 2) g := fun _ => ⟨_, rfl, fun j hj => by
  rw [Addr.add_mid, Nat.zero_add]
  rw [cell_of_row _ w.heap.size j #[a, b] E (0, 0) (heap_alloc_new w _)]
  rcases (show j = 0 ∨ j = 1 by omega) with rfl | rfl
  · rw [h0]; rfl
  · rw [h1]; rfl⟩
theorem Ats.turn {w w' : World} {q : Option Addr} {n : Nat} {g : Nat → Value} {S : Nat → Prop} (h : Ats w q n g) (t : Turn S w w') (hn : ∀ k, blk q = some k → ¬ S k) : Ats w' q n g := fun h0 => by
  obtain ⟨b, off, e, hc⟩ := h h0
  refine ⟨b, off, e, fun j hj => ?_⟩
  have h1 := hc j hj
  have hlt := World.block_lt_of_cell? w _ h1
  have hb := t.block b hlt (hn b (by rw [e]; rfl))
  rw [← h1]
  unfold World.cell?
  rw [hb]
def Mp.del (m : Mp) (k : Nat) : Mp := { m with n := m.n - 1, E := delF m.E k }
def Mp.put (m : Mp) (p' : Option Addr) (cap' N : Nat) (key : ByteArray) (D : Nat → BitVec 8) : Mp := { m with p := p', n := m.n + 1, cap := cap', E := setF m.E m.n ⟨key, N, N + 1, D⟩ }
def Mp.set (m : Mp) (k : Nat) (D : Nat → BitVec 8) : Mp := { m with E := setF m.E k ⟨(m.E k).k, (m.E k).c, (m.E k).b, D⟩ }
theorem foot_put {m : Mp} {p' : Option Addr} {cap' N : Nat} {key : ByteArray} {D : Nat → BitVec 8} {x : Nat} (h : Foot (m.put p' cap' N key D) x) (hp : blk p' = blk m.p ∨ ∀ g, blk p' = some g → N ≤ g) : Foot m x ∨ N ≤ x := by
  rcases h with h | h | ⟨i, hi, h⟩
  · exact .inl (.inl h)
  · rcases hp with hp | hp
    · exact .inl (.inr (.inl (by rw [← hp]; exact h)))
    · exact .inr (hp _ h)
  · have hi : i < m.n + 1 := hi
    by_cases hin : i = m.n
    · right
      simp only [Mp.put, setF, if_pos hin] at h
      omega
    · left
      simp only [Mp.put, setF, if_neg hin] at h
      exact .inr (.inr ⟨i, by omega, h⟩)
theorem foot_set {m : Mp} {k x : Nat} {D : Nat → BitVec 8} (h : Foot (m.set k D) x) : Foot m x := by
  rcases h with h | h | ⟨i, hi, h⟩
  · exact .inl h
  · exact .inr (.inl h)
  · refine .inr (.inr ⟨i, hi, ?_⟩)
    simp only [Mp.set, setF] at h
    by_cases hik : i = k
    · rw [if_pos hik] at h; rw [hik]; exact h
    · rw [if_neg hik] at h; exact h
theorem strOf_size (D : Nat → BitVec 8) (n : Nat) : (strOf D n).size = n := by simp [strOf, ByteArray.size]
theorem strOf_inj {D E : Nat → BitVec 8} {n : Nat} (h : strOf D n = strOf E n) (j : Nat) (hj : j < n) : D j = E j := by
  unfold strOf at h
  injection h with h
  have h := congrArg Array.toList h
  simp only [List.map_inj_left, List.mem_range] at h
  have := congrArg UInt8.toNat (h j hj)
  simp only [UInt8.toNat_ofNat'] at this
  apply BitVec.eq_of_toNat_eq
  have a := (D j).isLt
  have b := (E j).isLt
  omega
end Go.Proofs.YtjdclgnlnehjlaaDoor
