/- Rights as words: the document's Parse: what its walk holds. -/
import Derived.Test.YtilhkgbninbkkaaDoorRq1
namespace Go.Proofs.YtilhkgbninbkkaaDoor
open Go Go.RowKit
/-- A text by its bytes. -/
def tx (l : List UInt8) : ByteArray := ⟨l.toArray⟩
/-- A row of texts. -/
def wsC (W : List (List UInt8)) : Nat → Value := fun j => .string (tx (wd W j))
theorem tx_size (l : List UInt8) : (tx l).size = l.length := by simp [tx, ByteArray.size]
theorem tx_data (l : List UInt8) : (tx l).data.toList = l := by simp [tx]
theorem tx_snoc (l : List UInt8) (c : UInt8) : tx l ++ (⟨#[c]⟩ : ByteArray) = tx (l ++ [c]) := by
  unfold tx; rw [ByteArray.mk_append_mk]; first | done | simp
theorem wd_snoc_lt (W : List (List UInt8)) (v : List UInt8) (j : Nat) (h : j < W.length) : wd (W ++ [v]) j = wd W j := by
  unfold wd; simp [List.getD_eq_getElem?_getD, List.getElem?_append_left h]
theorem wd_snoc_eq (W : List (List UInt8)) (v : List UInt8) : wd (W ++ [v]) W.length = v := by
  unfold wd; simp [List.getD_eq_getElem?_getD]
theorem wsC_snoc (W : List (List UInt8)) (v : List UInt8) (m : Nat) (hm : m = W.length) (j : Nat) (hj : j < m + 1) : cat (wsC W) m (fun _ => .string (tx v)) j = wsC (W ++ [v]) j := by
  subst hm
  unfold cat wsC
  by_cases h : j < W.length
  · rw [if_pos h, wd_snoc_lt W v j h]
  · rw [if_neg h, show j = W.length by omega, wd_snoc_eq]
/-- How far the words have been read ahead of place i. -/
def stA (l : List UInt8) (i : Nat) : List (List UInt8) × List UInt8 := if i ≤ l.length then stW (l.take i) else (wds l, [])
theorem stA_zero (l : List UInt8) : stA l 0 = ([], []) := by unfold stA; rw [if_pos (Nat.zero_le _), List.take_zero]; rfl
theorem stA_step {l : List UInt8} {i : Nat} {c : UInt8} (h : l[i]? = some c) : stA l (i + 1) = stp (stA l i) c := by
  have hi : i < l.length := (List.getElem?_eq_some_iff.1 h).1
  unfold stA
  rw [if_pos (by omega), if_pos (by omega), List.take_add_one, h]
  exact stW_snoc _ _
theorem stA_end (l : List UInt8) : stA l (l.length + 1) = ((stA l l.length).1 ++ [(stA l l.length).2], []) := by
  unfold stA
  rw [if_neg (by omega), if_pos (Nat.le_refl _), List.take_length]
  rfl
theorem stA_wds (l : List UInt8) : (stA l (l.length + 1)).1 = wds l := by
  unfold stA; rw [if_neg (by omega)]
theorem fold_le (l : List UInt8) : ∀ a : List (List UInt8) × List UInt8, (l.foldl stp a).1.length ≤ a.1.length + l.length ∧ (l.foldl stp a).2.length ≤ a.2.length + l.length := by
  induction l with
  | nil => intro a; exact ⟨Nat.le_refl _, Nat.le_refl _⟩
  | cons c l ih =>
    intro a
    have h := ih (stp a c)
    have h1 : (stp a c).1.length ≤ a.1.length + 1 ∧ (stp a c).2.length ≤ a.2.length + 1 := by
      unfold stp; split <;> simp
    simp only [List.foldl_cons, List.length_cons]
    omega
theorem stA_le (l : List UInt8) (i : Nat) : (stA l i).1.length ≤ l.length + 1 ∧ (stA l i).2.length ≤ l.length := by
  unfold stA
  split
  · have h := fold_le (l.take i) ([], [])
    have h2 : (l.take i).length ≤ l.length := by rw [List.length_take]; omega
    unfold stW
    simp only [List.length_nil] at h
    omega
  · have h := fold_le l ([], [])
    unfold wds stW
    simp only [List.length_nil, List.length_append, List.length_cons] at *
    omega
/-- The words that are read, and the result's variable. -/
structure Ps (w : World) (N m : Nat) (W : List (List UInt8)) (p : Option Addr) (cap : Nat) (wr : World) : Prop where
  own : Own wr 9 p m cap (wsC W)
  lo : Below N w wr
  ge : ∀ g, blk p = some g → N < g
  res : Has wr N 24 6 (rgC rgNone)
theorem Ps.below {w wr w2 : World} {N m M cap : Nat} {W : List (List UInt8)} {p : Option Addr} (F : Ps w N m W p cap wr) (hM : Sz wr M) (b : Below M wr w2) : Ps w N m W p cap w2 := by
  have hl : wr.heap.size ≤ M := by have : wr.heap.size = M := hM; omega
  have hr := F.res.ltN hM
  exact ⟨F.own.below b hl, F.lo.trans (b.mono (by omega)), F.ge, F.res.below b (by omega)⟩
theorem Ps.push {w w2 w3 : World} {N m cap cap' : Nat} {W : List (List UInt8)} {v : List UInt8} {p p' : Option Addr} (F : Ps w N m W p cap w2) (hm : m = W.length)
    (o3 : Own w3 9 p' (m + 1) cap' (cat (wsC W) m (fun _ => .string (tx v)))) (g3 : Grew (blk p) w2 w3) (e3 : blk p' = blk p ∨ blk p' = some w2.heap.size) : Ps w N (m + 1) (W ++ [v]) p' cap' w3 := by
  have hr := F.res.lt
  refine ⟨o3.congr (fun j hj => wsC_snoc W v m hm j hj), g3.below F.lo (by omega) (fun g hg => by have := F.ge g hg; omega), fun g hg => ?_, F.res.grew g3 (fun e => ?_)⟩
  · rcases e3 with e | e
    · exact F.ge g (by rw [← e]; exact hg)
    · rw [e] at hg; injection hg with hg; omega
  · have := F.ge N e.symm; omega
/-- With the rights' variable and the numbers'. -/
structure Qs (w : World) (N m : Nat) (W : List (List UInt8)) (p : Option Addr) (cap B : Nat) (r : Rg) (f : Nat → Nat) (wr : World) : Prop where
  ps : Ps w N m W p cap wr
  nb : N < B
  ne : ∀ g, blk p = some g → g < B
  rr : Has wr B 24 6 (rgC r)
  nn : Has wr (B + 1) 89 4 (fun j => .int .u16 ((f j : Nat) : Int))
theorem Qs.touchN {w wr w2 : World} {N m cap B : Nat} {W : List (List UInt8)} {p : Option Addr} {r : Rg} {f g : Nat → Nat} (F : Qs w N m W p cap B r f wr) (t : Touch (B + 1) wr w2) (h : Has w2 (B + 1) 89 4 (fun j => .int .u16 ((g j : Nat) : Int))) : Qs w N m W p cap B r g w2 :=
  ⟨⟨F.ps.own.touch t (fun x hx => by have := F.ne x hx; omega), t.below F.ps.lo (by have := F.nb; omega), F.ps.ge, F.ps.res.touch t (by have := F.nb; omega)⟩, F.nb, F.ne, F.rr.touch t (by omega), h⟩
theorem Qs.touchR {w wr w2 : World} {N m cap B : Nat} {W : List (List UInt8)} {p : Option Addr} {r q : Rg} {f : Nat → Nat} (F : Qs w N m W p cap B r f wr) (t : Touch B wr w2) (h : Has w2 B 24 6 (rgC q)) : Qs w N m W p cap B q f w2 :=
  ⟨⟨F.ps.own.touch t (fun x hx => by have := F.ne x hx; omega), t.below F.ps.lo (by have := F.nb; omega), F.ps.ge, F.ps.res.touch t (by have := F.nb; omega)⟩, F.nb, F.ne, h, F.nn.touch t (by omega)⟩
theorem undAr : Tryd.prog.underlying 89 = some (.array 4 22) := by kernel_rfl
theorem zeAr : (Tryd.prog.info? 89).map (fun i => (i.zero, i.size)) = some (some (.agg (cellsOf (fun _ => Value.int .u16 ((0 : Nat) : Int)) 4)), 4) := by kernel_rfl
theorem szTs : (Tryd.prog.info? 9).map (·.size) = some 1 := by kernel_rfl
theorem undTx : Tryd.prog.underlying 9 = some .string := by kernel_rfl
theorem und8q : Tryd.prog.underlying 5 = some (.int .u8) := by kernel_rfl
theorem und16q : Tryd.prog.underlying 22 = some (.int .u16) := by kernel_rfl
theorem undBq : Tryd.prog.underlying 4 = some .bool := by kernel_rfl
theorem take_one {x : List UInt8} {i : Nat} {c : UInt8} (h : x[i]? = some c) (h1 : 1 ≤ i) : (x.take (i + 1)).drop 1 = (x.take i).drop 1 ++ [c] := by
  have hi : i < x.length := (List.getElem?_eq_some_iff.1 h).1
  rw [List.take_add_one, h]
  simp only [Option.toList_some]
  rw [List.drop_append_of_le_length (by rw [List.length_take]; omega)]
theorem numN_take_lt (x : List UInt8) (i : Nat) (h0 : 1 ≤ i) (hi : i ≤ x.length) : numN ((x.take i).drop 1) < 16 ^ (i - 1) := by
  have h := numN_lt ((x.take i).drop 1)
  rw [List.length_drop, List.length_take, Nat.min_eq_left hi] at h
  exact h
theorem any_take (W : List (List UInt8)) (k : Nat) (q : List UInt8) (h4 : 4 ≤ k) (hk : k < W.length) : ((W.take (k + 1)).drop 4).any (· == q) = (((W.take k).drop 4).any (· == q) || (wd W k == q)) := by
  have e : W[k]? = some (wd W k) := by unfold wd; rw [List.getD_eq_getElem?_getD, List.getElem?_eq_getElem hk]; rfl
  rw [List.take_add_one, e]
  simp only [Option.toList_some]
  rw [List.drop_append_of_le_length (by rw [List.length_take]; omega), List.any_append]
  simp
theorem any_four (W : List (List UInt8)) (q : List UInt8) : ((W.take 4).drop 4).any (· == q) = false := by
  rw [List.drop_of_length_le (by rw [List.length_take]; omega)]; rfl
theorem tx_beq (l : List UInt8) (q : ByteArray) : ((tx l).toList == q.toList) = (l == q.data.toList) := by
  rw [← beq_toListBytes]
  show ((tx l).data == q.data) = _
  by_cases h : l = q.data.toList
  · subst h
    have e : (tx q.data.toList).data = q.data := by unfold tx; simp
    rw [e, beq_self_eq_true, beq_self_eq_true]
  · rw [beq_eq_false_iff_ne.2 h]
    refine beq_eq_false_iff_ne.2 (fun e => h ?_)
    rw [← e, tx_data]
end Go.Proofs.YtilhkgbninbkkaaDoor
