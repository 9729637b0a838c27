/- Rights as words: how the document reads a text: its words, their numbers. -/
import Derived.Test.YtilhkgbninbkkaaDoorRx2
namespace Go.Proofs.YtilhkgbninbkkaaDoor
open Go Go.RowKit
/-- One sign more: behind a space a new word begins. -/
def stp (a : List (List UInt8) × List UInt8) (c : UInt8) : List (List UInt8) × List UInt8 := if c = 32 then (a.1 ++ [a.2], []) else (a.1, a.2 ++ [c])
def stW (l : List UInt8) : List (List UInt8) × List UInt8 := l.foldl stp ([], [])
theorem stW_snoc (l : List UInt8) (c : UInt8) : stW (l ++ [c]) = stp (stW l) c := by unfold stW; rw [List.foldl_append]; rfl
/-- A text's words. -/
def wds (l : List UInt8) : List (List UInt8) := (stW l).1 ++ [(stW l).2]
theorem fold_word (a : List (List UInt8)) : ∀ (b w : List UInt8), (∀ c ∈ b, c ≠ 32) → b.foldl stp (a, w) = (a, w ++ b)
  | [], w, _ => by simp
  | c :: b, w, h => by
    have hc : c ≠ 32 := h c (by simp)
    show b.foldl stp (stp (a, w) c) = _
    have e : stp (a, w) c = (a, w ++ [c]) := by unfold stp; rw [if_neg hc]
    rw [e, fold_word a b _ (fun c hc => h c (by simp [hc]))]
    simp
theorem fold_sp (a : List (List UInt8)) (b : List UInt8) (h : ∀ c ∈ b, c ≠ 32) (r : List UInt8) : (b ++ 32 :: r).foldl stp (a, []) = r.foldl stp (a ++ [b], []) := by
  rw [List.foldl_append, fold_word a b [] h]
  show r.foldl stp (stp (a, [] ++ b) 32) = _
  congr 1
/-- The words of rights' text. -/
def wdR (r : Rg) : List (List UInt8) := [99 :: hexL r.c.toNat, 112 :: hexL r.p.toNat, 109 :: hexL r.m.toNat, 104 :: hexL r.h.toNat] ++ ((if r.v = true then [lP] else []) ++ (if r.s = true then [lS] else []))
theorem wds_text (r : Rg) : wds (textOf r).data.toList = wdR r := by
  rw [text_list]
  unfold wds stW
  rw [fold_sp _ _ (sg_ne 99 _ (by decide)), fold_sp _ _ (sg_ne 112 _ (by decide)), fold_sp _ _ (sg_ne 109 _ (by decide))]
  unfold wdR tailL
  cases r.v <;> cases r.s
  · simp only [Bool.false_eq_true, if_false, List.append_nil]
    rw [fold_word _ _ _ (sg_ne 104 _ (by decide))]
    simp
  · simp only [Bool.false_eq_true, if_false, if_true, List.nil_append]
    rw [fold_sp _ _ (sg_ne 104 _ (by decide)), fold_word _ lS _ (by decide)]
    simp
  · simp only [Bool.false_eq_true, if_false, if_true, List.append_nil]
    rw [fold_sp _ _ (sg_ne 104 _ (by decide)), fold_word _ lP _ (by decide)]
    simp
  · simp only [if_true]
    rw [show (32 :: lP ++ 32 :: lS : List UInt8) = 32 :: (lP ++ 32 :: lS) from rfl, fold_sp _ _ (sg_ne 104 _ (by decide)), fold_sp _ lP (by decide), fold_word _ lS _ (by decide)]
    simp
/-- A digit's worth, small letters alone. -/
def dgt (c : UInt8) : Option Nat := if 48 ≤ c.toNat ∧ c.toNat ≤ 57 then some (c.toNat - 48) else if 97 ≤ c.toNat ∧ c.toNat ≤ 102 then some (c.toNat - 87) else none
def dgN (n : Nat) (c : UInt8) : Nat := n * 16 + (dgt c).getD 0
def numN (l : List UInt8) : Nat := l.foldl dgN 0
theorem numN_snoc (l : List UInt8) (c : UInt8) : numN (l ++ [c]) = numN l * 16 + (dgt c).getD 0 := by unfold numN; rw [List.foldl_append]; rfl
theorem dgt_lt (c : UInt8) : (dgt c).getD 0 < 16 := by
  unfold dgt; split
  · show c.toNat - 48 < 16; omega
  · split
    · show c.toNat - 87 < 16; omega
    · decide
theorem numN_lt : ∀ (l : List UInt8), numN l < 16 ^ l.length := by
  intro l
  induction hl : l.length generalizing l with
  | zero => rw [List.length_eq_zero_iff.1 hl]; decide
  | succ n ih =>
    have hne : l ≠ [] := by intro e; rw [e] at hl; cases hl
    have e : l = l.dropLast ++ [l.getLast hne] := (List.dropLast_concat_getLast hne).symm
    have h := ih l.dropLast (by simp [hl])
    rw [e, numN_snoc, Nat.pow_succ]
    have := dgt_lt (l.getLast hne)
    omega
theorem dgt_sg (d : Nat) (h : d < 16) : dgt (UInt8.ofNat (sgN d)) = some d := by
  rcases (show d = 0 ∨ d = 1 ∨ d = 2 ∨ d = 3 ∨ d = 4 ∨ d = 5 ∨ d = 6 ∨ d = 7 ∨ d = 8 ∨ d = 9 ∨ d = 10 ∨ d = 11 ∨ d = 12 ∨ d = 13 ∨ d = 14 ∨ d = 15 by omega) with rfl | rfl | rfl | rfl | rfl | rfl | rfl | rfl | rfl | rfl | rfl | rfl | rfl | rfl | rfl | rfl <;> decide
theorem hexL_dgt (x : Nat) : ∀ c ∈ hexL x, dgt c ≠ none := fun c hc => by
  unfold hexL at hc
  obtain ⟨p, _, rfl⟩ := List.mem_map.1 hc
  rw [dgt_sg _ (Nat.mod_lt _ (by decide))]
  simp
theorem hexL_le (x : Nat) (hx : x < 65536) : 1 ≤ (hexL x).length ∧ (hexL x).length ≤ 4 := by
  refine ⟨hexL_len x, ?_⟩
  unfold hexL; rw [List.length_map, List.length_range]
  unfold nSg; repeat' split
  all_goals omega
theorem puF_numN (l : List UInt8) : ∀ (n : Nat), (∀ c ∈ l, ∃ d, d < 16 ∧ c = UInt8.ofNat (sgN d)) → l.foldl dgN n ≤ 65535 → puF n l = (l.foldl dgN n, 0) := by
  induction l with
  | nil => intro n _ _; rfl
  | cons c l ih =>
    intro n h hb
    obtain ⟨d, hd, rfl⟩ := h c (by simp)
    have e : dgN n (UInt8.ofNat (sgN d)) = n * 16 + d := by unfold dgN; rw [dgt_sg d hd]; rfl
    have hb' : l.foldl dgN (n * 16 + d) ≤ 65535 := by rw [← e]; exact hb
    have mono : ∀ (l : List UInt8) (m : Nat), m ≤ l.foldl dgN m := by
      intro l
      induction l with
      | nil => intro m; exact Nat.le_refl _
      | cons c l ih => intro m; exact Nat.le_trans (by unfold dgN; omega) (ih (dgN m c))
    rw [puF_dig n d l hd (Nat.le_trans (mono l _) hb'), ih _ (fun c hc => h c (by simp [hc])) hb']
    show _ = (l.foldl dgN (dgN n _), 0)
    rw [e]
theorem numN_hex (x : Nat) (hx : x < 65536) : numN (hexL x) = x := by
  have hl := hexL_le x hx
  have hb : numN (hexL x) < 65536 := Nat.lt_of_lt_of_le (numN_lt _) (Nat.pow_le_pow_right (n := 16) (by decide) hl.2)
  have h := puF_numN (hexL x) 0 (fun c hc => by
    unfold hexL at hc
    obtain ⟨p, _, rfl⟩ := List.mem_map.1 hc
    exact ⟨_, Nat.mod_lt _ (by decide), rfl⟩) (by unfold numN at hb; omega)
  rw [puF_hex x hx] at h
  exact (congrArg Prod.fst h).symm
/-- A word by its place. -/
def wd (W : List (List UInt8)) (k : Nat) : List UInt8 := W.getD k []
/-- What the document makes of a text's words. -/
def docR (W : List (List UInt8)) : Rg :=
  ⟨BitVec.ofNat 16 (numN ((wd W 0).drop 1)), BitVec.ofNat 16 (numN ((wd W 1).drop 1)), BitVec.ofNat 16 (numN ((wd W 2).drop 1)), BitVec.ofNat 16 (numN ((wd W 3).drop 1)), (W.drop 4).any (· == lP), (W.drop 4).any (· == lS)⟩
theorem docR_text (r : Rg) : docR (wdR r) = r := by
  have e0 := numN_hex _ r.c.isLt
  have e1 := numN_hex _ r.p.isLt
  have e2 := numN_hex _ r.m.isLt
  have e3 := numN_hex _ r.h.isLt
  have n1 : (lP == lS) = false := by decide
  have n2 : (lS == lP) = false := by decide
  have w0 : wd (wdR r) 0 = 99 :: hexL r.c.toNat := rfl
  have w1 : wd (wdR r) 1 = 112 :: hexL r.p.toNat := rfl
  have w2 : wd (wdR r) 2 = 109 :: hexL r.m.toNat := rfl
  have w3 : wd (wdR r) 3 = 104 :: hexL r.h.toNat := rfl
  have w4 : (wdR r).drop 4 = (if r.v = true then [lP] else []) ++ (if r.s = true then [lS] else []) := rfl
  unfold docR
  rw [w0, w1, w2, w3, w4]
  simp only [List.drop_succ_cons, List.drop_zero, e0, e1, e2, e3, BitVec.ofNat_toNat, BitVec.setWidth_eq]
  obtain ⟨c, p, m, h, v, s⟩ := r
  cases v <;> cases s <;> simp [n1, n2]
section
variable {W : List (List UInt8)} {r : Rg}
theorem wdR_len (r : Rg) : 4 ≤ (wdR r).length ∧ (wdR r).length ≤ 6 := by
  unfold wdR; cases r.v <;> cases r.s <;> simp
theorem wdR_num (r : Rg) (k : Nat) (hk : k < 4) : ∃ c x, x < 65536 ∧ wd (wdR r) k = c :: hexL x := by
  rcases (show k = 0 ∨ k = 1 ∨ k = 2 ∨ k = 3 by omega) with rfl | rfl | rfl | rfl
  · exact ⟨99, _, r.c.isLt, rfl⟩
  · exact ⟨112, _, r.p.isLt, rfl⟩
  · exact ⟨109, _, r.m.isLt, rfl⟩
  · exact ⟨104, _, r.h.isLt, rfl⟩
/-- Where the document refuses, it is no rights' text. -/
theorem no_len {s : ByteArray} (h : (wds s.data.toList).length < 4 ∨ 6 < (wds s.data.toList).length) (r : Rg) : textOf r ≠ s := by
  rintro rfl
  rw [wds_text] at h
  have := wdR_len r
  omega
theorem no_word {s : ByteArray} {k : Nat} (hk : k < 4) (h : (wd (wds s.data.toList) k).length < 2 ∨ 5 < (wd (wds s.data.toList) k).length) (r : Rg) : textOf r ≠ s := by
  rintro rfl
  rw [wds_text] at h
  obtain ⟨c, x, hx, e⟩ := wdR_num r k hk
  rw [e] at h
  have := hexL_le x hx
  simp only [List.length_cons] at h
  omega
theorem no_digit {s : ByteArray} {k i : Nat} (hk : k < 4) (h0 : 1 ≤ i) (hi : i < (wd (wds s.data.toList) k).length) (h : dgt ((wd (wds s.data.toList) k).getD i 0) = none) (r : Rg) : textOf r ≠ s := by
  rintro rfl
  rw [wds_text] at h hi
  obtain ⟨c, x, hx, e⟩ := wdR_num r k hk
  rw [e] at h hi
  obtain ⟨j, rfl⟩ : ∃ j, i = j + 1 := ⟨i - 1, by omega⟩
  simp only [List.length_cons] at hi
  have hj : j < (hexL x).length := by omega
  rw [List.getD_eq_getElem?_getD, List.getElem?_cons_succ, List.getElem?_eq_getElem hj] at h
  exact hexL_dgt x _ (List.getElem_mem hj) h
theorem no_text {s : ByteArray} (h : textOf (docR (wds s.data.toList)) ≠ s) (r : Rg) : textOf r ≠ s := by
  rintro rfl
  rw [wds_text, docR_text] at h
  exact h rfl
end
end Go.Proofs.YtilhkgbninbkkaaDoor
