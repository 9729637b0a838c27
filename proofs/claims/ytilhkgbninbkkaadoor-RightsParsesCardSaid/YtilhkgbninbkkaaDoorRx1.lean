/- Rights as words: what is guessed of rights' text are these rights. -/
import Derived.Test.YtilhkgbninbkkaaDoorPu3
import Derived.Test.YtilhkgbninbkkaaDoorRx0
namespace Go.Proofs.YtilhkgbninbkkaaDoor
open Go Go.RowKit
theorem index_sp : ∀ (a b : List UInt8), (∀ c ∈ a, c ≠ 32) → Lib.index (a ++ 32 :: b) [32] = (a.length : Int)
  | [], b, _ => by simp [Lib.index]
  | x :: a, b, h => by
    have hx : x ≠ 32 := h x (by simp)
    have ih := index_sp a b (fun c hc => h c (by simp [hc]))
    have e : ([32] : List UInt8).isPrefixOf (x :: (a ++ 32 :: b)) = false := by
      simp [List.isPrefixOf, hx.symm]
    show (if ([32] : List UInt8).isPrefixOf (x :: (a ++ 32 :: b)) then (0 : Int) else if Lib.index (a ++ 32 :: b) [32] == -1 then -1 else Lib.index (a ++ 32 :: b) [32] + 1) = _
    rw [e, ih]
    have e2 : (((a.length : Nat) : Int) == -1) = false := by rw [beq_eq_false_iff_ne]; omega
    rw [e2]; simp
theorem index_no : ∀ (a : List UInt8), (∀ c ∈ a, c ≠ 32) → Lib.index a [32] = -1
  | [], _ => by simp [Lib.index]
  | x :: a, h => by
    have hx : x ≠ 32 := h x (by simp)
    have ih := index_no a (fun c hc => h c (by simp [hc]))
    have e : ([32] : List UInt8).isPrefixOf (x :: a) = false := by simp [List.isPrefixOf, hx.symm]
    show (if ([32] : List UInt8).isPrefixOf (x :: a) then (0 : Int) else if Lib.index a [32] == -1 then -1 else Lib.index a [32] + 1) = _
    rw [e, ih]; rfl
theorem cut_sp (a b : List UInt8) (h : ∀ c ∈ a, c ≠ 32) : Lib.cut (a ++ 32 :: b) [32] = (a, b, true) := by
  unfold Lib.cut
  rw [index_sp a b h, if_pos (by omega)]
  simp
theorem cut_no (a : List UInt8) (h : ∀ c ∈ a, c ≠ 32) : Lib.cut a [32] = (a, [], false) := by
  unfold Lib.cut
  rw [index_no a h, if_neg (by omega)]
theorem sgN_ne (d : Nat) (h : d < 16) : UInt8.ofNat (sgN d) ≠ 32 := by
  rcases (show d = 0 ∨ d = 1 ∨ d = 2 ∨ d = 3 ∨ d = 4 ∨ d = 5 ∨ d = 6 ∨ d = 7 ∨ d = 8 ∨ d = 9 ∨ d = 10 ∨ d = 11 ∨ d = 12 ∨ d = 13 ∨ d = 14 ∨ d = 15 by omega) with rfl | rfl | rfl | rfl | rfl | rfl | rfl | rfl | rfl | rfl | rfl | rfl | rfl | rfl | rfl | rfl <;> decide
theorem hxd_sg (d : Nat) (h : d < 16) : hxd (UInt8.ofNat (sgN d)).toNat = some d := by
  rcases (show d = 0 ∨ d = 1 ∨ d = 2 ∨ d = 3 ∨ d = 4 ∨ d = 5 ∨ d = 6 ∨ d = 7 ∨ d = 8 ∨ d = 9 ∨ d = 10 ∨ d = 11 ∨ d = 12 ∨ d = 13 ∨ d = 14 ∨ d = 15 by omega) with rfl | rfl | rfl | rfl | rfl | rfl | rfl | rfl | rfl | rfl | rfl | rfl | rfl | rfl | rfl | rfl <;> decide
/-- A number's signs. -/
def hexL (x : Nat) : List UInt8 := (List.range (nSg x)).map (fun p => UInt8.ofNat (sgN (x / 16 ^ (nSg x - 1 - p) % 16)))
theorem hexT_list (x : Nat) : (hexT x).data.toList = hexL x := by
  show (List.map (fun j => UInt8.ofNat (sgAt x (nSg x - 1 - j)).toNat) (List.range (nSg x))) = _
  unfold hexL
  refine List.map_congr_left (fun p _ => ?_)
  show UInt8.ofNat (sgB _).toNat = _
  rw [sgB_nat _ (Nat.mod_lt _ (by decide))]
theorem hexL_ne (x : Nat) : ∀ c ∈ hexL x, c ≠ 32 := fun c hc => by
  unfold hexL at hc
  obtain ⟨p, _, rfl⟩ := List.mem_map.1 hc
  exact sgN_ne _ (Nat.mod_lt _ (by decide))
theorem puF_dig (n d : Nat) (cs : List UInt8) (hd : d < 16) (h : n * 16 + d ≤ 65535) : puF n (UInt8.ofNat (sgN d) :: cs) = puF (n * 16 + d) cs := by
  rw [puF, hxd_sg d hd]
  show (if 65535 < n * 16 + d then (65535, 1) else puF (n * 16 + d) cs) = _
  rw [if_neg (by omega)]
theorem puF_hex (x : Nat) (hx : x < 65536) : puF 0 (hexL x) = (x, 0) := by
  unfold hexL
  have h4 := hexT_size x
  have h1 := nSg_pos x
  have hn : nSg x = if x < 16 then 1 else if x < 256 then 2 else if x < 4096 then 3 else 4 := rfl
  rcases (show nSg x = 1 ∨ nSg x = 2 ∨ nSg x = 3 ∨ nSg x = 4 by omega) with e | e | e | e
  · rw [e] at hn ⊢
    have hb : x < 16 := by split at hn <;> (repeat' split at hn) <;> omega
    show puF 0 [UInt8.ofNat (sgN (x / 16 ^ 0 % 16))] = _
    rw [puF_dig _ _ _ (Nat.mod_lt _ (by decide)) (by omega)]
    show (0 * 16 + x / 16 ^ 0 % 16, 0) = _
    rw [Nat.pow_zero, Nat.div_one]; congr 1; omega
  · rw [e] at hn ⊢
    have hb : x < 256 := by split at hn <;> (repeat' split at hn) <;> omega
    show puF 0 [UInt8.ofNat (sgN (x / 16 ^ 1 % 16)), UInt8.ofNat (sgN (x / 16 ^ 0 % 16))] = _
    rw [Nat.pow_zero, Nat.pow_one, Nat.div_one]
    rw [puF_dig _ _ _ (Nat.mod_lt _ (by decide)) (by omega), puF_dig _ _ _ (Nat.mod_lt _ (by decide)) (by omega)]
    show (_, 0) = _
    congr 1; omega
  · rw [e] at hn ⊢
    have hb : x < 4096 := by split at hn <;> (repeat' split at hn) <;> omega
    show puF 0 [UInt8.ofNat (sgN (x / 16 ^ 2 % 16)), UInt8.ofNat (sgN (x / 16 ^ 1 % 16)), UInt8.ofNat (sgN (x / 16 ^ 0 % 16))] = _
    rw [Nat.pow_zero, Nat.pow_one, Nat.div_one, show 16 ^ 2 = 256 from rfl]
    rw [puF_dig _ _ _ (Nat.mod_lt _ (by decide)) (by omega), puF_dig _ _ _ (Nat.mod_lt _ (by decide)) (by omega), puF_dig _ _ _ (Nat.mod_lt _ (by decide)) (by omega)]
    show (_, 0) = _
    congr 1; omega
  · rw [e]
    show puF 0 [UInt8.ofNat (sgN (x / 16 ^ 3 % 16)), UInt8.ofNat (sgN (x / 16 ^ 2 % 16)), UInt8.ofNat (sgN (x / 16 ^ 1 % 16)), UInt8.ofNat (sgN (x / 16 ^ 0 % 16))] = _
    rw [Nat.pow_zero, Nat.pow_one, Nat.div_one, show 16 ^ 2 = 256 from rfl, show 16 ^ 3 = 4096 from rfl]
    rw [puF_dig _ _ _ (Nat.mod_lt _ (by decide)) (by omega), puF_dig _ _ _ (Nat.mod_lt _ (by decide)) (by omega), puF_dig _ _ _ (Nat.mod_lt _ (by decide)) (by omega), puF_dig _ _ _ (Nat.mod_lt _ (by decide)) (by omega)]
    show (_, 0) = _
    congr 1; omega
theorem hexL_len (x : Nat) : 0 < (hexL x).length := by unfold hexL; simp; exact nSg_pos x
/-- A word and what is behind it. -/
theorem num_word (s : ByteArray) (sg : UInt8) (x : Nat) (hx : x < 65536) (hs : (wordOf s).data.toList = sg :: hexL x) : numOf s ⟨#[sg]⟩ = x := by
  unfold numOf trimOf
  rw [hs]
  have e : Lib.trimPrefix (sg :: hexL x) (⟨#[sg]⟩ : ByteArray).data.toList = hexL x := by
    show (if ([sg] : List UInt8).isPrefixOf (sg :: hexL x) then (sg :: hexL x).drop 1 else _) = _
    rw [if_pos (by simp [List.isPrefixOf])]; rfl
  rw [e]
  unfold puS
  rw [if_neg (by rw [Lib.size_eq]; simp; intro h; have := hexL_len x; rw [h] at this; simp at this)]
  show (puF 0 (hexL x)).1 = x
  rw [puF_hex x hx]
end Go.Proofs.YtilhkgbninbkkaaDoor
