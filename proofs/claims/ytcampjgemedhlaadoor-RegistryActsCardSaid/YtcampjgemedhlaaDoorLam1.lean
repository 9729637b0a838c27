/- secret, leaf and bitOf of lamport. -/
import Derived.Test.YtcampjgemedhlaaDoorDig4
import Derived.Test.YtcampjgemedhlaaDoorOwn
import Derived.Test.YtcampjgemedhlaaDoorEq
namespace Go.Proofs.YtcampjgemedhlaaDoor
open Go Go.RowKit Sha
/-- The two bytes behind a seed. -/
def two (i b : Nat) : Nat → BitVec 8 := fun j => if j = 0 then BitVec.ofNat 8 i else BitVec.ofNat 8 b
/-- The secret of a seed of n bytes. -/
def secD (n : Nat) (D : Nat → BitVec 8) (i b : Nat) : Nat → BitVec 8 := joinD (fun k => if k = 0 then ⟨none, n, n, D⟩ else ⟨none, 2, 2, two i b⟩) 2
def leafD (n : Nat) (D : Nat → BitVec 8) (i b : Nat) : Nat → BitVec 8 := shaD (secD n D i b) 32
/-- A sum's bit. -/
def bitS (s : Nat → BitVec 8) (i : Nat) : Nat := (s (i / 8)).toNat / 2 ^ (7 - i % 8) % 2
theorem bitS_lt (s : Nat → BitVec 8) (i : Nat) : bitS s i < 2 := Nat.mod_lt _ (by omega)
theorem joinR_congr (S S' : Nat → Part) : ∀ k, (∀ j, j < k → (S j).n = (S' j).n ∧ ∀ i, i < (S j).n → (S j).D i = (S' j).D i) → joinR S k = joinR S' k ∧ joinL S k = joinL S' k
  | 0, _ => ⟨rfl, rfl⟩
  | k + 1, h => by
    obtain ⟨h1, h2⟩ := joinR_congr S S' k (fun j hj => h j (by omega))
    obtain ⟨h3, h4⟩ := h k (by omega)
    refine ⟨?_, by simp only [joinL]; rw [h2, h3]⟩
    simp only [joinR]
    rw [h1, ← h3, feed_congr _ _ _ _ h4]
theorem joinD_congr {S S' : Nat → Part} {k : Nat} (h : ∀ j, j < k → (S j).n = (S' j).n ∧ ∀ i, i < (S j).n → (S j).D i = (S' j).D i) : joinD S k = joinD S' k := by
  obtain ⟨h1, h2⟩ := joinR_congr S S' k h
  unfold joinD; rw [h1, h2]
theorem cells_two' (w : World) (a b : Value) (t : TypeId) (j : Nat) (hj : j < 2) : (w.alloc (.cells #[a, b] t)).cell? ⟨w.heap.size, j, none⟩ = some (if j = 0 then a else b) := by
  rw [cell_of_row _ _ _ _ _ _ (heap_alloc_new w _)]
  rcases (show j = 0 ∨ j = 1 by omega) with rfl | rfl <;> rfl
theorem size_alloc (w : World) (o : Obj) : (w.alloc o).heap.size = w.heap.size + 1 := by show (w.heap.push o).size = _; simp
theorem below_two (w : World) (N : Nat) (hN : Sz w N) (a b : Obj) : Below N w ((w.alloc a).alloc b) := (below_new w a N hN).trans ((below_new (w.alloc a) b (N + 1) (sz_alloc hN a)).mono (by omega))
theorem Bytes.alloc {w : World} {p : Option Addr} {n : Nat} {D : Nat → BitVec 8} (h : Bytes w p n D) (o : Obj) : Bytes (w.alloc o) p n D := h.below (show Sz w w.heap.size from rfl) (below_new w o _ rfl)
def secS (p : Option Addr) (n cap : Nat) (D : Nat → BitVec 8) (g i b : Nat) : Nat → Part := fun k => if k = 0 then ⟨p, n, cap, D⟩ else ⟨some ⟨g, 0, none⟩, 2, 2, two i b⟩
theorem By_small (i : Nat) (h : i < 256) : Value.int .u8 (i : Int) = By (BitVec.ofNat 8 i) := by
  unfold By v8; rw [BitVec.toNat_ofNat, Nat.mod_eq_of_lt (by omega)]
theorem parts_two (w : World) (p : Option Addr) (n cap : Nat) (D : Nat → BitVec 8) (i b : Nat) (hi : i < 256) (hb : b < 256) (hcap : n ≤ cap) (hD : Bytes w p n D) (t5 t22 : TypeId) :
    Parts ((w.alloc (.cells #[.int .u8 (i : Int), .int .u8 (b : Int)] t5)).alloc (.cells #[.slice p n cap, .slice (some ⟨w.heap.size, 0, none⟩) 2 2] t22)) (some ⟨w.heap.size + 1, 0, none⟩) 2 (secS p n cap D w.heap.size i b) := fun _ => by
  refine ⟨w.heap.size + 1, 0, rfl, fun j hj => ?_⟩
  rw [Nat.zero_add]
  have hc := cells_two' (w.alloc (.cells #[.int .u8 (i : Int), .int .u8 (b : Int)] t5)) (.slice p n cap) (.slice (some ⟨w.heap.size, 0, none⟩) 2 2) t22 j hj
  rw [size_alloc] at hc
  rcases (show j = 0 ∨ j = 1 by omega) with rfl | rfl
  · exact ⟨hc, hcap, (hD.alloc _).alloc _⟩
  · have hB : Bytes (w.alloc (.cells #[.int .u8 (i : Int), .int .u8 (b : Int)] t5)) (some ⟨w.heap.size, 0, none⟩) 2 (two i b) := by
      intro _
      refine ⟨w.heap.size, 0, rfl, fun j hj => ?_⟩
      rw [Nat.zero_add, cells_two' w _ _ t5 j hj, By_small i hi, By_small b hb]
      rcases (show j = 0 ∨ j = 1 by omega) with rfl | rfl <;> rfl
    exact ⟨hc, Nat.le_refl _, hB.alloc _⟩
theorem joinL_secS (p : Option Addr) (n cap : Nat) (D : Nat → BitVec 8) (g i b : Nat) : joinL (secS p n cap D g i b) 2 = n + 18 := by
  show 0 + 8 + n + 8 + 2 = n + 18; omega
theorem secS_eq (p : Option Addr) (n cap : Nat) (D : Nat → BitVec 8) (g i b : Nat) : joinD (secS p n cap D g i b) 2 = secD n D i b :=
  joinD_congr (fun j hj => by
    rcases (show j = 0 ∨ j = 1 by omega) with rfl | rfl
    · exact ⟨rfl, fun _ _ => rfl⟩
    · exact ⟨rfl, fun _ _ => rfl⟩)
set_option maxRecDepth 100000 in
theorem secret_any (p : Option Addr) (n cap : Nat) (D : Nat → BitVec 8) (i b : Nat) (iv bv : Int) (hi : iv = (i : Int)) (hb : bv = (b : Int)) (hi32 : i < 32) (hb2 : b < 2) (w : World) (N : Nat) (hN : Sz w N) (hT : Tabs w) (hcap : n ≤ cap) (hn : n ≤ 100000) (hD : Bytes w p n D) :
    Calls Tryd.prog 55 #[.slice p n cap, .int .i64 iv, .int .i64 bv] w fun e w' => e = .returned (.agg (cellsOf (fun j => By (secD n D i b j)) 32)) ∧ Below N w w' := by
  subst hi hb
  have hTN := hT.ltN hN
  go_enter Tryd.func55, Tryd.ntmps55
  go_wp2_with (first
    | (refine wpl_alloc rfl 23 rfl 32 _ zer23 N hN ?_; intro w1 hN1 hb1 h1)
    | (go_at_call 22; refine (Joined_any _ 2 2 (secS p n cap D w1.heap.size i b) _ _ (sz_alloc (sz_alloc hN1 _) _) ((hT.below hb1 hTN).below (below_two w1 (N + 1) hN1 _ _) (by omega)) (by rw [joinL_secS]; omega) (parts_two w1 p n cap D i b (by omega) (by omega) hcap (hD.below hN hb1) _ _)).mono ?_; rintro e w2 ⟨rfl, hb2⟩; rw [secS_eq]; have h2 := ((h1.alloc (.cells #[.int .u8 (i : Int), .int .u8 (b : Int)] 5)).alloc (.cells #[.slice p n cap, .slice (some ⟨w1.heap.size, 0, none⟩) 2 2] 22)).below hb2 (by omega))
    | (refine wpl_store rfl 23 (.tmp 6) (.tmp 14) rfl N 32 _ rfl rfl 23 _ h2 inf23 (fun _ _ => rfl) ?_; intro w3 ht3 h3)
    | fail)
  refine post_cell Tryd.results55 N rfl h3 _ und23 rfl inf23 rfl ⟨rfl, ht3.below ((hb1.trans ((below_two w1 (N + 1) hN1 _ _).mono (by omega))).trans (hb2.mono (by omega))) (Nat.le_refl N)⟩
theorem Bytes.of_has {w : World} {b T n : Nat} {D : Nat → BitVec 8} (h : Has w b T n (fun j => By (D j))) : Bytes w (some ⟨b, 0, none⟩) n D := fun _ => ⟨b, 0, rfl, fun j hj => by rw [Nat.zero_add]; exact h.cell hj⟩
theorem slice32 (b : Nat) (w : World) : (Instr.sliceAt 23 (.pointer (some ⟨b, 0, none⟩)) none none none).run Tryd.prog w = .ok (.slice (some ⟨b, 0, none⟩) 32 32) w := run_sliceArr_all _ _ 32 und23 inf5 b 0 w
set_option maxRecDepth 100000 in
theorem leaf_any (p : Option Addr) (n cap : Nat) (D : Nat → BitVec 8) (i b : Nat) (iv bv : Int) (hi : iv = (i : Int)) (hb : bv = (b : Int)) (hi32 : i < 32) (hb2 : b < 2) (w : World) (N : Nat) (hN : Sz w N) (hT : Tabs w) (hcap : n ≤ cap) (hn : n ≤ 100000) (hD : Bytes w p n D) :
    Calls Tryd.prog 53 #[.slice p n cap, .int .i64 iv, .int .i64 bv] w fun e w' => e = .returned (.agg (cellsOf (fun j => By (leafD n D i b j)) 32)) ∧ Below N w w' := by
  subst hi hb
  have hTN := hT.ltN hN
  have hsl := slice32
  go_enter Tryd.func53, Tryd.ntmps53
  go_wp2_with (first
    | (refine wpl_alloc (o := ⟨some 6, _, _, _, _, _⟩) rfl 23 rfl 32 _ zer23 N hN ?_; intro w1 hN1 hb1 h1)
    | (go_at_call 55; refine (secret_any p n cap D i b _ _ rfl rfl hi32 hb2 _ _ hN1 (hT.below hb1 hTN) hcap hn (hD.below hN hb1)).mono ?_; rintro e w2 ⟨rfl, hb2⟩; obtain ⟨M, hM⟩ := sz_some w2; have hNM := below_sz hb2 hN1 hM)
    | (refine wpl_alloc (o := ⟨some 7, _, _, _, _, _⟩) rfl 23 rfl 32 _ zer23 M hM ?_; intro w3 hN3 hb3 h3)
    | (refine wpl_store rfl 23 (.tmp 7) (.tmp 11) rfl M 32 _ rfl rfl 23 _ h3 inf23 (fun _ _ => rfl) ?_; intro w4 ht4 h4; have hN4 := ht4.sz hN3; have hb4 : Below N w w4 := ht4.below ((hb1.trans (hb2.mono (by omega))).trans (hb3.mono (by omega))) (by omega); have hby4 := Bytes.of_has h4; have q4 := ((h1.below hb2 (by omega)).below hb3 (by omega)).touch ht4 (by omega))
    | fail)
  refine (Sum_any _ 32 32 (secD n D i b) _ _ hN4 (hT.below hb4 hTN) (by omega) (by omega) hby4).mono ?_
  rintro e w5 ⟨rfl, hb5⟩
  have h5 := q4.below hb5 (by omega)
  go_wp2_with (first
    | (refine wpl_store rfl 23 (.tmp 6) (.tmp 13) rfl N 32 _ rfl rfl 23 _ h5 inf23 (fun _ _ => rfl) ?_; intro w6 ht6 h6)
    | fail)
  refine post_cell Tryd.results53 N rfl h6 _ und23 rfl inf23 rfl ⟨?_, ht6.below (hb4.trans (hb5.mono (by omega))) (Nat.le_refl N)⟩
  unfold leafD; rfl
theorem wrap_small (z : Nat) (h : z < 256) : wrap64 (z : Int) = (z : Int) := IntWalk.wrap64_in _ (by omega)
theorem and_one : ∀ n : Nat, n < 256 → bits .and .i64 (n : Int) 1 = ((n % 2 : Nat) : Int) := by decide +kernel
set_option maxRecDepth 100000 in
theorem bitOf_any (s : Nat → BitVec 8) (i : Nat) (iv : Int) (hi : iv = (i : Int)) (hi32 : i < 32) (w : World) (N : Nat) (hN : Sz w N) :
    Calls Tryd.prog 54 #[.agg (cellsOf (fun j => By (s j)) 32), .int .i64 iv] w fun e w' => e = .returned (.int .i64 (bitS s i : Nat)) ∧ Below N w w' := by
  subst hi
  go_enter Tryd.func54, Tryd.ntmps54
  go_wp2_with (first
    | (refine wpl_box rfl 23 (.tmp 0) rfl 32 _ rfl N hN ?_; intro w1 hN1 hb1 h1; have c1 : w1.cell? ⟨N, i / 8, none⟩ = some (.int .u8 (v8 (s (i / 8)))) := h1.cell (by omega))
    | fail)
  go_ret
  refine ⟨?_, hb1⟩
  have hk : v8 (s (i / 8)) / 2 ^ (7 - i % 8) = (((s (i / 8)).toNat / 2 ^ (7 - i % 8) : Nat) : Int) := by unfold v8; simp
  have hlt : (s (i / 8)).toNat / 2 ^ (7 - i % 8) < 256 := Nat.lt_of_le_of_lt (Nat.div_le_self _ _) (s (i / 8)).isLt
  show Ending.returned (.int .i64 (bits BinOp.and IntKind.i64 (wrap64 (v8 (s (i / 8)) / 2 ^ (7 - i % 8))) 1)) = _
  rw [hk, wrap_small _ hlt, and_one _ hlt]
  rfl
end Go.Proofs.YtcampjgemedhlaaDoor
