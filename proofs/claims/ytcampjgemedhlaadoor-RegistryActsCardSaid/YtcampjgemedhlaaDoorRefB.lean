/- Bit, joined, Leaf and Secret of the document's answer for layer 2. Key of the document's answer for layer 2. Sign of the document's answer for layer 2. Fits of the document's answer for layer 2. -/
import Derived.Test.YtcampjgemedhlaaDoorRef10
import Derived.Test.YtcampjgemedhlaaDoorInn
import Derived.Test.YtcampjgemedhlaaDoorLam6
namespace Go.Proofs.YtcampjgemedhlaaDoor
open Go Go.RowKit Sha
theorem and_one8 : ∀ n : Nat, n < 256 → bits .and .u8 (n : Int) 1 = ((n % 2 : Nat) : Int) := by decide +kernel
set_option maxRecDepth 100000 in
theorem RBit_any (s : Nat → BitVec 8) (i : Nat) (hi32 : i < 32) (w : World) (N : Nat) (hN : Sz w N) :
    Calls Tryd.prog 58 #[.agg (cellsOf (fun j => By (s j)) 32), .int .i64 (i : Int)] w fun e w' => e = .returned (.int .i64 (bitS s i : Nat)) ∧ Below N w w' := by
  go_enter Tryd.func58, Tryd.ntmps58
  go_wp2_with (first
    | (refine wpl_box rfl 23 (.tmp 0) rfl 32 _ rfl N hN ?_; intro w1 hN1 hb1 h1; have c1 : w1.cell? ⟨N, i / 8, none⟩ = some (.int .u8 (v8 (s (i / 8)))) := h1.cell (by omega))
    | fail)
  go_ret
  refine ⟨?_, hb1⟩
  have hk : v8 (s (i / 8)) / 2 ^ (7 - i % 8) = (((s (i / 8)).toNat / 2 ^ (7 - i % 8) : Nat) : Int) := by unfold v8; simp
  have hlt : (s (i / 8)).toNat / 2 ^ (7 - i % 8) < 256 := Nat.lt_of_le_of_lt (Nat.div_le_self _ _) (s (i / 8)).isLt
  show Ending.returned (.int .i64 (wrap64 (bits BinOp.and IntKind.u8 (v8 (s (i / 8)) / 2 ^ (7 - i % 8)) 1))) = _
  rw [hk, and_one8 _ hlt, wrap_small _ (by omega)]
  rfl
/-- A new array's whole slice is handed back. -/
def NewSum (N : Nat) (w : World) (f : Nat → BitVec 8) (e : Ending) (w' : World) : Prop :=
  ∃ g, e = .returned (.slice (some ⟨g, 0, none⟩) 32 32) ∧ N ≤ g ∧ Has w' g 23 32 (fun j => By (f j)) ∧ Below N w w'
set_option maxRecDepth 100000 in
theorem RLeaf_any (p : Option Addr) (n cap : Nat) (D : Nat → BitVec 8) (w : World) (N : Nat) (hN : Sz w N) (hcap : n ≤ cap) (hn : n ≤ 900000) (hD : Bytes w p n D) :
    Calls Tryd.prog 56 #[.agg (cellsOf rtC 72), .slice p n cap] w (NewSum N w (shaD D n)) := by
  obtain ⟨fs, hfs⟩ := und39
  have hsl := slice32
  go_enter Tryd.func56, Tryd.ntmps56
  go_wp2_with (first
    | (refine wpl_box rfl 39 (.tmp 0) rfl 72 _ rfl N hN ?_; intro w1 hN1 hb1 h1; have hD1 := hD.below hN hb1)
    | (refine wpl_load rfl 39 (.tmp 2) rfl N rfl 39 72 _ h1 _ hfs rfl inf39 ?_)
    | (go_at_call 49; refine (RootsSum_any p n cap D w1 (N + 1) hN1 hcap hn hD1).mono ?_; rintro e w2 ⟨rfl, hb2⟩; obtain ⟨M, hM⟩ := sz_some w2; have hNM := below_sz hb2 hN1 hM)
    | (refine wpl_alloc rfl 23 rfl 32 _ zer23 M hM ?_; intro w3 hM3 hb3 h3)
    | (refine wpl_store rfl 23 (.tmp 5) (.tmp 8) rfl M 32 _ rfl rfl 23 _ h3 inf23 (fun _ _ => rfl) ?_; intro w4 ht4 h4)
    | fail)
  go_ret
  exact ⟨M, rfl, by omega, h4, ht4.below ((hb1.trans (hb2.mono (by omega))).trans (hb3.mono (by omega))) (by omega)⟩
theorem be8_mid (n j : Nat) (hn : n < 65536) (hj : j < 8) : be8 n j = if j = 7 then BitVec.ofNat 8 (n % 256) else if j = 6 then BitVec.ofNat 8 (n / 256) else 0 := by
  unfold be8
  by_cases e : j = 7
  · subst e; rw [if_pos rfl]; apply BitVec.eq_of_toNat_eq; simp
  · rw [if_neg e]
    by_cases e6 : j = 6
    · subst e6; rw [if_pos rfl]
    · rw [if_neg e6]
      have : n / 2 ^ (56 - 8 * j) = 0 := by
        apply Nat.div_eq_of_lt
        have : 2 ^ 16 ≤ 2 ^ (56 - 8 * j) := Nat.pow_le_pow_right (by omega) (by omega)
        omega
      rw [this]; rfl
/-- Two texts. -/
def twoP (p : Option Addr) (n cap : Nat) (D : Nat → BitVec 8) (q : Option Addr) (m cq : Nat) (E : Nat → BitVec 8) : Nat → Part := fun k => if k = 0 then ⟨p, n, cap, D⟩ else ⟨q, m, cq, E⟩
/-- A length's eight cells. -/
def lenV (a b : Nat) : Nat → Value := fun j => if j = 7 then .int .u8 (b : Int) else if j = 6 then .int .u8 (a : Int) else .int .u8 0
theorem lenV_said (n j : Nat) (hn : n < 65536) (hj : j < 8) : lenV (n / 256) (n % 256) j = By (be8 n j) := by
  rw [be8_mid n j hn hj]
  unfold lenV
  by_cases e : j = 7
  · rw [if_pos e, if_pos e]; exact By_small _ (by omega)
  · rw [if_neg e, if_neg e]
    by_cases e6 : j = 6
    · rw [if_pos e6, if_pos e6]; unfold By v8; rw [BitVec.toNat_ofNat, Nat.mod_eq_of_lt (by omega)]
    · rw [if_neg e6, if_neg e6]; rfl
theorem lenV_one (a b j : Nat) : (lenV a b j).oneCell' = true := by unfold lenV; (repeat' split) <;> rfl
/-- Two texts in one, each behind its length. -/
def twoT (n : Nat) (D : Nat → BitVec 8) (m : Nat) (E : Nat → BitVec 8) : Nat → BitVec 8 := fun j => if j < 8 then be8 n j else if j < 8 + n then D (j - 8) else if j < 8 + n + 8 then be8 m (j - (8 + n)) else E (j - (8 + n + 8))
theorem twoT_flat (p : Option Addr) (n cap : Nat) (D : Nat → BitVec 8) (q : Option Addr) (m cq : Nat) (E : Nat → BitVec 8) (j : Nat) : flat (twoP p n cap D q m cq E) 2 j = twoT n D m E j := by
  have e : joinL (twoP p n cap D q m cq E) 1 = 8 + n := by show 0 + 8 + n = 8 + n; omega
  unfold twoT
  by_cases h1 : j < 8 + n
  · rw [flat_lo _ 1 j (by rw [e]; exact h1), if_pos h1]
    by_cases h0 : j < 8
    · rw [if_pos h0]
      have := flat_mid (twoP p n cap D q m cq E) 0 j h0
      rw [show joinL (twoP p n cap D q m cq E) 0 + j = j from Nat.zero_add j] at this
      exact this
    · rw [if_neg h0, flat_hi _ 0 j (by show 0 + 8 ≤ j; omega)]; rfl
  · rw [if_neg h1, if_neg (by omega)]
    by_cases h2 : j < 8 + n + 8
    · rw [if_pos h2]
      have := flat_mid (twoP p n cap D q m cq E) 1 (j - (8 + n)) (by omega)
      rw [e, show 8 + n + (j - (8 + n)) = j from by omega] at this
      exact this
    · rw [if_neg h2, flat_hi _ 1 j (by rw [e]; omega), e]; rfl
theorem twoT_len (p : Option Addr) (n cap : Nat) (D : Nat → BitVec 8) (q : Option Addr) (m cq : Nat) (E : Nat → BitVec 8) : joinL (twoP p n cap D q m cq E) 2 = 8 + n + 8 + m := by show 0 + 8 + n + 8 + m = _; omega
theorem joinD_two (p : Option Addr) (n cap : Nat) (D : Nat → BitVec 8) (q : Option Addr) (m cq : Nat) (E : Nat → BitVec 8) : joinD (twoP p n cap D q m cq E) 2 = shaD (twoT n D m E) (8 + n + 8 + m) := by
  rw [joinD_flat, twoT_len]; exact shaD_congr (fun j _ => twoT_flat p n cap D q m cq E j)
theorem bytes_pair (w : World) (i b : Nat) (hi : i < 256) (hb : b < 256) (t : TypeId) : Bytes (w.alloc (.cells #[.int .u8 (i : Int), .int .u8 (b : Int)] t)) (some ⟨w.heap.size, 0, none⟩) 2 (two i b) := fun _ =>
  ⟨w.heap.size, 0, rfl, fun j hj => by
    rw [Nat.zero_add, cells_two' w _ _ t j hj]
    unfold two
    by_cases e : j = 0
    · rw [if_pos e, if_pos e, By_small i hi]
    · rw [if_neg e, if_neg e, By_small b hb]⟩
set_option maxRecDepth 100000 in
set_option maxHeartbeats 1000000 in
theorem RJoined2_any (p : Option Addr) (n cap : Nat) (D : Nat → BitVec 8) (q : Option Addr) (m cq : Nat) (E : Nat → BitVec 8) (w : World) (N : Nat) (hN : Sz w N) (hcap : n ≤ cap) (hn : n ≤ 60000) (hm : m ≤ 60000) (hD : Bytes w p n D) (hE : Bytes w q m E) :
    Calls Tryd.prog 64 #[.agg (cellsOf rtC 72), .slice p n cap, .slice q m cq] w fun e w' => e = .returned (.agg (cellsOf (fun j => By (joinD (twoP p n cap D q m cq E) 2 j)) 32)) ∧ Below N w w' := by
  obtain ⟨fs, hfs⟩ := und39
  obtain ⟨a, ea⟩ : ∃ a, a = n / 256 := ⟨_, rfl⟩
  obtain ⟨b, eb⟩ : ∃ b, b = n % 256 := ⟨_, rfl⟩
  obtain ⟨a2, ea2⟩ : ∃ a, a = m / 256 := ⟨_, rfl⟩
  obtain ⟨b2, eb2⟩ : ∃ b, b = m % 256 := ⟨_, rfl⟩
  have i1 : (n : Int) / 256 = (a : Int) := by omega
  have i2 : (n : Int) % 256 = (b : Int) := by omega
  have i3 : (m : Int) / 256 = (a2 : Int) := by omega
  have i4 : (m : Int) % 256 = (b2 : Int) := by omega
  have ha : a < 256 := by omega
  have hb : b < 256 := by omega
  have ha2 : a2 < 256 := by omega
  have hb2 : b2 < 256 := by omega
  have hl1 : ∀ j, j < 8 → lenV a b j = By (be8 n j) := fun j hj => by rw [ea, eb]; exact lenV_said n j (by omega) hj
  have hl2 : ∀ j, j < 8 → lenV a2 b2 j = By (be8 m j) := fun j hj => by rw [ea2, eb2]; exact lenV_said m j (by omega) hj
  have HL1 := hid hl1
  have HL2 := hid hl2
  clear ea eb ea2 eb2 hl1 hl2
  go_enter Tryd.func64, Tryd.ntmps64
  go_wp2_with (first
    | (refine wpl_box rfl 39 (.tmp 0) rfl 72 _ rfl N hN ?_; intro w1 hN1 hb1 h1)
    | (refine wpl_alloc rfl 23 rfl 32 _ zer23 (N + 1) hN1 ?_; intro w2 hN2 hb2 h2; have hBb := hb1.trans (hb2.mono (by omega)); have hD2 := hD.below hN hBb; have hE2 := hE.below hN hBb)
    | (refine wpl_app rfl (.tmp 8) (.tmp 17) 22 rfl 5 und22 one5 none 0 0 rfl (fun _ => By 0) (Own.nil _ _ _) _ 8 8 rfl (lenV a b) (by exact cells_at8 w2 (lenV a b) 5) (fun j _ => lenV_one a b j) (by omega) ?_; intro p3 c3 w3 o3 g3 k3 n3; rw [Nat.zero_add] at o3; have ls2 : N + 2 ≤ w2.heap.size := Nat.le_of_eq (Eq.symm hN2); have b3 := g3.below (((Below.refl (N + 2) w2).alloc ls2 _)) (Nat.le_trans ls2 (size_le_alloc w2 _)) (fun g hg => by cases hg); have ls3 := Nat.le_trans ls2 b3.size; have hp3 : ∀ g, blk p3 = some g → N + 2 ≤ g := ge_step (fun g hg => by cases hg) k3 (Nat.le_trans ls2 (size_le_alloc w2 _)))
    | (refine wpl_app rfl (.tmp 19) (.tmp 20) 22 rfl 5 und22 one5 p3 8 c3 rfl _ o3 p n cap rfl (fun j => By (D j)) (cells_bytes hD2 hN2 b3 (Nat.le_refl _)) (fun _ _ => rfl) (by omega) ?_; intro p4 c4 w4 o4 g4 k4 n4; have b4 := g4.below b3 ls3 hp3; have ls4 := Nat.le_trans ls2 b4.size; have hp4 : ∀ g, blk p4 = some g → N + 2 ≤ g := ge_step hp3 k4 ls3)
    | (refine wpl_app rfl (.tmp 22) (.tmp 31) 22 rfl 5 und22 one5 p4 (8 + n) c4 rfl _ (o4.alloc _) _ 8 8 rfl (lenV a2 b2) (by exact cells_at8 w4 (lenV a2 b2) 5) (fun j _ => lenV_one a2 b2 j) (by omega) ?_; intro p5 c5 w5 o5 g5 k5 n5; have b5 := g5.below (b4.alloc ls4 _) (Nat.le_trans ls4 (size_le_alloc w4 _)) hp4; have ls5 := Nat.le_trans ls2 b5.size; have hp5 : ∀ g, blk p5 = some g → N + 2 ≤ g := ge_step hp4 k5 (Nat.le_trans ls4 (size_le_alloc w4 _)))
    | fail)
  have h15 := (h1.below hb2 (by omega)).below b5 (by omega)
  have h25 := h2.below b5 (by omega)
  clear i1 i2 i3 i4
  refine wp_region_inn (fun w' => Has w' N 39 72 rtC) h15.drew (by kernel_rfl) ?_
  have hne := inn_ne (I := fun w' => Has w' N 39 72 rtC) h15
  refine anyI_reads [0, 1, 2] _ _ _ h15.drew (by kernel_rfl) (fun _ _ _ d _ h => by cases d <;> exact h) ?_
  simp only [pickO, List.map_cons, List.map_nil, List.getElem?_toArray, List.getElem?_cons_succ, List.getElem?_cons_zero, Option.getD_some]
  refine inn_val (fun x => run_ld 39 (.tmp 3) rfl N rfl 39 72 _ x.h _ hfs rfl inf39) (by rfl) ?_
  simp only [Act.put, List.setIfInBounds_toArray, List.set_cons_succ, List.set_cons_zero]
  repeat go_big_quiet_step (fail)
  refine wpQuiet_nil ?_
  refine anyI_part [3, 4, 5] _ _ _ _ (by kernel_rfl) ?_
  simp only [List.filterMap_cons, List.filterMap_nil, List.getElem?_toArray, List.getElem?_cons_succ, List.getElem?_cons_zero]
  change wpList _ _ _ [_] _ _
  refine wpl_app rfl (.tmp 34) (.tmp 35) 22 rfl 5 und22 one5 p5 (8 + n + 8) c5 rfl _ (Own.same o5 (fun _ _ => rfl)) q m cq rfl (fun j => By (E j)) (cells_bytes hE2 hN2 b5.drew (Nat.le_refl _)) (fun _ _ => rfl) (by omega) ?_
  intro p6 c6 w6 o6 g6 k6 n6
  have b6 := g6.below b5.drew ls5 hp5
  have ls6 := Nat.le_trans ls2 b6.size
  have hp6 : ∀ g, blk p6 = some g → N + 2 ≤ g := ge_step hp5 k6 ls5
  have h16 := (h1.below hb2 (by omega)).below b6 (by omega)
  have oT : Own w6 5 p6 (8 + n + 8 + m) c6 (fun j => By (twoT n D m E j)) := o6.congr (fun j hj => by
    simp only [cat, twoT]
    by_cases c1 : j < 8
    · rw [if_pos (by omega), if_pos (by omega), if_pos c1, if_neg (by omega), Nat.sub_zero, if_pos c1, HL1.out j c1]
    · by_cases c2 : j < 8 + n
      · rw [if_pos (by omega), if_pos c2, if_neg c1, if_neg c1, if_pos c2]
      · by_cases c3 : j < 8 + n + 8
        · rw [if_pos c3, if_neg c2, if_neg c1, if_neg c2, if_pos c3, HL2.out _ (by omega)]
        · rw [if_neg c3, if_neg c1, if_neg c2, if_neg c3])
  refine ⟨h16, ?_⟩
  change wpList _ _ _ [_] _ _
  obtain ⟨M6, hM6⟩ := sz_some w6
  have hM6' : N + 2 ≤ M6 := by have e : w6.heap.size = M6 := hM6; omega
  clear o3 o4 o5 o6 g3 g4 g5 g6 k3 k4 k5 k6 n3 n4 n5 n6 hp3 hp4 hp5 hne
  go_wp2_with fail
  refine (RootsSum_any p6 (8 + n + 8 + m) c6 (twoT n D m E) w6 M6 hM6 oT.le (by omega) (own_bytes oT)).mono ?_
  rintro e w7 ⟨rfl, hb7⟩
  dsimp only
  go_step
  refine ⟨h16.below hb7 (by omega), ?_⟩
  change wpList _ _ _ [_] _ _
  refine wpl_store rfl 23 (.tmp 6) (.tmp 37) rfl (N + 1) 32 _ rfl rfl 23 _ ((h2.below b6 (by omega)).below hb7 (by omega)) inf23 (fun _ _ => rfl) ?_
  intro w8 ht8 h8
  refine ⟨(h16.below hb7 (by omega)).touch ht8 (by omega), ?_⟩
  change anyI _ _ _ _ _ _ _ _ _
  refine anyI_done (by kernel_rfl) ?_
  try simp only [Act.put, List.setIfInBounds_toArray, List.set_cons_succ, List.set_cons_zero, List.getElem_toArray, List.getElem_cons_succ, List.getElem_cons_zero]
  go_wp2_with fail
  refine post_cell Tryd.results64 (N + 1) rfl h8 _ und23 rfl inf23 rfl ⟨?_, ht8.below ((hBb.trans (b6.mono (by omega))).trans (hb7.mono (by omega))) (by omega)⟩
  rw [joinD_two]
set_option maxRecDepth 100000 in
set_option maxHeartbeats 1000000 in
theorem RSecret_any (p : Option Addr) (n cap : Nat) (D : Nat → BitVec 8) (i b : Nat) (hi : i < 256) (hb : b < 256) (w : World) (N : Nat) (hN : Sz w N) (hcap : n ≤ cap) (hn : n ≤ 60000) (hD : Bytes w p n D) :
    Calls Tryd.prog 57 #[.agg (cellsOf rtC 72), .slice p n cap, .int .i64 (i : Int), .int .i64 (b : Int)] w (NewSum N w (secD n D i b)) := by
  obtain ⟨fs, hfs⟩ := und39
  have hsl := slice32
  go_enter Tryd.func57, Tryd.ntmps57
  go_wp2_with (first
    | (refine wpl_box rfl 39 (.tmp 0) rfl 72 _ rfl N hN ?_; intro w1 hN1 hb1 h1; have hD1 := hD.below hN hb1)
    | (refine wpl_load rfl 39 (.tmp 4) rfl N rfl 39 72 _ h1 _ hfs rfl inf39 ?_)
    | (go_at_call 64; refine (RJoined2_any p n cap D (some ⟨w1.heap.size, 0, none⟩) 2 2 (two i b) _ (N + 1 + 1) (sz_alloc hN1 _) hcap hn (by omega) (hD1.alloc _) (bytes_pair w1 i b hi hb _)).mono ?_; rintro e w2 ⟨rfl, hb2⟩; obtain ⟨M, hM⟩ := sz_some w2; have hNM := below_sz hb2 (sz_alloc hN1 _) hM; have hbA := (hb1.alloc (by have e : w1.heap.size = N + 1 := hN1; omega) _).trans (hb2.mono (by omega)))
    | (refine wpl_alloc rfl 23 rfl 32 _ zer23 M hM ?_; intro w3 hM3 hb3 h3)
    | (refine wpl_store rfl 23 (.tmp 9) (.tmp 17) rfl M 32 _ rfl rfl 23 _ h3 inf23 (fun _ _ => rfl) ?_; intro w4 ht4 h4)
    | fail)
  go_ret
  refine ⟨M, rfl, by omega, h4.congr (fun j _ => ?_), ht4.below (hbA.trans (hb3.mono (by omega))) (by omega)⟩
  have e := secS_eq p n cap D w1.heap.size i b
  rw [← e]; rfl
end Go.Proofs.YtcampjgemedhlaaDoor
namespace Go.Proofs.YtcampjgemedhlaaDoor
open Go Go.RowKit Sha
theorem keyText_at (n : Nat) (D : Nat → BitVec 8) (k x y : Nat) (hx : x < 2) (hy : y < 32) : keyText n D (64 * k + 32 * x + y) = leafD n D k x y := by
  unfold keyText
  rw [show (64 * k + 32 * x + y) / 64 = k from by omega, show (64 * k + 32 * x + y) % 64 / 32 = x from by omega, show (64 * k + 32 * x + y) % 32 = y from by omega]
set_option maxRecDepth 100000 in
set_option maxHeartbeats 1000000 in
theorem RKey_any (p : Option Addr) (n cap : Nat) (D : Nat → BitVec 8) (w : World) (N : Nat) (hN : Sz w N) (hcap : n ≤ cap) (hn : n ≤ 60000) (hD : Bytes w p n D) :
    Calls Tryd.prog 28 #[.agg (cellsOf rtC 72), .slice p n cap] w fun e w' => e = .returned (.agg (cellsOf (fun j => By (keyD n D j)) 32)) ∧ Below N w w' := by
  obtain ⟨fs, hfs⟩ := und39
  go_enter Tryd.func28, Tryd.ntmps28
  go_wp2_with (first
    | (refine wpl_box rfl 39 (.tmp 0) rfl 72 _ rfl N hN ?_; intro w1 hN1 hb1 h1)
    | (refine wpl_alloc rfl 23 rfl 32 _ zer23 (N + 1) hN1 ?_; intro w2 hN2 hb2 h2)
    | fail)
  have b2 := hb1.trans (hb2.mono (by omega))
  have h12 := h1.below hb2 (by omega)
  clear h1 hb1 hb2
  have R0 : Has w2 N 39 72 rtC ∧ Has w2 (N + 1) 23 32 (fun _ => By 0) ∧ Below N w w2 := ⟨h12, h2, b2⟩
  go_loopw [5, 6] (fun t i wr => ∃ (k : Nat) (pt : Option Addr) (ct : Nat), k ≤ 32 ∧ i = .int .i64 k ∧ t = .slice pt (64 * k) ct ∧ Own wr 5 pt (64 * k) ct (fun j => By (keyText n D j)) ∧ Below (N + 2) w2 wr ∧ (∀ g, blk pt = some g → N + 2 ≤ g))
    (fun _ i _ => 32 - (intOf i).toNat)
  case atStart => exact ⟨0, none, 0, by omega, rfl, rfl, Own.nil _ _ _, Below.refl _ _, fun g hg => by cases hg⟩
  case round =>
    obtain ⟨k, pt, ct, hk, rfl, rfl, ho, qb, hp⟩ := hrel
    by_cases hlt : k < 32
    · have hk32 : (k : Int) < 32 := by omega
      go_wp2_with fail
      go_loopw [5, 7] (fun t i wr => ∃ (x : Nat) (pt : Option Addr) (ct : Nat), x ≤ 2 ∧ i = .int .i64 x ∧ t = .slice pt (64 * k + 32 * x) ct ∧ Own wr 5 pt (64 * k + 32 * x) ct (fun j => By (keyText n D j)) ∧ Below (N + 2) w2 wr ∧ (∀ g, blk pt = some g → N + 2 ≤ g))
        (fun _ i _ => 2 - (intOf i).toNat)
      case atStart => exact ⟨0, pt, ct, by omega, rfl, rfl, ho, qb, hp⟩
      case round =>
        clear ho qb hp
        obtain ⟨x, pt, ct, hx, rfl, rfl, ho, qb, hp⟩ := hrel
        by_cases hlx : x < 2
        · have hx2 : (x : Int) < 2 := by omega
          go_wp2_with fail
          have h1r := h12.below qb (by omega)
          obtain ⟨M, hM⟩ := sz_some wr
          have hMN : N + 2 ≤ M := by have := below_sz qb hN2 hM; omega
          have hBr := hD.below hN (b2.trans (qb.mono (by omega)))
          refine wp_region_inn (fun w' => Has w' N 39 72 rtC) h1r.drew (by kernel_rfl) ?_
          have hne := inn_ne (I := fun w' => Has w' N 39 72 rtC) h1r
          refine anyI_reads [0, 1, 2, 3, 4, 5] _ _ _ h1r.drew (by kernel_rfl) (fun _ _ _ d _ h => by cases d <;> exact h) ?_
          simp only [pickO, List.map_cons, List.map_nil, List.getElem?_toArray, List.getElem?_cons_succ, List.getElem?_cons_zero, Option.getD_some]
          repeat first | (refine inn_val (fun x => run_ld 39 (.tmp 2) rfl N rfl 39 72 _ x.h _ hfs rfl inf39) (by rfl) ?_; simp only [Act.put, List.setIfInBounds_toArray, List.set_cons_succ, List.set_cons_zero]) | go_big_quiet_step (fail)
          refine wpQuiet_nil ?_
          refine anyI_part [6, 7, 8, 9] _ _ _ _ (by kernel_rfl) ?_
          simp only [List.filterMap_cons, List.filterMap_nil, List.getElem?_toArray, List.getElem?_cons_succ, List.getElem?_cons_zero]
          clear hne
          change wpList _ _ _ [_] _ _
          go_wp2_with fail
          refine (RSecret_any p n cap D k x (by omega) (by omega) wr.drew M hM hcap hn (by exact hBr)).mono ?_
          rintro e w3 ⟨g3, rfl, hg3, h3, hb3⟩
          have hb3' : Below M wr w3 := mod_belowdrew hb3
          obtain ⟨M3, hM3⟩ := sz_some w3
          have hMM3 := below_sz hb3' hM hM3
          dsimp only
          go_step
          refine ⟨h1r.below hb3' (by omega), ?_⟩
          change wpList _ _ _ [_] _ _
          go_wp2_with fail
          refine (RLeaf_any (some ⟨g3, 0, none⟩) 32 32 (secD n D k x) w3 M3 hM3 (by omega) (by omega) (Bytes.of_has h3)).mono ?_
          rintro e w4 ⟨g4, rfl, hg4, h4, hb4⟩
          have b4 := hb3'.trans (hb4.mono hMM3)
          dsimp only
          go_step
          refine ⟨h1r.below b4 (by omega), ?_⟩
          change wpList _ _ _ [_] _ _
          refine wpl_app rfl (.tmp 16) (.tmp 23) 22 rfl 5 und22 one5 pt (64 * k + 32 * x) ct rfl _ (ho.below b4 (Nat.le_of_eq hM)) _ 32 32 rfl _ h4.cells (fun _ _ => rfl) (by omega) ?_
          intro p7 c7 w7 o7 g7 k7 n7
          have l4 : M ≤ w4.heap.size := below_le b4 hM
          have b7 := g7.below (qb.trans (b4.mono hMN)) (by omega) hp
          have hp7 := ge_step hp k7 (show N + 2 ≤ w4.heap.size by omega)
          have h17 := h12.below b7 (by omega)
          refine ⟨h17, ?_⟩
          change wpList _ _ _ [_] _ _
          refine wpl_pure rfl (v := .slice p7 (64 * k + 32 * x + 32) c7) (by intro w; rfl) ?_
          refine ⟨h17, ?_⟩
          change anyI _ _ _ _ _ _ _ _ _
          refine anyI_done (by kernel_rfl) ?_
          try simp only [Act.put, List.setIfInBounds_toArray, List.set_cons_succ, List.set_cons_zero, List.getElem_toArray, List.getElem_cons_succ, List.getElem_cons_zero]
          go_wp2_with fail
          refine ⟨⟨x + 1, p7, c7, by omega, by go_num, rfl, o7.congr (fun j hj => ?_), b7, hp7⟩, by simp [intOf]; omega⟩
          simp only [cat]
          by_cases e : j < 64 * k + 32 * x
          · rw [if_pos e]
          · obtain ⟨y, rfl⟩ : ∃ y, j = 64 * k + 32 * x + y := ⟨j - (64 * k + 32 * x), by omega⟩
            rw [if_neg e, Nat.add_sub_cancel_left, keyText_at n D k x y hlx (by omega)]; rfl
        · obtain rfl : x = 2 := by omega
          go_wp2_with fail
          exact ⟨⟨k + 1, pt, ct, by omega, by go_num, rfl, ho, qb, hp⟩, by simp [intOf]; omega⟩
    · obtain rfl : k = 32 := by omega
      obtain ⟨M, hM⟩ := sz_some wr
      have hMN : N + 2 ≤ M := by have := below_sz qb hN2 hM; omega
      go_wp2_with (first
        | (refine wpl_load rfl 39 (.tmp 2) rfl N rfl 39 72 _ (h12.below qb (by omega)) _ hfs rfl inf39 ?_)
        | (go_at_call 49; refine (RootsSum_any pt 2048 ct (keyText n D) wr M hM ho.le (by omega) (own_bytes ho)).mono ?_; rintro e w3 ⟨rfl, hb3⟩)
        | (refine wpl_store rfl 23 (.tmp 4) (.tmp 27) rfl (N + 1) 32 _ rfl rfl 23 _ ((h2.below qb (by omega)).below hb3 (by omega)) inf23 (fun _ _ => rfl) ?_; intro w4 ht4 h4)
        | fail)
      exact post_cell Tryd.results28 (N + 1) rfl h4 _ und23 rfl inf23 rfl ⟨rfl, ht4.below ((b2.trans (qb.mono (by omega))).trans (hb3.mono (by omega))) (by omega)⟩
end Go.Proofs.YtcampjgemedhlaaDoor
namespace Go.Proofs.YtcampjgemedhlaaDoor
open Go Go.RowKit Sha
theorem sigD_lo (n : Nat) (D s : Nat → BitVec 8) (k y : Nat) (hy : y < 32) : sigD n D s (64 * k + y) = secD n D k (bitS s k) y := by
  unfold sigD
  rw [show (64 * k + y) % 64 = y from by omega, show (64 * k + y) / 64 = k from by omega, if_pos hy]
theorem sigD_hi (n : Nat) (D s : Nat → BitVec 8) (k y : Nat) (hy : y < 32) : sigD n D s (64 * k + 32 + y) = leafD n D k (1 - bitS s k) y := by
  unfold sigD
  rw [show (64 * k + 32 + y) % 64 = 32 + y from by omega, show (64 * k + 32 + y) / 64 = k from by omega, if_neg (by omega), Nat.add_sub_cancel_left]
set_option maxRecDepth 100000 in
set_option maxHeartbeats 1000000 in
theorem RSign_any (p : Option Addr) (n cap : Nat) (D s : Nat → BitVec 8) (w : World) (N : Nat) (hN : Sz w N) (hcap : n ≤ cap) (hn : n ≤ 60000) (hD : Bytes w p n D) :
    Calls Tryd.prog 29 #[.agg (cellsOf rtC 72), .slice p n cap, .agg (cellsOf (fun j => By (s j)) 32)] w (NewBytes N w 2048 (sigD n D s)) := by
  obtain ⟨fs, hfs⟩ := und39
  go_enter Tryd.func29, Tryd.ntmps29
  go_wp2_with (first
    | (refine wpl_box rfl 39 (.tmp 0) rfl 72 _ rfl N hN ?_; intro w1 hN1 hb1 h1)
    | (refine wpl_box rfl 23 (.tmp 2) rfl 32 _ rfl (N + 1) hN1 ?_; intro w2 hN2 hb2 h2)
    | fail)
  have b2 := hb1.trans (hb2.mono (by omega))
  have h12 := h1.below hb2 (by omega)
  clear h1 hb1 hb2
  go_loopw [7, 8] (fun t i wr => ∃ (k : Nat) (pt : Option Addr) (ct : Nat), k ≤ 32 ∧ i = .int .i64 k ∧ t = .slice pt (64 * k) ct ∧ Own wr 5 pt (64 * k) ct (fun j => By (sigD n D s j)) ∧ Below (N + 2) w2 wr ∧ (∀ g, blk pt = some g → N + 2 ≤ g))
    (fun _ i _ => 32 - (intOf i).toNat)
  case atStart => exact ⟨0, none, 0, by omega, rfl, rfl, Own.nil _ _ _, Below.refl _ _, fun g hg => by cases hg⟩
  case round =>
    obtain ⟨k, pt, ct, hk, rfl, rfl, ho, qb, hp⟩ := hrel
    obtain ⟨M, hM⟩ := sz_some wr
    have hMN : N + 2 ≤ M := by have := below_sz qb hN2 hM; omega
    have hBr := hD.below hN (b2.trans (qb.mono (by omega)))
    by_cases hlt : k < 32
    · have hk32 : (k : Int) < 32 := by omega
      obtain ⟨b, eb⟩ : ∃ b, b = bitS s k := ⟨_, rfl⟩
      have hb2 : b < 2 := by rw [eb]; exact bitS_lt s k
      have HB := hid eb
      clear eb
      have e1 : IntKind.i64.wrap (1 - (b : Int)) = 1 - (b : Int) := IntWalk.i64_in _ (by omega)
      have e2 : 1 - (b : Int) = ((1 - b : Nat) : Int) := by omega
      have E2 := hid e2
      clear e2
      go_wp2_with (first
        | (refine wpl_load rfl 23 (.tmp 5) rfl (N + 1) rfl 23 32 _ (h2.below qb (by omega)) _ und23 rfl inf23 ?_)
        | (refine wpl_load rfl 39 (.tmp 3) rfl N rfl 39 72 _ (h12.below (qb.trans (hb3.mono hMN)) (by omega)) _ hfs rfl inf39 ?_)
        | (go_at_call 58; refine (RBit_any s k hlt wr M hM).mono ?_; rintro e w3 ⟨rfl, hb3⟩; obtain ⟨M3, hM3⟩ := sz_some w3; have hMM3 := below_sz hb3 hM hM3; rw [← HB.out])
        | (go_at_call 57; refine (RSecret_any p n cap D k b (by omega) (by omega) w3 M3 hM3 hcap hn (hBr.below hM hb3)).mono ?_; rintro e w4 ⟨g4, rfl, hg4, h4, hb4⟩; have b4 := hb3.trans (hb4.mono hMM3))
        | (refine wpl_app rfl (.tmp 17) (.tmp 22) 22 rfl 5 und22 one5 pt (64 * k) ct rfl _ (ho.below b4 (Nat.le_of_eq hM)) _ 32 32 rfl _ h4.cells (fun _ _ => rfl) (by omega) ?_; intro p5 c5 w5 o5 g5 k5 n5)
        | fail)
      have l4 : M ≤ w4.heap.size := below_le b4 hM
      have b5 := g5.below (qb.trans (b4.mono hMN)) (by omega) hp
      have hp5 := ge_step hp k5 (show N + 2 ≤ w4.heap.size by omega)
      have h15 := h12.below b5 (by omega)
      have hB5 := hD.below hN (b2.trans (b5.mono (by omega)))
      obtain ⟨M5, hM5⟩ := sz_some w5
      have hMN5 : N + 2 ≤ M5 := by have := below_sz b5 hN2 hM5; omega
      have o5' : Own w5 5 p5 (64 * k + 32) c5 (fun j => By (sigD n D s j)) := o5.congr (fun j hj => by
        simp only [cat]
        by_cases e : j < 64 * k
        · rw [if_pos e]
        · obtain ⟨y, rfl⟩ : ∃ y, j = 64 * k + y := ⟨j - 64 * k, by omega⟩
          rw [if_neg e, Nat.add_sub_cancel_left, sigD_lo n D s k y (by omega), ← HB.out])
      clear ho qb hp hBr hb3 hb4 b4 h4 o5 g5 k5 n5
      refine wp_region_inn (fun w' => Has w' N 39 72 rtC) h15.drew (by kernel_rfl) ?_
      have hne := inn_ne (I := fun w' => Has w' N 39 72 rtC) h15
      refine anyI_reads [0, 1, 2, 3, 4, 5, 6] _ _ _ h15.drew (by kernel_rfl) (fun _ _ _ d _ h => by cases d <;> exact h) ?_
      simp only [pickO, List.map_cons, List.map_nil, List.getElem?_toArray, List.getElem?_cons_succ, List.getElem?_cons_zero, Option.getD_some]
      repeat first | (refine inn_val (fun x => run_ld 39 (.tmp 3) rfl N rfl 39 72 _ x.h _ hfs rfl inf39) (by rfl) ?_; simp only [Act.put, List.setIfInBounds_toArray, List.set_cons_succ, List.set_cons_zero]) | go_big_quiet_step (fail)
      refine wpQuiet_nil ?_
      refine anyI_part [7, 8, 9, 10] _ _ _ _ (by kernel_rfl) ?_
      simp only [List.filterMap_cons, List.filterMap_nil, List.getElem?_toArray, List.getElem?_cons_succ, List.getElem?_cons_zero]
      clear hne e1
      rw [E2.out]
      change wpList _ _ _ [_] _ _
      go_wp2_with fail
      refine (RSecret_any p n cap D k (1 - b) (by omega) (by omega) w5.drew M5 hM5 hcap hn (by exact hB5)).mono ?_
      rintro e w6 ⟨g6, rfl, hg6, h6, hb6⟩
      have hb6' : Below M5 w5 w6 := mod_belowdrew hb6
      obtain ⟨M6, hM6⟩ := sz_some w6
      have hMM6 := below_sz hb6' hM5 hM6
      dsimp only
      go_step
      refine ⟨h15.below hb6' (by omega), ?_⟩
      change wpList _ _ _ [_] _ _
      go_wp2_with fail
      refine (RLeaf_any (some ⟨g6, 0, none⟩) 32 32 (secD n D k (1 - b)) w6 M6 hM6 (by omega) (by omega) (Bytes.of_has h6)).mono ?_
      rintro e w7 ⟨g7, rfl, hg7, h7, hb7⟩
      have b7 := hb6'.trans (hb7.mono hMM6)
      dsimp only
      go_step
      refine ⟨h15.below b7 (by omega), ?_⟩
      change wpList _ _ _ [_] _ _
      refine wpl_app rfl (.tmp 24) (.tmp 32) 22 rfl 5 und22 one5 p5 (64 * k + 32) c5 rfl _ (o5'.below b7 (Nat.le_of_eq hM5)) _ 32 32 rfl _ h7.cells (fun _ _ => rfl) (by omega) ?_
      intro p8 c8 w8 o8 g8 k8 n8
      have l7 : M5 ≤ w7.heap.size := below_le b7 hM5
      have b8 := g8.below (b5.trans (b7.mono hMN5)) (by omega) hp5
      have hp8 := ge_step hp5 k8 (show N + 2 ≤ w7.heap.size by omega)
      have h18 := h12.below b8 (by omega)
      refine ⟨h18, ?_⟩
      change wpList _ _ _ [_] _ _
      refine wpl_pure rfl (v := .slice p8 (64 * k + 32 + 32) c8) (by intro w; rfl) ?_
      refine ⟨h18, ?_⟩
      change anyI _ _ _ _ _ _ _ _ _
      refine anyI_done (by kernel_rfl) ?_
      try simp only [Act.put, List.setIfInBounds_toArray, List.set_cons_succ, List.set_cons_zero, List.getElem_toArray, List.getElem_cons_succ, List.getElem_cons_zero]
      go_wp2_with fail
      refine ⟨⟨k + 1, p8, c8, by omega, by go_num, by rw [show 64 * k + 32 + 32 = 64 * (k + 1) from by omega], ?_, b8, hp8⟩, by simp [intOf]; omega⟩
      rw [show 64 * (k + 1) = 64 * k + 32 + 32 from by omega]
      refine o8.congr (fun j hj => ?_)
      simp only [cat]
      by_cases e : j < 64 * k + 32
      · rw [if_pos e]
      · obtain ⟨y, rfl⟩ : ∃ y, j = 64 * k + 32 + y := ⟨j - (64 * k + 32), by omega⟩
        rw [if_neg e, Nat.add_sub_cancel_left, sigD_hi n D s k y (by omega), ← HB.out]; rfl
    · obtain rfl : k = 32 := by omega
      go_wp2_with fail
      go_ret
      exact ⟨pt, ct, rfl, ho, fun g hg => by have := hp g hg; omega, b2.trans (qb.mono (by omega))⟩
end Go.Proofs.YtcampjgemedhlaaDoor
namespace Go.Proofs.YtcampjgemedhlaaDoor
open Go Go.RowKit Sha
set_option maxRecDepth 100000 in
set_option maxHeartbeats 1000000 in
theorem RFits_any (key s sig : Nat → BitVec 8) (q : Option Addr) (cq : Nat) (hcq : 2048 ≤ cq) (w : World) (N : Nat) (hN : Sz w N) (hS : Bytes w q 2048 sig) :
    Calls Tryd.prog 31 #[.agg (cellsOf rtC 72), .agg (cellsOf (fun j => By (key j)) 32), .agg (cellsOf (fun j => By (s j)) 32), .slice q 2048 cq] w fun e w' => e = .returned (.bool (fitsB key s sig)) ∧ Below N w w' := by
  obtain ⟨fs, hfs⟩ := und39
  obtain ⟨bb, off, rfl, hsig⟩ := hS (by omega)
  have hbb : bb < N := by
    have := World.block_lt_of_cell? w _ (hsig 0 (by omega))
    have e : w.heap.size = N := hN
    simp only at this
    omega
  go_enter Tryd.func31, Tryd.ntmps31
  go_wp2_with (first
    | (refine wpl_box rfl 39 (.tmp 0) rfl 72 _ rfl N hN ?_; intro w1 hN1 hb1 h1)
    | (refine wpl_box rfl 23 (.tmp 1) rfl 32 _ rfl (N + 1) hN1 ?_; intro w2 hN2 hb2 h2)
    | (refine wpl_box rfl 23 (.tmp 2) rfl 32 _ rfl (N + 1 + 1) hN2 ?_; intro w3 hN3 hb3 h3)
    | fail)
  have b3 := (hb1.trans (hb2.mono (by omega))).trans (hb3.mono (by omega))
  have h13 := (h1.below hb2 (by omega)).below hb3 (by omega)
  have h23 := h2.below hb3 (by omega)
  clear h1 h2 hb1 hb2 hb3
  go_loopw [9, 10] (fun t i wr => ∃ (k : Nat) (pt : Option Addr) (ct : Nat), k ≤ 32 ∧ i = .int .i64 k ∧ t = .slice pt (64 * k) ct ∧ Own wr 5 pt (64 * k) ct (fun j => By (verText s sig j)) ∧ Below (N + 3) w3 wr ∧ (∀ g, blk pt = some g → N + 3 ≤ g))
    (fun _ i _ => 32 - (intOf i).toNat)
  case atStart => exact ⟨0, none, 0, by omega, rfl, rfl, Own.nil _ _ _, Below.refl _ _, fun g hg => by cases hg⟩
  case round =>
    obtain ⟨k, pt, ct, hk, rfl, rfl, ho, qb, hp⟩ := hrel
    obtain ⟨M, hM⟩ := sz_some wr
    have hMN : N + 3 ≤ M := by have := below_sz qb hN3 hM; omega
    have bw := b3.trans (qb.mono (by omega))
    have h1r := h13.below qb (by omega)
    by_cases hlt : k < 32
    · have hk32 : (k : Int) < 32 := by omega
      have e1 : IntKind.i64.wrap (64 * (k : Int)) = 64 * (k : Int) := IntWalk.i64_in _ (by omega)
      have e2 : IntKind.i64.wrap (64 * (k : Int) + 32) = 64 * (k : Int) + 32 := IntWalk.i64_in _ (by omega)
      have hs1 : ∀ w, (Instr.sliceAt 22 (.slice (some ⟨bb, off, none⟩) 2048 cq) (some (.int .i64 (64 * (k : Int)))) (some (.int .i64 (64 * (k : Int) + 32))) none).run Tryd.prog w = .ok (.slice (some ⟨bb, off + 64 * k, none⟩) 32 (cq - 64 * k)) w := fun w => by
        have := run_slice_lh' 22 5 und22 inf5 bb off 2048 cq (64 * k) (64 * k + 32) (by omega) (by omega) (by omega) w
        rw [show ((64 * k : Nat) : Int) = 64 * (k : Int) from by omega, show ((64 * k + 32 : Nat) : Int) = 64 * (k : Int) + 32 from by omega, show 64 * k + 32 - 64 * k = 32 from by omega] at this
        exact this
      have hs2 : ∀ w, (Instr.sliceAt 22 (.slice (some ⟨bb, off, none⟩) 2048 cq) (some (.int .i64 (64 * (k : Int) + 32))) (some (.int .i64 (64 * (k : Int) + 64))) none).run Tryd.prog w = .ok (.slice (some ⟨bb, off + 64 * k + 32, none⟩) 32 (cq - (64 * k + 32))) w := fun w => by
        have := run_slice_lh' 22 5 und22 inf5 bb off 2048 cq (64 * k + 32) (64 * k + 64) (by omega) (by omega) (by omega) w
        rw [show ((64 * k + 32 : Nat) : Int) = 64 * (k : Int) + 32 from by omega, show ((64 * k + 64 : Nat) : Int) = 64 * (k : Int) + 64 from by omega, show 64 * k + 64 - (64 * k + 32) = 32 from by omega, ← Nat.add_assoc] at this
        exact this
      have hw1 : ∀ wz, Below N w wz → Bytes wz (some ⟨bb, off + 64 * k, none⟩) 32 (fun x => sig (64 * k + x)) := fun wz hz _ => ⟨bb, off + 64 * k, rfl, fun j hj => by
        rw [hz.cell (p := ⟨bb, off + 64 * k + j, none⟩) hbb]; have := hsig (64 * k + j) (by omega); simp only [← Nat.add_assoc] at this; exact this⟩
      have hw2 : ∀ wz, Below N w wz → Cells wz (some ⟨bb, off + 64 * k + 32, none⟩) 32 (fun x => By (sig (64 * k + 32 + x))) := fun wz hz _ => ⟨_, rfl, fun j hj => by
        rw [Addr.add_mid, hz.cell (p := ⟨bb, off + 64 * k + 32 + j, none⟩) hbb]; have := hsig (64 * k + 32 + j) (by omega); simp only [← Nat.add_assoc] at this; exact this⟩
      go_wp2_with fail
      refine wp_region_inn (fun w' => Has w' N 39 72 rtC) h1r.drew (by kernel_rfl) ?_
      have hne := inn_ne (I := fun w' => Has w' N 39 72 rtC) h1r
      refine anyI_reads [0, 1, 2, 3, 4, 5, 6, 7] _ _ _ h1r.drew (by kernel_rfl) (fun _ _ _ d _ h => by cases d <;> exact h) ?_
      simp only [pickO, List.map_cons, List.map_nil, List.getElem?_toArray, List.getElem?_cons_succ, List.getElem?_cons_zero, Option.getD_some]
      repeat first | (refine inn_val (fun x => run_ld 39 (.tmp 4) rfl N rfl 39 72 _ x.h _ hfs rfl inf39) (by rfl) ?_; simp only [Act.put, List.setIfInBounds_toArray, List.set_cons_succ, List.set_cons_zero]) | go_big_quiet_step (fail)
      refine wpQuiet_nil ?_
      refine anyI_part [8, 9] _ _ _ _ (by kernel_rfl) ?_
      simp only [List.filterMap_cons, List.filterMap_nil, List.getElem?_toArray, List.getElem?_cons_succ, List.getElem?_cons_zero]
      clear hne hs1 e1 e2
      change wpList _ _ _ [_] _ _
      go_wp2_with fail
      refine (RLeaf_any (some ⟨bb, off + 64 * k, none⟩) 32 (cq - 64 * k) (fun x => sig (64 * k + x)) wr.drew M hM (by omega) (by omega) (by exact hw1 wr bw)).mono ?_
      rintro e w4 ⟨g4, rfl, hg4, h4, hb4⟩
      have hb4' : Below M wr w4 := mod_belowdrew hb4
      obtain ⟨M4, hM4⟩ := sz_some w4
      have hMM4 := below_sz hb4' hM hM4
      dsimp only
      go_step
      refine ⟨h1r.below hb4' (by omega), ?_⟩
      change wpList _ _ _ [_] _ _
      refine wpl_pure rfl (v := .slice (some ⟨g4, 0, none⟩) 32 32) (by intro w; rfl) ?_
      refine ⟨h1r.below hb4' (by omega), ?_⟩
      change anyI _ _ _ _ _ _ _ _ _
      refine anyI_done (by kernel_rfl) ?_
      try simp only [Act.put, List.setIfInBounds_toArray, List.set_cons_succ, List.set_cons_zero, List.getElem_toArray, List.getElem_cons_succ, List.getElem_cons_zero]
      have q4 := qb.trans (hb4'.mono hMN)
      have o4 := ho.below hb4' (Nat.le_of_eq hM)
      have lt4 : ∀ g, blk pt = some g → g ≠ g4 := fun g hg => by have := ho.lt g hg; have e : wr.heap.size = M := hM; omega
      have h34 := h3.below q4 (by omega)
      clear ho hb4 hb4' qb h1r
      rcases bit_cases s k with ⟨HB, hb⟩ | ⟨HB, hb⟩
      · go_wp2_with (first
          | (refine wpl_load rfl 23 (.tmp 6) rfl (N + 1 + 1) rfl 23 32 _ h34 _ und23 rfl inf23 ?_)
          | (go_at_call 58; refine (RBit_any s k hlt w4 M4 hM4).mono ?_; rintro e w5 ⟨rfl, hb5⟩; have q5 := q4.trans (hb5.mono (by omega)); have b5 := b3.trans (q5.mono (by omega)); have h45 := h4.below hb5 (h4.ltN hM4); have o5 := o4.below hb5 (Nat.le_of_eq hM4); have l5 : N + 3 ≤ w5.heap.size := (by have := below_le hb5 hM4; omega))
          | (refine wpl_app rfl (.tmp 38) (.tmp 39) 22 rfl 5 und22 one5 pt (64 * k) ct rfl _ o5 _ 32 32 rfl _ h45.cells (fun _ _ => rfl) (by omega) ?_; intro p6 c6 w6 o6 g6 k6 n6; have b6 := g6.below q5 l5 hp; have hp6 := ge_step hp k6 l5; have l6 := Nat.le_trans l5 g6.size)
          | (refine wpl_app rfl (.tmp 40) (.tmp 41) 22 rfl 5 und22 one5 p6 (64 * k + 32) c6 rfl _ o6 _ 32 _ rfl _ (hw2 w6 (b3.trans (b6.mono (by omega)))) (fun _ _ => rfl) (by omega) ?_; intro p7 c7 w7 o7 g7 k7 n7; have b7 := g7.below b6 l6 hp6; have hp7 := ge_step hp6 k7 l6)
          | fail)
        refine ⟨⟨k + 1, p7, c7, by omega, by go_num, by rw [show 64 * k + 32 + 32 = 64 * (k + 1) from by omega], ?_, b7, hp7⟩, by simp [intOf]; omega⟩
        rw [show 64 * (k + 1) = 64 * k + 32 + 32 from by omega]
        exact o7.congr (fun j hj => verText_0 s sig k HB.out j (by omega))
      · go_wp2_with (first
          | (refine wpl_load rfl 23 (.tmp 6) rfl (N + 1 + 1) rfl 23 32 _ h34 _ und23 rfl inf23 ?_)
          | (go_at_call 58; refine (RBit_any s k hlt w4 M4 hM4).mono ?_; rintro e w5 ⟨rfl, hb5⟩; have q5 := q4.trans (hb5.mono (by omega)); have b5 := b3.trans (q5.mono (by omega)); have h45 := h4.below hb5 (h4.ltN hM4); have o5 := o4.below hb5 (Nat.le_of_eq hM4); have l5 : N + 3 ≤ w5.heap.size := (by have := below_le hb5 hM4; omega))
          | (refine wpl_app rfl (.tmp 43) (.tmp 44) 22 rfl 5 und22 one5 pt (64 * k) ct rfl _ o5 _ 32 _ rfl _ (hw2 w5 b5) (fun _ _ => rfl) (by omega) ?_; intro p6 c6 w6 o6 g6 k6 n6; have b6 := g6.below q5 l5 hp; have hp6 := ge_step hp k6 l5; have l6 := Nat.le_trans l5 g6.size; have h46 := h45.grew g6 (fun e => lt4 g4 e.symm rfl))
          | (refine wpl_app rfl (.tmp 45) (.tmp 46) 22 rfl 5 und22 one5 p6 (64 * k + 32) c6 rfl _ o6 _ 32 32 rfl _ h46.cells (fun _ _ => rfl) (by omega) ?_; intro p7 c7 w7 o7 g7 k7 n7; have b7 := g7.below b6 l6 hp6; have hp7 := ge_step hp6 k7 l6)
          | fail)
        refine ⟨⟨k + 1, p7, c7, by omega, by go_num, by rw [show 64 * k + 32 + 32 = 64 * (k + 1) from by omega], ?_, b7, hp7⟩, by simp [intOf]; omega⟩
        rw [show 64 * (k + 1) = 64 * k + 32 + 32 from by omega]
        exact o7.congr (fun j hj => verText_1 s sig k HB.out j (by omega))
    · obtain rfl : k = 32 := by omega
      have h2r := h23.below qb (by omega)
      have hB := own_bytes ho
      have hle := ho.le
      have heq := run_fits key s sig
      obtain ⟨f, ef⟩ : ∃ f, f = fitsB key s sig := ⟨_, rfl⟩
      rw [← ef] at heq
      have HF := hid ef
      have HEQ := hid heq
      clear ef heq
      go_wp2_with fail
      refine wp_region_later M (by kernel_rfl) (by kernel_rfl) ?_
      repeat first | (refine later_val (fun x => run_ld 39 (.tmp 4) rfl N rfl 39 72 _ (Later.has hM h1r x) _ hfs rfl inf39) (by rfl) ?_; simp only [Act.put, List.setIfInBounds_toArray, List.set_cons_succ, List.set_cons_zero]) | (refine later_val (fun x => run_ld 23 (.tmp 5) rfl (N + 1) rfl 23 32 _ (Later.has hM h2r x) _ und23 rfl inf23) (by rfl) ?_; simp only [Act.put, List.setIfInBounds_toArray, List.set_cons_succ, List.set_cons_zero]) | (refine later_val (fun x => run_eql_op 23 23 (.tmp 50) (.tmp 51) rfl _ _ rfl rfl f (by kernel_rfl) (HEQ.out x.w')) (by rfl) ?_; simp only [Act.put, List.setIfInBounds_toArray, List.set_cons_succ, List.set_cons_zero]) | (go_big_quiet_step ((go_at_call 49; exact later_of hM _ (fun K hK hKN => RootsSum_any pt 2048 ct (verText s sig) _ K hK hle (by omega) (hB.below hM (Later.b _))))))
      refine wpQuiet_nil ?_
      rintro w5 ⟨x5, e5⟩
      have hb5 := x5.b
      rw [← e5] at hb5
      clear e5 x5
      go_wp2_with fail
      go_ret
      exact ⟨by rw [← HF.out]; rfl, bw.trans (hb5.mono (by omega))⟩
end Go.Proofs.YtcampjgemedhlaaDoor
