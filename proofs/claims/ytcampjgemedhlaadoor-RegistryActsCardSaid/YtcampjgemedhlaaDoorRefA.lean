/- turn of the document's answer for layer 1; slices of words that are made whole. times of the document's answer for layer 1. below of the document's answer for layer 1. What times and below say as numbers. root of the document's answer for layer 1. primes of the document's answer for layer 1. -/
import Derived.Test.YtcampjgemedhlaaDoorDig4
import Derived.Test.YtcampjgemedhlaaDoorOwn
import Derived.Test.YtcampjgemedhlaaDoorRegB
import Derived.Laws.MakeOwn
import Derived.Test.YtcampjgemedhlaaDoorAts
import Derived.BigQuiet
import Derived.Great.BuildSlice
namespace Go.Proofs.YtcampjgemedhlaaDoor
open Go Go.RowKit Sha
theorem one31 : OneCell Tryd.prog 31 := oneCell_of (k := 8) (v := .int .u64 0) (by kernel_rfl) (by omega) rfl
theorem und87 : Tryd.prog.underlying 87 = some (.slice 31) := by kernel_rfl
theorem und31 : Tryd.prog.underlying 31 = some (.int .u64) := by kernel_rfl
theorem inf31 : (Tryd.prog.info? 31).map (·.size) = some 1 := by kernel_rfl
set_option maxRecDepth 100000 in
theorem turn_any (x : W32) (n : Nat) (hn : 1 ≤ n) (hn' : n ≤ 31) (w : World) :
    Calls Tryd.prog 67 #[.int .u32 (u x), .int .i64 (n : Int)] w fun e w' => e = .returned (.int .u32 (u (rr x n))) ∧ ∃ k, w' = w.drewN k := by
  have h0 := u_lo x
  have h1 := u_hi x
  have e1 := hid (rr_walk x n)
  have n0 : (0 : Int) ≤ (n : Int) := by omega
  have n1 : (n : Int) ≤ 31 := by omega
  have n2 : (1 : Int) ≤ (n : Int) := by omega
  have hs : (32 - (n : Int)).toNat = 32 - n := by omega
  have hw : IntKind.i64.wrap (32 - (n : Int)) = 32 - (n : Int) := IntWalk.i64_in _ (by omega)
  have hp : (0 : Int) ≤ 32 - (n : Int) := by omega
  go_enter Tryd.func67, Tryd.ntmps67
  go_wp2_with fail
  go_quiet (fail)
  go_wp2_with fail
  go_ret
  exact ⟨congrArg (fun z => Ending.returned (.int .u32 z)) e1.out, nq, rfl⟩
/-- A slice that is made whole. -/
theorem wpl_makeN {P : Program} {ops : Array Oper} {rest : List Oper} {o : Oper} {a : Act} {w : World} {Q : Exit → Act → World → Prop} (hgd : o.guard = none) (T : TypeId) (x y : Operand) (ho : o.op = .makeSlice T x y) (c : Nat) (zc : Int) (hx : a.eval x = .int .i64 zc) (hy : a.eval y = .int .i64 zc) (hzc : zc = (c : Int))
    (E : TypeId) (k : Nat) (z : Value) (ht : P.underlying T = some (.slice E)) (hi : (P.info? E).map (fun i => (i.zero, i.size, i.bytes)) = some (some z, 1, k)) (hk : k ≤ 1000) (hz : z.cells = #[z]) (hc : c ≤ 1000000)
    (N : Nat) (hN : Sz w N) (h : ∀ w1, Sz w1 (N + 1) → Below N w w1 → Has w1 N E c (fun _ => z) → wpList P ops Q rest (a.put o.dst (.slice (some ⟨N, 0, none⟩) c c)) w1) : wpList P ops Q (o :: rest) a w := by
  subst hzc
  cases hq : P.info? E with
  | none => simp [hq] at hi
  | some i =>
    simp [hq] at hi
    obtain ⟨h1, h2, h3⟩ := hi
    have hb : i.bytes * c ≤ 1000 * 1000000 := Nat.mul_le_mul (by omega) hc
    have hr := run_make (P := P) w T E i z ht hq h1 .i64 .i64 (c : Int) (c : Int) (by omega) (by omega) (by rw [← Int.natCast_mul]; omega) (by omega)
    rw [h2, Nat.mul_one, Int.toNat_natCast, hz] at hr
    have e : w.heap.size = N := hN
    have hcells : madeCells #[z] c = cellsOf (fun _ => z) c := by
      apply Array.ext_getElem?
      intro j
      by_cases hj : j < c
      · simp [madeCells, cellsOf, hj, Nat.mod_one]
      · simp [madeCells, cellsOf, hj]
    rw [hcells, e] at hr
    refine wpl_run hgd (.slice (some ⟨N, 0, none⟩) c c) (w.alloc (.cells (cellsOf (fun _ => z) c) E)) ?_ (h _ (sz_alloc hN _) (below_new w _ N hN) (by have := Has.new w E c (fun _ => z); rwa [e] at this))
    unfold execOp
    simp only [ho, hx, hy, Sem.run_bind, hr, Result.andThen_ok, Sem.run_pure]
def U64 (n : Nat) : Value := .int .u64 (n : Int)
/-- A product's parts of 32 bits: the inner loop's cells and what is carried. -/
def tIn (A B : Nat → Nat) (i : Nat) (o : Nat → Nat) : Nat → (Nat → Nat) × Nat
  | 0 => (o, 0)
  | k + 1 => (fun j => if j = i + k then (A i * B k + (tIn A B i o k).1 (i + k) + (tIn A B i o k).2) % 4294967296 else (tIn A B i o k).1 j, (A i * B k + (tIn A B i o k).1 (i + k) + (tIn A B i o k).2) / 4294967296)
/-- The outer loop's. -/
def tOut (A B : Nat → Nat) (m : Nat) : Nat → Nat → Nat
  | 0 => fun _ => 0
  | i + 1 => fun j => if j = i + m then (tIn A B i (tOut A B m i) m).1 j + (tIn A B i (tOut A B m i) m).2 else (tIn A B i (tOut A B m i) m).1 j
theorem part_lt {a b c d : Nat} (ha : a < 4294967296) (hb : b < 4294967296) (hc : c < 4294967296) (hd : d < 4294967296) : (a * b + c + d) / 4294967296 < 4294967296 := by
  have h : a * b ≤ 4294967295 * 4294967295 := Nat.mul_le_mul (by omega) (by omega)
  omega
theorem tIn_lt (A B : Nat → Nat) (i : Nat) (o : Nat → Nat) (m : Nat) (hA : A i < 4294967296) (hB : ∀ k, k < m → B k < 4294967296) (ho : ∀ j, o j < 4294967296) : ∀ k, k ≤ m → (∀ j, (tIn A B i o k).1 j < 4294967296) ∧ (tIn A B i o k).2 < 4294967296
  | 0, _ => ⟨ho, by show 0 < _; omega⟩
  | k + 1, h => by
    obtain ⟨h1, h2⟩ := tIn_lt A B i o m hA hB ho k (by omega)
    refine ⟨fun j => ?_, part_lt hA (hB k (by omega)) (h1 _) h2⟩
    simp only [tIn]
    split
    · omega
    · exact h1 j
theorem tIn_far (A B : Nat → Nat) (i : Nat) (o : Nat → Nat) : ∀ k j, i + k ≤ j → (tIn A B i o k).1 j = o j
  | 0, _, _ => rfl
  | k + 1, j, h => by
    simp only [tIn]
    rw [if_neg (by omega), tIn_far A B i o k j (by omega)]
theorem tOut_far (A B : Nat → Nat) (m : Nat) : ∀ i j, i + m ≤ j → tOut A B m i j = 0
  | 0, _, _ => rfl
  | i + 1, j, h => by
    simp only [tOut]
    rw [if_neg (by omega), tIn_far _ _ _ _ _ _ (by omega), tOut_far A B m i j (by omega)]
theorem tOut_lt (A B : Nat → Nat) (n m : Nat) (hA : ∀ k, k < n → A k < 4294967296) (hB : ∀ k, k < m → B k < 4294967296) : ∀ i, i ≤ n → ∀ j, tOut A B m i j < 4294967296
  | 0, _, _ => by show 0 < _; omega
  | i + 1, h, j => by
    have ih := tOut_lt A B n m hA hB i (by omega)
    obtain ⟨h1, h2⟩ := tIn_lt A B i (tOut A B m i) m (hA i (by omega)) hB ih m (Nat.le_refl m)
    simp only [tOut]
    split
    · rename_i e
      rw [e, tIn_far _ _ _ _ _ _ (Nat.le_refl _), tOut_far _ _ _ _ _ (Nat.le_refl _)]
      omega
    · exact h1 j
end Go.Proofs.YtcampjgemedhlaaDoor
namespace Go.Proofs.YtcampjgemedhlaaDoor
open Go Go.RowKit Sha
theorem zer31 : (Tryd.prog.info? 31).map (fun i => (i.zero, i.size, i.bytes)) = some (some (.int .u64 0), 1, 8) := by kernel_rfl
theorem u64_small (z : Int) (h0 : 0 ≤ z) (h1 : z < 18446744073709551616) : IntKind.u64.wrap z = z := IntWalk.u64_in z ⟨h0, by omega⟩
theorem cast_div4 (a b c d : Nat) : ((a : Int) * (b : Int) + (c : Int) + (d : Int)) / 4294967296 = (((a * b + c + d) / 4294967296 : Nat) : Int) := by
  rw [Int.natCast_ediv]; simp only [Int.natCast_add, Int.natCast_mul]; rfl
theorem cast_mod4 (a b c d : Nat) : ((a : Int) * (b : Int) + (c : Int) + (d : Int)) % 4294967296 = (((a * b + c + d) % 4294967296 : Nat) : Int) := by
  rw [Int.natCast_emod]; simp only [Int.natCast_add, Int.natCast_mul]; rfl
set_option maxRecDepth 100000 in
set_option maxHeartbeats 1000000 in
theorem times_any (p q : Option Addr) (n cp m cq : Nat) (A B : Nat → Nat) (w : World) (N : Nat) (hN : Sz w N) (hA : Ats w p n (fun j => U64 (A j))) (hB : Ats w q m (fun j => U64 (B j)))
    (hn : 1 ≤ n) (hn' : n ≤ 10) (hm : 1 ≤ m) (hm' : m ≤ 10) (lA : ∀ k, k < n → A k < 4294967296) (lB : ∀ k, k < m → B k < 4294967296) :
    Calls Tryd.prog 62 #[.slice p n cp, .slice q m cq] w fun e w' => e = .returned (.slice (some ⟨N, 0, none⟩) (n + m) (n + m)) ∧ Below N w w' ∧ Has w' N 31 (n + m) (fun j => U64 (tOut A B m n j)) := by
  have LA := hid lA
  have LB := hid lB
  clear lA lB
  obtain ⟨ba, oa, rfl, hca⟩ := hA (by omega)
  obtain ⟨bb, ob, rfl, hcb⟩ := hB (by omega)
  have HA := hid hca
  have HB := hid hcb
  have hba : ba < N := by have := World.block_lt_of_cell? w _ (hca 0 (by omega)); have e : w.heap.size = N := hN; simp only at this; omega
  have hbb : bb < N := by have := World.block_lt_of_cell? w _ (hcb 0 (by omega)); have e : w.heap.size = N := hN; simp only at this; omega
  clear hA hB hca hcb
  go_enter Tryd.func62, Tryd.ntmps62
  go_wp2_with (first
    | (refine wpl_makeN rfl 87 (.tmp 14) (.tmp 14) rfl (n + m) _ rfl rfl (by omega) 31 8 _ und87 zer31 (by omega) rfl (by omega) N hN ?_; intro w1 hN1 hb1 h1)
    | fail)
  go_loopw [6] (fun i wr => ∃ k : Nat, k ≤ n ∧ i = .int .i64 k ∧ Has wr N 31 (n + m) (fun j => U64 (tOut A B m k j)) ∧ Below N w wr)
    (fun i _ => n - (intOf i).toNat)
  case atStart => exact ⟨0, by omega, rfl, h1, hb1⟩
  case round =>
    clear h1 hb1
    obtain ⟨k, hk, rfl, h1, qb⟩ := hrel
    by_cases hlt : k < n
    · have l1 := tOut_lt A B n m LA.out LB.out k (by omega)
      have L1 := hid l1
      clear l1
      go_wp2_with fail
      go_loopw [7, 8] (fun c i wx => ∃ x : Nat, x ≤ m ∧ i = .int .i64 x ∧ c = U64 (tIn A B k (tOut A B m k) x).2 ∧ Has wx N 31 (n + m) (fun j => U64 ((tIn A B k (tOut A B m k) x).1 j)) ∧ Below N w wx)
        (fun _ i _ => m - (intOf i).toNat)
      case atStart => exact ⟨0, by omega, rfl, rfl, h1, qb⟩
      case round =>
        clear h1 qb
        obtain ⟨x, hx, rfl, rfl, h1, qb⟩ := hrel
        by_cases hltx : x < m
        · obtain ⟨i1, i2⟩ := tIn_lt A B k (tOut A B m k) m (LA.out k hlt) LB.out L1.out x hx
          have ca : wr.cell? ⟨ba, oa + k, none⟩ = some (U64 (A k)) := by rw [qb.cell (p := ⟨ba, oa + k, none⟩) hba]; exact HA.out k hlt
          have cb : wr.cell? ⟨bb, ob + x, none⟩ = some (U64 (B x)) := by rw [qb.cell (p := ⟨bb, ob + x, none⟩) hbb]; exact HB.out x hltx
          have co : wr.cell? ⟨N, k + x, none⟩ = some (U64 ((tIn A B k (tOut A B m k) x).1 (k + x))) := h1.cell (by omega)
          have a1 := LA.out k hlt
          have b1 := LB.out x hltx
          have o1 := i1 (k + x)
          obtain ⟨va, ea⟩ : ∃ va, va = A k := ⟨_, rfl⟩
          obtain ⟨vb, eb⟩ : ∃ vb, vb = B x := ⟨_, rfl⟩
          obtain ⟨vo, eo⟩ : ∃ vo, vo = (tIn A B k (tOut A B m k) x).1 (k + x) := ⟨_, rfl⟩
          obtain ⟨vc, ec⟩ : ∃ vc, vc = (tIn A B k (tOut A B m k) x).2 := ⟨_, rfl⟩
          have hstep := hid (show tIn A B k (tOut A B m k) (x + 1) = (fun j => if j = k + x then (va * vb + vo + vc) % 4294967296 else (tIn A B k (tOut A B m k) x).1 j, (va * vb + vo + vc) / 4294967296) by rw [ea, eb, eo, ec]; rfl)
          rw [← ea] at ca a1
          rw [← eb] at cb b1
          rw [← eo] at co o1
          rw [← ec] at i2 ⊢
          unfold U64 at ca cb co
          rw [show U64 vc = .int .u64 (vc : Int) from rfl]
          clear ea eb eo ec i1
          have hab : va * vb ≤ 4294967295 * 4294967295 := Nat.mul_le_mul (by omega) (by omega)
          have hcast : (va : Int) * (vb : Int) = ((va * vb : Nat) : Int) := by push_cast; rfl
          have p1 : IntKind.u64.wrap ((va : Int) * (vb : Int)) = (va : Int) * (vb : Int) := IntWalk.u64_in _ (by rw [hcast]; omega)
          have p2 : IntKind.u64.wrap ((va : Int) * (vb : Int) + (vo : Int)) = (va : Int) * (vb : Int) + (vo : Int) := IntWalk.u64_in _ (by rw [hcast]; omega)
          have p3 : IntKind.u64.wrap ((va : Int) * (vb : Int) + (vo : Int) + (vc : Int)) = (va : Int) * (vb : Int) + (vo : Int) + (vc : Int) := IntWalk.u64_in _ (by rw [hcast]; omega)
          have n3 : (0 : Int) ≤ (va : Int) * (vb : Int) + (vo : Int) + (vc : Int) := by rw [hcast]; omega
          have HC := hid hcast
          have hk0 : (0 : Int) ≤ (k : Int) := by omega
          have hx0 : (0 : Int) ≤ (x : Int) := by omega
          have hkn : (k : Int) < (n : Int) := by omega
          have hxm : (x : Int) < (m : Int) := by omega
          have hsum : (k : Int) + (x : Int) < (n : Int) + (m : Int) := by omega
          have hs0 : (0 : Int) ≤ (k : Int) + (x : Int) := by omega
          have hsw : IntKind.i64.wrap ((k : Int) + (x : Int)) = (k : Int) + (x : Int) := IntWalk.i64_in _ (by omega)
          have hst : ((k : Int) + (x : Int)).toNat = k + x := by omega
          have hlm : decide ((x : Int) < (m : Int)) = true := by simp; omega
          clear hcast hab a1 b1 o1 i2
          go_wp2_with fail
          go_quiet (fail)
          clear ca cb co
          go_wp2_with (first
            | (refine wpl_set rfl 31 (.tmp 52) (.tmp 51) rfl N (k + x) rfl (.int .u64 (((va : Int) * (vb : Int) + (vo : Int) + (vc : Int)) % 4294967296)) rfl inf31 rfl rfl 31 (n + m) _ (h1.drewN nq) (by omega) ?_; intro w3 ht3 h3)
            | fail)
          refine ⟨⟨x + 1, by omega, by push_cast; rfl, ?_, ?_, ht3.below (below_drewN qb nq) (Nat.le_refl N)⟩, by simp [intOf]; omega⟩
          · rw [hstep.out]
            exact congrArg (Value.int .u64) (cast_div4 va vb vo vc)
          · rw [hstep.out]
            refine h3.congr fun j hj => ?_
            simp only [upd]
            split
            · exact congrArg (Value.int .u64) (cast_mod4 va vb vo vc)
            · rfl
        · obtain ⟨i1, i2⟩ := tIn_lt A B k (tOut A B m k) m (LA.out k hlt) LB.out L1.out m (Nat.le_refl m)
          have hxm : x = m := by omega
          subst hxm
          have o1 : (tIn A B k (tOut A B x k) x).1 (k + x) = 0 := by rw [tIn_far _ _ _ _ _ _ (Nat.le_refl _), tOut_far _ _ _ _ _ (Nat.le_refl _)]
          have co : wr.cell? ⟨N, k + x, none⟩ = some (.int .u64 0) := by rw [h1.cell (by omega), o1]; rfl
          obtain ⟨vc, ec⟩ : ∃ vc, vc = (tIn A B k (tOut A B x k) x).2 := ⟨_, rfl⟩
          have hstep := hid (show tOut A B x (k + 1) = (fun j => if j = k + x then vc else (tIn A B k (tOut A B x k) x).1 j) by funext j; show (if j = k + x then _ else _) = _; split <;> rename_i h <;> simp [h, ec, o1])
          rw [← ec] at i2 ⊢
          clear ec
          rw [show U64 vc = .int .u64 (vc : Int) from rfl]
          have p2 : IntKind.u64.wrap (vc : Int) = (vc : Int) := IntWalk.u64_in _ (by omega)
          have hk0 : (0 : Int) ≤ (k : Int) := by omega
          have hx0 : (0 : Int) ≤ (x : Int) := by omega
          have hsum : (k : Int) + (x : Int) < (n : Int) + (x : Int) := by omega
          have hs0 : (0 : Int) ≤ (k : Int) + (x : Int) := by omega
          have hsw : IntKind.i64.wrap ((k : Int) + (x : Int)) = (k : Int) + (x : Int) := IntWalk.i64_in _ (by omega)
          have hst : ((k : Int) + (x : Int)).toNat = k + x := by omega
          clear i1 i2 o1
          go_wp2_with (first
            | (refine wpl_set rfl 31 (.tmp 69) (.tmp 68) rfl N (k + x) rfl _ rfl inf31 rfl rfl 31 (n + x) _ h1 (by omega) ?_; intro w3 ht3 h3)
            | fail)
          refine ⟨⟨k + 1, by omega, by push_cast; rfl, ?_, ht3.below qb (Nat.le_refl N)⟩, by simp [intOf]; omega⟩
          rw [hstep.out]
          refine h3.congr fun j hj => ?_
          simp only [upd]
          split
          · rfl
          · rfl
    · have hkn : k = n := by omega
      subst hkn
      go_wp2_with fail
      go_ret
      exact ⟨rfl, qb, h1⟩
end Go.Proofs.YtcampjgemedhlaaDoor
namespace Go.Proofs.YtcampjgemedhlaaDoor
open Go Go.RowKit Sha
def blwY (v k j : Nat) : Nat := if j = k then v else 0
/-- Is a number of parts at most v at the place k? From above. -/
def blw (X : Nat → Nat) (v k : Nat) : Nat → Bool
  | 0 => true
  | i + 1 => if X i = blwY v k i then blw X v k i else decide (X i < blwY v k i)
set_option maxRecDepth 100000 in
set_option maxHeartbeats 1000000 in
theorem below_any (p : Option Addr) (n cp v k : Nat) (X : Nat → Nat) (w : World) (N : Nat) (hN : Sz w N) (hX : Ats w p n (fun j => U64 (X j)))
    (hk : k < n) (hn' : n ≤ 40) :
    Calls Tryd.prog 63 #[.slice p n cp, .int .u64 (v : Int), .int .i64 (k : Int)] w fun e w' => e = .returned (.bool (blw X v k n)) ∧ Below N w w' := by
  obtain ⟨ba, oa, rfl, hca⟩ := hX (by omega)
  have HA := hid hca
  have hba : ba < N := by have := World.block_lt_of_cell? w _ (hca 0 (by omega)); have e : w.heap.size = N := hN; simp only at this; omega
  clear hX hca
  have hk0 : (0 : Int) ≤ (k : Int) := by omega
  have hkn : (k : Int) < (n : Int) := by omega
  go_enter Tryd.func63, Tryd.ntmps63
  go_wp2_with (first
    | (refine wpl_makeN rfl 87 (.tmp 10) (.tmp 10) rfl n _ rfl rfl (by omega) 31 8 _ und87 zer31 (by omega) rfl (by omega) N hN ?_; intro w1 hN1 hb1 h1)
    | (refine wpl_set rfl 31 (.tmp 15) (.tmp 14) rfl N k rfl (.int .u64 (v : Int)) rfl inf31 rfl rfl 31 n _ h1 (by omega) ?_; intro w2 ht2 h2)
    | fail)
  have qb := ht2.below hb1 (Nat.le_refl N)
  have h3 : Has w2 N 31 n (fun j => U64 (blwY v k j)) := h2.congr fun j _ => by simp only [upd, blwY]; split <;> rfl
  clear h1 h2 ht2 hb1 hN1
  go_loopw [8] (fun i wr => ∃ t : Nat, t ≤ n ∧ i = .int .i64 ((t : Int) - 1) ∧ Hid (blw X v k n = blw X v k t) ∧ Has wr N 31 n (fun j => U64 (blwY v k j)) ∧ Below N w wr)
    (fun i _ => (intOf i + 1).toNat)
  case atStart => exact ⟨n, by omega, rfl, hid rfl, h3, qb⟩
  case round =>
    clear h3 qb
    obtain ⟨t, ht, rfl, HF, h1, qb⟩ := hrel
    cases t with
    | zero =>
      go_wp2_with fail
      go_ret
      exact ⟨by rw [HF.out]; rfl, qb⟩
    | succ s =>
      rw [show ((s + 1 : Nat) : Int) - 1 = (s : Int) from by omega]
      have hs0 : (0 : Int) ≤ (s : Int) := by omega
      have hsn : (s : Int) < (n : Int) := by omega
      have ca : wr.cell? ⟨ba, oa + s, none⟩ = some (U64 (X s)) := by rw [qb.cell (p := ⟨ba, oa + s, none⟩) hba]; exact HA.out s (by omega)
      have cb : wr.cell? ⟨N, s, none⟩ = some (U64 (blwY v k s)) := h1.cell (by omega)
      have hstep := hid (show blw X v k (s + 1) = if X s = blwY v k s then blw X v k s else decide (X s < blwY v k s) from rfl)
      obtain ⟨x, ex⟩ : ∃ x, x = X s := ⟨_, rfl⟩
      obtain ⟨y, ey⟩ : ∃ y, y = blwY v k s := ⟨_, rfl⟩
      rw [← ex] at ca hstep
      rw [← ey] at cb hstep
      unfold U64 at ca cb
      clear ex ey
      by_cases he : x = y
      · subst he
        have hstep2 := hid (hstep.out.trans (if_pos rfl))
        clear hstep
        go_wp2_with fail
        go_quiet (fail)
        go_wp2_with fail
        exact ⟨⟨s, by omega, rfl, hid (HF.out.trans hstep2.out), h1.drewN _, below_drewN qb _⟩, by simp [intOf]⟩
      · have hstep2 := hid (hstep.out.trans (if_neg he))
        clear hstep
        have hne : ¬ ((x : Int) = (y : Int)) := by omega
        go_wp2_with fail
        go_quiet (fail)
        go_wp2_with fail
        go_quiet (fail)
        go_wp2_with fail
        go_ret
        exact ⟨by rw [HF.out, hstep2.out]; simp, below_drewN (below_drewN qb _) _⟩
end Go.Proofs.YtcampjgemedhlaaDoor
namespace Go.Proofs.YtcampjgemedhlaaDoor
open Go Go.RowKit Sha
/-- The number that parts of 32 bits make, the lowest first. -/
def vl (X : Nat → Nat) : Nat → Nat
  | 0 => 0
  | n + 1 => vl X n + X n * 4294967296 ^ n
theorem vl_congr {X Y : Nat → Nat} : ∀ {n : Nat}, (∀ j, j < n → X j = Y j) → vl X n = vl Y n
  | 0, _ => rfl
  | n + 1, h => by simp only [vl]; rw [vl_congr (n := n) (fun j hj => h j (by omega)), h n (by omega)]
theorem vl_put (X : Nat → Nat) (p v : Nat) : ∀ L, p < L → vl (fun j => if j = p then v else X j) L + X p * 4294967296 ^ p = vl X L + v * 4294967296 ^ p
  | L + 1, h => by
    simp only [vl]
    by_cases e : L = p
    · subst e
      rw [vl_congr (n := L) (X := fun j => if j = L then v else X j) (Y := X) (fun j hj => by rw [if_neg (by omega)]), if_pos rfl]
      omega
    · have ih := vl_put X p v L (by omega)
      rw [if_neg e]
      omega
theorem vl_in (A B : Nat → Nat) (i : Nat) (o : Nat → Nat) (L : Nat) : ∀ k, i + k ≤ L →
    vl (tIn A B i o k).1 L + (tIn A B i o k).2 * 4294967296 ^ (i + k) = vl o L + A i * 4294967296 ^ i * vl B k
  | 0, _ => by simp [tIn, vl]
  | k + 1, h => by
    have ih := vl_in A B i o L k (by omega)
    have hp := vl_put (tIn A B i o k).1 (i + k) ((A i * B k + (tIn A B i o k).1 (i + k) + (tIn A B i o k).2) % 4294967296) L (by omega)
    have hs := Nat.mod_add_div (A i * B k + (tIn A B i o k).1 (i + k) + (tIn A B i o k).2) 4294967296
    simp only [tIn, vl]
    generalize (tIn A B i o k).1 (i + k) = x at *
    generalize (tIn A B i o k).2 = c at *
    generalize (A i * B k + x + c) % 4294967296 = r at *
    generalize (A i * B k + x + c) / 4294967296 = q at *
    generalize vl (fun j => if j = i + k then r else (tIn A B i o k).1 j) L = V' at *
    generalize vl (tIn A B i o k).1 L = V at *
    generalize vl o L = O at *
    generalize vl B k = W at *
    have e1 : 4294967296 ^ (i + (k + 1)) = 4294967296 * 4294967296 ^ (i + k) := by rw [← Nat.add_assoc, Nat.pow_succ, Nat.mul_comm]
    have e2 : (4294967296 : Nat) ^ (i + k) = 4294967296 ^ i * 4294967296 ^ k := Nat.pow_add _ _ _
    rw [e1]
    have e3 : A i * 4294967296 ^ i * (W + B k * 4294967296 ^ k) = A i * 4294967296 ^ i * W + A i * B k * 4294967296 ^ (i + k) := by rw [e2]; grind
    rw [e3]
    have e4 : q * (4294967296 * 4294967296 ^ (i + k)) + r * 4294967296 ^ (i + k) = A i * B k * 4294967296 ^ (i + k) + x * 4294967296 ^ (i + k) + c * 4294967296 ^ (i + k) := by
      rw [← Nat.add_mul, ← Nat.add_mul, ← hs]; grind
    omega
theorem vl_out (A B : Nat → Nat) (m L : Nat) : ∀ i, i + m ≤ L → vl (tOut A B m i) L = vl A i * vl B m
  | 0, _ => by
    have : ∀ n, vl (fun _ => 0) n = 0 := fun n => by induction n with
      | zero => rfl
      | succ n ih => simp [vl, ih]
    simp [tOut, vl, this]
  | i + 1, h => by
    have ih := vl_out A B m L i (by omega)
    have h1 := vl_in A B i (tOut A B m i) L m (by omega)
    have hp := vl_put (tIn A B i (tOut A B m i) m).1 (i + m) ((tIn A B i (tOut A B m i) m).1 (i + m) + (tIn A B i (tOut A B m i) m).2) L (by omega)
    have h0 : (tIn A B i (tOut A B m i) m).1 (i + m) = 0 := by rw [tIn_far _ _ _ _ _ _ (Nat.le_refl _), tOut_far _ _ _ _ _ (Nat.le_refl _)]
    have e : vl (tOut A B m (i + 1)) L = vl (fun j => if j = i + m then (tIn A B i (tOut A B m i) m).1 (i + m) + (tIn A B i (tOut A B m i) m).2 else (tIn A B i (tOut A B m i) m).1 j) L :=
      vl_congr fun j _ => by simp only [tOut]; split <;> simp_all
    rw [e]
    rw [h0] at hp ⊢
    simp only [vl]
    rw [Nat.add_mul, ← ih]
    simp only [Nat.zero_mul, Nat.zero_add, Nat.add_zero] at hp ⊢
    omega
theorem vl_lt (X : Nat → Nat) (h : ∀ j, X j < 4294967296) : ∀ n, vl X n < 4294967296 ^ n
  | 0 => by show 0 < _; simp
  | n + 1 => by
    have ih := vl_lt X h n
    have : (X n + 1) * 4294967296 ^ n ≤ 4294967296 * 4294967296 ^ n := Nat.mul_le_mul_right _ (h n)
    simp only [vl]
    rw [Nat.pow_succ]
    rw [Nat.add_mul] at this
    omega
theorem blw_vl (X : Nat → Nat) (v k : Nat) (h : ∀ j, X j < 4294967296) (hv : v < 4294967296) : ∀ t, blw X v k t = decide (vl X t ≤ vl (blwY v k) t)
  | 0 => by simp [blw, vl]
  | t + 1 => by
    have ih := blw_vl X v k h hv t
    have hY : ∀ j, blwY v k j < 4294967296 := fun j => by unfold blwY; split <;> omega
    have h1 := vl_lt X h t
    have h2 := vl_lt _ hY t
    simp only [blw]
    by_cases e : X t = blwY v k t
    · rw [if_pos e, ih, decide_eq_decide]; simp only [vl]; rw [e]; omega
    · rw [if_neg e, decide_eq_decide]
      simp only [vl]
      by_cases hlt : X t < blwY v k t
      · have : (X t + 1) * 4294967296 ^ t ≤ blwY v k t * 4294967296 ^ t := Nat.mul_le_mul_right _ hlt
        rw [Nat.add_mul] at this
        omega
      · have : (blwY v k t + 1) * 4294967296 ^ t ≤ X t * 4294967296 ^ t := Nat.mul_le_mul_right _ (by omega)
        rw [Nat.add_mul] at this
        omega
theorem vl_one (v k : Nat) : ∀ t, vl (blwY v k) t = if k < t then v * 4294967296 ^ k else 0
  | 0 => by simp [vl]
  | t + 1 => by
    simp only [vl]
    rw [vl_one v k t]
    unfold blwY
    by_cases h : t = k
    · subst h; simp
    · rw [if_neg h]
      by_cases hk : k < t
      · rw [if_pos hk, if_pos (by omega)]; simp
      · rw [if_neg hk, if_neg (by omega)]; simp
/-- A number's two parts. -/
def pt (y : Nat) : Nat → Nat := fun j => if j = 0 then y % 4294967296 else y / 4294967296
theorem vl_pt (y : Nat) : vl (pt y) 2 = y := by
  show 0 + y % 4294967296 * 4294967296 ^ 0 + y / 4294967296 * 4294967296 ^ 1 = y
  omega
theorem pt_lt (y : Nat) (h : y < 18446744073709551616) (k : Nat) : pt y k < 4294967296 := by unfold pt; split <;> omega
theorem cube_said (y v : Nat) (h : y < 18446744073709551616) (hv : v < 4294967296) : blw (tOut (tOut (pt y) (pt y) 2 2) (pt y) 2 4) v 3 6 = decide (y * y * y ≤ v * 4294967296 ^ 3) := by
  have l2 := tOut_lt (pt y) (pt y) 2 2 (fun k _ => pt_lt y h k) (fun k _ => pt_lt y h k) 2 (Nat.le_refl 2)
  have l3 := tOut_lt (tOut (pt y) (pt y) 2 2) (pt y) 4 2 (fun k _ => l2 k) (fun k _ => pt_lt y h k) 4 (Nat.le_refl 4)
  rw [blw_vl _ _ _ l3 hv, vl_one, vl_out _ _ _ _ _ (by omega), vl_out _ _ _ _ _ (by omega), vl_pt, if_pos (by omega)]
theorem square_said (y v : Nat) (h : y < 18446744073709551616) (hv : v < 4294967296) : blw (tOut (pt y) (pt y) 2 2) v 2 4 = decide (y * y ≤ v * 4294967296 ^ 2) := by
  have l2 := tOut_lt (pt y) (pt y) 2 2 (fun k _ => pt_lt y h k) (fun k _ => pt_lt y h k) 2 (Nat.le_refl 2)
  rw [blw_vl _ _ _ l2 hv, vl_one, vl_out _ _ _ _ _ (by omega), vl_pt, if_pos (by omega)]
end Go.Proofs.YtcampjgemedhlaaDoor
namespace Go.Proofs.YtcampjgemedhlaaDoor
open Go Go.RowKit Sha
/-- A slice that is built of its cells. -/
theorem wpl_lits {P : Program} {ops : Array Oper} {rest : List Oper} {o : Oper} {a : Act} {w : World} {Q : Exit → Act → World → Prop} (hgd : o.guard = none) (T E : TypeId) (len : Nat) (parts : Array (Nat × Operand)) (ho : o.op = .buildSlice T len parts) (f : Nat → Value) (k : Nat) (z : Value)
    (ht : P.underlying T = some (.slice E)) (hi : (P.info? E).map (fun i => (i.zero, i.size, i.bytes)) = some (some z, 1, k)) (hl : 0 < len) (hl' : len ≤ 1000)
    (hf : Instr.fill (fun i => some (i * 1, 1)) ((Array.range (len * 1)).map (z.cells[· % z.cells.size]!)) (parts.map fun (i, x) => (i, a.eval x)).toList = some (cellsOf f len))
    (N : Nat) (hN : Sz w N) (h : ∀ w1, Sz w1 (N + 1) → Below N w w1 → Has w1 N E len f → wpList P ops Q rest (a.put o.dst (.slice (some ⟨N, 0, none⟩) len len)) w1) : wpList P ops Q (o :: rest) a w := by
  cases hq : P.info? E with
  | none => simp [hq] at hi
  | some i =>
    simp [hq] at hi
    obtain ⟨h1, h2, h3⟩ := hi
    have e : w.heap.size = N := hN
    refine wpList_buildSlice hgd T E len parts ho (cellsOf f len) i z ht hq h1 (by rw [h2]; omega) (by rw [h2]; omega) (by rw [h2]; exact hf) ?_
    rw [e]
    exact h _ (sz_alloc hN _) (below_new w _ N hN) (has_new hN E len f)
/-- So many steps of a root: from 2^36 down. -/
def rootB (v power y : Nat) : Bool := if power = 3 then decide (y * y * y ≤ v * 4294967296 ^ 3) else decide (y * y ≤ v * 4294967296 ^ 2)
def rootX (v power : Nat) : Nat → Nat
  | 0 => 0
  | m + 1 => if rootB v power (rootX v power m + 2 ^ (36 - m)) then rootX v power m + 2 ^ (36 - m) else rootX v power m
def rootS (v power : Nat) : Nat := rootX v power 37 % 4294967296
theorem rootX_lt (v power : Nat) : ∀ m, m ≤ 37 → rootX v power m + 2 ^ (37 - m) ≤ 2 ^ 37
  | 0, _ => by simp [rootX]
  | m + 1, h => by
    have ih := rootX_lt v power m (by omega)
    have e : 2 ^ (37 - m) = 2 * 2 ^ (36 - m) := by rw [show 37 - m = (36 - m) + 1 from by omega, Nat.pow_succ, Nat.mul_comm]
    rw [show 37 - (m + 1) = 36 - m from by omega]
    simp only [rootX]
    split <;> omega
theorem shl_one (b : Nat) (hb : b ≤ 36) : (2 : Int) ^ b = ((2 ^ b : Nat) : Int) ∧ 2 ^ b ≤ 68719476736 := ⟨by push_cast; rfl, by
  have : 2 ^ b ≤ 2 ^ 36 := Nat.pow_le_pow_right (by omega) hb
  omega⟩
theorem sz_pt (w : World) (x c : Nat) : Sz (w.alloc (Obj.cells #[Value.int IntKind.u64 (((x : Int) + (c : Int)) % 4294967296), Value.int IntKind.u64 (((x : Int) + (c : Int)) / 4294967296)] 31)) (w.heap.size + 1) := sz_alloc rfl _
theorem has_pt (w : World) (x c : Nat) : Has (w.alloc (Obj.cells #[Value.int IntKind.u64 (((x : Int) + (c : Int)) % 4294967296), Value.int IntKind.u64 (((x : Int) + (c : Int)) / 4294967296)] 31)) w.heap.size 31 2 (fun j => U64 (pt (x + c) j)) :=
  (has_new (w := w) rfl 31 2 (fun j => if j = 0 then .int .u64 (((x : Int) + (c : Int)) % 4294967296) else .int .u64 (((x : Int) + (c : Int)) / 4294967296))).congr fun j _ => by
    unfold pt U64
    split
    · exact congrArg (Value.int .u64) (by rw [Int.natCast_emod, Int.natCast_add]; rfl)
    · exact congrArg (Value.int .u64) (by rw [Int.natCast_ediv, Int.natCast_add]; rfl)
/-- The cube's parts, the square's. -/
def sqr (y : Nat) : Nat → Nat := tOut (pt y) (pt y) 2 2
def cub (y : Nat) : Nat → Nat := tOut (sqr y) (pt y) 2 4
theorem sqr_lt (y : Nat) (h : y < 18446744073709551616) (k : Nat) : sqr y k < 4294967296 := tOut_lt (pt y) (pt y) 2 2 (fun k _ => pt_lt y h k) (fun k _ => pt_lt y h k) 2 (Nat.le_refl 2) k
theorem times_sqr (y : Nat) (h : y < 18446744073709551616) (w : World) (b N : Nat) (hN : Sz w N) (hb : Has w b 31 2 (fun j => U64 (pt y j))) :
    Calls Tryd.prog 62 #[.slice (some ⟨b, 0, none⟩) 2 2, .slice (some ⟨b, 0, none⟩) 2 2] w fun e w' => e = .returned (.slice (some ⟨N, 0, none⟩) 4 4) ∧ Below N w w' ∧ Has w' N 31 4 (fun j => U64 (sqr y j)) :=
  times_any (some ⟨b, 0, none⟩) (some ⟨b, 0, none⟩) 2 2 2 2 (pt y) (pt y) w N hN hb.ats hb.ats (by omega) (by omega) (by omega) (by omega) (fun k _ => pt_lt y h k) (fun k _ => pt_lt y h k)
theorem times_cub (y : Nat) (h : y < 18446744073709551616) (w : World) (a b N : Nat) (hN : Sz w N) (ha : Has w a 31 4 (fun j => U64 (sqr y j))) (hb : Has w b 31 2 (fun j => U64 (pt y j))) :
    Calls Tryd.prog 62 #[.slice (some ⟨a, 0, none⟩) 4 4, .slice (some ⟨b, 0, none⟩) 2 2] w fun e w' => e = .returned (.slice (some ⟨N, 0, none⟩) 6 6) ∧ Below N w w' ∧ Has w' N 31 6 (fun j => U64 (cub y j)) :=
  times_any (some ⟨a, 0, none⟩) (some ⟨b, 0, none⟩) 4 4 2 2 (sqr y) (pt y) w N hN ha.ats hb.ats (by omega) (by omega) (by omega) (by omega) (fun k _ => sqr_lt y h k) (fun k _ => pt_lt y h k)
theorem below_cub (y v : Nat) (h : y < 18446744073709551616) (hv : v < 4294967296) (w : World) (a N : Nat) (hN : Sz w N) (ha : Has w a 31 6 (fun j => U64 (cub y j))) :
    Calls Tryd.prog 63 #[.slice (some ⟨a, 0, none⟩) 6 6, .int .u64 (v : Int), .int .i64 3] w fun e w' => e = .returned (.bool (rootB v 3 y)) ∧ Below N w w' :=
  (below_any (some ⟨a, 0, none⟩) 6 6 v 3 (cub y) w N hN ha.ats (by omega) (by omega)).mono (fun e w' k => ⟨k.1.trans (congrArg (fun b => Ending.returned (.bool b)) (cube_said y v h hv)), k.2⟩)
theorem below_sqr (y v : Nat) (h : y < 18446744073709551616) (hv : v < 4294967296) (w : World) (a N : Nat) (hN : Sz w N) (ha : Has w a 31 4 (fun j => U64 (sqr y j))) :
    Calls Tryd.prog 63 #[.slice (some ⟨a, 0, none⟩) 4 4, .int .u64 (v : Int), .int .i64 2] w fun e w' => e = .returned (.bool (rootB v 2 y)) ∧ Below N w w' :=
  (below_any (some ⟨a, 0, none⟩) 4 4 v 2 (sqr y) w N hN ha.ats (by omega) (by omega)).mono (fun e w' k => ⟨k.1.trans (congrArg (fun b => Ending.returned (.bool b)) (square_said y v h hv)), k.2⟩)
set_option maxRecDepth 100000 in
set_option maxHeartbeats 1000000 in
theorem root3_any (v : Nat) (hv : v < 4294967296) (w : World) (N : Nat) (hN : Sz w N) :
    Calls Tryd.prog 52 #[.int .u64 (v : Int), .int .i64 3] w fun e w' => e = .returned (.int .u32 ((rootS v 3 : Nat) : Int)) ∧ Below N w w' := by
  go_enter Tryd.func52, Tryd.ntmps52
  go_wp2_with fail
  go_loopw [5, 6] (fun x i wr => ∃ m : Nat, m ≤ 37 ∧ i = .int .i64 (36 - (m : Int)) ∧ x = U64 (rootX v 3 m) ∧ Below N w wr)
    (fun _ i _ => (intOf i + 1).toNat)
  case atStart => exact ⟨0, by omega, rfl, rfl, Below.refl N w⟩
  case round =>
    obtain ⟨m, hm, rfl, rfl, qb⟩ := hrel
    have hx := rootX_lt v 3 m hm
    by_cases hlt : m < 37
    · obtain ⟨b, eb⟩ : ∃ b, b = 36 - m := ⟨_, rfl⟩
      have hb : b ≤ 36 := by omega
      have e1 : 36 - (m : Int) = (b : Int) := by omega
      rw [e1]
      have hb0 : (0 : Int) ≤ (b : Int) := by omega
      have hst : ((b : Int)).toNat = b := by omega
      obtain ⟨hp, hp'⟩ := shl_one b hb
      obtain ⟨c, ec⟩ : ∃ c, c = 2 ^ b := ⟨_, rfl⟩
      rw [← ec] at hp hp'
      obtain ⟨x, ex⟩ : ∃ x, x = rootX v 3 m := ⟨_, rfl⟩
      have hx' : x ≤ 137438953472 := by rw [ex]; have : 0 < 2 ^ (37 - m) := Nat.pow_pos (by omega); omega
      have hstep := hid (show rootX v 3 (m + 1) = if rootB v 3 (x + c) then x + c else x by rw [ex, ec, eb]; rfl)
      rw [← ex, show U64 x = .int .u64 (x : Int) from rfl]
      clear ex ec eb hx
      have hw : IntKind.u64.wrap ((2 : Int) ^ b) = (c : Int) := by rw [hp]; exact IntWalk.u64_in _ (by omega)
      have hw2 : IntKind.u64.wrap ((x : Int) + (c : Int)) = (x : Int) + (c : Int) := IntWalk.u64_in _ (by omega)
      have hy0 : (0 : Int) ≤ (x : Int) + (c : Int) := by omega
      have Hy := hid (show x + c < 18446744073709551616 by omega)
      clear hp hp' hx'
      have hNM := below_sz qb hN (n := N) (m := wr.heap.size) rfl
      have h1 := has_pt wr x c
      have hs1 := sz_pt wr x c
      obtain ⟨q, eq⟩ : ∃ q, q = rootB v 3 (x + c) := ⟨_, rfl⟩
      rw [← eq] at hstep
      have HQ := hid eq
      clear eq
      cases q
      all_goals go_wp2_with (first
        | (go_at_call 63; refine (below_cub (x + c) v Hy.out hv w3 M M3 hM3 h4).mono ?_; rintro e w4 ⟨rfl, hb4⟩; rw [← HQ.out])
        | (go_at_call 62; refine (times_cub (x + c) Hy.out w2 (wr.heap.size + 1) wr.heap.size M hM h2 h3).mono ?_; rintro e w3 ⟨rfl, hb3, h4⟩; obtain ⟨M3, hM3⟩ := sz_some w3; have hMM3 := below_sz hb3 hM hM3)
        | (go_at_call 62; refine (times_sqr (x + c) Hy.out _ wr.heap.size (wr.heap.size + 1) hs1 h1).mono ?_; rintro e w2 ⟨rfl, hb2, h2⟩; obtain ⟨M, hM⟩ := sz_some w2; have hMM := below_sz hb2 hs1 hM; have h3 := h1.below hb2 (Nat.lt_succ_self _))
        | fail)
      all_goals exact ⟨⟨m + 1, by omega, congrArg (Value.int .i64) (by omega), by rw [hstep.out]; rfl, (((qb.alloc hNM _).trans (hb2.mono (by omega))).trans (hb3.mono (by omega))).trans (hb4.mono (by omega))⟩, by simp [intOf]⟩
    · obtain rfl : m = 37 := by omega
      have hl : rootX v 3 37 < 137438953472 := by (have : 0 < 2 ^ (37 - 37) := by decide); omega
      have he := hid (show rootS v 3 = rootX v 3 37 % 4294967296 from rfl)
      generalize rootX v 3 37 = x at *
      rw [show U64 x = .int .u64 (x : Int) from rfl]
      clear hx
      have hx0 : (0 : Int) ≤ (x : Int) := by omega
      have hw : IntKind.u32.wrap ((x : Int) % 4294967296) = (x : Int) % 4294967296 := IntWalk.u32_in _ (by omega)
      go_wp2_with fail
      go_ret
      exact ⟨by rw [he.out]; rfl, qb⟩
set_option maxRecDepth 100000 in
set_option maxHeartbeats 1000000 in
theorem root2_any (v : Nat) (hv : v < 4294967296) (w : World) (N : Nat) (hN : Sz w N) :
    Calls Tryd.prog 52 #[.int .u64 (v : Int), .int .i64 2] w fun e w' => e = .returned (.int .u32 ((rootS v 2 : Nat) : Int)) ∧ Below N w w' := by
  go_enter Tryd.func52, Tryd.ntmps52
  go_wp2_with fail
  go_loopw [5, 6] (fun x i wr => ∃ m : Nat, m ≤ 37 ∧ i = .int .i64 (36 - (m : Int)) ∧ x = U64 (rootX v 2 m) ∧ Below N w wr)
    (fun _ i _ => (intOf i + 1).toNat)
  case atStart => exact ⟨0, by omega, rfl, rfl, Below.refl N w⟩
  case round =>
    obtain ⟨m, hm, rfl, rfl, qb⟩ := hrel
    have hx := rootX_lt v 2 m hm
    by_cases hlt : m < 37
    · obtain ⟨b, eb⟩ : ∃ b, b = 36 - m := ⟨_, rfl⟩
      have hb : b ≤ 36 := by omega
      have e1 : 36 - (m : Int) = (b : Int) := by omega
      rw [e1]
      have hb0 : (0 : Int) ≤ (b : Int) := by omega
      have hst : ((b : Int)).toNat = b := by omega
      obtain ⟨hp, hp'⟩ := shl_one b hb
      obtain ⟨c, ec⟩ : ∃ c, c = 2 ^ b := ⟨_, rfl⟩
      rw [← ec] at hp hp'
      obtain ⟨x, ex⟩ : ∃ x, x = rootX v 2 m := ⟨_, rfl⟩
      have hx' : x ≤ 137438953472 := by rw [ex]; have : 0 < 2 ^ (37 - m) := Nat.pow_pos (by omega); omega
      have hstep := hid (show rootX v 2 (m + 1) = if rootB v 2 (x + c) then x + c else x by rw [ex, ec, eb]; rfl)
      rw [← ex, show U64 x = .int .u64 (x : Int) from rfl]
      clear ex ec eb hx
      have hw : IntKind.u64.wrap ((2 : Int) ^ b) = (c : Int) := by rw [hp]; exact IntWalk.u64_in _ (by omega)
      have hw2 : IntKind.u64.wrap ((x : Int) + (c : Int)) = (x : Int) + (c : Int) := IntWalk.u64_in _ (by omega)
      have hy0 : (0 : Int) ≤ (x : Int) + (c : Int) := by omega
      have Hy := hid (show x + c < 18446744073709551616 by omega)
      clear hp hp' hx'
      have hNM := below_sz qb hN (n := N) (m := wr.heap.size) rfl
      have h1 := has_pt wr x c
      have hs1 := sz_pt wr x c
      obtain ⟨q, eq⟩ : ∃ q, q = rootB v 2 (x + c) := ⟨_, rfl⟩
      rw [← eq] at hstep
      have HQ := hid eq
      clear eq
      cases q
      all_goals go_wp2_with (first
        | (go_at_call 63; refine (below_sqr (x + c) v Hy.out hv w2 (wr.heap.size + 1) M hM h2).mono ?_; rintro e w4 ⟨rfl, hb4⟩; rw [← HQ.out])
        | (go_at_call 62; refine (times_sqr (x + c) Hy.out _ wr.heap.size (wr.heap.size + 1) hs1 h1).mono ?_; rintro e w2 ⟨rfl, hb2, h2⟩; obtain ⟨M, hM⟩ := sz_some w2; have hMM := below_sz hb2 hs1 hM; have h3 := h1.below hb2 (Nat.lt_succ_self _))
        | fail)
      all_goals exact ⟨⟨m + 1, by omega, congrArg (Value.int .i64) (by omega), by rw [hstep.out]; rfl, ((qb.alloc hNM _).trans (hb2.mono (by omega))).trans (hb4.mono (by omega))⟩, by simp [intOf]⟩
    · obtain rfl : m = 37 := by omega
      have hl : rootX v 2 37 < 137438953472 := by (have : 0 < 2 ^ (37 - 37) := by decide); omega
      have he := hid (show rootS v 2 = rootX v 2 37 % 4294967296 from rfl)
      generalize rootX v 2 37 = x at *
      rw [show U64 x = .int .u64 (x : Int) from rfl]
      clear hx
      have hx0 : (0 : Int) ≤ (x : Int) := by omega
      have hw : IntKind.u32.wrap ((x : Int) % 4294967296) = (x : Int) % 4294967296 := IntWalk.u32_in _ (by omega)
      go_wp2_with fail
      go_ret
      exact ⟨by rw [he.out]; rfl, qb⟩
end Go.Proofs.YtcampjgemedhlaaDoor
namespace Go.Proofs.YtcampjgemedhlaaDoor
open Go Go.RowKit Sha
/-- The first sixty-four. -/
def PL : List Nat := [2, 3, 5, 7, 11, 13, 17, 19, 23, 29, 31, 37, 41, 43, 47, 53, 59, 61, 67, 71, 73, 79, 83, 89, 97, 101, 103, 107, 109, 113, 127, 131, 137, 139, 149, 151, 157, 163, 167, 173, 179, 181, 191, 193, 197, 199, 211, 223, 227, 229, 233, 239, 241, 251, 257, 263, 269, 271, 277, 281, 283, 293, 307, 311]
def pm (j : Nat) : Nat := PL.getD j 1
/-- How many are below. -/
def cnt (p : Nat) : Nat := (PL.filter (· < p)).length
/-- Does none of the first k divide it? -/
def nod (p : Nat) : Nat → Bool
  | 0 => true
  | k + 1 => nod p k && p % pm k != 0
theorem cnt_facts : ∀ p : Nat, p < 312 → 2 ≤ p → cnt p < 64 ∧ (nod p (cnt p) = true → cnt (p + 1) = cnt p + 1 ∧ pm (cnt p) = p) ∧ (nod p (cnt p) = false → cnt (p + 1) = cnt p) := by decide +kernel
theorem cnt_end : cnt 312 = 64 ∧ cnt 2 = 0 := by decide +kernel
theorem pm_pos : ∀ j : Nat, j < 64 → 2 ≤ pm j ∧ pm j < 312 := by decide +kernel
theorem rem_said (p m : Nat) (b : Bool) (h : ((p : Int) % (m : Int) == 0) = b) : (p % m != 0) = !b := by
  rw [← h, ← Int.natCast_emod]
  generalize p % m = r
  cases r <;> simp <;> omega
set_option maxRecDepth 100000 in
set_option maxHeartbeats 1000000 in
theorem primes_any (w : World) (N : Nat) (hN : Sz w N) :
    Calls Tryd.prog 51 #[.int .i64 64] w fun e w' => ∃ pt ct, e = .returned (.slice pt 64 ct) ∧ Below N w w' ∧ Own w' 31 pt 64 ct (fun j => U64 (pm j)) ∧ (∀ g, blk pt = some g → N ≤ g) := by
  go_enter Tryd.func51, Tryd.ntmps51
  go_wp2_with fail
  go_loopw [3, 4] (fun s i wr => ∃ (p : Nat) (pt : Option Addr) (ct : Nat), 2 ≤ p ∧ p ≤ 312 ∧ i = U64 p ∧ s = .slice pt (cnt p) ct ∧ Own wr 31 pt (cnt p) ct (fun j => U64 (pm j)) ∧ Below N w wr ∧ (∀ g, blk pt = some g → N ≤ g))
    (fun _ i _ => 312 - (intOf i).toNat)
  case atStart => exact ⟨2, none, 0, by omega, by omega, rfl, by rw [cnt_end.2], by rw [cnt_end.2]; exact Own.nil _ _ _, Below.refl N w, fun g hg => by simp [blk] at hg⟩
  case round =>
    obtain ⟨p, pt, ct, hp2, hp3, rfl, rfl, ho, qb, hpt⟩ := hrel
    by_cases hlt : p < 312
    · obtain ⟨c1, c2, c3⟩ := cnt_facts p hlt hp2
      have C2 := hid c2
      have C3 := hid c3
      clear c2 c3
      obtain ⟨n, en⟩ : ∃ n, n = cnt p := ⟨_, rfl⟩
      rw [← en] at c1 ho ⊢
      have EN := hid en
      clear en
      rw [show U64 p = .int .u64 (p : Int) from rfl]
      have hn : (n : Int) < 64 := by omega
      go_wp2_with fail
      go_loopw [5, 6] (fun f i wx => ∃ k : Nat, k ≤ n ∧ i = .int .i64 k ∧ f = .bool (nod p k) ∧ Own wx 31 pt n ct (fun j => U64 (pm j)) ∧ Below N w wx)
        (fun _ i _ => n - (intOf i).toNat)
      case atStart => exact ⟨0, by omega, rfl, rfl, ho, qb⟩
      case round =>
        clear ho qb
        obtain ⟨k, hk, rfl, rfl, ho, qb⟩ := hrel
        by_cases hlk : k < n
        · obtain ⟨g, rfl, hc⟩ := ho.cell (by omega)
          have ck := hc k hlk
          rw [Nat.zero_add] at ck
          obtain ⟨m1, m2⟩ := pm_pos k (by omega)
          have hstep := hid (show nod p (k + 1) = (nod p k && p % pm k != 0) from rfl)
          obtain ⟨m, em⟩ : ∃ m, m = pm k := ⟨_, rfl⟩
          rw [← em] at ck m1 m2 hstep
          clear em hc
          unfold U64 at ck
          have hk0 : (0 : Int) ≤ (k : Int) := by omega
          have hkn : (k : Int) < (n : Int) := by omega
          have hm0 : ¬ ((m : Int) = 0) := by omega
          have hm1 : (0 : Int) < (m : Int) := by omega
          have hp0 : (0 : Int) ≤ (p : Int) := by omega
          go_wp2_with fail
          all_goals
            rename_i hz
            have hr := rem_said p m _ hz
            exact ⟨⟨k + 1, by omega, by push_cast; rfl, by rw [hstep.out, hr]; simp, ho, qb⟩, by simp [intOf]; omega⟩
        · obtain rfl : k = n := by omega
          obtain ⟨q, eq⟩ : ∃ q, q = nod p k := ⟨_, rfl⟩
          rw [← eq]
          have EQ := hid eq
          clear eq
          cases q
          · have hc := hid (show cnt (p + 1) = k by rw [EN.out]; exact C3.out (by rw [← EN.out]; exact EQ.out.symm))
            have hw : IntKind.u64.wrap ((p : Int) + 1) = (p : Int) + 1 := IntWalk.u64_in _ (by omega)
            go_wp2_with fail
            exact ⟨⟨p + 1, pt, ct, by omega, by omega, rfl, by rw [hc.out], by rw [hc.out]; exact ho, qb, hpt⟩, by simp [intOf]; omega⟩
          · obtain ⟨d1, d2⟩ := C2.out (by rw [← EN.out]; exact EQ.out.symm)
            rw [← EN.out] at d1 d2
            have hc := hid d1
            have hd := hid d2
            clear d1 d2
            have hw : IntKind.u64.wrap ((p : Int) + 1) = (p : Int) + 1 := IntWalk.u64_in _ (by omega)
            go_wp2_with (first
              | (refine wpl_app rfl (.tmp 27) (.tmp 29) 87 rfl 31 und87 one31 pt k ct rfl _ (ho.alloc _) _ 1 1 rfl (fun _ => U64 p) (has_new rfl 31 1 (fun _ => U64 p)).cells (fun _ _ => rfl) (by omega) ?_; intro p7 c7 w7 o7 g7 k7 n7)
              | fail)
            have hN7 : N ≤ wr.heap.size := below_le qb hN
            have b7 := g7.below (qb.alloc hN7 _) (by show N ≤ (wr.heap.push _).size; simp; omega) (fun g hg => hpt g hg)
            have hp7 := ge_step hpt k7 (by show N ≤ (wr.heap.push _).size; simp; omega)
            refine ⟨⟨p + 1, p7, c7, by omega, by omega, rfl, by rw [hc.out], ?_, b7, hp7⟩, by simp [intOf]; omega⟩
            rw [hc.out]
            exact o7.congr fun j hj => by
              simp only [cat]
              split
              · rfl
              · rw [show j = k from by omega, hd.out]
    · obtain rfl : p = 312 := by omega
      rw [cnt_end.1] at ho ⊢
      go_wp2_with fail
      go_ret
      exact ⟨pt, ct, rfl, qb, ho, hpt⟩
end Go.Proofs.YtcampjgemedhlaaDoor
