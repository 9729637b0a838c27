/- root of the document's answer for layer 1. -/
import Derived.Test.YtneffelpdaigoaaDoorRef4
import Derived.Great.BuildSlice
namespace Go.Proofs.YtneffelpdaigoaaDoor
open Go Go.RowKit Sha
/-- A slice that is built of its cells. -/
theorem wpl_lits {P : Program} {ops : Array Oper} {rest : List Oper} {o : Oper} {a : Act} {w : World} {Q : Exit → Act → World → Prop} (hgd : o.guard = none) (T E : TypeId) (len : Nat) (parts : Array (Nat × Operand)) (ho : o.op = .buildSlice T len parts) (f : Nat → Value) (k : Nat) (z : Value)
    (ht : P.underlying T = some (.slice E)) (hi : (P.info? E).map (fun i => (i.zero, i.size, i.bytes)) = some (some z, 1, k)) (hl : 0 < len) (hl' : len ≤ 1000)
    (hf : Instr.fill (fun i => some (i * 1, 1)) ((Array.range (len * 1)).map (z.cells[· % z.cells.size]!)) (parts.map fun (i, x) => (i, a.eval x)).toList = some (cellsOf f len))
    (N : Nat) (hN : Sz w N) (h : ∀ w1, Sz w1 (N + 1) → Below N w w1 → Has w1 N E len f → wpList P ops Q rest (a.put o.dst (.slice (some ⟨N, 0, none⟩) len len)) w1) : wpList P ops Q (o :: rest) a w := by
  cases hq : P.info? E with
  | none => simp [hq] at hi
  | some i =>
    simp [hq] at hi
    obtain ⟨h1, h2, h3⟩ := hi
    have e : w.heap.size = N := hN
    refine wpList_buildSlice hgd T E len parts ho (cellsOf f len) i z ht hq h1 (by rw [h2]; omega) (by rw [h2]; omega) (by rw [h2]; exact hf) ?_
    rw [e]
    exact h _ (sz_alloc hN _) (below_new w _ N hN) (has_new hN E len f)
/-- So many steps of a root: from 2^36 down. -/
def rootB (v power y : Nat) : Bool := if power = 3 then decide (y * y * y ≤ v * 4294967296 ^ 3) else decide (y * y ≤ v * 4294967296 ^ 2)
def rootX (v power : Nat) : Nat → Nat
  | 0 => 0
  | m + 1 => if rootB v power (rootX v power m + 2 ^ (36 - m)) then rootX v power m + 2 ^ (36 - m) else rootX v power m
def rootS (v power : Nat) : Nat := rootX v power 37 % 4294967296
theorem rootX_lt (v power : Nat) : ∀ m, m ≤ 37 → rootX v power m + 2 ^ (37 - m) ≤ 2 ^ 37
  | 0, _ => by simp [rootX]
  | m + 1, h => by
    have ih := rootX_lt v power m (by omega)
    have e : 2 ^ (37 - m) = 2 * 2 ^ (36 - m) := by rw [show 37 - m = (36 - m) + 1 from by omega, Nat.pow_succ, Nat.mul_comm]
    rw [show 37 - (m + 1) = 36 - m from by omega]
    simp only [rootX]
    split <;> omega
theorem shl_one (b : Nat) (hb : b ≤ 36) : (2 : Int) ^ b = ((2 ^ b : Nat) : Int) ∧ 2 ^ b ≤ 68719476736 := ⟨by push_cast; rfl, by
  have : 2 ^ b ≤ 2 ^ 36 := Nat.pow_le_pow_right (by omega) hb
  omega⟩
theorem sz_pt (w : World) (x c : Nat) : Sz (w.alloc (Obj.cells #[Value.int IntKind.u64 (((x : Int) + (c : Int)) % 4294967296), Value.int IntKind.u64 (((x : Int) + (c : Int)) / 4294967296)] 31)) (w.heap.size + 1) := sz_alloc rfl _
theorem has_pt (w : World) (x c : Nat) : Has (w.alloc (Obj.cells #[Value.int IntKind.u64 (((x : Int) + (c : Int)) % 4294967296), Value.int IntKind.u64 (((x : Int) + (c : Int)) / 4294967296)] 31)) w.heap.size 31 2 (fun j => U64 (pt (x + c) j)) :=
  (has_new (w := w) rfl 31 2 (fun j => if j = 0 then .int .u64 (((x : Int) + (c : Int)) % 4294967296) else .int .u64 (((x : Int) + (c : Int)) / 4294967296))).congr fun j _ => by
    unfold pt U64
    split
    · exact congrArg (Value.int .u64) (by rw [Int.natCast_emod, Int.natCast_add]; rfl)
    · exact congrArg (Value.int .u64) (by rw [Int.natCast_ediv, Int.natCast_add]; rfl)
/-- The cube's parts, the square's. -/
def sqr (y : Nat) : Nat → Nat := tOut (pt y) (pt y) 2 2
def cub (y : Nat) : Nat → Nat := tOut (sqr y) (pt y) 2 4
theorem sqr_lt (y : Nat) (h : y < 18446744073709551616) (k : Nat) : sqr y k < 4294967296 := tOut_lt (pt y) (pt y) 2 2 (fun k _ => pt_lt y h k) (fun k _ => pt_lt y h k) 2 (Nat.le_refl 2) k
theorem times_sqr (y : Nat) (h : y < 18446744073709551616) (w : World) (b N : Nat) (hN : Sz w N) (hb : Has w b 31 2 (fun j => U64 (pt y j))) :
    Calls Tryd.prog 62 #[.slice (some ⟨b, 0, none⟩) 2 2, .slice (some ⟨b, 0, none⟩) 2 2] w fun e w' => e = .returned (.slice (some ⟨N, 0, none⟩) 4 4) ∧ Below N w w' ∧ Has w' N 31 4 (fun j => U64 (sqr y j)) :=
  times_any (some ⟨b, 0, none⟩) (some ⟨b, 0, none⟩) 2 2 2 2 (pt y) (pt y) w N hN hb.ats hb.ats (by omega) (by omega) (by omega) (by omega) (fun k _ => pt_lt y h k) (fun k _ => pt_lt y h k)
theorem times_cub (y : Nat) (h : y < 18446744073709551616) (w : World) (a b N : Nat) (hN : Sz w N) (ha : Has w a 31 4 (fun j => U64 (sqr y j))) (hb : Has w b 31 2 (fun j => U64 (pt y j))) :
    Calls Tryd.prog 62 #[.slice (some ⟨a, 0, none⟩) 4 4, .slice (some ⟨b, 0, none⟩) 2 2] w fun e w' => e = .returned (.slice (some ⟨N, 0, none⟩) 6 6) ∧ Below N w w' ∧ Has w' N 31 6 (fun j => U64 (cub y j)) :=
  times_any (some ⟨a, 0, none⟩) (some ⟨b, 0, none⟩) 4 4 2 2 (sqr y) (pt y) w N hN ha.ats hb.ats (by omega) (by omega) (by omega) (by omega) (fun k _ => sqr_lt y h k) (fun k _ => pt_lt y h k)
theorem below_cub (y v : Nat) (h : y < 18446744073709551616) (hv : v < 4294967296) (w : World) (a N : Nat) (hN : Sz w N) (ha : Has w a 31 6 (fun j => U64 (cub y j))) :
    Calls Tryd.prog 63 #[.slice (some ⟨a, 0, none⟩) 6 6, .int .u64 (v : Int), .int .i64 3] w fun e w' => e = .returned (.bool (rootB v 3 y)) ∧ Below N w w' :=
  (below_any (some ⟨a, 0, none⟩) 6 6 v 3 (cub y) w N hN ha.ats (by omega) (by omega)).mono (fun e w' k => ⟨k.1.trans (congrArg (fun b => Ending.returned (.bool b)) (cube_said y v h hv)), k.2⟩)
theorem below_sqr (y v : Nat) (h : y < 18446744073709551616) (hv : v < 4294967296) (w : World) (a N : Nat) (hN : Sz w N) (ha : Has w a 31 4 (fun j => U64 (sqr y j))) :
    Calls Tryd.prog 63 #[.slice (some ⟨a, 0, none⟩) 4 4, .int .u64 (v : Int), .int .i64 2] w fun e w' => e = .returned (.bool (rootB v 2 y)) ∧ Below N w w' :=
  (below_any (some ⟨a, 0, none⟩) 4 4 v 2 (sqr y) w N hN ha.ats (by omega) (by omega)).mono (fun e w' k => ⟨k.1.trans (congrArg (fun b => Ending.returned (.bool b)) (square_said y v h hv)), k.2⟩)
set_option maxRecDepth 100000 in
set_option maxHeartbeats 1000000 in
theorem root3_any (v : Nat) (hv : v < 4294967296) (w : World) (N : Nat) (hN : Sz w N) :
    Calls Tryd.prog 52 #[.int .u64 (v : Int), .int .i64 3] w fun e w' => e = .returned (.int .u32 ((rootS v 3 : Nat) : Int)) ∧ Below N w w' := by
  go_enter Tryd.func52, Tryd.ntmps52
  go_wp2_with fail
  go_loopw [5, 6] (fun x i wr => ∃ m : Nat, m ≤ 37 ∧ i = .int .i64 (36 - (m : Int)) ∧ x = U64 (rootX v 3 m) ∧ Below N w wr)
    (fun _ i _ => (intOf i + 1).toNat)
  case atStart => exact ⟨0, by omega, rfl, rfl, Below.refl N w⟩
  case round =>
    obtain ⟨m, hm, rfl, rfl, qb⟩ := hrel
    have hx := rootX_lt v 3 m hm
    by_cases hlt : m < 37
    · obtain ⟨b, eb⟩ : ∃ b, b = 36 - m := ⟨_, rfl⟩
      have hb : b ≤ 36 := by omega
      have e1 : 36 - (m : Int) = (b : Int) := by omega
      rw [e1]
      have hb0 : (0 : Int) ≤ (b : Int) := by omega
      have hst : ((b : Int)).toNat = b := by omega
      obtain ⟨hp, hp'⟩ := shl_one b hb
      obtain ⟨c, ec⟩ : ∃ c, c = 2 ^ b := ⟨_, rfl⟩
      rw [← ec] at hp hp'
      obtain ⟨x, ex⟩ : ∃ x, x = rootX v 3 m := ⟨_, rfl⟩
      have hx' : x ≤ 137438953472 := by rw [ex]; have : 0 < 2 ^ (37 - m) := Nat.pow_pos (by omega); omega
      have hstep := hid (show rootX v 3 (m + 1) = if rootB v 3 (x + c) then x + c else x by rw [ex, ec, eb]; rfl)
      rw [← ex, show U64 x = .int .u64 (x : Int) from rfl]
      clear ex ec eb hx
      have hw : IntKind.u64.wrap ((2 : Int) ^ b) = (c : Int) := by rw [hp]; exact IntWalk.u64_in _ (by omega)
      have hw2 : IntKind.u64.wrap ((x : Int) + (c : Int)) = (x : Int) + (c : Int) := IntWalk.u64_in _ (by omega)
      have hy0 : (0 : Int) ≤ (x : Int) + (c : Int) := by omega
      have Hy := hid (show x + c < 18446744073709551616 by omega)
      clear hp hp' hx'
      have hNM := below_sz qb hN (n := N) (m := wr.heap.size) rfl
      have h1 := has_pt wr x c
      have hs1 := sz_pt wr x c
      obtain ⟨q, eq⟩ : ∃ q, q = rootB v 3 (x + c) := ⟨_, rfl⟩
      rw [← eq] at hstep
      have HQ := hid eq
      clear eq
      cases q
      all_goals go_wp2_with (first
        | (go_at_call 63; refine (below_cub (x + c) v Hy.out hv w3 M M3 hM3 h4).mono ?_; rintro e w4 ⟨rfl, hb4⟩; rw [← HQ.out])
        | (go_at_call 62; refine (times_cub (x + c) Hy.out w2 (wr.heap.size + 1) wr.heap.size M hM h2 h3).mono ?_; rintro e w3 ⟨rfl, hb3, h4⟩; obtain ⟨M3, hM3⟩ := sz_some w3; have hMM3 := below_sz hb3 hM hM3)
        | (go_at_call 62; refine (times_sqr (x + c) Hy.out _ wr.heap.size (wr.heap.size + 1) hs1 h1).mono ?_; rintro e w2 ⟨rfl, hb2, h2⟩; obtain ⟨M, hM⟩ := sz_some w2; have hMM := below_sz hb2 hs1 hM; have h3 := h1.below hb2 (Nat.lt_succ_self _))
        | fail)
      all_goals exact ⟨⟨m + 1, by omega, congrArg (Value.int .i64) (by omega), by rw [hstep.out]; rfl, (((qb.alloc hNM _).trans (hb2.mono (by omega))).trans (hb3.mono (by omega))).trans (hb4.mono (by omega))⟩, by simp [intOf]⟩
    · obtain rfl : m = 37 := by omega
      have hl : rootX v 3 37 < 137438953472 := by (have : 0 < 2 ^ (37 - 37) := by decide); omega
      have he := hid (show rootS v 3 = rootX v 3 37 % 4294967296 from rfl)
      generalize rootX v 3 37 = x at *
      rw [show U64 x = .int .u64 (x : Int) from rfl]
      clear hx
      have hx0 : (0 : Int) ≤ (x : Int) := by omega
      have hw : IntKind.u32.wrap ((x : Int) % 4294967296) = (x : Int) % 4294967296 := IntWalk.u32_in _ (by omega)
      go_wp2_with fail
      go_ret
      exact ⟨by rw [he.out]; rfl, qb⟩
set_option maxRecDepth 100000 in
set_option maxHeartbeats 1000000 in
theorem root2_any (v : Nat) (hv : v < 4294967296) (w : World) (N : Nat) (hN : Sz w N) :
    Calls Tryd.prog 52 #[.int .u64 (v : Int), .int .i64 2] w fun e w' => e = .returned (.int .u32 ((rootS v 2 : Nat) : Int)) ∧ Below N w w' := by
  go_enter Tryd.func52, Tryd.ntmps52
  go_wp2_with fail
  go_loopw [5, 6] (fun x i wr => ∃ m : Nat, m ≤ 37 ∧ i = .int .i64 (36 - (m : Int)) ∧ x = U64 (rootX v 2 m) ∧ Below N w wr)
    (fun _ i _ => (intOf i + 1).toNat)
  case atStart => exact ⟨0, by omega, rfl, rfl, Below.refl N w⟩
  case round =>
    obtain ⟨m, hm, rfl, rfl, qb⟩ := hrel
    have hx := rootX_lt v 2 m hm
    by_cases hlt : m < 37
    · obtain ⟨b, eb⟩ : ∃ b, b = 36 - m := ⟨_, rfl⟩
      have hb : b ≤ 36 := by omega
      have e1 : 36 - (m : Int) = (b : Int) := by omega
      rw [e1]
      have hb0 : (0 : Int) ≤ (b : Int) := by omega
      have hst : ((b : Int)).toNat = b := by omega
      obtain ⟨hp, hp'⟩ := shl_one b hb
      obtain ⟨c, ec⟩ : ∃ c, c = 2 ^ b := ⟨_, rfl⟩
      rw [← ec] at hp hp'
      obtain ⟨x, ex⟩ : ∃ x, x = rootX v 2 m := ⟨_, rfl⟩
      have hx' : x ≤ 137438953472 := by rw [ex]; have : 0 < 2 ^ (37 - m) := Nat.pow_pos (by omega); omega
      have hstep := hid (show rootX v 2 (m + 1) = if rootB v 2 (x + c) then x + c else x by rw [ex, ec, eb]; rfl)
      rw [← ex, show U64 x = .int .u64 (x : Int) from rfl]
      clear ex ec eb hx
      have hw : IntKind.u64.wrap ((2 : Int) ^ b) = (c : Int) := by rw [hp]; exact IntWalk.u64_in _ (by omega)
      have hw2 : IntKind.u64.wrap ((x : Int) + (c : Int)) = (x : Int) + (c : Int) := IntWalk.u64_in _ (by omega)
      have hy0 : (0 : Int) ≤ (x : Int) + (c : Int) := by omega
      have Hy := hid (show x + c < 18446744073709551616 by omega)
      clear hp hp' hx'
      have hNM := below_sz qb hN (n := N) (m := wr.heap.size) rfl
      have h1 := has_pt wr x c
      have hs1 := sz_pt wr x c
      obtain ⟨q, eq⟩ : ∃ q, q = rootB v 2 (x + c) := ⟨_, rfl⟩
      rw [← eq] at hstep
      have HQ := hid eq
      clear eq
      cases q
      all_goals go_wp2_with (first
        | (go_at_call 63; refine (below_sqr (x + c) v Hy.out hv w2 (wr.heap.size + 1) M hM h2).mono ?_; rintro e w4 ⟨rfl, hb4⟩; rw [← HQ.out])
        | (go_at_call 62; refine (times_sqr (x + c) Hy.out _ wr.heap.size (wr.heap.size + 1) hs1 h1).mono ?_; rintro e w2 ⟨rfl, hb2, h2⟩; obtain ⟨M, hM⟩ := sz_some w2; have hMM := below_sz hb2 hs1 hM; have h3 := h1.below hb2 (Nat.lt_succ_self _))
        | fail)
      all_goals exact ⟨⟨m + 1, by omega, congrArg (Value.int .i64) (by omega), by rw [hstep.out]; rfl, ((qb.alloc hNM _).trans (hb2.mono (by omega))).trans (hb4.mono (by omega))⟩, by simp [intOf]⟩
    · obtain rfl : m = 37 := by omega
      have hl : rootX v 2 37 < 137438953472 := by (have : 0 < 2 ^ (37 - 37) := by decide); omega
      have he := hid (show rootS v 2 = rootX v 2 37 % 4294967296 from rfl)
      generalize rootX v 2 37 = x at *
      rw [show U64 x = .int .u64 (x : Int) from rfl]
      clear hx
      have hx0 : (0 : Int) ≤ (x : Int) := by omega
      have hw : IntKind.u32.wrap ((x : Int) % 4294967296) = (x : Int) % 4294967296 := IntWalk.u32_in _ (by omega)
      go_wp2_with fail
      go_ret
      exact ⟨by rw [he.out]; rfl, qb⟩
end Go.Proofs.YtneffelpdaigoaaDoor
