/- What sum of the document's answer for layer 1 keeps; two laws on slices. sum of the document's answer for layer 1. -/
import Derived.Test.YtcampjgemedhlaaDoorRef7
import Derived.Test.YtcampjgemedhlaaDoorKeysA
import Derived.Test.YtcampjgemedhlaaDoorQTail
namespace Go.Proofs.YtcampjgemedhlaaDoor
open Go Go.RowKit Sha
theorem bytes_cells {w : World} {p : Option Addr} {n : Nat} {D : Nat → BitVec 8} (h : Bytes w p n D) : Cells w p n (fun j => By (D j)) := fun h0 => by
  obtain ⟨b, off, e, hc⟩ := h h0
  exact ⟨_, e, fun j hj => by rw [Addr.add_mid]; exact hc j hj⟩
/-- A slice literal without elements. -/
theorem wpl_lit0 {P : Program} {ops : Array Oper} {rest : List Oper} {o : Oper} {a : Act} {w : World} {Q : Exit → Act → World → Prop} (hgd : o.guard = none) (T E : TypeId) (ho : o.op = .buildSlice T 0 #[]) (ht : P.underlying T = some (.slice E)) (hs : (P.info? E).map (·.size) = some 1)
    (N : Nat) (hN : Sz w N) (f : Nat → Value) (h : ∀ w1, Sz w1 (N + 1) → Below N w w1 → Own w1 E (some ⟨N, 0, none⟩) 0 0 f → wpList P ops Q rest (a.put o.dst (.slice (some ⟨N, 0, none⟩) 0 0)) w1) : wpList P ops Q (o :: rest) a w := by
  cases hq : P.info? E with
  | none => simp [hq] at hs
  | some i =>
    have hi : i.size = 1 := by simpa [hq] using hs
    have e : w.heap.size = N := hN
    subst e
    have hz : Array.map (fun x : Nat => (default : Value)) (Array.range 0) = #[] := by simp
    refine wpl_run hgd (.slice (some ⟨w.heap.size, 0, none⟩) 0 0) (w.alloc (.cells #[] E)) ?_ (h _ (sz_alloc hN _) (below_new w _ _ hN) (.inr ⟨_, #[], rfl, heap_alloc_new w _, Nat.le_refl _, rfl, fun j hj => by omega⟩))
    unfold execOp
    simp [ho, Instr.buildSlice, Sem.run_bind, run_underlying ht, sizeOf, typeInfo, hq, hi, Instr.fill, newRow, run_newObj_alloc, hz]
/-- What sum keeps: the constants, the words so far, the result, the text with what stands behind it. -/
structure SumW (w : World) (N : Nat) (wr : World) (H : Nat → W32) (pt : Option Addr) (len ct : Nat) (E : Nat → BitVec 8) : Prop where
  k : Has wr N 36 64 (fun j => U (Kc j))
  h : Has wr (N + 1) 37 8 (fun j => U (H j))
  o : Has wr (N + 1 + 1) 23 32 (fun _ => By 0)
  m : Own wr 5 pt len ct (fun j => By (E j))
  b : Below N w wr
  p : ∀ g, blk pt = some g → N + 3 ≤ g
section
variable {w wr w' : World} {N : Nat} {H : Nat → W32} {pt : Option Addr} {len ct : Nat} {E : Nat → BitVec 8}
theorem SumW.lt (s : SumW w N wr H pt len ct E) : N + 2 < wr.heap.size := s.o.lt
theorem SumW.drewN (s : SumW w N wr H pt len ct E) (k : Nat) : SumW w N (wr.drewN k) H pt len ct E := ⟨s.k.drewN k, s.h.drewN k, s.o.drewN k, s.m.same (fun _ _ => rfl), below_drewN s.b k, s.p⟩
theorem SumW.drew (s : SumW w N wr H pt len ct E) : SumW w N wr.drew H pt len ct E := s.drewN 1
theorem SumW.touch (s : SumW w N wr H pt len ct E) {M : Nat} (t : Touch M wr w') (hM : N + 3 ≤ M) (hne : ∀ g, blk pt = some g → g ≠ M) : SumW w N w' H pt len ct E :=
  ⟨s.k.touch t (by omega), s.h.touch t (by omega), s.o.touch t (by omega), s.m.touch t hne, t.below s.b (by omega), s.p⟩
theorem SumW.below (s : SumW w N wr H pt len ct E) {B : Nat} (t : Below B wr w') (hB : wr.heap.size ≤ B) : SumW w N w' H pt len ct E := by
  have := s.lt
  exact ⟨s.k.below t (by omega), s.h.below t (by omega), s.o.below t (by omega), s.m.below t hB, s.b.trans (t.mono (by omega)), s.p⟩
theorem SumW.turn (s : SumW w N wr H pt len ct E) {H' : Nat → W32} (t : Touch (N + 1) wr w') (h' : Has w' (N + 1) 37 8 (fun j => U (H' j))) : SumW w N w' H' pt len ct E :=
  ⟨s.k.touch t (by omega), h', s.o.touch t (by omega), s.m.touch t (fun g hg => by have := s.p g hg; omega), t.below s.b (by omega), s.p⟩
theorem SumW.congr (s : SumW w N wr H pt len ct E) {H' : Nat → W32} (e : ∀ j, j < 8 → H j = H' j) : SumW w N wr H' pt len ct E :=
  ⟨s.k, s.h.congr (fun j hj => by rw [e j hj]), s.o, s.m, s.b, s.p⟩
/-- More is appended. -/
theorem SumW.grew (s : SumW w N wr H pt len ct E) {pt' : Option Addr} {len' ct' : Nat} (g : Grew (blk pt) wr w') (m : Own w' 5 pt' len' ct' (fun j => By (E j))) (hp : blk pt' = blk pt ∨ blk pt' = some wr.heap.size) : SumW w N w' H pt' len' ct' E := by
  have hl := s.lt
  have hne : ∀ k, k ≤ N + 2 → some k ≠ blk pt := fun k hk e => by have := s.p k e.symm; omega
  exact ⟨s.k.grew g (hne _ (by omega)), s.h.grew g (hne _ (by omega)), s.o.grew g (hne _ (by omega)), m, g.below s.b (by omega) (fun b hb => by have := s.p b hb; omega), fun b hb => by
    rcases hp with e | e
    · exact s.p b (e ▸ hb)
    · rw [e, Option.some.injEq] at hb; omega⟩
theorem SumW.alloc (s : SumW w N wr H pt len ct E) (o : Obj) : SumW w N (wr.alloc o) H pt len ct E := s.below (below_new wr o _ rfl) (Nat.le_refl _)
end
end Go.Proofs.YtcampjgemedhlaaDoor
namespace Go.Proofs.YtcampjgemedhlaaDoor
open Go Go.RowKit Sha
theorem turn_z (x : W32) (z : Int) (hz : 1 ≤ z) (hz' : z ≤ 31) (w : World) :
    Calls Tryd.prog 67 #[.int .u32 (u x), .int .i64 z] w fun e w' => e = .returned (.int .u32 (u (rr x z.toNat))) ∧ ∃ k, w' = w.drewN k := by
  obtain ⟨n, rfl⟩ := Int.eq_ofNat_of_zero_le (show 0 ≤ z by omega)
  exact turn_any x n (by omega) (by omega) w
/-- The words of a block behind so many rounds. -/
def wS (B : Nat → BitVec 8) (x : Nat) : Nat → W32 := if x ≤ 16 then pw B (4 * x) else sc B (x - 16)
theorem wS_lo (B : Nat → BitVec 8) (x : Nat) (h : x ≤ 16) : wS B x = pw B (4 * x) := by unfold wS; rw [if_pos h]
theorem wS_hi (B : Nat → BitVec 8) (x : Nat) (h : 16 ≤ x) : wS B x = sc B (x - 16) := by
  unfold wS
  by_cases e : x ≤ 16
  · obtain rfl : x = 16 := by omega
    rw [if_pos e]; rfl
  · rw [if_neg e]
theorem not_u' (a : W32) : bits .xor .u32 (u a) 4294967295 = u (~~~a) := by
  have e : (4294967295 : Int) = u (BitVec.allOnes 32) := by decide
  rw [e, xor_u, BitVec.xor_allOnes]
theorem t1_form (S : S8) (k w : W32) : ((u S.h + bits BinOp.xor IntKind.u32 (bits BinOp.xor IntKind.u32 (u (rr S.e 6)) (u (rr S.e 11))) (u (rr S.e 25)) +
      bits BinOp.xor IntKind.u32 (bits BinOp.and IntKind.u32 (u S.e) (u S.f)) (bits BinOp.and IntKind.u32 (bits BinOp.xor IntKind.u32 (u S.e) 4294967295) (u S.g)) + u k) % 4294967296 + u w) % 4294967296 = u (t1 S k w) := by
  rw [not_u', mod_u]
  simp only [xor_u, and_u, BitVec.ofInt_add, ofInt_u, ofInt_mod]
  rfl
theorem word8 (S : S8) (k w : W32) : Value.agg #[.int .u32 ((u (t1 S k w) + u (t2 S)) % 4294967296), .int .u32 (u S.a), .int .u32 (u S.b), .int .u32 (u S.c), .int .u32 ((u S.d + u (t1 S k w)) % 4294967296), .int .u32 (u S.e), .int .u32 (u S.f), .int .u32 (u S.g)] = .agg (cellsOf (fun j => U ((round S k w).word j)) 8) := by
  simp only [add_u]; rfl
/-- So many words are summed. -/
def upTo (H : Nat → W32) (S : S8) (i : Nat) : Nat → W32 := fun j => if j < i then H j + S.word j else H j
theorem own_byte {w : World} (v : Int) (x : BitVec 8) (hv : v = v8 x) (t : TypeId) : Cells (w.alloc (.cells #[.int .u8 v] t)) (some ⟨w.heap.size, 0, none⟩) 1 (fun _ => By x) := by
  subst hv; exact (has_new (w := w) rfl t 1 (fun _ => By x)).cells
theorem be8_top (n s : Nat) (h : s ≤ 7) : 8 * (n : Int) / 2 ^ (8 * (7 - s)) % 256 = v8 (be8 (8 * n) s) := by
  rw [v8_be8, show 8 * (7 - s) = 56 - 8 * s from by omega]; simp
set_option maxRecDepth 100000 in
set_option maxHeartbeats 1000000 in
theorem sum_any (p : Option Addr) (n cap : Nat) (D : Nat → BitVec 8) (w : World) (N : Nat) (hN : Sz w N) (hcap : n ≤ cap) (hn : n ≤ 900000) (hD : Bytes w p n D) (b : Nat) (hb : b = (n + 72) / 64) :
    Calls Tryd.prog 61 #[.slice p n cap, .agg (cellsOf (fun j => U (Kc j)) 64), .agg (cellsOf (fun j => U (Hc j)) 8)] w fun e w' => e = .returned (.agg (cellsOf (fun j => By (wordByte (Hb (padB D n b) b) j)) 32)) ∧ Below N w w' := by
  obtain ⟨z, hz⟩ : ∃ z, z = 64 * b - 9 - n := ⟨_, rfl⟩
  have hz1 : n + 1 + z + 8 = 64 * b := by omega
  have hz2 : z < 64 := by omega
  have hb2 : b ≤ 20000 := by omega
  clear hz hb
  have HZ := hid hz1
  go_enter Tryd.func61, Tryd.ntmps61
  go_wp2_with (first
    | (refine wpl_box rfl 36 (.tmp 1) rfl 64 _ rfl N hN ?_; intro w1 hN1 hb1 h1)
    | (refine wpl_box rfl 37 (.tmp 2) rfl 8 _ rfl (N + 1) hN1 ?_; intro w2 hN2 hb2 h2)
    | (refine wpl_alloc rfl 23 rfl 32 _ zer23 (N + 1 + 1) hN2 ?_; intro w3 hN3 hb3 h3)
    | (refine wpl_lit0 rfl 22 5 rfl und22 inf5 (N + 1 + 1 + 1) hN3 (fun j => By (padB D n b j)) ?_; intro w4 hN4 hb4 h4; have hD4 := ((hD.below hN hb1).below hN1 hb2).below hN2 hb3 |>.below hN3 hb4)
    | (refine wpl_app rfl (.tmp 24) (.tmp 25) 22 rfl 5 und22 one5 _ 0 0 rfl _ h4 p n cap rfl (fun j => By (D j)) (bytes_cells hD4) (fun _ _ => rfl) (by omega) ?_; intro p5 c5 w5 o5 g5 k5 n5; rw [Nat.zero_add] at o5)
    | (refine wpl_app rfl (.tmp 26) (.tmp 27) 22 rfl 5 und22 one5 p5 n c5 rfl _ (o5.alloc _) _ 1 1 rfl (fun _ => By 0x80) (has_new rfl 5 1 (fun _ => By 0x80)).cells (fun _ _ => rfl) (by omega) ?_; intro p6 c6 w6 o6 g6 k6 n6)
    | fail)
  have s4 : SumW w N w4 Hc (some ⟨N + 1 + 1 + 1, 0, none⟩) 0 0 (padB D n b) :=
    ⟨((h1.below hb2 (by omega)).below hb3 (by omega)).below hb4 (by omega), (h2.below hb3 (by omega)).below hb4 (by omega), h3.below hb4 (by omega), h4, ((hb1.trans (hb2.mono (by omega))).trans (hb3.mono (by omega))).trans (hb4.mono (by omega)), fun g hg => by simp [blk] at hg; omega⟩
  have s5 : SumW w N w5 Hc p5 n c5 (padB D n b) := s4.grew g5 (o5.congr fun j hj => by simp only [cat]; rw [if_neg (by omega)]; unfold padB; rw [Nat.sub_zero, if_pos hj]) k5
  have s6 : SumW w N w6 Hc p6 (n + 1) c6 (padB D n b) := (s5.alloc _).grew g6 (o6.congr fun j hj => by
    simp only [cat]
    by_cases e : j < n
    · rw [if_pos e, if_neg (by omega), Nat.sub_zero]; unfold padB; rw [if_pos e]
    · rw [if_neg e]; unfold padB; rw [if_neg e, if_pos (by omega)]) k6
  clear h1 h2 h3 h4 hb1 hb2 hb3 hb4 o5 o6 g5 g6 k5 k6 n5 n6 s4 s5 hD4
  go_loopw [7] (fun m wr => ∃ (k : Nat) (pt : Option Addr) (ct : Nat), k ≤ z ∧ m = .slice pt (n + 1 + k) ct ∧ SumW w N wr Hc pt (n + 1 + k) ct (padB D n b))
    (fun m _ => n + 1 + z - lenOf m)
  case atStart => exact ⟨0, p6, c6, by omega, rfl, s6⟩
  case round =>
    clear s6
    obtain ⟨k, pt, ct, hk, rfl, s⟩ := hrel
    by_cases hlt : k < z
    · have hc : ((((n : Int) + 1 + (k : Int)) % 64) != 56) = true := by rw [bne_iff_ne]; have := HZ.out; omega
      go_wp2_with (first
        | (refine wpl_app rfl (.tmp 33) (.tmp 34) 22 rfl 5 und22 one5 pt (n + 1 + k) ct rfl _ (s.m.alloc _) _ 1 1 rfl (fun _ => By 0) (has_new rfl 5 1 (fun _ => By 0)).cells (fun _ _ => rfl) (by omega) ?_; intro p7 c7 w7 o7 g7 k7 n7)
        | fail)
      refine ⟨⟨k + 1, p7, c7, by omega, rfl, (s.alloc _).grew g7 (o7.congr fun j hj => ?_) k7⟩, by simp [lenOf]; omega⟩
      simp only [cat]
      by_cases e : j < n + 1 + k
      · rw [if_pos e]
      · rw [if_neg e]; unfold padB; rw [if_neg (by omega), if_neg (by omega), if_pos (by have := HZ.out; omega)]
    · obtain rfl : k = z := by omega
      have hc : ((((n : Int) + 1 + (k : Int)) % 64) != 56) = false := by rw [bne_eq_false_iff_eq]; have := HZ.out; omega
      go_wp2_with fail
      clear hc
      go_loopw [7, 8] (fun m i wr => ∃ (x : Nat) (pt : Option Addr) (ct : Nat), x ≤ 8 ∧ i = .int .i64 (7 - (x : Int)) ∧ m = .slice pt (n + 1 + k + x) ct ∧ SumW w N wr Hc pt (n + 1 + k + x) ct (padB D n b))
        (fun _ i _ => (intOf i + 1).toNat)
      case atStart => exact ⟨0, pt, ct, by omega, rfl, rfl, s⟩
      case round =>
        clear s
        obtain ⟨x, pt, ct, hx, rfl, rfl, s⟩ := hrel
        by_cases hlt : x < 8
        · have e1 : IntKind.u64.wrap (8 * (n : Int)) = 8 * (n : Int) := IntWalk.u64_in _ (by omega)
          have e2 : IntKind.u64.wrap (n : Int) = (n : Int) := IntWalk.u64_in _ (by omega)
          have e3 : IntKind.i64.wrap (8 * (7 - (x : Int))) = 8 * (7 - (x : Int)) := IntWalk.i64_in _ (by omega)
          have e4 : (0 : Int) ≤ 8 * (7 - (x : Int)) := by omega
          go_wp2_with (first
            | (refine wpl_app rfl (.tmp 40) (.tmp 49) 22 rfl 5 und22 one5 pt (n + 1 + k + x) ct rfl _ (s.m.alloc _) _ 1 1 rfl (fun _ => By (be8 (8 * n) x)) (own_byte _ (be8 (8 * n) x) (be8_top n x (by omega)) _) (fun _ _ => rfl) (by omega) ?_; intro p7 c7 w7 o7 g7 k7 n7)
            | fail)
          refine ⟨⟨x + 1, p7, c7, by omega, congrArg (Value.int .i64) (by omega), rfl, (s.alloc _).grew g7 (o7.congr fun j hj => ?_) k7⟩, by simp [intOf]; omega⟩
          simp only [cat]
          by_cases e : j < n + 1 + k + x
          · rw [if_pos e]
          · rw [if_neg e]; unfold padB; rw [if_neg (by omega), if_neg (by omega), if_neg (by have := HZ.out; omega), show j - (64 * b - 8) = x from by have := HZ.out; omega]
        · obtain rfl : x = 8 := by omega
          rw [hz1] at s
          have hcl : ct ≥ 64 * b := s.m.le
          go_wp2_with fail
          rw [hz1]
          clear hz1 hz2 HZ hk hx
          obtain ⟨E, eE⟩ : ∃ E, E = padB D n b := ⟨_, rfl⟩
          rw [← eE] at s
          have HE := hid eE
          clear eE
          rw [show (7 : Int) - ((8 : Nat) : Int) = -1 from rfl]
          go_loopw [9] (fun i wr => ∃ t : Nat, t ≤ b ∧ i = .int .i64 ((64 * t : Nat) : Int) ∧ SumW w N wr (Hb E t) pt (64 * b) ct E)
            (fun i _ => 64 * b - (intOf i).toNat)
          case atStart => exact ⟨0, by omega, rfl, s⟩
          case round =>
            clear s
            obtain ⟨t, ht, rfl, s⟩ := hrel
            by_cases hlt : t < b
            · obtain ⟨M, hM⟩ := sz_some wr
              have hltM := s.m.lt
              rw [show wr.heap.size = M from hM] at hltM
              have hNM : N + 3 ≤ M := by have := s.lt; rw [show wr.heap.size = M from hM] at this; omega
              obtain ⟨g, rfl, hcm⟩ := s.m.cell (by omega)
              have hgM := hltM g rfl
              clear hltM hcm
              obtain ⟨B, eB⟩ : ∃ B : Nat → BitVec 8, B = fun j => E (64 * t + j) := ⟨_, rfl⟩
              have HB := hid eB
              clear eB
              go_wp2_with (first
                | (refine wpl_alloc rfl 36 rfl 64 _ zer36 M hM ?_; intro w7 hM7 hb7 h7)
                | fail)
              have s7 := s.below hb7 (Nat.le_of_eq hM)
              clear s hb7 hM7
              go_loopw [11] (fun i wr => ∃ x : Nat, x ≤ 64 ∧ i = .int .i64 x ∧ Has wr M 36 64 (fun j => U (wS B x j)) ∧ SumW w N wr (Hb E t) (some ⟨g, 0, none⟩) (64 * b) ct E)
                (fun i _ => 64 - (intOf i).toNat)
              case atStart => exact ⟨0, by omega, rfl, h7, s7⟩
              case round =>
                clear h7 s7
                obtain ⟨x, hx, rfl, h7, s7⟩ := hrel
                by_cases hlt4 : x < 64
                · by_cases hlt16 : x < 16
                  · rw [wS_lo B x (by omega)] at h7
                    go_wp2_with fail
                    go_loopw [12] (fun i wr => ∃ y : Nat, y ≤ 4 ∧ i = .int .i64 y ∧ Has wr M 36 64 (fun j => U (pw B (4 * x + y) j)) ∧ SumW w N wr (Hb E t) (some ⟨g, 0, none⟩) (64 * b) ct E)
                      (fun i _ => 4 - (intOf i).toNat)
                    case atStart => exact ⟨0, by omega, rfl, h7, s7⟩
                    case round =>
                      clear h7 s7
                      obtain ⟨y, hy, rfl, h7, s7⟩ := hrel
                      by_cases hlty : y < 4
                      · have d1 : wr.cell? ⟨M, x, none⟩ = some (.int .u32 (u (pw B (4 * x + y) x))) := h7.cell (by omega)
                        have d2 : wr.cell? ⟨g, 64 * t + 4 * x + y, none⟩ = some (.int .u8 (v8 (E (64 * t + 4 * x + y)))) := s7.m.cell' _ (by omega)
                        have d3 : wr.frozen? ⟨M, x, none⟩ = false := h7.free x
                        go_wp2_with fail
                        go_region
                        have e1 : v8 (E (64 * t + 4 * x + y)) = v8 (B (4 * x + y)) := by rw [HB.out, Nat.add_assoc]
                        rw [e1]
                        clear d1 d2 d3 e1
                        go_wp2_with fail
                        go_roundw
                        case measure => simp [intOf]; omega
                        case rel =>
                          refine ⟨y + 1, by omega, by go_num, ?_, ?_⟩
                          · refine ((h7.set x _).congr (fun j _ => ?_)).drew
                            rw [← Nat.add_assoc]
                            simp only [upd, pw]
                            by_cases e : j = x
                            · subst e; rw [if_pos rfl, if_pos (by omega)]; exact int_congr (shl8_or _ _)
                            · rw [if_neg e, if_neg (by omega)]
                          · exact (s7.touch (touch_setCell wr ⟨M, x, none⟩ _) hNM (fun q hq => by simp [blk] at hq; show q ≠ M; omega)).drew
                      · obtain rfl : y = 4 := by omega
                        go_wp2_with fail
                        exact ⟨⟨x + 1, by omega, by go_num, by rw [wS_lo B (x + 1) (by omega)]; exact h7, s7⟩, by simp [intOf]; omega⟩
                  · have hge : 16 ≤ x := by omega
                    rw [wS_hi B x hge] at h7
                    have d1 : wr.cell? ⟨M, x - 15, none⟩ = some (.int .u32 (u (sc B (x - 16) (x - 15)))) := h7.cell (by omega)
                    have d2 : wr.cell? ⟨M, x - 2, none⟩ = some (.int .u32 (u (sc B (x - 16) (x - 2)))) := h7.cell (by omega)
                    have n1 : 0 ≤ (x : Int) - 15 := by omega
                    have n2 : 0 ≤ (x : Int) - 2 := by omega
                    have m1 : (x : Int) - 15 < 64 := by omega
                    have m2 : (x : Int) - 2 < 64 := by omega
                    have e1 : IntKind.i64.wrap ((x : Int) - 15) = (x : Int) - 15 := IntWalk.i64_in _ (by omega)
                    have e2 : IntKind.i64.wrap ((x : Int) - 2) = (x : Int) - 2 := IntWalk.i64_in _ (by omega)
                    have f1 : ((x : Int) - 15).toNat = x - 15 := by omega
                    have f2 : ((x : Int) - 2).toNat = x - 2 := by omega
                    go_wp2_with fail
                    go_quiet (fail)
                    clear n1 n2 m1 m2 e1 e2 f1 f2 d1 d2
                    go_wp2_with fail
                    have h8 := h7.drewN nq
                    have s8 := s7.drewN nq
                    generalize wr.drewN nq = wx at *
                    clear h7 s7
                    have d1 : wx.cell? ⟨M, x - 7, none⟩ = some (.int .u32 (u (sc B (x - 16) (x - 7)))) := h8.cell (by omega)
                    have d2 : wx.cell? ⟨M, x - 16, none⟩ = some (.int .u32 (u (sc B (x - 16) (x - 16)))) := h8.cell (by omega)
                    have n1 : 0 ≤ (x : Int) - 7 := by omega
                    have n2 : 0 ≤ (x : Int) - 16 := by omega
                    have m1 : (x : Int) - 7 < 64 := by omega
                    have m2 : (x : Int) - 16 < 64 := by omega
                    have e1 : IntKind.i64.wrap ((x : Int) - 7) = (x : Int) - 7 := IntWalk.i64_in _ (by omega)
                    have e2 : IntKind.i64.wrap ((x : Int) - 16) = (x : Int) - 16 := IntWalk.i64_in _ (by omega)
                    have f1 : ((x : Int) - 7).toNat = x - 7 := by omega
                    have f2 : ((x : Int) - 16).toNat = x - 16 := by omega
                    refine wp_region_quiet_tail 29 (by kernel_rfl) (by kernel_rfl) ?_
                    simp only [List.take_succ_cons, List.take_zero, List.drop_succ_cons, List.drop_zero]
                    repeat (go_big_quiet_step ((go_at_call 67; exact Calls.quiet_of (turn_z _ _ (by omega) (by omega) _))))
                    refine wpQuiet_nil ?_
                    intro _ hw'
                    obtain ⟨nr, rfl⟩ := hw'
                    clear n1 n2 m1 m2 e1 e2 f1 f2 d1 d2
                    have h9 := h8.drewN nr
                    have s9 := s8.drewN nr
                    have d4 : (wx.drewN nr).cell? ⟨M, x, none⟩ = some (.int .u32 (u (sc B (x - 16) x))) := h9.cell (by omega)
                    have d5 : (wx.drewN nr).frozen? ⟨M, x, none⟩ = false := h9.free x
                    go_wp2_with fail
                    refine ⟨⟨x + 1, by omega, by go_num, ?_, s9.touch (touch_setCell (wx.drewN nr) ⟨M, x, none⟩ _) hNM (fun q hq => by simp [blk] at hq; show q ≠ M; omega)⟩, by simp [intOf]; omega⟩
                    rw [wS_hi B (x + 1) (by omega)]
                    refine (h9.set x _).congr (fun j _ => ?_)
                    simp only [upd]
                    by_cases e : j = x
                    · subst e; rw [if_pos rfl]; exact int_congr (sc_walk B j hge)
                    · rw [if_neg e, sc_other B x j hge e]
                · obtain rfl : x = 64 := by omega
                  rw [wS_hi B 64 (by omega)] at h7
                  obtain ⟨V, hV⟩ := sz_some wr
                  have hMV : M < V := h7.ltN hV
                  go_wp2_with (first
                    | (refine wpl_load rfl 37 (.tmp 5) rfl (N + 1) rfl 37 8 _ s7.h _ und37 rfl inf37 ?_)
                    | (refine wpl_alloc rfl 37 rfl 8 _ zer37 V hV ?_; intro w8 hV8 hb8 h8)
                    | (refine wpl_store rfl 37 (.tmp 15) (.tmp 121) rfl V 8 _ rfl rfl 37 _ h8 inf37 (fun _ _ => rfl) ?_; intro w9 ht9 h9)
                    | fail)
                  have s9 := (s7.below hb8 (Nat.le_of_eq hV)).touch ht9 (by omega) (fun q hq => by simp [blk] at hq; omega)
                  have h79 := (h7.below hb8 hMV).touch ht9 (by omega)
                  clear s7 h7 hb8 ht9 h8 hV8
                  obtain ⟨H, eH⟩ : ∃ H, H = Hb E t := ⟨_, rfl⟩
                  rw [← eH] at s9 h9
                  have HH := hid eH
                  clear eH
                  go_loopw [16] (fun i wr => ∃ r : Nat, r ≤ 64 ∧ i = .int .i64 r ∧ Has wr V 37 8 (fun j => U ((run Kc (sched B) (s8 H) r).word j)) ∧ Has wr M 36 64 (fun j => U (sched B j)) ∧ SumW w N wr H (some ⟨g, 0, none⟩) (64 * b) ct E)
                    (fun i _ => 64 - (intOf i).toNat)
                  case atStart => exact ⟨0, by omega, rfl, h9.congr (fun j hj => by rcases (show j = 0 ∨ j = 1 ∨ j = 2 ∨ j = 3 ∨ j = 4 ∨ j = 5 ∨ j = 6 ∨ j = 7 by omega) with rfl | rfl | rfl | rfl | rfl | rfl | rfl | rfl <;> rfl), h79, s9⟩
                  case round =>
                    clear s9 h79 h9
                    obtain ⟨r, hr, rfl, h9, h7, s9⟩ := hrel
                    by_cases hltr : r < 64
                    · obtain ⟨S, eS⟩ : ∃ S, S = run Kc (sched B) (s8 H) r := ⟨_, rfl⟩
                      rw [← eS] at h9
                      have HS := hid eS
                      clear eS
                      have c0 : wr.cell? ⟨V, 0, none⟩ = some (.int .u32 (u S.a)) := h9.cell (by omega)
                      have c4 : wr.cell? ⟨V, 4, none⟩ = some (.int .u32 (u S.e)) := h9.cell (by omega)
                      go_wp2_with fail
                      go_quiet (fail)
                      clear c0 c4
                      have h9 := h9.drewN nq
                      have h7 := h7.drewN nq
                      have s9 := s9.drewN nq
                      generalize wr.drewN nq = wx at *
                      have c1 : wx.cell? ⟨V, 1, none⟩ = some (.int .u32 (u S.b)) := h9.cell (by omega)
                      have c2 : wx.cell? ⟨V, 2, none⟩ = some (.int .u32 (u S.c)) := h9.cell (by omega)
                      have c5 : wx.cell? ⟨V, 5, none⟩ = some (.int .u32 (u S.f)) := h9.cell (by omega)
                      have c6 : wx.cell? ⟨V, 6, none⟩ = some (.int .u32 (u S.g)) := h9.cell (by omega)
                      have c7 : wx.cell? ⟨V, 7, none⟩ = some (.int .u32 (u S.h)) := h9.cell (by omega)
                      have k1 : wx.cell? ⟨N, r, none⟩ = some (.int .u32 (u (Kc r))) := s9.k.cell (by omega)
                      have k2 : wx.cell? ⟨M, r, none⟩ = some (.int .u32 (u (sched B r))) := h7.cell (by omega)
                      have hr64 : (r : Int) < 64 := by omega
                      go_wp2_with fail
                      go_quiet ((go_at_call 67; exact Calls.quiet_of (turn_z _ _ (by omega) (by omega) _)))
                      rw [t1_form]
                      clear c5 c6 c7 k1 k2
                      have h9 := h9.drewN nq
                      have h7 := h7.drewN nq
                      have s9 := s9.drewN nq
                      generalize wx.drewN nq = wy at *
                      have c1 : wy.cell? ⟨V, 1, none⟩ = some (.int .u32 (u S.b)) := h9.cell (by omega)
                      have c2 : wy.cell? ⟨V, 2, none⟩ = some (.int .u32 (u S.c)) := h9.cell (by omega)
                      go_wp2_with fail
                      go_quiet ((go_at_call 67; exact Calls.quiet_of (turn_z _ _ (by omega) (by omega) _)))
                      rw [round_t2]
                      clear c1 c2
                      have h9 := h9.drewN nq
                      have h7 := h7.drewN nq
                      have s9 := s9.drewN nq
                      generalize wy.drewN nq = wz at *
                      have c1 : wz.cell? ⟨V, 1, none⟩ = some (.int .u32 (u S.b)) := h9.cell (by omega)
                      have c2 : wz.cell? ⟨V, 2, none⟩ = some (.int .u32 (u S.c)) := h9.cell (by omega)
                      have c3 : wz.cell? ⟨V, 3, none⟩ = some (.int .u32 (u S.d)) := h9.cell (by omega)
                      have c5 : wz.cell? ⟨V, 5, none⟩ = some (.int .u32 (u S.f)) := h9.cell (by omega)
                      have c6 : wz.cell? ⟨V, 6, none⟩ = some (.int .u32 (u S.g)) := h9.cell (by omega)
                      go_wp2_with (first
                        | (refine wpl_store rfl 37 (.tmp 15) (.tmp 201) rfl V 8 _ rfl (word8 S (Kc r) (sched B r)) 37 _ h9 inf37 (fun _ _ => rfl) ?_; intro w11 ht11 h11)
                        | fail)
                      have HS' := hid (show run Kc (sched B) (s8 H) (r + 1) = round S (Kc r) (sched B r) by rw [HS.out]; rfl)
                      exact ⟨⟨r + 1, by omega, by go_num, by rw [HS'.out]; exact h11, h7.touch ht11 (by omega), s9.touch ht11 (by omega) (fun q hq => by simp [blk] at hq; omega)⟩, by simp [intOf]; omega⟩
                    · obtain rfl : r = 64 := by omega
                      obtain ⟨S, eS⟩ : ∃ S, S = run Kc (sched B) (s8 H) 64 := ⟨_, rfl⟩
                      rw [← eS] at h9
                      have HS := hid eS
                      clear eS h7
                      go_wp2_with fail
                      go_loopw [21] (fun i wr => ∃ x : Nat, x ≤ 8 ∧ i = .int .i64 x ∧ Has wr V 37 8 (fun j => U (S.word j)) ∧ SumW w N wr (upTo H S x) (some ⟨g, 0, none⟩) (64 * b) ct E)
                        (fun i _ => 8 - (intOf i).toNat)
                      case atStart => exact ⟨0, by omega, rfl, h9, s9.congr (fun j _ => by unfold upTo; rw [if_neg (by omega)])⟩
                      case round =>
                        clear s9 h9
                        obtain ⟨x, hx, rfl, h9, s9⟩ := hrel
                        by_cases hlt8 : x < 8
                        · have d1 : wr.cell? ⟨N + 1, x, none⟩ = some (.int .u32 (u (H x))) := by
                            have := s9.h.cell hlt8
                            unfold upTo at this
                            rw [if_neg (by omega)] at this
                            exact this
                          have d2 : wr.cell? ⟨V, x, none⟩ = some (.int .u32 (u (S.word x))) := h9.cell hlt8
                          have d3 : wr.frozen? ⟨N + 1, x, none⟩ = false := s9.h.free x
                          go_wp2_with fail
                          go_region
                          clear d1 d2 d3
                          go_wp2_with fail
                          go_roundw
                          case measure => simp [intOf]; omega
                          case rel =>
                            refine ⟨x + 1, by omega, by go_num, (h9.other _ (by show V ≠ N + 1; omega)).drew, ?_⟩
                            refine (s9.turn (touch_setCell wr ⟨N + 1, x, none⟩ _) ((s9.h.set x _).congr (fun j _ => ?_))).drew
                            simp only [upd, upTo]
                            by_cases e : j = x
                            · subst e; rw [if_pos rfl, if_pos (by omega), add_u]; rfl
                            · rw [if_neg e]
                              by_cases h2 : j < x
                              · rw [if_pos h2, if_pos (by omega)]
                              · rw [if_neg h2, if_neg (by omega)]
                        · obtain rfl : x = 8 := by omega
                          go_wp2_with fail
                          refine ⟨⟨t + 1, by omega, by go_num, s9.congr (fun j hj => ?_)⟩, by simp [intOf]; omega⟩
                          unfold upTo
                          rw [if_pos hj, HS.out, HH.out, HB.out]; rfl
            · obtain rfl : t = b := by omega
              obtain ⟨M, hM⟩ := sz_some wr
              have hNM : N + 3 ≤ M := by have := s.lt; rw [show wr.heap.size = M from hM] at this; omega
              have hltM := s.m.lt
              rw [show wr.heap.size = M from hM] at hltM
              go_wp2_with (first
                | (refine wpl_alloc rfl 23 rfl 32 _ zer23 M hM ?_; intro w7 hM7 hb7 h7)
                | fail)
              have s7 := s.below hb7 (Nat.le_of_eq hM)
              clear s hb7 hM7
              obtain ⟨H, eH⟩ : ∃ H, H = Hb E t := ⟨_, rfl⟩
              rw [← eH] at s7
              have HH := hid eH
              clear eH
              go_loopw [23] (fun i wr => ∃ x : Nat, x ≤ 32 ∧ i = .int .i64 x ∧ Has wr M 23 32 (fun j => By (if j < x then wordByte H j else 0)) ∧ SumW w N wr H pt (64 * t) ct E)
                (fun i _ => 32 - (intOf i).toNat)
              case atStart => exact ⟨0, by omega, rfl, h7.congr (fun j _ => by rw [if_neg (by omega)]), s7⟩
              case round =>
                clear h7 s7
                obtain ⟨x, hx, rfl, h7, s7⟩ := hrel
                by_cases hlt : x < 32
                · have d1 : wr.cell? ⟨N + 1, x / 4, none⟩ = some (.int .u32 (u (H (x / 4)))) := s7.h.cell (by omega)
                  have d2 : wr.cell? ⟨M, x, none⟩ = some (By (if x < x then wordByte H x else 0)) := h7.cell hlt
                  have d3 := h7.free x
                  go_wp2_with fail
                  have e1 := v8_wordByte H x
                  refine ⟨⟨x + 1, by omega, by go_num, ?_, s7.touch (touch_setCell wr ⟨M, x, none⟩ _) hNM (fun q hq => by have := hltM q hq; show q ≠ M; omega)⟩, by simp [intOf]; omega⟩
                  refine (h7.set x _).congr (fun j _ => ?_)
                  simp only [upd]
                  by_cases e : j = x
                  · subst e; rw [if_pos rfl, if_pos (by omega)]; exact int_congr e1
                  · rw [if_neg e]
                    by_cases h2 : j < x
                    · rw [if_pos h2, if_pos (by omega)]
                    · rw [if_neg h2, if_neg (by omega)]
                · obtain rfl : x = 32 := by omega
                  go_wp2_with (first
                    | (refine wpl_load rfl 23 (.tmp 22) rfl M rfl 23 32 _ h7 _ und23 rfl inf23 ?_)
                    | (refine wpl_store rfl 23 (.tmp 6) (.tmp 231) rfl (N + 1 + 1) 32 _ rfl rfl 23 _ s7.o inf23 (fun _ _ => rfl) ?_; intro w8 ht8 h8)
                    | fail)
                  refine post_cell Tryd.results61 (N + 1 + 1) rfl h8 _ und23 rfl inf23 rfl ⟨?_, ht8.below s7.b (by omega)⟩
                  rw [cellsOf_congr (fun j hj => by rw [if_pos hj]), HH.out, HE.out]
end Go.Proofs.YtcampjgemedhlaaDoor
