/- spread and mixed: what a block makes of the sum so far. -/
import Derived.Test.YtjdclgnlnehjlaaDoorProg
import Derived.Test.YtjdclgnlnehjlaaDoorMgAts
import Derived.Test.YtjdclgnlnehjlaaDoorInns
import Derived.WalkKit
import Derived.WalkSpells
import Derived.Deep.QuietTactic
import Derived.BigQuiet
namespace Go.Proofs.YtjdclgnlnehjlaaDoor
open Go Go.RowKit Sha
theorem rot_any (x : W32) (n : Int) (hn : 1 ≤ n) (hn' : n ≤ 31) (w : World) :
    Calls Tryd.prog 89 #[.int .u32 (u x), .int .u64 n] w fun e w' => e = .returned (.int .u32 (u (rr x n.toNat))) ∧ w' = w := by
  have h0 := u_lo x
  have h1 := u_hi x
  have e1 := hid (rr_walk x n.toNat)
  go_enter Tryd.func89, Tryd.ntmps89
  go_wp2
  go_ret
  rw [show (32 - n).toNat = 32 - n.toNat from by omega]
  exact ⟨congrArg (fun z => Ending.returned (.int .u32 z)) e1.out, rfl⟩
theorem und37 : Tryd.prog.underlying 109 = some (.array 8 108) := by kernel_rfl
theorem und79 : Tryd.prog.underlying 110 = some (.array 64 5) := by kernel_rfl
theorem und36 : Tryd.prog.underlying 140 = some (.array 64 108) := by kernel_rfl
theorem und5 : Tryd.prog.underlying 5 = some (.int .u8) := by kernel_rfl
theorem inf37 : (Tryd.prog.info? 109).map (·.size) = some 8 := by kernel_rfl
theorem inf79 : (Tryd.prog.info? 110).map (·.size) = some 64 := by kernel_rfl
theorem inf36 : (Tryd.prog.info? 140).map (·.size) = some 64 := by kernel_rfl
theorem inf5 : (Tryd.prog.info? 5).map (·.size) = some 1 := by kernel_rfl
theorem zer37 : (Tryd.prog.info? 109).map (fun i => (i.zero, i.size)) = some (some (.agg (cellsOf (fun _ => .int .u32 0) 8)), 8) := by kernel_rfl
theorem zer36 : (Tryd.prog.info? 140).map (fun i => (i.zero, i.size)) = some (some (.agg (cellsOf (fun _ => .int .u32 0) 64)), 64) := by kernel_rfl
set_option maxRecDepth 100000 in
theorem spread_any (B : Nat → BitVec 8) (w : World) (N : Nat) (hN : Sz w N) :
    Calls Tryd.prog 88 #[.agg (cellsOf (fun j => By (B j)) 64)] w fun e w' => e = .returned (.agg (cellsOf (fun j => U (sched B j)) 64)) ∧ Below N w w' := by
  go_enter Tryd.func88, Tryd.ntmps88
  go_wp2_with (first
    | (refine wpl_box rfl 110 (.tmp 0) rfl 64 _ rfl N hN ?_; intro w1 hN1 hb1 h1)
    | (refine wpl_alloc (o := ⟨some 2, _, _, _, _, _⟩) rfl 140 rfl 64 _ zer36 (N + 1) hN1 ?_; intro w2 hN2 hb2 h2)
    | (refine wpl_alloc (o := ⟨some 3, _, _, _, _, _⟩) rfl 140 rfl 64 _ zer36 (N + 1 + 1) hN2 ?_; intro w3 hN3 hb3 h3)
    | (refine wpl_load rfl 110 (.tmp 1) rfl N rfl 110 64 _ ((h1.below hb2 (by omega)).below hb3 (by omega)) _ und79 rfl inf79 ?_)
    | fail)
  have hbA : Below N w w3 := ((hb1.trans (hb2.mono (by omega))).trans (hb3.mono (by omega)))
  go_loopw [12] (fun i wr => ∃ k : Nat, k ≤ 64 ∧ i = .int .i64 k ∧ Has wr (N + 1) 140 64 (fun _ => .int .u32 0) ∧ Has wr (N + 1 + 1) 140 64 (fun j => U (pw B k j)) ∧ Below N w wr)
    (fun i _ => 64 - (intOf i).toNat)
  case atStart => exact ⟨0, by omega, rfl, h2.below hb3 (by omega), h3.congr (fun _ _ => rfl), hbA⟩
  case round =>
    obtain ⟨k, hk, rfl, q2, q3, qb⟩ := hrel
    by_cases hlt : k < 64
    · have hx : ∀ w, (Instr.index 110 (.agg (cellsOf (fun j => By (B j)) 64)) (.int .i64 (k : Int))).run Tryd.prog w = .ok (.int .u8 (v8 (B k))) w := run_index_cells 110 5 64 _ 64 k _ und79 und5 rfl inf5 hlt hlt
      have d1 : wr.cell? ⟨N + 1 + 1, k / 4, none⟩ = some (.int .u32 (u (pw B k (k / 4)))) := q3.cell (by omega)
      have d2 := q3.free (k / 4)
      go_wp2_with fail
      exact ⟨⟨k + 1, by omega, by go_num, q2.other _ (by simp), (q3.set (k / 4) _).congr (fun j _ => by
          simp only [upd, pw]
          by_cases e : j = k / 4
          · subst e; rw [if_pos rfl, if_pos rfl, shl8_or]; rfl
          · rw [if_neg e, if_neg e]), (touch_setCell wr ⟨N + 1 + 1, k / 4, none⟩ _).below qb (show N ≤ N + 1 + 1 by omega)⟩, by simp [intOf]; omega⟩
    · obtain rfl : 64 = k := by omega
      go_wp2_with fail
      go_loopw [6] (fun i wq => ∃ t : Nat, 16 ≤ t ∧ t ≤ 64 ∧ i = .int .i64 t ∧ Has wq (N + 1) 140 64 (fun _ => .int .u32 0) ∧ Has wq (N + 1 + 1) 140 64 (fun j => U (sc B (t - 16) j)) ∧ Below N w wq)
        (fun i _ => 64 - (intOf i).toNat)
      case atStart => exact ⟨16, by omega, by omega, rfl, q2, q3.congr (fun _ _ => rfl), qb⟩
      case round =>
        clear q2 q3 qb hlt hk
        obtain ⟨t, ht, hk, rfl, q2, q3, qb⟩ := hrel
        by_cases hlt : t < 64
        · have d1 : wr.cell? ⟨N + 1 + 1, t - 15, none⟩ = some (.int .u32 (u (sc B (t - 16) (t - 15)))) := q3.cell (by omega)
          have d2 : wr.cell? ⟨N + 1 + 1, t - 2, none⟩ = some (.int .u32 (u (sc B (t - 16) (t - 2)))) := q3.cell (by omega)
          have n1 : 0 ≤ (t : Int) - 15 := by omega
          have n2 : 0 ≤ (t : Int) - 2 := by omega
          have m1 : (t : Int) - 15 < 64 := by omega
          have m2 : (t : Int) - 2 < 64 := by omega
          have e1 : IntKind.i64.wrap ((t : Int) - 15) = (t : Int) - 15 := IntWalk.i64_in _ (by omega)
          have e2 : IntKind.i64.wrap ((t : Int) - 2) = (t : Int) - 2 := IntWalk.i64_in _ (by omega)
          have f1 : ((t : Int) - 15).toNat = t - 15 := by omega
          have f2 : ((t : Int) - 2).toNat = t - 2 := by omega
          go_wp2_with fail
          go_quiet (fail)
          clear n1 n2 m1 m2 e1 e2 f1 f2 d1 d2
          go_wp2_with (go_at_call 89; refine (rot_any _ _ (by omega) (by omega) _).mono ?_; rintro e w' ⟨rfl, rfl⟩)
          have q3' := q3.drewN nq
          have q2' := q2.drewN nq
          have qb' := below_drewN qb nq
          generalize wr.drewN nq = wx at *
          clear q2 q3 qb
          have d1 : wx.cell? ⟨N + 1 + 1, t - 7, none⟩ = some (.int .u32 (u (sc B (t - 16) (t - 7)))) := q3'.cell (by omega)
          have d2 : wx.cell? ⟨N + 1 + 1, t - 16, none⟩ = some (.int .u32 (u (sc B (t - 16) (t - 16)))) := q3'.cell (by omega)
          have d3 : wx.frozen? ⟨N + 1 + 1, t, none⟩ = false := q3'.free t
          have d4 : wx.cell? ⟨N + 1 + 1, t, none⟩ = some (.int .u32 (u (sc B (t - 16) t))) := q3'.cell (by omega)
          have n1 : 0 ≤ (t : Int) - 7 := by omega
          have n2 : 0 ≤ (t : Int) - 16 := by omega
          have m1 : (t : Int) - 7 < 64 := by omega
          have m2 : (t : Int) - 16 < 64 := by omega
          have m3 : (t : Int) < 64 := by omega
          have e1 : IntKind.i64.wrap ((t : Int) - 7) = (t : Int) - 7 := IntWalk.i64_in _ (by omega)
          have e2 : IntKind.i64.wrap ((t : Int) - 16) = (t : Int) - 16 := IntWalk.i64_in _ (by omega)
          have f1 : ((t : Int) - 7).toNat = t - 7 := by omega
          have f2 : ((t : Int) - 16).toNat = t - 16 := by omega
          go_region
          clear n1 n2 m1 m2 e1 e2 f1 f2 d1 d2 d3 d4
          go_wp2_with fail
          go_roundw
          case measure => simp [intOf]; omega
          case rel =>
            (repeat apply Exists.intro)
            refine ⟨⟨t + 1, by omega, by omega, by go_num, ?_, ?_, ?_⟩, rfl⟩
            · exact (q2'.other _ (by simp)).drew
            · refine ((q3'.set t _).congr (fun j _ => ?_)).drew
              simp only [upd]
              by_cases e : j = t
              · subst e; rw [if_pos rfl]; exact int_congr (sc_walk B j ht)
              · rw [if_neg e, sc_other B t j ht e]
            · exact ((touch_setCell wx ⟨N + 1 + 1, t, none⟩ _).below qb' (show N ≤ N + 1 + 1 by omega)).drew
        · obtain rfl : 64 = t := by omega
          go_wp2_with (first
            | (refine wpl_load rfl 140 (.tmp 3) rfl (N + 1 + 1) rfl 140 64 _ q3 _ und36 rfl inf36 ?_)
            | (refine wpl_store rfl 140 (.tmp 2) (.tmp 71) rfl (N + 1) 64 _ rfl rfl 140 _ q2 inf36 (fun _ _ => rfl) ?_; intro w8 ht8 h8)
            | fail)
          exact post_cell Tryd.results88 (N + 1) rfl h8 _ und36 rfl inf36 rfl ⟨rfl, ht8.below qb (by omega)⟩
def KHas (w : World) : Prop := Tab w 2 64 (fun j => U (Kc j))
theorem agg8 (h : Nat → W32) (S : S8) : Value.agg #[.int .u32 ((u (h 0) + u S.a) % 4294967296), .int .u32 ((u (h 1) + u S.b) % 4294967296), .int .u32 ((u (h 2) + u S.c) % 4294967296), .int .u32 ((u (h 3) + u S.d) % 4294967296),
    .int .u32 ((u (h 4) + u S.e) % 4294967296), .int .u32 ((u (h 5) + u S.f) % 4294967296), .int .u32 ((u (h 6) + u S.g) % 4294967296), .int .u32 ((u (h 7) + u S.h) % 4294967296)] = .agg (cellsOf (fun j => U (h j + S.word j)) 8) := by
  simp only [add_u]; rfl
theorem ne_sum (S : S8) (k w : W32) : ((u S.h + bits BinOp.xor IntKind.u32 (bits BinOp.xor IntKind.u32 (u (rr S.e 6)) (u (rr S.e 11))) (u (rr S.e 25)) +
      bits BinOp.xor IntKind.u32 (bits BinOp.and IntKind.u32 (u S.e) (u S.f)) (bits BinOp.and IntKind.u32 (bits BinOp.xor IntKind.u32 (if IntKind.u32.signed = true then -1 else IntKind.u32.max) (u S.e)) (u S.g)) + u k + u w) % 4294967296 +
      (bits BinOp.xor IntKind.u32 (bits BinOp.xor IntKind.u32 (u (rr S.a 2)) (u (rr S.a 13))) (u (rr S.a 22)) +
      bits BinOp.xor IntKind.u32 (bits BinOp.xor IntKind.u32 (bits BinOp.and IntKind.u32 (u S.a) (u S.b)) (bits BinOp.and IntKind.u32 (u S.a) (u S.c))) (bits BinOp.and IntKind.u32 (u S.b) (u S.c))) % 4294967296) % 4294967296 = u (round S k w).a := by
  rw [round_t1, round_t2, add_u]; rfl
theorem ne_d (S : S8) (k w : W32) : (u S.d + (u S.h + bits BinOp.xor IntKind.u32 (bits BinOp.xor IntKind.u32 (u (rr S.e 6)) (u (rr S.e 11))) (u (rr S.e 25)) +
      bits BinOp.xor IntKind.u32 (bits BinOp.and IntKind.u32 (u S.e) (u S.f)) (bits BinOp.and IntKind.u32 (bits BinOp.xor IntKind.u32 (if IntKind.u32.signed = true then -1 else IntKind.u32.max) (u S.e)) (u S.g)) + u k + u w) % 4294967296) % 4294967296 = u (round S k w).e := by
  rw [round_t1, add_u]; rfl
set_option maxRecDepth 100000 in
theorem mixed_any (h : Nat → W32) (B : Nat → BitVec 8) (w : World) (N : Nat) (hN : Sz w N) (hK : KHas w) :
    Calls Tryd.prog 76 #[.agg (cellsOf (fun j => U (h j)) 8), .agg (cellsOf (fun j => By (B j)) 64)] w fun e w' => e = .returned (.agg (cellsOf (fun j => U (comp h B j)) 8)) ∧ Below N w w' := by
  go_enter Tryd.func76, Tryd.ntmps76
  go_wp2_with (first
    | (refine wpl_box rfl 109 (.tmp 0) rfl 8 _ rfl N hN ?_; intro w1 hN1 hb1 h1)
    | (refine wpl_box rfl 110 (.tmp 1) rfl 64 _ rfl (N + 1) hN1 ?_; intro w2 hN2 hb2 h2)
    | (refine wpl_alloc rfl 109 rfl 8 _ zer37 (N + 1 + 1) hN2 ?_; intro w3 hN3 hb3 h3)
    | (refine wpl_load rfl 110 (.tmp 3) rfl (N + 1) rfl 110 64 _ ((h2.below hb3 (by omega))) _ und79 rfl inf79 ?_)
    | (go_at_call 88; refine (spread_any B _ _ hN3).mono ?_; rintro e w4 ⟨rfl, hb4⟩; obtain ⟨M, hM⟩ := sz_some w4; have hNM := below_sz hb4 hN3 hM)
    | (refine wpl_alloc rfl 140 rfl 64 _ zer36 M hM ?_; intro w5 hN5 hb5 h5)
    | (refine wpl_store rfl 140 (.tmp 5) (.tmp 18) rfl M 64 _ rfl rfl 140 _ h5 inf36 (fun _ _ => rfl) ?_; intro w6 ht6 h6)
    | fail)
  have g1 : Has w6 N 109 8 (fun j => U (h j)) := ((((h1.below hb2 (by omega)).below hb3 (by omega)).below hb4 (by omega)).below hb5 (by omega)).touch ht6 (by omega)
  have g3 : Has w6 (N + 1 + 1) 109 8 (fun _ => .int .u32 0) := ((h3.below hb4 (by omega)).below hb5 (by omega)).touch ht6 (by omega)
  have c0 : w6.cell? ⟨N, 0, none⟩ = some (.int .u32 (u (h 0))) := g1.cell (by omega)
  have c1 : w6.cell? ⟨N, 1, none⟩ = some (.int .u32 (u (h 1))) := g1.cell (by omega)
  have c2 : w6.cell? ⟨N, 2, none⟩ = some (.int .u32 (u (h 2))) := g1.cell (by omega)
  have c3 : w6.cell? ⟨N, 3, none⟩ = some (.int .u32 (u (h 3))) := g1.cell (by omega)
  have c4 : w6.cell? ⟨N, 4, none⟩ = some (.int .u32 (u (h 4))) := g1.cell (by omega)
  have c5 : w6.cell? ⟨N, 5, none⟩ = some (.int .u32 (u (h 5))) := g1.cell (by omega)
  have c6 : w6.cell? ⟨N, 6, none⟩ = some (.int .u32 (u (h 6))) := g1.cell (by omega)
  have c7 : w6.cell? ⟨N, 7, none⟩ = some (.int .u32 (u (h 7))) := g1.cell (by omega)
  go_quiet (fail)
  clear c0 c1 c2 c3 c4 c5 c6 c7
  have h1N : 2 < N := by have := hK.lt; rwa [show w.heap.size = N from hN] at this
  have hbA : Below N w (w6.drewN nq) := below_drewN (ht6.below (((((hb1.trans (hb2.mono (by omega))).trans (hb3.mono (by omega))).trans (hb4.mono (by omega))).trans (hb5.mono (by omega)))) (by omega)) nq
  have gK : KHas (w6.drewN nq) := Tab.below hK hbA h1N
  have g1 := g1.drewN nq
  have g3 := g3.drewN nq
  have g6 := h6.drewN nq
  go_wp2_with fail
  go_loopw [6, 7, 8, 9, 10, 11, 12, 13, 35] (fun a b c d e f g h' t wr => ∃ (k : Nat) (S : S8), k ≤ 64 ∧ t = .int .i64 k ∧ Hid (S = run Kc (sched B) (s8 h) k) ∧
      a = .int .u32 (u S.a) ∧ b = .int .u32 (u S.b) ∧ c = .int .u32 (u S.c) ∧ d = .int .u32 (u S.d) ∧ e = .int .u32 (u S.e) ∧ f = .int .u32 (u S.f) ∧ g = .int .u32 (u S.g) ∧ h' = .int .u32 (u S.h) ∧
      Has wr N 109 8 (fun j => U (h j)) ∧ Has wr (N + 1 + 1) 109 8 (fun _ => .int .u32 0) ∧ Has wr M 140 64 (fun j => U (sched B j)) ∧ KHas wr ∧ Below N w wr)
    (fun _ _ _ _ _ _ _ _ t _ => 64 - (intOf t).toNat)
  case atStart => exact ⟨0, s8 h, by omega, rfl, rfl, rfl, rfl, rfl, rfl, rfl, rfl, rfl, rfl, g1, g3, g6, gK, hbA⟩
  case round =>
    obtain ⟨k, S, hk, rfl, hS, rfl, rfl, rfl, rfl, rfl, rfl, rfl, rfl, q1, q3, q6, qK, qb⟩ := hrel
    by_cases hlt : k < 64
    · have d1 : wr.cell? ⟨2, k, none⟩ = some (.int .u32 (u (Kc k))) := qK.cell hlt
      have d2 : wr.cell? ⟨M, k, none⟩ = some (.int .u32 (u (sched B k))) := q6.cell hlt
      go_wp2_with fail
      go_quiet ((go_at_call 89; exact Calls.quiet_of_same (rot_any _ _ (by omega) (by omega) _)))
      go_wp2_with (go_at_call 89; refine (rot_any _ _ (by omega) (by omega) _).mono ?_; rintro e w' ⟨rfl, rfl⟩)
      exact ⟨⟨k + 1, round S (Kc k) (sched B k), by omega, by go_num, (by rw [hS.out]; rfl), int_congr (ne_sum S (Kc k) (sched B k)), rfl, rfl, rfl, int_congr (ne_d S (Kc k) (sched B k)), rfl, rfl, rfl,
        q1.drewN nq, q3.drewN nq, q6.drewN nq, Tab.drewN qK nq, below_drewN qb nq⟩, by simp [intOf]; omega⟩
    · obtain rfl : 64 = k := by omega
      have c0 : wr.cell? ⟨N, 0, none⟩ = some (.int .u32 (u (h 0))) := q1.cell (by omega)
      have c1 : wr.cell? ⟨N, 1, none⟩ = some (.int .u32 (u (h 1))) := q1.cell (by omega)
      have c2 : wr.cell? ⟨N, 2, none⟩ = some (.int .u32 (u (h 2))) := q1.cell (by omega)
      have c3 : wr.cell? ⟨N, 3, none⟩ = some (.int .u32 (u (h 3))) := q1.cell (by omega)
      have c4 : wr.cell? ⟨N, 4, none⟩ = some (.int .u32 (u (h 4))) := q1.cell (by omega)
      have c5 : wr.cell? ⟨N, 5, none⟩ = some (.int .u32 (u (h 5))) := q1.cell (by omega)
      have c6 : wr.cell? ⟨N, 6, none⟩ = some (.int .u32 (u (h 6))) := q1.cell (by omega)
      have c7 : wr.cell? ⟨N, 7, none⟩ = some (.int .u32 (u (h 7))) := q1.cell (by omega)
      go_wp2_with (first
        | (refine wpl_store rfl 109 (.tmp 4) (.tmp 130) rfl (N + 1 + 1) 8 _ rfl (agg8 h S) 109 _ q3 inf37 (fun _ _ => rfl) ?_; intro w8 ht8 h8)
        | fail)
      refine post_cell Tryd.results76 (N + 1 + 1) rfl h8 _ und37 rfl inf37 rfl ⟨?_, ht8.below qb (by omega)⟩
      rw [hS.out]; rfl
end Go.Proofs.YtjdclgnlnehjlaaDoor
