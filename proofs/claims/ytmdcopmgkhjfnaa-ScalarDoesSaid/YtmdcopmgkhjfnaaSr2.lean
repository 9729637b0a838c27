/- The document: what is asked of two ranges and a number of each. -/
import Derived.Test.YtmdcopmgkhjfnaaSr1
namespace Go.Proofs.Ytmdcopmgkhjfnaa
open Go Go.RowKit
/-- What is asked: two rows of words, a place in each, and bits that aren't known. -/
structure Cs where
 p0 : Option Addr
 n0 : Nat
 c0 : Nat
 p1 : Option Addr
 n1 : Nat
 c1 : Nat
 z0 : Int
 z1 : Int
 u0 : W
 u1 : W
def caC (s : Cs) : Nat → Value
 | 0 => .slice s.p0 s.n0 s.c0
 | 1 => .slice s.p1 s.n1 s.c1
 | 2 => .int .i64 s.z0
 | 3 => .int .i64 s.z1
 | 4 => Q s.u0
 | _ => Q s.u1
def zeroCs : Cs := ⟨none, 0, 0, none, 0, 0, 0, 0, 0#64, 0#64⟩
def caV (s : Cs) : Value := .agg (cellsOf (caC s) 6)
theorem undCs : ∃ d, Try.prog.underlying 30 = some d ∧ d.isRow = true := row_ofN (by kernel_rfl)
theorem szCs : (Try.prog.info? 30).map (·.size) = some 6 := by kernel_rfl
theorem ca_cells {w : World} {b T : Nat} {p0 p1 : Option Addr} {n0 c0 n1 c1 : Nat} {z0 z1 : Int} {u0 u1 : W} (h : Has w b T 6 (caC ⟨p0, n0, c0, p1, n1, c1, z0, z1, u0, u1⟩)) : w.cell? ⟨b, 0, none⟩ = some (.slice p0 n0 c0) ∧ w.cell? ⟨b, 1, none⟩ = some (.slice p1 n1 c1) ∧ w.cell? ⟨b, 2, none⟩ = some (.int .i64 z0) ∧ w.cell? ⟨b, 3, none⟩ = some (.int .i64 z1) ∧ w.cell? ⟨b, 4, none⟩ = some (Q u0) ∧ w.cell? ⟨b, 5, none⟩ = some (Q u1) :=
 ⟨h.cell (by omega), h.cell (by omega), h.cell (by omega), h.cell (by omega), h.cell (by omega), h.cell (by omega)⟩
/-- How many numbers there are, and which. -/
def lnN (n : Nat) : Nat := if n = 0 then 1 else min n 8
def lnE (n : Nat) (Z : Nat → W) (d : W) : Nat → W := if n = 0 then fun _ => d else Z
theorem ln_z {n : Nat} (h : n = 0) (Z : Nat → W) (d : W) : lnN n = 1 ∧ lnE n Z d = fun _ => d := by subst h; exact ⟨rfl, rfl⟩
theorem ln_s {n : Nat} (h : 0 < n) (Z : Nat → W) (d : W) : lnN n = min n 8 ∧ lnE n Z d = Z := by
 unfold lnN lnE; rw [if_neg (by omega), if_neg (by omega)]; exact ⟨rfl, rfl⟩
theorem ln_pos (n : Nat) : 0 < lnN n ∧ lnN n ≤ 8 := by unfold lnN; split <;> omega
theorem post_rrqq {fn : Func} {R : Ending → World → Prop} {p q u v : Tmp} {T T2 : TypeId} {a : Act} {w : World} (hr : fn.results = #[.cell p T, .cell q T2, .tmp u, .tmp v]) (b c : Nat) (hp : a.tmps.getD p undef = .pointer (some ⟨b, 0, none⟩)) (hq : a.tmps.getD q undef = .pointer (some ⟨c, 0, none⟩))
  {r s : Rn} (hh : Has w b T 6 (rC r)) (hk : Has w c T2 6 (rC s)) (hu : ∃ d, Try.prog.underlying T = some d ∧ d.isRow = true) (hu2 : ∃ d, Try.prog.underlying T2 = some d ∧ d.isRow = true) (hi : (Try.prog.info? T).map (·.size) = some 6) (hi2 : (Try.prog.info? T2).map (·.size) = some 6) {x y : Value} (hx : a.tmps.getD u undef = x) (hy : a.tmps.getD v undef = y)
  (hdef : a.defers = []) (hR : R (.returned (.tuple #[rV r, rV s, x, y])) w) : bodyPost Try.prog fn R .ret a w := by
 obtain ⟨d, h1, h2⟩ := hu
 obtain ⟨d2, g1, g2⟩ := hu2
 refine bodyPost_ret (v := .tuple #[rV r, rV s, x, y]) ?_ hdef hR
 have hld := run_loadVar_row (P := Try.prog) w b T T (cellsOf (rC r) 6) (0, 0) d hh h1 (by cases d <;> simp_all) (by rw [hi, size_cellsOf])
 have hld2 := run_loadVar_row (P := Try.prog) w c T2 T2 (cellsOf (rC s) 6) (0, 0) d2 hk g1 (by cases d2 <;> simp_all) (by rw [hi2, size_cellsOf])
 have hres : (results fn a.tmps).run Try.prog w = ((asAddr (a.tmps.getD p undef)).run Try.prog w).andThen fun a1 w1 => ((loadVar T a1).run Try.prog w1).andThen fun v1 w2 => ((asAddr (a.tmps.getD q undef)).run Try.prog w2).andThen fun a3 w3 => ((loadVar T2 a3).run Try.prog w3).andThen fun v4 w4 => .ok (.tuple #[v1, v4, a.tmps.getD u undef, a.tmps.getD v undef]) w4 := by
  simp only [results, hr]
  simp [Sem.run_bind, Result.andThen]
 rw [hres, hp, hq, hx, hy]
 simp [asAddr, hld, hld2, rV]
theorem Ats.one {w : World} {p : Option Addr} {n : Nat} {f : Nat → Value} {v : Value} (h : Ats w p n f) (hn : n = 1) (e : f 0 = v) : Ats w p n (fun _ => v) := by
 subst hn
 refine Ats.congr h fun j hj => ?_
 obtain rfl : j = 0 := by omega
 exact e
theorem Ats.tail {w : World} {g off n : Nat} {f : Nat → Value} (h : Ats w (some ⟨g, off, none⟩) (n + 1) f) : Ats w (some ⟨g, off + 1, none⟩) n (fun j => f (j + 1)) := fun h0 => by
 obtain ⟨b, o, e, hc⟩ := h (by omega)
 cases e
 exact ⟨g, off + 1, rfl, fun j hj => by have := hc (j + 1) (by omega); rwa [show off + 1 + j = off + (j + 1) by omega]⟩
theorem faCs0 (b : Nat) (w : World) : (Instr.fieldAt 30 (.pointer (some ⟨b, 0, none⟩)) 0).run Try.prog w = .ok (.pointer (some ⟨b, 0, none⟩)) w := by go_simp
theorem faCs1 (b : Nat) (w : World) : (Instr.fieldAt 30 (.pointer (some ⟨b, 0, none⟩)) 1).run Try.prog w = .ok (.pointer (some ⟨b, 1, none⟩)) w := by go_simp
theorem faCs2 (b : Nat) (w : World) : (Instr.fieldAt 30 (.pointer (some ⟨b, 0, none⟩)) 2).run Try.prog w = .ok (.pointer (some ⟨b, 2, none⟩)) w := by go_simp
theorem faCs3 (b : Nat) (w : World) : (Instr.fieldAt 30 (.pointer (some ⟨b, 0, none⟩)) 3).run Try.prog w = .ok (.pointer (some ⟨b, 4, none⟩)) w := by go_simp
theorem ne_some {b M : Nat} (h : b ≠ M) : some b ≠ blk (some (⟨M, 0, none⟩ : Addr)) := fun e => h (Option.some.inj e)
theorem ge_some {N M : Nat} (h : N ≤ M) : ∀ g, blk (some (⟨M, 0, none⟩ : Addr)) = some g → N ≤ g := fun g e => by
 have e2 : M = g := Option.some.inj e
 omega
theorem wpl_clD {o : Oper} {a : Act} {w : World} {ops : Array Oper} {Q : Exit → Act → World → Prop} {d : Option Tmp} (hg : o.guard = none) (hd : o.dst = d) (h : wpList Try.prog ops Q [{ o with dst := d }] a w) : wpList Try.prog ops Q [o] a w := by
 subst hd; exact h
theorem ne_blk {p : Option Addr} {n : Nat} (h : ∀ k, blk p = some k → k < n) : blk p ≠ blk (some (⟨n, 0, none⟩ : Addr)) := fun e => Nat.lt_irrefl n (h n e)
theorem nz_of {n : Nat} (h : 1 ≤ n ∧ n ≤ 9) : BitVec.ofNat 64 n ≠ 0#64 := fun e => by
 have := congrArg BitVec.toNat e
 rw [BitVec.toNat_ofNat, Nat.mod_eq_of_lt (by omega)] at this
 have e0 : (0#64).toNat = 0 := rfl
 omega
set_option maxRecDepth 100000 in
set_option maxHeartbeats 16000000 in
theorem Ranges_any (Z0 Z1 : Nat → W) (p0 p1 : Option Addr) (n0 c0 n1 c1 : Nat) (z0 z1 : Int) (u0 u1 : W) (hc0 : n0 ≤ c0) (hc1 : n1 ≤ c1) (w : World) (N : Nat) (hN : Sz w N) (h0 : Ats w p0 n0 (fun j => Q (Z0 j))) (h1 : Ats w p1 n1 (fun j => Q (Z1 j))) : Calls Try.prog 24 #[caV ⟨p0, n0, c0, p1, n1, c1, z0, z1, u0, u1⟩] w fun e w' => e = .returned (.tuple #[rV (arA (lnE n0 Z0 5#64) (lnN n0) u0), rV (arA (lnE n1 Z1 3#64) (lnN n1) u1), Q (lnE n0 Z0 5#64 (rm z0 (lnN n0))), Q (lnE n1 Z1 3#64 (rm z1 (lnN n1)))]) ∧ Below N w w' := by
 unfold caV
 obtain ⟨rr, er⟩ : ∃ rr : Value, rr = .tuple #[rV (arA (lnE n0 Z0 5#64) (lnN n0) u0), rV (arA (lnE n1 Z1 3#64) (lnN n1) u1), Q (lnE n0 Z0 5#64 (rm z0 (lnN n0))), Q (lnE n1 Z1 3#64 (rm z1 (lnN n1)))] := ⟨_, rfl⟩
 rw [← er]
 have ER := hid er
 clear er
 go_enter Try.func24, Try.ntmps24
 go_upto_region 1 with (first
  | (refine wpl_box rfl 30 (.tmp 0) rfl 6 _ rfl (N) hN ?_; intro w1 hN1 hb1 hh1)
  | (refine wpl_alloc rfl 34 rfl 6 (rC zeroR) zeRU (N + 1) hN1 ?_; intro w2 hN2 hb2 hh2)
  | (refine wpl_alloc rfl 34 rfl 6 (rC zeroR) zeRU (N + 1 + 1) hN2 ?_; intro w3 hN3 hb3 hh3)
  | fail)
 have lo0 : Below N w w3 := ((hb1.trans (hb2.mono (by omega))).trans (hb3.mono (by omega)))
 have k1 := ((hh1.below hb2 (by omega)).below hb3 (by omega))
 have k2 := (hh2.below hb3 (by omega))
 have k3 := hh3
 clear hh1 hb1 hh2 hb2 hh3 hb3 hN1 hN2
 go_upto_region 1 with fail
 refine wp_region_lit ?_
 try simp only [pA]
 refine wpl_bsQ rfl (.const (.int .u64 5)) rfl 5#64 rfl (N + 1 + 1 + 1) hN3 ?_
 intro xb1 hMxb1 hbxb1 hoxb1; simp only [pA]
 have k4 := k1.below hbxb1 (by omega)
 have k5 := k2.below hbxb1 (by omega)
 have k6 := k3.below hbxb1 (by omega)
 have lo7 := lo0.trans (hbxb1.mono (by omega))
 clear k1 k2 k3 lo0 hbxb1
 obtain ⟨c8, c9, c10, c11, c12, c13⟩ := ca_cells k4
 refine wpl_run rfl (.pointer (some ⟨N, 0, none⟩)) _ (run_fa 30 (.tmp 1) 0 0 rfl rfl faCs0) ?_; simp only [pA]
 refine wpl_run rfl (.slice p0 n0 c0) _ (run_c1 27 (.tmp 9) rfl ⟨N, 0, none⟩ rfl undSQ rfl c8) ?_; simp only [pA]
 refine wpl_run rfl (.pointer (some ⟨N, 0, none⟩)) _ (run_fa 30 (.tmp 1) 0 0 rfl rfl faCs0) ?_; simp only [pA]
 refine wpl_run rfl (.slice p0 n0 c0) _ (run_c1 27 (.tmp 11) rfl ⟨N, 0, none⟩ rfl undSQ rfl c8) ?_; simp only [pA]
 refine wpl_run rfl (.int .i64 (n0 : Int)) _ (run_lenS undSQ (x := .tmp 12) rfl rfl _) ?_; simp only [pA]
 refine wpl_run rfl (.int .i64 ((min n0 8 : Nat) : Int)) _ (run_minN (n := n0) (m := 8) (x := .tmp 13) (y := .const (.int .i64 8)) rfl rfl rfl _) ?_; simp only [pA]
 refine wpl_run rfl (.slice p0 (min n0 8) c0) _ (run_slTo 27 22 undSQ szQ1 (.tmp 10) (.tmp 14) rfl rfl rfl (k := min n0 8) (by omega) _) ?_; simp only [pA]
 have hq1 := (h0.below hN lo7).cut (m := min n0 8) (by omega)
 refine wpl_app rfl (.tmp 8) (.tmp 15) 27 rfl 22 undSQ oneQ _ 1 1 rfl _ hoxb1 _ (min n0 8) c0 rfl (fun j => Q (Z0 j)) hq1.cells (fun j _ => rfl) (by omega) ?_
 intro poa capoa xa1 oa hgr hbk hnn; simp only [pA]
 have k14 := k4.grew hgr (ne_some (by omega))
 have k15 := k5.grew hgr (ne_some (by omega))
 have k16 := k6.grew hgr (ne_some (by omega))
 have lo17 : Below N w xa1 := hgr.below lo7 (by have e2 : xb1.heap.size = _ := hMxb1; omega) (ge_some (by omega))
 have hgeoa : ∀ k, blk poa = some k → N + 3 ≤ k := fun k hk => by
  have e2 : xb1.heap.size = _ := hMxb1
  rcases hbk with e | e <;> rw [e] at hk
  ·have := Option.some.inj hk; simp only at this; omega
  ·have := Option.some.inj hk; omega
 clear k4 c8 c9 c10 c11 c12 c13 k5 k6 lo7 hq1 hoxb1 hgr hbk hnn hMxb1
 refine wpl_run rfl (.slice poa (1 + min n0 8) capoa) _ (run_as (x := .tmp 16) rfl _ rfl) ?_; simp only [pA]
 obtain ⟨M18, hM18⟩ := sz_some xa1
 have lt_19 := k14.ltN hM18
 have lt_20 := k15.ltN hM18
 have lt_21 := k16.ltN hM18
 have hltoa : ∀ k, blk poa = some k → k < M18 := fun k hk => by have := oa.lt k hk; have e2 : xa1.heap.size = _ := hM18; omega
 go_upto_region 2 with fail
 refine wp_region_lit ?_
 try simp only [pA]
 refine wpl_bsQ rfl (.const (.int .u64 3)) rfl 3#64 rfl M18 hM18 ?_
 intro xb2 hMxb2 hbxb2 hoxb2; simp only [pA]
 have k22 := k14.below hbxb2 (by omega)
 have k23 := k15.below hbxb2 (by omega)
 have k24 := k16.below hbxb2 (by omega)
 have lo25 := lo17.trans (hbxb2.mono (by omega))
 have oa2 := oa.below hbxb2 (Nat.le_of_eq hM18)
 clear k14 k15 k16 lo17 oa hbxb2
 have oa := oa2
 clear oa2
 obtain ⟨c26, c27, c28, c29, c30, c31⟩ := ca_cells k22
 refine wpl_run rfl (.pointer (some ⟨N, 1, none⟩)) _ (run_fa 30 (.tmp 1) 1 1 rfl rfl faCs1) ?_; simp only [pA]
 refine wpl_run rfl (.slice p1 n1 c1) _ (run_c1 27 (.tmp 18) rfl ⟨N, 1, none⟩ rfl undSQ rfl c27) ?_; simp only [pA]
 refine wpl_run rfl (.pointer (some ⟨N, 1, none⟩)) _ (run_fa 30 (.tmp 1) 1 1 rfl rfl faCs1) ?_; simp only [pA]
 refine wpl_run rfl (.slice p1 n1 c1) _ (run_c1 27 (.tmp 20) rfl ⟨N, 1, none⟩ rfl undSQ rfl c27) ?_; simp only [pA]
 refine wpl_run rfl (.int .i64 (n1 : Int)) _ (run_lenS undSQ (x := .tmp 21) rfl rfl _) ?_; simp only [pA]
 refine wpl_run rfl (.int .i64 ((min n1 8 : Nat) : Int)) _ (run_minN (n := n1) (m := 8) (x := .tmp 22) (y := .const (.int .i64 8)) rfl rfl rfl _) ?_; simp only [pA]
 refine wpl_run rfl (.slice p1 (min n1 8) c1) _ (run_slTo 27 22 undSQ szQ1 (.tmp 19) (.tmp 23) rfl rfl rfl (k := min n1 8) (by omega) _) ?_; simp only [pA]
 have hq2 := (h1.below hN lo25).cut (m := min n1 8) (by omega)
 refine wpl_app rfl (.tmp 17) (.tmp 24) 27 rfl 22 undSQ oneQ _ 1 1 rfl _ hoxb2 _ (min n1 8) c1 rfl (fun j => Q (Z1 j)) hq2.cells (fun j _ => rfl) (by omega) ?_
 intro pob capob xa2 ob hgr hbk hnn; simp only [pA]
 have k32 := k22.grew hgr (ne_some (by omega))
 have k33 := k23.grew hgr (ne_some (by omega))
 have k34 := k24.grew hgr (ne_some (by omega))
 have oa2 := oa.grew hgr (Or.inr (ne_blk hltoa))
 have lo35 : Below N w xa2 := hgr.below lo25 (by have e2 : xb2.heap.size = _ := hMxb2; omega) (ge_some (by omega))
 have hgeob : ∀ k, blk pob = some k → N + 3 ≤ k := fun k hk => by
  have e2 : xb2.heap.size = _ := hMxb2
  rcases hbk with e | e <;> rw [e] at hk
  ·have := Option.some.inj hk; simp only at this; omega
  ·have := Option.some.inj hk; omega
 clear k22 c26 c27 c28 c29 c30 c31 k23 k24 oa lo25 hq2 hoxb2 hgr hbk hnn hMxb2
 have oa := oa2
 clear oa2
 refine wpl_run rfl (.slice pob (1 + min n1 8) capob) _ (run_as (x := .tmp 25) rfl _ rfl) ?_; simp only [pA]
 obtain ⟨M36, hM36⟩ := sz_some xa2
 have lt_37 := k32.ltN hM36
 have lt_38 := k33.ltN hM36
 have lt_39 := k34.ltN hM36
 clear hltoa
 have hleoa := oa.le
 obtain ⟨goa, rfl, hcoa⟩ := oa.cell (by omega)
 have hgoa : ∀ k, blk (some (⟨goa, 0, none⟩ : Addr)) = some k → N + 3 ≤ k := hgeoa
 clear hgeoa
 have hgeoa : ∀ b, blk (some (⟨goa, 0, none⟩ : Addr)) = some b → N + 3 ≤ b := hgoa
 clear hgoa
 have Loa : Ats xa2 (some ⟨goa, 0, none⟩) (1 + min n0 8) _ := fun _ => ⟨goa, 0, rfl, hcoa⟩
 clear hcoa oa
 obtain ⟨loa, eloa⟩ : ∃ l, l = 1 + min n0 8 := ⟨_, rfl⟩
 rw [← eloa] at Loa hleoa ⊢
 have ELoa := hid eloa
 have lboa : 1 ≤ loa ∧ loa ≤ 9 := by omega
 clear eloa
 have hleob := ob.le
 obtain ⟨gob, rfl, hcob⟩ := ob.cell (by omega)
 have hgob : ∀ k, blk (some (⟨gob, 0, none⟩ : Addr)) = some k → N + 3 ≤ k := hgeob
 clear hgeob
 have hgeob : ∀ b, blk (some (⟨gob, 0, none⟩ : Addr)) = some b → N + 3 ≤ b := hgob
 clear hgob
 have Lob : Ats xa2 (some ⟨gob, 0, none⟩) (1 + min n1 8) _ := fun _ => ⟨gob, 0, rfl, hcob⟩
 clear hcob ob
 obtain ⟨lob, elob⟩ : ∃ l, l = 1 + min n1 8 := ⟨_, rfl⟩
 rw [← elob] at Lob hleob ⊢
 have ELob := hid elob
 have lbob : 1 ≤ lob ∧ lob ≤ 9 := by omega
 clear elob
 rcases Nat.eq_zero_or_pos n0 with hzoa | hzoa
 ·have hnoa := hid (show loa = 1 by have := ELoa.out; omega)
  have hfoa : ¬ (0 < n0) := by omega
  go_upto_region 3 with fail
  obtain ⟨c40, c41, c42, c43, c44, c45⟩ := ca_cells k32
  refine wp_region_later1 (M36) ?_
  try simp only [pA]
  go_big_quiet_step (fail)
  refine later_c1 hM36 27 (.tmp 26) rfl rfl undSQ rfl c40 (by rfl) ?_; simp only [pA]
  refine later_val (fun q => run_lenS undSQ (x := (.tmp 27)) rfl rfl q.w') (by rfl) ?_; simp only [pA]
  go_big_quiet_step (fail)
  refine wpQuiet_nil ?_
  rintro xw46 ⟨qxw46, exw46⟩
  have hbxw46 := qxw46.b
  rw [← exw46] at hbxw46
  clear qxw46 exw46
  have Loa2 := Loa.below hM36 hbxw46
  clear Loa
  have Loa := Loa2
  clear Loa2
  have Lob2 := Lob.below hM36 hbxw46
  clear Lob
  have Lob := Lob2
  clear Lob2
  obtain ⟨M47, hM47⟩ := sz_some xw46
  have lM47 := below_sz hbxw46 hM36 hM47
  have k48 := k32.below hbxw46 (by omega)
  have k49 := k33.below hbxw46 (by omega)
  have k50 := k34.below hbxw46 (by omega)
  have lo51 := lo35.trans (hbxw46.mono (by omega))
  clear k32 c40 c41 c42 c43 c44 c45 k33 k34 lo35 hbxw46
  have L2 : Ats xw46 (some ⟨goa, 0, none⟩) loa (fun j => Q ((fun _ => 5#64) j)) := Ats.one Loa hnoa.out rfl
  clear Loa
  have Loa := L2
  clear L2
  have hloa : lnN n0 = loa ∧ lnE n0 Z0 5#64 = fun _ => 5#64 := by rw [hnoa.out]; exact ln_z hzoa _ _
  have hloa := hid hloa
  clear hfoa hnoa hzoa
  rcases Nat.eq_zero_or_pos n1 with hzob | hzob
  ·have hnob := hid (show lob = 1 by have := ELob.out; omega)
   have hfob : ¬ (0 < n1) := by omega
   go_upto_region 5 with fail
   obtain ⟨c52, c53, c54, c55, c56, c57⟩ := ca_cells k48
   refine wp_region_later1 (M47) ?_
   try simp only [pA]
   go_big_quiet_step (fail)
   refine later_c1 hM47 27 (.tmp 32) rfl rfl undSQ rfl c53 (by rfl) ?_; simp only [pA]
   refine later_val (fun q => run_lenS undSQ (x := (.tmp 33)) rfl rfl q.w') (by rfl) ?_; simp only [pA]
   go_big_quiet_step (fail)
   refine wpQuiet_nil ?_
   rintro xw58 ⟨qxw58, exw58⟩
   have hbxw58 := qxw58.b
   rw [← exw58] at hbxw58
   clear qxw58 exw58
   have Loa2 := Loa.below hM47 hbxw58
   clear Loa
   have Loa := Loa2
   clear Loa2
   have Lob2 := Lob.below hM47 hbxw58
   clear Lob
   have Lob := Lob2
   clear Lob2
   obtain ⟨M59, hM59⟩ := sz_some xw58
   have lM59 := below_sz hbxw58 hM47 hM59
   have k60 := k48.below hbxw58 (by omega)
   have k61 := k49.below hbxw58 (by omega)
   have k62 := k50.below hbxw58 (by omega)
   have lo63 := lo51.trans (hbxw58.mono (by omega))
   clear k48 c52 c53 c54 c55 c56 c57 k49 k50 lo51 hbxw58
   have L2 : Ats xw58 (some ⟨gob, 0, none⟩) lob (fun j => Q ((fun _ => 3#64) j)) := Ats.one Lob hnob.out rfl
   clear Lob
   have Lob := L2
   clear L2
   have hlob : lnN n1 = lob ∧ lnE n1 Z1 3#64 = fun _ => 3#64 := by rw [hnob.out]; exact ln_z hzob _ _
   have hlob := hid hlob
   clear hfob hnob hzob
   have ploa : 1 ≤ loa ∧ loa ≤ 9 := by omega
   have plob : 1 ≤ lob ∧ lob ≤ 9 := by omega
   go_upto_region 7 with fail
   refine wp_region_held (S := fun w' => w'.cell? ⟨N, 2, none⟩ = some (Value.int .i64 z0) ∧ w'.cell? ⟨N, 3, none⟩ = some (Value.int .i64 z1) ∧ w'.cell? ⟨N, 4, none⟩ = some (Q u0) ∧ w'.cell? ⟨N, 5, none⟩ = some (Q u1) ∧ Ats w' (some ⟨goa, 0, none⟩) loa (fun j => Q ((fun _ => 5#64) j)) ∧ Ats w' (some ⟨gob, 0, none⟩) lob (fun j => Q ((fun _ => 3#64) j))) (by kernel_rfl) ?_
   replace k60 : Has xw58.drew N 30 6 (caC ⟨p0, n0, c0, p1, n1, c1, z0, z1, u0, u1⟩) := k60
   replace k61 : Has xw58.drew (N + 1) 34 6 (rC zeroR) := k61
   replace k62 : Has xw58.drew (N + 1 + 1) 34 6 (rC zeroR) := k62
   replace Loa := Ats.drew Loa
   replace Lob := Ats.drew Lob
   replace hM59 : Sz xw58.drew M59 := hM59
   replace lo63 : Below N w xw58.drew := lo63.drew
   change wpAnyH _ _ _ _ _ _ _ _ (World.drew _)
   generalize xw58.drew = xw64 at *
   obtain ⟨c65, c66, c67, c68, c69, c70⟩ := ca_cells k60
   refine held_take (i := 0) (v := (.slice (some ⟨goa, 0, none⟩) loa capoa)) (d := some 38) rfl (by kernel_rfl) (by kernel_rfl) (by kernel_rfl) (by kernel_rfl) (fun _ _ _ h => h) (Or.inl ⟨by rfl, fun wq ⟨hq0, hq1, hq2, hq3, hq4, hq5⟩ => run_mv (x := (.tmp 6)) rfl wq rfl⟩) ⟨c67, c68, c69, c70, Loa, Lob⟩ ?_; simp only [pA]
   refine held_take (i := 1) (v := (Value.pointer (some ⟨N, 4, none⟩))) (d := some 39) rfl (by kernel_rfl) (by kernel_rfl) (by kernel_rfl) (by kernel_rfl) (fun _ _ _ h => h) (Or.inl ⟨by rfl, fun wq ⟨hq0, hq1, hq2, hq3, hq4, hq5⟩ => run_fa 30 (.tmp 1) 3 4 rfl rfl faCs3⟩) ⟨c67, c68, c69, c70, Loa, Lob⟩ ?_; simp only [pA]
   refine held_take (i := 2) (v := (Value.pointer (some ⟨N, 4, none⟩))) (d := some 40) rfl (by kernel_rfl) (by kernel_rfl) (by kernel_rfl) (by kernel_rfl) (fun _ _ _ h => h) (Or.inl ⟨by rfl, fun wq ⟨hq0, hq1, hq2, hq3, hq4, hq5⟩ => run_iaO 23 (.tmp 39) (.const (.int .i64 0)) rfl rfl rfl (k := 0) (r := 4) (by kernel_rfl) rfl wq⟩) ⟨c67, c68, c69, c70, Loa, Lob⟩ ?_; simp only [pA]
   refine held_take (i := 3) (v := (Q u0)) (d := some 41) rfl (by kernel_rfl) (by kernel_rfl) (by kernel_rfl) (by kernel_rfl) (fun _ _ _ h => h) (Or.inl ⟨by rfl, fun wq ⟨hq0, hq1, hq2, hq3, hq4, hq5⟩ => run_c1 22 (.tmp 40) rfl ⟨N, 4, none⟩ rfl und64 rfl hq2⟩) ⟨c67, c68, c69, c70, Loa, Lob⟩ ?_; simp only [pA]
   refine held_take (i := 5) (v := (.slice (some ⟨gob, 0, none⟩) lob capob)) (d := some 43) rfl (by kernel_rfl) (by kernel_rfl) (by kernel_rfl) (by kernel_rfl) (fun _ _ _ h => h) (Or.inl ⟨by rfl, fun wq ⟨hq0, hq1, hq2, hq3, hq4, hq5⟩ => run_mv (x := (.tmp 7)) rfl wq rfl⟩) ⟨c67, c68, c69, c70, Loa, Lob⟩ ?_; simp only [pA]
   refine held_take (i := 6) (v := (Value.pointer (some ⟨N, 4, none⟩))) (d := some 44) rfl (by kernel_rfl) (by kernel_rfl) (by kernel_rfl) (by kernel_rfl) (fun _ _ _ h => h) (Or.inl ⟨by rfl, fun wq ⟨hq0, hq1, hq2, hq3, hq4, hq5⟩ => run_fa 30 (.tmp 1) 3 4 rfl rfl faCs3⟩) ⟨c67, c68, c69, c70, Loa, Lob⟩ ?_; simp only [pA]
   refine held_take (i := 7) (v := (Value.pointer (some ⟨N, 5, none⟩))) (d := some 45) rfl (by kernel_rfl) (by kernel_rfl) (by kernel_rfl) (by kernel_rfl) (fun _ _ _ h => h) (Or.inl ⟨by rfl, fun wq ⟨hq0, hq1, hq2, hq3, hq4, hq5⟩ => run_iaO 23 (.tmp 44) (.const (.int .i64 1)) rfl rfl rfl (k := 1) (r := 5) (by kernel_rfl) rfl wq⟩) ⟨c67, c68, c69, c70, Loa, Lob⟩ ?_; simp only [pA]
   refine held_take (i := 8) (v := (Q u1)) (d := some 46) rfl (by kernel_rfl) (by kernel_rfl) (by kernel_rfl) (by kernel_rfl) (fun _ _ _ h => h) (Or.inl ⟨by rfl, fun wq ⟨hq0, hq1, hq2, hq3, hq4, hq5⟩ => run_c1 22 (.tmp 45) rfl ⟨N, 5, none⟩ rfl und64 rfl hq3⟩) ⟨c67, c68, c69, c70, Loa, Lob⟩ ?_; simp only [pA]
   refine held_take (i := 10) (v := (.slice (some ⟨goa, 0, none⟩) loa capoa)) (d := some 48) rfl (by kernel_rfl) (by kernel_rfl) (by kernel_rfl) (by kernel_rfl) (fun _ _ _ h => h) (Or.inl ⟨by rfl, fun wq ⟨hq0, hq1, hq2, hq3, hq4, hq5⟩ => run_mv (x := (.tmp 6)) rfl wq rfl⟩) ⟨c67, c68, c69, c70, Loa, Lob⟩ ?_; simp only [pA]
   refine held_take (i := 11) (v := (Value.pointer (some ⟨N, 2, none⟩))) (d := some 49) rfl (by kernel_rfl) (by kernel_rfl) (by kernel_rfl) (by kernel_rfl) (fun _ _ _ h => h) (Or.inl ⟨by rfl, fun wq ⟨hq0, hq1, hq2, hq3, hq4, hq5⟩ => run_fa 30 (.tmp 1) 2 2 rfl rfl faCs2⟩) ⟨c67, c68, c69, c70, Loa, Lob⟩ ?_; simp only [pA]
   refine held_take (i := 12) (v := (Value.pointer (some ⟨N, 2, none⟩))) (d := some 50) rfl (by kernel_rfl) (by kernel_rfl) (by kernel_rfl) (by kernel_rfl) (fun _ _ _ h => h) (Or.inl ⟨by rfl, fun wq ⟨hq0, hq1, hq2, hq3, hq4, hq5⟩ => run_iaO 28 (.tmp 49) (.const (.int .i64 0)) rfl rfl rfl (k := 0) (r := 2) (by kernel_rfl) rfl wq⟩) ⟨c67, c68, c69, c70, Loa, Lob⟩ ?_; simp only [pA]
   refine held_take (i := 13) (v := (Value.int .i64 z0)) (d := some 51) rfl (by kernel_rfl) (by kernel_rfl) (by kernel_rfl) (by kernel_rfl) (fun _ _ _ h => h) (Or.inl ⟨by rfl, fun wq ⟨hq0, hq1, hq2, hq3, hq4, hq5⟩ => run_c1 3 (.tmp 50) rfl ⟨N, 2, none⟩ rfl undInt rfl hq0⟩) ⟨c67, c68, c69, c70, Loa, Lob⟩ ?_; simp only [pA]
   refine held_take (i := 14) (v := (Q (BitVec.ofInt 64 z0))) (d := some 52) rfl (by kernel_rfl) (by kernel_rfl) (by kernel_rfl) (by kernel_rfl) (fun _ _ _ h => h) (Or.inl ⟨by rfl, fun wq ⟨hq0, hq1, hq2, hq3, hq4, hq5⟩ => run_iu (x := (.tmp 51)) rfl undInt und64 rfl wq⟩) ⟨c67, c68, c69, c70, Loa, Lob⟩ ?_; simp only [pA]
   refine held_take (i := 15) (v := (.slice (some ⟨goa, 0, none⟩) loa capoa)) (d := some 53) rfl (by kernel_rfl) (by kernel_rfl) (by kernel_rfl) (by kernel_rfl) (fun _ _ _ h => h) (Or.inl ⟨by rfl, fun wq ⟨hq0, hq1, hq2, hq3, hq4, hq5⟩ => run_mv (x := (.tmp 6)) rfl wq rfl⟩) ⟨c67, c68, c69, c70, Loa, Lob⟩ ?_; simp only [pA]
   refine held_take (i := 16) (v := (Value.int .i64 (loa : Int))) (d := some 54) rfl (by kernel_rfl) (by kernel_rfl) (by kernel_rfl) (by kernel_rfl) (fun _ _ _ h => h) (Or.inl ⟨by rfl, fun wq ⟨hq0, hq1, hq2, hq3, hq4, hq5⟩ => run_lenS undSQ (x := (.tmp 53)) rfl rfl wq⟩) ⟨c67, c68, c69, c70, Loa, Lob⟩ ?_; simp only [pA]
   refine held_take (i := 17) (v := (Q (BitVec.ofNat 64 loa))) (d := some 55) rfl (by kernel_rfl) (by kernel_rfl) (by kernel_rfl) (by kernel_rfl) (fun _ _ _ h => h) (Or.inl ⟨by rfl, fun wq ⟨hq0, hq1, hq2, hq3, hq4, hq5⟩ => run_nu (x := (.tmp 54)) rfl undInt und64 rfl wq⟩) ⟨c67, c68, c69, c70, Loa, Lob⟩ ?_; simp only [pA]
   refine held_take (i := 18) (v := (Q ((BitVec.ofInt 64 z0) % (BitVec.ofNat 64 loa)))) (d := some 56) rfl (by kernel_rfl) (by kernel_rfl) (by kernel_rfl) (by kernel_rfl) (fun _ _ _ h => h) (Or.inl ⟨by rfl, fun wq ⟨hq0, hq1, hq2, hq3, hq4, hq5⟩ => (bin_rem _ (BitVec.ofInt 64 z0) (BitVec.ofNat 64 loa) (nz_of (by omega))) _ _ (.tmp 52) (.tmp 55) _ wq rfl rfl rfl⟩) ⟨c67, c68, c69, c70, Loa, Lob⟩ ?_; simp only [pA]
   refine held_take (i := 19) (v := (Value.int .i64 ((rm z0 loa) : Int))) (d := some 57) rfl (by kernel_rfl) (by kernel_rfl) (by kernel_rfl) (by kernel_rfl) (fun _ _ _ h => h) (Or.inl ⟨by rfl, fun wq ⟨hq0, hq1, hq2, hq3, hq4, hq5⟩ => run_rm (x := (.tmp 56)) rfl und64 undInt (z := z0) (m := loa) (by omega) rfl wq⟩) ⟨c67, c68, c69, c70, Loa, Lob⟩ ?_; simp only [pA]
   refine held_take (i := 20) (v := (Value.pointer (some ⟨goa, (0 + (rm z0 loa)), none⟩))) (d := some 58) rfl (by kernel_rfl) (by kernel_rfl) (by kernel_rfl) (by kernel_rfl) (fun _ _ _ h => h) (Or.inl ⟨by rfl, fun wq ⟨hq0, hq1, hq2, hq3, hq4, hq5⟩ => run_ixL 27 22 undSQ szQ1 (.tmp 48) (.tmp 57) rfl rfl rfl (k := (rm z0 loa)) (rm_lt _ _ (by omega)) wq⟩) ⟨c67, c68, c69, c70, Loa, Lob⟩ ?_; simp only [pA]
   refine held_take (i := 21) (v := (Q ((fun _ => 5#64) (rm z0 loa)))) (d := some 59) rfl (by kernel_rfl) (by kernel_rfl) (by kernel_rfl) (by kernel_rfl) (fun _ _ _ h => h) (Or.inl ⟨by rfl, fun wq ⟨hq0, hq1, hq2, hq3, hq4, hq5⟩ => run_c1 22 (.tmp 58) rfl ⟨goa, (0 + (rm z0 loa)), none⟩ rfl und64 rfl (at_L hq4 (rm_lt _ _ (by omega)))⟩) ⟨c67, c68, c69, c70, Loa, Lob⟩ ?_; simp only [pA]
   refine held_take (i := 22) (v := (.slice (some ⟨gob, 0, none⟩) lob capob)) (d := some 60) rfl (by kernel_rfl) (by kernel_rfl) (by kernel_rfl) (by kernel_rfl) (fun _ _ _ h => h) (Or.inl ⟨by rfl, fun wq ⟨hq0, hq1, hq2, hq3, hq4, hq5⟩ => run_mv (x := (.tmp 7)) rfl wq rfl⟩) ⟨c67, c68, c69, c70, Loa, Lob⟩ ?_; simp only [pA]
   refine held_take (i := 23) (v := (Value.pointer (some ⟨N, 2, none⟩))) (d := some 61) rfl (by kernel_rfl) (by kernel_rfl) (by kernel_rfl) (by kernel_rfl) (fun _ _ _ h => h) (Or.inl ⟨by rfl, fun wq ⟨hq0, hq1, hq2, hq3, hq4, hq5⟩ => run_fa 30 (.tmp 1) 2 2 rfl rfl faCs2⟩) ⟨c67, c68, c69, c70, Loa, Lob⟩ ?_; simp only [pA]
   refine held_take (i := 24) (v := (Value.pointer (some ⟨N, 3, none⟩))) (d := some 62) rfl (by kernel_rfl) (by kernel_rfl) (by kernel_rfl) (by kernel_rfl) (fun _ _ _ h => h) (Or.inl ⟨by rfl, fun wq ⟨hq0, hq1, hq2, hq3, hq4, hq5⟩ => run_iaO 28 (.tmp 61) (.const (.int .i64 1)) rfl rfl rfl (k := 1) (r := 3) (by kernel_rfl) rfl wq⟩) ⟨c67, c68, c69, c70, Loa, Lob⟩ ?_; simp only [pA]
   refine held_take (i := 25) (v := (Value.int .i64 z1)) (d := some 63) rfl (by kernel_rfl) (by kernel_rfl) (by kernel_rfl) (by kernel_rfl) (fun _ _ _ h => h) (Or.inl ⟨by rfl, fun wq ⟨hq0, hq1, hq2, hq3, hq4, hq5⟩ => run_c1 3 (.tmp 62) rfl ⟨N, 3, none⟩ rfl undInt rfl hq1⟩) ⟨c67, c68, c69, c70, Loa, Lob⟩ ?_; simp only [pA]
   refine held_take (i := 26) (v := (Q (BitVec.ofInt 64 z1))) (d := some 64) rfl (by kernel_rfl) (by kernel_rfl) (by kernel_rfl) (by kernel_rfl) (fun _ _ _ h => h) (Or.inl ⟨by rfl, fun wq ⟨hq0, hq1, hq2, hq3, hq4, hq5⟩ => run_iu (x := (.tmp 63)) rfl undInt und64 rfl wq⟩) ⟨c67, c68, c69, c70, Loa, Lob⟩ ?_; simp only [pA]
   refine held_take (i := 27) (v := (.slice (some ⟨gob, 0, none⟩) lob capob)) (d := some 65) rfl (by kernel_rfl) (by kernel_rfl) (by kernel_rfl) (by kernel_rfl) (fun _ _ _ h => h) (Or.inl ⟨by rfl, fun wq ⟨hq0, hq1, hq2, hq3, hq4, hq5⟩ => run_mv (x := (.tmp 7)) rfl wq rfl⟩) ⟨c67, c68, c69, c70, Loa, Lob⟩ ?_; simp only [pA]
   refine held_take (i := 28) (v := (Value.int .i64 (lob : Int))) (d := some 66) rfl (by kernel_rfl) (by kernel_rfl) (by kernel_rfl) (by kernel_rfl) (fun _ _ _ h => h) (Or.inl ⟨by rfl, fun wq ⟨hq0, hq1, hq2, hq3, hq4, hq5⟩ => run_lenS undSQ (x := (.tmp 65)) rfl rfl wq⟩) ⟨c67, c68, c69, c70, Loa, Lob⟩ ?_; simp only [pA]
   refine held_take (i := 29) (v := (Q (BitVec.ofNat 64 lob))) (d := some 67) rfl (by kernel_rfl) (by kernel_rfl) (by kernel_rfl) (by kernel_rfl) (fun _ _ _ h => h) (Or.inl ⟨by rfl, fun wq ⟨hq0, hq1, hq2, hq3, hq4, hq5⟩ => run_nu (x := (.tmp 66)) rfl undInt und64 rfl wq⟩) ⟨c67, c68, c69, c70, Loa, Lob⟩ ?_; simp only [pA]
   refine held_take (i := 30) (v := (Q ((BitVec.ofInt 64 z1) % (BitVec.ofNat 64 lob)))) (d := some 68) rfl (by kernel_rfl) (by kernel_rfl) (by kernel_rfl) (by kernel_rfl) (fun _ _ _ h => h) (Or.inl ⟨by rfl, fun wq ⟨hq0, hq1, hq2, hq3, hq4, hq5⟩ => (bin_rem _ (BitVec.ofInt 64 z1) (BitVec.ofNat 64 lob) (nz_of (by omega))) _ _ (.tmp 64) (.tmp 67) _ wq rfl rfl rfl⟩) ⟨c67, c68, c69, c70, Loa, Lob⟩ ?_; simp only [pA]
   refine held_take (i := 31) (v := (Value.int .i64 ((rm z1 lob) : Int))) (d := some 69) rfl (by kernel_rfl) (by kernel_rfl) (by kernel_rfl) (by kernel_rfl) (fun _ _ _ h => h) (Or.inl ⟨by rfl, fun wq ⟨hq0, hq1, hq2, hq3, hq4, hq5⟩ => run_rm (x := (.tmp 68)) rfl und64 undInt (z := z1) (m := lob) (by omega) rfl wq⟩) ⟨c67, c68, c69, c70, Loa, Lob⟩ ?_; simp only [pA]
   refine held_take (i := 32) (v := (Value.pointer (some ⟨gob, (0 + (rm z1 lob)), none⟩))) (d := some 70) rfl (by kernel_rfl) (by kernel_rfl) (by kernel_rfl) (by kernel_rfl) (fun _ _ _ h => h) (Or.inl ⟨by rfl, fun wq ⟨hq0, hq1, hq2, hq3, hq4, hq5⟩ => run_ixL 27 22 undSQ szQ1 (.tmp 60) (.tmp 69) rfl rfl rfl (k := (rm z1 lob)) (rm_lt _ _ (by omega)) wq⟩) ⟨c67, c68, c69, c70, Loa, Lob⟩ ?_; simp only [pA]
   refine held_take (i := 33) (v := (Q ((fun _ => 3#64) (rm z1 lob)))) (d := some 71) rfl (by kernel_rfl) (by kernel_rfl) (by kernel_rfl) (by kernel_rfl) (fun _ _ _ h => h) (Or.inl ⟨by rfl, fun wq ⟨hq0, hq1, hq2, hq3, hq4, hq5⟩ => run_c1 22 (.tmp 70) rfl ⟨gob, (0 + (rm z1 lob)), none⟩ rfl und64 rfl (at_L hq5 (rm_lt _ _ (by omega)))⟩) ⟨c67, c68, c69, c70, Loa, Lob⟩ ?_; simp only [pA]
   refine wpAnyH_all (rs := [4]) (by kernel_rfl) (by simp) ?_
   intro iq hiq; simp only [List.mem_singleton] at hiq; subst hiq
   refine opg_list rfl ?_
   refine wpl_clD rfl (d := some 42) rfl ?_
   refine wpl_cl rfl 39 _ _ rfl #[(.slice (some ⟨goa, 0, none⟩) loa capoa), (Q u0)] (by simp only [List.map_toArray, List.map_cons, List.map_nil] <;> rfl) (by kernel_rfl) (Value.agg (cellsOf (rC (arA (fun _ => 5#64) loa u0)) 6)) (Around_any (fun _ => 5#64) loa (by omega) (by omega) goa 0 capoa u0 xw64 M59 hM59 Loa) ?_
   intro xw71 hbxw71; simp only [pA]
   have Loa2 := Loa.below hM59 hbxw71
   clear Loa
   have Loa := Loa2
   clear Loa2
   have Lob2 := Lob.below hM59 hbxw71
   clear Lob
   have Lob := Lob2
   clear Lob2
   obtain ⟨M72, hM72⟩ := sz_some xw71
   have lM72 := below_sz hbxw71 hM59 hM72
   have k73 := k60.below hbxw71 (by omega)
   have k74 := k61.below hbxw71 (by omega)
   have k75 := k62.below hbxw71 (by omega)
   have lo76 := lo63.trans (hbxw71.mono (by omega))
   clear k60 c65 c66 c67 c68 c69 c70 k61 k62 lo63 hbxw71
   obtain ⟨c77, c78, c79, c80, c81, c82⟩ := ca_cells k73
   refine ⟨⟨c79, c80, c81, c82, Loa, Lob⟩, ?_⟩
   refine wpAnyH_all (rs := [9]) (by kernel_rfl) (by simp) ?_
   intro iq hiq; simp only [List.mem_singleton] at hiq; subst hiq
   refine opg_list rfl ?_
   refine wpl_clD rfl (d := some 47) rfl ?_
   refine wpl_cl rfl 39 _ _ rfl #[(.slice (some ⟨gob, 0, none⟩) lob capob), (Q u1)] (by simp only [List.map_toArray, List.map_cons, List.map_nil] <;> rfl) (by kernel_rfl) (Value.agg (cellsOf (rC (arA (fun _ => 3#64) lob u1)) 6)) (Around_any (fun _ => 3#64) lob (by omega) (by omega) gob 0 capob u1 xw71 M72 hM72 Lob) ?_
   intro xw83 hbxw83; simp only [pA]
   have Loa2 := Loa.below hM72 hbxw83
   clear Loa
   have Loa := Loa2
   clear Loa2
   have Lob2 := Lob.below hM72 hbxw83
   clear Lob
   have Lob := Lob2
   clear Lob2
   obtain ⟨M84, hM84⟩ := sz_some xw83
   have lM84 := below_sz hbxw83 hM72 hM84
   have k85 := k73.below hbxw83 (by omega)
   have k86 := k74.below hbxw83 (by omega)
   have k87 := k75.below hbxw83 (by omega)
   have lo88 := lo76.trans (hbxw83.mono (by omega))
   clear k73 c77 c78 c79 c80 c81 c82 k74 k75 lo76 hbxw83
   obtain ⟨c89, c90, c91, c92, c93, c94⟩ := ca_cells k85
   refine ⟨⟨c91, c92, c93, c94, Loa, Lob⟩, ?_⟩
   refine wpAnyH_all (rs := [34]) (by kernel_rfl) (by simp) ?_
   intro iq hiq; simp only [List.mem_singleton] at hiq; subst hiq
   refine opg_list rfl ?_
   refine wpl_storeN (by rfl) (by kernel_rfl) 34 (.tmp 2) (.tmp 42) rfl (N + 1) 6 (rC (arA (fun _ => 5#64) loa u0)) rfl rfl 34 _ k86 szRU (fun j _ => rC_one _ j) ?_
   intro xw95 t96 k97; try simp only [pA]
   have k98 := k85.touch t96 (by omega)
   have k99 := k87.touch t96 (by omega)
   have lo100 := t96.below lo88 (by omega)
   have h101 := t96.sz hM84
   have Loa2 := Loa.touch t96 (fun b hb => by have := hgeoa b hb; omega)
   clear Loa
   have Loa := Loa2
   clear Loa2
   have Lob2 := Lob.touch t96 (fun b hb => by have := hgeob b hb; omega)
   clear Lob
   have Lob := Lob2
   clear Lob2
   clear k86 k85 c89 c90 c91 c92 c93 c94 k87 lo88 hM84 t96
   obtain ⟨c102, c103, c104, c105, c106, c107⟩ := ca_cells k98
   refine ⟨⟨c104, c105, c106, c107, Loa, Lob⟩, ?_⟩
   refine wpAnyH_all (rs := [35]) (by kernel_rfl) (by simp) ?_
   intro iq hiq; simp only [List.mem_singleton] at hiq; subst hiq
   refine opg_list rfl ?_
   refine wpl_storeN (by rfl) (by kernel_rfl) 34 (.tmp 3) (.tmp 47) rfl (N + 1 + 1) 6 (rC (arA (fun _ => 3#64) lob u1)) rfl rfl 34 _ k99 szRU (fun j _ => rC_one _ j) ?_
   intro xw108 t109 k110; try simp only [pA]
   have k111 := k98.touch t109 (by omega)
   have k112 := k97.touch t109 (by omega)
   have lo113 := t109.below lo100 (by omega)
   have h114 := t109.sz h101
   have Loa2 := Loa.touch t109 (fun b hb => by have := hgeoa b hb; omega)
   clear Loa
   have Loa := Loa2
   clear Loa2
   have Lob2 := Lob.touch t109 (fun b hb => by have := hgeob b hb; omega)
   clear Lob
   have Lob := Lob2
   clear Lob2
   clear k99 k98 c102 c103 c104 c105 c106 c107 k97 lo100 h101 t109
   obtain ⟨c115, c116, c117, c118, c119, c120⟩ := ca_cells k111
   refine ⟨⟨c117, c118, c119, c120, Loa, Lob⟩, ?_⟩
   refine wpAnyH_all (rs := [36]) (by kernel_rfl) (by simp) ?_
   intro iq hiq; simp only [List.mem_singleton] at hiq; subst hiq
   refine opg_list rfl ?_
   refine wpl_runD rfl (d := some 4) rfl (Q ((fun _ => 5#64) (rm z0 loa))) (run_as (x := (.tmp 59)) rfl _ rfl) ?_; simp only [pA]
   refine ⟨⟨c117, c118, c119, c120, Loa, Lob⟩, ?_⟩
   refine wpAnyH_all (rs := [37]) (by kernel_rfl) (by simp) ?_
   intro iq hiq; simp only [List.mem_singleton] at hiq; subst hiq
   refine opg_list rfl ?_
   refine wpl_runD rfl (d := some 5) rfl (Q ((fun _ => 3#64) (rm z1 lob))) (run_as (x := (.tmp 71)) rfl _ rfl) ?_; simp only [pA]
   refine ⟨⟨c117, c118, c119, c120, Loa, Lob⟩, ?_⟩
   refine wpAnyH_done (by kernel_rfl) ?_ _
   obtain ⟨M121, hM121⟩ := sz_some xw108
   have lt_122 := k111.ltN hM121
   have lt_123 := k112.ltN hM121
   have lt_124 := k110.ltN hM121
   go_wp2_with fail
   refine post_rrqq rfl (N + 1) (N + 1 + 1) rfl rfl (x := (Q ((fun _ => 5#64) (rm z0 loa)))) (y := (Q ((fun _ => 3#64) (rm z1 lob)))) k112 k110 undRU undRU szRU szRU rfl rfl rfl ?_
   exact ⟨by rw [ER.out, hloa.out.1, hloa.out.2, hlob.out.1, hlob.out.2], lo113⟩
  ·obtain ⟨mb, emb⟩ : ∃ m, m = min n1 8 := ⟨_, rfl⟩
   have hnob := hid (show lob = mb + 1 by have := ELob.out; omega)
   have hcpob : 1 < capob := by have := hnob.out; omega
   have bmb : 1 ≤ mb ∧ mb ≤ 8 := by omega
   go_upto_region 5 with fail
   obtain ⟨c52, c53, c54, c55, c56, c57⟩ := ca_cells k48
   refine wp_region_later1 (M47) ?_
   try simp only [pA]
   go_big_quiet_step (fail)
   refine later_c1 hM47 27 (.tmp 32) rfl rfl undSQ rfl c53 (by rfl) ?_; simp only [pA]
   refine later_val (fun q => run_lenS undSQ (x := (.tmp 33)) rfl rfl q.w') (by rfl) ?_; simp only [pA]
   go_big_quiet_step (fail)
   refine wpQuiet_nil ?_
   rintro xw58 ⟨qxw58, exw58⟩
   have hbxw58 := qxw58.b
   rw [← exw58] at hbxw58
   clear qxw58 exw58
   have Loa2 := Loa.below hM47 hbxw58
   clear Loa
   have Loa := Loa2
   clear Loa2
   have Lob2 := Lob.below hM47 hbxw58
   clear Lob
   have Lob := Lob2
   clear Lob2
   obtain ⟨M59, hM59⟩ := sz_some xw58
   have lM59 := below_sz hbxw58 hM47 hM59
   have k60 := k48.below hbxw58 (by omega)
   have k61 := k49.below hbxw58 (by omega)
   have k62 := k50.below hbxw58 (by omega)
   have lo63 := lo51.trans (hbxw58.mono (by omega))
   clear k48 c52 c53 c54 c55 c56 c57 k49 k50 lo51 hbxw58
   go_upto_region 6 with fail
   refine wp_region_lit ?_
   try simp only [pA]
   refine wpl_run rfl (.slice (some ⟨gob, 0, none⟩) lob capob) _ (run_mv (x := .tmp 7) rfl _ rfl) ?_; simp only [pA]
   refine wpl_run rfl (.slice (some ⟨gob, 0 + 1, none⟩) mb (capob - 1)) _ (run_slOne 27 22 undSQ szQ1 (.tmp 36) rfl rfl (m := mb) hnob.out hcpob _) ?_; simp only [pA]
   refine wpl_run rfl (.slice (some ⟨gob, 0 + 1, none⟩) mb (capob - 1)) _ (run_as (x := .tmp 37) rfl _ rfl) ?_; simp only [pA]
   rw [hnob.out] at Lob
   have L2 : Ats xw58 (some ⟨gob, 0 + 1, none⟩) mb (fun j => Q (Z1 j)) := Lob.tail.congr (fun j hj => by show cat _ 1 _ (j + 1) = _; unfold cat; rw [if_neg (by omega), Nat.add_sub_cancel])
   clear Lob
   have Lob := L2
   clear L2
   have hlob := hid (show lnN n1 = mb ∧ lnE n1 Z1 3#64 = Z1 by rw [emb]; exact ln_s hzob _ _)
   clear hnob hzob emb hcpob
   have ploa : 1 ≤ loa ∧ loa ≤ 9 := by omega
   have plob : 1 ≤ mb ∧ mb ≤ 9 := by omega
   go_upto_region 7 with fail
   refine wp_region_held (S := fun w' => w'.cell? ⟨N, 2, none⟩ = some (Value.int .i64 z0) ∧ w'.cell? ⟨N, 3, none⟩ = some (Value.int .i64 z1) ∧ w'.cell? ⟨N, 4, none⟩ = some (Q u0) ∧ w'.cell? ⟨N, 5, none⟩ = some (Q u1) ∧ Ats w' (some ⟨goa, 0, none⟩) loa (fun j => Q ((fun _ => 5#64) j)) ∧ Ats w' (some ⟨gob, (0 + 1), none⟩) mb (fun j => Q (Z1 j))) (by kernel_rfl) ?_
   replace k60 : Has xw58.drew N 30 6 (caC ⟨p0, n0, c0, p1, n1, c1, z0, z1, u0, u1⟩) := k60
   replace k61 : Has xw58.drew (N + 1) 34 6 (rC zeroR) := k61
   replace k62 : Has xw58.drew (N + 1 + 1) 34 6 (rC zeroR) := k62
   replace Loa := Ats.drew Loa
   replace Lob := Ats.drew Lob
   replace hM59 : Sz xw58.drew M59 := hM59
   replace lo63 : Below N w xw58.drew := lo63.drew
   change wpAnyH _ _ _ _ _ _ _ _ (World.drew _)
   generalize xw58.drew = xw64 at *
   obtain ⟨c65, c66, c67, c68, c69, c70⟩ := ca_cells k60
   refine held_take (i := 0) (v := (.slice (some ⟨goa, 0, none⟩) loa capoa)) (d := some 38) rfl (by kernel_rfl) (by kernel_rfl) (by kernel_rfl) (by kernel_rfl) (fun _ _ _ h => h) (Or.inl ⟨by rfl, fun wq ⟨hq0, hq1, hq2, hq3, hq4, hq5⟩ => run_mv (x := (.tmp 6)) rfl wq rfl⟩) ⟨c67, c68, c69, c70, Loa, Lob⟩ ?_; simp only [pA]
   refine held_take (i := 1) (v := (Value.pointer (some ⟨N, 4, none⟩))) (d := some 39) rfl (by kernel_rfl) (by kernel_rfl) (by kernel_rfl) (by kernel_rfl) (fun _ _ _ h => h) (Or.inl ⟨by rfl, fun wq ⟨hq0, hq1, hq2, hq3, hq4, hq5⟩ => run_fa 30 (.tmp 1) 3 4 rfl rfl faCs3⟩) ⟨c67, c68, c69, c70, Loa, Lob⟩ ?_; simp only [pA]
   refine held_take (i := 2) (v := (Value.pointer (some ⟨N, 4, none⟩))) (d := some 40) rfl (by kernel_rfl) (by kernel_rfl) (by kernel_rfl) (by kernel_rfl) (fun _ _ _ h => h) (Or.inl ⟨by rfl, fun wq ⟨hq0, hq1, hq2, hq3, hq4, hq5⟩ => run_iaO 23 (.tmp 39) (.const (.int .i64 0)) rfl rfl rfl (k := 0) (r := 4) (by kernel_rfl) rfl wq⟩) ⟨c67, c68, c69, c70, Loa, Lob⟩ ?_; simp only [pA]
   refine held_take (i := 3) (v := (Q u0)) (d := some 41) rfl (by kernel_rfl) (by kernel_rfl) (by kernel_rfl) (by kernel_rfl) (fun _ _ _ h => h) (Or.inl ⟨by rfl, fun wq ⟨hq0, hq1, hq2, hq3, hq4, hq5⟩ => run_c1 22 (.tmp 40) rfl ⟨N, 4, none⟩ rfl und64 rfl hq2⟩) ⟨c67, c68, c69, c70, Loa, Lob⟩ ?_; simp only [pA]
   refine held_take (i := 5) (v := (.slice (some ⟨gob, 0 + 1, none⟩) mb (capob - 1))) (d := some 43) rfl (by kernel_rfl) (by kernel_rfl) (by kernel_rfl) (by kernel_rfl) (fun _ _ _ h => h) (Or.inl ⟨by rfl, fun wq ⟨hq0, hq1, hq2, hq3, hq4, hq5⟩ => run_mv (x := (.tmp 7)) rfl wq rfl⟩) ⟨c67, c68, c69, c70, Loa, Lob⟩ ?_; simp only [pA]
   refine held_take (i := 6) (v := (Value.pointer (some ⟨N, 4, none⟩))) (d := some 44) rfl (by kernel_rfl) (by kernel_rfl) (by kernel_rfl) (by kernel_rfl) (fun _ _ _ h => h) (Or.inl ⟨by rfl, fun wq ⟨hq0, hq1, hq2, hq3, hq4, hq5⟩ => run_fa 30 (.tmp 1) 3 4 rfl rfl faCs3⟩) ⟨c67, c68, c69, c70, Loa, Lob⟩ ?_; simp only [pA]
   refine held_take (i := 7) (v := (Value.pointer (some ⟨N, 5, none⟩))) (d := some 45) rfl (by kernel_rfl) (by kernel_rfl) (by kernel_rfl) (by kernel_rfl) (fun _ _ _ h => h) (Or.inl ⟨by rfl, fun wq ⟨hq0, hq1, hq2, hq3, hq4, hq5⟩ => run_iaO 23 (.tmp 44) (.const (.int .i64 1)) rfl rfl rfl (k := 1) (r := 5) (by kernel_rfl) rfl wq⟩) ⟨c67, c68, c69, c70, Loa, Lob⟩ ?_; simp only [pA]
   refine held_take (i := 8) (v := (Q u1)) (d := some 46) rfl (by kernel_rfl) (by kernel_rfl) (by kernel_rfl) (by kernel_rfl) (fun _ _ _ h => h) (Or.inl ⟨by rfl, fun wq ⟨hq0, hq1, hq2, hq3, hq4, hq5⟩ => run_c1 22 (.tmp 45) rfl ⟨N, 5, none⟩ rfl und64 rfl hq3⟩) ⟨c67, c68, c69, c70, Loa, Lob⟩ ?_; simp only [pA]
   refine held_take (i := 10) (v := (.slice (some ⟨goa, 0, none⟩) loa capoa)) (d := some 48) rfl (by kernel_rfl) (by kernel_rfl) (by kernel_rfl) (by kernel_rfl) (fun _ _ _ h => h) (Or.inl ⟨by rfl, fun wq ⟨hq0, hq1, hq2, hq3, hq4, hq5⟩ => run_mv (x := (.tmp 6)) rfl wq rfl⟩) ⟨c67, c68, c69, c70, Loa, Lob⟩ ?_; simp only [pA]
   refine held_take (i := 11) (v := (Value.pointer (some ⟨N, 2, none⟩))) (d := some 49) rfl (by kernel_rfl) (by kernel_rfl) (by kernel_rfl) (by kernel_rfl) (fun _ _ _ h => h) (Or.inl ⟨by rfl, fun wq ⟨hq0, hq1, hq2, hq3, hq4, hq5⟩ => run_fa 30 (.tmp 1) 2 2 rfl rfl faCs2⟩) ⟨c67, c68, c69, c70, Loa, Lob⟩ ?_; simp only [pA]
   refine held_take (i := 12) (v := (Value.pointer (some ⟨N, 2, none⟩))) (d := some 50) rfl (by kernel_rfl) (by kernel_rfl) (by kernel_rfl) (by kernel_rfl) (fun _ _ _ h => h) (Or.inl ⟨by rfl, fun wq ⟨hq0, hq1, hq2, hq3, hq4, hq5⟩ => run_iaO 28 (.tmp 49) (.const (.int .i64 0)) rfl rfl rfl (k := 0) (r := 2) (by kernel_rfl) rfl wq⟩) ⟨c67, c68, c69, c70, Loa, Lob⟩ ?_; simp only [pA]
   refine held_take (i := 13) (v := (Value.int .i64 z0)) (d := some 51) rfl (by kernel_rfl) (by kernel_rfl) (by kernel_rfl) (by kernel_rfl) (fun _ _ _ h => h) (Or.inl ⟨by rfl, fun wq ⟨hq0, hq1, hq2, hq3, hq4, hq5⟩ => run_c1 3 (.tmp 50) rfl ⟨N, 2, none⟩ rfl undInt rfl hq0⟩) ⟨c67, c68, c69, c70, Loa, Lob⟩ ?_; simp only [pA]
   refine held_take (i := 14) (v := (Q (BitVec.ofInt 64 z0))) (d := some 52) rfl (by kernel_rfl) (by kernel_rfl) (by kernel_rfl) (by kernel_rfl) (fun _ _ _ h => h) (Or.inl ⟨by rfl, fun wq ⟨hq0, hq1, hq2, hq3, hq4, hq5⟩ => run_iu (x := (.tmp 51)) rfl undInt und64 rfl wq⟩) ⟨c67, c68, c69, c70, Loa, Lob⟩ ?_; simp only [pA]
   refine held_take (i := 15) (v := (.slice (some ⟨goa, 0, none⟩) loa capoa)) (d := some 53) rfl (by kernel_rfl) (by kernel_rfl) (by kernel_rfl) (by kernel_rfl) (fun _ _ _ h => h) (Or.inl ⟨by rfl, fun wq ⟨hq0, hq1, hq2, hq3, hq4, hq5⟩ => run_mv (x := (.tmp 6)) rfl wq rfl⟩) ⟨c67, c68, c69, c70, Loa, Lob⟩ ?_; simp only [pA]
   refine held_take (i := 16) (v := (Value.int .i64 (loa : Int))) (d := some 54) rfl (by kernel_rfl) (by kernel_rfl) (by kernel_rfl) (by kernel_rfl) (fun _ _ _ h => h) (Or.inl ⟨by rfl, fun wq ⟨hq0, hq1, hq2, hq3, hq4, hq5⟩ => run_lenS undSQ (x := (.tmp 53)) rfl rfl wq⟩) ⟨c67, c68, c69, c70, Loa, Lob⟩ ?_; simp only [pA]
   refine held_take (i := 17) (v := (Q (BitVec.ofNat 64 loa))) (d := some 55) rfl (by kernel_rfl) (by kernel_rfl) (by kernel_rfl) (by kernel_rfl) (fun _ _ _ h => h) (Or.inl ⟨by rfl, fun wq ⟨hq0, hq1, hq2, hq3, hq4, hq5⟩ => run_nu (x := (.tmp 54)) rfl undInt und64 rfl wq⟩) ⟨c67, c68, c69, c70, Loa, Lob⟩ ?_; simp only [pA]
   refine held_take (i := 18) (v := (Q ((BitVec.ofInt 64 z0) % (BitVec.ofNat 64 loa)))) (d := some 56) rfl (by kernel_rfl) (by kernel_rfl) (by kernel_rfl) (by kernel_rfl) (fun _ _ _ h => h) (Or.inl ⟨by rfl, fun wq ⟨hq0, hq1, hq2, hq3, hq4, hq5⟩ => (bin_rem _ (BitVec.ofInt 64 z0) (BitVec.ofNat 64 loa) (nz_of (by omega))) _ _ (.tmp 52) (.tmp 55) _ wq rfl rfl rfl⟩) ⟨c67, c68, c69, c70, Loa, Lob⟩ ?_; simp only [pA]
   refine held_take (i := 19) (v := (Value.int .i64 ((rm z0 loa) : Int))) (d := some 57) rfl (by kernel_rfl) (by kernel_rfl) (by kernel_rfl) (by kernel_rfl) (fun _ _ _ h => h) (Or.inl ⟨by rfl, fun wq ⟨hq0, hq1, hq2, hq3, hq4, hq5⟩ => run_rm (x := (.tmp 56)) rfl und64 undInt (z := z0) (m := loa) (by omega) rfl wq⟩) ⟨c67, c68, c69, c70, Loa, Lob⟩ ?_; simp only [pA]
   refine held_take (i := 20) (v := (Value.pointer (some ⟨goa, (0 + (rm z0 loa)), none⟩))) (d := some 58) rfl (by kernel_rfl) (by kernel_rfl) (by kernel_rfl) (by kernel_rfl) (fun _ _ _ h => h) (Or.inl ⟨by rfl, fun wq ⟨hq0, hq1, hq2, hq3, hq4, hq5⟩ => run_ixL 27 22 undSQ szQ1 (.tmp 48) (.tmp 57) rfl rfl rfl (k := (rm z0 loa)) (rm_lt _ _ (by omega)) wq⟩) ⟨c67, c68, c69, c70, Loa, Lob⟩ ?_; simp only [pA]
   refine held_take (i := 21) (v := (Q ((fun _ => 5#64) (rm z0 loa)))) (d := some 59) rfl (by kernel_rfl) (by kernel_rfl) (by kernel_rfl) (by kernel_rfl) (fun _ _ _ h => h) (Or.inl ⟨by rfl, fun wq ⟨hq0, hq1, hq2, hq3, hq4, hq5⟩ => run_c1 22 (.tmp 58) rfl ⟨goa, (0 + (rm z0 loa)), none⟩ rfl und64 rfl (at_L hq4 (rm_lt _ _ (by omega)))⟩) ⟨c67, c68, c69, c70, Loa, Lob⟩ ?_; simp only [pA]
   refine held_take (i := 22) (v := (.slice (some ⟨gob, 0 + 1, none⟩) mb (capob - 1))) (d := some 60) rfl (by kernel_rfl) (by kernel_rfl) (by kernel_rfl) (by kernel_rfl) (fun _ _ _ h => h) (Or.inl ⟨by rfl, fun wq ⟨hq0, hq1, hq2, hq3, hq4, hq5⟩ => run_mv (x := (.tmp 7)) rfl wq rfl⟩) ⟨c67, c68, c69, c70, Loa, Lob⟩ ?_; simp only [pA]
   refine held_take (i := 23) (v := (Value.pointer (some ⟨N, 2, none⟩))) (d := some 61) rfl (by kernel_rfl) (by kernel_rfl) (by kernel_rfl) (by kernel_rfl) (fun _ _ _ h => h) (Or.inl ⟨by rfl, fun wq ⟨hq0, hq1, hq2, hq3, hq4, hq5⟩ => run_fa 30 (.tmp 1) 2 2 rfl rfl faCs2⟩) ⟨c67, c68, c69, c70, Loa, Lob⟩ ?_; simp only [pA]
   refine held_take (i := 24) (v := (Value.pointer (some ⟨N, 3, none⟩))) (d := some 62) rfl (by kernel_rfl) (by kernel_rfl) (by kernel_rfl) (by kernel_rfl) (fun _ _ _ h => h) (Or.inl ⟨by rfl, fun wq ⟨hq0, hq1, hq2, hq3, hq4, hq5⟩ => run_iaO 28 (.tmp 61) (.const (.int .i64 1)) rfl rfl rfl (k := 1) (r := 3) (by kernel_rfl) rfl wq⟩) ⟨c67, c68, c69, c70, Loa, Lob⟩ ?_; simp only [pA]
   refine held_take (i := 25) (v := (Value.int .i64 z1)) (d := some 63) rfl (by kernel_rfl) (by kernel_rfl) (by kernel_rfl) (by kernel_rfl) (fun _ _ _ h => h) (Or.inl ⟨by rfl, fun wq ⟨hq0, hq1, hq2, hq3, hq4, hq5⟩ => run_c1 3 (.tmp 62) rfl ⟨N, 3, none⟩ rfl undInt rfl hq1⟩) ⟨c67, c68, c69, c70, Loa, Lob⟩ ?_; simp only [pA]
   refine held_take (i := 26) (v := (Q (BitVec.ofInt 64 z1))) (d := some 64) rfl (by kernel_rfl) (by kernel_rfl) (by kernel_rfl) (by kernel_rfl) (fun _ _ _ h => h) (Or.inl ⟨by rfl, fun wq ⟨hq0, hq1, hq2, hq3, hq4, hq5⟩ => run_iu (x := (.tmp 63)) rfl undInt und64 rfl wq⟩) ⟨c67, c68, c69, c70, Loa, Lob⟩ ?_; simp only [pA]
   refine held_take (i := 27) (v := (.slice (some ⟨gob, 0 + 1, none⟩) mb (capob - 1))) (d := some 65) rfl (by kernel_rfl) (by kernel_rfl) (by kernel_rfl) (by kernel_rfl) (fun _ _ _ h => h) (Or.inl ⟨by rfl, fun wq ⟨hq0, hq1, hq2, hq3, hq4, hq5⟩ => run_mv (x := (.tmp 7)) rfl wq rfl⟩) ⟨c67, c68, c69, c70, Loa, Lob⟩ ?_; simp only [pA]
   refine held_take (i := 28) (v := (Value.int .i64 (mb : Int))) (d := some 66) rfl (by kernel_rfl) (by kernel_rfl) (by kernel_rfl) (by kernel_rfl) (fun _ _ _ h => h) (Or.inl ⟨by rfl, fun wq ⟨hq0, hq1, hq2, hq3, hq4, hq5⟩ => run_lenS undSQ (x := (.tmp 65)) rfl rfl wq⟩) ⟨c67, c68, c69, c70, Loa, Lob⟩ ?_; simp only [pA]
   refine held_take (i := 29) (v := (Q (BitVec.ofNat 64 mb))) (d := some 67) rfl (by kernel_rfl) (by kernel_rfl) (by kernel_rfl) (by kernel_rfl) (fun _ _ _ h => h) (Or.inl ⟨by rfl, fun wq ⟨hq0, hq1, hq2, hq3, hq4, hq5⟩ => run_nu (x := (.tmp 66)) rfl undInt und64 rfl wq⟩) ⟨c67, c68, c69, c70, Loa, Lob⟩ ?_; simp only [pA]
   refine held_take (i := 30) (v := (Q ((BitVec.ofInt 64 z1) % (BitVec.ofNat 64 mb)))) (d := some 68) rfl (by kernel_rfl) (by kernel_rfl) (by kernel_rfl) (by kernel_rfl) (fun _ _ _ h => h) (Or.inl ⟨by rfl, fun wq ⟨hq0, hq1, hq2, hq3, hq4, hq5⟩ => (bin_rem _ (BitVec.ofInt 64 z1) (BitVec.ofNat 64 mb) (nz_of (by omega))) _ _ (.tmp 64) (.tmp 67) _ wq rfl rfl rfl⟩) ⟨c67, c68, c69, c70, Loa, Lob⟩ ?_; simp only [pA]
   refine held_take (i := 31) (v := (Value.int .i64 ((rm z1 mb) : Int))) (d := some 69) rfl (by kernel_rfl) (by kernel_rfl) (by kernel_rfl) (by kernel_rfl) (fun _ _ _ h => h) (Or.inl ⟨by rfl, fun wq ⟨hq0, hq1, hq2, hq3, hq4, hq5⟩ => run_rm (x := (.tmp 68)) rfl und64 undInt (z := z1) (m := mb) (by omega) rfl wq⟩) ⟨c67, c68, c69, c70, Loa, Lob⟩ ?_; simp only [pA]
   refine held_take (i := 32) (v := (Value.pointer (some ⟨gob, ((0 + 1) + (rm z1 mb)), none⟩))) (d := some 70) rfl (by kernel_rfl) (by kernel_rfl) (by kernel_rfl) (by kernel_rfl) (fun _ _ _ h => h) (Or.inl ⟨by rfl, fun wq ⟨hq0, hq1, hq2, hq3, hq4, hq5⟩ => run_ixL 27 22 undSQ szQ1 (.tmp 60) (.tmp 69) rfl rfl rfl (k := (rm z1 mb)) (rm_lt _ _ (by omega)) wq⟩) ⟨c67, c68, c69, c70, Loa, Lob⟩ ?_; simp only [pA]
   refine held_take (i := 33) (v := (Q (Z1 (rm z1 mb)))) (d := some 71) rfl (by kernel_rfl) (by kernel_rfl) (by kernel_rfl) (by kernel_rfl) (fun _ _ _ h => h) (Or.inl ⟨by rfl, fun wq ⟨hq0, hq1, hq2, hq3, hq4, hq5⟩ => run_c1 22 (.tmp 70) rfl ⟨gob, ((0 + 1) + (rm z1 mb)), none⟩ rfl und64 rfl (at_L hq5 (rm_lt _ _ (by omega)))⟩) ⟨c67, c68, c69, c70, Loa, Lob⟩ ?_; simp only [pA]
   refine wpAnyH_all (rs := [4]) (by kernel_rfl) (by simp) ?_
   intro iq hiq; simp only [List.mem_singleton] at hiq; subst hiq
   refine opg_list rfl ?_
   refine wpl_clD rfl (d := some 42) rfl ?_
   refine wpl_cl rfl 39 _ _ rfl #[(.slice (some ⟨goa, 0, none⟩) loa capoa), (Q u0)] (by simp only [List.map_toArray, List.map_cons, List.map_nil] <;> rfl) (by kernel_rfl) (Value.agg (cellsOf (rC (arA (fun _ => 5#64) loa u0)) 6)) (Around_any (fun _ => 5#64) loa (by omega) (by omega) goa 0 capoa u0 xw64 M59 hM59 Loa) ?_
   intro xw71 hbxw71; simp only [pA]
   have Loa2 := Loa.below hM59 hbxw71
   clear Loa
   have Loa := Loa2
   clear Loa2
   have Lob2 := Lob.below hM59 hbxw71
   clear Lob
   have Lob := Lob2
   clear Lob2
   obtain ⟨M72, hM72⟩ := sz_some xw71
   have lM72 := below_sz hbxw71 hM59 hM72
   have k73 := k60.below hbxw71 (by omega)
   have k74 := k61.below hbxw71 (by omega)
   have k75 := k62.below hbxw71 (by omega)
   have lo76 := lo63.trans (hbxw71.mono (by omega))
   clear k60 c65 c66 c67 c68 c69 c70 k61 k62 lo63 hbxw71
   obtain ⟨c77, c78, c79, c80, c81, c82⟩ := ca_cells k73
   refine ⟨⟨c79, c80, c81, c82, Loa, Lob⟩, ?_⟩
   refine wpAnyH_all (rs := [9]) (by kernel_rfl) (by simp) ?_
   intro iq hiq; simp only [List.mem_singleton] at hiq; subst hiq
   refine opg_list rfl ?_
   refine wpl_clD rfl (d := some 47) rfl ?_
   refine wpl_cl rfl 39 _ _ rfl #[(.slice (some ⟨gob, 0 + 1, none⟩) mb (capob - 1)), (Q u1)] (by simp only [List.map_toArray, List.map_cons, List.map_nil] <;> rfl) (by kernel_rfl) (Value.agg (cellsOf (rC (arA Z1 mb u1)) 6)) (Around_any Z1 mb (by omega) (by omega) gob (0 + 1) (capob - 1) u1 xw71 M72 hM72 Lob) ?_
   intro xw83 hbxw83; simp only [pA]
   have Loa2 := Loa.below hM72 hbxw83
   clear Loa
   have Loa := Loa2
   clear Loa2
   have Lob2 := Lob.below hM72 hbxw83
   clear Lob
   have Lob := Lob2
   clear Lob2
   obtain ⟨M84, hM84⟩ := sz_some xw83
   have lM84 := below_sz hbxw83 hM72 hM84
   have k85 := k73.below hbxw83 (by omega)
   have k86 := k74.below hbxw83 (by omega)
   have k87 := k75.below hbxw83 (by omega)
   have lo88 := lo76.trans (hbxw83.mono (by omega))
   clear k73 c77 c78 c79 c80 c81 c82 k74 k75 lo76 hbxw83
   obtain ⟨c89, c90, c91, c92, c93, c94⟩ := ca_cells k85
   refine ⟨⟨c91, c92, c93, c94, Loa, Lob⟩, ?_⟩
   refine wpAnyH_all (rs := [34]) (by kernel_rfl) (by simp) ?_
   intro iq hiq; simp only [List.mem_singleton] at hiq; subst hiq
   refine opg_list rfl ?_
   refine wpl_storeN (by rfl) (by kernel_rfl) 34 (.tmp 2) (.tmp 42) rfl (N + 1) 6 (rC (arA (fun _ => 5#64) loa u0)) rfl rfl 34 _ k86 szRU (fun j _ => rC_one _ j) ?_
   intro xw95 t96 k97; try simp only [pA]
   have k98 := k85.touch t96 (by omega)
   have k99 := k87.touch t96 (by omega)
   have lo100 := t96.below lo88 (by omega)
   have h101 := t96.sz hM84
   have Loa2 := Loa.touch t96 (fun b hb => by have := hgeoa b hb; omega)
   clear Loa
   have Loa := Loa2
   clear Loa2
   have Lob2 := Lob.touch t96 (fun b hb => by have := hgeob b hb; omega)
   clear Lob
   have Lob := Lob2
   clear Lob2
   clear k86 k85 c89 c90 c91 c92 c93 c94 k87 lo88 hM84 t96
   obtain ⟨c102, c103, c104, c105, c106, c107⟩ := ca_cells k98
   refine ⟨⟨c104, c105, c106, c107, Loa, Lob⟩, ?_⟩
   refine wpAnyH_all (rs := [35]) (by kernel_rfl) (by simp) ?_
   intro iq hiq; simp only [List.mem_singleton] at hiq; subst hiq
   refine opg_list rfl ?_
   refine wpl_storeN (by rfl) (by kernel_rfl) 34 (.tmp 3) (.tmp 47) rfl (N + 1 + 1) 6 (rC (arA Z1 mb u1)) rfl rfl 34 _ k99 szRU (fun j _ => rC_one _ j) ?_
   intro xw108 t109 k110; try simp only [pA]
   have k111 := k98.touch t109 (by omega)
   have k112 := k97.touch t109 (by omega)
   have lo113 := t109.below lo100 (by omega)
   have h114 := t109.sz h101
   have Loa2 := Loa.touch t109 (fun b hb => by have := hgeoa b hb; omega)
   clear Loa
   have Loa := Loa2
   clear Loa2
   have Lob2 := Lob.touch t109 (fun b hb => by have := hgeob b hb; omega)
   clear Lob
   have Lob := Lob2
   clear Lob2
   clear k99 k98 c102 c103 c104 c105 c106 c107 k97 lo100 h101 t109
   obtain ⟨c115, c116, c117, c118, c119, c120⟩ := ca_cells k111
   refine ⟨⟨c117, c118, c119, c120, Loa, Lob⟩, ?_⟩
   refine wpAnyH_all (rs := [36]) (by kernel_rfl) (by simp) ?_
   intro iq hiq; simp only [List.mem_singleton] at hiq; subst hiq
   refine opg_list rfl ?_
   refine wpl_runD rfl (d := some 4) rfl (Q ((fun _ => 5#64) (rm z0 loa))) (run_as (x := (.tmp 59)) rfl _ rfl) ?_; simp only [pA]
   refine ⟨⟨c117, c118, c119, c120, Loa, Lob⟩, ?_⟩
   refine wpAnyH_all (rs := [37]) (by kernel_rfl) (by simp) ?_
   intro iq hiq; simp only [List.mem_singleton] at hiq; subst hiq
   refine opg_list rfl ?_
   refine wpl_runD rfl (d := some 5) rfl (Q (Z1 (rm z1 mb))) (run_as (x := (.tmp 71)) rfl _ rfl) ?_; simp only [pA]
   refine ⟨⟨c117, c118, c119, c120, Loa, Lob⟩, ?_⟩
   refine wpAnyH_done (by kernel_rfl) ?_ _
   obtain ⟨M121, hM121⟩ := sz_some xw108
   have lt_122 := k111.ltN hM121
   have lt_123 := k112.ltN hM121
   have lt_124 := k110.ltN hM121
   go_wp2_with fail
   refine post_rrqq rfl (N + 1) (N + 1 + 1) rfl rfl (x := (Q ((fun _ => 5#64) (rm z0 loa)))) (y := (Q (Z1 (rm z1 mb)))) k112 k110 undRU undRU szRU szRU rfl rfl rfl ?_
   exact ⟨by rw [ER.out, hloa.out.1, hloa.out.2, hlob.out.1, hlob.out.2], lo113⟩
 ·obtain ⟨ma, ema⟩ : ∃ m, m = min n0 8 := ⟨_, rfl⟩
  have hnoa := hid (show loa = ma + 1 by have := ELoa.out; omega)
  have hcpoa : 1 < capoa := by have := hnoa.out; omega
  have bma : 1 ≤ ma ∧ ma ≤ 8 := by omega
  go_upto_region 3 with fail
  obtain ⟨c40, c41, c42, c43, c44, c45⟩ := ca_cells k32
  refine wp_region_later1 (M36) ?_
  try simp only [pA]
  go_big_quiet_step (fail)
  refine later_c1 hM36 27 (.tmp 26) rfl rfl undSQ rfl c40 (by rfl) ?_; simp only [pA]
  refine later_val (fun q => run_lenS undSQ (x := (.tmp 27)) rfl rfl q.w') (by rfl) ?_; simp only [pA]
  go_big_quiet_step (fail)
  refine wpQuiet_nil ?_
  rintro xw46 ⟨qxw46, exw46⟩
  have hbxw46 := qxw46.b
  rw [← exw46] at hbxw46
  clear qxw46 exw46
  have Loa2 := Loa.below hM36 hbxw46
  clear Loa
  have Loa := Loa2
  clear Loa2
  have Lob2 := Lob.below hM36 hbxw46
  clear Lob
  have Lob := Lob2
  clear Lob2
  obtain ⟨M47, hM47⟩ := sz_some xw46
  have lM47 := below_sz hbxw46 hM36 hM47
  have k48 := k32.below hbxw46 (by omega)
  have k49 := k33.below hbxw46 (by omega)
  have k50 := k34.below hbxw46 (by omega)
  have lo51 := lo35.trans (hbxw46.mono (by omega))
  clear k32 c40 c41 c42 c43 c44 c45 k33 k34 lo35 hbxw46
  go_upto_region 4 with fail
  refine wp_region_lit ?_
  try simp only [pA]
  refine wpl_run rfl (.slice (some ⟨goa, 0, none⟩) loa capoa) _ (run_mv (x := .tmp 6) rfl _ rfl) ?_; simp only [pA]
  refine wpl_run rfl (.slice (some ⟨goa, 0 + 1, none⟩) ma (capoa - 1)) _ (run_slOne 27 22 undSQ szQ1 (.tmp 30) rfl rfl (m := ma) hnoa.out hcpoa _) ?_; simp only [pA]
  refine wpl_run rfl (.slice (some ⟨goa, 0 + 1, none⟩) ma (capoa - 1)) _ (run_as (x := .tmp 31) rfl _ rfl) ?_; simp only [pA]
  rw [hnoa.out] at Loa
  have L2 : Ats xw46 (some ⟨goa, 0 + 1, none⟩) ma (fun j => Q (Z0 j)) := Loa.tail.congr (fun j hj => by show cat _ 1 _ (j + 1) = _; unfold cat; rw [if_neg (by omega), Nat.add_sub_cancel])
  clear Loa
  have Loa := L2
  clear L2
  have hloa := hid (show lnN n0 = ma ∧ lnE n0 Z0 5#64 = Z0 by rw [ema]; exact ln_s hzoa _ _)
  clear hnoa hzoa ema hcpoa
  rcases Nat.eq_zero_or_pos n1 with hzob | hzob
  ·have hnob := hid (show lob = 1 by have := ELob.out; omega)
   have hfob : ¬ (0 < n1) := by omega
   go_upto_region 5 with fail
   obtain ⟨c52, c53, c54, c55, c56, c57⟩ := ca_cells k48
   refine wp_region_later1 (M47) ?_
   try simp only [pA]
   go_big_quiet_step (fail)
   refine later_c1 hM47 27 (.tmp 32) rfl rfl undSQ rfl c53 (by rfl) ?_; simp only [pA]
   refine later_val (fun q => run_lenS undSQ (x := (.tmp 33)) rfl rfl q.w') (by rfl) ?_; simp only [pA]
   go_big_quiet_step (fail)
   refine wpQuiet_nil ?_
   rintro xw58 ⟨qxw58, exw58⟩
   have hbxw58 := qxw58.b
   rw [← exw58] at hbxw58
   clear qxw58 exw58
   have Loa2 := Loa.below hM47 hbxw58
   clear Loa
   have Loa := Loa2
   clear Loa2
   have Lob2 := Lob.below hM47 hbxw58
   clear Lob
   have Lob := Lob2
   clear Lob2
   obtain ⟨M59, hM59⟩ := sz_some xw58
   have lM59 := below_sz hbxw58 hM47 hM59
   have k60 := k48.below hbxw58 (by omega)
   have k61 := k49.below hbxw58 (by omega)
   have k62 := k50.below hbxw58 (by omega)
   have lo63 := lo51.trans (hbxw58.mono (by omega))
   clear k48 c52 c53 c54 c55 c56 c57 k49 k50 lo51 hbxw58
   have L2 : Ats xw58 (some ⟨gob, 0, none⟩) lob (fun j => Q ((fun _ => 3#64) j)) := Ats.one Lob hnob.out rfl
   clear Lob
   have Lob := L2
   clear L2
   have hlob : lnN n1 = lob ∧ lnE n1 Z1 3#64 = fun _ => 3#64 := by rw [hnob.out]; exact ln_z hzob _ _
   have hlob := hid hlob
   clear hfob hnob hzob
   have ploa : 1 ≤ ma ∧ ma ≤ 9 := by omega
   have plob : 1 ≤ lob ∧ lob ≤ 9 := by omega
   go_upto_region 7 with fail
   refine wp_region_held (S := fun w' => w'.cell? ⟨N, 2, none⟩ = some (Value.int .i64 z0) ∧ w'.cell? ⟨N, 3, none⟩ = some (Value.int .i64 z1) ∧ w'.cell? ⟨N, 4, none⟩ = some (Q u0) ∧ w'.cell? ⟨N, 5, none⟩ = some (Q u1) ∧ Ats w' (some ⟨goa, (0 + 1), none⟩) ma (fun j => Q (Z0 j)) ∧ Ats w' (some ⟨gob, 0, none⟩) lob (fun j => Q ((fun _ => 3#64) j))) (by kernel_rfl) ?_
   replace k60 : Has xw58.drew N 30 6 (caC ⟨p0, n0, c0, p1, n1, c1, z0, z1, u0, u1⟩) := k60
   replace k61 : Has xw58.drew (N + 1) 34 6 (rC zeroR) := k61
   replace k62 : Has xw58.drew (N + 1 + 1) 34 6 (rC zeroR) := k62
   replace Loa := Ats.drew Loa
   replace Lob := Ats.drew Lob
   replace hM59 : Sz xw58.drew M59 := hM59
   replace lo63 : Below N w xw58.drew := lo63.drew
   change wpAnyH _ _ _ _ _ _ _ _ (World.drew _)
   generalize xw58.drew = xw64 at *
   obtain ⟨c65, c66, c67, c68, c69, c70⟩ := ca_cells k60
   refine held_take (i := 0) (v := (.slice (some ⟨goa, 0 + 1, none⟩) ma (capoa - 1))) (d := some 38) rfl (by kernel_rfl) (by kernel_rfl) (by kernel_rfl) (by kernel_rfl) (fun _ _ _ h => h) (Or.inl ⟨by rfl, fun wq ⟨hq0, hq1, hq2, hq3, hq4, hq5⟩ => run_mv (x := (.tmp 6)) rfl wq rfl⟩) ⟨c67, c68, c69, c70, Loa, Lob⟩ ?_; simp only [pA]
   refine held_take (i := 1) (v := (Value.pointer (some ⟨N, 4, none⟩))) (d := some 39) rfl (by kernel_rfl) (by kernel_rfl) (by kernel_rfl) (by kernel_rfl) (fun _ _ _ h => h) (Or.inl ⟨by rfl, fun wq ⟨hq0, hq1, hq2, hq3, hq4, hq5⟩ => run_fa 30 (.tmp 1) 3 4 rfl rfl faCs3⟩) ⟨c67, c68, c69, c70, Loa, Lob⟩ ?_; simp only [pA]
   refine held_take (i := 2) (v := (Value.pointer (some ⟨N, 4, none⟩))) (d := some 40) rfl (by kernel_rfl) (by kernel_rfl) (by kernel_rfl) (by kernel_rfl) (fun _ _ _ h => h) (Or.inl ⟨by rfl, fun wq ⟨hq0, hq1, hq2, hq3, hq4, hq5⟩ => run_iaO 23 (.tmp 39) (.const (.int .i64 0)) rfl rfl rfl (k := 0) (r := 4) (by kernel_rfl) rfl wq⟩) ⟨c67, c68, c69, c70, Loa, Lob⟩ ?_; simp only [pA]
   refine held_take (i := 3) (v := (Q u0)) (d := some 41) rfl (by kernel_rfl) (by kernel_rfl) (by kernel_rfl) (by kernel_rfl) (fun _ _ _ h => h) (Or.inl ⟨by rfl, fun wq ⟨hq0, hq1, hq2, hq3, hq4, hq5⟩ => run_c1 22 (.tmp 40) rfl ⟨N, 4, none⟩ rfl und64 rfl hq2⟩) ⟨c67, c68, c69, c70, Loa, Lob⟩ ?_; simp only [pA]
   refine held_take (i := 5) (v := (.slice (some ⟨gob, 0, none⟩) lob capob)) (d := some 43) rfl (by kernel_rfl) (by kernel_rfl) (by kernel_rfl) (by kernel_rfl) (fun _ _ _ h => h) (Or.inl ⟨by rfl, fun wq ⟨hq0, hq1, hq2, hq3, hq4, hq5⟩ => run_mv (x := (.tmp 7)) rfl wq rfl⟩) ⟨c67, c68, c69, c70, Loa, Lob⟩ ?_; simp only [pA]
   refine held_take (i := 6) (v := (Value.pointer (some ⟨N, 4, none⟩))) (d := some 44) rfl (by kernel_rfl) (by kernel_rfl) (by kernel_rfl) (by kernel_rfl) (fun _ _ _ h => h) (Or.inl ⟨by rfl, fun wq ⟨hq0, hq1, hq2, hq3, hq4, hq5⟩ => run_fa 30 (.tmp 1) 3 4 rfl rfl faCs3⟩) ⟨c67, c68, c69, c70, Loa, Lob⟩ ?_; simp only [pA]
   refine held_take (i := 7) (v := (Value.pointer (some ⟨N, 5, none⟩))) (d := some 45) rfl (by kernel_rfl) (by kernel_rfl) (by kernel_rfl) (by kernel_rfl) (fun _ _ _ h => h) (Or.inl ⟨by rfl, fun wq ⟨hq0, hq1, hq2, hq3, hq4, hq5⟩ => run_iaO 23 (.tmp 44) (.const (.int .i64 1)) rfl rfl rfl (k := 1) (r := 5) (by kernel_rfl) rfl wq⟩) ⟨c67, c68, c69, c70, Loa, Lob⟩ ?_; simp only [pA]
   refine held_take (i := 8) (v := (Q u1)) (d := some 46) rfl (by kernel_rfl) (by kernel_rfl) (by kernel_rfl) (by kernel_rfl) (fun _ _ _ h => h) (Or.inl ⟨by rfl, fun wq ⟨hq0, hq1, hq2, hq3, hq4, hq5⟩ => run_c1 22 (.tmp 45) rfl ⟨N, 5, none⟩ rfl und64 rfl hq3⟩) ⟨c67, c68, c69, c70, Loa, Lob⟩ ?_; simp only [pA]
   refine held_take (i := 10) (v := (.slice (some ⟨goa, 0 + 1, none⟩) ma (capoa - 1))) (d := some 48) rfl (by kernel_rfl) (by kernel_rfl) (by kernel_rfl) (by kernel_rfl) (fun _ _ _ h => h) (Or.inl ⟨by rfl, fun wq ⟨hq0, hq1, hq2, hq3, hq4, hq5⟩ => run_mv (x := (.tmp 6)) rfl wq rfl⟩) ⟨c67, c68, c69, c70, Loa, Lob⟩ ?_; simp only [pA]
   refine held_take (i := 11) (v := (Value.pointer (some ⟨N, 2, none⟩))) (d := some 49) rfl (by kernel_rfl) (by kernel_rfl) (by kernel_rfl) (by kernel_rfl) (fun _ _ _ h => h) (Or.inl ⟨by rfl, fun wq ⟨hq0, hq1, hq2, hq3, hq4, hq5⟩ => run_fa 30 (.tmp 1) 2 2 rfl rfl faCs2⟩) ⟨c67, c68, c69, c70, Loa, Lob⟩ ?_; simp only [pA]
   refine held_take (i := 12) (v := (Value.pointer (some ⟨N, 2, none⟩))) (d := some 50) rfl (by kernel_rfl) (by kernel_rfl) (by kernel_rfl) (by kernel_rfl) (fun _ _ _ h => h) (Or.inl ⟨by rfl, fun wq ⟨hq0, hq1, hq2, hq3, hq4, hq5⟩ => run_iaO 28 (.tmp 49) (.const (.int .i64 0)) rfl rfl rfl (k := 0) (r := 2) (by kernel_rfl) rfl wq⟩) ⟨c67, c68, c69, c70, Loa, Lob⟩ ?_; simp only [pA]
   refine held_take (i := 13) (v := (Value.int .i64 z0)) (d := some 51) rfl (by kernel_rfl) (by kernel_rfl) (by kernel_rfl) (by kernel_rfl) (fun _ _ _ h => h) (Or.inl ⟨by rfl, fun wq ⟨hq0, hq1, hq2, hq3, hq4, hq5⟩ => run_c1 3 (.tmp 50) rfl ⟨N, 2, none⟩ rfl undInt rfl hq0⟩) ⟨c67, c68, c69, c70, Loa, Lob⟩ ?_; simp only [pA]
   refine held_take (i := 14) (v := (Q (BitVec.ofInt 64 z0))) (d := some 52) rfl (by kernel_rfl) (by kernel_rfl) (by kernel_rfl) (by kernel_rfl) (fun _ _ _ h => h) (Or.inl ⟨by rfl, fun wq ⟨hq0, hq1, hq2, hq3, hq4, hq5⟩ => run_iu (x := (.tmp 51)) rfl undInt und64 rfl wq⟩) ⟨c67, c68, c69, c70, Loa, Lob⟩ ?_; simp only [pA]
   refine held_take (i := 15) (v := (.slice (some ⟨goa, 0 + 1, none⟩) ma (capoa - 1))) (d := some 53) rfl (by kernel_rfl) (by kernel_rfl) (by kernel_rfl) (by kernel_rfl) (fun _ _ _ h => h) (Or.inl ⟨by rfl, fun wq ⟨hq0, hq1, hq2, hq3, hq4, hq5⟩ => run_mv (x := (.tmp 6)) rfl wq rfl⟩) ⟨c67, c68, c69, c70, Loa, Lob⟩ ?_; simp only [pA]
   refine held_take (i := 16) (v := (Value.int .i64 (ma : Int))) (d := some 54) rfl (by kernel_rfl) (by kernel_rfl) (by kernel_rfl) (by kernel_rfl) (fun _ _ _ h => h) (Or.inl ⟨by rfl, fun wq ⟨hq0, hq1, hq2, hq3, hq4, hq5⟩ => run_lenS undSQ (x := (.tmp 53)) rfl rfl wq⟩) ⟨c67, c68, c69, c70, Loa, Lob⟩ ?_; simp only [pA]
   refine held_take (i := 17) (v := (Q (BitVec.ofNat 64 ma))) (d := some 55) rfl (by kernel_rfl) (by kernel_rfl) (by kernel_rfl) (by kernel_rfl) (fun _ _ _ h => h) (Or.inl ⟨by rfl, fun wq ⟨hq0, hq1, hq2, hq3, hq4, hq5⟩ => run_nu (x := (.tmp 54)) rfl undInt und64 rfl wq⟩) ⟨c67, c68, c69, c70, Loa, Lob⟩ ?_; simp only [pA]
   refine held_take (i := 18) (v := (Q ((BitVec.ofInt 64 z0) % (BitVec.ofNat 64 ma)))) (d := some 56) rfl (by kernel_rfl) (by kernel_rfl) (by kernel_rfl) (by kernel_rfl) (fun _ _ _ h => h) (Or.inl ⟨by rfl, fun wq ⟨hq0, hq1, hq2, hq3, hq4, hq5⟩ => (bin_rem _ (BitVec.ofInt 64 z0) (BitVec.ofNat 64 ma) (nz_of (by omega))) _ _ (.tmp 52) (.tmp 55) _ wq rfl rfl rfl⟩) ⟨c67, c68, c69, c70, Loa, Lob⟩ ?_; simp only [pA]
   refine held_take (i := 19) (v := (Value.int .i64 ((rm z0 ma) : Int))) (d := some 57) rfl (by kernel_rfl) (by kernel_rfl) (by kernel_rfl) (by kernel_rfl) (fun _ _ _ h => h) (Or.inl ⟨by rfl, fun wq ⟨hq0, hq1, hq2, hq3, hq4, hq5⟩ => run_rm (x := (.tmp 56)) rfl und64 undInt (z := z0) (m := ma) (by omega) rfl wq⟩) ⟨c67, c68, c69, c70, Loa, Lob⟩ ?_; simp only [pA]
   refine held_take (i := 20) (v := (Value.pointer (some ⟨goa, ((0 + 1) + (rm z0 ma)), none⟩))) (d := some 58) rfl (by kernel_rfl) (by kernel_rfl) (by kernel_rfl) (by kernel_rfl) (fun _ _ _ h => h) (Or.inl ⟨by rfl, fun wq ⟨hq0, hq1, hq2, hq3, hq4, hq5⟩ => run_ixL 27 22 undSQ szQ1 (.tmp 48) (.tmp 57) rfl rfl rfl (k := (rm z0 ma)) (rm_lt _ _ (by omega)) wq⟩) ⟨c67, c68, c69, c70, Loa, Lob⟩ ?_; simp only [pA]
   refine held_take (i := 21) (v := (Q (Z0 (rm z0 ma)))) (d := some 59) rfl (by kernel_rfl) (by kernel_rfl) (by kernel_rfl) (by kernel_rfl) (fun _ _ _ h => h) (Or.inl ⟨by rfl, fun wq ⟨hq0, hq1, hq2, hq3, hq4, hq5⟩ => run_c1 22 (.tmp 58) rfl ⟨goa, ((0 + 1) + (rm z0 ma)), none⟩ rfl und64 rfl (at_L hq4 (rm_lt _ _ (by omega)))⟩) ⟨c67, c68, c69, c70, Loa, Lob⟩ ?_; simp only [pA]
   refine held_take (i := 22) (v := (.slice (some ⟨gob, 0, none⟩) lob capob)) (d := some 60) rfl (by kernel_rfl) (by kernel_rfl) (by kernel_rfl) (by kernel_rfl) (fun _ _ _ h => h) (Or.inl ⟨by rfl, fun wq ⟨hq0, hq1, hq2, hq3, hq4, hq5⟩ => run_mv (x := (.tmp 7)) rfl wq rfl⟩) ⟨c67, c68, c69, c70, Loa, Lob⟩ ?_; simp only [pA]
   refine held_take (i := 23) (v := (Value.pointer (some ⟨N, 2, none⟩))) (d := some 61) rfl (by kernel_rfl) (by kernel_rfl) (by kernel_rfl) (by kernel_rfl) (fun _ _ _ h => h) (Or.inl ⟨by rfl, fun wq ⟨hq0, hq1, hq2, hq3, hq4, hq5⟩ => run_fa 30 (.tmp 1) 2 2 rfl rfl faCs2⟩) ⟨c67, c68, c69, c70, Loa, Lob⟩ ?_; simp only [pA]
   refine held_take (i := 24) (v := (Value.pointer (some ⟨N, 3, none⟩))) (d := some 62) rfl (by kernel_rfl) (by kernel_rfl) (by kernel_rfl) (by kernel_rfl) (fun _ _ _ h => h) (Or.inl ⟨by rfl, fun wq ⟨hq0, hq1, hq2, hq3, hq4, hq5⟩ => run_iaO 28 (.tmp 61) (.const (.int .i64 1)) rfl rfl rfl (k := 1) (r := 3) (by kernel_rfl) rfl wq⟩) ⟨c67, c68, c69, c70, Loa, Lob⟩ ?_; simp only [pA]
   refine held_take (i := 25) (v := (Value.int .i64 z1)) (d := some 63) rfl (by kernel_rfl) (by kernel_rfl) (by kernel_rfl) (by kernel_rfl) (fun _ _ _ h => h) (Or.inl ⟨by rfl, fun wq ⟨hq0, hq1, hq2, hq3, hq4, hq5⟩ => run_c1 3 (.tmp 62) rfl ⟨N, 3, none⟩ rfl undInt rfl hq1⟩) ⟨c67, c68, c69, c70, Loa, Lob⟩ ?_; simp only [pA]
   refine held_take (i := 26) (v := (Q (BitVec.ofInt 64 z1))) (d := some 64) rfl (by kernel_rfl) (by kernel_rfl) (by kernel_rfl) (by kernel_rfl) (fun _ _ _ h => h) (Or.inl ⟨by rfl, fun wq ⟨hq0, hq1, hq2, hq3, hq4, hq5⟩ => run_iu (x := (.tmp 63)) rfl undInt und64 rfl wq⟩) ⟨c67, c68, c69, c70, Loa, Lob⟩ ?_; simp only [pA]
   refine held_take (i := 27) (v := (.slice (some ⟨gob, 0, none⟩) lob capob)) (d := some 65) rfl (by kernel_rfl) (by kernel_rfl) (by kernel_rfl) (by kernel_rfl) (fun _ _ _ h => h) (Or.inl ⟨by rfl, fun wq ⟨hq0, hq1, hq2, hq3, hq4, hq5⟩ => run_mv (x := (.tmp 7)) rfl wq rfl⟩) ⟨c67, c68, c69, c70, Loa, Lob⟩ ?_; simp only [pA]
   refine held_take (i := 28) (v := (Value.int .i64 (lob : Int))) (d := some 66) rfl (by kernel_rfl) (by kernel_rfl) (by kernel_rfl) (by kernel_rfl) (fun _ _ _ h => h) (Or.inl ⟨by rfl, fun wq ⟨hq0, hq1, hq2, hq3, hq4, hq5⟩ => run_lenS undSQ (x := (.tmp 65)) rfl rfl wq⟩) ⟨c67, c68, c69, c70, Loa, Lob⟩ ?_; simp only [pA]
   refine held_take (i := 29) (v := (Q (BitVec.ofNat 64 lob))) (d := some 67) rfl (by kernel_rfl) (by kernel_rfl) (by kernel_rfl) (by kernel_rfl) (fun _ _ _ h => h) (Or.inl ⟨by rfl, fun wq ⟨hq0, hq1, hq2, hq3, hq4, hq5⟩ => run_nu (x := (.tmp 66)) rfl undInt und64 rfl wq⟩) ⟨c67, c68, c69, c70, Loa, Lob⟩ ?_; simp only [pA]
   refine held_take (i := 30) (v := (Q ((BitVec.ofInt 64 z1) % (BitVec.ofNat 64 lob)))) (d := some 68) rfl (by kernel_rfl) (by kernel_rfl) (by kernel_rfl) (by kernel_rfl) (fun _ _ _ h => h) (Or.inl ⟨by rfl, fun wq ⟨hq0, hq1, hq2, hq3, hq4, hq5⟩ => (bin_rem _ (BitVec.ofInt 64 z1) (BitVec.ofNat 64 lob) (nz_of (by omega))) _ _ (.tmp 64) (.tmp 67) _ wq rfl rfl rfl⟩) ⟨c67, c68, c69, c70, Loa, Lob⟩ ?_; simp only [pA]
   refine held_take (i := 31) (v := (Value.int .i64 ((rm z1 lob) : Int))) (d := some 69) rfl (by kernel_rfl) (by kernel_rfl) (by kernel_rfl) (by kernel_rfl) (fun _ _ _ h => h) (Or.inl ⟨by rfl, fun wq ⟨hq0, hq1, hq2, hq3, hq4, hq5⟩ => run_rm (x := (.tmp 68)) rfl und64 undInt (z := z1) (m := lob) (by omega) rfl wq⟩) ⟨c67, c68, c69, c70, Loa, Lob⟩ ?_; simp only [pA]
   refine held_take (i := 32) (v := (Value.pointer (some ⟨gob, (0 + (rm z1 lob)), none⟩))) (d := some 70) rfl (by kernel_rfl) (by kernel_rfl) (by kernel_rfl) (by kernel_rfl) (fun _ _ _ h => h) (Or.inl ⟨by rfl, fun wq ⟨hq0, hq1, hq2, hq3, hq4, hq5⟩ => run_ixL 27 22 undSQ szQ1 (.tmp 60) (.tmp 69) rfl rfl rfl (k := (rm z1 lob)) (rm_lt _ _ (by omega)) wq⟩) ⟨c67, c68, c69, c70, Loa, Lob⟩ ?_; simp only [pA]
   refine held_take (i := 33) (v := (Q ((fun _ => 3#64) (rm z1 lob)))) (d := some 71) rfl (by kernel_rfl) (by kernel_rfl) (by kernel_rfl) (by kernel_rfl) (fun _ _ _ h => h) (Or.inl ⟨by rfl, fun wq ⟨hq0, hq1, hq2, hq3, hq4, hq5⟩ => run_c1 22 (.tmp 70) rfl ⟨gob, (0 + (rm z1 lob)), none⟩ rfl und64 rfl (at_L hq5 (rm_lt _ _ (by omega)))⟩) ⟨c67, c68, c69, c70, Loa, Lob⟩ ?_; simp only [pA]
   refine wpAnyH_all (rs := [4]) (by kernel_rfl) (by simp) ?_
   intro iq hiq; simp only [List.mem_singleton] at hiq; subst hiq
   refine opg_list rfl ?_
   refine wpl_clD rfl (d := some 42) rfl ?_
   refine wpl_cl rfl 39 _ _ rfl #[(.slice (some ⟨goa, 0 + 1, none⟩) ma (capoa - 1)), (Q u0)] (by simp only [List.map_toArray, List.map_cons, List.map_nil] <;> rfl) (by kernel_rfl) (Value.agg (cellsOf (rC (arA Z0 ma u0)) 6)) (Around_any Z0 ma (by omega) (by omega) goa (0 + 1) (capoa - 1) u0 xw64 M59 hM59 Loa) ?_
   intro xw71 hbxw71; simp only [pA]
   have Loa2 := Loa.below hM59 hbxw71
   clear Loa
   have Loa := Loa2
   clear Loa2
   have Lob2 := Lob.below hM59 hbxw71
   clear Lob
   have Lob := Lob2
   clear Lob2
   obtain ⟨M72, hM72⟩ := sz_some xw71
   have lM72 := below_sz hbxw71 hM59 hM72
   have k73 := k60.below hbxw71 (by omega)
   have k74 := k61.below hbxw71 (by omega)
   have k75 := k62.below hbxw71 (by omega)
   have lo76 := lo63.trans (hbxw71.mono (by omega))
   clear k60 c65 c66 c67 c68 c69 c70 k61 k62 lo63 hbxw71
   obtain ⟨c77, c78, c79, c80, c81, c82⟩ := ca_cells k73
   refine ⟨⟨c79, c80, c81, c82, Loa, Lob⟩, ?_⟩
   refine wpAnyH_all (rs := [9]) (by kernel_rfl) (by simp) ?_
   intro iq hiq; simp only [List.mem_singleton] at hiq; subst hiq
   refine opg_list rfl ?_
   refine wpl_clD rfl (d := some 47) rfl ?_
   refine wpl_cl rfl 39 _ _ rfl #[(.slice (some ⟨gob, 0, none⟩) lob capob), (Q u1)] (by simp only [List.map_toArray, List.map_cons, List.map_nil] <;> rfl) (by kernel_rfl) (Value.agg (cellsOf (rC (arA (fun _ => 3#64) lob u1)) 6)) (Around_any (fun _ => 3#64) lob (by omega) (by omega) gob 0 capob u1 xw71 M72 hM72 Lob) ?_
   intro xw83 hbxw83; simp only [pA]
   have Loa2 := Loa.below hM72 hbxw83
   clear Loa
   have Loa := Loa2
   clear Loa2
   have Lob2 := Lob.below hM72 hbxw83
   clear Lob
   have Lob := Lob2
   clear Lob2
   obtain ⟨M84, hM84⟩ := sz_some xw83
   have lM84 := below_sz hbxw83 hM72 hM84
   have k85 := k73.below hbxw83 (by omega)
   have k86 := k74.below hbxw83 (by omega)
   have k87 := k75.below hbxw83 (by omega)
   have lo88 := lo76.trans (hbxw83.mono (by omega))
   clear k73 c77 c78 c79 c80 c81 c82 k74 k75 lo76 hbxw83
   obtain ⟨c89, c90, c91, c92, c93, c94⟩ := ca_cells k85
   refine ⟨⟨c91, c92, c93, c94, Loa, Lob⟩, ?_⟩
   refine wpAnyH_all (rs := [34]) (by kernel_rfl) (by simp) ?_
   intro iq hiq; simp only [List.mem_singleton] at hiq; subst hiq
   refine opg_list rfl ?_
   refine wpl_storeN (by rfl) (by kernel_rfl) 34 (.tmp 2) (.tmp 42) rfl (N + 1) 6 (rC (arA Z0 ma u0)) rfl rfl 34 _ k86 szRU (fun j _ => rC_one _ j) ?_
   intro xw95 t96 k97; try simp only [pA]
   have k98 := k85.touch t96 (by omega)
   have k99 := k87.touch t96 (by omega)
   have lo100 := t96.below lo88 (by omega)
   have h101 := t96.sz hM84
   have Loa2 := Loa.touch t96 (fun b hb => by have := hgeoa b hb; omega)
   clear Loa
   have Loa := Loa2
   clear Loa2
   have Lob2 := Lob.touch t96 (fun b hb => by have := hgeob b hb; omega)
   clear Lob
   have Lob := Lob2
   clear Lob2
   clear k86 k85 c89 c90 c91 c92 c93 c94 k87 lo88 hM84 t96
   obtain ⟨c102, c103, c104, c105, c106, c107⟩ := ca_cells k98
   refine ⟨⟨c104, c105, c106, c107, Loa, Lob⟩, ?_⟩
   refine wpAnyH_all (rs := [35]) (by kernel_rfl) (by simp) ?_
   intro iq hiq; simp only [List.mem_singleton] at hiq; subst hiq
   refine opg_list rfl ?_
   refine wpl_storeN (by rfl) (by kernel_rfl) 34 (.tmp 3) (.tmp 47) rfl (N + 1 + 1) 6 (rC (arA (fun _ => 3#64) lob u1)) rfl rfl 34 _ k99 szRU (fun j _ => rC_one _ j) ?_
   intro xw108 t109 k110; try simp only [pA]
   have k111 := k98.touch t109 (by omega)
   have k112 := k97.touch t109 (by omega)
   have lo113 := t109.below lo100 (by omega)
   have h114 := t109.sz h101
   have Loa2 := Loa.touch t109 (fun b hb => by have := hgeoa b hb; omega)
   clear Loa
   have Loa := Loa2
   clear Loa2
   have Lob2 := Lob.touch t109 (fun b hb => by have := hgeob b hb; omega)
   clear Lob
   have Lob := Lob2
   clear Lob2
   clear k99 k98 c102 c103 c104 c105 c106 c107 k97 lo100 h101 t109
   obtain ⟨c115, c116, c117, c118, c119, c120⟩ := ca_cells k111
   refine ⟨⟨c117, c118, c119, c120, Loa, Lob⟩, ?_⟩
   refine wpAnyH_all (rs := [36]) (by kernel_rfl) (by simp) ?_
   intro iq hiq; simp only [List.mem_singleton] at hiq; subst hiq
   refine opg_list rfl ?_
   refine wpl_runD rfl (d := some 4) rfl (Q (Z0 (rm z0 ma))) (run_as (x := (.tmp 59)) rfl _ rfl) ?_; simp only [pA]
   refine ⟨⟨c117, c118, c119, c120, Loa, Lob⟩, ?_⟩
   refine wpAnyH_all (rs := [37]) (by kernel_rfl) (by simp) ?_
   intro iq hiq; simp only [List.mem_singleton] at hiq; subst hiq
   refine opg_list rfl ?_
   refine wpl_runD rfl (d := some 5) rfl (Q ((fun _ => 3#64) (rm z1 lob))) (run_as (x := (.tmp 71)) rfl _ rfl) ?_; simp only [pA]
   refine ⟨⟨c117, c118, c119, c120, Loa, Lob⟩, ?_⟩
   refine wpAnyH_done (by kernel_rfl) ?_ _
   obtain ⟨M121, hM121⟩ := sz_some xw108
   have lt_122 := k111.ltN hM121
   have lt_123 := k112.ltN hM121
   have lt_124 := k110.ltN hM121
   go_wp2_with fail
   refine post_rrqq rfl (N + 1) (N + 1 + 1) rfl rfl (x := (Q (Z0 (rm z0 ma)))) (y := (Q ((fun _ => 3#64) (rm z1 lob)))) k112 k110 undRU undRU szRU szRU rfl rfl rfl ?_
   exact ⟨by rw [ER.out, hloa.out.1, hloa.out.2, hlob.out.1, hlob.out.2], lo113⟩
  ·obtain ⟨mb, emb⟩ : ∃ m, m = min n1 8 := ⟨_, rfl⟩
   have hnob := hid (show lob = mb + 1 by have := ELob.out; omega)
   have hcpob : 1 < capob := by have := hnob.out; omega
   have bmb : 1 ≤ mb ∧ mb ≤ 8 := by omega
   go_upto_region 5 with fail
   obtain ⟨c52, c53, c54, c55, c56, c57⟩ := ca_cells k48
   refine wp_region_later1 (M47) ?_
   try simp only [pA]
   go_big_quiet_step (fail)
   refine later_c1 hM47 27 (.tmp 32) rfl rfl undSQ rfl c53 (by rfl) ?_; simp only [pA]
   refine later_val (fun q => run_lenS undSQ (x := (.tmp 33)) rfl rfl q.w') (by rfl) ?_; simp only [pA]
   go_big_quiet_step (fail)
   refine wpQuiet_nil ?_
   rintro xw58 ⟨qxw58, exw58⟩
   have hbxw58 := qxw58.b
   rw [← exw58] at hbxw58
   clear qxw58 exw58
   have Loa2 := Loa.below hM47 hbxw58
   clear Loa
   have Loa := Loa2
   clear Loa2
   have Lob2 := Lob.below hM47 hbxw58
   clear Lob
   have Lob := Lob2
   clear Lob2
   obtain ⟨M59, hM59⟩ := sz_some xw58
   have lM59 := below_sz hbxw58 hM47 hM59
   have k60 := k48.below hbxw58 (by omega)
   have k61 := k49.below hbxw58 (by omega)
   have k62 := k50.below hbxw58 (by omega)
   have lo63 := lo51.trans (hbxw58.mono (by omega))
   clear k48 c52 c53 c54 c55 c56 c57 k49 k50 lo51 hbxw58
   go_upto_region 6 with fail
   refine wp_region_lit ?_
   try simp only [pA]
   refine wpl_run rfl (.slice (some ⟨gob, 0, none⟩) lob capob) _ (run_mv (x := .tmp 7) rfl _ rfl) ?_; simp only [pA]
   refine wpl_run rfl (.slice (some ⟨gob, 0 + 1, none⟩) mb (capob - 1)) _ (run_slOne 27 22 undSQ szQ1 (.tmp 36) rfl rfl (m := mb) hnob.out hcpob _) ?_; simp only [pA]
   refine wpl_run rfl (.slice (some ⟨gob, 0 + 1, none⟩) mb (capob - 1)) _ (run_as (x := .tmp 37) rfl _ rfl) ?_; simp only [pA]
   rw [hnob.out] at Lob
   have L2 : Ats xw58 (some ⟨gob, 0 + 1, none⟩) mb (fun j => Q (Z1 j)) := Lob.tail.congr (fun j hj => by show cat _ 1 _ (j + 1) = _; unfold cat; rw [if_neg (by omega), Nat.add_sub_cancel])
   clear Lob
   have Lob := L2
   clear L2
   have hlob := hid (show lnN n1 = mb ∧ lnE n1 Z1 3#64 = Z1 by rw [emb]; exact ln_s hzob _ _)
   clear hnob hzob emb hcpob
   have ploa : 1 ≤ ma ∧ ma ≤ 9 := by omega
   have plob : 1 ≤ mb ∧ mb ≤ 9 := by omega
   go_upto_region 7 with fail
   refine wp_region_held (S := fun w' => w'.cell? ⟨N, 2, none⟩ = some (Value.int .i64 z0) ∧ w'.cell? ⟨N, 3, none⟩ = some (Value.int .i64 z1) ∧ w'.cell? ⟨N, 4, none⟩ = some (Q u0) ∧ w'.cell? ⟨N, 5, none⟩ = some (Q u1) ∧ Ats w' (some ⟨goa, (0 + 1), none⟩) ma (fun j => Q (Z0 j)) ∧ Ats w' (some ⟨gob, (0 + 1), none⟩) mb (fun j => Q (Z1 j))) (by kernel_rfl) ?_
   replace k60 : Has xw58.drew N 30 6 (caC ⟨p0, n0, c0, p1, n1, c1, z0, z1, u0, u1⟩) := k60
   replace k61 : Has xw58.drew (N + 1) 34 6 (rC zeroR) := k61
   replace k62 : Has xw58.drew (N + 1 + 1) 34 6 (rC zeroR) := k62
   replace Loa := Ats.drew Loa
   replace Lob := Ats.drew Lob
   replace hM59 : Sz xw58.drew M59 := hM59
   replace lo63 : Below N w xw58.drew := lo63.drew
   change wpAnyH _ _ _ _ _ _ _ _ (World.drew _)
   generalize xw58.drew = xw64 at *
   obtain ⟨c65, c66, c67, c68, c69, c70⟩ := ca_cells k60
   refine held_take (i := 0) (v := (.slice (some ⟨goa, 0 + 1, none⟩) ma (capoa - 1))) (d := some 38) rfl (by kernel_rfl) (by kernel_rfl) (by kernel_rfl) (by kernel_rfl) (fun _ _ _ h => h) (Or.inl ⟨by rfl, fun wq ⟨hq0, hq1, hq2, hq3, hq4, hq5⟩ => run_mv (x := (.tmp 6)) rfl wq rfl⟩) ⟨c67, c68, c69, c70, Loa, Lob⟩ ?_; simp only [pA]
   refine held_take (i := 1) (v := (Value.pointer (some ⟨N, 4, none⟩))) (d := some 39) rfl (by kernel_rfl) (by kernel_rfl) (by kernel_rfl) (by kernel_rfl) (fun _ _ _ h => h) (Or.inl ⟨by rfl, fun wq ⟨hq0, hq1, hq2, hq3, hq4, hq5⟩ => run_fa 30 (.tmp 1) 3 4 rfl rfl faCs3⟩) ⟨c67, c68, c69, c70, Loa, Lob⟩ ?_; simp only [pA]
   refine held_take (i := 2) (v := (Value.pointer (some ⟨N, 4, none⟩))) (d := some 40) rfl (by kernel_rfl) (by kernel_rfl) (by kernel_rfl) (by kernel_rfl) (fun _ _ _ h => h) (Or.inl ⟨by rfl, fun wq ⟨hq0, hq1, hq2, hq3, hq4, hq5⟩ => run_iaO 23 (.tmp 39) (.const (.int .i64 0)) rfl rfl rfl (k := 0) (r := 4) (by kernel_rfl) rfl wq⟩) ⟨c67, c68, c69, c70, Loa, Lob⟩ ?_; simp only [pA]
   refine held_take (i := 3) (v := (Q u0)) (d := some 41) rfl (by kernel_rfl) (by kernel_rfl) (by kernel_rfl) (by kernel_rfl) (fun _ _ _ h => h) (Or.inl ⟨by rfl, fun wq ⟨hq0, hq1, hq2, hq3, hq4, hq5⟩ => run_c1 22 (.tmp 40) rfl ⟨N, 4, none⟩ rfl und64 rfl hq2⟩) ⟨c67, c68, c69, c70, Loa, Lob⟩ ?_; simp only [pA]
   refine held_take (i := 5) (v := (.slice (some ⟨gob, 0 + 1, none⟩) mb (capob - 1))) (d := some 43) rfl (by kernel_rfl) (by kernel_rfl) (by kernel_rfl) (by kernel_rfl) (fun _ _ _ h => h) (Or.inl ⟨by rfl, fun wq ⟨hq0, hq1, hq2, hq3, hq4, hq5⟩ => run_mv (x := (.tmp 7)) rfl wq rfl⟩) ⟨c67, c68, c69, c70, Loa, Lob⟩ ?_; simp only [pA]
   refine held_take (i := 6) (v := (Value.pointer (some ⟨N, 4, none⟩))) (d := some 44) rfl (by kernel_rfl) (by kernel_rfl) (by kernel_rfl) (by kernel_rfl) (fun _ _ _ h => h) (Or.inl ⟨by rfl, fun wq ⟨hq0, hq1, hq2, hq3, hq4, hq5⟩ => run_fa 30 (.tmp 1) 3 4 rfl rfl faCs3⟩) ⟨c67, c68, c69, c70, Loa, Lob⟩ ?_; simp only [pA]
   refine held_take (i := 7) (v := (Value.pointer (some ⟨N, 5, none⟩))) (d := some 45) rfl (by kernel_rfl) (by kernel_rfl) (by kernel_rfl) (by kernel_rfl) (fun _ _ _ h => h) (Or.inl ⟨by rfl, fun wq ⟨hq0, hq1, hq2, hq3, hq4, hq5⟩ => run_iaO 23 (.tmp 44) (.const (.int .i64 1)) rfl rfl rfl (k := 1) (r := 5) (by kernel_rfl) rfl wq⟩) ⟨c67, c68, c69, c70, Loa, Lob⟩ ?_; simp only [pA]
   refine held_take (i := 8) (v := (Q u1)) (d := some 46) rfl (by kernel_rfl) (by kernel_rfl) (by kernel_rfl) (by kernel_rfl) (fun _ _ _ h => h) (Or.inl ⟨by rfl, fun wq ⟨hq0, hq1, hq2, hq3, hq4, hq5⟩ => run_c1 22 (.tmp 45) rfl ⟨N, 5, none⟩ rfl und64 rfl hq3⟩) ⟨c67, c68, c69, c70, Loa, Lob⟩ ?_; simp only [pA]
   refine held_take (i := 10) (v := (.slice (some ⟨goa, 0 + 1, none⟩) ma (capoa - 1))) (d := some 48) rfl (by kernel_rfl) (by kernel_rfl) (by kernel_rfl) (by kernel_rfl) (fun _ _ _ h => h) (Or.inl ⟨by rfl, fun wq ⟨hq0, hq1, hq2, hq3, hq4, hq5⟩ => run_mv (x := (.tmp 6)) rfl wq rfl⟩) ⟨c67, c68, c69, c70, Loa, Lob⟩ ?_; simp only [pA]
   refine held_take (i := 11) (v := (Value.pointer (some ⟨N, 2, none⟩))) (d := some 49) rfl (by kernel_rfl) (by kernel_rfl) (by kernel_rfl) (by kernel_rfl) (fun _ _ _ h => h) (Or.inl ⟨by rfl, fun wq ⟨hq0, hq1, hq2, hq3, hq4, hq5⟩ => run_fa 30 (.tmp 1) 2 2 rfl rfl faCs2⟩) ⟨c67, c68, c69, c70, Loa, Lob⟩ ?_; simp only [pA]
   refine held_take (i := 12) (v := (Value.pointer (some ⟨N, 2, none⟩))) (d := some 50) rfl (by kernel_rfl) (by kernel_rfl) (by kernel_rfl) (by kernel_rfl) (fun _ _ _ h => h) (Or.inl ⟨by rfl, fun wq ⟨hq0, hq1, hq2, hq3, hq4, hq5⟩ => run_iaO 28 (.tmp 49) (.const (.int .i64 0)) rfl rfl rfl (k := 0) (r := 2) (by kernel_rfl) rfl wq⟩) ⟨c67, c68, c69, c70, Loa, Lob⟩ ?_; simp only [pA]
   refine held_take (i := 13) (v := (Value.int .i64 z0)) (d := some 51) rfl (by kernel_rfl) (by kernel_rfl) (by kernel_rfl) (by kernel_rfl) (fun _ _ _ h => h) (Or.inl ⟨by rfl, fun wq ⟨hq0, hq1, hq2, hq3, hq4, hq5⟩ => run_c1 3 (.tmp 50) rfl ⟨N, 2, none⟩ rfl undInt rfl hq0⟩) ⟨c67, c68, c69, c70, Loa, Lob⟩ ?_; simp only [pA]
   refine held_take (i := 14) (v := (Q (BitVec.ofInt 64 z0))) (d := some 52) rfl (by kernel_rfl) (by kernel_rfl) (by kernel_rfl) (by kernel_rfl) (fun _ _ _ h => h) (Or.inl ⟨by rfl, fun wq ⟨hq0, hq1, hq2, hq3, hq4, hq5⟩ => run_iu (x := (.tmp 51)) rfl undInt und64 rfl wq⟩) ⟨c67, c68, c69, c70, Loa, Lob⟩ ?_; simp only [pA]
   refine held_take (i := 15) (v := (.slice (some ⟨goa, 0 + 1, none⟩) ma (capoa - 1))) (d := some 53) rfl (by kernel_rfl) (by kernel_rfl) (by kernel_rfl) (by kernel_rfl) (fun _ _ _ h => h) (Or.inl ⟨by rfl, fun wq ⟨hq0, hq1, hq2, hq3, hq4, hq5⟩ => run_mv (x := (.tmp 6)) rfl wq rfl⟩) ⟨c67, c68, c69, c70, Loa, Lob⟩ ?_; simp only [pA]
   refine held_take (i := 16) (v := (Value.int .i64 (ma : Int))) (d := some 54) rfl (by kernel_rfl) (by kernel_rfl) (by kernel_rfl) (by kernel_rfl) (fun _ _ _ h => h) (Or.inl ⟨by rfl, fun wq ⟨hq0, hq1, hq2, hq3, hq4, hq5⟩ => run_lenS undSQ (x := (.tmp 53)) rfl rfl wq⟩) ⟨c67, c68, c69, c70, Loa, Lob⟩ ?_; simp only [pA]
   refine held_take (i := 17) (v := (Q (BitVec.ofNat 64 ma))) (d := some 55) rfl (by kernel_rfl) (by kernel_rfl) (by kernel_rfl) (by kernel_rfl) (fun _ _ _ h => h) (Or.inl ⟨by rfl, fun wq ⟨hq0, hq1, hq2, hq3, hq4, hq5⟩ => run_nu (x := (.tmp 54)) rfl undInt und64 rfl wq⟩) ⟨c67, c68, c69, c70, Loa, Lob⟩ ?_; simp only [pA]
   refine held_take (i := 18) (v := (Q ((BitVec.ofInt 64 z0) % (BitVec.ofNat 64 ma)))) (d := some 56) rfl (by kernel_rfl) (by kernel_rfl) (by kernel_rfl) (by kernel_rfl) (fun _ _ _ h => h) (Or.inl ⟨by rfl, fun wq ⟨hq0, hq1, hq2, hq3, hq4, hq5⟩ => (bin_rem _ (BitVec.ofInt 64 z0) (BitVec.ofNat 64 ma) (nz_of (by omega))) _ _ (.tmp 52) (.tmp 55) _ wq rfl rfl rfl⟩) ⟨c67, c68, c69, c70, Loa, Lob⟩ ?_; simp only [pA]
   refine held_take (i := 19) (v := (Value.int .i64 ((rm z0 ma) : Int))) (d := some 57) rfl (by kernel_rfl) (by kernel_rfl) (by kernel_rfl) (by kernel_rfl) (fun _ _ _ h => h) (Or.inl ⟨by rfl, fun wq ⟨hq0, hq1, hq2, hq3, hq4, hq5⟩ => run_rm (x := (.tmp 56)) rfl und64 undInt (z := z0) (m := ma) (by omega) rfl wq⟩) ⟨c67, c68, c69, c70, Loa, Lob⟩ ?_; simp only [pA]
   refine held_take (i := 20) (v := (Value.pointer (some ⟨goa, ((0 + 1) + (rm z0 ma)), none⟩))) (d := some 58) rfl (by kernel_rfl) (by kernel_rfl) (by kernel_rfl) (by kernel_rfl) (fun _ _ _ h => h) (Or.inl ⟨by rfl, fun wq ⟨hq0, hq1, hq2, hq3, hq4, hq5⟩ => run_ixL 27 22 undSQ szQ1 (.tmp 48) (.tmp 57) rfl rfl rfl (k := (rm z0 ma)) (rm_lt _ _ (by omega)) wq⟩) ⟨c67, c68, c69, c70, Loa, Lob⟩ ?_; simp only [pA]
   refine held_take (i := 21) (v := (Q (Z0 (rm z0 ma)))) (d := some 59) rfl (by kernel_rfl) (by kernel_rfl) (by kernel_rfl) (by kernel_rfl) (fun _ _ _ h => h) (Or.inl ⟨by rfl, fun wq ⟨hq0, hq1, hq2, hq3, hq4, hq5⟩ => run_c1 22 (.tmp 58) rfl ⟨goa, ((0 + 1) + (rm z0 ma)), none⟩ rfl und64 rfl (at_L hq4 (rm_lt _ _ (by omega)))⟩) ⟨c67, c68, c69, c70, Loa, Lob⟩ ?_; simp only [pA]
   refine held_take (i := 22) (v := (.slice (some ⟨gob, 0 + 1, none⟩) mb (capob - 1))) (d := some 60) rfl (by kernel_rfl) (by kernel_rfl) (by kernel_rfl) (by kernel_rfl) (fun _ _ _ h => h) (Or.inl ⟨by rfl, fun wq ⟨hq0, hq1, hq2, hq3, hq4, hq5⟩ => run_mv (x := (.tmp 7)) rfl wq rfl⟩) ⟨c67, c68, c69, c70, Loa, Lob⟩ ?_; simp only [pA]
   refine held_take (i := 23) (v := (Value.pointer (some ⟨N, 2, none⟩))) (d := some 61) rfl (by kernel_rfl) (by kernel_rfl) (by kernel_rfl) (by kernel_rfl) (fun _ _ _ h => h) (Or.inl ⟨by rfl, fun wq ⟨hq0, hq1, hq2, hq3, hq4, hq5⟩ => run_fa 30 (.tmp 1) 2 2 rfl rfl faCs2⟩) ⟨c67, c68, c69, c70, Loa, Lob⟩ ?_; simp only [pA]
   refine held_take (i := 24) (v := (Value.pointer (some ⟨N, 3, none⟩))) (d := some 62) rfl (by kernel_rfl) (by kernel_rfl) (by kernel_rfl) (by kernel_rfl) (fun _ _ _ h => h) (Or.inl ⟨by rfl, fun wq ⟨hq0, hq1, hq2, hq3, hq4, hq5⟩ => run_iaO 28 (.tmp 61) (.const (.int .i64 1)) rfl rfl rfl (k := 1) (r := 3) (by kernel_rfl) rfl wq⟩) ⟨c67, c68, c69, c70, Loa, Lob⟩ ?_; simp only [pA]
   refine held_take (i := 25) (v := (Value.int .i64 z1)) (d := some 63) rfl (by kernel_rfl) (by kernel_rfl) (by kernel_rfl) (by kernel_rfl) (fun _ _ _ h => h) (Or.inl ⟨by rfl, fun wq ⟨hq0, hq1, hq2, hq3, hq4, hq5⟩ => run_c1 3 (.tmp 62) rfl ⟨N, 3, none⟩ rfl undInt rfl hq1⟩) ⟨c67, c68, c69, c70, Loa, Lob⟩ ?_; simp only [pA]
   refine held_take (i := 26) (v := (Q (BitVec.ofInt 64 z1))) (d := some 64) rfl (by kernel_rfl) (by kernel_rfl) (by kernel_rfl) (by kernel_rfl) (fun _ _ _ h => h) (Or.inl ⟨by rfl, fun wq ⟨hq0, hq1, hq2, hq3, hq4, hq5⟩ => run_iu (x := (.tmp 63)) rfl undInt und64 rfl wq⟩) ⟨c67, c68, c69, c70, Loa, Lob⟩ ?_; simp only [pA]
   refine held_take (i := 27) (v := (.slice (some ⟨gob, 0 + 1, none⟩) mb (capob - 1))) (d := some 65) rfl (by kernel_rfl) (by kernel_rfl) (by kernel_rfl) (by kernel_rfl) (fun _ _ _ h => h) (Or.inl ⟨by rfl, fun wq ⟨hq0, hq1, hq2, hq3, hq4, hq5⟩ => run_mv (x := (.tmp 7)) rfl wq rfl⟩) ⟨c67, c68, c69, c70, Loa, Lob⟩ ?_; simp only [pA]
   refine held_take (i := 28) (v := (Value.int .i64 (mb : Int))) (d := some 66) rfl (by kernel_rfl) (by kernel_rfl) (by kernel_rfl) (by kernel_rfl) (fun _ _ _ h => h) (Or.inl ⟨by rfl, fun wq ⟨hq0, hq1, hq2, hq3, hq4, hq5⟩ => run_lenS undSQ (x := (.tmp 65)) rfl rfl wq⟩) ⟨c67, c68, c69, c70, Loa, Lob⟩ ?_; simp only [pA]
   refine held_take (i := 29) (v := (Q (BitVec.ofNat 64 mb))) (d := some 67) rfl (by kernel_rfl) (by kernel_rfl) (by kernel_rfl) (by kernel_rfl) (fun _ _ _ h => h) (Or.inl ⟨by rfl, fun wq ⟨hq0, hq1, hq2, hq3, hq4, hq5⟩ => run_nu (x := (.tmp 66)) rfl undInt und64 rfl wq⟩) ⟨c67, c68, c69, c70, Loa, Lob⟩ ?_; simp only [pA]
   refine held_take (i := 30) (v := (Q ((BitVec.ofInt 64 z1) % (BitVec.ofNat 64 mb)))) (d := some 68) rfl (by kernel_rfl) (by kernel_rfl) (by kernel_rfl) (by kernel_rfl) (fun _ _ _ h => h) (Or.inl ⟨by rfl, fun wq ⟨hq0, hq1, hq2, hq3, hq4, hq5⟩ => (bin_rem _ (BitVec.ofInt 64 z1) (BitVec.ofNat 64 mb) (nz_of (by omega))) _ _ (.tmp 64) (.tmp 67) _ wq rfl rfl rfl⟩) ⟨c67, c68, c69, c70, Loa, Lob⟩ ?_; simp only [pA]
   refine held_take (i := 31) (v := (Value.int .i64 ((rm z1 mb) : Int))) (d := some 69) rfl (by kernel_rfl) (by kernel_rfl) (by kernel_rfl) (by kernel_rfl) (fun _ _ _ h => h) (Or.inl ⟨by rfl, fun wq ⟨hq0, hq1, hq2, hq3, hq4, hq5⟩ => run_rm (x := (.tmp 68)) rfl und64 undInt (z := z1) (m := mb) (by omega) rfl wq⟩) ⟨c67, c68, c69, c70, Loa, Lob⟩ ?_; simp only [pA]
   refine held_take (i := 32) (v := (Value.pointer (some ⟨gob, ((0 + 1) + (rm z1 mb)), none⟩))) (d := some 70) rfl (by kernel_rfl) (by kernel_rfl) (by kernel_rfl) (by kernel_rfl) (fun _ _ _ h => h) (Or.inl ⟨by rfl, fun wq ⟨hq0, hq1, hq2, hq3, hq4, hq5⟩ => run_ixL 27 22 undSQ szQ1 (.tmp 60) (.tmp 69) rfl rfl rfl (k := (rm z1 mb)) (rm_lt _ _ (by omega)) wq⟩) ⟨c67, c68, c69, c70, Loa, Lob⟩ ?_; simp only [pA]
   refine held_take (i := 33) (v := (Q (Z1 (rm z1 mb)))) (d := some 71) rfl (by kernel_rfl) (by kernel_rfl) (by kernel_rfl) (by kernel_rfl) (fun _ _ _ h => h) (Or.inl ⟨by rfl, fun wq ⟨hq0, hq1, hq2, hq3, hq4, hq5⟩ => run_c1 22 (.tmp 70) rfl ⟨gob, ((0 + 1) + (rm z1 mb)), none⟩ rfl und64 rfl (at_L hq5 (rm_lt _ _ (by omega)))⟩) ⟨c67, c68, c69, c70, Loa, Lob⟩ ?_; simp only [pA]
   refine wpAnyH_all (rs := [4]) (by kernel_rfl) (by simp) ?_
   intro iq hiq; simp only [List.mem_singleton] at hiq; subst hiq
   refine opg_list rfl ?_
   refine wpl_clD rfl (d := some 42) rfl ?_
   refine wpl_cl rfl 39 _ _ rfl #[(.slice (some ⟨goa, 0 + 1, none⟩) ma (capoa - 1)), (Q u0)] (by simp only [List.map_toArray, List.map_cons, List.map_nil] <;> rfl) (by kernel_rfl) (Value.agg (cellsOf (rC (arA Z0 ma u0)) 6)) (Around_any Z0 ma (by omega) (by omega) goa (0 + 1) (capoa - 1) u0 xw64 M59 hM59 Loa) ?_
   intro xw71 hbxw71; simp only [pA]
   have Loa2 := Loa.below hM59 hbxw71
   clear Loa
   have Loa := Loa2
   clear Loa2
   have Lob2 := Lob.below hM59 hbxw71
   clear Lob
   have Lob := Lob2
   clear Lob2
   obtain ⟨M72, hM72⟩ := sz_some xw71
   have lM72 := below_sz hbxw71 hM59 hM72
   have k73 := k60.below hbxw71 (by omega)
   have k74 := k61.below hbxw71 (by omega)
   have k75 := k62.below hbxw71 (by omega)
   have lo76 := lo63.trans (hbxw71.mono (by omega))
   clear k60 c65 c66 c67 c68 c69 c70 k61 k62 lo63 hbxw71
   obtain ⟨c77, c78, c79, c80, c81, c82⟩ := ca_cells k73
   refine ⟨⟨c79, c80, c81, c82, Loa, Lob⟩, ?_⟩
   refine wpAnyH_all (rs := [9]) (by kernel_rfl) (by simp) ?_
   intro iq hiq; simp only [List.mem_singleton] at hiq; subst hiq
   refine opg_list rfl ?_
   refine wpl_clD rfl (d := some 47) rfl ?_
   refine wpl_cl rfl 39 _ _ rfl #[(.slice (some ⟨gob, 0 + 1, none⟩) mb (capob - 1)), (Q u1)] (by simp only [List.map_toArray, List.map_cons, List.map_nil] <;> rfl) (by kernel_rfl) (Value.agg (cellsOf (rC (arA Z1 mb u1)) 6)) (Around_any Z1 mb (by omega) (by omega) gob (0 + 1) (capob - 1) u1 xw71 M72 hM72 Lob) ?_
   intro xw83 hbxw83; simp only [pA]
   have Loa2 := Loa.below hM72 hbxw83
   clear Loa
   have Loa := Loa2
   clear Loa2
   have Lob2 := Lob.below hM72 hbxw83
   clear Lob
   have Lob := Lob2
   clear Lob2
   obtain ⟨M84, hM84⟩ := sz_some xw83
   have lM84 := below_sz hbxw83 hM72 hM84
   have k85 := k73.below hbxw83 (by omega)
   have k86 := k74.below hbxw83 (by omega)
   have k87 := k75.below hbxw83 (by omega)
   have lo88 := lo76.trans (hbxw83.mono (by omega))
   clear k73 c77 c78 c79 c80 c81 c82 k74 k75 lo76 hbxw83
   obtain ⟨c89, c90, c91, c92, c93, c94⟩ := ca_cells k85
   refine ⟨⟨c91, c92, c93, c94, Loa, Lob⟩, ?_⟩
   refine wpAnyH_all (rs := [34]) (by kernel_rfl) (by simp) ?_
   intro iq hiq; simp only [List.mem_singleton] at hiq; subst hiq
   refine opg_list rfl ?_
   refine wpl_storeN (by rfl) (by kernel_rfl) 34 (.tmp 2) (.tmp 42) rfl (N + 1) 6 (rC (arA Z0 ma u0)) rfl rfl 34 _ k86 szRU (fun j _ => rC_one _ j) ?_
   intro xw95 t96 k97; try simp only [pA]
   have k98 := k85.touch t96 (by omega)
   have k99 := k87.touch t96 (by omega)
   have lo100 := t96.below lo88 (by omega)
   have h101 := t96.sz hM84
   have Loa2 := Loa.touch t96 (fun b hb => by have := hgeoa b hb; omega)
   clear Loa
   have Loa := Loa2
   clear Loa2
   have Lob2 := Lob.touch t96 (fun b hb => by have := hgeob b hb; omega)
   clear Lob
   have Lob := Lob2
   clear Lob2
   clear k86 k85 c89 c90 c91 c92 c93 c94 k87 lo88 hM84 t96
   obtain ⟨c102, c103, c104, c105, c106, c107⟩ := ca_cells k98
   refine ⟨⟨c104, c105, c106, c107, Loa, Lob⟩, ?_⟩
   refine wpAnyH_all (rs := [35]) (by kernel_rfl) (by simp) ?_
   intro iq hiq; simp only [List.mem_singleton] at hiq; subst hiq
   refine opg_list rfl ?_
   refine wpl_storeN (by rfl) (by kernel_rfl) 34 (.tmp 3) (.tmp 47) rfl (N + 1 + 1) 6 (rC (arA Z1 mb u1)) rfl rfl 34 _ k99 szRU (fun j _ => rC_one _ j) ?_
   intro xw108 t109 k110; try simp only [pA]
   have k111 := k98.touch t109 (by omega)
   have k112 := k97.touch t109 (by omega)
   have lo113 := t109.below lo100 (by omega)
   have h114 := t109.sz h101
   have Loa2 := Loa.touch t109 (fun b hb => by have := hgeoa b hb; omega)
   clear Loa
   have Loa := Loa2
   clear Loa2
   have Lob2 := Lob.touch t109 (fun b hb => by have := hgeob b hb; omega)
   clear Lob
   have Lob := Lob2
   clear Lob2
   clear k99 k98 c102 c103 c104 c105 c106 c107 k97 lo100 h101 t109
   obtain ⟨c115, c116, c117, c118, c119, c120⟩ := ca_cells k111
   refine ⟨⟨c117, c118, c119, c120, Loa, Lob⟩, ?_⟩
   refine wpAnyH_all (rs := [36]) (by kernel_rfl) (by simp) ?_
   intro iq hiq; simp only [List.mem_singleton] at hiq; subst hiq
   refine opg_list rfl ?_
   refine wpl_runD rfl (d := some 4) rfl (Q (Z0 (rm z0 ma))) (run_as (x := (.tmp 59)) rfl _ rfl) ?_; simp only [pA]
   refine ⟨⟨c117, c118, c119, c120, Loa, Lob⟩, ?_⟩
   refine wpAnyH_all (rs := [37]) (by kernel_rfl) (by simp) ?_
   intro iq hiq; simp only [List.mem_singleton] at hiq; subst hiq
   refine opg_list rfl ?_
   refine wpl_runD rfl (d := some 5) rfl (Q (Z1 (rm z1 mb))) (run_as (x := (.tmp 71)) rfl _ rfl) ?_; simp only [pA]
   refine ⟨⟨c117, c118, c119, c120, Loa, Lob⟩, ?_⟩
   refine wpAnyH_done (by kernel_rfl) ?_ _
   obtain ⟨M121, hM121⟩ := sz_some xw108
   have lt_122 := k111.ltN hM121
   have lt_123 := k112.ltN hM121
   have lt_124 := k110.ltN hM121
   go_wp2_with fail
   refine post_rrqq rfl (N + 1) (N + 1 + 1) rfl rfl (x := (Q (Z0 (rm z0 ma)))) (y := (Q (Z1 (rm z1 mb)))) k112 k110 undRU undRU szRU szRU rfl rfl rfl ?_
   exact ⟨by rw [ER.out, hloa.out.1, hloa.out.2, hlob.out.1, hlob.out.2], lo113⟩
end Go.Proofs.Ytmdcopmgkhjfnaa
