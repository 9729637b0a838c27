/- bmap: set, value, Delete, remove, put. -/
import Derived.Test.YtjdclgnlnehjlaaDoorMgBm1
namespace Go.Proofs.YtjdclgnlnehjlaaDoor
open Go Go.RowKit
theorem me0_one (j : Nat) : (me0 j).oneCell' = true := by unfold me0; split <;> rfl
set_option maxRecDepth 100000 in
set_option maxHeartbeats 1000000 in
theorem DeleteM_any (g n cap k : Nat) (E : Nat → Me) (hk : k < n) (hn : n ≤ 1000) (w : World) (hE : OwnK w 82 2 (some ⟨g, 0, none⟩) n cap (meC E)) :
    Calls Tryd.prog 67 #[.slice (some ⟨g, 0, none⟩) n cap, .int .i64 (k : Int), .int .i64 ((k : Int) + 1)] w fun e w' => e = .returned (.slice (some ⟨g, 0, none⟩) (n - 1) cap) ∧ Touch g w w' ∧ OwnK w' 82 2 (some ⟨g, 0, none⟩) (n - 1) cap (meC (delF E k)) := by
  have hcap := hE.le
  have e1 : ((k : Int) == (k : Int) + 1) = false := by rw [beq_eq_false_iff_ne]; omega
  have s1 : ∀ w, (Instr.sliceAt 57 (.slice (some ⟨g, 0, none⟩) n cap) (some (.int .i64 (k : Int))) (some (.int .i64 ((k : Int) + 1))) (some (.int .i64 (n : Int)))).run Tryd.prog w = .ok (.slice (some ⟨g, k * 2, none⟩) (k + 1 - k) (n - k)) w := fun w =>
    run_cut_three 57 82 2 undBE szBE g n cap k (k + 1) n (by omega) (by omega) (by omega) (by omega) w
  have s2 : ∀ w, (Instr.sliceAt 57 (.slice (some ⟨g, 0, none⟩) n cap) none (some (.int .i64 (k : Int))) none).run Tryd.prog w = .ok (.slice (some ⟨g, 0, none⟩) k cap) w := fun w =>
    run_cut_front 57 82 2 undBE szBE g n cap k (by omega) w
  have s3 : ∀ w, (Instr.sliceAt 57 (.slice (some ⟨g, 0, none⟩) n cap) (some (.int .i64 ((k : Int) + 1))) none none).run Tryd.prog w = .ok (.slice (if cap = k + 1 then some ⟨g, 0, none⟩ else (some (⟨g, 0, none⟩ : Addr)).map (·.add ((k + 1) * 2))) (n - (k + 1)) (cap - (k + 1))) w := fun w =>
    run_cut_tail 57 82 2 undBE szBE (some ⟨g, 0, none⟩) n cap (k + 1) (by omega) w
  obtain ⟨q, hq⟩ : ∃ q, q = (if cap = k + 1 then some ⟨g, 0, none⟩ else (some (⟨g, 0, none⟩ : Addr)).map (·.add ((k + 1) * 2))) := ⟨_, rfl⟩
  rw [← hq] at s3
  have Hc : ∀ w' : World, OwnK w' 82 2 (some ⟨g, 0, none⟩) n cap (meC E) → Cells w' q ((n - (k + 1)) * 2) (fun j => meC E ((k + 1) * 2 + j)) := fun w' hO h0 => by
    obtain ⟨g', hg, hc⟩ := hO.cell (by omega)
    obtain rfl : g = g' := by injection hg with hg; injection hg
    refine ⟨⟨g, (k + 1) * 2, none⟩, ?_, fun j hj => ?_⟩
    · rw [hq, if_neg (by omega)]
      simp [Addr.add_mid]
    · have := hc ((k + 1) * 2 + j) (by omega)
      rw [Nat.zero_add] at this
      rw [Addr.add_mid, this]
  have HC := hid Hc
  clear hq Hc
  obtain ⟨m, hm⟩ : ∃ m, m = n - (k + 1) := ⟨_, rfl⟩
  have hkm : n - 1 = k + m := by omega
  obtain ⟨r, hr⟩ : ∃ r, r = n - 1 := ⟨_, rfl⟩
  have s4 : ∀ w, (Instr.sliceAt 57 (.slice (some ⟨g, 0, none⟩) r cap) (some (.int .i64 (r : Int))) (some (.int .i64 (n : Int))) none).run Tryd.prog w = .ok (.slice (some ⟨g, r * 2, none⟩) 1 (cap - r)) w := fun w => by
    have := run_cut_mid 57 82 2 undBE szBE g r cap r n (by omega) (by omega) (by omega) w
    rwa [show n - r = 1 by omega] at this
  rw [← hm] at s3 HC
  rw [← hr] at hkm ⊢
  have hrn : r + 1 ≤ n := by omega
  have Hkm := hid hkm
  have Hrn := hid (show r = n - 1 from hr)
  have hkm' : k + m ≤ cap := by omega
  have hkr : k ≤ r := by omega
  clear hr hm hkm
  go_enter Tryd.func67, Tryd.ntmps67
  go_wp2
  refine wp_region_quiet_tail 6 (by kernel_rfl) (by kernel_rfl) ?_
  simp only [List.take_succ_cons, List.take_zero, List.drop_succ_cons, List.drop_zero]
  repeat go_big_quiet_step (fail)
  refine wpQuiet_nil ?_
  rintro w1 ⟨x, rfl⟩
  have E1 : OwnK (w.drewN x) 82 2 (some ⟨g, 0, none⟩) n cap (meC E) := hE
  have T1 : Touch g w (w.drewN x) := ⟨rfl, rfl, rfl, rfl, fun _ _ => rfl⟩
  generalize w.drewN x = w1 at *
  clear hE
  refine wpl_app_room rfl (.tmp 22) (.tmp 25) 57 rfl 82 2 (by omega) undBE kBE g k cap rfl (meC E) (E1.cut (by omega)) q m (cap - (k + 1)) rfl (fun j => meC E ((k + 1) * 2 + j)) (HC.out w1 E1) (fun j _ => meC_one _ _) r Hkm.out hkm' ?_
  intro w2 E2 T2
  have E2' : OwnK w2 82 2 (some ⟨g, 0, none⟩) r cap (meC (delF E k)) := E2.congr (fun j hj => meC_del E k n hk j (by have := Hrn.out; omega))
  have T12 : Touch g w w2 := ⟨T2.os.trans T1.os, T2.tape.trans T1.tape, T2.output.trans T1.output, T2.size.trans T1.size, fun i hi => (T2.block i hi).trans (T1.block i hi)⟩
  clear E1 E2 T1 T2 HC s1 s2 s3
  go_wp2_with (first
    | (refine wpl_clear_last rfl (.tmp 31) 57 rfl 82 2 (.agg (cellsOf me0 2)) undBE zBE rfl (by omega) (fun j h => by simp only [Value.cells, cellsOf, List.getElem_toArray, List.getElem_map]; exact me0_one _) g r cap (cap - r) rfl _ E2' (by omega) ?_; intro w3 E3 T3)
    | fail)
  go_ret
  exact ⟨rfl, ⟨T3.os.trans T12.os, T3.tape.trans T12.tape, T3.output.trans T12.output, T3.size.trans T12.size, fun i hi => (T3.block i hi).trans (T12.block i hi)⟩, E3⟩
set_option maxRecDepth 100000 in
theorem set_new (c v : Nat) (h1 : 1 ≤ v) (h2 : v ≤ 64) (q : Option Addr) (cq : Nat) (D : Nat → BitVec 8) (w : World) (N : Nat) (hN : Sz w N) (hc : Has w c 78 1 (fun _ => .slice none 0 0)) (hq : Ats w q v (fun j => By (D j))) (hqc : ∀ g, blk q = some g → g ≠ c) :
    Calls Tryd.prog 43 #[.pointer (some ⟨c, 0, none⟩), .slice q v cq] w fun e w' => e = .returned (.tuple #[]) ∧ Turn (fun k => k = c) w w' ∧ Sz w' (N + 1) ∧ Has w' c 78 1 (fun _ => .slice (some ⟨N, 0, none⟩) v v) ∧ Has w' N 5 v (fun j => By (D j)) := by
  have c0 : w.cell? ⟨c, 0, none⟩ = some (.slice none 0 0) := hc.cell (by omega)
  have t1 : ((0 : Int) != (v : Int)) = true := by rw [bne_iff_ne]; omega
  obtain ⟨qb, qo, rfl, hqs⟩ := hq (by omega)
  have hqn : qb < N := by
    have := World.block_lt_of_cell? w _ (hqs 0 (by omega))
    have e : w.heap.size = N := hN
    simp only at this; omega
  have hqc' : qb ≠ c := hqc qb rfl
  have HQ := hid hqs
  have hcN := hc.ltN hN
  clear hqs hq hqc
  go_enter Tryd.func43, Tryd.ntmps43
  go_wp2_with (first
    | (refine wpl_make_full rfl 35 (.tmp 14) (.tmp 14) rfl v rfl rfl 5 (.int .u8 0) 1 undBB zBy (by omega) rfl (by omega) N hN ?_; intro w1 hN1 hb1 hh1)
    | (refine wpl_set rfl 35 (.tmp 17) (.tmp 15) rfl c 0 rfl (.slice (some ⟨N, 0, none⟩) v v) rfl szSlBB rfl rfl 78 1 _ (hc.below hb1 hcN) (by omega) ?_; intro w2 ht2 hh2; have c02 : w2.cell? ⟨c, 0, none⟩ = some (.slice (some ⟨N, 0, none⟩) v v) := hh2.cell (by omega); clear c0)
    | (refine wpl_copy rfl (.tmp 21) (.tmp 22) 35 35 rfl 5 undBB szBy N 0 v v rfl ⟨qb, qo, none⟩ v cq rfl 5 v _ (hh1.touch ht2 (by omega)) v (fun j => By (D j)) (by simp) (fun j hj => by rw [Addr.add_mid]; exact ht2.cell ((hb1.cell (p := ⟨qb, qo + j, none⟩) hqn).trans (HQ.out j hj)) hqc') (by omega) (fun _ _ => rfl) ?_; intro w3 ht3 hh3)
    | fail)
  go_end0
  refine ⟨rfl, ?_, ht3.sz (ht2.sz hN1), (hh2.touch ht3 (by omega)).congr (fun j hj => ?_), hh3.congr (fun j hj => ?_)⟩
  · exact ⟨ht3.os.trans (ht2.os.trans hb1.os), ht3.tape.trans (ht2.tape.trans hb1.tape), ht3.output.trans (ht2.output.trans hb1.output), by have e : w.heap.size = N := hN; have := ht3.sz (ht2.sz hN1); have e' : w3.heap.size = N + 1 := this; omega,
      fun k hk hkc => by
        have e : w.heap.size = N := hN
        rw [ht3.block k (by omega), ht2.block k hkc, hb1.block k (by omega)]⟩
  · obtain rfl : j = 0 := by omega
    rfl
  · unfold lay
    rw [if_pos (by omega)]
    rfl
set_option maxRecDepth 100000 in
theorem set_old (c b v : Nat) (h1 : 1 ≤ v) (h2 : v ≤ 64) (q : Option Addr) (cq : Nat) (D F : Nat → BitVec 8) (w : World) (hc : Has w c 78 1 (fun _ => .slice (some ⟨b, 0, none⟩) v v)) (hb : Has w b 5 v (fun j => By (F j))) (hq : Ats w q v (fun j => By (D j))) :
    Calls Tryd.prog 43 #[.pointer (some ⟨c, 0, none⟩), .slice q v cq] w fun e w' => e = .returned (.tuple #[]) ∧ Touch b w w' ∧ Has w' b 5 v (fun j => By (D j)) := by
  have c0 : w.cell? ⟨c, 0, none⟩ = some (.slice (some ⟨b, 0, none⟩) v v) := hc.cell (by omega)
  obtain ⟨qb, qo, rfl, hqs⟩ := hq (by omega)
  have HQ := hid hqs
  clear hqs hq
  go_enter Tryd.func43, Tryd.ntmps43
  go_wp2_with (first
    | (refine wpl_copy rfl (.tmp 21) (.tmp 22) 35 35 rfl 5 undBB szBy b 0 v v rfl ⟨qb, qo, none⟩ v cq rfl 5 v _ hb v (fun j => By (D j)) (by simp) (fun j hj => by rw [Addr.add_mid]; exact HQ.out j hj) (by omega) (fun _ _ => rfl) ?_; intro w3 ht3 hh3)
    | fail)
  go_end0
  refine ⟨rfl, ht3, hh3.congr (fun j hj => ?_)⟩
  unfold lay
  rw [if_pos (by omega)]
  rfl
set_option maxRecDepth 100000 in
theorem value_any (m : Mp) (c b : Nat) (D : Nat → BitVec 8) (h1 : 1 ≤ m.val) (h2 : m.val ≤ 64) (w : World) (N : Nat) (hN : Sz w N) (hA : MpAt w m) (hc : Has w c 78 1 (fun _ => .slice (some ⟨b, 0, none⟩) m.val m.val)) (hb : Has w b 5 m.val (fun j => By (D j))) :
    Calls Tryd.prog 35 #[.pointer (some ⟨m.b, 0, none⟩), .pointer (some ⟨c, 0, none⟩)] w fun e w' => e = .returned (.slice (some ⟨N, 0, none⟩) m.val m.val) ∧ Below N w w' ∧ Sz w' (N + 1) ∧ Has w' N 5 m.val (fun j => By (D j)) := by
  have d2 := hA.c2
  have hbN := hb.ltN hN
  generalize m.val = v at *
  go_enter Tryd.func35, Tryd.ntmps35
  go_wp2_with (first
    | (refine wpl_make_full rfl 35 (.tmp 10) (.tmp 10) rfl v rfl rfl 5 (.int .u8 0) 1 undBB zBy (by omega) rfl (by omega) N hN ?_; intro w1 hN1 hb1 hh1; have c01 : w1.cell? ⟨c, 0, none⟩ = some (.slice (some ⟨b, 0, none⟩) v v) := (hc.below hb1 (hc.ltN hN)).cell (by omega))
    | (refine wpl_copy rfl (.tmp 12) (.tmp 16) 35 35 rfl 5 undBB szBy N 0 v v rfl ⟨b, 0, none⟩ v v rfl 5 v _ hh1 v (fun j => By (D j)) (by simp) (fun j hj => by rw [Addr.add_mid, Nat.zero_add]; exact (hb.below hb1 hbN).cell hj) (by omega) (fun _ _ => rfl) ?_; intro w3 ht3 hh3)
    | fail)
  go_ret
  refine ⟨rfl, ht3.below hb1 (Nat.le_refl N), ht3.sz hN1, hh3.congr (fun j hj => ?_)⟩
  unfold lay
  rw [if_pos (by omega)]
  rfl
set_option maxRecDepth 100000 in
theorem remove_any (m : Mp) (k : Nat) (hk : k < m.n) (hn : m.n ≤ 1000) (w : World) (hA : MpAt w m) :
    Calls Tryd.prog 39 #[.pointer (some ⟨m.b, 0, none⟩), .int .i64 (k : Int)] w fun e w' => e = .returned (.tuple #[]) ∧ Turn (Top m) w w' ∧ w'.heap.size = w.heap.size ∧ MpAt w' (m.del k) := by
  obtain ⟨g, hg⟩ := hA.ptr (by omega)
  have hgb : g ≠ m.b := hA.pb g (by rw [hg]; rfl)
  have hE := hA.e
  rw [hg] at hE
  have d5 := hA.c5
  rw [hg] at d5
  have k0 : (0 : Int) ≤ (k : Int) := by omega
  have k1 : (k : Int) ≤ 1000 := by omega
  have hh := hA.h
  have HG := hid hg
  clear hg
  go_enter Tryd.func39, Tryd.ntmps39
  go_wp2_with (first
    | (go_at_call 67; refine (DeleteM_any g m.n m.cap k _ hk hn _ hE).mono ?_; rintro e w3 ⟨rfl, ht3, e3⟩; have h3 := hh.touch ht3 (fun e => hgb e.symm); clear d5)
    | (refine wpl_set rfl 57 (.tmp 14) (.tmp 12) rfl m.b 5 rfl (.slice (some ⟨g, 0, none⟩) (m.n - 1) m.cap) rfl szSlBE rfl rfl 59 6 _ h3 (by omega) ?_; intro w4 ht4 hh4)
    | fail)
  go_end0
  have T : Turn (fun j => j = m.b ∨ j = g) w w4 := (ht3.turn.mono (fun j hj => .inr hj)).trans ht4.turn (fun j hj _ => .inl hj)
  have hgp : blk m.p = some g := by rw [HG.out]; rfl
  have hc : ∀ i, i < m.n → Has w4 (m.E i).c 78 1 (fun _ => .slice (some ⟨(m.E i).b, 0, none⟩) m.val m.val) := fun i hi => (hA.c i hi).turn T (fun h => h.elim (hA.cb i hi).1 (hA.cp i hi g hgp).1)
  have hv : ∀ i, i < m.n → Has w4 (m.E i).b 5 m.val (fun j => By ((m.E i).v j)) := fun i hi => (hA.v i hi).turn T (fun h => h.elim (hA.cb i hi).2 (hA.cp i hi g hgp).2)
  refine ⟨rfl, T.mono (fun j hj => ?_), by rw [ht4.size, ht3.size], ⟨hh4.congr (fun j hj => ?_), ?_, fun i hi => ?_, fun i hi => ?_, fun i j hi hj hij => ?_⟩⟩
  · rcases hj with rfl | rfl
    · exact .inl rfl
    · exact .inr hgp
  · by_cases h5 : j = 5
    · subst h5
      simp only [upd, mpC, Mp.del, if_pos rfl, HG.out]
      rfl
    · unfold upd
      rw [if_neg h5]
      unfold mpC
      by_cases h4 : j < 4
      · rw [if_pos h4, if_pos h4]; rfl
      · rw [if_neg h4, if_neg h4, if_pos (by omega), if_pos (by omega)]; rfl
  · show OwnK w4 _ 2 m.p (m.n - 1) m.cap (meC (delF m.E k))
    rw [HG.out]
    exact e3.touch ht4 (fun g' hg' => by obtain rfl : g = g' := by simpa [blk] using hg'
                                         exact hgb)
  · have hi : i < m.n - 1 := hi
    show Has w4 (delF m.E k i).c _ 1 (fun _ => .slice (some ⟨(delF m.E k i).b, 0, none⟩) m.val m.val)
    unfold delF
    by_cases hik : i < k
    · rw [if_pos hik]; exact hc i (by omega)
    · rw [if_neg hik]; exact hc (i + 1) (by omega)
  · have hi : i < m.n - 1 := hi
    show Has w4 (delF m.E k i).b _ m.val (fun j => By ((delF m.E k i).v j))
    unfold delF
    by_cases hik : i < k
    · rw [if_pos hik]; exact hv i (by omega)
    · rw [if_neg hik]; exact hv (i + 1) (by omega)
  · have hi : i < m.n - 1 := hi
    have hj : j < m.n - 1 := hj
    show (delF m.E k i).c ≠ (delF m.E k j).c ∧ (delF m.E k i).b ≠ (delF m.E k j).b
    unfold delF
    by_cases hik : i < k
    · by_cases hjk : j < k
      · rw [if_pos hik, if_pos hjk]; exact hA.inj i j (by omega) (by omega) hij
      · rw [if_pos hik, if_neg hjk]; exact hA.inj i (j + 1) (by omega) (by omega) (by omega)
    · by_cases hjk : j < k
      · rw [if_neg hik, if_pos hjk]; exact hA.inj (i + 1) j (by omega) (by omega) (by omega)
      · rw [if_neg hik, if_neg hjk]; exact hA.inj (i + 1) (j + 1) (by omega) (by omega) (by omega)
def Putted (m : Mp) (N : Nat) (key : ByteArray) (D : Nat → BitVec 8) (w w' : World) : Prop :=
  Turn (Top m) w w' ∧ ∃ p' cap', MpAt w' (m.put p' cap' N key D) ∧ (blk p' = blk m.p ∨ ∀ g, blk p' = some g → N ≤ g)
set_option maxRecDepth 100000 in
set_option maxHeartbeats 1000000 in
theorem put_any (m : Mp) (key : ByteArray) (q : Option Addr) (cq : Nat) (D : Nat → BitVec 8) (hn : m.n ≤ 1000) (h1 : 1 ≤ m.val) (h2 : m.val ≤ 64) (w : World) (N : Nat) (hN : Sz w N) (hA : MpAt w m) (hq : Ats w q m.val (fun j => By (D j))) :
    Calls Tryd.prog 27 #[.pointer (some ⟨m.b, 0, none⟩), .string key, .slice q m.val cq] w fun e w' => e = .returned (.tuple #[]) ∧ Putted m N key D w w' := by
  have hqN : ∀ g, blk q = some g → g ≠ N := fun g hg => by have := hq.lt hN g (by omega) hg; omega
  have hbN := hA.lt hN m.b (.inl rfl)
  go_enter Tryd.func27, Tryd.ntmps27
  go_wp2_with (first
    | (refine wpl_build rfl 78 _ rfl (cellsOf (fun _ => .slice none 0 0) 1) (by kernel_rfl) ?_)
    | (refine wpl_box rfl 78 (.tmp 7) rfl 1 _ rfl N hN ?_; intro w1 hN1 hb1 hh1)
    | (go_at_call 43; refine (set_new N m.val h1 h2 q cq D _ (N + 1) hN1 hh1 (hq.below hN hb1) hqN).mono ?_; rintro e w2 ⟨rfl, ht2, hN2, hc2, hv2⟩; have A2 : MpAt w2 m := (hA.below hN hb1).turn ht2 (fun k hk e => by have := hA.lt hN k hk; omega); have d5 := A2.c5)
    | (refine wpl_appK rfl (.tmp 16) (.tmp 20) 57 rfl 82 2 (by omega) undBE kBE m.p m.n m.cap rfl (meC m.E) (A2.e.alloc _) _ 1 1 rfl (me1 ⟨key, N, N + 1, D⟩) (cells_new_two w2 _ _ _ _ rfl rfl) (fun j _ => me1_one _ j) (by omega) ?_; intro p4 cap4 w4 e4 g4 q4 n4; have h4 := (A2.h.alloc (.cells #[.string key, .pointer (some ⟨N, 0, none⟩)] 82)).grew g4 (fun e => hA.pb m.b e.symm rfl); clear d5)
    | (refine wpl_set rfl 57 (.tmp 23) (.tmp 21) rfl m.b 5 rfl (.slice p4 (m.n + 1) cap4) rfl szSlBE rfl rfl 59 6 _ h4 (by omega) ?_; intro w5 ht5 hh5)
    | fail)
  go_end0
  have eN : w.heap.size = N := hN
  have e2 : w2.heap.size = N + 1 + 1 := hN2
  have T2 : Turn (Top m) w w2 := (turn_below hN hb1 (Top m)).trans ht2 (fun j hj hlt => by omega)
  have T5 : Turn (fun k => k = m.b ∨ blk m.p = some k) w2 w5 := ((turn_alloc (fun k => k = m.b ∨ blk m.p = some k) w2 _).trans g4.turn (fun j hj _ => .inr hj)).trans ht5.turn (fun j hj _ => .inl hj)
  have hq4 : blk p4 = blk m.p ∨ ∀ g, blk p4 = some g → N ≤ g := by
    rcases q4 with q4 | q4
    · exact .inl q4
    · refine .inr (fun g hg => ?_)
      rw [q4] at hg
      injection hg with hg
      have : (w2.alloc (.cells #[.string key, .pointer (some ⟨N, 0, none⟩)] 82)).heap.size = w2.heap.size + 1 := by show (w2.heap.push _).size = _; simp
      omega
  have hNF : ∀ k, Foot m k → k < N := fun k hk => hA.lt hN k hk
  refine ⟨rfl, T2.trans T5 (fun j hj _ => hj), p4, cap4, ⟨hh5.congr (fun j hj => ?_), ?_, fun i hi => ?_, fun i hi => ?_, fun i j hi hj hij => ?_⟩, hq4⟩
  · by_cases h5 : j = 5
    · subst h5
      simp only [upd, mpC, Mp.put, if_pos rfl]
      rfl
    · unfold upd
      rw [if_neg h5]
      unfold mpC
      by_cases h4 : j < 4
      · rw [if_pos h4, if_pos h4]; rfl
      · rw [if_neg h4, if_neg h4, if_pos (by omega), if_pos (by omega)]; rfl
  · refine (e4.touch ht5 (fun g hg => ?_)).congr (fun j hj => meC_set m.E m.n ⟨key, N, N + 1, D⟩ _ (fun j _ => rfl) j hj)
    rcases hq4 with hq4 | hq4
    · rw [hq4] at hg; exact hA.pb g hg
    · have := hq4 g hg; omega
  · have hi : i < m.n + 1 := hi
    show Has w5 (setF m.E m.n ⟨key, N, N + 1, D⟩ i).c _ 1 (fun _ => .slice (some ⟨(setF m.E m.n ⟨key, N, N + 1, D⟩ i).b, 0, none⟩) m.val m.val)
    by_cases hin : i = m.n
    · subst hin
      rw [setF_self]
      exact hc2.turn T5 (fun h => by
        rcases h with h | h
        · omega
        · have := hNF N (.inr (.inl h)); omega)
    · rw [setF_ne _ _ _ hin]
      exact (A2.c i (by omega)).turn T5 (fun h => by
        rcases h with h | h
        · exact (A2.cb i (by omega)).1 h
        · exact (A2.cp i (by omega) _ h).1 rfl)
  · have hi : i < m.n + 1 := hi
    show Has w5 (setF m.E m.n ⟨key, N, N + 1, D⟩ i).b _ m.val (fun j => By ((setF m.E m.n ⟨key, N, N + 1, D⟩ i).v j))
    by_cases hin : i = m.n
    · subst hin
      rw [setF_self]
      exact hv2.turn T5 (fun h => by
        rcases h with h | h
        · omega
        · have := hNF (N + 1) (.inr (.inl h)); omega)
    · rw [setF_ne _ _ _ hin]
      exact (A2.v i (by omega)).turn T5 (fun h => by
        rcases h with h | h
        · exact (A2.cb i (by omega)).2 h
        · exact (A2.cp i (by omega) _ h).2 rfl)
  · have hi : i < m.n + 1 := hi
    have hj : j < m.n + 1 := hj
    show (setF m.E m.n ⟨key, N, N + 1, D⟩ i).c ≠ (setF m.E m.n ⟨key, N, N + 1, D⟩ j).c ∧ (setF m.E m.n ⟨key, N, N + 1, D⟩ i).b ≠ (setF m.E m.n ⟨key, N, N + 1, D⟩ j).b
    by_cases hin : i = m.n
    · subst hin
      rw [setF_self, setF_ne _ _ _ (fun h => hij h.symm)]
      have a := hNF _ (.inr (.inr ⟨j, by omega, .inl rfl⟩))
      have b := hNF _ (.inr (.inr ⟨j, by omega, .inr rfl⟩))
      exact ⟨by show N ≠ _; omega, by show N + 1 ≠ _; omega⟩
    · by_cases hjn : j = m.n
      · subst hjn
        rw [setF_self, setF_ne _ _ _ hin]
        have a := hNF _ (.inr (.inr ⟨i, by omega, .inl rfl⟩))
        have b := hNF _ (.inr (.inr ⟨i, by omega, .inr rfl⟩))
        exact ⟨by show _ ≠ N; omega, by show _ ≠ N + 1; omega⟩
      · rw [setF_ne _ _ _ hin, setF_ne _ _ _ hjn]
        exact hA.inj i j (by omega) (by omega) hij
end Go.Proofs.YtjdclgnlnehjlaaDoor
