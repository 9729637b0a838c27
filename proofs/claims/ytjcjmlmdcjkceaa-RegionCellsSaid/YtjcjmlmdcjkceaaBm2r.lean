/- bmap: set, value, Delete, remove, put. -/
import Derived.Test.YtjcjmlmdcjkceaaBm1r
namespace Go.Proofs.Ytjcjmlmdcjkceaa
open Go Go.RowKit
set_option maxRecDepth 100000 in
theorem set_new (c v : Nat) (h1 : 1 ≤ v) (h2 : v ≤ 64) (q : Option Addr) (cq : Nat) (D : Nat → BitVec 8) (w : World) (N : Nat) (hN : Sz w N) (hc : Has w c 113 1 (fun _ => .slice none 0 0)) (hq : Ats w q v (fun j => By (D j))) (hqc : ∀ g, blk q = some g → g ≠ c) :
    Calls Try.prog 43 #[.pointer (some ⟨c, 0, none⟩), .slice q v cq] w fun e w' => e = .returned (.tuple #[]) ∧ Turn (fun k => k = c) w w' ∧ Sz w' (N + 1) ∧ Has w' c 113 1 (fun _ => .slice (some ⟨N, 0, none⟩) v v) ∧ Has w' N 5 v (fun j => By (D j)) := by
  have c0 : w.cell? ⟨c, 0, none⟩ = some (.slice none 0 0) := hc.cell (by omega)
  have t1 : ((0 : Int) != (v : Int)) = true := by rw [bne_iff_ne]; omega
  obtain ⟨qb, qo, rfl, hqs⟩ := hq (by omega)
  have hqn : qb < N := by
    have := World.block_lt_of_cell? w _ (hqs 0 (by omega))
    have e : w.heap.size = N := hN
    simp only at this; omega
  have hqc' : qb ≠ c := hqc qb rfl
  have HQ := hid hqs
  have hcN := hc.ltN hN
  clear hqs hq hqc
  go_enter Try.func43, Try.ntmps43
  go_wp2_with (first
    | (refine wpl_make_full rfl 32 (.tmp 14) (.tmp 14) rfl v rfl rfl 5 (.int .u8 0) 1 undBB zBy (by omega) rfl (by omega) N hN ?_; intro w1 hN1 hb1 hh1)
    | (refine wpl_set rfl 32 (.tmp 17) (.tmp 15) rfl c 0 rfl (.slice (some ⟨N, 0, none⟩) v v) rfl szSlBB rfl rfl 113 1 _ (hc.below hb1 hcN) (by omega) ?_; intro w2 ht2 hh2; have c02 : w2.cell? ⟨c, 0, none⟩ = some (.slice (some ⟨N, 0, none⟩) v v) := hh2.cell (by omega); clear c0)
    | (refine wpl_copy rfl (.tmp 21) (.tmp 22) 32 32 rfl 5 undBB szBy N 0 v v rfl ⟨qb, qo, none⟩ v cq rfl 5 v _ (hh1.touch ht2 (by omega)) v (fun j => By (D j)) (by simp) (fun j hj => by rw [Addr.add_mid]; exact ht2.cell ((hb1.cell (p := ⟨qb, qo + j, none⟩) hqn).trans (HQ.out j hj)) hqc') (by omega) (fun _ _ => rfl) ?_; intro w3 ht3 hh3)
    | fail)
  go_end0
  refine ⟨rfl, ?_, ht3.sz (ht2.sz hN1), (hh2.touch ht3 (by omega)).congr (fun j hj => ?_), hh3.congr (fun j hj => ?_)⟩
  · exact ⟨ht3.os.trans (ht2.os.trans hb1.os), ht3.tape.trans (ht2.tape.trans hb1.tape), ht3.output.trans (ht2.output.trans hb1.output), by have e : w.heap.size = N := hN; have := ht3.sz (ht2.sz hN1); have e' : w3.heap.size = N + 1 := this; omega,
      fun k hk hkc => by
        have e : w.heap.size = N := hN
        rw [ht3.block k (by omega), ht2.block k hkc, hb1.block k (by omega)]⟩
  · obtain rfl : j = 0 := by omega
    rfl
  · unfold lay
    rw [if_pos (by omega)]
    rfl
set_option maxRecDepth 100000 in
theorem set_old (c b v : Nat) (h1 : 1 ≤ v) (h2 : v ≤ 64) (q : Option Addr) (cq : Nat) (D F : Nat → BitVec 8) (w : World) (hc : Has w c 113 1 (fun _ => .slice (some ⟨b, 0, none⟩) v v)) (hb : Has w b 5 v (fun j => By (F j))) (hq : Ats w q v (fun j => By (D j))) :
    Calls Try.prog 43 #[.pointer (some ⟨c, 0, none⟩), .slice q v cq] w fun e w' => e = .returned (.tuple #[]) ∧ Touch b w w' ∧ Has w' b 5 v (fun j => By (D j)) := by
  have c0 : w.cell? ⟨c, 0, none⟩ = some (.slice (some ⟨b, 0, none⟩) v v) := hc.cell (by omega)
  obtain ⟨qb, qo, rfl, hqs⟩ := hq (by omega)
  have HQ := hid hqs
  clear hqs hq
  go_enter Try.func43, Try.ntmps43
  go_wp2_with (first
    | (refine wpl_copy rfl (.tmp 21) (.tmp 22) 32 32 rfl 5 undBB szBy b 0 v v rfl ⟨qb, qo, none⟩ v cq rfl 5 v _ hb v (fun j => By (D j)) (by simp) (fun j hj => by rw [Addr.add_mid]; exact HQ.out j hj) (by omega) (fun _ _ => rfl) ?_; intro w3 ht3 hh3)
    | fail)
  go_end0
  refine ⟨rfl, ht3, hh3.congr (fun j hj => ?_)⟩
  unfold lay
  rw [if_pos (by omega)]
  rfl
set_option maxRecDepth 100000 in
theorem value_any (m : Mp) (c b : Nat) (D : Nat → BitVec 8) (h1 : 1 ≤ m.val) (h2 : m.val ≤ 64) (w : World) (N : Nat) (hN : Sz w N) (hA : MpAt w m) (hc : Has w c 113 1 (fun _ => .slice (some ⟨b, 0, none⟩) m.val m.val)) (hb : Has w b 5 m.val (fun j => By (D j))) :
    Calls Try.prog 46 #[.pointer (some ⟨m.b, 0, none⟩), .pointer (some ⟨c, 0, none⟩)] w fun e w' => e = .returned (.slice (some ⟨N, 0, none⟩) m.val m.val) ∧ Below N w w' ∧ Sz w' (N + 1) ∧ Has w' N 5 m.val (fun j => By (D j)) := by
  have d2 := hA.c2
  have hbN := hb.ltN hN
  generalize m.val = v at *
  go_enter Try.func46, Try.ntmps46
  go_wp2_with (first
    | (refine wpl_make_full rfl 32 (.tmp 10) (.tmp 10) rfl v rfl rfl 5 (.int .u8 0) 1 undBB zBy (by omega) rfl (by omega) N hN ?_; intro w1 hN1 hb1 hh1; have c01 : w1.cell? ⟨c, 0, none⟩ = some (.slice (some ⟨b, 0, none⟩) v v) := (hc.below hb1 (hc.ltN hN)).cell (by omega))
    | (refine wpl_copy rfl (.tmp 12) (.tmp 16) 32 32 rfl 5 undBB szBy N 0 v v rfl ⟨b, 0, none⟩ v v rfl 5 v _ hh1 v (fun j => By (D j)) (by simp) (fun j hj => by rw [Addr.add_mid, Nat.zero_add]; exact (hb.below hb1 hbN).cell hj) (by omega) (fun _ _ => rfl) ?_; intro w3 ht3 hh3)
    | fail)
  go_ret
  refine ⟨rfl, ht3.below hb1 (Nat.le_refl N), ht3.sz hN1, hh3.congr (fun j hj => ?_)⟩
  unfold lay
  rw [if_pos (by omega)]
  rfl
def Putted (m : Mp) (N : Nat) (key : ByteArray) (D : Nat → BitVec 8) (w w' : World) : Prop :=
  Turn (Top m) w w' ∧ ∃ p' cap', MpAt w' (m.put p' cap' N key D) ∧ (blk p' = blk m.p ∨ ∀ g, blk p' = some g → N ≤ g)
set_option maxRecDepth 100000 in
set_option maxHeartbeats 1000000 in
theorem put_any (m : Mp) (key : ByteArray) (q : Option Addr) (cq : Nat) (D : Nat → BitVec 8) (hn : m.n ≤ 1000) (h1 : 1 ≤ m.val) (h2 : m.val ≤ 64) (w : World) (N : Nat) (hN : Sz w N) (hA : MpAt w m) (hq : Ats w q m.val (fun j => By (D j))) :
    Calls Try.prog 39 #[.pointer (some ⟨m.b, 0, none⟩), .string key, .slice q m.val cq] w fun e w' => e = .returned (.tuple #[]) ∧ Putted m N key D w w' := by
  have hqN : ∀ g, blk q = some g → g ≠ N := fun g hg => by have := hq.lt hN g (by omega) hg; omega
  have hbN := hA.lt hN m.b (.inl rfl)
  go_enter Try.func39, Try.ntmps39
  go_wp2_with (first
    | (refine wpl_build rfl 113 _ rfl (cellsOf (fun _ => .slice none 0 0) 1) (by kernel_rfl) ?_)
    | (refine wpl_box rfl 113 (.tmp 7) rfl 1 _ rfl N hN ?_; intro w1 hN1 hb1 hh1)
    | (go_at_call 43; refine (set_new N m.val h1 h2 q cq D _ (N + 1) hN1 hh1 (hq.below hN hb1) hqN).mono ?_; rintro e w2 ⟨rfl, ht2, hN2, hc2, hv2⟩; have A2 : MpAt w2 m := (hA.below hN hb1).turn ht2 (fun k hk e => by have := hA.lt hN k hk; omega); have d5 := A2.c5)
    | (refine wpl_appK rfl (.tmp 16) (.tmp 20) 92 rfl 115 2 (by omega) undBE kBE m.p m.n m.cap rfl (meCb m.E) (A2.e.alloc _) _ 1 1 rfl (me1 ⟨key, N, N + 1, D⟩) (cells_new_two w2 _ _ _ _ rfl rfl) (fun j _ => me1_one _ j) (by omega) ?_; intro p4 cap4 w4 e4 g4 q4 n4; have h4 := (A2.h.alloc (.cells #[.string key, .pointer (some ⟨N, 0, none⟩)] 115)).grew g4 (fun e => hA.pb m.b e.symm rfl); clear d5)
    | (refine wpl_set rfl 92 (.tmp 23) (.tmp 21) rfl m.b 5 rfl (.slice p4 (m.n + 1) cap4) rfl szSlBE rfl rfl 94 6 _ h4 (by omega) ?_; intro w5 ht5 hh5)
    | fail)
  go_end0
  have eN : w.heap.size = N := hN
  have e2 : w2.heap.size = N + 1 + 1 := hN2
  have T2 : Turn (Top m) w w2 := (turn_below hN hb1 (Top m)).trans ht2 (fun j hj hlt => by omega)
  have T5 : Turn (fun k => k = m.b ∨ blk m.p = some k) w2 w5 := ((turn_alloc (fun k => k = m.b ∨ blk m.p = some k) w2 _).trans g4.turn (fun j hj _ => .inr hj)).trans ht5.turn (fun j hj _ => .inl hj)
  have hq4 : blk p4 = blk m.p ∨ ∀ g, blk p4 = some g → N ≤ g := by
    rcases q4 with q4 | q4
    · exact .inl q4
    · refine .inr (fun g hg => ?_)
      rw [q4] at hg
      injection hg with hg
      have : (w2.alloc (.cells #[.string key, .pointer (some ⟨N, 0, none⟩)] 115)).heap.size = w2.heap.size + 1 := by show (w2.heap.push _).size = _; simp
      omega
  have hNF : ∀ k, Foot m k → k < N := fun k hk => hA.lt hN k hk
  refine ⟨rfl, T2.trans T5 (fun j hj _ => hj), p4, cap4, ⟨hh5.congr (fun j hj => ?_), ?_, fun i hi => ?_, fun i hi => ?_, fun i j hi hj hij => ?_⟩, hq4⟩
  · by_cases h5 : j = 5
    · subst h5
      simp only [upd, mpC, Mp.put, if_pos rfl]
      rfl
    · unfold upd
      rw [if_neg h5]
      unfold mpC
      by_cases h4 : j < 4
      · rw [if_pos h4, if_pos h4]; rfl
      · rw [if_neg h4, if_neg h4, if_pos (by omega), if_pos (by omega)]; rfl
  · refine (e4.touch ht5 (fun g hg => ?_)).congr (fun j hj => meC_set m.E m.n ⟨key, N, N + 1, D⟩ _ (fun j _ => rfl) j hj)
    rcases hq4 with hq4 | hq4
    · rw [hq4] at hg; exact hA.pb g hg
    · have := hq4 g hg; omega
  · have hi : i < m.n + 1 := hi
    show Has w5 (setF m.E m.n ⟨key, N, N + 1, D⟩ i).c _ 1 (fun _ => .slice (some ⟨(setF m.E m.n ⟨key, N, N + 1, D⟩ i).b, 0, none⟩) m.val m.val)
    by_cases hin : i = m.n
    · subst hin
      rw [setF_self]
      exact hc2.turn T5 (fun h => by
        rcases h with h | h
        · omega
        · have := hNF N (.inr (.inl h)); omega)
    · rw [setF_ne _ _ _ hin]
      exact (A2.c i (by omega)).turn T5 (fun h => by
        rcases h with h | h
        · exact (A2.cb i (by omega)).1 h
        · exact (A2.cp i (by omega) _ h).1 rfl)
  · have hi : i < m.n + 1 := hi
    show Has w5 (setF m.E m.n ⟨key, N, N + 1, D⟩ i).b _ m.val (fun j => By ((setF m.E m.n ⟨key, N, N + 1, D⟩ i).v j))
    by_cases hin : i = m.n
    · subst hin
      rw [setF_self]
      exact hv2.turn T5 (fun h => by
        rcases h with h | h
        · omega
        · have := hNF (N + 1) (.inr (.inl h)); omega)
    · rw [setF_ne _ _ _ hin]
      exact (A2.v i (by omega)).turn T5 (fun h => by
        rcases h with h | h
        · exact (A2.cb i (by omega)).2 h
        · exact (A2.cp i (by omega) _ h).2 rfl)
  · have hi : i < m.n + 1 := hi
    have hj : j < m.n + 1 := hj
    show (setF m.E m.n ⟨key, N, N + 1, D⟩ i).c ≠ (setF m.E m.n ⟨key, N, N + 1, D⟩ j).c ∧ (setF m.E m.n ⟨key, N, N + 1, D⟩ i).b ≠ (setF m.E m.n ⟨key, N, N + 1, D⟩ j).b
    by_cases hin : i = m.n
    · subst hin
      rw [setF_self, setF_ne _ _ _ (fun h => hij h.symm)]
      have a := hNF _ (.inr (.inr ⟨j, by omega, .inl rfl⟩))
      have b := hNF _ (.inr (.inr ⟨j, by omega, .inr rfl⟩))
      exact ⟨by show N ≠ _; omega, by show N + 1 ≠ _; omega⟩
    · by_cases hjn : j = m.n
      · subst hjn
        rw [setF_self, setF_ne _ _ _ hin]
        have a := hNF _ (.inr (.inr ⟨i, by omega, .inl rfl⟩))
        have b := hNF _ (.inr (.inr ⟨i, by omega, .inr rfl⟩))
        exact ⟨by show _ ≠ N; omega, by show _ ≠ N + 1; omega⟩
      · rw [setF_ne _ _ _ hin, setF_ne _ _ _ hjn]
        exact hA.inj i j (by omega) (by omega) hij
end Go.Proofs.Ytjcjmlmdcjkceaa
