/- begin and take of digest. take of digest. -/
import Derived.Test.YtjdclgnlnehjlaaDoorMix
import Derived.Test.YtjdclgnlnehjlaaDoorInns
namespace Go.Proofs.YtjdclgnlnehjlaaDoor
open Go Go.RowKit Sha
/-- The cells of a running sum. -/
def rc (s : Run) (L : Int) : Nat → Value := fun j => if j < 8 then U (s.H j) else if j < 72 then By (s.B (j - 8)) else if j = 72 then .int .i64 (s.f : Int) else .int .u64 L
/-- The package's tables lie where they lay. -/
structure Tabs (w : World) : Prop where
  h : Tab w 0 8 (fun j => U (Hc j))
  k : KHas w
theorem Tabs.lt {w : World} (t : Tabs w) : 2 < w.heap.size := Tab.lt t.k
theorem Tabs.ltN {w : World} (t : Tabs w) {N : Nat} (hN : Sz w N) : 2 < N := by have := t.lt; rwa [show w.heap.size = N from hN] at this
theorem Tabs.below {w w' : World} {B : Nat} (t : Tabs w) (h : Below B w w') (hB : 2 < B) : Tabs w' := ⟨t.h.below h (by omega), Tab.below t.k h hB⟩
theorem Tabs.mod {w w' : World} {R : Nat} (t : Tabs w) (h : Mod R w w') (hR : 2 < R) : Tabs w' := ⟨t.h.mod h (by omega), Tab.mod t.k h (by omega)⟩
def run0 : Run := ⟨Hc, fun _ => 0, 0⟩
theorem zer81 : (Tryd.prog.info? 112).map (fun i => (i.zero, i.size)) = some (some (.agg (cellsOf (rc ⟨fun _ => 0, fun _ => 0, 0⟩ 0) 74)), 74) := by kernel_rfl
theorem inf81 : (Tryd.prog.info? 112).map (·.size) = some 74 := by kernel_rfl
theorem one_rc (s : Run) (L : Int) : ∀ j, j < 74 → (rc s L j).oneCell' = true := fun j _ => by unfold rc; split; rfl; split; rfl; split <;> rfl
theorem und81 : ∃ fs, Tryd.prog.underlying 112 = some (.struct fs) := by
  have h : (match Tryd.prog.underlying 112 with | some (.struct _) => true | _ => false) = true := by kernel_rfl
  cases e : Tryd.prog.underlying 112 with
  | none => rw [e] at h; cases h
  | some d => cases d <;> first | exact ⟨_, rfl⟩ | (rw [e] at h; cases h)
set_option maxRecDepth 100000 in
theorem begin_any (w : World) (N : Nat) (hN : Sz w N) (hT : Tabs w) : Calls Tryd.prog 63 #[] w fun e w' => e = .returned (.agg (cellsOf (rc run0 0) 74)) ∧ Below N w w' := by
  have h1 := hT.ltN hN
  obtain ⟨fs, hfs⟩ := und81
  go_enter Tryd.func63, Tryd.ntmps63
  go_wp2_with (first
    | (refine wpl_alloc rfl 112 rfl 74 _ zer81 N hN ?_; intro w1 hN1 hb1 h1)
    | (refine wpl_load_tab rfl 109 (.global 0) rfl 0 rfl 8 _ ((hT.below hb1 (by omega)).h) _ und37 rfl inf37 ?_)
    | (refine wpl_build rfl 112 _ rfl (cellsOf (rc run0 0) 74) (by kernel_rfl) ?_)
    | (refine wpl_store rfl 112 (.tmp 0) (.tmp 2) rfl N 74 _ rfl rfl 112 _ h1 inf81 (one_rc _ _) ?_; intro w2 ht2 h2)
    | fail)
  exact post_cell Tryd.results63 N rfl h2 _ hfs rfl inf81 rfl ⟨rfl, ht2.below hb1 (by omega)⟩
end Go.Proofs.YtjdclgnlnehjlaaDoor
namespace Go.Proofs.YtjdclgnlnehjlaaDoor
open Go Go.RowKit Sha
theorem und22 : Tryd.prog.underlying 35 = some (.slice 5) := by kernel_rfl
/-- Bytes that lie in a row from a place on, elsewhere than in block R. -/
def Src (w : World) (R : Nat) (p : Option Addr) (n : Nat) (D : Nat → BitVec 8) : Prop :=
  0 < n → ∃ bb off, p = some ⟨bb, off, none⟩ ∧ bb ≠ R ∧ ∀ j, j < n → w.cell? ⟨bb, off + j, none⟩ = some (By (D j))
theorem Src.mod {w w' : World} {R : Nat} {p : Option Addr} {n : Nat} {D : Nat → BitVec 8} (h : Src w R p n D) (m : Mod R w w') : Src w' R p n D := fun h0 => by
  obtain ⟨bb, off, e, hne, hc⟩ := h h0
  exact ⟨bb, off, e, hne, fun j hj => m.cell (hc j hj) hne⟩
theorem inf3 : (Tryd.prog.info? 3).map (·.size) = some 1 := by kernel_rfl
/-- The cells behind a copy into the block, and behind the count's store. -/
theorem rc_put (st : Run) (L : Int) (n k : Nat) (E : Nat → BitVec 8) (hn : st.f + n ≤ 64) (j : Nat) (hj : j < 74) :
    upd (lay (rc st L) (8 + st.f) n (fun j => By (E j))) 72 (.int .i64 (k : Int)) j = rc ⟨st.H, putN st.B st.f E n, k⟩ L j := by
  simp only [upd, lay, rc, putN]
  by_cases e : j = 72
  · subst e; rfl
  · rw [if_neg e, if_neg e]
    by_cases h8 : j < 8
    · rw [if_neg (by omega), if_pos h8, if_pos h8]
    · rw [if_neg h8, if_neg h8]
      by_cases h2 : 8 + st.f ≤ j ∧ j < 8 + st.f + n
      · rw [if_pos h2, if_pos (by omega), if_pos (by omega), show j - (8 + st.f) = j - 8 - st.f from by omega]
      · rw [if_neg h2]
        by_cases h72 : j < 72
        · rw [if_pos h72, if_pos h72, if_neg (by omega)]
        · rw [if_neg h72, if_neg h72, if_neg e]
theorem rc_mix (H : Nat → W32) (B : Nat → BitVec 8) (f : Nat) (L : Int) (j : Nat) (hj : j < 74) : upd (lay (rc ⟨H, B, f⟩ L) 0 8 (fun j => U (comp H B j))) 72 (.int .i64 0) j = rc ⟨comp H B, B, 0⟩ L j := by
  simp only [upd, lay, rc]
  by_cases e : j = 72
  · subst e; rfl
  · rw [if_neg e, if_neg e]
    by_cases h8 : j < 8
    · rw [if_pos (by omega), if_pos h8, Nat.sub_zero]
    · rw [if_neg (by omega), if_neg h8, if_neg h8, if_neg e]
set_option maxRecDepth 100000 in
set_option maxHeartbeats 800000 in
theorem take_any (R : Nat) (s : Run) (L len cap : Nat) (p : Option Addr) (D : Nat → BitVec 8) (w : World) (hT : Tabs w) (hR : 2 < R) (hs : s.f < 64)
    (hr : Has w R 112 74 (rc s (L : Int))) (hL : L + len ≤ 1000000) (hcap : len ≤ cap) (hD : Src w R p len D) :
    Calls Tryd.prog 65 #[.pointer (some ⟨R, 0, none⟩), .slice p len cap] w fun e w' =>
      e = .returned (.tuple #[]) ∧ Mod R w w' ∧ Has w' R 112 74 (rc (feed s D len) ((L + len : Nat) : Int)) := by
  have c73 : w.cell? ⟨R, 73, none⟩ = some (.int .u64 (L : Int)) := hr.cell (by omega)
  have f73 := hr.free 73
  go_enter Tryd.func65, Tryd.ntmps65
  go_wp2_with fail
  clear c73 f73
  have h1 := hr.set 73 (.int .u64 ((L + len : Nat) : Int))
  go_loopw [1] (fun b wr => ∃ (m c : Nat) (q : Option Addr), m ≤ len ∧ len - m ≤ c ∧ b = .slice q (len - m) c ∧ Mod R w wr ∧ Has wr R 112 74 (rc (feed s D m) ((L + len : Nat) : Int)) ∧ Src wr R q (len - m) (fun j => D (m + j)))
    (fun b _ => lenOf b)
  case atStart => exact ⟨0, cap, p, by omega, by omega, rfl, (touch_setCell w ⟨R, 73, none⟩ _).mod, h1.congr (fun j hj => by
      simp only [upd, rc, feed]
      by_cases e : j = 73
      · subst e; rfl
      · rw [if_neg e]; split; rfl; split; rfl; rw [if_pos (by omega), if_pos (by omega)]), fun h0 => by
        obtain ⟨bb, off, e, hne, hc⟩ := hD (by omega)
        exact ⟨bb, off, e, hne, fun j hj => (touch_setCell w ⟨R, 73, none⟩ _).cell (by show _ = some (By (D (0 + j))); rw [Nat.zero_add]; exact hc j (by omega)) hne⟩⟩
  case round =>
    obtain ⟨m, c, q, hm, hc, rfl, hmod, hh, hsrc⟩ := hrel
    by_cases hlt : m < len
    · obtain ⟨bb, off, rfl, hne, hcells⟩ := hsrc (by omega)
      have hf := feed_f s D hs m
      generalize hst : feed s D m = st at *
      have Hst := hid hst
      clear hst
      have c72 : wr.cell? ⟨R, 72, none⟩ = some (.int .i64 (st.f : Int)) := hh.cell (by omega)
      have hsl : (Instr.sliceAt 110 (.pointer (some ⟨R, 8, none⟩)) (some (.int .i64 (st.f : Int))) none none).run Tryd.prog wr.drew = .ok (.slice (some ⟨R, 8 + st.f, none⟩) (64 - st.f) (64 - st.f)) wr.drew :=
        run_sliceArr_from _ _ 64 und79 inf5 R 8 st.f hf _
      obtain ⟨n, hn⟩ : ∃ n, n = min (len - m) (64 - st.f) := ⟨_, rfl⟩
      have Hn := hid hn
      have hn1 : n ≤ len - m := by omega
      have hn2 : n ≤ 64 - st.f := by omega
      have hn3 : 0 < n := by omega
      have hn4 : n = len - m ∨ n = 64 - st.f := by omega
      clear hn
      have hsl2 : ∀ w, (Instr.sliceAt 35 (.slice (some ⟨bb, off, none⟩) (len - m) c) (some (.int .i64 (n : Int))) none none).run Tryd.prog w = .ok (.slice (cutAt (some ⟨bb, off, none⟩) c n) (len - m - n) (c - n)) w :=
        run_slice_from _ _ und22 inf5 _ _ _ n hn1
      have hsrc' : ∀ w2, Mod R wr w2 → Src w2 R (cutAt (some ⟨bb, off, none⟩) c n) (len - (m + n)) (fun j => D (m + n + j)) := fun w2 hm2 h0 => by
        refine ⟨bb, off + n, cutAt_lt bb off c n (by omega), hne, fun j hj => hm2.cell ?_ hne⟩
        have := hcells (n + j) (by omega)
        simp only [Nat.add_assoc] at this ⊢
        exact this
      by_cases hfull : n = 64 - st.f
      · have hb : (((st.f : Int) + (n : Int)) == 64) = true := by rw [beq_iff_eq]; omega
        have hfull' : 64 - st.f ≤ n := by omega
        clear hfull
        go_wp2_with fail
        go_still_tail 9, (by kernel_rfl)
        go_wp2_with (first
          | (refine wpl_copy rfl (.tmp 25) (.tmp 26) 35 35 rfl 5 und22 inf5 R (8 + st.f) _ _ rfl ⟨bb, off, none⟩ _ _ rfl 112 74 _ (hh.drew) n (fun j => By (D (m + j))) Hn.out (fun j hj => by rw [Addr.add_mid]; exact hcells j (by omega)) (by omega) (fun _ _ => rfl) ?_; intro w2 ht2 h2; have d72 : w2.cell? ⟨R, 72, none⟩ = some (.int .i64 (st.f : Int)) := by (have := h2.cell (j := 72) (by omega); simp only [lay] at this; rw [if_neg (by omega)] at this; exact this))
          | (refine wpl_set rfl 3 (.tmp 38) (.tmp 36) rfl R 72 rfl (.int .i64 ((st.f + n : Nat) : Int)) rfl inf3 rfl rfl 112 74 _ h2 (by omega) ?_; intro w3 ht3 h3; clear d72; have e72 : w3.cell? ⟨R, 72, none⟩ = some (.int .i64 ((st.f : Int) + (n : Int))) := h3.cell (by omega))
          | fail)
        have h4 := h3.congr (rc_put st _ n _ (fun j => D (m + j)) (by omega))
        have hmod3 : Mod R wr w3 := ((mod_drew R wr).trans ht2.mod).trans ht3.mod
        have hT3 : Tabs w3 := (hT.mod hmod hR).mod hmod3 hR
        have hfeed := hid (show feed s D (m + n) = ⟨comp st.H (putN st.B st.f (fun j => D (m + j)) n), putN st.B st.f (fun j => D (m + j)) n, 0⟩ by rw [feed_add, Hst.out, feed_full _ _ _ hn3 (by omega)])
        generalize putN st.B st.f (fun j => D (m + j)) n = B' at *
        clear ht2 ht3 h2 h3 e72 hsl hsl2 c72
        refine wp_region_any (by kernel_rfl) ?_
        change wpAny _ _ _ _ _ _ _ (World.drew _)
        refine wpAny_take (i := 0) (v := ?v0) rfl (by kernel_rfl) (by kernel_rfl) (by kernel_rfl) (fun _ _ _ h => h) (Or.inl ⟨by rfl, ?y0⟩) ?r0
        case y0 => (intro w; go_simp; first | done | with_reducible rfl)
        refine wpAny_take (i := 1) (v := ?v1) rfl (by kernel_rfl) (by kernel_rfl) (by kernel_rfl) (fun _ _ _ h => h) (Or.inl ⟨by rfl, ?y1⟩) ?r1
        case y1 => (intro w; go_simp; first | done | with_reducible rfl)
        refine wpAny_take (i := 2) (v := ?v2) rfl (by kernel_rfl) (by kernel_rfl) (by kernel_rfl) (fun _ _ _ h => h) (Or.inl ⟨by rfl, ?y2⟩) ?r2
        case y2 => (intro w; go_simp; first | done | with_reducible rfl)
        refine wpAny_take (i := 3) (v := ?v3) rfl (by kernel_rfl) (by kernel_rfl) (by kernel_rfl) (fun _ _ _ h => h) (Or.inl ⟨by rfl, ?y3⟩) ?r3
        case y3 => (intro w; go_simp; first | done | with_reducible rfl)
        refine wpAny_take (i := 5) (v := ?v5) rfl (by kernel_rfl) (by kernel_rfl) (by kernel_rfl) (fun _ _ _ h => h) (Or.inl ⟨by rfl, ?y5⟩) ?r5
        case y5 => (intro w; go_simp; first | done | with_reducible rfl)
        refine wpAny_take (i := 6) (v := ?v6) rfl (by kernel_rfl) (by kernel_rfl) (by kernel_rfl) (fun _ _ _ h => h) (Or.inl ⟨by rfl, ?y6⟩) ?r6
        case y6 => (intro w; go_simp; first | done | with_reducible rfl)
        refine wpAny_take (i := 7) (v := ?v7) rfl (by kernel_rfl) (by kernel_rfl) (by kernel_rfl) (fun _ _ _ h => h) (Or.inl ⟨by rfl, ?y7⟩) ?r7
        case y7 => (intro w; go_simp; first | done | with_reducible rfl)
        simp only [Act.put, List.setIfInBounds_toArray, List.set_cons_succ, List.set_cons_zero, List.getElem_toArray, List.getElem_cons_succ, List.getElem_cons_zero]
        refine wpAny_ready (rs := [4, 8]) (by kernel_rfl) (by simp) ?_
        refine AllReady.cons rfl (fun K hK => ?_) (AllReady.cons rfl (fun K hK => ?_) AllReady.nil)
        · refine wanted_none rfl ?_
          refine wp_load_part 109 (.tmp 47) rfl R 0 rfl 112 74 _ h4.drew 8 (by omega) (fun j => U (st.H j)) (fun j hj => by unfold rc; rw [if_pos (by omega), Nat.zero_add]) _ und37 rfl inf37 (hK _ _ ?_)
          clear hK K
          refine wpAny_chain [8, 9, 10, 11, 12] _ _ _ _ (by kernel_rfl) (by decide) ?_
          simp only [List.filterMap_cons, List.filterMap_nil, List.getElem?_toArray, List.getElem?_cons_succ, List.getElem?_cons_zero, Act.put, List.setIfInBounds_toArray, List.set_cons_succ, List.set_cons_zero, List.getElem_toArray, List.getElem_cons_succ, List.getElem_cons_zero]
          refine wpl_load_part rfl 110 (.tmp 51) rfl R 8 rfl 112 74 _ h4.drew 64 (by omega) (fun j => By (B' j)) (fun j hj => by unfold rc; rw [if_neg (by omega), if_pos (by omega), show 8 + j - 8 = j from by omega]) _ und79 rfl inf79 ?_
          go_wp2_with fail
          obtain ⟨M, hM⟩ := sz_some w3
          refine (mixed_any st.H B' _ M (by exact hM) (by exact hT3.k)).mono ?_
          rintro e w4 ⟨rfl, hb4⟩
          have k3 := hmod3.trans ((mod_drew R w3).trans (mod_of_below (R := R) (by exact hM) hb4))
          have k1 := h4.drew.below hb4 (h4.ltN hM)
          dsimp only
          go_step
          refine wpl_pure rfl (v := .pointer (some ⟨R, 0, none⟩)) (by intro w; go_simp) ?_
          refine wpl_pure rfl (v := .pointer (some ⟨R, 0, none⟩)) (by intro w; go_simp) ?_
          refine wpl_store_part rfl 109 (.tmp 55) (.tmp 53) rfl R 0 rfl 8 _ rfl 112 74 _ k1 (by omega) inf37 (fun _ _ => rfl) ?_
          intro w5 ht5 h5
          go_wp2_with (first
            | (refine wpl_set rfl 3 (.tmp 58) (.const (.int .i64 0)) rfl R 72 rfl (.int .i64 0) rfl inf3 rfl rfl 112 74 _ h5 (by omega) ?_; intro w6 ht6 h6)
            | fail)
          go_roundw
          case measure => show len - m - n < len - m; omega
          case rel =>
            (repeat apply Exists.intro)
            exact ⟨⟨m + n, c - n, _, by omega, by omega, by rw [Nat.sub_sub], hmod.trans ((k3.trans ht5.mod).trans ht6.mod), by rw [hfeed.out]; exact h6.congr (fun j hj => rc_mix st.H B' _ _ j hj), hsrc' _ ((k3.trans ht5.mod).trans ht6.mod)⟩, rfl⟩
        · refine wanted_none rfl ?_
          refine wp_load_part 110 (.tmp 51) rfl R 8 rfl 112 74 _ h4.drew 64 (by omega) (fun j => By (B' j)) (fun j hj => by unfold rc; rw [if_neg (by omega), if_pos (by omega), show 8 + j - 8 = j from by omega]) _ und79 rfl inf79 (hK _ _ ?_)
          clear hK K
          refine wpAny_chain [4, 9, 10, 11, 12] _ _ _ _ (by kernel_rfl) (by decide) ?_
          simp only [List.filterMap_cons, List.filterMap_nil, List.getElem?_toArray, List.getElem?_cons_succ, List.getElem?_cons_zero, Act.put, List.setIfInBounds_toArray, List.set_cons_succ, List.set_cons_zero, List.getElem_toArray, List.getElem_cons_succ, List.getElem_cons_zero]
          refine wpl_load_part rfl 109 (.tmp 47) rfl R 0 rfl 112 74 _ h4.drew 8 (by omega) (fun j => U (st.H j)) (fun j hj => by unfold rc; rw [if_pos (by omega), Nat.zero_add]) _ und37 rfl inf37 ?_
          go_wp2_with fail
          obtain ⟨M, hM⟩ := sz_some w3
          refine (mixed_any st.H B' _ M (by exact hM) (by exact hT3.k)).mono ?_
          rintro e w4 ⟨rfl, hb4⟩
          have k3 := hmod3.trans ((mod_drew R w3).trans (mod_of_below (R := R) (by exact hM) hb4))
          have k1 := h4.drew.below hb4 (h4.ltN hM)
          dsimp only
          go_step
          refine wpl_pure rfl (v := .pointer (some ⟨R, 0, none⟩)) (by intro w; go_simp) ?_
          refine wpl_pure rfl (v := .pointer (some ⟨R, 0, none⟩)) (by intro w; go_simp) ?_
          refine wpl_store_part rfl 109 (.tmp 55) (.tmp 53) rfl R 0 rfl 8 _ rfl 112 74 _ k1 (by omega) inf37 (fun _ _ => rfl) ?_
          intro w5 ht5 h5
          go_wp2_with (first
            | (refine wpl_set rfl 3 (.tmp 58) (.const (.int .i64 0)) rfl R 72 rfl (.int .i64 0) rfl inf3 rfl rfl 112 74 _ h5 (by omega) ?_; intro w6 ht6 h6)
            | fail)
          go_roundw
          case measure => show len - m - n < len - m; omega
          case rel =>
            (repeat apply Exists.intro)
            exact ⟨⟨m + n, c - n, _, by omega, by omega, by rw [Nat.sub_sub], hmod.trans ((k3.trans ht5.mod).trans ht6.mod), by rw [hfeed.out]; exact h6.congr (fun j hj => rc_mix st.H B' _ _ j hj), hsrc' _ ((k3.trans ht5.mod).trans ht6.mod)⟩, rfl⟩
      · have hb : (((st.f : Int) + (n : Int)) == 64) = false := by rw [beq_eq_false_iff_ne]; omega
        go_wp2_with fail
        go_still_tail 9, (by kernel_rfl)
        go_wp2_with (first
          | (refine wpl_copy rfl (.tmp 25) (.tmp 26) 35 35 rfl 5 und22 inf5 R (8 + st.f) _ _ rfl ⟨bb, off, none⟩ _ _ rfl 112 74 _ (hh.drew) n (fun j => By (D (m + j))) Hn.out (fun j hj => by rw [Addr.add_mid]; exact hcells j (by omega)) (by omega) (fun _ _ => rfl) ?_; intro w2 ht2 h2; have d72 : w2.cell? ⟨R, 72, none⟩ = some (.int .i64 (st.f : Int)) := by (have := h2.cell (j := 72) (by omega); simp only [lay] at this; rw [if_neg (by omega)] at this; exact this))
          | (refine wpl_set rfl 3 (.tmp 38) (.tmp 36) rfl R 72 rfl (.int .i64 ((st.f + n : Nat) : Int)) rfl inf3 rfl rfl 112 74 _ h2 (by omega) ?_; intro w3 ht3 h3; clear d72; have e72 : w3.cell? ⟨R, 72, none⟩ = some (.int .i64 ((st.f : Int) + (n : Int))) := h3.cell (by omega))
          | fail)
        have h4 := h3.congr (rc_put st _ n _ (fun j => D (m + j)) (by omega))
        have hmod3 : Mod R wr w3 := ((mod_drew R wr).trans ht2.mod).trans ht3.mod
        have hfeed : feed s D (m + n) = ⟨st.H, putN st.B st.f (fun j => D (m + j)) n, st.f + n⟩ := by rw [feed_add, Hst.out, feed_short _ _ _ (by omega)]
        exact ⟨⟨m + n, c - n, _, by omega, by omega, by rw [Nat.sub_sub], hmod.trans hmod3, by rw [hfeed]; exact h4, hsrc' _ hmod3⟩, by show len - m - n < len - m; omega⟩
    · obtain rfl : len = m := by omega
      have hb : decide (0 < len - len) = false := by simp
      go_wp2_with fail
      go_end0
      exact ⟨rfl, hmod, hh⟩
end Go.Proofs.YtjdclgnlnehjlaaDoor
