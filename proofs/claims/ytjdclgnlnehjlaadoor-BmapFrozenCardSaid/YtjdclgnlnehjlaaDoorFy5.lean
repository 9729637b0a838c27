/- BmapFrozen: an act's key and value. -/
import Derived.Test.YtjdclgnlnehjlaaDoorMgFy4
namespace Go.Proofs.YtjdclgnlnehjlaaDoor
open Go Go.RowKit
/-- An act's cells. -/
def acC (what : Int) (kq : Option Addr) (kn kc : Nat) (vq : Option Addr) (vn vc : Nat) (fl : Int) (raw : Bool) : Nat → Value := fun j => if j = 0 then .int .i64 what else if j = 1 then .slice kq kn kc else if j = 2 then .slice vq vn vc else if j = 3 then .int .u64 fl else .bool raw
theorem kBy1 : KCell Tryd.prog 5 1 := kCell_of (v := .int .u8 0) (k := 1) (by kernel_rfl) (by omega) rfl
section
variable {ops : Array Oper} {rest : List Oper} {o : Oper} {a : Act} {w : World} {Q : Exit → Act → World → Prop}
theorem wpl_bs0 (hgd : o.guard = none) (ho : o.op = .buildSlice 35 0 #[]) (N : Nat) (hN : Sz w N)
    (h : ∀ w1, Sz w1 (N + 1) → Below N w w1 → OwnK w1 5 1 (some ⟨N, 0, none⟩) 0 0 (fun _ => By 0#8) → wpList Tryd.prog ops Q rest (a.put o.dst (.slice (some ⟨N, 0, none⟩) 0 0)) w1) : wpList Tryd.prog ops Q (o :: rest) a w := by
  have e : w.heap.size = N := hN
  subst e
  refine wpl_run hgd (.slice (some ⟨w.heap.size, 0, none⟩) 0 0) (w.alloc (.cells #[] 5)) ?_ (h _ (sz_alloc rfl _) (below_new _ _ _ rfl) ?_)
  · clear h hN
    generalize a.eval = ev at *
    unfold execOp
    simp only [ho]
    go_simp
  · exact .inr ⟨_, #[], rfl, heap_alloc_new w _, Nat.le_refl _, rfl, fun j hj => by omega⟩
theorem wpl_bs1z (hgd : o.guard = none) (ho : o.op = .buildSlice 35 1 #[(0, .const (.int .u8 0))]) (N : Nat) (hN : Sz w N)
    (h : ∀ w1, Sz w1 (N + 1) → Below N w w1 → Has w1 N 5 1 (fun _ => By 0#8) → wpList Tryd.prog ops Q rest (a.put o.dst (.slice (some ⟨N, 0, none⟩) 1 1)) w1) : wpList Tryd.prog ops Q (o :: rest) a w := by
  have e : w.heap.size = N := hN
  subst e
  refine wpl_run hgd (.slice (some ⟨w.heap.size, 0, none⟩) 1 1) (w.alloc (.cells #[By 0#8] 5)) ?_ (h _ (sz_alloc rfl _) (below_new _ _ _ rfl) ?_)
  · unfold By at *
    clear h hN
    unfold execOp
    simp only [ho, Act.eval]
    go_simp
    rfl
  · exact has_new rfl 5 1 (fun _ => By 0#8)
end
theorem run_slToF {P : Program} {a : Act} {o : Oper} (T E : TypeId) (hu : P.underlying T = some (.slice E)) (hs : (P.info? E).map (·.size) = some 1) (x y : Operand) (ho : o.op = .slice T x none (some y) none) {p : Option Addr} {cap k n : Nat} (hx : a.eval x = .slice p n cap) (hy : a.eval y = .int .i64 (k : Int)) (hk : k ≤ cap) (w : World) : (execOp a.eval o).run P w = .ok (.value (.slice p k cap)) w := by
  cases hq : P.info? E with
  | none => simp [hq] at hs
  | some i =>
    have hi : i.size = 1 := by simpa [hq] using hs
    have az : ∀ q : Addr, q.add 0 = q := fun q => by simp [Addr.add]
    unfold execOp
    simp only [ho, Option.map, hx, hy]
    cases p <;> simp [Instr.sliceAt, Instr.slice, run_underlying hu, Instr.sliceBounds, Instr.sliceBound, asIntOf, sizeOf, typeInfo, hq, hi, Sem.run_bind, hk, az]
/-- A list of bytes of the call's own. -/
def OwB (w : World) (N : Nat) (p : Option Addr) (n cap : Nat) (D : Nat → BitVec 8) : Prop := OwnK w 5 1 p n cap (fun j => By (D j)) ∧ ∀ g, blk p = some g → N ≤ g
theorem OwB.ats {w : World} {N n cap : Nat} {p : Option Addr} {D : Nat → BitVec 8} (h : OwB w N p n cap D) : Ats w p n (fun j => By (D j)) := fun h0 => by
  obtain ⟨g, e, hc⟩ := h.1.cell (by omega)
  exact ⟨g, 0, e, fun j hj => hc j (by omega)⟩
def catB (f : Nat → BitVec 8) (n : Nat) (g : Nat → BitVec 8) : Nat → BitVec 8 := fun j => if j < n then f j else g (j - n)
theorem OwB.app {w w' : World} {N n m cap' : Nat} {p p' : Option Addr} {D G : Nat → BitVec 8} {cap : Nat} (h : OwB w N p n cap D) (o : OwnK w' 5 1 p' (n + m) cap' (cat (fun j => By (D j)) (n * 1) (fun j => By (G j)))) (e : blk p' = blk p ∨ blk p' = some w.heap.size) (hN : N ≤ w.heap.size) : OwB w' N p' (n + m) cap' (catB D n G) :=
  ⟨o.congr (fun j hj => by unfold cat catB; rw [Nat.mul_one]; split <;> rfl), fun g hg => by
    rcases e with e | e
    · exact h.2 g (by rw [← e]; exact hg)
    · rw [e] at hg; have := Option.some.inj hg; omega⟩
def TextR (n : Nat) (e : Ending) : Prop := ∃ D k, k ≤ n ∧ e = .returned (.string (strOf D k))
set_option maxRecDepth 100000 in
set_option maxHeartbeats 4000000 in
theorem key_any (what : Int) (kq : Option Addr) (kn kc : Nat) (vq : Option Addr) (vn vc : Nat) (fl : Int) (raw : Bool) (a c d : Int) (b : Nat) (hb : b ≤ 16) (hkc : kn ≤ kc) (D : Nat → BitVec 8) (w : World) (N : Nat) (hN : Sz w N) (hK : Ats w kq kn (fun j => By (D j))) :
    Calls Tryd.prog 14 #[.agg (cellsOf (acC what kq kn kc vq vn vc fl raw) 5), .agg (cellsOf (sp4 a b c d) 4)] w fun e w' => TextR 20 e ∧ Below N w w' := by
  obtain ⟨n1, hn1⟩ : ∃ n1, n1 = min kn 20 := ⟨_, rfl⟩
  have Hn1 := hid hn1
  have n1k : n1 ≤ kc := by omega
  have n1n : n1 ≤ kn := by omega
  have n20 : n1 ≤ 20 := by omega
  clear hn1
  go_enter Tryd.func14, Tryd.ntmps14
  go_upto_region 2 with (first
    | ((with_reducible show wpList _ _ _ (_ :: _) _ _); first
      | (refine wpl_box rfl 38 (.tmp 0) rfl 5 (acC what kq kn kc vq vn vc fl raw) rfl N hN ?_; intro w1 hM1 b1 k1; try simp only [pA])
      | (refine wpl_box rfl 23 (.tmp 1) rfl 4 (sp4 a b c d) rfl (N + 1) hM1 ?_; intro w2 hM2 b2 k2; have k1' := k1.below b2 (by omega); have bb2 := b1.trans (b2.mono (by omega)); try simp only [pA])
      | (refine wpl_bs0 rfl rfl (N + 2) hM2 ?_; intro w3 hM3 b3 o3; have k13 := k1'.below b3 (by omega); have k23 := k2.below b3 (by omega); have bb3 := bb2.trans (b3.mono (by omega)); have cK : w3.cell? ⟨N, 1, none⟩ = some (.slice kq kn kc) := k13.cell (j := 1) (by omega); have K3 := hK.below hN bb3; try simp only [pA])
      | (refine wpl_run rfl (.slice kq kn kc) _ (run_cell1 (x := .tmp 7) 35 rfl rfl undBB rfl cK) ?_; try simp only [pA])
      | (refine wpl_run rfl (.slice kq kn kc) _ (run_cell1 (x := .tmp 9) 35 rfl rfl undBB rfl cK) ?_; try simp only [pA])
      | (refine wpl_run rfl (.int .i64 (kn : Int)) _ (run_lenL (x := .tmp 10) rfl undBB rfl _) ?_; try simp only [pA])
      | (refine wpl_min rfl (.tmp 11) (.const (.int .i64 20)) 3 rfl kn 20 n1 rfl rfl Hn1 ?_; try simp only [pA])
      | (refine wpl_run rfl (.slice kq n1 kc) _ (run_slToF 35 5 undBB szBy (.tmp 8) (.tmp 12) rfl rfl rfl n1k _) ?_; try simp only [pA])
      | (refine wpl_appK rfl (.tmp 6) (.tmp 13) 35 rfl 5 1 (by omega) undBB kBy1 (some ⟨N + 2, 0, none⟩) 0 0 rfl (fun _ => By 0#8) o3 kq n1 kc rfl (fun j => By (D j)) (Ats.cells (fun h0 => by obtain ⟨g, f, e, hc⟩ := K3 (by omega); exact ⟨g, f, e, fun j hj => hc j (by omega)⟩)) (fun j _ => rfl) (by omega) ?_; intro p4 cap4 w4 o4 g4 e4 n4; try simp only [pA]))
    | fail)
  have B4 : OwB w4 N p4 (0 + n1) cap4 (catB (fun _ => 0#8) 0 D) := OwB.app (cap := 0) (G := D) ⟨o3, fun g hg => by have : N + 2 = g := Option.some.inj hg; omega⟩ o4 e4 (by have e : w3.heap.size = N + 2 + 1 := hM3; omega)
  have bb4 : Below N w w4 := g4.below bb3 (by have e : w3.heap.size = N + 2 + 1 := hM3; omega) (fun g hg => by have : N + 2 = g := Option.some.inj hg; omega)
  have k14 : Has w4 N 38 5 (acC what kq kn kc vq vn vc fl raw) := k13.turn g4.turn (fun h => by have : N + 2 = N := Option.some.inj h; omega)
  have k24 : Has w4 (N + 1) 23 4 (sp4 a b c d) := k23.turn g4.turn (fun h => by have : N + 2 = N + 1 := Option.some.inj h; omega)
  generalize catB (fun _ => 0#8) 0 D = D4 at B4
  rw [Nat.zero_add] at B4 ⊢
  have cR : w4.cell? ⟨N, 4, none⟩ = some (.bool raw) := k14.cell (j := 4) (by omega)
  clear o4 g4 e4 n4 o3 k13 k23 cK K3 bb3 bb2 b1 b2 b3 k1 k1' k2 hM1 hM2 hM3 k14
  cases raw
  · have hS4 : ∃ M, Sz w4 M := sz_some w4
    go_wp2_with fail
    go_loopw [5] (fun x5 wr => ∃ (p : Option Addr) (n cap : Nat) (D : Nat → BitVec 8), x5 = .slice p n cap ∧ n ≤ 20 ∧ OwB wr N p n cap D ∧ Below N w wr ∧ Has wr (N + 1) 23 4 (sp4 a b c d)) (fun x5 _ => b - lenOf x5)
    case atStart => exact ⟨p4, n1, cap4, D4, rfl, n20, B4, bb4, k24⟩
    case round =>
      clear cR B4 bb4 k24 hS4
      obtain ⟨p, n, cap, D5, rfl, hn, B, hb5, k5⟩ := hrel
      obtain ⟨M, hM⟩ := sz_some wr
      have hNM : N + 2 ≤ M := k5.ltN hM
      have c5 := hid (show wr.cell? ⟨N + 1, 1, none⟩ = some (.int .i64 (b : Int)) from k5.cell (j := 1) (by omega))
      by_cases h1 : n < b
      · have E23 := hid (show decide ((n : Int) < (b : Int)) = true from decide_eq_true (by omega))
        go_wp2_with (first
          | ((with_reducible show wpList _ _ _ (_ :: _) _ _); first
            | (refine wpl_run rfl (.int .i64 (n : Int)) _ (run_lenL (x := .tmp 19) rfl undBB rfl _) ?_; try simp only [pA])
            | (refine wpl_run rfl (.int .i64 (b : Int)) _ (run_cell1 (x := .tmp 21) 3 rfl rfl undIt rfl c5.out) ?_; try simp only [pA])
            | (refine wpl_run rfl (.bool true) _ (run_lssK (x := .tmp 20) rfl rfl rfl E23.out _) ?_; try simp only [pA])
            | (refine wpl_bs1z rfl rfl M hM ?_; intro w6 hM6 b6 k6; have B6 : OwB w6 N p n cap D5 := ⟨B.1.below b6 (Nat.le_of_eq hM), B.2⟩; have k56 := k5.below b6 (by omega); have bb6 := hb5.trans (b6.mono (by omega)); try simp only [pA])
            | (refine wpl_appK rfl (.tmp 24) (.tmp 25) 35 rfl 5 1 (by omega) undBB kBy1 p n cap rfl (fun j => By (D5 j)) B6.1 (some ⟨M, 0, none⟩) 1 1 rfl (fun j => By ((fun _ => 0#8 : Nat → BitVec 8) j)) k6.cells (fun j _ => rfl) (by omega) ?_; intro p7 cap7 w7 o7 g7 e7 n7; try simp only [pA]))
          | fail)
        have hs6 : N ≤ w6.heap.size := by have e : w6.heap.size = M + 1 := hM6; omega
        have B7 := B6.app o7 e7 hs6
        have bb7 := g7.below bb6 hs6 B6.2
        have k57 : Has w7 (N + 1) 23 4 (sp4 a b c d) := k56.turn g7.turn (fun h => has_own k56 B6.1 (by decide) _ h rfl)
        exact ⟨⟨p7, n + 1, cap7, _, rfl, by omega, B7, bb7, k57⟩, by simp [lenOf]; omega⟩
      · have E23 := hid (show decide ((n : Int) < (b : Int)) = false from decide_eq_false (by omega))
        have hcap : b ≤ cap := by have := B.1.le; omega
        have Hcv := hid (run_string (P := Tryd.prog) wr 35 9 5 undBB undBy undBS p b cap D5 (fun h0 => by obtain ⟨g, f, e, hc⟩ := B.ats (by omega); exact ⟨g, f, e, fun j hj => hc j (by omega)⟩))
        go_wp2_with (first
          | ((with_reducible show wpList _ _ _ (_ :: _) _ _); first
            | (refine wpl_run rfl (.int .i64 (n : Int)) _ (run_lenL (x := .tmp 19) rfl undBB rfl _) ?_; try simp only [pA])
            | (refine wpl_run rfl (.int .i64 (b : Int)) _ (run_cell1 (x := .tmp 21) 3 rfl rfl undIt rfl c5.out) ?_; try simp only [pA])
            | (refine wpl_run rfl (.bool false) _ (run_lssK (x := .tmp 20) rfl rfl rfl E23.out _) ?_; try simp only [pA])
            | (refine wpl_run rfl (.int .i64 (b : Int)) _ (run_cell1 (x := .tmp 28) 3 rfl rfl undIt rfl c5.out) ?_; try simp only [pA])
            | (refine wpl_run rfl (.slice p b cap) _ (run_slToF 35 5 undBB szBy (.tmp 27) (.tmp 29) rfl rfl rfl hcap _) ?_; try simp only [pA])
            | (refine wpl_conv rfl 35 9 (.tmp 30) rfl _ (.string (strOf D5 b)) rfl Hcv.out ?_; try simp only [pA]))
          | fail)
        go_ret
        exact ⟨⟨D5, b, by omega, rfl⟩, hb5⟩
  · have Hcv := hid (run_string (P := Tryd.prog) w4 35 9 5 undBB undBy undBS p4 n1 cap4 D4 B4.ats)
    go_wp2_with (first
      | ((with_reducible show wpList _ _ _ (_ :: _) _ _); first
        | (refine wpl_conv rfl 35 9 (.tmp 17) rfl _ (.string (strOf D4 n1)) rfl Hcv.out ?_; try simp only [pA]))
      | fail)
    go_ret
    exact ⟨⟨D4, n1, n20, rfl⟩, bb4⟩
set_option maxRecDepth 100000 in
set_option maxHeartbeats 4000000 in
theorem val_any (what : Int) (kq : Option Addr) (kn kc : Nat) (vq : Option Addr) (vn vc : Nat) (fl : Int) (raw : Bool) (a c d : Int) (b : Nat) (hb : b ≤ 64) (hvc : vn ≤ vc) (D : Nat → BitVec 8) (w : World) (N : Nat) (hN : Sz w N) (hK : Ats w vq vn (fun j => By (D j))) :
    Calls Tryd.prog 15 #[.agg (cellsOf (acC what kq kn kc vq vn vc fl raw) 5), .agg (cellsOf (sp4 a c b d) 4)] w fun e w' => TextR 70 e ∧ Below N w w' := by
  obtain ⟨n1, hn1⟩ : ∃ n1, n1 = min vn 70 := ⟨_, rfl⟩
  have Hn1 := hid hn1
  have n1k : n1 ≤ vc := by omega
  have n1n : n1 ≤ vn := by omega
  have n20 : n1 ≤ 70 := by omega
  clear hn1
  go_enter Tryd.func15, Tryd.ntmps15
  go_upto_region 2 with (first
    | ((with_reducible show wpList _ _ _ (_ :: _) _ _); first
      | (refine wpl_box rfl 38 (.tmp 0) rfl 5 (acC what kq kn kc vq vn vc fl raw) rfl N hN ?_; intro w1 hM1 b1 k1; try simp only [pA])
      | (refine wpl_box rfl 23 (.tmp 1) rfl 4 (sp4 a c b d) rfl (N + 1) hM1 ?_; intro w2 hM2 b2 k2; have k1' := k1.below b2 (by omega); have bb2 := b1.trans (b2.mono (by omega)); try simp only [pA])
      | (refine wpl_bs0 rfl rfl (N + 2) hM2 ?_; intro w3 hM3 b3 o3; have k13 := k1'.below b3 (by omega); have k23 := k2.below b3 (by omega); have bb3 := bb2.trans (b3.mono (by omega)); have cK : w3.cell? ⟨N, 2, none⟩ = some (.slice vq vn vc) := k13.cell (j := 2) (by omega); have K3 := hK.below hN bb3; try simp only [pA])
      | (refine wpl_run rfl (.slice vq vn vc) _ (run_cell1 (x := .tmp 7) 35 rfl rfl undBB rfl cK) ?_; try simp only [pA])
      | (refine wpl_run rfl (.slice vq vn vc) _ (run_cell1 (x := .tmp 9) 35 rfl rfl undBB rfl cK) ?_; try simp only [pA])
      | (refine wpl_run rfl (.int .i64 (vn : Int)) _ (run_lenL (x := .tmp 10) rfl undBB rfl _) ?_; try simp only [pA])
      | (refine wpl_min rfl (.tmp 11) (.const (.int .i64 70)) 3 rfl vn 70 n1 rfl rfl Hn1 ?_; try simp only [pA])
      | (refine wpl_run rfl (.slice vq n1 vc) _ (run_slToF 35 5 undBB szBy (.tmp 8) (.tmp 12) rfl rfl rfl n1k _) ?_; try simp only [pA])
      | (refine wpl_appK rfl (.tmp 6) (.tmp 13) 35 rfl 5 1 (by omega) undBB kBy1 (some ⟨N + 2, 0, none⟩) 0 0 rfl (fun _ => By 0#8) o3 vq n1 vc rfl (fun j => By (D j)) (Ats.cells (fun h0 => by obtain ⟨g, f, e, hc⟩ := K3 (by omega); exact ⟨g, f, e, fun j hj => hc j (by omega)⟩)) (fun j _ => rfl) (by omega) ?_; intro p4 cap4 w4 o4 g4 e4 n4; try simp only [pA]))
    | fail)
  have B4 : OwB w4 N p4 (0 + n1) cap4 (catB (fun _ => 0#8) 0 D) := OwB.app (cap := 0) (G := D) ⟨o3, fun g hg => by have : N + 2 = g := Option.some.inj hg; omega⟩ o4 e4 (by have e : w3.heap.size = N + 2 + 1 := hM3; omega)
  have bb4 : Below N w w4 := g4.below bb3 (by have e : w3.heap.size = N + 2 + 1 := hM3; omega) (fun g hg => by have : N + 2 = g := Option.some.inj hg; omega)
  have k14 : Has w4 N 38 5 (acC what kq kn kc vq vn vc fl raw) := k13.turn g4.turn (fun h => by have : N + 2 = N := Option.some.inj h; omega)
  have k24 : Has w4 (N + 1) 23 4 (sp4 a c b d) := k23.turn g4.turn (fun h => by have : N + 2 = N + 1 := Option.some.inj h; omega)
  generalize catB (fun _ => 0#8) 0 D = D4 at B4
  rw [Nat.zero_add] at B4 ⊢
  have cR : w4.cell? ⟨N, 4, none⟩ = some (.bool raw) := k14.cell (j := 4) (by omega)
  clear o4 g4 e4 n4 o3 k13 k23 cK K3 bb3 bb2 b1 b2 b3 k1 k1' k2 hM1 hM2 hM3 k14
  cases raw
  · have hS4 : ∃ M, Sz w4 M := sz_some w4
    go_wp2_with fail
    go_loopw [5] (fun x5 wr => ∃ (p : Option Addr) (n cap : Nat) (D : Nat → BitVec 8), x5 = .slice p n cap ∧ n ≤ 70 ∧ OwB wr N p n cap D ∧ Below N w wr ∧ Has wr (N + 1) 23 4 (sp4 a c b d)) (fun x5 _ => b - lenOf x5)
    case atStart => exact ⟨p4, n1, cap4, D4, rfl, n20, B4, bb4, k24⟩
    case round =>
      clear cR B4 bb4 k24 hS4
      obtain ⟨p, n, cap, D5, rfl, hn, B, hb5, k5⟩ := hrel
      obtain ⟨M, hM⟩ := sz_some wr
      have hNM : N + 2 ≤ M := k5.ltN hM
      have c5 := hid (show wr.cell? ⟨N + 1, 2, none⟩ = some (.int .i64 (b : Int)) from k5.cell (j := 2) (by omega))
      by_cases h1 : n < b
      · have E23 := hid (show decide ((n : Int) < (b : Int)) = true from decide_eq_true (by omega))
        go_wp2_with (first
          | ((with_reducible show wpList _ _ _ (_ :: _) _ _); first
            | (refine wpl_run rfl (.int .i64 (n : Int)) _ (run_lenL (x := .tmp 19) rfl undBB rfl _) ?_; try simp only [pA])
            | (refine wpl_run rfl (.int .i64 (b : Int)) _ (run_cell1 (x := .tmp 21) 3 rfl rfl undIt rfl c5.out) ?_; try simp only [pA])
            | (refine wpl_run rfl (.bool true) _ (run_lssK (x := .tmp 20) rfl rfl rfl E23.out _) ?_; try simp only [pA])
            | (refine wpl_bs1z rfl rfl M hM ?_; intro w6 hM6 b6 k6; have B6 : OwB w6 N p n cap D5 := ⟨B.1.below b6 (Nat.le_of_eq hM), B.2⟩; have k56 := k5.below b6 (by omega); have bb6 := hb5.trans (b6.mono (by omega)); try simp only [pA])
            | (refine wpl_appK rfl (.tmp 24) (.tmp 25) 35 rfl 5 1 (by omega) undBB kBy1 p n cap rfl (fun j => By (D5 j)) B6.1 (some ⟨M, 0, none⟩) 1 1 rfl (fun j => By ((fun _ => 0#8 : Nat → BitVec 8) j)) k6.cells (fun j _ => rfl) (by omega) ?_; intro p7 cap7 w7 o7 g7 e7 n7; try simp only [pA]))
          | fail)
        have hs6 : N ≤ w6.heap.size := by have e : w6.heap.size = M + 1 := hM6; omega
        have B7 := B6.app o7 e7 hs6
        have bb7 := g7.below bb6 hs6 B6.2
        have k57 : Has w7 (N + 1) 23 4 (sp4 a c b d) := k56.turn g7.turn (fun h => has_own k56 B6.1 (by decide) _ h rfl)
        exact ⟨⟨p7, n + 1, cap7, _, rfl, by omega, B7, bb7, k57⟩, by simp [lenOf]; omega⟩
      · have E23 := hid (show decide ((n : Int) < (b : Int)) = false from decide_eq_false (by omega))
        have hcap : b ≤ cap := by have := B.1.le; omega
        have Hcv := hid (run_string (P := Tryd.prog) wr 35 9 5 undBB undBy undBS p b cap D5 (fun h0 => by obtain ⟨g, f, e, hc⟩ := B.ats (by omega); exact ⟨g, f, e, fun j hj => hc j (by omega)⟩))
        go_wp2_with (first
          | ((with_reducible show wpList _ _ _ (_ :: _) _ _); first
            | (refine wpl_run rfl (.int .i64 (n : Int)) _ (run_lenL (x := .tmp 19) rfl undBB rfl _) ?_; try simp only [pA])
            | (refine wpl_run rfl (.int .i64 (b : Int)) _ (run_cell1 (x := .tmp 21) 3 rfl rfl undIt rfl c5.out) ?_; try simp only [pA])
            | (refine wpl_run rfl (.bool false) _ (run_lssK (x := .tmp 20) rfl rfl rfl E23.out _) ?_; try simp only [pA])
            | (refine wpl_run rfl (.int .i64 (b : Int)) _ (run_cell1 (x := .tmp 28) 3 rfl rfl undIt rfl c5.out) ?_; try simp only [pA])
            | (refine wpl_run rfl (.slice p b cap) _ (run_slToF 35 5 undBB szBy (.tmp 27) (.tmp 29) rfl rfl rfl hcap _) ?_; try simp only [pA])
            | (refine wpl_conv rfl 35 9 (.tmp 30) rfl _ (.string (strOf D5 b)) rfl Hcv.out ?_; try simp only [pA]))
          | fail)
        go_ret
        exact ⟨⟨D5, b, by omega, rfl⟩, hb5⟩
  · have Hcv := hid (run_string (P := Tryd.prog) w4 35 9 5 undBB undBy undBS p4 n1 cap4 D4 B4.ats)
    go_wp2_with (first
      | ((with_reducible show wpList _ _ _ (_ :: _) _ _); first
        | (refine wpl_conv rfl 35 9 (.tmp 17) rfl _ (.string (strOf D4 n1)) rfl Hcv.out ?_; try simp only [pA]))
      | fail)
    go_ret
    exact ⟨⟨D4, n1, n20, rfl⟩, bb4⟩
end Go.Proofs.YtjdclgnlnehjlaaDoor
