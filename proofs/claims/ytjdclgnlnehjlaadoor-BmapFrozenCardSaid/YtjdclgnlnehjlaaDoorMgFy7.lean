/- BmapFrozen: the document's map: its next state; one entry more. BmapFrozen: the document's Push. -/
import Derived.Test.YtjdclgnlnehjlaaDoorFy5
namespace Go.Proofs.YtjdclgnlnehjlaaDoor
open Go Go.RowKit
theorem kRE : KCell Tryd.prog 66 2 := kCell_of (v := .agg (cellsOf (re1 ⟨⟨#[]⟩, ⟨#[]⟩⟩) 2)) (k := 32) (by kernel_rfl) (by omega) rfl
theorem szSlRE : (Tryd.prog.info? 62).map (·.size) = some 1 := by kernel_rfl
theorem re1_one (e : Re) (j : Nat) : (re1 e j).oneCell' = true := by unfold re1; split <;> rfl
theorem reC_one (E : Nat → Re) (j : Nat) : (reC E j).oneCell' = true := re1_one _ _
theorem reC_set (E : Nat → Re) (n : Nat) (e : Re) (g : Nat → Value) (hg : ∀ j, j < 2 → g j = re1 e j) (j : Nat) (hj : j < (n + 1) * 2) : cat (reC E) (n * 2) g j = reC (setF E n e) j := by
  unfold cat
  by_cases h : j < n * 2
  · rw [if_pos h]
    unfold reC setF
    rw [if_neg (by omega)]
  · rw [if_neg h, hg _ (by omega)]
    unfold reC setF
    rw [if_pos (by omega), show j % 2 = j - n * 2 by omega]
structure RNx (m : Rm) (w : World) (N : Nat) (w' : World) (m' : Rm) : Prop where
  sm : m'.b = m.b ∧ m'.ty = m.ty ∧ m'.key = m.key ∧ m'.val = m.val ∧ m'.ent = m.ent
  at_ : RmAt w' m'
  turn : Turn (RFoot m) w w'
  ft : ∀ x, RFoot m' x → RFoot m x ∨ N ≤ x
section
variable {m m' : Rm} {w w1 w2 w' : World} {N M : Nat}
theorem RNx.stay (hN : Sz w N) (hA : RmAt w m) (hb : Below N w w') : RNx m w N w' m :=
  ⟨⟨rfl, rfl, rfl, rfl, rfl⟩, hA.below hN hb, turn_below hN hb _, fun _ h => .inl h⟩
theorem RNx.pre (hN : Sz w N) (hb : Below N w w1) (hM : Sz w1 M) (h : RNx m w1 M w2 m') : RNx m w N w2 m' :=
  ⟨h.sm, h.at_, turn_low hN hb h.turn, fun x hx => (h.ft x hx).imp (fun h => h) (fun h => by have := below_sz hb hN hM; omega)⟩
theorem RNx.post (h : RNx m w N w1 m') (hM : Sz w1 M) (hb : Below M w1 w2) : RNx m w N w2 m' :=
  ⟨h.sm, h.at_.below hM hb, h.turn.trans (turn_below hM hb (RFoot m)) (fun _ h _ => h), h.ft⟩
end
def Rm.put (m : Rm) (p' : Option Addr) (cap' : Nat) (e : Re) : Rm := { m with p := p', n := m.n + 1, cap := cap', E := setF m.E m.n e }
section
variable {ops : Array Oper} {rest : List Oper} {o : Oper} {a : Act} {w : World} {Q : Exit → Act → World → Prop}
theorem wpl_bsRE (hgd : o.guard = none) (x : Operand) (ho : o.op = .buildSlice 62 1 #[(0, x)]) (e : Re) (hx : a.eval x = .agg (cellsOf (re1 e) 2)) (N : Nat) (hN : Sz w N)
    (h : ∀ w1, Sz w1 (N + 1) → Below N w w1 → Has w1 N 66 2 (re1 e) → wpList Tryd.prog ops Q rest (a.put o.dst (.slice (some ⟨N, 0, none⟩) 1 1)) w1) : wpList Tryd.prog ops Q (o :: rest) a w := by
  have eN : w.heap.size = N := hN
  subst eN
  refine wpl_run hgd (.slice (some ⟨w.heap.size, 0, none⟩) 1 1) (w.alloc (.cells (cellsOf (re1 e) 2) 66)) ?_ (h _ (sz_alloc rfl _) (below_new _ _ _ rfl) (has_new rfl 66 2 _))
  clear h hN
  generalize a.eval = ev at *
  have hc : cellsOf (re1 e) 2 = #[.string e.k, .string e.v] := rfl
  rw [hc] at hx ⊢
  unfold execOp
  simp only [ho, hx]
  go_simp
  try kernel_rfl
end
theorem RNx.put {m : Rm} {w w3 w4 w5 : World} {N : Nat} {p' : Option Addr} {cap' : Nat} {e : Re} (hN : Sz w N) (hA : RmAt w m) (b3 : Below N w w3) (hN3 : N ≤ w3.heap.size)
    (o4 : OwnK w4 66 2 p' (m.n + 1) cap' (cat (reC m.E) (m.n * 2) (re1 e))) (g4 : Grew (blk m.p) w3 w4) (q4 : blk p' = blk m.p ∨ blk p' = some w3.heap.size)
    (t5 : Touch m.b w4 w5) (h5 : Has w5 m.b 64 6 (upd (rmC m) 4 (.slice p' (m.n + 1) cap'))) (hn : m.n < m.ent) (hk : m.ty = 5 → e.k.size = m.key) : RNx m w N w5 (m.put p' cap' e) := by
  have hbN := hA.lt hN m.b (.inl rfl)
  have hpb : ∀ g, blk p' = some g → g ≠ m.b := fun g hg => by
    rcases q4 with q | q
    · rw [q] at hg; exact fun e => has_own hA.h hA.e (by decide) g hg e.symm
    · rw [q] at hg; have := Option.some.inj hg; omega
  have h64 := hA.sm.2.2.1
  refine ⟨⟨rfl, rfl, rfl, rfl, rfl⟩, ⟨h5.congr (fun j hj => ?_), (o4.touch t5 hpb).congr (fun j hj => reC_set m.E m.n e _ (fun j _ => rfl) j hj), fun h => ⟨(hA.k h).1, (hA.k h).2.1, fun i hi => ?_⟩, show m.n + 1 ≤ 100 by omega, hA.sm⟩,
    ((turn_below hN b3 (RFoot m)).trans g4.turn (fun j hj _ => .inr hj)).trans t5.turn (fun j hj _ => .inl hj), fun x hx => ?_⟩
  · unfold upd
    show _ = rmC (m.put p' cap' e) j
    unfold rmC
    by_cases h4 : j = 4
    · subst h4; rfl
    · rw [if_neg h4, if_neg h4, if_neg h4]; rfl
  · have hi' : i < m.n + 1 := hi
    show (setF m.E m.n e i).k.size = m.key
    by_cases ei : i = m.n
    · rw [ei, setF_self]; exact hk h
    · rw [setF_ne _ _ _ ei]; exact (hA.k h).2.2 i (by omega)
  · rcases hx with hx | hx
    · exact .inl (.inl hx)
    · have hx' : blk p' = some x := hx
      rcases q4 with q | q
      · exact .inl (.inr (by rw [← q]; exact hx'))
      · rw [q] at hx'; have := Option.some.inj hx'; exact .inr (by omega)
end Go.Proofs.YtjdclgnlnehjlaaDoor
namespace Go.Proofs.YtjdclgnlnehjlaaDoor
open Go Go.RowKit
def RErr (m : Rm) (w : World) (N : Nat) (e : Ending) (w' : World) : Prop := ∃ (z : Int) (m' : Rm), e = .returned (.int .i64 z) ∧ RNx m w N w' m'
set_option maxRecDepth 100000 in
set_option maxHeartbeats 8000000 in
theorem DPush_put (m : Rm) (t : ByteArray) (hl : m.ty = 3 ∨ m.ty = 4) (hfz : m.fz = false) (hv : t.size = m.val) (hn : m.n < m.ent) (w : World) (N : Nat) (hN : Sz w N) (hA : RmAt w m) :
    Calls Tryd.prog 31 #[.pointer (some ⟨m.b, 0, none⟩), .string t, .int .u64 0] w (RErr m w N) := by
  have c0 := hA.c0
  have c5 := hA.c5
  rw [hfz] at c5
  have c2 := hA.c2
  have c3 := hA.c3
  have c4 := hA.c4
  obtain ⟨L, hL⟩ : ∃ L, t.size = L := ⟨_, rfl⟩
  have t33 : ((L : Int) != (m.val : Int)) = false := by rw [← hL, hv]; simp
  have E49 : ¬ ((m.ent : Int) ≤ (m.n : Int)) := by omega
  have hnn := hA.n
  have H5 := hid (show m.ty = 5 → (⟨#[]⟩ : ByteArray).size = m.key from fun h => by omega)
  have HN := hid hn
  have fin : ∀ wd : World, Below N w wd → Sz wd N → RmAt wd m → True := fun _ _ _ _ => trivial
  clear fin hfz hv hn
  rcases hl with hl | hl
  · rw [hl] at c0
    clear hl
    go_enter Tryd.func31, Tryd.ntmps31
    go_wp2
    go_quiet (fail)
    go_upto_region 7 with fail
    have bd : Below N w (w.drewN nq) := below_drewN (Below.refl _ _) _
    have hNd : Sz (w.drewN nq) N := hN
    have Ad := hA.below hN bd
    generalize w.drewN nq = wd at *
    have D4 := hid Ad.c4
    clear c0 c5 c2 c3 c4
    go_wp2_with (first
      | ((with_reducible show wpList _ _ _ (_ :: _) _ _); first
        | (refine wpl_run rfl (.slice m.p m.n m.cap) _ (run_cell1 (x := .tmp 53) 62 rfl rfl undRE rfl D4.out) ?_; try simp only [pA])
        | (refine wpl_build rfl 66 _ rfl (cellsOf (re1 ⟨⟨#[]⟩, t⟩) 2) (by kernel_rfl) ?_; try simp only [pA])
        | (refine wpl_bsRE rfl (.tmp 56) rfl ⟨⟨#[]⟩, t⟩ rfl N hNd ?_; intro w3 hM3 b3 k3; have o3 := Ad.e.below b3 (Nat.le_of_eq hNd); have h3 := Ad.h.below b3 (Ad.lt hNd _ (.inl rfl)); try simp only [pA])
        | (refine wpl_appK rfl (.tmp 54) (.tmp 57) 62 rfl 66 2 (by omega) undRE kRE m.p m.n m.cap rfl (reC m.E) o3 (some ⟨N, 0, none⟩) 1 1 rfl (re1 ⟨⟨#[]⟩, t⟩) k3.cells (fun j _ => re1_one _ j) (by omega) ?_; intro p4 cap4 w4 o4 g4 q4 n4; have h4 := h3.turn g4.turn (fun e => has_own Ad.h Ad.e (by decide) _ e rfl); try simp only [pA])
        | (refine wpl_set rfl 62 (.tmp 60) (.tmp 58) rfl m.b 4 rfl (.slice p4 (m.n + 1) cap4) rfl szSlRE rfl rfl 64 6 _ h4 (by omega) ?_; intro w5 t5 h5; try simp only [pA]))
      | fail)
    go_ret
    have hs3 : w3.heap.size = N + 1 := hM3
    exact ⟨0, m.put p4 cap4 ⟨⟨#[]⟩, t⟩, rfl, RNx.put hN hA (bd.trans b3) (by omega) o4 g4 q4 t5 h5 HN.out H5.out⟩
  · rw [hl] at c0
    clear hl
    go_enter Tryd.func31, Tryd.ntmps31
    go_wp2
    go_quiet (fail)
    go_upto_region 7 with fail
    have bd : Below N w (w.drewN nq) := below_drewN (Below.refl _ _) _
    have hNd : Sz (w.drewN nq) N := hN
    have Ad := hA.below hN bd
    generalize w.drewN nq = wd at *
    have D4 := hid Ad.c4
    clear c0 c5 c2 c3 c4
    go_wp2_with (first
      | ((with_reducible show wpList _ _ _ (_ :: _) _ _); first
        | (refine wpl_run rfl (.slice m.p m.n m.cap) _ (run_cell1 (x := .tmp 53) 62 rfl rfl undRE rfl D4.out) ?_; try simp only [pA])
        | (refine wpl_build rfl 66 _ rfl (cellsOf (re1 ⟨⟨#[]⟩, t⟩) 2) (by kernel_rfl) ?_; try simp only [pA])
        | (refine wpl_bsRE rfl (.tmp 56) rfl ⟨⟨#[]⟩, t⟩ rfl N hNd ?_; intro w3 hM3 b3 k3; have o3 := Ad.e.below b3 (Nat.le_of_eq hNd); have h3 := Ad.h.below b3 (Ad.lt hNd _ (.inl rfl)); try simp only [pA])
        | (refine wpl_appK rfl (.tmp 54) (.tmp 57) 62 rfl 66 2 (by omega) undRE kRE m.p m.n m.cap rfl (reC m.E) o3 (some ⟨N, 0, none⟩) 1 1 rfl (re1 ⟨⟨#[]⟩, t⟩) k3.cells (fun j _ => re1_one _ j) (by omega) ?_; intro p4 cap4 w4 o4 g4 q4 n4; have h4 := h3.turn g4.turn (fun e => has_own Ad.h Ad.e (by decide) _ e rfl); try simp only [pA])
        | (refine wpl_set rfl 62 (.tmp 60) (.tmp 58) rfl m.b 4 rfl (.slice p4 (m.n + 1) cap4) rfl szSlRE rfl rfl 64 6 _ h4 (by omega) ?_; intro w5 t5 h5; try simp only [pA]))
      | fail)
    go_ret
    have hs3 : w3.heap.size = N + 1 := hM3
    exact ⟨0, m.put p4 cap4 ⟨⟨#[]⟩, t⟩, rfl, RNx.put hN hA (bd.trans b3) (by omega) o4 g4 q4 t5 h5 HN.out H5.out⟩
set_option maxRecDepth 100000 in
set_option maxHeartbeats 8000000 in
theorem DPush_any (m : Rm) (t : ByteArray) (f : Int) (w : World) (N : Nat) (hN : Sz w N) (hA : RmAt w m) :
    Calls Tryd.prog 31 #[.pointer (some ⟨m.b, 0, none⟩), .string t, .int .u64 f] w (RErr m w N) := by
  have c0 := hA.c0
  have c5 := hA.c5
  have stay := hid (RNx.stay hN hA (Below.refl N w))
  cases hfz : m.fz with
  | true =>
    rw [hfz] at c5
    clear hfz c0
    go_enter Tryd.func31, Tryd.ntmps31
    go_wp2
    go_ret
    exact ⟨1, m, rfl, stay.out⟩
  | false =>
    rw [hfz] at c5
    have hfz2 := hfz
    clear hfz
    by_cases hl : m.ty = 3 ∨ m.ty = 4
    · obtain ⟨L, hL⟩ : ∃ L, t.size = L := ⟨_, rfl⟩
      have c2 := hA.c2
      have HL := hid hl
      by_cases hv : L = m.val
      · by_cases hf : f = 0
        · have c3 := hA.c3
          have c4 := hA.c4
          have t33 : ((L : Int) != (m.val : Int)) = false := by rw [hv]; simp
          subst hf
          by_cases hn : m.n < m.ent
          · exact DPush_put m t hl hfz2 (hL.trans hv) hn w N hN hA
          · have E49 : decide ((m.ent : Int) ≤ (m.n : Int)) = true := decide_eq_true (by omega)
            have E49' : (m.ent : Int) ≤ (m.n : Int) := by omega
            clear hv hn E49
            rcases hl with hl | hl
            · rw [hl] at c0
              clear hl
              go_enter Tryd.func31, Tryd.ntmps31
              go_wp2
              go_quiet (fail)
              go_wp2
              go_ret
              exact ⟨7, m, rfl, RNx.stay hN hA (below_drewN (Below.refl _ _) _)⟩
            · rw [hl] at c0
              clear hl
              go_enter Tryd.func31, Tryd.ntmps31
              go_wp2
              go_quiet (fail)
              go_wp2
              go_ret
              exact ⟨7, m, rfl, RNx.stay hN hA (below_drewN (Below.refl _ _) _)⟩
        · have t37 : (f != 0) = true := bne_iff_ne.2 hf
          have t33 : ((L : Int) != (m.val : Int)) = false := by rw [hv]; simp
          clear hv hf
          rcases hl with hl | hl
          · rw [hl] at c0
            clear hl
            go_enter Tryd.func31, Tryd.ntmps31
            go_wp2
            go_ret
            exact ⟨22, m, rfl, stay.out⟩
          · rw [hl] at c0
            clear hl
            go_enter Tryd.func31, Tryd.ntmps31
            go_wp2
            go_ret
            exact ⟨22, m, rfl, stay.out⟩
      · have t33 : ((L : Int) != (m.val : Int)) = true := by rw [bne_iff_ne]; omega
        clear hv
        rcases hl with hl | hl
        · rw [hl] at c0
          clear hl
          go_enter Tryd.func31, Tryd.ntmps31
          go_wp2
          go_ret
          exact ⟨22, m, rfl, stay.out⟩
        · rw [hl] at c0
          clear hl
          go_enter Tryd.func31, Tryd.ntmps31
          go_wp2
          go_ret
          exact ⟨22, m, rfl, stay.out⟩
    · have t3 : ((m.ty : Int) != 3) = true := by rw [bne_iff_ne]; omega
      have t4 : ((m.ty : Int) != 4) = true := by rw [bne_iff_ne]; omega
      clear hl
      go_enter Tryd.func31, Tryd.ntmps31
      go_wp2
      go_ret
      exact ⟨22, m, rfl, stay.out⟩
end Go.Proofs.YtjdclgnlnehjlaaDoor
