/- Has of the document's answer for layer 3. -/
import Derived.Test.YtcampjgemedhlaaDoorRg4
import Derived.Test.YtcampjgemedhlaaDoorRefB
import Derived.Test.YtcampjgemedhlaaDoorOwnK
namespace Go.Proofs.YtcampjgemedhlaaDoor
open Go Go.RowKit Sha
/-- The cells of the document's registry. -/
def dcC (pk : Option Addr) (n ck : Nat) (ps : Option Addr) (cs : Nat) : Nat → Value := fun j => if j = 73 then .slice ps n cs else if j = 72 then .slice pk n ck else rtC j
def keysC (R : Rg) : Nat → Value := fun j => By (R.K (j / 32) (j % 32))
def spC (R : Rg) : Nat → Value := fun j => .bool (R.sp j)
/-- The document's registry lies there. -/
structure Dc (w : World) (d : Nat) (R : Rg) (pk : Option Addr) (ck : Nat) (ps : Option Addr) (cs : Nat) : Prop where
  h : Has w d 68 74 (dcC pk R.c ck ps cs)
  k : OwnK w 23 32 pk R.c ck (keysC R)
  s : Own w 4 ps R.c cs (spC R)
  kd : ∀ g, blk pk = some g → g ≠ d
  sd : ∀ g, blk ps = some g → g ≠ d
  ks : ∀ g, blk pk = some g → blk ps ≠ some g
theorem Dc.below {w w' : World} {d : Nat} {R : Rg} {pk ps : Option Addr} {ck cs N : Nat} (h : Dc w d R pk ck ps cs) (b : Below N w w') (hN : Sz w N) : Dc w' d R pk ck ps cs :=
  ⟨h.h.below b (h.h.ltN hN), h.k.below b (Nat.le_of_eq hN), h.s.below b (Nat.le_of_eq hN), h.kd, h.sd, h.ks⟩
theorem Dc.drew {w : World} {d : Nat} {R : Rg} {pk ps : Option Addr} {ck cs : Nat} (h : Dc w d R pk ck ps cs) : Dc w.drew d R pk ck ps cs := ⟨h.h, h.k, h.s, h.kd, h.sd, h.ks⟩
theorem Dc.cell72 {w : World} {d : Nat} {R : Rg} {pk ps : Option Addr} {ck cs : Nat} (h : Dc w d R pk ck ps cs) : w.cell? ⟨d, 72, none⟩ = some (.slice pk R.c ck) := h.h.cell (by omega)
theorem Dc.cell73 {w : World} {d : Nat} {R : Rg} {pk ps : Option Addr} {ck cs : Nat} (h : Dc w d R pk ck ps cs) : w.cell? ⟨d, 73, none⟩ = some (.slice ps R.c cs) := h.h.cell (by omega)
theorem Dc.key {w : World} {d : Nat} {R : Rg} {pk ps : Option Addr} {ck cs : Nat} (h : Dc w d R pk ck ps cs) (h0 : 0 < R.c) : ∃ g, pk = some ⟨g, 0, none⟩ ∧ ∀ k, k < R.c → ∀ j, j < 32 → w.cell? ⟨g, k * 32 + j, none⟩ = some (By (R.K k j)) := by
  obtain ⟨g, hg, hc⟩ := h.k.cell h0
  refine ⟨g, hg, fun k hk j hj => ?_⟩
  have := hc (k * 32 + j) (by omega)
  rw [Nat.zero_add] at this
  rw [this]
  unfold keysC
  rw [show (k * 32 + j) / 32 = k from by omega, show (k * 32 + j) % 32 = j from by omega]
theorem Dc.spent {w : World} {d : Nat} {R : Rg} {pk ps : Option Addr} {ck cs : Nat} (h : Dc w d R pk ck ps cs) (h0 : 0 < R.c) : ∃ g, ps = some ⟨g, 0, none⟩ ∧ ∀ k, k < R.c → w.cell? ⟨g, k, none⟩ = some (.bool (R.sp k)) := by
  obtain ⟨g, hg, hc⟩ := h.s.cell h0
  refine ⟨g, hg, fun k hk => ?_⟩
  have := hc k hk
  rwa [Nat.zero_add] at this
/-- What a load of cells that are known runs to. -/
theorem run_ldc {P : Program} {a : Act} {w : World} {o : Oper} (ty : TypeId) (x : Operand) (ho : o.op = .load ty x) (b off : Nat) (hx : a.eval x = .pointer (some ⟨b, off, none⟩)) (m : Nat) (g : Nat → Value) (hc : ∀ j, j < m → w.cell? ⟨b, off + j, none⟩ = some (g j))
    (d : TypeDesc) (hu : P.underlying ty = some d) (hd : d.isRow = true) (hi : (P.info? ty).map (·.size) = some m) : (execOp a.eval o).run P w = .ok (.value (.agg (cellsOf g m))) w := by
  have hrun := run_load_cells (P := P) hc ty d hu hd hi
  unfold execOp
  simp only [ho, hx, Sem.run_bind, hrun, Result.andThen_ok, Sem.run_pure]
set_option maxRecDepth 100000 in
set_option maxHeartbeats 1000000 in
theorem DHas_any (R : Rg) (d : Nat) (pk ps : Option Addr) (ck cs : Nat) (key : Nat → BitVec 8) (w : World) (N : Nat) (hN : Sz w N) (hD : Dc w d R pk ck ps cs) (hc : R.c ≤ 32) :
    Calls Tryd.prog 43 #[.pointer (some ⟨d, 0, none⟩), .agg (cellsOf (fun j => By (key j)) 32)] w fun e w' => e = .returned (.bool (hasB R key)) ∧ Below N w w' := by
  go_enter Tryd.func43, Tryd.ntmps43
  go_wp2_with (first
    | (refine wpl_box rfl 23 (.tmp 1) rfl 32 _ rfl N hN ?_; intro w1 hN1 hb1 h1)
    | fail)
  have D1 := hD.below hb1 hN
  go_loopw [5] (fun i wr => ∃ k : Nat, k ≤ R.c ∧ i = .int .i64 k ∧ Hid (∀ i, i < k → eqK R key i = false) ∧ Below (N + 1) w1 wr)
    (fun i _ => R.c - (intOf i).toNat)
  case atStart => exact ⟨0, by omega, rfl, hid (fun i hi => by omega), Below.refl _ _⟩
  case round =>
    obtain ⟨k, hk, rfl, HF, qb⟩ := hrel
    obtain ⟨M, hM⟩ := sz_some wr
    have hNM := below_sz qb hN1 hM
    have Dr := D1.below qb hN1
    have hr := h1.below qb (by omega)
    have bw := hb1.trans (qb.mono (by omega))
    have c72 := Dr.cell72
    clear D1 h1 hD
    by_cases hlt : k < R.c
    · have hk32 : (k : Int) < 32 := by omega
      obtain ⟨g, rfl, hks⟩ := Dr.key (by omega)
      obtain ⟨gs, rfl, hss⟩ := Dr.spent (by omega)
      have hld : ∀ x : Later M wr, (Instr.loadAt 65 (.pointer (some ⟨d, 72, none⟩))).run Tryd.prog x.w' = .ok (.slice (some ⟨g, 0, none⟩) R.c ck) x.w' := fun x => by
        have c := Later.cell hM c72 x
        go_simp
      have c73 := Dr.cell73
      have fsp := hss k hlt
      obtain ⟨q, eq⟩ : ∃ q, q = eqK R key k := ⟨_, rfl⟩
      have HEQ := hid (fun w => run_eqK R key k w)
      rw [← eq] at HEQ
      have HQ := hid eq
      clear eq
      have Hk := hid hks
      clear hks hss
      go_wp2_with fail
      refine wp_region_later M (by kernel_rfl) (by kernel_rfl) ?_
      repeat first
        | (refine later_val (fun x => run_ld1 65 (.tmp 17) rfl ⟨d, 72, none⟩ rfl _ (Later.cell hM c72 x) (hld x)) (by rfl) ?_; simp only [Act.put, List.setIfInBounds_toArray, List.set_cons_succ, List.set_cons_zero])
        | (refine later_val (fun x => run_ldc 23 (.tmp 20) rfl g (k * 32) rfl 32 (fun j => By (R.K k j)) (fun j hj => Later.cell hM (Hk.out k hlt j hj) x) _ und23 rfl inf23) (by rfl) ?_; simp only [Act.put, List.setIfInBounds_toArray, List.set_cons_succ, List.set_cons_zero])
        | (refine later_val (fun x => run_ld 23 (.tmp 3) rfl N rfl 23 32 _ (Later.has hM hr x) _ und23 rfl inf23) (by rfl) ?_; simp only [Act.put, List.setIfInBounds_toArray, List.set_cons_succ, List.set_cons_zero])
        | (refine later_val (fun x => run_eql_op 23 23 (.tmp 21) (.tmp 22) rfl _ _ rfl rfl q (by kernel_rfl) (HEQ.out x.w')) (by rfl) ?_; simp only [Act.put, List.setIfInBounds_toArray, List.set_cons_succ, List.set_cons_zero])
        | (go_big_quiet_step (fail))
      refine wpQuiet_nil ?_
      rintro w5 ⟨x5, e5⟩
      have hb5 := x5.b
      rw [← e5] at hb5
      clear e5 x5
      have q5 := qb.trans (hb5.mono hNM)
      have c735 : w5.cell? ⟨d, 73, none⟩ = some (.slice (some ⟨gs, 0, none⟩) R.c cs) := (Dr.below hb5 hM).cell73
      obtain ⟨g', eg', hss5⟩ := (Dr.below hb5 hM).spent (by omega)
      obtain rfl : gs = g' := by injection eg' with e; injection e
      have cs5 := hss5 k hlt
      clear c72 c73 fsp hld
      cases q
      · go_wp2_with fail
        exact ⟨⟨k + 1, by omega, by go_num, hid (fun i hi => by
          by_cases h : i < k
          · exact HF.out i h
          · obtain rfl : i = k := by omega
            exact HQ.out.symm), q5⟩, by simp [intOf]; omega⟩
      · have hp := find_first (eqK R key) R.c k hlt HF.out HQ.out.symm
        have e1 : plI R key = k := by unfold plI plO; rw [hp]; rfl
        have e2 : plB R key = true := by unfold plB plO; rw [hp]; rfl
        have E1 := hid (show hasB R key = !R.sp k by unfold hasB; rw [e1, e2]; rfl)
        clear e1 e2 hp
        go_wp2_with fail
        go_ret
        exact ⟨by rw [E1.out]; rfl, hb1.trans (q5.mono (by omega))⟩
    · obtain rfl : k = R.c := by omega
      have hp := find_none (eqK R key) R.c HF.out
      have e2 : plB R key = false := by unfold plB plO; rw [hp]; rfl
      have E1 := hid (show hasB R key = false by unfold hasB; rw [e2]; rfl)
      clear e2 hp
      go_wp2_with fail
      go_ret
      exact ⟨by rw [E1.out]; rfl, bw⟩
end Go.Proofs.YtcampjgemedhlaaDoor
