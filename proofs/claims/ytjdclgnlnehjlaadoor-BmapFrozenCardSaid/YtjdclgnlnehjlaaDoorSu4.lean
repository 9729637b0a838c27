/- A map's sum: its walk. -/
import Derived.Test.YtjdclgnlnehjlaaDoorMgSu3
namespace Go.Proofs.YtjdclgnlnehjlaaDoor
open Go Go.RowKit Sha
theorem not_dstB {ops : Array Oper} {rem : List Nat} {t : Tmp} (h : (rem.all fun j => dstOf ops j != some t) = true) : ∀ j ∈ rem, dstOf ops j ≠ some t := fun j hj => by
  have := List.all_eq_true.1 h j hj
  simpa using this
theorem undBL : Tryd.prog.underlying 79 = some (.slice 35) := by kernel_rfl
theorem oneBB : OneCell Tryd.prog 35 := oneCell_of (k := 24) (v := .slice none 0 0) (by kernel_rfl) (by omega) rfl
theorem zeSp : (Tryd.prog.info? 31).map (fun i => (i.zero, i.size)) = some (some (.agg (cellsOf (fun _ => Value.int .i64 0) 4)), 4) := by kernel_rfl
theorem szSp : (Tryd.prog.info? 31).map (·.size) = some 4 := by kernel_rfl
theorem row_ofS {T : TypeId} (h : (match Tryd.prog.underlying T with | some d => d.isRow | none => false) = true) : ∃ d, Tryd.prog.underlying T = some d ∧ d.isRow = true := by
  cases e : Tryd.prog.underlying T with
  | none => rw [e] at h; cases h
  | some d => rw [e] at h; exact ⟨d, rfl, h⟩
theorem rwSp : ∃ d, Tryd.prog.underlying 31 = some d ∧ d.isRow = true := row_ofS (by kernel_rfl)
theorem rwBE : ∃ d, Tryd.prog.underlying 82 = some d ∧ d.isRow = true := row_ofS (by kernel_rfl)
theorem undIt : Tryd.prog.underlying 3 = some (.int .i64) := by kernel_rfl
theorem undCp : ∃ e, Tryd.prog.underlying 74 = some (.pointer e) := by
  have h : (match Tryd.prog.underlying 74 with | some (.pointer _) => true | _ => false) = true := by kernel_rfl
  cases e : Tryd.prog.underlying 74 with
  | none => rw [e] at h; cases h
  | some d => cases d <;> first | exact ⟨_, rfl⟩ | (rw [e] at h; cases h)
theorem run_cvI8 {P : Program} {a : Act} {o : Oper} {x : Operand} {src dst : TypeId} {c : Nat} (ho : o.op = .convert src dst x) (hs : P.underlying src = some (.int .i64)) (hd : P.underlying dst = some (.int .u8)) (hx : a.eval x = .int .i64 (c : Int)) (hc : c < 256) (w : World) : (execOp a.eval o).run P w = .ok (.value (By (b8 c))) w := by
  rw [← by_nat c hc]
  have e : IntKind.u8.wrap (c : Int) = (c : Int) := by
    simp [IntKind.wrap, IntKind.signed, IntKind.bits]; omega
  unfold execOp
  simp only [ho, hx]
  simp [convert, Sem.run_bind, run_underlying hs, run_underlying hd, Conv.intToInt, e]
section
variable {ops : Array Oper} {rest : List Oper} {o : Oper} {a : Act} {w : World} {Q : Exit → Act → World → Prop}
theorem wpl_bsL1 (hgd : o.guard = none) (x : Operand) (ho : o.op = .buildSlice 79 1 #[(0, x)]) (q : Option Addr) (n c : Nat) (hx : a.eval x = .slice q n c) (N : Nat) (hN : Sz w N)
    (h : ∀ w1, Sz w1 (N + 1) → Below N w w1 → Has w1 N 35 1 (fun _ => .slice q n c) → wpList Tryd.prog ops Q rest (a.put o.dst (.slice (some ⟨N, 0, none⟩) 1 1)) w1) : wpList Tryd.prog ops Q (o :: rest) a w := by
  have e : w.heap.size = N := hN
  subst e
  refine wpl_run hgd (.slice (some ⟨w.heap.size, 0, none⟩) 1 1) (w.alloc (.cells #[.slice q n c] 35)) ?_ (h _ (sz_alloc rfl _) (below_new _ _ _ rfl) ?_)
  · clear h hN
    generalize a.eval = ev at *
    unfold execOp
    simp only [ho]
    go_simp
  · exact has_new rfl 35 1 (fun _ => .slice q n c)
theorem wpl_bsL2 (hgd : o.guard = none) (x y : Operand) (ho : o.op = .buildSlice 79 2 #[(0, x), (1, y)]) (q : Option Addr) (n c : Nat) (hx : a.eval x = .slice q n c) (q2 : Option Addr) (n2 c2 : Nat) (hy : a.eval y = .slice q2 n2 c2) (N : Nat) (hN : Sz w N)
    (h : ∀ w1, Sz w1 (N + 1) → Below N w w1 → Has w1 N 35 2 (fun j => if j = 0 then .slice q n c else .slice q2 n2 c2) → wpList Tryd.prog ops Q rest (a.put o.dst (.slice (some ⟨N, 0, none⟩) 2 2)) w1) : wpList Tryd.prog ops Q (o :: rest) a w := by
  have e : w.heap.size = N := hN
  subst e
  refine wpl_run hgd (.slice (some ⟨w.heap.size, 0, none⟩) 2 2) (w.alloc (.cells #[.slice q n c, .slice q2 n2 c2] 35)) ?_ (h _ (sz_alloc rfl _) (below_new _ _ _ rfl) ?_)
  · clear h hN
    generalize a.eval = ev at *
    unfold execOp
    simp only [ho]
    go_simp
  · exact has_new rfl 35 2 (fun j => if j = 0 then .slice q n c else .slice q2 n2 c2)
end
/-- What a map must be to have a sum: not too great. -/
structure SumOk (m : Mp) : Prop where
  ty : m.ty ≤ 5
  key : m.key ≤ 16
  v1 : 1 ≤ m.val
  v64 : m.val ≤ 64
  ent : m.ent ≤ 64
  n : m.n ≤ 64
  k : ∀ i, i < m.n → (m.E i).k.size ≤ 16
theorem joinL_le {S : Nat → Part} (n : Nat) (h : ∀ j, j < n → (S j).n ≤ 64) : joinL S n ≤ n * 72 := by
  induction n with
  | zero => exact Nat.zero_le _
  | succ n ih =>
    show joinL S n + 8 + (S n).n ≤ (n + 1) * 72
    have := ih (fun j hj => h j (by omega))
    have := h n (by omega)
    omega
theorem run_iaQ {P : Program} {a : Act} {o : Oper} {x y : Operand} {t e : TypeId} {g n c i s : Nat} {b : Option Addr} (ho : o.op = .indexAddr t x y) (hx : a.eval x = .slice b n c) (hb : b = some ⟨g, 0, none⟩) (hy : a.eval y = .int .i64 (i : Int)) (hu : P.underlying t = some (.slice e)) (hs : (P.info? e).map (·.size) = some s) (hi : i < n) (w : World) : (execOp a.eval o).run P w = .ok (.value (.pointer (some ⟨g, i * s, none⟩))) w := by
  subst hb
  cases hq : P.info? e with
  | none => rw [hq] at hs; cases hs
  | some u =>
    rw [hq] at hs
    have h1 : u.size = s := by simpa using hs
    have h2 : ¬ (n ≤ i) := by omega
    unfold execOp
    simp only [ho, hx, hy]
    simp [Instr.indexAt, Instr.sureAddr, asIntOf, Sem.run_bind, run_underlying hu, sizeOf, typeInfo, hq, h1, Addr.add, h2, hi]
    exact fun h => h.symm
theorem wpl_nilBB {P : Program} {ops : Array Oper} {Q : Exit → Act → World → Prop} {F : Act → World → Prop} {a : Act} {w : World} (h : F a w) : wpList P ops (behind Q F) [] a w := h
theorem cellL {w w' : World} {N b o : Nat} {v : Value} (hN : Sz w N) (h : w.cell? ⟨b, o, none⟩ = some v) (hb : Below N w w') : w'.cell? ⟨b, o, none⟩ = some v := by
  rw [hb.cell (p := ⟨b, o, none⟩) (by have := World.block_lt_of_cell? w _ h; have e : w.heap.size = N := hN; simp only at this ⊢; omega)]; exact h
set_option maxRecDepth 100000 in
set_option maxHeartbeats 16000000 in
theorem MSum_any (m : Mp) (hm : SumOk m) (w : World) (N : Nat) (hN : Sz w N) (hT : Tabs w) (hA : MpAt w m) :
    Calls Tryd.prog 11 #[.pointer (some ⟨m.b, 0, none⟩)] w fun e w' => ∃ E', Ordd m E' ∧ e = .returned (.agg (cellsOf (fun j => By (sumD m E' j)) 32)) ∧ Below N w w' := by
  have hTN := hT.ltN hN
  have hbN := hA.h.ltN hN
  obtain ⟨dS, s1, s2⟩ := rwSp
  obtain ⟨dE, e1, e2⟩ := rwBE
  have g0 : m.ty < 256 := by have := hm.ty; omega
  have g1 : m.key < 256 := by have := hm.key; omega
  have g2 : m.val < 256 := by have := hm.v64; omega
  have g3 : m.ent < 256 := by have := hm.ent; omega
  have hn64 := hm.n
  go_enter Tryd.func11, Tryd.ntmps11
  go_upto_region 5 with (first
    | ((with_reducible show wpList _ _ _ (_ :: _) _ _); first
      | (refine wpl_alloc rfl 40 rfl 32 _ zer23 N hN ?_; intro w1 hN1 b1 h1; try simp only [pA])
      | (refine wpl_load_part rfl 31 (.tmp 12) rfl m.b 0 rfl 59 6 (mpC m) (hA.below hN b1).h 4 (by omega) m.sp (fun j hj => by show mpC m (0 + j) = m.sp j; unfold mpC; rw [Nat.zero_add, if_pos hj]) _ s1 s2 szSp ?_; try simp only [pA])
      | (refine wpl_alloc rfl 31 rfl 4 _ zeSp (N + 1) hN1 ?_; intro w2 hN2 b2 h2; try simp only [pA])
      | (refine wpl_store rfl 31 (.tmp 3) (.tmp 13) rfl (N + 1) 4 m.sp rfl rfl 31 _ h2 szSp (fun j _ => by unfold Mp.sp; split; rfl; split; rfl; split <;> rfl) ?_; intro w3 t3 k3; have hN3 := t3.sz hN2; have lo3 := t3.below (b1.trans (b2.mono (by omega))) (by omega); have r3 := (h1.below b2 (by omega)).touch t3 (by omega); try simp only [pA])
      | (refine wpl_run rfl (.int .i64 (m.ty : Int)) _ (run_cell1 (b := N + 1) (j := 0) (x := .tmp 14) 3 rfl rfl undIt rfl (k3.cell (by omega))) ?_; try simp only [pA])
      | (refine wpl_run rfl (.int .i64 (m.key : Int)) _ (run_cell1 (b := N + 1) (j := 1) (x := .tmp 17) 3 rfl rfl undIt rfl (k3.cell (by omega))) ?_; try simp only [pA])
      | (refine wpl_run rfl (.int .i64 (m.val : Int)) _ (run_cell1 (b := N + 1) (j := 2) (x := .tmp 20) 3 rfl rfl undIt rfl (k3.cell (by omega))) ?_; try simp only [pA])
      | (refine wpl_run rfl (.int .i64 (m.ent : Int)) _ (run_cell1 (b := N + 1) (j := 3) (x := .tmp 23) 3 rfl rfl undIt rfl (k3.cell (by omega))) ?_; try simp only [pA])
      | (refine wpl_run rfl (By (b8 m.ty)) _ (run_cvI8 (x := .tmp 15) rfl undIt undBy rfl g0 _) ?_; try simp only [pA])
      | (refine wpl_run rfl (By (b8 m.key)) _ (run_cvI8 (x := .tmp 18) rfl undIt undBy rfl g1 _) ?_; try simp only [pA])
      | (refine wpl_run rfl (By (b8 m.val)) _ (run_cvI8 (x := .tmp 21) rfl undIt undBy rfl g2 _) ?_; try simp only [pA])
      | (refine wpl_run rfl (By (b8 m.ent)) _ (run_cvI8 (x := .tmp 24) rfl undIt undBy rfl g3 _) ?_; try simp only [pA])
      | (refine wpl_bs4 rfl (.tmp 16) (.tmp 19) (.tmp 22) (.tmp 25) rfl (b8 m.ty) (b8 m.key) (b8 m.val) (b8 m.ent) rfl rfl rfl rfl (N + 1 + 1) hN3 ?_; intro w4 hN4 b4 h4; try simp only [pA])
      | (refine wpl_bsL1 rfl (.tmp 26) rfl (some ⟨N + 1 + 1, 0, none⟩) 4 4 rfl (N + 1 + 1 + 1) hN4 ?_; intro w5 hN5 b5 h5; try simp only [pA]))
    | fail)
  have lo5 : Below N w w5 := lo3.trans ((b4.trans (b5.mono (by omega))).mono (by omega))
  have r5 := (r3.below b4 (by omega)).below b5 (by omega)
  have v5 : Bytes w5 (some ⟨N + 1 + 1, 0, none⟩) 4 (four (b8 m.ty) (b8 m.key) (b8 m.val) (b8 m.ent)) := fun _ => ⟨_, 0, rfl, fun j hj => by rw [Nat.zero_add]; exact (h4.below b5 (by omega)).cell hj⟩
  obtain ⟨M, eM⟩ : ∃ M, N + 1 + 1 + 1 + 1 = M := ⟨_, rfl⟩
  rw [eM] at hN5
  clear h1 h2 h4 k3 t3 b1 b2 b4 b5 lo3 r3 hN1 hN2 hN3 hN4
  have HO := inOrder_any m (by omega) w5 M hN5 (hA.below hN lo5)
  go_wp2_with (first
    | (go_at_call 34; refine HO.mono ?_; rintro e w6 ⟨rw0, rc0, E, rfl, o6, b6, hord⟩)
    | ((with_reducible show wpList _ _ _ (_ :: _) _ _); first
      | (refine wpl_run rfl (.int .i64 (m.n : Int)) _ (run_lenL (x := .tmp 29) rfl undBEs rfl _) ?_; try simp only [pA]))
    | fail)
  have hM5 : w5.heap.size = M := hN5
  have F0 : SumW w N m E rw0 rc0 0 (fun _ => ⟨some ⟨N + 1 + 1, 0, none⟩, 4, 4, four (b8 m.ty) (b8 m.key) (b8 m.val) (b8 m.ent)⟩) (some ⟨N + 1 + 1 + 1, 0, none⟩) 1 w6 := by
    refine ⟨lo5.trans (b6.mono (by omega)), r5.below b6 (by omega), ?_, fun j hj => ?_, o6, fun g hg => ?_⟩
    · have hh := h5.below b6 (by omega)
      exact .inr ⟨N + 1 + 1 + 1, _, rfl, hh.out, Nat.le_refl _, size_cellsOf _ _, fun j hj => by simp [cellsOf, hj]⟩
    · obtain rfl : j = 0 := by omega
      refine ⟨rfl, rfl, Nat.le_refl _, v5.below hN5 b6, N + 1 + 1, rfl, Nat.lt_of_lt_of_le (by omega) b6.size, fun e => ?_⟩
      simp [blk] at e
    · obtain rfl : N + 1 + 1 + 1 = g := by simpa [blk] using hg
      refine ⟨by omega, fun e => ?_⟩
      exact has_own (h5.below b6 (by omega)) o6 (by decide) _ e rfl
  clear o6 b6 r5 v5 lo5 h5 HO
  have hord := hid hord
  go_loopw [4, 31] (fun x4 x31 wr => ∃ (k : Nat) (S : Nat → Part) (p : Option Addr) (cap : Nat), x4 = .slice p (1 + 2 * k) cap ∧ x31 = .int .i64 (k : Int) ∧ k ≤ m.n ∧ SumW w N m E rw0 rc0 k S p cap wr) (fun _ x31 _ => m.n - (intOf x31).toNat)
  case atStart => exact ⟨0, _, _, 1, rfl, rfl, by omega, F0⟩
  case round =>
    clear F0
    obtain ⟨k, S, p, cap, rfl, rfl, hk, F⟩ := hrel
    obtain ⟨M1, hM1⟩ := sz_some wr
    have lM1 : N ≤ M1 := by have := F.res.ltN hM1; omega
    by_cases h1 : k < m.n
    · have E32 := hid (show decide ((k : Int) < (m.n : Int)) = true from decide_eq_true (by omega))
      obtain ⟨i0, hi0, ei0⟩ := hord.out.mem k h1
      obtain ⟨g0, eg0, hc0⟩ := F.row.cell (by omega)
      have EG := hid eg0
      have hkn := hid h1
      obtain ⟨x, ex⟩ : ∃ x, E k = x := ⟨_, rfl⟩
      have EX := hid ex
      have hcell : ∀ i, i < 2 → wr.cell? ⟨g0, k * 2 + i, none⟩ = some (me1 x i) := fun i hi => by
        have h := hc0 (k * 2 + i) (by omega)
        rw [Nat.zero_add, meC_at _ _ _ hi, ex] at h
        exact h
      have HCE := hid hcell
      have hAr := hA.below hN F.lo
      have hxc := hAr.c i0 hi0
      have hxv := hAr.v i0 hi0
      rw [← ei0, ex] at hxc hxv
      have hxk : x.k.size ≤ 16 := by rw [← ex, ei0]; exact hm.k i0 hi0
      have hv1 := hm.v1
      have hv64 := hm.v64
      clear hc0 eg0 ex ei0 hcell
      go_upto_region 8 with (first
        | ((with_reducible show wpList _ _ _ (_ :: _) _ _); first
          | (refine wpl_run rfl (.bool true) _ (run_lssK (x := .tmp 31) rfl rfl rfl E32.out _) ?_; try simp only [pA])
          | (refine wpl_run rfl (.pointer (some ⟨g0, k * 2, none⟩)) _ (run_iaQ (x := .tmp 29) (y := .tmp 31) rfl rfl EG.out rfl undBEs szBE hkn.out _) ?_; try simp only [pA])
          | (refine wpl_load_cells rfl 82 (.tmp 33) rfl g0 (k * 2) rfl 2 (me1 x) HCE.out _ e1 e2 szBE ?_; try simp only [pA])
          | (refine wpl_alloc rfl 82 rfl 2 me0 zBE M1 hM1 ?_; intro w2 hM2 b2 k2; try simp only [pA])
          | (refine wpl_store rfl 82 (.tmp 6) (.tmp 34) rfl M1 2 (me1 x) rfl rfl 82 _ k2 szBE (fun j _ => me1_one x j) ?_; intro w3 t3 k3; have hM3 := t3.sz hM2; have lb3 := t3.below b2 (by omega); try simp only [pA]))
        | fail)
      have F3 := F.below hM1 lb3
      clear k2 b2 t3 hM2 hAr
      have hxc3 := hxc.below lb3 (hxc.ltN hM1)
      have hxv3 := hxv.below lb3 (hxv.ltN hM1)
      clear hxc hxv F lb3 hM1
      refine wp_region_any (by kernel_rfl) ?_
      have F3d := F3.below hM3 (Below.refl _ _).drew
      have k3d : Has w3.drew M1 82 2 (me1 x) := k3
      have hM3d : Sz w3.drew (M1 + 1) := hM3
      have xc3 : Has w3.drew x.c 78 1 (fun _ => .slice (some ⟨x.b, 0, none⟩) m.val m.val) := hxc3
      have xv3 : Has w3.drew x.b 5 m.val (fun j => By (x.v j)) := hxv3
      change wpAny _ _ _ _ _ _ _ (World.drew _)
      clear F3 k3 hM3 hxc3 hxv3
      generalize w3.drew = w9 at *
      have c0 : w9.cell? ⟨M1, 0, none⟩ = some (.string x.k) := k3d.cell (j := 0) (by omega)
      have c1 : w9.cell? ⟨M1, 1, none⟩ = some (.pointer (some ⟨x.c, 0, none⟩)) := k3d.cell (j := 1) (by omega)
      obtain ⟨eCp, hCp⟩ := undCp
      refine wpAny_pot (rem := [0, 1, 2, 3, 4, 5, 6, 7, 8]) (FB 35 (M1 + 1) (fun j => if j = 0 then some (.slice p (1 + 2 * k) cap) else if j = 1 then some (.pointer (some ⟨M1, 0, none⟩)) else if j = 2 then some (.string x.k) else if j = 3 then none else if j = 4 then some (.pointer (some ⟨m.b, 0, none⟩)) else if j = 5 then some (.pointer (some ⟨M1, 1, none⟩)) else if j = 6 then some (.pointer (some ⟨x.c, 0, none⟩)) else none) (fun j => if j = 3 then x.k.size else m.val) (fun j => if j = 3 then byD x.k else x.v)) NoBB (Below (M1 + 1) w9) _ _ _ _ (by kernel_rfl) (size_dstG (by kernel_rfl)) (Below.refl _ _) ?_ ?_
      · intro i hi ax wa hI ha hv
        simp only [List.mem_cons, List.not_mem_nil, or_false] at hi
        rcases hi with rfl | rfl | rfl | rfl | rfl | rfl | rfl | rfl | rfl
        · have h : ax.tmps.getD 4 undef = .slice p (1 + 2 * k) cap := ha 4 (not_dstB (by kernel_rfl))
          exact pob_run rfl rfl _ rfl (by clear hv ha; go_simp) hM3d hI
        · have h : ax.tmps.getD 6 undef = .pointer (some ⟨M1, 0, none⟩) := ha 6 (not_dstB (by kernel_rfl))
          exact pob_run rfl rfl _ rfl (by clear hv ha; go_simp) hM3d hI
        · obtain ⟨v, hv1, hv2⟩ := hv 1 (by simp) (by kernel_rfl)
          have e := hv2.val rfl
          subst e
          have h := hv1 36 (by rfl)
          exact pob_run rfl rfl _ rfl (run_cell1 (x := .tmp 36) 9 rfl h undBS rfl (cellL hM3d c0 hI)) hM3d hI
        · obtain ⟨v, hv1, hv2⟩ := hv 2 (by simp) (by kernel_rfl)
          have e := hv2.val rfl
          subst e
          have h := hv1 37 (by rfl)
          exact pob_conv (x := .tmp 37) rfl rfl rfl undBS undBB undBy x.k h rfl rfl (by decide) rfl hM3d hI
        · have h : ax.tmps.getD 0 undef = .pointer (some ⟨m.b, 0, none⟩) := ha 0 (not_dstB (by kernel_rfl))
          exact pob_run rfl rfl _ rfl (by clear hv ha; go_simp) hM3d hI
        · have h : ax.tmps.getD 6 undef = .pointer (some ⟨M1, 0, none⟩) := ha 6 (not_dstB (by kernel_rfl))
          exact pob_run rfl rfl _ rfl (by clear hv ha; go_simp) hM3d hI
        · obtain ⟨v, hv1, hv2⟩ := hv 5 (by simp) (by kernel_rfl)
          have e := hv2.val rfl
          subst e
          have h := hv1 40 (by rfl)
          exact pob_run rfl rfl _ rfl (run_cell1 (x := .tmp 40) 74 rfl h hCp rfl (cellL hM3d c1 hI)) hM3d hI
        · obtain ⟨v, hv1, hv2⟩ := hv 4 (by simp) (by kernel_rfl)
          have e := hv2.val rfl
          subst e
          obtain ⟨v', hv3, hv4⟩ := hv 6 (by simp) (by kernel_rfl)
          have e' := hv4.val rfl
          subst e'
          have h := hv1 39 (by rfl)
          have h' := hv3 41 (by rfl)
          refine pob_call rfl rfl 35 _ _ rfl #[.pointer (some ⟨m.b, 0, none⟩), .pointer (some ⟨x.c, 0, none⟩)] (by simp only [List.map_toArray, List.map_cons, List.map_nil]; show #[ax.tmps.getD 39 undef, ax.tmps.getD 41 undef] = _; rw [h, h']) (by kernel_rfl) m.val (fun K hK => ?_) (Nat.le_refl _) (by decide) rfl hM3d hI
          have lK := below_sz hI hM3d hK
          refine (value_any m x.c x.b x.v hm.v1 hm.v64 wa K hK (hA.below hN (F3d.lo.trans (hI.mono (by omega)))) (xc3.below hI (xc3.ltN hM3d)) (xv3.below hI (xv3.ltN hM3d))).mono ?_
          rintro e w' ⟨rfl, h1, h2, h3⟩
          exact ⟨rfl, h1, h2, fun _ => ⟨K, 0, rfl, fun j hj => by rw [Nat.zero_add]; exact h3.cell hj⟩⟩
        · obtain ⟨v, hv1, hv2⟩ := hv 3 (by simp) (by kernel_rfl)
          obtain ⟨v', hv3, hv4⟩ := hv 7 (by simp) (by kernel_rfl)
          have h := hv1 38 (by rfl)
          have h' := hv3 42 (by rfl)
          have r3 := hv2.row rfl (by decide)
          have r7 := hv4.row rfl (by decide)
          refine pob_two rfl (fun K' K hK hh => ?_) r3 r7 rfl hM3d hI
          obtain ⟨b3, c3, ev3, _⟩ := r3
          obtain ⟨b7, c7, ev7, _⟩ := r7
          refine op_listB rfl (wpl_bsL2 rfl (.tmp 38) (.tmp 42) rfl (some ⟨b3, 0, none⟩) _ c3 (h.trans ev3) (some ⟨b7, 0, none⟩) _ c7 (h'.trans ev7) K hK (fun w1 q1 q2 q3 => ?_))
          rw [ev3, ev7] at hh
          exact wpl_nilBB (hh w1 q1 q2 q3)
      intro vals w10 hI hF hG
      have e0 := (hF 0 (by simp)).val rfl
      obtain ⟨b3', cp3', e3, _⟩ := (hF 3 (by simp)).row rfl (by decide)
      obtain ⟨b7', cp7', e7, _⟩ := (hF 7 (by simp)).row rfl (by decide)
      obtain ⟨b8, b3, cp3, b7, cp7, e8, k8, ⟨lb3, hcp3, hlt3, hy3⟩, ⟨lb7, hcp7, hlt7, hy7⟩⟩ := (hF 8 (by simp)).two rfl
      have e1 := (hF 1 (by simp)).val rfl
      have e2 := (hF 2 (by simp)).val rfl
      have e4 := (hF 4 (by simp)).val rfl
      have e5 := (hF 5 (by simp)).val rfl
      have e6 := (hF 6 (by simp)).val rfl
      clear hF hG
      simp only [List.foldl_cons, List.foldl_nil, dstOf, List.getElem?_toArray, List.getElem?_cons_succ, List.getElem?_cons_zero, Option.bind_some, Act.put, List.setIfInBounds_toArray, List.set_cons_succ, List.set_cons_zero, e0, e1, e2, e3, e4, e5, e6, e7, e8]
      clear e0 e1 e2 e3 e4 e5 e6 e7 e8
      have F10 := F3d.below hM3d hI
      obtain ⟨M10, hM10⟩ := sz_some w10
      have l10 := below_sz hI hM3d hM10
      have hlt3' : b3 < M10 := by have e : w10.heap.size = M10 := hM10; omega
      have hlt7' : b7 < M10 := by have e : w10.heap.size = M10 := hM10; omega
      replace hcp3 : x.k.size ≤ cp3 := hcp3
      replace hcp7 : m.val ≤ cp7 := hcp7
      replace hy3 : Bytes w10 (some ⟨b3, 0, none⟩) x.k.size (byD x.k) := hy3
      replace hy7 : Bytes w10 (some ⟨b7, 0, none⟩) m.val x.v := hy7
      have sp : ∀ b, M1 + 1 ≤ b → blk p ≠ some b := fun b hb e => by
        have := F3d.own.lt b e
        have e9 : w9.heap.size = M1 + 1 := hM3d
        omega
      have n3 := sp b3 lb3
      have n7 := sp b7 lb7
      clear F3d k3d xc3 xv3 c0 c1 hI hM3d hlt3 hlt7 sp
      refine wpAny_chain [9, 10] _ _ _ _ (by kernel_rfl) (by decide) ?_
      simp only [List.filterMap_cons, List.filterMap_nil, List.getElem?_toArray, List.getElem?_cons_succ, List.getElem?_cons_zero]
      replace k8 : Has w10 b8 35 2 (fun i => if i = 0 then .slice (some ⟨b3, 0, none⟩) x.k.size cp3 else .slice (some ⟨b7, 0, none⟩) m.val cp7) := k8
      refine wpl_app rfl (.tmp 35) (.tmp 43) 79 rfl 35 undBL oneBB p (1 + 2 * k) cap rfl (fun j => .slice (S j).q (S j).n (S j).cap) F10.own (some ⟨b8, 0, none⟩) 2 2 rfl (fun j => if j = 0 then .slice (some ⟨b3, 0, none⟩) x.k.size cp3 else .slice (some ⟨b7, 0, none⟩) m.val cp7) k8.cells (fun j _ => by split <;> rfl) (by omega) ?_
      intro p2 cap2 w12 o12 g12 ee12 nn12
      try simp only [pA]
      have hs10 : w10.heap.size = M10 := hM10
      have F12 := F10.push (b1 := b3) (c1 := cp3) (b2 := b7) (c2 := cp7) (by rw [EX.out]; exact o12) g12 ee12 (by rw [EX.out]; exact hcp3) (by rw [EX.out]; exact hy3) (by omega) n3 hcp7 (by rw [EX.out]; exact hy7) (by omega) n7
      clear F10 o12 g12 ee12 nn12 k8
      go_wp2_with (first
        | ((with_reducible show wpList _ _ _ (_ :: _) _ _); first
          | (refine wpl_run rfl (.int .i64 ((k + 1 : Nat) : Int)) _ (run_inc (x := .tmp 31) rfl rfl rfl rfl (by omega) _) ?_; try simp only [pA]))
        | fail)
      exact ⟨⟨k + 1, _, p2, cap2, rfl, rfl, by omega, F12⟩, by simp [intOf]; omega⟩
    · obtain rfl : k = m.n := by omega
      have E32 := hid (show decide ((m.n : Int) < (m.n : Int)) = false from decide_eq_false (by omega))
      have hL : joinL S (1 + 2 * m.n) ≤ 900000 := by
        have := joinL_le (S := S) (1 + 2 * m.n) (fun j hj => by
          rw [(F.pt j hj).1]
          unfold ptN
          split
          · omega
          · split
            · obtain ⟨i0, hi0, ei0⟩ := hord.out.mem ((j - 1) / 2) (by omega)
              rw [ei0]; have := hm.k i0 hi0; omega
            · exact hm.v64)
        omega
      have hP : Parts wr p (1 + 2 * m.n) S := fun h0 => by
        obtain ⟨g, e, hc⟩ := F.own.cell h0
        exact ⟨g, 0, e, fun j hj => ⟨hc j hj, (F.pt j hj).2.2.1, (F.pt j hj).2.2.2.1⟩⟩
      have eD : joinD S (1 + 2 * m.n) = sumD m E := joinD_congr _ (fun j hj => ⟨(F.pt j hj).1, fun i _ => by rw [(F.pt j hj).2.1]; rfl⟩)
      have HJ := JoinedDg_any p (1 + 2 * m.n) cap S wr M1 hM1 (hT.below F.lo hTN) hL hP
      rw [eD] at HJ
      clear hL hP eD h1 hk
      go_wp2_with (first
        | (go_at_call 36; refine HJ.mono ?_; rintro e w7 ⟨rfl, b7⟩; have r7 := F.res.below b7 (by have := F.res.ltN hM1; omega); have lo7 := F.lo.trans (b7.mono lM1))
        | ((with_reducible show wpList _ _ _ (_ :: _) _ _); first
          | (refine wpl_run rfl (.bool false) _ (run_lssK (x := .tmp 31) rfl rfl rfl E32.out _) ?_; try simp only [pA])
          | (refine wpl_store rfl 40 (.tmp 2) (.tmp 47) rfl N 32 _ rfl rfl 40 _ r7 inf23 (fun _ _ => rfl) ?_; intro w8 t8 k8; try simp only [pA]))
        | fail)
      exact post_cell Tryd.results11 N rfl k8 _ und23 rfl inf23 rfl ⟨E, hord.out, rfl, t8.below lo7 (Nat.le_refl N)⟩
end Go.Proofs.YtjdclgnlnehjlaaDoor
