/- BmapFrozen: the program's map and the document's beside each other; each call of either. BmapFrozen: the law's do: words. BmapFrozen: the law's do, way 0. -/
import Derived.Test.YtjdclgnlnehjlaaDoorFx7
import Derived.Laws.BitsAllLaws
namespace Go.Proofs.YtjdclgnlnehjlaaDoor
open Go Go.RowKit
/-- Both maps, m out of m0, r out of r0; only what P tells of has turned. -/
structure Two (P : Nat → Prop) (wa : World) (m0 : Mp) (r0 : Rm) (w : World) (m : Mp) (r : Rm) : Prop where
  A : MpAt w m
  I : FInv m
  R : RmAt w r
  fm : ∀ x, Foot m x → P x
  fr : ∀ x, RFoot r x → P x
  t : Turn P wa w
  sm : m.b = m0.b
  sr : r.b = r0.b ∧ r.ty = r0.ty ∧ r.key = r0.key ∧ r.val = r0.val ∧ r.ent = r0.ent
section
variable {P : Nat → Prop} {wa w w' : World} {m0 m m' : Mp} {r0 r r' : Rm} {M : Nat}
theorem Two.below (h : Two P wa m0 r0 w m r) (hM : Sz w M) (hb : Below M w w') : Two P wa m0 r0 w' m r :=
  ⟨h.A.below hM hb, h.I, h.R.below hM hb, h.fm, h.fr, h.t.trans (turn_below hM hb (fun _ => False)) (fun _ h _ => h.elim), h.sm, h.sr⟩
theorem Two.nx (h : Two P wa m0 r0 w m r) (hM : Sz w M) (U : ∀ x, M ≤ x → P x) (k : Nx m w M w' m') : Two P wa m0 r0 w' m' r :=
  ⟨k.at_, k.inv, h.R.turn k.turn (fun x hx => foots h.A h.R x hx), fun x hx => (k.ft x hx).elim (h.fm x) (U x), h.fr, h.t.trans k.turn (fun j hj _ => h.fm j hj), k.sm.1.trans h.sm, h.sr⟩
theorem Two.rnx (h : Two P wa m0 r0 w m r) (hM : Sz w M) (U : ∀ x, M ≤ x → P x) (k : RNx r w M w' r') : Two P wa m0 r0 w' m r' :=
  ⟨h.A.turn k.turn (fun x hx hr => foots h.A h.R x hr hx), h.I, k.at_, h.fm, fun x hx => (k.ft x hx).elim (h.fr x) (U x), h.t.trans k.turn (fun j hj _ => h.fr j hj), h.sm,
    ⟨k.sm.1.trans h.sr.1, k.sm.2.1.trans h.sr.2.1, k.sm.2.2.1.trans h.sr.2.2.1, k.sm.2.2.2.1.trans h.sr.2.2.2.1, k.sm.2.2.2.2.trans h.sr.2.2.2.2⟩⟩
theorem Two.up (h : Two P wa m0 r0 w m r) (hM : Sz w M) (U : ∀ x, M ≤ x → P x) {M' : Nat} (hM' : Sz w' M') (h' : Two P wa m0 r0 w' m' r') (hl : M ≤ M') : ∀ x, M' ≤ x → P x := fun x hx => U x (by omega)
/-- A frozen one stays as it is. -/
theorem nx_same (hI : FInv m) (hA : MpAt w m) (N : Nat) (hN : Sz w N) : Nx m w N w m := Nx.stay hN hA hI (Below.refl N w)
theorem Upd_all (hI : FInv m) (D : Nat → BitVec 8) (n : Nat) (q : Option Addr) (c : Nat) (x : Option Addr) (nx cx : Nat) (X : Nat → BitVec 8) (f : Int) (hf0 : 0 ≤ f) (N : Nat) (hN : Sz w N) (hA : MpAt w m) (hq : Ats w q n (fun j => By (D j))) (hx : Ats w x nx (fun j => By (X j))) (hxF : ∀ g, blk x = some g → ¬ Foot m g) :
    Calls Tryd.prog 19 #[.pointer (some ⟨m.b, 0, none⟩), .slice q n c, .slice x nx cx, .int .u64 f] w (ErrNx m w N) := by
  cases hfz : m.fz with
  | true => exact (Upd_frozen m hfz _ _ _ w hA).mono fun e w' ⟨he, hw⟩ => ⟨1, m, he, hw ▸ nx_same hI hA N hN⟩
  | false => exact Upd_any m hI hfz D n q c x nx cx X f hf0 w N hN hA hq hx hxF
theorem Del_all (hI : FInv m) (D : Nat → BitVec 8) (n : Nat) (q : Option Addr) (c : Nat) (N : Nat) (hN : Sz w N) (hA : MpAt w m) (hq : Ats w q n (fun j => By (D j))) :
    Calls Tryd.prog 20 #[.pointer (some ⟨m.b, 0, none⟩), .slice q n c] w (ErrNx m w N) := by
  cases hfz : m.fz with
  | true => exact (Del_frozen m hfz w hA _).mono fun e w' ⟨he, hw⟩ => ⟨1, m, he, hw ▸ nx_same hI hA N hN⟩
  | false => exact Del_any m hI hfz D n q c w N hN hA hq
theorem Push_all (hI : FInv m) (x : Option Addr) (nx cx : Nat) (X : Nat → BitVec 8) (f : Int) (N : Nat) (hN : Sz w N) (hA : MpAt w m) (hx : Ats w x nx (fun j => By (X j))) :
    Calls Tryd.prog 21 #[.pointer (some ⟨m.b, 0, none⟩), .slice x nx cx, .int .u64 f] w (ErrNx m w N) := by
  cases hfz : m.fz with
  | true => exact (Push_frozen m hfz w hA _ _).mono fun e w' ⟨he, hw⟩ => ⟨1, m, he, hw ▸ nx_same hI hA N hN⟩
  | false => exact Push_any m hI hfz x nx cx X f w N hN hA hx
theorem Pop_all (hI : FInv m) (N : Nat) (hN : Sz w N) (hA : MpAt w m) : Calls Tryd.prog 18 #[.pointer (some ⟨m.b, 0, none⟩)] w (PopN m w N) := by
  cases hfz : m.fz with
  | true => exact (Pop_frozen m hfz w hA).mono fun e w' ⟨he, hw⟩ => ⟨.inl ⟨1, by decide, he⟩, m, hw ▸ nx_same hI hA N hN⟩
  | false => exact Pop_any m hI hfz w N hN hA
/-- Freeze of any map: then it is frozen. -/
theorem Frz_all (hI : FInv m) (N : Nat) (hN : Sz w N) (hA : MpAt w m) : Calls Tryd.prog 12 #[.pointer (some ⟨m.b, 0, none⟩)] w fun e w' => ∃ (z : Int) (m' : Mp), e = .returned (.int .i64 z) ∧ m'.fz = true ∧ sumF m' = sumF m ∧ m'.b = m.b ∧ MpAt w' m' ∧ FInv m' ∧ Turn (Foot m) w w' ∧ (∀ x, Foot m' x → Foot m x) := by
  cases hfz : m.fz with
  | true => exact (Freeze_frozen m hfz w hA).mono fun e w' ⟨he, hw⟩ => ⟨16, m, he, hfz, rfl, rfl, hw ▸ hA, hI, hw ▸ Turn.refl _ _, fun _ h => h⟩
  | false => exact (Freeze_any m hI hfz w N hA).mono fun e w' ⟨he, A, I, t⟩ => ⟨0, m.frz, he, rfl, rfl, rfl, A, I, t, fun _ h => h⟩
theorem Two.frz (h : Two P wa m0 r0 w m r) (hb : m'.b = m.b) (A : MpAt w' m') (I : FInv m') (t : Turn (Foot m) w w') (f : ∀ x, Foot m' x → Foot m x) : Two P wa m0 r0 w' m' r :=
  ⟨A, I, h.R.turn t (fun x hx => foots h.A h.R x hx), fun x hx => h.fm x (f x hx), h.fr, h.t.trans t (fun j hj _ => h.fm j hj), hb.trans h.sm, h.sr⟩
/-- The document's map is frozen. -/
def Rm.fzd (r : Rm) : Rm := { r with fz := true }
theorem RNx.fzd (hM : Sz w M) (h : RmAt w r) (t : Touch r.b w w') (k : Has w' r.b 64 6 (upd (rmC r) 5 (.bool true))) : RNx r w M w' r.fzd :=
  ⟨⟨rfl, rfl, rfl, rfl, rfl⟩, ⟨k.congr (fun j hj => by
      unfold upd
      show _ = rmC r.fzd j
      unfold rmC
      rcases (show j = 0 ∨ j = 1 ∨ j = 2 ∨ j = 3 ∨ j = 4 ∨ j = 5 by omega) with rfl | rfl | rfl | rfl | rfl | rfl <;> rfl), h.e.touch t (fun g hg e => has_own h.h h.e (by decide) g hg e.symm), h.k, h.n, h.sm⟩,
    t.turn.mono (fun j hj => .inl hj), fun x hx => .inl hx⟩
/-- What the law's do leaves. -/
def DoR (P : Nat → Prop) (wa : World) (m0 : Mp) (r0 : Rm) (e : Ending) (w' : World) : Prop := ∃ (b : Bool) (m' : Mp) (r' : Rm), e = .returned (.bool b) ∧ Two P wa m0 r0 w' m' r'
end
section
variable {ops : Array Oper} {rest : List Oper} {o : Oper} {a : Act} {w : World} {Q : Exit → Act → World → Prop}
theorem run_ldS (x : Operand) (ho : o.op = .load 23 x) {b : Nat} (hx : a.eval x = .pointer (some ⟨b, 0, none⟩)) {r : Rm} (hh : Has w b 64 6 (rmC r)) : (execOp a.eval o).run Tryd.prog w = .ok (.value (.agg (cellsOf (sp4 (r.ty : Int) (r.key : Int) (r.val : Int) (r.ent : Int)) 4))) w := by
  obtain ⟨d, hu, hd⟩ := rwSpR
  have hrun := run_load_part (P := Tryd.prog) hh 0 4 (by omega) 23 d hu hd szSpR
  rw [cellsOf_congr (g := sp4 (r.ty : Int) (r.key : Int) (r.val : Int) (r.ent : Int)) (fun j hj => by
    rcases (show j = 0 ∨ j = 1 ∨ j = 2 ∨ j = 3 by omega) with rfl | rfl | rfl | rfl <;> rfl)] at hrun
  unfold execOp
  simp only [ho, hx, Sem.run_bind, hrun, Result.andThen_ok, Sem.run_pure]
theorem run_cvO {P : Program} {src dst : TypeId} {x : Operand} {u v : Value} (ho : o.op = .convert src dst x) (hx : a.eval x = u) (hrun : (convert src dst u).run P w = .ok v w) : (execOp a.eval o).run P w = .ok (.value v) w := by
  unfold execOp
  simp only [ho, hx, Sem.run_bind, hrun, Result.andThen_ok, Sem.run_pure]
theorem u64_pos (n : Int) : 0 ≤ IntKind.u64.wrap n := by
  rw [IntKind.wrap_u64]; omega
theorem wpl_remQ (hgd : o.guard = none) (x y : Operand) (ho : o.op = .binOp .rem 36 x y 36) (u : Int) (m : Nat) (hx : a.eval x = .int .u64 u) (hy : a.eval y = .int .u64 (m : Int)) (hu : 0 ≤ u) (h0 : 0 < m) (hm : m < 1000000)
    (h : ∀ c : Nat, c < m → Hid ((c : Int) = u % (m : Int)) → wpList Tryd.prog ops Q rest (a.put o.dst (.int .u64 (c : Int))) w) : wpList Tryd.prog ops Q (o :: rest) a w := by
  have e1 : u.tmod (m : Int) = u % (m : Int) := Int.tmod_eq_emod_of_nonneg hu
  have e2 := Int.emod_nonneg u (b := (m : Int)) (by omega)
  have e3 := Int.emod_lt_of_pos u (b := (m : Int)) (by omega)
  obtain ⟨c, hc⟩ : ∃ c : Nat, (c : Int) = u % (m : Int) := ⟨(u % (m : Int)).toNat, by omega⟩
  refine wpl_run hgd (.int .u64 (c : Int)) w ?_ (h c (by omega) (hid hc))
  have e4 : u.tmod (m : Int) = (c : Int) := by omega
  have c0 : (c : Int) < 18446744073709551616 := by omega
  clear h e1 e2 e3 hc
  generalize a.eval = ev at *
  unfold execOp
  simp only [ho]
  go_simp
  omega
theorem run_cvU {P : Program} {src dst : TypeId} {x : Operand} {z : Int} (ho : o.op = .convert src dst x) (hs : P.underlying src = some (.int .i64)) (hd : P.underlying dst = some (.int .u64)) (hx : a.eval x = .int .i64 z) : (execOp a.eval o).run P w = .ok (.value (.int .u64 (IntKind.u64.wrap z))) w := by
  unfold execOp
  simp only [ho, hx]
  go_simp
theorem run_cvI {P : Program} {src dst : TypeId} {x : Operand} {c : Nat} (ho : o.op = .convert src dst x) (hs : P.underlying src = some (.int .u64)) (hd : P.underlying dst = some (.int .i64)) (hx : a.eval x = .int .u64 (c : Int)) (hc : c < 1000000) : (execOp a.eval o).run P w = .ok (.value (.int .i64 (c : Int))) w := by
  have e : IntKind.i64.wrap (c : Int) = (c : Int) := by rw [IntKind.wrap_i64]; omega
  have e2 : (execOp a.eval o).run P w = .ok (.value (.int .i64 (IntKind.i64.wrap (c : Int)))) w := by
    unfold execOp
    simp only [ho, hx]
    go_simp
  rw [e2, e]
end
end Go.Proofs.YtjdclgnlnehjlaaDoor
namespace Go.Proofs.YtjdclgnlnehjlaaDoor
open Go Go.RowKit
theorem rwAct : ∃ d, Tryd.prog.underlying 38 = some d ∧ d.isRow = true := row_ofS (by kernel_rfl)
theorem szAct : (Tryd.prog.info? 38).map (·.size) = some 5 := by kernel_rfl
theorem undU64t : Tryd.prog.underlying 36 = some (.int .u64) := by kernel_rfl
theorem undBo : Tryd.prog.underlying 4 = some .bool := by kernel_rfl
theorem szBo : (Tryd.prog.info? 4).map (·.size) = some 1 := by kernel_rfl
theorem tl_inj {s t : ByteArray} (h : s.toList = t.toList) : s = t := by
  rw [ByteArray.toList_eq, ByteArray.toList_eq] at h
  exact ByteArray.ext (Array.ext' h)
theorem run_neT {P : Program} {a : Act} {o : Oper} {T ty : TypeId} {x y : Operand} {p q : ByteArray} {r : Bool} (ho : o.op = .binOp .neq T x y ty) (hx : a.eval x = .string p) (hy : a.eval y = .string q) (h : (!(p.toList == q.toList)) = r) (w : World) : (execOp a.eval o).run P w = .ok (.value (.bool r)) w := by
  subst h; unfold execOp; simp only [ho, hx, hy]; go_simp
theorem xor_one8 (x : BitVec 8) : bits .xor .u8 (v8 x) 1 = v8 (x ^^^ 1#8) := by
  unfold v8; rw [BitVec.toNat_xor]; exact u8_xor_nat _ 1 x.isLt (by omega)
theorem run_xor1 {P : Program} {a : Act} {o : Oper} {T ty : TypeId} {x y : Operand} {d : BitVec 8} (ho : o.op = .binOp .xor T x y ty) (hx : a.eval x = By d) (hy : a.eval y = .int .u8 1) (w : World) : (execOp a.eval o).run P w = .ok (.value (By (d ^^^ 1#8))) w := by
  have e2 : (execOp a.eval o).run P w = .ok (.value (.int .u8 (bits .xor .u8 (v8 d) 1))) w := by
    unfold By at hx
    unfold execOp; simp only [ho, hx, hy]; go_simp
  rw [e2, xor_one8]; rfl
theorem Two.le {P : Nat → Prop} {wa w : World} {m0 m : Mp} {r0 r : Rm} {K M : Nat} (h : Two P wa m0 r0 w m r) (hK : Sz wa K) (hM : Sz w M) : K ≤ M := by
  have := h.t.size
  have e1 : wa.heap.size = K := hK
  have e2 : w.heap.size = M := hM
  omega
/-- What may turn in one call of do: both maps' blocks, and new ones but the act's own. -/
def P1 (m : Mp) (r : Rm) (N : Nat) : Nat → Prop := fun x => Foot m x ∨ RFoot r x ∨ N + 1 ≤ x
section
variable {P : Nat → Prop} {wa w w1 w9 : World} {m0 m m9 : Mp} {r0 r r9 : Rm} {N : Nat}
theorem Two.notP (h : Two P wa m0 r0 w m r) (hN : Sz w N) : ¬ P1 m r N N := by
  rintro (h1 | h1 | h1)
  · have := h.A.lt hN N h1; omega
  · have := h.R.lt hN N h1; omega
  · omega
theorem Two.start (h : Two P wa m0 r0 w m r) (hN : Sz w N) (hb : Below N w w1) : Two (P1 m r N) w1 m r w1 m r :=
  ⟨h.A.below hN hb, h.I, h.R.below hN hb, fun _ hx => .inl hx, fun _ hx => .inr (.inl hx), Turn.refl _ _, rfl, ⟨rfl, rfl, rfl, rfl, rfl⟩⟩
theorem Two.join (h : Two P wa m0 r0 w m r) (hN : Sz w N) (hb : Below N w w1) (U : ∀ x, N ≤ x → P x) (k : Two (P1 m r N) w1 m r w9 m9 r9) : Two P wa m0 r0 w9 m9 r9 := by
  have hP : ∀ x, P1 m r N x → P x := fun x hx => by
    rcases hx with h1 | h1 | h1
    · exact h.fm x h1
    · exact h.fr x h1
    · exact U x (by omega)
  exact ⟨k.A, k.I, k.R, fun x hx => hP x (k.fm x hx), fun x hx => hP x (k.fr x hx), (h.t.trans (turn_below hN hb (fun _ => False)) (fun _ h _ => h.elim)).trans k.t (fun j hj _ => hP j hj), k.sm.trans h.sm,
    ⟨k.sr.1.trans h.sr.1, k.sr.2.1.trans h.sr.2.1, k.sr.2.2.1.trans h.sr.2.2.1, k.sr.2.2.2.1.trans h.sr.2.2.2.1, k.sr.2.2.2.2.trans h.sr.2.2.2.2⟩⟩
end
end Go.Proofs.YtjdclgnlnehjlaaDoor
namespace Go.Proofs.YtjdclgnlnehjlaaDoor
open Go Go.RowKit
set_option maxRecDepth 100000 in
set_option maxHeartbeats 16000000 in
theorem do_0 (what : Int) (hw : IntKind.u64.wrap what % 9 = 0) (kq : Option Addr) (kn kc : Nat) (vq : Option Addr) (vn vc : Nat) (fl : Int) (raw : Bool) (hkc : kn ≤ kc) (hvc : vn ≤ vc) (hfl : 0 ≤ fl) (KD0 VD0 : Nat → BitVec 8) (P : Nat → Prop) (wa : World) (m0 m : Mp) (r0 r : Rm) (w : World) (N : Nat) (hN : Sz w N) (hT : Two P wa m0 r0 w m r) (U0 : ∀ x, N ≤ x → P x) (hK : Ats w kq kn (fun j => By (KD0 j))) (hV : Ats w vq vn (fun j => By (VD0 j))) :
    Calls Tryd.prog 10 #[.agg (cellsOf (acC what kq kn kc vq vn vc fl raw) 5), .pointer (some ⟨m.b, 0, none⟩), .pointer (some ⟨r.b, 0, none⟩)] w (DoR P wa m0 r0) := by
  obtain ⟨_, aw1, aw2⟩ := rwAct
  have AW1 := hid aw1
  have AW2 := hid aw2
  clear aw1 aw2
  have HW := hid hw
  clear hw
  go_enter Tryd.func10, Tryd.ntmps10
  go_upto_region 1 with (first
    | ((with_reducible show wpList _ _ _ (_ :: _) _ _); first
      | (refine wpl_box rfl 38 (.tmp 0) rfl 5 (acC what kq kn kc vq vn vc fl raw) rfl N hN ?_; intro w1 hM1 b1 k1; refine id ?_; try simp only [pA]))
    | fail)
  have TS := hT.start hN b1
  have hPN := hT.notP hN
  have hr16 := hT.R.sm.1
  have hr64 := hT.R.sm.2.1
  refine wp_region_inn (fun w' => Below (N + 1) w1 w') (Below.refl (N + 1) w1).drew (by kernel_rfl) ?_
  have hne := inn_ne (I := fun w' => Below (N + 1) w1 w') (Below.refl (N + 1) w1)
  refine anyI_reads [0, 1, 2, 3, 4, 6, 7, 8, 9, 10] _ _ _ (Below.refl (N + 1) w1).drew (by kernel_rfl) (fun _ _ _ d _ h => by cases d <;> exact h) ?_
  simp only [pickO, List.map_cons, List.map_nil, List.getElem?_toArray, List.getElem?_cons_succ, List.getElem?_cons_zero, Option.getD_some, Act.put, List.setIfInBounds_toArray, List.set_cons_succ, List.set_cons_zero]
  repeat first
    | (refine inn_val (fun x => run_ld 38 (.tmp 3) rfl N rfl 38 5 _ (k1.below x.h (by omega)) _ AW1.out AW2.out szAct) (by rfl) ?_; simp only [Act.put, List.setIfInBounds_toArray, List.set_cons_succ, List.set_cons_zero])
    | (refine inn_val (fun x => run_ldS (.tmp 31) rfl rfl ((TS.R.below hM1 x.h).h)) (by rfl) ?_; simp only [Act.put, List.setIfInBounds_toArray, List.set_cons_succ, List.set_cons_zero])
    | (refine inn_val (fun x => run_ldS (.tmp 37) rfl rfl ((TS.R.below hM1 x.h).h)) (by rfl) ?_; simp only [Act.put, List.setIfInBounds_toArray, List.set_cons_succ, List.set_cons_zero])
    | go_big_quiet_step (fail)
  refine wpQuiet_nil ?_
  clear hne
  refine anyI_part [5] _ _ _ _ (by kernel_rfl) ?_
  simp only [List.filterMap_cons, List.filterMap_nil, List.getElem?_toArray, List.getElem?_cons_succ, List.getElem?_cons_zero]
  change wpList _ _ _ [_] _ _
  go_wp2_with fail
  refine (key_any what kq kn kc vq vn vc fl raw _ _ _ r.key hr16 hkc KD0 w1.drew (N + 1) hM1 (hK.below hN b1.drew)).mono ?_
  rintro e w2 ⟨⟨KD, kl, hkl, rfl⟩, b2⟩
  dsimp only
  go_step
  have B2 := (Below.refl (N + 1) w1).drew.trans b2
  obtain ⟨M2, hM2⟩ := sz_some w2
  have L2 := below_sz B2 hM1 hM2
  refine ⟨B2, ?_⟩
  change anyI _ _ _ _ _ _ _ _ _
  try simp only [pA]
  refine anyI_part [11] _ _ _ _ (by kernel_rfl) ?_
  simp only [List.filterMap_cons, List.filterMap_nil, List.getElem?_toArray, List.getElem?_cons_succ, List.getElem?_cons_zero]
  change wpList _ _ _ [_] _ _
  go_wp2_with fail
  refine (val_any what kq kn kc vq vn vc fl raw _ _ _ r.val hr64 hvc VD0 _ M2 hM2 ((hV.below hN b1).below hM1 B2)).mono ?_
  rintro e w3 ⟨⟨VD, vl, hvl, rfl⟩, b3⟩
  dsimp only
  go_step
  have B3 := B2.trans (b3.mono L2)
  refine ⟨B3, ?_⟩
  change anyI _ _ _ _ _ _ _ _ _
  try simp only [pA]
  refine anyI_part [12] _ _ _ _ (by kernel_rfl) ?_
  simp only [List.filterMap_cons, List.filterMap_nil, List.getElem?_toArray, List.getElem?_cons_succ, List.getElem?_cons_zero]
  change wpList _ _ _ [_] _ _
  refine wpl_pure rfl (v := .string (strOf KD kl)) (by intro w; first | rfl | (go_simp; first | done | with_reducible rfl)) ?_
  refine ⟨B3, ?_⟩
  change anyI _ _ _ _ _ _ _ _ _
  try simp only [pA]
  refine anyI_part [13] _ _ _ _ (by kernel_rfl) ?_
  simp only [List.filterMap_cons, List.filterMap_nil, List.getElem?_toArray, List.getElem?_cons_succ, List.getElem?_cons_zero]
  change wpList _ _ _ [_] _ _
  refine wpl_pure rfl (v := .string (strOf VD vl)) (by intro w; first | rfl | (go_simp; first | done | with_reducible rfl)) ?_
  refine ⟨B3, ?_⟩
  change anyI _ _ _ _ _ _ _ _ _
  try simp only [pA]
  refine anyI_done (by kernel_rfl) ?_
  try simp only [pA]
  have T := TS.below hM1 B3
  obtain ⟨M, hM⟩ := sz_some w3
  have LM := below_sz B3 hM1 hM
  have U : ∀ x, M ≤ x → P1 m r N x := fun x hx => .inr (.inr (by omega))
  have ca := hid (k1.below B3 (by omega))
  have HJ : ∀ w9 m9 r9, Two (P1 m r N) w1 m r w9 m9 r9 → Two P wa m0 r0 w9 m9 r9 := fun w9 m9 r9 h => hT.join hN b1 U0 h
  clear TS B2 b2 b3 hM2 L2 hK hV hr16 hr64 hkc hvc
  go_upto_region 5 with (first
    | ((with_reducible show wpList _ _ _ (_ :: _) _ _); first
      | (refine wpl_run rfl (.int .i64 what) _ (run_cell1 (x := .tmp 40) 3 rfl rfl undIt rfl (ca.out.cell (j := 0) (by omega))) ?_; try simp only [pA])
      | (refine wpl_run rfl (.int .u64 (IntKind.u64.wrap what)) _ (run_cvU (x := .tmp 41) rfl undInt64 undU64t rfl) ?_; try simp only [pA])
      | (refine wpl_remQ rfl (.tmp 42) (.const (.int .u64 9)) rfl (IntKind.u64.wrap what) 9 rfl rfl (u64_pos what) (by omega) (by omega) ?_; intro c hc Hc; have HC := hid (show c = 0 by have := Hc.out; have := HW.out; omega); refine id ?_; try simp only [pA])
      | (refine wpl_run rfl (.int .i64 (c : Int)) _ (run_cvI (x := .tmp 43) rfl undU64t undInt64 rfl (by omega)) ?_; try simp only [pA])
      | (refine wpl_run rfl (.bool false) _ (run_eqK (x := .tmp 44) rfl rfl rfl (by rw [HC.out]; rfl) _) ?_; try simp only [pA])
      | (refine wpl_run rfl (.bool true) _ (run_eqK (x := .tmp 44) rfl rfl rfl (by rw [HC.out]; rfl) _) ?_; try simp only [pA]))
    | fail)
  clear Hc HC hc HW AW1 AW2
  have hI := ca.out
  refine wp_region_inn (fun w' => Has w' N 38 5 (acC what kq kn kc vq vn vc fl raw)) hI.drew (by kernel_rfl) ?_
  have hne := inn_ne (I := fun w' => Has w' N 38 5 (acC what kq kn kc vq vn vc fl raw)) hI
  refine anyI_reads [0, 1, 3, 5, 6, 8, 9, 10, 11, 12] _ _ _ hI.drew (by kernel_rfl) (fun _ _ _ d _ h => by cases d <;> exact h) ?_
  simp only [pickO, List.map_cons, List.map_nil, List.getElem?_toArray, List.getElem?_cons_succ, List.getElem?_cons_zero, Option.getD_some, Act.put, List.setIfInBounds_toArray, List.set_cons_succ, List.set_cons_zero]
  repeat first
    | (refine inn_val (fun x => run_cell1 (x := .tmp 53) 36 rfl rfl undU64t rfl (x.h.cell (j := 3) (by omega))) (by rfl) ?_; simp only [Act.put, List.setIfInBounds_toArray, List.set_cons_succ, List.set_cons_zero])
    | (refine inn_val (fun x => run_cell1 (x := .tmp 59) 36 rfl rfl undU64t rfl (x.h.cell (j := 3) (by omega))) (by rfl) ?_; simp only [Act.put, List.setIfInBounds_toArray, List.set_cons_succ, List.set_cons_zero])
    | go_big_quiet_step (fail)
  refine wpQuiet_nil ?_
  clear hne
  have Td := T.below hM (Below.refl _ _).drew
  have hMd : Sz w3.drew M := hM
  have hId := hI.drew
  clear T hM hI ca
  generalize World.drew w3 = wd at *
  refine anyI_two 2 4 _ _ _ _ (by kernel_rfl) ?_ ?_
  · simp only [List.filterMap_cons, List.filterMap_nil, List.getElem?_toArray, List.getElem?_cons_succ, List.getElem?_cons_zero]
    change wpList _ _ _ [_] _ _
    obtain ⟨cap11, w11, hr11, hS11, hb11, ra11⟩ := run_raw (P := Tryd.prog) 9 35 undBS undBB undBy wd M hMd KD kl
    refine wpl_conv2 rfl 9 35 (.tmp 49) rfl _ _ _ rfl hr11 ?_
    refine ⟨hId.below hb11 (hId.ltN hMd), ?_⟩
    change anyI _ _ _ _ _ _ _ _ _
    try simp only [pA]
    refine anyI_part [4] _ _ _ _ (by kernel_rfl) ?_
    simp only [List.filterMap_cons, List.filterMap_nil, List.getElem?_toArray, List.getElem?_cons_succ, List.getElem?_cons_zero]
    change wpList _ _ _ [_] _ _
    obtain ⟨cap12, w12, hr12, hS12, hb12, ra12⟩ := run_raw (P := Tryd.prog) 9 35 undBS undBB undBy w11 (M + 1) hS11 VD vl
    refine wpl_conv2 rfl 9 35 (.tmp 51) rfl _ _ _ rfl hr12 ?_
    refine ⟨(hId.below hb11 (hId.ltN hMd)).below hb12 (by have := hId.ltN hMd; omega), ?_⟩
    change anyI _ _ _ _ _ _ _ _ _
    try simp only [pA]
    have T2 := (Td.below hMd hb11).below hS11 hb12
    have U2 : ∀ x, M + 1 + 1 ≤ x → P1 m r N x := fun x hx => U x (by omega)
    have hfk := (ra11.below hb12 (Nat.lt_succ_self M))
    have hfv := ra12
    refine anyI_part [7] _ _ _ _ (by kernel_rfl) ?_
    simp only [List.filterMap_cons, List.filterMap_nil, List.getElem?_toArray, List.getElem?_cons_succ, List.getElem?_cons_zero]
    change wpList _ _ _ [_] _ _
    go_wp2_with fail
    refine (Upd_all T2.I KD kl (some ⟨M, 0, none⟩) cap11 (some ⟨M + 1, 0, none⟩) vl cap12 VD fl hfl _ hS12 T2.A hfk.ats hfv.ats (fun g hg hF => by have e : M + 1 = g := Option.some.inj hg; have := Td.A.lt hMd g hF; omega)).mono ?_
    rintro e w5 ⟨z, m2, rfl, X⟩
    dsimp only
    go_step
    have T5 := T2.nx hS12 U2 X
    obtain ⟨M5, hM5⟩ := sz_some w5
    have U5 : ∀ x, M5 ≤ x → P1 m r N x := T2.up (m' := m2) (r' := r) hS12 U2 hM5 T5 (by have := X.turn.size; have e1 : w12.heap.size = M + 1 + 1 := hS12; have e2 : w5.heap.size = M5 := hM5; omega)
    refine ⟨k1.turn T5.t hPN, ?_⟩
    change anyI _ _ _ _ _ _ _ _ _
    try simp only [pA]
    refine anyI_part [13] _ _ _ _ (by kernel_rfl) ?_
    simp only [List.filterMap_cons, List.filterMap_nil, List.getElem?_toArray, List.getElem?_cons_succ, List.getElem?_cons_zero]
    change wpList _ _ _ [_] _ _
    go_wp2_with fail
    refine (DUpd_any r (strOf KD kl) (strOf VD vl) fl w5 M5 hM5 T5.R).mono ?_
    rintro e w6 ⟨z2, r2, rfl, Y⟩
    dsimp only
    go_step
    have T6 := T5.rnx hM5 U5 Y
    refine ⟨k1.turn T6.t hPN, ?_⟩
    change anyI _ _ _ _ _ _ _ _ _
    try simp only [pA]
    refine anyI_part [14] _ _ _ _ (by kernel_rfl) ?_
    simp only [List.filterMap_cons, List.filterMap_nil, List.getElem?_toArray, List.getElem?_cons_succ, List.getElem?_cons_zero]
    change wpList _ _ _ [_] _ _
    refine wpl_run rfl (.bool (z == z2)) _ (run_eqK (x := .tmp 55) rfl rfl rfl rfl _) ?_
    refine ⟨k1.turn T6.t hPN, ?_⟩
    change anyI _ _ _ _ _ _ _ _ _
    try simp only [pA]
    refine anyI_part [15] _ _ _ _ (by kernel_rfl) ?_
    simp only [List.filterMap_cons, List.filterMap_nil, List.getElem?_toArray, List.getElem?_cons_succ, List.getElem?_cons_zero]
    change wpList _ _ _ [_] _ _
    refine wpl_pure rfl (v := .bool (z == z2)) (by intro w; first | rfl | (go_simp; first | done | with_reducible rfl)) ?_
    refine ⟨k1.turn T6.t hPN, ?_⟩
    change anyI _ _ _ _ _ _ _ _ _
    try simp only [pA]
    refine anyI_done (by kernel_rfl) ?_
    try simp only [pA]
    go_wp2_with fail
    go_ret
    exact ⟨_, m2, r2, rfl, HJ _ _ _ T6⟩
  · simp only [List.filterMap_cons, List.filterMap_nil, List.getElem?_toArray, List.getElem?_cons_succ, List.getElem?_cons_zero]
    change wpList _ _ _ [_] _ _
    obtain ⟨cap11, w11, hr11, hS11, hb11, ra11⟩ := run_raw (P := Tryd.prog) 9 35 undBS undBB undBy wd M hMd VD vl
    refine wpl_conv2 rfl 9 35 (.tmp 51) rfl _ _ _ rfl hr11 ?_
    refine ⟨hId.below hb11 (hId.ltN hMd), ?_⟩
    change anyI _ _ _ _ _ _ _ _ _
    try simp only [pA]
    refine anyI_part [2] _ _ _ _ (by kernel_rfl) ?_
    simp only [List.filterMap_cons, List.filterMap_nil, List.getElem?_toArray, List.getElem?_cons_succ, List.getElem?_cons_zero]
    change wpList _ _ _ [_] _ _
    obtain ⟨cap12, w12, hr12, hS12, hb12, ra12⟩ := run_raw (P := Tryd.prog) 9 35 undBS undBB undBy w11 (M + 1) hS11 KD kl
    refine wpl_conv2 rfl 9 35 (.tmp 49) rfl _ _ _ rfl hr12 ?_
    refine ⟨(hId.below hb11 (hId.ltN hMd)).below hb12 (by have := hId.ltN hMd; omega), ?_⟩
    change anyI _ _ _ _ _ _ _ _ _
    try simp only [pA]
    have T2 := (Td.below hMd hb11).below hS11 hb12
    have U2 : ∀ x, M + 1 + 1 ≤ x → P1 m r N x := fun x hx => U x (by omega)
    have hfk := ra12
    have hfv := (ra11.below hb12 (Nat.lt_succ_self M))
    refine anyI_part [7] _ _ _ _ (by kernel_rfl) ?_
    simp only [List.filterMap_cons, List.filterMap_nil, List.getElem?_toArray, List.getElem?_cons_succ, List.getElem?_cons_zero]
    change wpList _ _ _ [_] _ _
    go_wp2_with fail
    refine (Upd_all T2.I KD kl (some ⟨M + 1, 0, none⟩) cap12 (some ⟨M, 0, none⟩) vl cap11 VD fl hfl _ hS12 T2.A hfk.ats hfv.ats (fun g hg hF => by have e : M = g := Option.some.inj hg; have := Td.A.lt hMd g hF; omega)).mono ?_
    rintro e w5 ⟨z, m2, rfl, X⟩
    dsimp only
    go_step
    have T5 := T2.nx hS12 U2 X
    obtain ⟨M5, hM5⟩ := sz_some w5
    have U5 : ∀ x, M5 ≤ x → P1 m r N x := T2.up (m' := m2) (r' := r) hS12 U2 hM5 T5 (by have := X.turn.size; have e1 : w12.heap.size = M + 1 + 1 := hS12; have e2 : w5.heap.size = M5 := hM5; omega)
    refine ⟨k1.turn T5.t hPN, ?_⟩
    change anyI _ _ _ _ _ _ _ _ _
    try simp only [pA]
    refine anyI_part [13] _ _ _ _ (by kernel_rfl) ?_
    simp only [List.filterMap_cons, List.filterMap_nil, List.getElem?_toArray, List.getElem?_cons_succ, List.getElem?_cons_zero]
    change wpList _ _ _ [_] _ _
    go_wp2_with fail
    refine (DUpd_any r (strOf KD kl) (strOf VD vl) fl w5 M5 hM5 T5.R).mono ?_
    rintro e w6 ⟨z2, r2, rfl, Y⟩
    dsimp only
    go_step
    have T6 := T5.rnx hM5 U5 Y
    refine ⟨k1.turn T6.t hPN, ?_⟩
    change anyI _ _ _ _ _ _ _ _ _
    try simp only [pA]
    refine anyI_part [14] _ _ _ _ (by kernel_rfl) ?_
    simp only [List.filterMap_cons, List.filterMap_nil, List.getElem?_toArray, List.getElem?_cons_succ, List.getElem?_cons_zero]
    change wpList _ _ _ [_] _ _
    refine wpl_run rfl (.bool (z == z2)) _ (run_eqK (x := .tmp 55) rfl rfl rfl rfl _) ?_
    refine ⟨k1.turn T6.t hPN, ?_⟩
    change anyI _ _ _ _ _ _ _ _ _
    try simp only [pA]
    refine anyI_part [15] _ _ _ _ (by kernel_rfl) ?_
    simp only [List.filterMap_cons, List.filterMap_nil, List.getElem?_toArray, List.getElem?_cons_succ, List.getElem?_cons_zero]
    change wpList _ _ _ [_] _ _
    refine wpl_pure rfl (v := .bool (z == z2)) (by intro w; first | rfl | (go_simp; first | done | with_reducible rfl)) ?_
    refine ⟨k1.turn T6.t hPN, ?_⟩
    change anyI _ _ _ _ _ _ _ _ _
    try simp only [pA]
    refine anyI_done (by kernel_rfl) ?_
    try simp only [pA]
    go_wp2_with fail
    go_ret
    exact ⟨_, m2, r2, rfl, HJ _ _ _ T6⟩
end Go.Proofs.YtjdclgnlnehjlaaDoor
