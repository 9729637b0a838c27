/- TokenDerives: words: what Root and Derive tell of a chain; what stands at each place of it. -/
import Derived.Test.YtilhkgbninbkkaaDoorTk14
namespace Go.Proofs.YtilhkgbninbkkaaDoor
open Go Go.RowKit
/-- A chain's tokens are these, from the root on. -/
def Mt : List Tk → (Nat → Int) → (Nat → Rg) → Prop
  | [], _, _ => True
  | t :: D, A, R => t.at_ = A D.length ∧ t.r = R D.length ∧ Mt D A R
/-- What Root or Derive tells: a new token, or none. -/
def TX (E : Int) (N : Nat) (a : Int) (r : Rg) (ts : List Tk) (x : Value) (w : World) : Prop :=
  (E = 0 ∧ ∃ k, x = .pointer (some ⟨k, 0, none⟩) ∧ N ≤ k ∧ Tks w (⟨k, a, r⟩ :: ts)) ∨ (E ≠ 0 ∧ x = .pointer none)
section
variable {w w' : World} {N M b c nc : Nat} {f : Nat → Nat} {A : Nat → Int} {R : Nat → Rg} {a E : Int} {r : Rg} {ts us : List Tk} {t : Tk} {x : Value}
theorem TX.below (h : TX E N a r ts x w) (hM : Sz w M) (hb : Below M w w') : TX E N a r ts x w' := by
  rcases h with ⟨e, k, ex, hk, hT⟩ | h
  · exact .inl ⟨e, k, ex, hk, hT.below hM hb⟩
  · exact .inr h
theorem Root_td (hE : moreE f c 0 A R a r = E) (hN : Sz w N) (hT : Tr w b c f) :
    Calls Tryd.prog 27 #[.pointer (some ⟨b, 0, none⟩), .int .i64 a, rgV r] w fun e w' => ∃ x, e = .returned (.tuple #[x, .int .i64 E]) ∧ Below N w w' ∧ TX E N a r [] x w' := by
  have em : rootErr c a r = E := by rw [← hE]; unfold moreE rootErr; rw [if_pos rfl]
  by_cases h0 : E = 0
  · subst h0
    refine (Root_ok em hN hT).mono ?_
    rintro e w' ⟨k, rfl, hk, hb, hU⟩
    exact ⟨_, rfl, hb, .inl ⟨rfl, k, rfl, hk, hU⟩⟩
  · refine (Root_no em h0 hN hT).mono ?_
    rintro e w' ⟨rfl, hb⟩
    exact ⟨_, rfl, hb, .inr ⟨h0, rfl⟩⟩
theorem Derive_td (hE : moreE f c nc A R a r = E) (hl : (t :: us).length = nc) (hm : Mt (t :: us) A R) (hN : Sz w N) (hT : Tr w b c f) (hU : Tks w (t :: us)) :
    Calls Tryd.prog 28 #[.pointer (some ⟨b, 0, none⟩), .pointer (some ⟨t.b, 0, none⟩), .int .i64 a, rgV r] w fun e w' => ∃ x, e = .returned (.tuple #[x, .int .i64 E]) ∧ Below N w w' ∧ TX E N a r (t :: us) x w' := by
  have em : derErr f c t us a r = E := by
    rw [← hE]
    unfold moreE derErr derE
    subst hl
    rw [if_neg (show ¬ (t :: us).length = 0 by simp), show (t :: us).length - 1 = us.length by simp, ← hm.1, ← hm.2.1]
  by_cases h0 : E = 0
  · subst h0
    refine (Derive_ok em hN hT hU).mono ?_
    rintro e w' ⟨k, rfl, hk, hb, hU⟩
    exact ⟨_, rfl, hb, .inl ⟨rfl, k, rfl, hk, hU⟩⟩
  · refine (Derive_no em h0 hN hT hU).mono ?_
    rintro e w' ⟨rfl, hb⟩
    exact ⟨_, rfl, hb, .inr ⟨h0, rfl⟩⟩
/-- What a step that is taken keeps. -/
theorem more_snd (hE : moreE f c nc A R a r = 0) (hl : ts.length = nc) (hm : Mt ts A R) (hs : sndT f c ts = true) (k : Nat) : sndT f c (⟨k, a, r⟩ :: ts) = true := by
  show (sndT f c ts && (insI f c a (prvAt ts a) && rWithin r (prvR ts))) = true
  rw [hs, Bool.true_and]
  unfold moreE at hE
  cases hb : isIn c a with
  | false => rw [hb] at hE; simp at hE
  | true =>
    rw [hb, if_pos rfl] at hE
    cases ts with
    | nil =>
      obtain rfl : nc = 0 := hl.symm
      rw [if_pos rfl] at hE
      show (insI f c a a && rWithin r rgAll) = true
      rw [insI_self, hb, Bool.true_and]
      by_cases h : rWithin r rgAll = true
      · exact h
      · rw [if_neg h] at hE; simp at hE
    | cons t us =>
      subst hl
      rw [if_neg (show ¬ (t :: us).length = 0 by simp), show (t :: us).length - 1 = us.length by simp, ← hm.1, ← hm.2.1] at hE
      show (insI f c a t.at_ && rWithin r t.r) = true
      by_cases h : (insI f c a t.at_ && rWithin r t.r) = true
      · exact h
      · rw [if_neg h] at hE; simp at hE
/-- .. and what the row of steps is behind it. -/
def addI (A : Nat → Int) (n : Nat) (a : Int) : Nat → Int := fun j => if j = n then a else A j
def addR (R : Nat → Rg) (n : Nat) (r : Rg) : Nat → Rg := fun j => if j = n then r else R j
theorem Mt.congr : ∀ {ts : List Tk} {A' : Nat → Int} {R' : Nat → Rg}, Mt ts A R → (∀ j, j < ts.length → A' j = A j ∧ R' j = R j) → Mt ts A' R'
  | [], _, _, _, _ => trivial
  | t :: D, _, _, h, e => ⟨h.1.trans (e D.length (by simp)).1.symm, h.2.1.trans (e D.length (by simp)).2.symm, Mt.congr h.2.2 (fun j hj => e j (by simp; omega))⟩
theorem Mt.add (hm : Mt ts A R) (hl : ts.length = nc) (k : Nat) : Mt (⟨k, a, r⟩ :: ts) (addI A nc a) (addR R nc r) := by
  subst hl
  refine ⟨?_, ?_, hm.congr (fun j hj => ?_)⟩
  · unfold addI; rw [if_pos rfl]
  · unfold addR; rw [if_pos rfl]
  · unfold addI addR; rw [if_neg (by omega), if_neg (by omega)]; exact ⟨rfl, rfl⟩
theorem st_add (A : Nat → Int) (R : Nat → Rg) (nc : Nat) (a : Int) (r : Rg) (j : Nat) (hj : j < (nc + 1) * 7) : cat (fun j => stC (A (j / 7)) (R (j / 7)) (j % 7)) (nc * 7) (stC a r) j = stC (addI A nc a (j / 7)) (addR R nc r (j / 7)) (j % 7) := by
  unfold cat addI addR
  by_cases h : j < nc * 7
  · rw [if_pos h, if_neg (by omega), if_neg (by omega)]
  · rw [if_neg h, if_pos (by omega), if_pos (by omega), show j - nc * 7 = j % 7 by omega]
/-- A chain's tokens, from the root on. -/
theorem Mt.at_ : ∀ {ts : List Tk} {A : Nat → Int} {R : Nat → Rg}, Mt ts A R → ∀ j, j < ts.length → ∃ t, ts.drop (ts.length - 1 - j) = t :: ts.drop (ts.length - j) ∧ t.at_ = A j ∧ t.r = R j
  | [], _, _, _, j, hj => absurd hj (by simp)
  | t :: D, A, R, h, j, hj => by
    by_cases e : j = D.length
    · subst e
      refine ⟨t, ?_, h.1, h.2.1⟩
      rw [show (t :: D).length - 1 - D.length = 0 by simp, show (t :: D).length - D.length = 1 by simp]; rfl
    · have hj2 : j < D.length := by simp at hj; omega
      obtain ⟨u, e1, e2, e3⟩ := Mt.at_ h.2.2 j hj2
      refine ⟨u, ?_, e2, e3⟩
      rw [show (t :: D).length - 1 - j = (D.length - 1 - j) + 1 by simp; omega, show (t :: D).length - j = (D.length - j) + 1 by simp; omega]
      exact e1
theorem snd_within (hm : Mt ts A R) (hs : sndT f c ts = true) (j : Nat) (h0 : 0 < j) (hj : j < ts.length) : rWithin (R j) (R (j - 1)) = true := by
  obtain ⟨t, e1, _, e3⟩ := hm.at_ j hj
  obtain ⟨u, e4, _, e6⟩ := hm.at_ (j - 1) (by omega)
  have hd : sndT f c (ts.drop (ts.length - 1 - j)) = true := by
    cases hc : sndT f c (ts.drop (ts.length - 1 - j)) with
    | true => rfl
    | false => rw [sndT_drop _ hc] at hs; cases hs
  rw [e1, show ts.length - j = ts.length - 1 - (j - 1) by omega, e4] at hd
  have hd2 : (sndT f c (u :: ts.drop (ts.length - (j - 1))) && (insI f c t.at_ u.at_ && rWithin t.r u.r)) = true := hd
  simp only [Bool.and_eq_true] at hd2
  rw [← e3, ← e6]
  exact hd2.2.2
theorem within_parts {x y : Rg} (h : rWithin x y = true) : x.c &&& ~~~y.c = 0#16 ∧ x.h &&& ~~~y.h = 0#16 := by
  unfold rWithin at h
  simp only [Bool.and_eq_true, beq_iff_eq] at h
  exact ⟨h.1.1.1.1.1, h.1.1.2⟩
theorem hasE_mono {x y : BitVec 16} (h : x &&& ~~~y = 0#16) (n : Int) (h0 : hasE x n = 0) : hasE y n = 0 := by
  unfold hasE at *
  by_cases h1 : n < 0 ∨ 15 < n
  · rw [if_pos h1] at h0; cases h0
  · rw [if_neg h1] at h0 ⊢
    by_cases h2 : x.getLsbD n.toNat = true
    · have h3 := congrArg (fun z => z.getLsbD n.toNat) h
      simp only [BitVec.getLsbD_and, BitVec.getLsbD_not, h2, BitVec.getLsbD_zero, Bool.true_and, Bool.and_eq_false_iff, decide_eq_false_iff_not, Bool.not_eq_false'] at h3
      rcases h3 with h3 | h3
      · omega
      · rw [if_pos h3]
    · rw [if_neg h2] at h0; cases h0
theorem helpE_mono {x y : Rg} (h : x.h &&& ~~~y.h = 0#16) (n : Int) (h0 : helpE x n = 0) : helpE y n = 0 := by
  unfold helpE at *
  cases hb : bitOf n with
  | none => rw [hb] at h0; cases h0
  | some k => rw [hb] at h0; exact hasE_mono h _ h0
end
section
variable {P : Program} {a : Act} {o : Oper} {T ty : TypeId} {x y : Operand}
theorem run_as (ho : o.op = .assign x) (w : World) {v : Value} (hx : a.eval x = v) : (execOp a.eval o).run P w = .ok (.value v) w := by
  unfold execOp; simp only [ho, hx, Sem.run_pure]
theorem run_ex {k : Nat} (ho : o.op = .extract x k) (w : World) {vs : Array Value} {v : Value} (hx : a.eval x = .tuple vs) (hv : vs[k]? = some v) : (execOp a.eval o).run P w = .ok (.value v) w := by
  unfold execOp
  simp [ho, hx, hv, Sem.run_bind, Instr.extract]
theorem run_eqTk {ts : List Tk} (ho : o.op = .binOp .eql T x y ty) (hx : a.eval x = ptrOf ts) (hy : a.eval y = .pointer none) (hT : ∃ e, P.underlying T = some (.pointer e)) (w : World) : (execOp a.eval o).run P w = .ok (.value (.bool ts.isEmpty)) w := by
  obtain ⟨e, he⟩ := hT
  cases ts with
  | nil => unfold execOp; simp only [ho, hx, hy, ptrOf]; go_simp
  | cons t us => unfold execOp; simp only [ho, hx, hy, ptrOf]; go_simp
end
theorem undSteps : Tryd.prog.underlying 52 = some (.slice 71) := by kernel_rfl
theorem kSt : KCell Tryd.prog 71 7 := kCell_of (v := .agg (cellsOf (stC 0 rgNone) 7)) (k := 24) (by kernel_rfl) (by omega) rfl
theorem own_stp {w : World} {q : Option Addr} {nc cap : Nat} {A : Nat → Int} {R : Nat → Rg} (h : OwnK w 71 7 q nc cap (fun j => stC (A (j / 7)) (R (j / 7)) (j % 7))) : Stp w q nc A R := fun h0 => by
  obtain ⟨g, e, hc⟩ := h.cell h0
  refine ⟨g, 0, e, fun j hj i hi => ?_⟩
  have h9 := hc (j * 7 + i) (by omega)
  rw [show (j * 7 + i) / 7 = j by omega, show (j * 7 + i) % 7 = i by omega, ← Nat.add_assoc] at h9
  exact h9
section
variable {ops : Array Oper} {rest : List Oper} {o : Oper} {a : Act} {w : World} {Q : Exit → Act → World → Prop} {x y : Operand} {T ty : TypeId}
theorem wpl_bsS (hgd : o.guard = none) (x : Operand) (ho : o.op = .buildSlice 52 1 #[(0, x)]) (a0 : Int) (r : Rg) (hx : a.eval x = .agg (cellsOf (stC a0 r) 7)) (N : Nat) (hN : Sz w N)
    (h : ∀ w1, Sz w1 (N + 1) → Below N w w1 → Has w1 N 71 7 (stC a0 r) → wpList Tryd.prog ops Q rest (a.put o.dst (.slice (some ⟨N, 0, none⟩) 1 1)) w1) : wpList Tryd.prog ops Q (o :: rest) a w := by
  have e : w.heap.size = N := hN
  subst e
  refine wpl_run hgd (.slice (some ⟨w.heap.size, 0, none⟩) 1 1) (w.alloc (.cells (cellsOf (stC a0 r) 7) 71)) ?_ (h _ (sz_alloc rfl _) (below_new _ _ _ rfl) ?_)
  · clear h hN
    generalize a.eval = ev at *
    unfold execOp
    simp only [ho]
    go_simp
    kernel_rfl
  · exact has_new rfl 71 7 (stC a0 r)
theorem eqBo (d : Nat) (p q : Bool) (w : World) : (Op.equalIn (d + 1) 4 (.bool p) (.bool q)).run Tryd.prog w = .ok (p == q) w := by
  simp [Op.equalIn, run_underlying undBo]
theorem run_neqB {p q r : Bool} (ho : o.op = .binOp .neq 4 x y ty) (hx : a.eval x = .bool p) (hy : a.eval y = .bool q) (h : (p != q) = r) (w : World) : (execOp a.eval o).run Tryd.prog w = .ok (.value (.bool r)) w := by
  have h2 : (Op.equal 4 (.bool p) (.bool q)).run Tryd.prog w = .ok (p == q) w := eqBo 9999 p q w
  have e : (eqGuard .neq 4 x y (.bool p) (.bool q)).run Tryd.prog w = .ok () w := by unfold eqGuard; rfl
  subst h
  unfold execOp
  simp only [ho, hx, hy, Sem.run_bind, e, Result.andThen_ok, binOp, h2, Sem.run_pure]
  rfl
theorem eqTk (d : Nat) (ts : List Tk) (w : World) : (Op.equalIn (d + 1) 55 (ptrOf ts) (ptrOf ts)).run Tryd.prog w = .ok true w := by
  obtain ⟨ti, hti, htz⟩ := infTk
  cases ts with
  | nil => simp [ptrOf, Op.equalIn, run_underlying undTp]
  | cons t us => simp [ptrOf, Op.equalIn, run_underlying undTp, sizeOf, typeInfo, hti, htz, sameAddr]
theorem run_neqTk {ts : List Tk} (ho : o.op = .binOp .neq 55 x y ty) (hx : a.eval x = ptrOf ts) (hy : a.eval y = ptrOf ts) (w : World) : (execOp a.eval o).run Tryd.prog w = .ok (.value (.bool false)) w := by
  have h2 : (Op.equal 55 (ptrOf ts) (ptrOf ts)).run Tryd.prog w = .ok true w := eqTk 9999 ts w
  have e : (eqGuard .neq 55 x y (ptrOf ts) (ptrOf ts)).run Tryd.prog w = .ok () w := by cases ts <;> (unfold eqGuard; rfl)
  unfold execOp
  cases ts with
  | nil =>
    simp only [ptrOf] at *
    simp only [ho, hx, hy, Sem.run_bind, e, Result.andThen_ok, binOp, h2, Sem.run_pure]
    rfl
  | cons t us =>
    simp only [ptrOf] at *
    simp only [ho, hx, hy, Sem.run_bind, e, Result.andThen_ok, binOp, h2, Sem.run_pure]
    rfl
theorem run_eqlI {P : Program} {p q : Int} {r : Bool} (ho : o.op = .binOp .eql T x y ty) (hx : a.eval x = .int .i64 p) (hy : a.eval y = .int .i64 q) (h : (p == q) = r) (w : World) : (execOp a.eval o).run P w = .ok (.value (.bool r)) w := by
  subst h; unfold execOp; simp only [ho, hx, hy]; go_simp
theorem run_neqI {P : Program} {p q : Int} {r : Bool} (ho : o.op = .binOp .neq T x y ty) (hx : a.eval x = .int .i64 p) (hy : a.eval y = .int .i64 q) (h : (p != q) = r) (w : World) : (execOp a.eval o).run P w = .ok (.value (.bool r)) w := by
  subst h; unfold execOp; simp only [ho, hx, hy]; go_simp
end
theorem load_cell {P : Program} {w : World} {p : Addr} {v : Value} (ty : TypeId) {d : TypeDesc} (hu : P.underlying ty = some d) (hd : (match d with | .struct _ | .array _ _ => false | _ => true) = true) (h : w.cell? p = some v) : (Instr.loadAt ty (.pointer (some p))).run P w = .ok v w := by
  have hagg : (isAgg ty).run P w = .ok false w := by
    unfold isAgg
    rw [Sem.run_bind, run_underlying hu w]
    cases d <;> simp_all
  unfold Instr.loadAt
  simp [Instr.sureAddr, Sem.run_bind, hagg, h, loadVar]
/-- One cell is read. -/
theorem run_c1 {P : Program} {a : Act} {w : World} {o : Oper} (ty : TypeId) (x : Operand) (ho : o.op = .load ty x) (p : Addr) (hx : a.eval x = .pointer (some p)) {d : TypeDesc} (hu : P.underlying ty = some d) (hd : (match d with | .struct _ | .array _ _ => false | _ => true) = true) {v : Value} (h : w.cell? p = some v) :
    (execOp a.eval o).run P w = .ok (.value v) w := by
  unfold execOp
  simp only [ho, hx, Sem.run_bind, load_cell ty hu hd h, Result.andThen_ok, Sem.run_pure]
section
variable {P : Program} {N : Nat} {w : World}
theorem later_c1 {ops : Array Oper} {R : Act → Prop} {a : Act} {o : Oper} {rest : List Oper} (hN : Sz w N) (ty : TypeId) (x : Operand) (ho : o.op = .load ty x) {b k : Nat} (hx : a.eval x = .pointer (some ⟨b, k, none⟩)) {d : TypeDesc} (hu : P.underlying ty = some d) (hd : (match d with | .struct _ | .array _ _ => false | _ => true) = true) {v : Value} (h : w.cell? ⟨b, k, none⟩ = some v)
    (hw : Region.wanted o (yielded ops a.tmps) = true) (hq : wpQuiet P ops (fun w' => ∃ x : Later N w, w' = x.w') R rest (a.put o.dst v)) : wpQuiet P ops (fun w' => ∃ x : Later N w, w' = x.w') R (o :: rest) a :=
  later_val (fun q => run_c1 ty x ho _ hx hu hd (Later.cell hN h q)) hw hq
end
theorem wpl_nilB {P : Program} {ops : Array Oper} {Q : Exit → Act → World → Prop} {F : Act → World → Prop} {a : Act} {w : World} (h : F a w) : wpList P ops (behind Q F) [] a w := h
/-- A call by whatever it tells. -/
theorem wpl_callX {P : Program} {ops : Array Oper} {rest : List Oper} {o : Oper} {a : Act} {w : World} {Q : Exit → Act → World → Prop} (hg : o.guard = none) (g : FuncId) (xs : Array Operand) (ts : Array TypeId) (ho : o.op = .call { callee := .value (.func g), args := xs, argTypes := ts }) (vs : Array Value) (hx : xs.map a.eval = vs)
    (hb : bodied P g = true) {S : Value → World → Prop} (hc : Calls P g vs w fun e w' => ∃ v, e = .returned v ∧ S v w') (h : ∀ v w', S v w' → wpList P ops Q rest (a.put o.dst v) w') : wpList P ops Q (o :: rest) a w := by
  refine wpList_plain hg fun K' hK => ?_
  have hrun : (execOp a.eval o).run P w = .ok (.enter g vs) w := by
    unfold bodied at hb
    cases hf : P.funcs[g]? with
    | none => rw [hf] at hb; cases hb
    | some fn =>
      rw [hf] at hb
      simp only [Bool.and_eq_true, bne_iff_ne, ne_eq] at hb
      have h2 : ¬ fn.body = none := fun e => by rw [e] at hb; exact absurd hb.2 (by simp)
      simp [execOp, ho, resolve, invoke, hx, Act.eval, Deferred.ofValue, callFunc, hf, hb.1, h2]
  unfold Oper.wp
  rw [hrun, Oper.upon_enter]
  refine hc.mono fun e w' hh => ?_
  obtain ⟨v, rfl, hR⟩ := hh
  exact hK _ _ (h _ _ hR)
end Go.Proofs.YtilhkgbninbkkaaDoor
