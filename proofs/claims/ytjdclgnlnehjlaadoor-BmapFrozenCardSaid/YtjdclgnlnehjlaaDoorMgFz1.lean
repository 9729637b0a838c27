/- TipstaffMaps: what a Lookup among the six tells; their sums; laws of the last walk. BmapFrozen: of any key: number, putNumber, cut, keyText, nearest. -/
import Derived.Test.YtjdclgnlnehjlaaDoorTm4
import Derived.Test.YtjdclgnlnehjlaaDoorMgSrt
import Derived.Test.YtjdclgnlnehjlaaDoorSu4
import Derived.Test.YtjdclgnlnehjlaaDoorMgTm0
import Derived.Test.YtjdclgnlnehjlaaDoorMgSu3
namespace Go.Proofs.YtjdclgnlnehjlaaDoor
open Go Go.RowKit
section
variable {w wr : World} {N M wb k c : Nat} {B : Nat → Nat} {th : Nat → Bool} {rows : Nat → Option Nat} {V : Nat → Nat → BitVec 8} {Mf : Nat → Mp}
end
section
variable {P : Program} {a : Act} {o : Oper} {x y : Operand} {T ty : TypeId}
theorem run_neqZ {p q : Int} {r : Bool} (ho : o.op = .binOp .neq T x y ty) (hx : a.eval x = .int .i64 p) (hy : a.eval y = .int .i64 q) (h : (p != q) = r) (w : World) : (execOp a.eval o).run P w = .ok (.value (.bool r)) w := by
  subst h; unfold execOp; simp only [ho, hx, hy]; go_simp
end
end Go.Proofs.YtjdclgnlnehjlaaDoor
namespace Go.Proofs.YtjdclgnlnehjlaaDoor
open Go Go.RowKit
theorem bits32_rng (a b : Int) : 0 ≤ bits .or .u32 a b ∧ bits .or .u32 a b < 4294967296 := by
  unfold bits
  simp only [IntKind.wrap_u32]
  omega
set_option maxRecDepth 100000 in
theorem number_any (t : ByteArray) (ht : 4 ≤ t.size) (w : World) :
    Calls Tryd.prog 68 #[.string t] w fun e w' => (∃ z : Int, e = .returned (.int .u32 z) ∧ 0 ≤ z ∧ z < 4294967296) ∧ w' = w := by
  obtain ⟨L, hL⟩ : ∃ L, t.size = L := ⟨_, rfl⟩
  rw [hL] at ht
  obtain ⟨X, hX⟩ : ∃ X : Nat → Int, X = fun k => if h : k < t.size then ((t[k]'h).toNat : Int) else 0 := ⟨_, rfl⟩
  have hb : ∀ (n : Nat) (h : n < t.size), ((t[n]'h).toNat : Int) = X n := fun n h => by rw [hX]; simp only [h, dite_true]
  have l0 : (0 : Int) < (L : Int) := by omega
  have l1 : (1 : Int) < (L : Int) := by omega
  have l2 : (2 : Int) < (L : Int) := by omega
  have l3 : (3 : Int) < (L : Int) := by omega
  clear hX
  go_enter Tryd.func68, Tryd.ntmps68
  go_wp2
  refine wp_loop_rounds 5 ?_
  rw [rounds_succ]
  go_wp2_with fail
  rw [rounds_succ]
  go_wp2_with fail
  rw [rounds_succ]
  go_wp2_with fail
  rw [rounds_succ]
  go_wp2_with fail
  rw [rounds_succ]
  go_wp2_with fail
  go_ret
  exact ⟨⟨_, rfl, bits32_rng _ _⟩, rfl⟩
def updB (f : Nat → BitVec 8) (k : Nat) (d : BitVec 8) : Nat → BitVec 8 := fun j => if j = k then d else f j
theorem Raw.byB {w : World} {b n k : Nat} {f : Nat → BitVec 8} {d : BitVec 8} (h : Raw w b n (upd (fun j => By (f j)) k (By d))) : Raw w b n (fun j => By (updB f k d j)) :=
  h.congr (fun j _ => by unfold upd updB; split <;> rfl)
theorem run_cv8 {P : Program} {a : Act} {o : Oper} {src dst : TypeId} {x : Operand} {k : IntKind} {z : Int} (ho : o.op = .convert src dst x) (hs : P.underlying src = some (.int k)) (hd : P.underlying dst = some (.int .u8)) (hx : a.eval x = .int k z) (w : World) : (execOp a.eval o).run P w = .ok (.value (By (BitVec.ofInt 8 z))) w := by
  have e : v8 (BitVec.ofInt 8 z) = IntKind.u8.wrap z := by
    unfold v8; rw [BitVec.toNat_ofInt, IntKind.wrap_u8]; omega
  unfold By
  rw [e]
  unfold execOp
  simp only [ho, hx]
  simp [convert, Sem.run_bind, run_underlying hs, run_underlying hd, Conv.intToInt]
set_option maxRecDepth 100000 in
theorem putNumber_any (g L cap : Nat) (n : Int) (hL : 4 ≤ L) (f : Nat → BitVec 8) (w : World) (hh : Raw w g L (fun j => By (f j))) :
    Calls Tryd.prog 26 #[.slice (some ⟨g, 0, none⟩) L cap, .int .i64 n] w fun e w' => e = .returned (.tuple #[]) ∧ Touch g w w' ∧ ∃ f' : Nat → BitVec 8, Raw w' g L (fun j => By (f' j)) := by
  have l0 : (0 : Int) < (L : Int) := by omega
  have l1 : (1 : Int) < (L : Int) := by omega
  have l2 : (2 : Int) < (L : Int) := by omega
  have l3 : (3 : Int) < (L : Int) := by omega
  go_enter Tryd.func26, Tryd.ntmps26
  go_wp2
  refine wp_loop_rounds 5 ?_
  rw [rounds_succ]
  go_wp2_with (first
    | (refine wpl_run rfl (By (BitVec.ofInt 8 _)) _ (run_cv8 (x := .tmp 13) rfl undIt undBy rfl _) ?_; try simp only [pA])
    | (refine wpl_setR rfl 5 (.tmp 15) (.tmp 14) rfl g 0 rfl (By _) rfl szBy rfl rfl L _ hh (by omega) ?_; intro w1 t1 h1; replace h1 := h1.byB)
    | fail)
  rw [rounds_succ]
  go_wp2_with (first
    | (refine wpl_run rfl (By (BitVec.ofInt 8 _)) _ (run_cv8 (x := .tmp 13) rfl undIt undBy rfl _) ?_; try simp only [pA])
    | (refine wpl_setR rfl 5 (.tmp 15) (.tmp 14) rfl g 1 rfl (By _) rfl szBy rfl rfl L _ h1 (by omega) ?_; intro w2 t2 h2; replace h2 := h2.byB)
    | fail)
  rw [rounds_succ]
  go_wp2_with (first
    | (refine wpl_run rfl (By (BitVec.ofInt 8 _)) _ (run_cv8 (x := .tmp 13) rfl undIt undBy rfl _) ?_; try simp only [pA])
    | (refine wpl_setR rfl 5 (.tmp 15) (.tmp 14) rfl g 2 rfl (By _) rfl szBy rfl rfl L _ h2 (by omega) ?_; intro w3 t3 h3; replace h3 := h3.byB)
    | fail)
  rw [rounds_succ]
  go_wp2_with (first
    | (refine wpl_run rfl (By (BitVec.ofInt 8 _)) _ (run_cv8 (x := .tmp 13) rfl undIt undBy rfl _) ?_; try simp only [pA])
    | (refine wpl_setR rfl 5 (.tmp 15) (.tmp 14) rfl g 3 rfl (By _) rfl szBy rfl rfl L _ h3 (by omega) ?_; intro w4 t4 h4; replace h4 := h4.byB)
    | fail)
  rw [rounds_succ]
  go_wp2
  go_end0
  exact ⟨rfl, ⟨t4.os.trans (t3.os.trans (t2.os.trans t1.os)), t4.tape.trans (t3.tape.trans (t2.tape.trans t1.tape)), t4.output.trans (t3.output.trans (t2.output.trans t1.output)), t4.size.trans (t3.size.trans (t2.size.trans t1.size)),
    fun k hk => (t4.block k hk).trans ((t3.block k hk).trans ((t2.block k hk).trans (t1.block k hk)))⟩, _, h4⟩
theorem Raw.below {w w' : World} {b n M : Nat} {f : Nat → Value} (h : Raw w b n f) (hb : Below M w w') (l : b < M) : Raw w' b n f := h.same (hb.block b l)
theorem Raw.ltN {w : World} {b n N : Nat} {f : Nat → Value} (h : Raw w b n f) (hN : Sz w N) : b < N := by
  obtain ⟨C, z, e, _⟩ := h
  have e2 : w.heap.size = N := hN
  have := (Array.getElem?_eq_some_iff.1 e).1
  omega
section
variable {P : Program} {ops : Array Oper} {rest : List Oper} {o : Oper} {a : Act} {w : World} {Q : Exit → Act → World → Prop} {x y : Operand} {T ty : TypeId}
theorem run_subI {p q : Int} (ho : o.op = .binOp .sub T x y ty) (hx : a.eval x = .int .i64 p) (hy : a.eval y = .int .i64 q) (w : World) : (execOp a.eval o).run P w = .ok (.value (.int .i64 (IntKind.i64.wrap (p - q)))) w := by
  unfold execOp; simp only [ho, hx, hy]; go_simp
theorem run_mulI {p q : Int} (ho : o.op = .binOp .mul T x y ty) (hx : a.eval x = .int .i64 p) (hy : a.eval y = .int .i64 q) (w : World) : (execOp a.eval o).run P w = .ok (.value (.int .i64 (IntKind.i64.wrap (p * q)))) w := by
  unfold execOp; simp only [ho, hx, hy]; go_simp
theorem run_iaS0 {e : TypeId} {g n' c k : Nat} (ho : o.op = .indexAddr T x y) (hx : a.eval x = .slice (some ⟨g, 0, none⟩) n' c) (hy : a.eval y = .int .i64 (k : Int)) (hu : P.underlying T = some (.slice e)) (hs : (P.info? e).map (·.size) = some 1) (hk : k < n') (w : World) : (execOp a.eval o).run P w = .ok (.value (.pointer (some ⟨g, k, none⟩))) w := by
  have h := run_iaS8 (P := P) ho hx rfl hy hu hs hk w
  rwa [Nat.zero_add] at h
theorem wpl_mx (hgd : o.guard = none) (x y : Operand) (T : TypeId) (ho : o.op = .call { callee := .builtin .max, args := #[x, y], argTypes := #[T, T] }) (n : Int) (hx : a.eval x = .int .i64 n) (hy : a.eval y = .int .i64 0)
    (h : ∀ c : Int, 0 ≤ c → wpList P ops Q rest (a.put o.dst (.int .i64 c)) w) : wpList P ops Q (o :: rest) a w := by
  refine wpList_plain hgd fun K hK => ?_
  have hrun : (Builtin.max_ #[T, T] o.type #[.int .i64 n, .int .i64 0]).run P w = .ok (.int .i64 (if 0 > n then 0 else n)) w := by
    simp [Builtin.max_, Builtin.max2]
  unfold Oper.wp
  simp [execOp, ho, resolve, invoke, builtin, hx, hy, hrun, Result.andThen]
  exact hK _ _ (h _ (by split <;> omega))
theorem wpl_mn8 (hgd : o.guard = none) (x y : Operand) (T : TypeId) (ho : o.op = .call { callee := .builtin .min, args := #[x, y], argTypes := #[T, T] }) (n : Int) (h0 : 0 ≤ n) (hx : a.eval x = .int .i64 n) (hy : a.eval y = .int .i64 8)
    (h : ∀ c : Nat, c ≤ 8 → wpList P ops Q rest (a.put o.dst (.int .i64 (c : Int))) w) : wpList P ops Q (o :: rest) a w := by
  obtain ⟨k, rfl⟩ : ∃ k : Nat, n = (k : Int) := ⟨n.toNat, by omega⟩
  exact wpl_min hgd x y T ho k 8 (min k 8) hx hy (hid rfl) (h _ (by omega))
end
set_option maxRecDepth 100000 in
theorem cut_any (D : Nat → BitVec 8) (L : Nat) (hL : 4 ≤ L) (hL2 : L ≤ 1000) (z : Int) (w : World) (N : Nat) (hN : Sz w N) :
    Calls Tryd.prog 69 #[.string (strOf D L), .int .i64 z] w fun e w' => (∃ D' : Nat → BitVec 8, e = .returned (.string (strOf D' L))) ∧ Below N w w' := by
  obtain ⟨cap, w1, hr1, hS1, hb1, r1⟩ := run_raw (P := Tryd.prog) 9 35 undBS undBB undBy w N hN D L
  have Hr1 := hid hr1
  clear hr1
  generalize strOf D L = s at Hr1 ⊢
  go_enter Tryd.func69, Tryd.ntmps69
  go_wp2_with (first
    | (refine wpl_conv2 rfl 9 35 (.tmp 8) rfl _ _ _ rfl Hr1.out ?_)
    | (go_at_call 26; refine (putNumber_any N L cap z hL D _ r1).mono ?_; rintro e w2 ⟨rfl, t2, f2, r2⟩)
    | fail)
  have hb2 : Below N w w2 := t2.below hb1 (Nat.le_refl N)
  clear Hr1 r1 hb1 hS1 t2
  go_loopw [6] (fun x6 wr => ∃ (i : Nat) (f : Nat → BitVec 8), x6 = .int .i64 (i : Int) ∧ i ≤ L ∧ Raw wr N L (fun j => By (f j)) ∧ Below N w wr) (fun x6 _ => L - (intOf x6).toNat)
  case atStart => exact ⟨4, _, rfl, hL, r2, hb2⟩
  case round =>
    clear r2 hb2
    obtain ⟨i, f, rfl, hi, r, hb⟩ := hrel
    obtain ⟨M, hM⟩ := sz_some wr
    have hNM := r.ltN hM
    by_cases h1 : i < L
    · have E := hid (show decide ((i : Int) < (L : Int)) = true from decide_eq_true (by omega))
      have hiL := hid h1
      go_upto_region 7 with (first
        | ((with_reducible show wpList _ _ _ (_ :: _) _ _); first
          | (refine wpl_run rfl (.int .i64 (L : Int)) _ (run_lenL (x := .tmp 14) rfl undBB rfl _) ?_; try simp only [pA])
          | (refine wpl_run rfl (.bool true) _ (run_lssK (x := .tmp 13) rfl rfl rfl E.out _) ?_; try simp only [pA])
          | (refine wpl_run rfl (.int .i64 (IntKind.i64.wrap _)) _ (run_subI (x := .tmp 20) rfl rfl rfl _) ?_; try simp only [pA])
          | (refine wpl_run rfl (.int .i64 (IntKind.i64.wrap _)) _ (run_mulI (y := .tmp 21) rfl rfl rfl _) ?_; try simp only [pA])
          | (refine wpl_run rfl (.int .i64 (IntKind.i64.wrap _)) _ (run_subI (x := .tmp 19) rfl rfl rfl _) ?_; try simp only [pA])
          | (refine wpl_mx rfl (.tmp 23) (.const (.int .i64 0)) 3 rfl _ rfl rfl ?_; intro cm hcm; try simp only [pA])
          | (refine wpl_mn8 rfl (.tmp 24) (.const (.int .i64 8)) 3 rfl _ hcm rfl rfl ?_; intro c hc8; try simp only [pA]))
        | fail)
      have hce : wr.cell? ⟨N, i, none⟩ = some (By (f i)) := r.cell h1
      have c0 : (0 : Int) ≤ (c : Int) := by omega
      have c8 : (c : Int) ≤ 8 := by omega
      clear E hcm
      refine wp_region_later_tail M 9 (by kernel_rfl) (by kernel_rfl) ?_
      simp only [List.take_succ_cons, List.take_zero, List.drop_succ_cons, List.drop_zero]
      go_big_quiet_step (fail)
      go_big_quiet_step (fail)
      refine later_val (v := .pointer (some ⟨N, i, none⟩)) (fun q => run_iaS0 (x := .tmp 26) (y := .tmp 27) rfl rfl rfl undBB szBy h1 _) (by rfl) ?_; try simp only [pA]
      refine later_val (v := .int .u8 (v8 (f i))) (fun q => run_cell1 (x := .tmp 28) 5 rfl rfl undBy rfl (Later.cell hM hce q)) (by rfl) ?_; try simp only [pA]
      go_big_quiet_step (fail)
      go_big_quiet_step (fail)
      go_big_quiet_step (fail)
      go_big_quiet_step (fail)
      refine later_val (v := .pointer (some ⟨N, i, none⟩)) (fun q => run_iaS0 (x := .tmp 26) (y := .tmp 27) rfl rfl rfl undBB szBy h1 _) (by rfl) ?_; try simp only [pA]
      refine wpQuiet_nil ?_
      rintro w5 ⟨x5, e5⟩
      have hb5 := x5.b
      rw [← e5] at hb5
      have r5 := r.below hb5 hNM
      have hbb := hb.trans (hb5.mono (by omega))
      clear e5 x5 hb5 hce r hb
      rw [msk_val c hc8 (f i)]
      go_wp2_with (first
        | (refine wpl_setR rfl 5 (.tmp 34) (.tmp 33) rfl N i rfl (By (msk c (f i))) rfl szBy rfl rfl L _ r5 h1 ?_; intro w6 t6 r6; replace r6 := r6.byB; try simp only [pA])
        | ((with_reducible show wpList _ _ _ (_ :: _) _ _); first
          | (refine wpl_run rfl (.int .i64 ((i + 1 : Nat) : Int)) _ (run_inc (x := .tmp 17) rfl rfl rfl rfl (by omega) _) ?_; try simp only [pA]))
        | fail)
      exact ⟨⟨i + 1, _, rfl, by omega, r6, t6.below hbb (Nat.le_refl N)⟩, by simp [intOf]; omega⟩
    · have E := hid (show decide ((i : Int) < (L : Int)) = false from decide_eq_false (by omega))
      obtain rfl : i = L := by omega
      have Hcv := hid (run_string (P := Tryd.prog) wr 35 9 5 undBB undBy undBS (some ⟨N, 0, none⟩) i cap f r.ats)
      go_wp2_with (first
        | (refine wpl_conv rfl 35 9 (.tmp 35) rfl _ (.string (strOf f i)) rfl Hcv.out ?_; try simp only [pA])
        | ((with_reducible show wpList _ _ _ (_ :: _) _ _); first
          | (refine wpl_run rfl (.int .i64 (i : Int)) _ (run_lenL (x := .tmp 14) rfl undBB rfl _) ?_; try simp only [pA])
          | (refine wpl_run rfl (.bool false) _ (run_lssK (x := .tmp 13) rfl rfl rfl E.out _) ?_; try simp only [pA]))
        | fail)
      go_ret
      exact ⟨⟨f, rfl⟩, hb⟩
end Go.Proofs.YtjdclgnlnehjlaaDoor
