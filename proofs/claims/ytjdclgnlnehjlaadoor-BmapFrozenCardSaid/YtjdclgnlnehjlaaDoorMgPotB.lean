/- Sum and Joined of digest. A region that draws its order: values that are what they are, and new rows of bytes. Nothing of the program. -/
import Derived.Test.YtjdclgnlnehjlaaDoorDig3
import Derived.Test.YtjdclgnlnehjlaaDoorInns
import Derived.Lib.ConvBytes
import Derived.Lib.AtoiErrMem
namespace Go.Proofs.YtjdclgnlnehjlaaDoor
open Go Go.RowKit Sha
/-- Bytes that lie in a row from a place on. -/
def Bytes (w : World) (p : Option Addr) (n : Nat) (D : Nat → BitVec 8) : Prop :=
  0 < n → ∃ bb off, p = some ⟨bb, off, none⟩ ∧ ∀ j, j < n → w.cell? ⟨bb, off + j, none⟩ = some (By (D j))
theorem Bytes.src {w w1 : World} {p : Option Addr} {n N R : Nat} {D : Nat → BitVec 8} (h : Bytes w p n D) (hN : Sz w N) (hb : Below N w w1) (hR : N ≤ R) : Src w1 R p n D := fun h0 => by
  obtain ⟨bb, off, e, hc⟩ := h h0
  have hbb : bb < N := by
    have := World.block_lt_of_cell? w _ (hc 0 h0)
    have e : w.heap.size = N := hN
    simp only at this
    omega
  exact ⟨bb, off, e, by omega, fun j hj => by rw [hb.cell (p := ⟨bb, off + j, none⟩) hbb]; exact hc j hj⟩
theorem Bytes.below {w w1 : World} {p : Option Addr} {n N : Nat} {D : Nat → BitVec 8} (h : Bytes w p n D) (hN : Sz w N) (hb : Below N w w1) : Bytes w1 p n D := fun h0 => by
  obtain ⟨bb, off, e, _, hc⟩ := h.src hN hb (Nat.le_refl N) h0
  exact ⟨bb, off, e, hc⟩
theorem run0_f : run0.f < 64 := by decide
/-- A text among several: where its slice leads, its bytes. -/
structure Part where
  q : Option Addr
  n : Nat
  cap : Nat
  D : Nat → BitVec 8
/-- Texts that lie in a row from a place on. -/
def Parts (w : World) (p : Option Addr) (n : Nat) (S : Nat → Part) : Prop :=
  0 < n → ∃ bb off, p = some ⟨bb, off, none⟩ ∧ ∀ j, j < n → w.cell? ⟨bb, off + j, none⟩ = some (.slice (S j).q (S j).n (S j).cap) ∧ (S j).n ≤ (S j).cap ∧ Bytes w (S j).q (S j).n (S j).D
def joinDg (S : Nat → Part) : Nat → Run
  | 0 => run0
  | k + 1 => feed (feed (joinDg S k) (be8 (S k).n) 8) (S k).D (S k).n
def joinL (S : Nat → Part) : Nat → Nat
  | 0 => 0
  | k + 1 => joinL S k + 8 + (S k).n
theorem joinL_mono (S : Nat → Part) (k : Nat) : ∀ n, k ≤ n → joinL S k ≤ joinL S n
  | 0, h => by obtain rfl : k = 0 := by omega
               exact Nat.le_refl _
  | n + 1, h => by
    by_cases e : k = n + 1
    · rw [e]; exact Nat.le_refl _
    · have := joinL_mono S k n (by omega)
      simp only [joinL]; omega
theorem joinR_f (S : Nat → Part) : ∀ k, (joinDg S k).f < 64
  | 0 => run0_f
  | k + 1 => feed_f _ _ (feed_f _ _ (joinR_f S k) 8) _
/-- What Joined tells. -/
def joinD (S : Nat → Part) (n : Nat) : Nat → BitVec 8 := sumByte (joinDg S n) (joinL S n)
set_option maxRecDepth 100000 in
theorem JoinedDg_any (p : Option Addr) (n cap : Nat) (S : Nat → Part) (w : World) (N : Nat) (hN : Sz w N) (hT : Tabs w) (hn : joinL S n ≤ 900000) (hS : Parts w p n S) :
    Calls Tryd.prog 36 #[.slice p n cap] w fun e w' => e = .returned (.agg (cellsOf (fun j => By (joinD S n j)) 32)) ∧ Below N w w' := by
  have hTN := hT.ltN hN
  have hnn : n ≤ 900000 := by
    have : ∀ k, k ≤ joinL S k := fun k => by
      induction k with
      | zero => exact Nat.zero_le _
      | succ k ih => simp only [joinL]; omega
    have := this n
    omega
  go_enter Tryd.func36, Tryd.ntmps36
  go_wp2_with (first
    | (refine wpl_alloc rfl 40 rfl 32 _ zer23 N hN ?_; intro w1 hN1 hb1 h1)
    | (go_at_call 63; refine (begin_any _ (N + 1) hN1 (hT.below hb1 hTN)).mono ?_; rintro e w2 ⟨rfl, hb2⟩; obtain ⟨M, hM⟩ := sz_some w2; have hNM := below_sz hb2 hN1 hM)
    | (refine wpl_alloc rfl 112 rfl 74 _ zer81 M hM ?_; intro w3 hN3 hb3 h3)
    | (refine wpl_store rfl 112 (.tmp 3) (.tmp 6) rfl M 74 _ rfl rfl 112 _ h3 inf81 (one_rc _ _) ?_; intro w4 ht4 h4)
    | fail)
  have hb4 : Below N w w4 := ht4.below ((hb1.trans (hb2.mono (by omega))).trans (hb3.mono (by omega))) (by omega)
  have q1 := ((h1.below hb2 (by omega)).below hb3 (by omega)).touch ht4 (by omega)
  go_loopw [9] (fun i wr => ∃ k : Nat, k ≤ n ∧ i = .int .i64 k ∧ Has wr M 112 74 (rc (joinDg S k) ((joinL S k : Nat) : Int)) ∧ Has wr N 40 32 (fun _ => By 0) ∧ Below N w wr)
    (fun i _ => n - (intOf i).toNat)
  case atStart => exact ⟨0, by omega, rfl, h4, q1, hb4⟩
  case round =>
    clear h4 q1 hb4
    obtain ⟨k, hk, rfl, q, q1, qb⟩ := hrel
    by_cases hlt : k < n
    · obtain ⟨bb, off, rfl, hc⟩ := hS (by omega)
      obtain ⟨hc1, hc2, hc3⟩ := hc k hlt
      have hbb : bb < N := by
        have := World.block_lt_of_cell? w _ hc1
        have e : w.heap.size = N := hN
        simp only at this
        omega
      have d1 : wr.cell? ⟨bb, off + k, none⟩ = some (.slice (S k).q (S k).n (S k).cap) := by rw [qb.cell (p := ⟨bb, off + k, none⟩) hbb]; exact hc1
      have hL1 : joinL S (k + 1) ≤ 900000 := Nat.le_trans (joinL_mono S (k + 1) n (by omega)) hn
      have hL2 : joinL S k + 8 + (S k).n ≤ 900000 := hL1
      have hMr := q.lt
      clear hc hL1
      go_wp2_with (first
        | (go_at_call 64; refine (takeNumber_any M (joinDg S k) (joinL S k) (S k).n _ (hT.below qb hTN) (by omega) (joinR_f S k) q (by omega)).mono ?_; rintro e w5 ⟨rfl, hm5, h5⟩; have hb5 := hm5.below qb (by omega) (by omega); have hs5 := hc3.src hN hb5 (R := M) (by omega); have hM5 := h5.lt)
        | (go_at_call 65; refine (take_any M _ (joinL S k + 8) (S k).n (S k).cap _ (S k).D _ (hT.below hb5 hTN) (by omega) (feed_f _ _ (joinR_f S k) 8) h5 (by omega) hc2 hs5).mono ?_; rintro e w6 ⟨rfl, hm6, h6⟩; have hb6 := hm6.below hb5 (by omega) (by omega))
        | fail)
      exact ⟨⟨k + 1, by omega, by go_num, h6, (q1.mod hm5 (by omega)).mod hm6 (by omega), hb6⟩, by simp [intOf]; omega⟩
    · obtain rfl : n = k := by omega
      have hMr := q.lt
      go_wp2_with (first
        | (go_at_call 66; refine (end_any M (joinDg S n) (joinL S n) _ (hT.below qb hTN) (by omega) (joinR_f S n) q (by omega)).mono ?_; rintro e w6 ⟨rfl, hm6⟩; have h6 := q1.mod hm6 (by omega); have hb6 := hm6.below qb (by omega) (by omega))
        | (refine wpl_store rfl 40 (.tmp 2) (.tmp 20) rfl N 32 _ rfl rfl 40 _ h6 inf23 (fun _ _ => rfl) ?_; intro w7 ht7 h7)
        | fail)
      exact post_cell Tryd.results36 N rfl h7 _ und23 rfl inf23 rfl ⟨rfl, ht7.below hb6 (Nat.le_refl N)⟩
end Go.Proofs.YtjdclgnlnehjlaaDoor
namespace Go.Proofs.YtjdclgnlnehjlaaDoor
open Go Go.RowKit
section
variable {P : Program} {ops : Array Oper} {Q : Exit → Act → World → Prop} {i : Nat} {o : Oper} {K : Act → World → Prop} {a : Act} {w : World}
theorem op_listB (hi : ops[i]? = some o) (h : wpList P ops (behind Q K) [o] a w) : wpOp P ops Q i K a w :=
  wpOp_one (by simp only [List.filterMap_cons, hi, List.filterMap_nil]; exact h)
/-- A function that has a body. -/
def bodiedB (P : Program) (g : FuncId) : Bool := match P.funcs[g]? with | some fn => fn.name != "runtime.NumGoroutine" && fn.body.isSome | none => false
theorem op_callB (hi : ops[i]? = some o) (hg : o.guard = none) (g : FuncId) (xs : Array Operand) (ts : Array TypeId) (ho : o.op = .call { callee := .value (.func g), args := xs, argTypes := ts }) (vs : Array Value) (hx : xs.map a.eval = vs)
    (hb : bodiedB P g = true) (r : Value) (R : World → Prop) (hc : Calls P g vs w fun e w' => e = .returned r ∧ R w') (h : ∀ w', R w' → K (a.put o.dst r) w') : wpOp P ops Q i K a w := by
  refine op_listB hi (wpList_plain hg fun K' hK => ?_)
  have hrun : (execOp a.eval o).run P w = .ok (.enter g vs) w := by
    unfold bodiedB at hb
    cases hf : P.funcs[g]? with
    | none => rw [hf] at hb; cases hb
    | some fn =>
      rw [hf] at hb
      simp only [Bool.and_eq_true, bne_iff_ne, ne_eq] at hb
      have h2 : ¬ fn.body = none := fun e => by rw [e] at hb; exact absurd hb.2 (by simp)
      simp [execOp, ho, resolve, invoke, hx, Act.eval, Deferred.ofValue, callFunc, hf, hb.1, h2]
  unfold Oper.wp
  rw [hrun, Oper.upon_enter]
  refine hc.mono fun e w' hh => ?_
  obtain ⟨rfl, hR⟩ := hh
  exact hK _ _ (h _ hR)
end
/-- A new row of bytes. -/
def RowB (N n : Nat) (D : Nat → BitVec 8) (b cap : Nat) (w : World) : Prop := N ≤ b ∧ n ≤ cap ∧ b < w.heap.size ∧ Bytes w (some ⟨b, 0, none⟩) n D
theorem RowB.keep {N n M : Nat} {D : Nat → BitVec 8} {b cap : Nat} {w w' : World} (h : RowB N n D b cap w) (hM : Sz w M) (hb : Below M w w') : RowB N n D b cap w' := ⟨h.1, h.2.1, Nat.lt_of_lt_of_le h.2.2.1 hb.size, h.2.2.2.below hM hb⟩
/-- What is told of such an operation's value: it is that one, or a new row of bytes; of the one at 8 it is a list of two such rows. -/
def FB (TL N : Nat) (V : Nat → Option Value) (n : Nat → Nat) (D : Nat → Nat → BitVec 8) (j : Nat) (v : Value) (w : World) : Prop :=
  match V j with
  | some u => v = u
  | none => if j = 8 then ∃ b b3 c3 b7 c7, v = .slice (some ⟨b, 0, none⟩) 2 2 ∧ Has w b TL 2 (fun i => if i = 0 then .slice (some ⟨b3, 0, none⟩) (n 3) c3 else .slice (some ⟨b7, 0, none⟩) (n 7) c7) ∧ RowB N (n 3) (D 3) b3 c3 w ∧ RowB N (n 7) (D 7) b7 c7 w
    else ∃ b cap, v = .slice (some ⟨b, 0, none⟩) (n j) cap ∧ RowB N (n j) (D j) b cap w
def NoBB (_ _ : Nat) (_ _ : Value) : Prop := True
section
variable {TL N M : Nat} {V : Nat → Option Value} {n : Nat → Nat} {D : Nat → Nat → BitVec 8} {j : Nat} {u v : Value} {w w' : World}
theorem FB.keep (h : FB TL N V n D j u w) (hM : Sz w M) (hb : Below M w w') : FB TL N V n D j u w' := by
  unfold FB at h ⊢
  cases e : V j with
  | some r => rw [e] at h; exact h
  | none =>
    rw [e] at h
    by_cases h8 : j = 8
    · simp only [if_pos h8] at h ⊢
      obtain ⟨b, b3, c3, b7, c7, h1, h2, h3, h4⟩ := h
      exact ⟨b, b3, c3, b7, c7, h1, h2.below hb (h2.ltN hM), h3.keep hM hb, h4.keep hM hb⟩
    · simp only [if_neg h8] at h ⊢
      obtain ⟨b, cap, h1, h2⟩ := h
      exact ⟨b, cap, h1, h2.keep hM hb⟩
theorem FB.val (h : FB TL N V n D j v w) {r : Value} (e : V j = some r) : v = r := by unfold FB at h; rw [e] at h; exact h
theorem FB.row (h : FB TL N V n D j v w) (e : V j = none) (h8 : j ≠ 8) : ∃ b cap, v = .slice (some ⟨b, 0, none⟩) (n j) cap ∧ RowB N (n j) (D j) b cap w := by unfold FB at h; rw [e] at h; simp only [if_neg h8] at h; exact h
theorem FB.two (h : FB TL N V n D 8 v w) (e : V 8 = none) : ∃ b b3 c3 b7 c7, v = .slice (some ⟨b, 0, none⟩) 2 2 ∧ Has w b TL 2 (fun i => if i = 0 then .slice (some ⟨b3, 0, none⟩) (n 3) c3 else .slice (some ⟨b7, 0, none⟩) (n 7) c7) ∧ RowB N (n 3) (D 3) b3 c3 w ∧ RowB N (n 7) (D 7) b7 c7 w := by unfold FB at h; rw [e] at h; simp only [if_pos] at h; exact h
theorem FB.mk_row {b cap : Nat} (e : V j = none) (h8 : j ≠ 8) (h : RowB N (n j) (D j) b cap w) : FB TL N V n D j (.slice (some ⟨b, 0, none⟩) (n j) cap) w := by unfold FB; rw [e]; simp only [if_neg h8]; exact ⟨b, cap, rfl, h⟩
theorem FB.mk_two {b b3 c3 b7 c7 : Nat} (e : V 8 = none) (h : Has w b TL 2 (fun i => if i = 0 then .slice (some ⟨b3, 0, none⟩) (n 3) c3 else .slice (some ⟨b7, 0, none⟩) (n 7) c7)) (h3 : RowB N (n 3) (D 3) b3 c3 w) (h7 : RowB N (n 7) (D 7) b7 c7 w) : FB TL N V n D 8 (.slice (some ⟨b, 0, none⟩) 2 2) w := by
  unfold FB; rw [e]; simp only [if_pos]; exact ⟨b, b3, c3, b7, c7, rfl, h, h3, h7⟩
end
section
variable {P : Program} {ops : Array Oper} {Q : Exit → Act → World → Prop} {i : Nat} {o : Oper} {a : Act} {w w0 : World} {TL N : Nat} {V : Nat → Option Value} {n : Nat → Nat} {D : Nat → Nat → BitVec 8} {rem : List Nat}
/-- What each step owes. -/
def potB' (ops : Array Oper) (w0 : World) (TL N : Nat) (V : Nat → Option Value) (n : Nat → Nat) (D : Nat → Nat → BitVec 8) (rem : List Nat) (i : Nat) (a : Act) (w : World) : Act → World → Prop := fun a' w' =>
  ∃ v, a' = a.put (dstOf ops i) v ∧ FB TL N V n D i v w' ∧ Below N w0 w' ∧ ∀ j ∈ rem, ∀ u, j ≠ i → FB TL N V n D j u w → FB TL N V n D j u w' ∧ NoBB j i u v ∧ NoBB i j v u
theorem pob_step (hi : ops[i]? = some o) (r : Value) (hN : Sz w0 N) (hI : Below N w0 w) (w' : World) (hb : ∀ M, Sz w M → Below M w w') (hF : FB TL N V n D i r w') : potB' ops w0 TL N V n D rem i a w (a.put o.dst r) w' := by
  obtain ⟨M, hM⟩ := sz_some w
  have l := below_sz hI hN hM
  exact ⟨r, by unfold dstOf; rw [hi]; rfl, hF, hI.trans ((hb M hM).mono l), fun j _ u _ h => ⟨h.keep hM (hb M hM), trivial, trivial⟩⟩
theorem pob_run (hi : ops[i]? = some o) (hg : o.guard = none) (r : Value) (hV : V i = some r) (hrun : (execOp a.eval o).run P w = .ok (.value r) w) (hN : Sz w0 N) (hI : Below N w0 w) : wpOp P ops Q i (potB' ops w0 TL N V n D rem i a w) a w := by
  refine op_listB hi (wpList_plain hg fun K' hK => ?_)
  unfold Oper.wp
  rw [hrun]
  exact hK _ _ (pob_step hi r hN hI w (fun M _ => Below.refl M w) (by unfold FB; rw [hV]))
/-- A call that tells a new row of bytes. -/
theorem pob_call (hi : ops[i]? = some o) (hg : o.guard = none) (g : FuncId) (xs : Array Operand) (ts : Array TypeId) (ho : o.op = .call { callee := .value (.func g), args := xs, argTypes := ts }) (vs : Array Value) (hx : xs.map a.eval = vs)
    (hbd : bodiedB P g = true) (cap : Nat) (hc : ∀ M, Sz w M → Calls P g vs w fun e w' => e = .returned (.slice (some ⟨M, 0, none⟩) (n i) cap) ∧ Below M w w' ∧ Sz w' (M + 1) ∧ Bytes w' (some ⟨M, 0, none⟩) (n i) (D i)) (hcap : n i ≤ cap) (h8 : i ≠ 8) (hV : V i = none) (hN : Sz w0 N) (hI : Below N w0 w) : wpOp P ops Q i (potB' ops w0 TL N V n D rem i a w) a w := by
  obtain ⟨M, hM⟩ := sz_some w
  have l := below_sz hI hN hM
  refine op_callB hi hg g xs ts ho vs hx hbd _ (fun w' => Below M w w' ∧ Sz w' (M + 1) ∧ Bytes w' (some ⟨M, 0, none⟩) (n i) (D i)) ((hc M hM).mono (fun e w' h => ⟨h.1, h.2⟩)) (fun w' hb => pob_step hi _ hN hI w' (fun M' hM' => ?_) ?_)
  · obtain rfl : M = M' := hM.symm.trans hM'
    exact hb.1
  · exact FB.mk_row hV h8 ⟨l, hcap, by have e : w'.heap.size = M + 1 := hb.2.1; omega, hb.2.2⟩
/-- A text's bytes: a new row. -/
theorem pob_conv (hi : ops[i]? = some o) (hg : o.guard = none) {src dst e : TypeId} {x : Operand} (ho : o.op = .convert src dst x) (hs : P.underlying src = some .string) (hd : P.underlying dst = some (.slice e)) (he : P.underlying e = some (.int .u8)) (s : ByteArray) (hx : a.eval x = .string s) (hn : n i = s.size) (hD : D i = fun j => BitVec.ofNat 8 (s.data.toList.getD j 0).toNat) (h8 : i ≠ 8) (hV : V i = none) (hN : Sz w0 N) (hI : Below N w0 w) : wpOp P ops Q i (potB' ops w0 TL N V n D rem i a w) a w := by
  obtain ⟨M, hM⟩ := sz_some w
  have l := below_sz hI hN hM
  have eM : w.heap.size = M := hM
  refine op_listB hi (wpList_plain hg fun K' hK => ?_)
  have hrun := Lib.run_convert_string_bytes (P := P) w src dst e s hs hd he
  unfold Oper.wp execOp
  simp only [ho, hx, Sem.run_bind, hrun, Result.andThen_ok, Sem.run_pure]
  refine hK _ _ (pob_step hi _ hN hI _ (fun M' hM' => ?_) ?_)
  · have h := Lib.bytesWorld_below w e s
    rwa [show w.heap.size = M' from hM'] at h
  · have hsl : Value.slice (some ⟨w.heap.size, 0, none⟩) s.size (grownCap w s.size 0 e) = .slice (some ⟨M, 0, none⟩) (n i) (grownCap w s.size 0 e) := by rw [hn, eM]
    rw [hsl]
    refine FB.mk_row hV h8 ⟨l, by rw [hn]; have := grownCap_ge w s.size 0 e; omega, by rw [Lib.bytesWorld_size]; omega, fun h0 => ⟨M, 0, rfl, fun j hj => ?_⟩⟩
    rw [hn] at hj
    have hc := Lib.bytesWorld_cell w e s j hj
    rw [eM] at hc
    rw [Nat.zero_add, hc, hD]
    show _ = some (Value.int .u8 (((BitVec.ofNat 8 (s.data.toList.getD j 0).toNat).toNat : Nat) : Int))
    rw [BitVec.toNat_ofNat, Nat.mod_eq_of_lt (s.data.toList.getD j 0).toNat_lt]
/-- A list of the two rows. -/
theorem pob_two {u3 u7 : Value} (hi : ops[8]? = some o) (hl : ∀ (K' : Act → World → Prop) (M : Nat), Sz w M → (∀ w1, Sz w1 (M + 1) → Below M w w1 → Has w1 M TL 2 (fun i => if i = 0 then u3 else u7) → K' (a.put o.dst (.slice (some ⟨M, 0, none⟩) 2 2)) w1) → wpOp P ops Q 8 K' a w)
    (h3 : ∃ b c, u3 = .slice (some ⟨b, 0, none⟩) (n 3) c ∧ RowB N (n 3) (D 3) b c w) (h7 : ∃ b c, u7 = .slice (some ⟨b, 0, none⟩) (n 7) c ∧ RowB N (n 7) (D 7) b c w) (hV : V 8 = none) (hN : Sz w0 N) (hI : Below N w0 w) : wpOp P ops Q 8 (potB' ops w0 TL N V n D rem 8 a w) a w := by
  obtain ⟨M, hM⟩ := sz_some w
  obtain ⟨b3, c3, rfl, r3⟩ := h3
  obtain ⟨b7, c7, rfl, r7⟩ := h7
  refine hl _ M hM (fun w1 hM1 hb1 hh => pob_step hi _ hN hI w1 (fun M' hM' => ?_) (FB.mk_two hV hh (r3.keep hM hb1) (r7.keep hM hb1)))
  obtain rfl : M = M' := hM.symm.trans hM'
  exact hb1
end
end Go.Proofs.YtjdclgnlnehjlaaDoor
