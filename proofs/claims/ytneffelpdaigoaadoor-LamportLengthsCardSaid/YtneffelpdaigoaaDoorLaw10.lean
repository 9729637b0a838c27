/- The law DigestJoins: its walk. -/
import Derived.Test.YtneffelpdaigoaaDoorLaw9
import Derived.Test.YtneffelpdaigoaaDoorInn
namespace Go.Proofs.YtneffelpdaigoaaDoor
open Go Go.RowKit Sha
/-- What min runs to. -/
theorem run_min_op {P : Program} {o : Oper} {a : Act} (x y : Operand) (T : TypeId) (ho : o.op = .call { callee := .builtin .min, args := #[x, y], argTypes := #[T, T] }) (n m c : Nat) (hx : a.eval x = .int .i64 (n : Int)) (hy : a.eval y = .int .i64 (m : Int)) (hc : Hid (c = min n m)) (w : World) :
    (execOp a.eval o).run P w = .ok (.value (.int .i64 (c : Int))) w := by
  have e : (if (m : Int) < (n : Int) then (m : Int) else (n : Int)) = (c : Int) := by have := hc.out; split <;> omega
  have hrun : (Builtin.min_ #[T, T] o.type #[.int .i64 (n : Int), .int .i64 (m : Int)]).run P w = .ok (.int .i64 (c : Int)) w := by
    rw [run_min_int2, e]
  simp [execOp, ho, resolve, invoke, builtin, hx, hy, hrun, Result.andThen]
def twoV (a b : Value) : Nat → Value := fun j => if j = 0 then a else b
theorem own_two (w : World) (a b : Value) (t : TypeId) : Own (w.alloc (.cells #[a, b] t)) t (some ⟨w.heap.size, 0, none⟩) 2 2 (twoV a b) :=
  .inr ⟨w.heap.size, #[a, b], rfl, heap_alloc_new w _, Nat.le_refl 2, rfl, fun j hj => by
    rcases (show j = 0 ∨ j = 1 by omega) with rfl | rfl <;> rfl⟩
/-- The first text parted at c; the others behind it. -/
def splitP (s0 : Part) (c : Nat) (S : Nat → Part) : Nat → Part := fun j => if j = 0 then ⟨s0.q, c, s0.cap, s0.D⟩ else if j = 1 then ⟨cutAt s0.q s0.cap c, s0.n - c, s0.cap - c, fun i => s0.D (c + i)⟩ else S (j - 1)
theorem split_le (s0 : Part) (c : Nat) (S : Nat → Part) (m : Nat) (h0 : s0.n ≤ m) (h : ∀ j, (S j).n ≤ m) (j : Nat) (hc : c ≤ s0.n) : (splitP s0 c S j).n ≤ m := by
  unfold splitP
  split
  · exact Nat.le_trans hc h0
  · split
    · show s0.n - c ≤ m; omega
    · exact h _
theorem split_parts {w w' : World} {M : Nat} {p : Option Addr} {k K cl g : Nat} {s0 : Part} {c : Nat} {S : Nat → Part} {q : Option Addr} (hM : Sz w M) (hb : Below M w w') (ho : Own w' g p K cl (cat (twoV (.slice s0.q c s0.cap) (.slice (cutAt s0.q s0.cap c) (s0.n - c) (s0.cap - c))) 2 (fun j => .slice (S (j + 1)).q (S (j + 1)).n (S (j + 1)).cap)))
    (hc : c ≤ s0.n) (h2 : s0.n ≤ s0.cap) (h3 : Bytes w s0.q s0.n s0.D) (hP : Parts w q k S) (hK : K ≤ k + 1 ∧ 0 < k) : Parts w' p K (splitP s0 c S) := fun h0 => by
  obtain ⟨b, e, hcell⟩ := ho.cell h0
  obtain ⟨bb, off, _, hparts⟩ := hP hK.2
  refine ⟨b, 0, e, fun j hj => ?_⟩
  have hj' := hcell j hj
  unfold splitP
  by_cases e0 : j = 0
  · subst e0
    rw [if_pos rfl]
    refine ⟨hj', Nat.le_trans hc h2, fun h00 => ?_⟩
    obtain ⟨b2, o2, e2, h4⟩ := h3.below hM hb (Nat.lt_of_lt_of_le h00 hc)
    exact ⟨b2, o2, e2, fun i hi => h4 i (Nat.lt_of_lt_of_le hi hc)⟩
  · rw [if_neg e0]
    by_cases e1 : j = 1
    · subst e1
      rw [if_pos rfl]
      refine ⟨hj', by show s0.n - c ≤ s0.cap - c; omega, fun h00 => ?_⟩
      have h00' : 0 < s0.n - c := h00
      obtain ⟨b2, o2, e2, h4⟩ := h3.below hM hb (by omega)
      refine ⟨b2, o2 + c, by show cutAt s0.q s0.cap c = _; rw [e2]; exact cutAt_lt b2 o2 s0.cap c (by omega), fun i hi => ?_⟩
      have hi' : i < s0.n - c := hi
      rw [Nat.add_assoc]
      exact h4 (c + i) (by omega)
    · rw [if_neg e1]
      obtain ⟨_, q2, q3⟩ := hparts (j - 1) (by omega)
      refine ⟨?_, q2, q3.below hM hb⟩
      rw [hj']
      simp only [cat]
      rw [if_neg (by omega), show j - 2 + 1 = j - 1 from by omega]
theorem inf22 : (Tryd.prog.info? 22).map (·.size) = some 1 := by kernel_rfl
theorem joinL_bnd (S : Nat → Part) (c : Nat) : ∀ k, (∀ j, j < k → (S j).n ≤ c) → joinL S k ≤ (8 + c) * k
  | 0, _ => Nat.zero_le _
  | k + 1, h => by
    have h1 := joinL_bnd S c k (fun j hj => h j (by omega))
    have h2 := h k (by omega)
    rw [joinL, Nat.mul_succ]; omega
set_option maxRecDepth 100000 in
set_option maxHeartbeats 1000000 in
theorem law_joins (p : Option Addr) (n cap : Nat) (z : Int) (S0 : Nat → Part) (w : World) (N : Nat) (hN : Sz w N) (hT : Tabs w) (hS : Parts w p n S0) :
    Calls Tryd.prog 4 #[.slice p n cap, .int .i64 z] w fun e w' => e = .returned (.bool true) ∧ Below N w w' := by
  have hTN := hT.ltN hN
  obtain ⟨S, hSdef⟩ : ∃ S, S = fun k => cutP 40 (S0 k) := ⟨_, rfl⟩
  have HS := hid hSdef
  clear hSdef
  go_enter Tryd.func4, Tryd.ntmps4
  go_wp2_with fail
  go_loopw [5, 6] (fun l i wr => ∃ (k cl : Nat) (pl : Option Addr), k ≤ n ∧ k ≤ 6 ∧ i = .int .i64 k ∧ l = .slice pl k cl ∧
      Own wr 22 pl k cl (fun j => .slice (S j).q (S j).n (S j).cap) ∧ Below N w wr ∧ (∀ g, blk pl = some g → N ≤ g))
    (fun _ i _ => 6 - (intOf i).toNat)
  case atStart => exact ⟨0, 0, none, by omega, by omega, rfl, rfl, Own.nil _ _ _, Below.refl _ _, fun g hg => (by cases hg)⟩
  case round =>
    obtain ⟨k, cl, pl, hk, hk6, rfl, rfl, hl, qb, hpl⟩ := hrel
    by_cases hlt : k < n ∧ k < 6
    · obtain ⟨hlt1, hlt2⟩ := hlt
      obtain ⟨bb, off, rfl, hparts⟩ := hS (by omega)
      obtain ⟨hc1, hc2, hc3⟩ := hparts k hlt1
      have hbb : bb < N := by
        have := World.block_lt_of_cell? w _ hc1
        have e : w.heap.size = N := hN
        simp only at this
        omega
      have d1 : wr.cell? ⟨bb, off + k, none⟩ = some (.slice (S0 k).q (S0 k).n (S0 k).cap) := by rw [qb.cell (p := ⟨bb, off + k, none⟩) hbb]; exact hc1
      have hSk : S k = ⟨(S0 k).q, min (S0 k).n 40, (S0 k).cap, (S0 k).D⟩ := by rw [HS.out]; rfl
      have HSk := hid hSk
      clear hSk hparts
      obtain ⟨m, hm⟩ : ∃ m, m = min (S0 k).n 40 := ⟨_, rfl⟩
      have Hm := hid hm
      have hm1 : m ≤ (S0 k).n := by omega
      clear hm
      have hsl : ∀ w, (Instr.sliceAt 22 (.slice (S0 k).q (S0 k).n (S0 k).cap) none (some (.int .i64 (m : Int))) none).run Tryd.prog w = .ok (.slice (S0 k).q m (S0 k).cap) w := run_cut_head 22 5 und22 inf5 _ _ _ m (by omega)
      have hlt3 : (k : Int) < (n : Int) := by omega
      have hlt4 : (k : Int) < 6 := by omega
      have hk0 : (0 : Int) ≤ (k : Int) := by omega
      go_wp2_with fail
      have hcl : ∀ x : Inn (fun w' => Below N w w'), x.w'.cell? ⟨bb, off + k, none⟩ = some (.slice (S0 k).q (S0 k).n (S0 k).cap) := fun x => by rw [x.h.cell (p := ⟨bb, off + k, none⟩) hbb]; exact hc1
      have hne := inn_ne (I := fun w' => Below N w w') qb
      refine wp_region_inn (fun w' => Below N w w') qb.drew (by kernel_rfl) ?_
      refine anyI_reads [0, 1, 2, 3, 4, 5, 6, 7, 8, 9, 10, 11] _ _ _ qb.drew (by kernel_rfl) (fun _ _ _ d _ h => by cases d <;> exact h) ?_
      simp only [pickO, List.map_cons, List.map_nil, List.getElem?_toArray, List.getElem?_cons_succ, List.getElem?_cons_zero, Option.getD_some]
      repeat first | (refine inn_val (fun x => run_min_op (.tmp 29) (.const (.int .i64 40)) 3 rfl (S0 k).n 40 m rfl rfl Hm x.w') (by rfl) ?_; simp only [Act.put, List.setIfInBounds_toArray, List.set_cons_succ, List.set_cons_zero]) | (go_big_quiet_step (fail))
      refine wpQuiet_nil ?_
      clear hcl hsl d1
      refine anyI_part [12, 13, 14] _ _ _ _ (by kernel_rfl) ?_
      simp only [List.filterMap_cons, List.filterMap_nil, List.getElem?_toArray, List.getElem?_cons_succ, List.getElem?_cons_zero]
      change wpList _ _ _ [_] _ _
      have hNs := below_le qb hN
      refine wpl_run rfl (.slice (some ⟨wr.heap.size, 0, none⟩) 1 1) (wr.drew.alloc (.cells #[.slice (S0 k).q m (S0 k).cap] 22)) (by go_simp) ?_
      have q1 : Below N w (wr.drew.alloc (.cells #[.slice (S0 k).q m (S0 k).cap] 22)) := qb.drew.alloc hNs _
      refine ⟨q1, ?_⟩
      change wpList _ _ _ [_] _ _
      refine wpl_app rfl (.tmp 20) (.tmp 32) 29 rfl 22 und29 one22 pl k cl rfl _ (Own.alloc (w := wr.drew) hl _) _ 1 1 rfl (fun _ => .slice (S0 k).q m (S0 k).cap) (cells_at1 wr.drew _ _) (fun _ _ => rfl) (by omega) ?_
      intro p7 c7 w7 o7 g7 k7 n7
      have q2 := g7.below q1 (Nat.le_trans hNs (size_le_alloc wr.drew _)) hpl
      have hpl7 := ge_step hpl k7 (Nat.le_trans hNs (size_le_alloc wr.drew _))
      refine ⟨q2, ?_⟩
      change wpList _ _ _ [_] _ _
      refine wpl_pure rfl (v := .slice p7 (k + 1) c7) (by intro w; rfl) ?_
      refine ⟨q2, ?_⟩
      change anyI _ _ _ _ _ _ _ _ _
      refine anyI_done (by kernel_rfl) ?_
      try simp only [Act.put, List.setIfInBounds_toArray, List.set_cons_succ, List.set_cons_zero, List.getElem_toArray, List.getElem_cons_succ, List.getElem_cons_zero]
      go_wp2_with fail
      refine ⟨⟨k + 1, c7, p7, by omega, by omega, by go_num, rfl, o7.congr (fun j hj => ?_), q2, hpl7⟩, by simp [intOf]; omega⟩
      simp only [cat]
      by_cases e : j < k
      · rw [if_pos e]
      · obtain rfl : j = k := by omega
        rw [if_neg e, HSk.out, Hm.out]
    · have hjl : joinL S k ≤ 48 * k := joinL_bnd S 40 k (fun j _ => by rw [HS.out]; exact Nat.min_le_right _ _)
      have hPl : ∀ w', Below N w w' → Own w' 22 pl k cl (fun j => .slice (S j).q (S j).n (S j).cap) → Parts w' pl k S := fun w' hb' hl' h0 => by
        obtain ⟨g, e, hc⟩ := hl'.cell h0
        obtain ⟨bb, off, _, hparts⟩ := hS (by omega)
        refine ⟨g, 0, e, fun j hj => ⟨hc j hj, ?_, ?_⟩⟩
        · obtain ⟨_, h2, _⟩ := hparts j (by omega)
          rw [HS.out]; exact Nat.le_trans (Nat.min_le_left _ _) h2
        · obtain ⟨_, _, h3⟩ := hparts j (by omega)
          intro h00
          have hle : (S j).n ≤ (S0 j).n := by rw [HS.out]; exact Nat.min_le_left _ _
          obtain ⟨b2, o2, e2, h4⟩ := h3.below hN hb' (by omega)
          exact ⟨b2, o2, by rw [HS.out]; exact e2, fun i hi => by rw [HS.out] at hi ⊢; exact h4 i (Nat.lt_of_lt_of_le hi (Nat.min_le_left _ _))⟩
      obtain ⟨M, hM⟩ := sz_some wr
      have hMN : N ≤ M := by have := below_le qb hN; have e : wr.heap.size = M := hM; omega
      have hTr := hT.below qb hTN
      have hP := hPl wr qb hl
      have heq := run_eq_same (P := Tryd.prog) 23 5 32 und23 und5 inf5 cof5 (joinD S k)
      have hkc := hl.le
      rcases (show (¬ k < n) ∨ (k < n ∧ ¬ k < 6) by omega) with hc | ⟨hc, hc5⟩
      case' inl => have hlt3 : decide ((k : Int) < (n : Int)) = false := by simp; omega
      case' inr => have hlt3 : decide ((k : Int) < (n : Int)) = true := by simp; omega
                   have hlt4 : decide ((k : Int) < 6) = false := by simp; omega
      all_goals
        go_wp2_with (first
          | (go_at_call 22; refine (Joined_any pl k cl S wr M hM hTr (by omega) hP).mono ?_; rintro e w2 ⟨rfl, hb2⟩; obtain ⟨M2, hM2⟩ := sz_some w2; have hMM2 := below_sz hb2 hM hM2)
          | (refine wpl_alloc rfl 23 rfl 32 _ zer23 M2 hM2 ?_; intro w3 hM3 hb3 h3)
          | (refine wpl_store rfl 23 (.tmp 7) (.tmp 35) rfl M2 32 _ rfl rfl 23 _ h3 inf23 (fun _ _ => rfl) ?_; intro w4 ht4 h4)
          | fail)
        have b4 : Below M wr w4 := ht4.below (hb2.trans (hb3.mono (by omega))) (by omega)
        have hl4 := hl.below b4 (Nat.le_of_eq hM)
        have bN := qb.trans (b4.mono hMN)
        have hM4 := ht4.sz hM3
        have hT4 := hT.below bN hTN
        have hP4 := hPl w4 bN hl4
        refine wp_region_later (M2 + 1) (by kernel_rfl) (by kernel_rfl) ?_
        simp only [Act.put, List.setIfInBounds_toArray, List.set_cons_succ, List.set_cons_zero]
        repeat first | (refine later_val (fun x => run_ld 23 (.tmp 7) rfl M2 rfl 23 32 _ (Later.has hM4 h4 x) _ und23 rfl inf23) (by rfl) ?_; simp only [Act.put, List.setIfInBounds_toArray, List.set_cons_succ, List.set_cons_zero]) | (go_big_quiet_step ((first
          | (go_at_call 18; exact later_of hM4 _ (fun K hK hKN => sums_any _ K hK (hT4.below (Later.b _) (hT4.ltN hM4))))
          | (go_at_call 23; exact later_of hM4 _ (fun K hK hKN => RefJoined_any pl k cl S _ K hK (by omega) (hPl _ (bN.trans ((Later.b _).mono (by omega))) (hl4.below (Later.b _) (Nat.le_of_eq hM4))))))))
        refine wpQuiet_nil ?_
        rintro w5 ⟨x5, e5⟩
        have hb5 := x5.b
        rw [← e5] at hb5
        clear e5 x5
        have hl5 := hl4.below hb5 (Nat.le_of_eq hM4)
        have b5 := bN.trans (hb5.mono (by omega))
        clear hP4 hT4 hl4 bN b4 hb5 hM4 ht4 h4 h3 hb3 hM3 hM2 hMM2 hb2 hP hTr hl hlt3 heq
        by_cases hk0 : k = 0
        · have hk0' : ((k : Int) == 0) = true := by simp; omega
          go_wp2_with fail
          go_ret
          exact ⟨rfl, b5⟩
        · have hk0' : ((k : Int) == 0) = false := by simp; omega
          have hP5 := hPl w5 b5 hl5
          obtain ⟨g, rfl, hcl⟩ := hl5.cell (by omega)
          obtain ⟨s0, es0⟩ : ∃ s0, s0 = S 0 := ⟨_, rfl⟩
          have Hs0 := hid es0
          have c0 := hcl 0 (by omega)
          rw [Nat.add_zero, ← es0] at c0
          obtain ⟨bb, off, e1, hP6⟩ := hP5 (by omega)
          obtain ⟨_, p2, p3⟩ := hP6 0 (by omega)
          rw [← es0] at p2 p3
          have hs40 : s0.n ≤ 40 := by rw [es0, HS.out]; exact Nat.min_le_right _ _
          clear es0 hP6 e1 hcl
          by_cases hn0 : s0.n = 0
          · have hn0' : ((s0.n : Int) == 0) = true := by simp; omega
            go_wp2_with fail
            go_ret
            exact ⟨rfl, b5⟩
          · have hn0' : ((s0.n : Int) == 0) = false := by simp; omega
            obtain ⟨q, hq⟩ := u64_nat z
            obtain ⟨c, hc⟩ : ∃ c : Nat, c = q % (s0.n + 1) := ⟨_, rfl⟩
            have e1 : (q : Int) % ((s0.n : Int) + 1) = (c : Int) := by rw [hc, Int.natCast_emod, Int.natCast_add]; rfl
            have hcn : c ≤ s0.n := by have := Nat.mod_lt q (show 0 < s0.n + 1 by omega); omega
            have e2 : IntKind.u64.wrap ((s0.n : Int) + 1) = (s0.n : Int) + 1 := IntWalk.u64_in _ (by omega)
            have q0 : (0 : Int) ≤ (q : Int) := by omega
            have n1 : (0 : Int) < (s0.n : Int) + 1 := by omega
            have n2 : ¬ ((s0.n : Int) + 1 = 0) := by omega
            clear hc
            go_wp2_with fail
            clear e1 e2 q0 n1 n2 hn0' hk0' hq
            have hsl1 : ∀ w, (Instr.sliceAt 22 (.slice s0.q s0.n s0.cap) none (some (.int .i64 (c : Int))) none).run Tryd.prog w = .ok (.slice s0.q c s0.cap) w := run_cut_head 22 5 und22 inf5 _ _ _ c (by omega)
            have hsl2 : ∀ w, (Instr.sliceAt 22 (.slice s0.q s0.n s0.cap) (some (.int .i64 (c : Int))) none none).run Tryd.prog w = .ok (.slice (cutAt s0.q s0.cap c) (s0.n - c) (s0.cap - c)) w := run_slice_from 22 5 und22 inf5 _ _ _ c hcn
            have hsl3 : ∀ w, (Instr.sliceAt 29 (.slice (some ⟨g, 0, none⟩) k cl) (some (.int .i64 1)) none none).run Tryd.prog w = .ok (.slice (cutAt (some ⟨g, 0, none⟩) cl 1) (k - 1) (cl - 1)) w := run_slice_from 29 22 und29 inf22 _ _ _ 1 (by omega)
            have hk1 : (0 : Int) < (k : Int) := by omega
            have hI : Own w5 22 (some ⟨g, 0, none⟩) k cl (fun j => .slice (S j).q (S j).n (S j).cap) ∧ Below N w w5 := ⟨hl5, b5⟩
            have hcl : ∀ x : Inn (fun w' => Own w' 22 (some ⟨g, 0, none⟩) k cl (fun j => .slice (S j).q (S j).n (S j).cap) ∧ Below N w w'), x.w'.cell? ⟨g, 0, none⟩ = some (.slice s0.q s0.n s0.cap) := fun x => by rw [Hs0.out]; exact x.h.1.cell' 0 (by omega)
            have hne := inn_ne (I := fun w' => Own w' 22 (some ⟨g, 0, none⟩) k cl (fun j => .slice (S j).q (S j).n (S j).cap) ∧ Below N w w') hI
            refine wp_region_inn (fun w' => Own w' 22 (some ⟨g, 0, none⟩) k cl (fun j => .slice (S j).q (S j).n (S j).cap) ∧ Below N w w') ⟨hl5, b5.drew⟩ (by kernel_rfl) ?_
            refine anyI_reads [0, 1, 2, 3, 4, 5, 6, 7, 8, 9, 11, 12] _ _ _ ⟨hl5, b5.drew⟩ (by kernel_rfl) (fun _ _ _ d _ h => by cases d <;> exact h) ?_
            simp only [pickO, List.map_cons, List.map_nil, List.getElem?_toArray, List.getElem?_cons_succ, List.getElem?_cons_zero, Option.getD_some]
            repeat go_big_quiet_step (fail)
            refine wpQuiet_nil ?_
            clear hcl hsl1 hsl2 hsl3
            refine anyI_part [10, 13, 14] _ _ _ _ (by kernel_rfl) ?_
            simp only [List.filterMap_cons, List.filterMap_nil, List.getElem?_toArray, List.getElem?_cons_succ, List.getElem?_cons_zero]
            change wpList _ _ _ [_] _ _
            obtain ⟨M5, hM5⟩ := sz_some w5
            have hN5 := below_le b5 hN
            have hgM : g < M5 := by have := hl5.lt g rfl; rwa [show w5.heap.size = M5 from hM5] at this
            have eM5 : w5.heap.size = M5 := hM5
            refine wpl_run rfl (.slice (some ⟨w5.heap.size, 0, none⟩) 2 2) (w5.drew.alloc (.cells #[.slice s0.q c s0.cap, .slice (cutAt s0.q s0.cap c) (s0.n - c) (s0.cap - c)] 22)) (by go_simp) ?_
            have ho : Own (w5.drew.alloc (.cells #[.slice s0.q c s0.cap, .slice (cutAt s0.q s0.cap c) (s0.n - c) (s0.cap - c)] 22)) 22 (some ⟨w5.heap.size, 0, none⟩) 2 2 (twoV (.slice s0.q c s0.cap) (.slice (cutAt s0.q s0.cap c) (s0.n - c) (s0.cap - c))) := own_two w5.drew _ _ _
            have hl6 := Own.alloc (w := w5.drew) hl5 (.cells #[.slice s0.q c s0.cap, .slice (cutAt s0.q s0.cap c) (s0.n - c) (s0.cap - c)] 22)
            have b6 := b5.drew.alloc hN5 (.cells #[.slice s0.q c s0.cap, .slice (cutAt s0.q s0.cap c) (s0.n - c) (s0.cap - c)] 22)
            have m6 : Below M5 w5 (w5.drew.alloc (.cells #[.slice s0.q c s0.cap, .slice (cutAt s0.q s0.cap c) (s0.n - c) (s0.cap - c)] 22)) := (Below.refl M5 w5).drew.alloc (Nat.le_of_eq hM5.symm) _
            refine ⟨⟨hl6, b6⟩, ?_⟩
            change wpList _ _ _ [_] _ _
            have hsrc : Cells (w5.drew.alloc (.cells #[.slice s0.q c s0.cap, .slice (cutAt s0.q s0.cap c) (s0.n - c) (s0.cap - c)] 22)) (cutAt (some ⟨g, 0, none⟩) cl 1) (k - 1) (fun j => .slice (S (j + 1)).q (S (j + 1)).n (S (j + 1)).cap) := fun h0 => ⟨⟨g, 0 + 1, none⟩, cutAt_lt g 0 cl 1 (by omega), fun j hj => by
              rw [Addr.add_mid, show 0 + 1 + j = j + 1 from by omega]
              exact hl6.cell' (j + 1) (by omega)⟩
            refine wpl_app rfl (.tmp 74) (.tmp 76) 29 rfl 22 und29 one22 _ 2 2 rfl _ ho _ (k - 1) (cl - 1) rfl _ hsrc (fun _ _ => rfl) (by omega) ?_
            intro p7 c7 w7 o7 g7 k7 n7
            obtain ⟨K, eK⟩ : ∃ K, K = 2 + (k - 1) := ⟨_, rfl⟩
            rw [← eK] at o7 ⊢
            have hK7 : K ≤ 7 := by omega
            have HK := hid eK
            clear eK n7
            have hs6 := Nat.le_trans (Nat.le_of_eq eM5.symm) (size_le_alloc w5.drew (.cells #[.slice s0.q c s0.cap, .slice (cutAt s0.q s0.cap c) (s0.n - c) (s0.cap - c)] 22))
            have hbg : ∀ q, blk (some (⟨w5.heap.size, 0, none⟩ : Addr)) = some q → M5 ≤ q := fun q hq => by simp [blk] at hq; omega
            have m7 := g7.below m6 hs6 hbg
            have b7 := b5.trans (m7.mono (by omega))
            have hl7 := hl5.below m7 (Nat.le_of_eq hM5)
            refine ⟨⟨hl7, b7⟩, ?_⟩
            change wpList _ _ _ [_] _ _
            refine wpl_pure rfl (v := .slice p7 K c7) (by intro w; rfl) ?_
            refine ⟨⟨hl7, b7⟩, ?_⟩
            change anyI _ _ _ _ _ _ _ _ _
            refine anyI_done (by kernel_rfl) ?_
            try simp only [Act.put, List.setIfInBounds_toArray, List.set_cons_succ, List.set_cons_zero, List.getElem_toArray, List.getElem_cons_succ, List.getElem_cons_zero]
            obtain ⟨R, eR⟩ : ∃ R, R = splitP s0 c S := ⟨_, rfl⟩
            have hR40 : ∀ j, (R j).n ≤ 40 := fun j => by
              rw [eR]; exact split_le s0 c S 40 hs40 (fun j => by rw [HS.out]; exact Nat.min_le_right _ _) j hcn
            have hJR := joinL_bnd R 40 K (fun j _ => hR40 j)
            have hPR : ∀ w', Below M5 w5 w' → Own w' 22 p7 K c7 (cat (twoV (.slice s0.q c s0.cap) (.slice (cutAt s0.q s0.cap c) (s0.n - c) (s0.cap - c))) 2 (fun j => .slice (S (j + 1)).q (S (j + 1)).n (S (j + 1)).cap)) → Parts w' p7 K R := fun w' hb' ho' => by
              rw [eR]; exact split_parts hM5 hb' ho' hcn p2 p3 hP5 (by have := HK.out; omega)
            have hP7 := hPR w7 m7 o7
            obtain ⟨M7, hM7⟩ := sz_some w7
            have hMM7 := below_sz m7 hM5 hM7
            have hT7 := hT.below b7 hTN
            have heq := run_eq_same (P := Tryd.prog) 23 5 32 und23 und5 inf5 cof5 (joinD R K)
            clear ho hl6 b6 m6 hsrc g7 k7 hbg hs6 hI hne hP5 p2 p3 eR
            go_wp2_with (first
              | (go_at_call 22; refine (Joined_any p7 K c7 R w7 M7 hM7 hT7 (by omega) hP7).mono ?_; rintro e w8 ⟨rfl, hb8⟩; obtain ⟨M8, hM8⟩ := sz_some w8; have hMM8 := below_sz hb8 hM7 hM8; have hP8 := hPR w8 (m7.trans (hb8.mono hMM7)) (o7.below hb8 (Nat.le_of_eq hM7)))
              | (go_at_call 23; refine (RefJoined_any p7 K c7 R w8 M8 hM8 (by omega) hP8).mono ?_; rintro e w9 ⟨rfl, hb9⟩)
              | fail)
            go_ret
            exact ⟨rfl, b7.trans ((hb8.mono (by omega)).trans (hb9.mono (by omega)))⟩
end Go.Proofs.YtneffelpdaigoaaDoor
