/- Find of registry. -/
import Derived.Test.YtcampjgemedhlaaDoorRg2
namespace Go.Proofs.YtcampjgemedhlaaDoor
open Go Go.RowKit Sha
/-- Is the one at i not spent, and does the signature fit it? -/
def fitR (R : Rg) (s sig : Nat → BitVec 8) (i : Nat) : Bool := !R.sp i && fitsB (R.K i) s sig
def frO (R : Rg) (s sig : Nat → BitVec 8) : Option Nat := (List.range R.c).find? (fitR R s sig)
def frV (o : Option Nat) : Value := match o with | some i => .tuple #[.int .i64 (i : Int), .int .i64 0] | none => .tuple #[.int .i64 0, .int .i64 129]
set_option maxRecDepth 100000 in
theorem Find_long (b : Nat) (s : Nat → BitVec 8) (q : Option Addr) (m cq : Nat) (hm : m ≠ 2048) (w : World) (N : Nat) (hN : Sz w N) :
    Calls Tryd.prog 33 #[.pointer (some ⟨b, 0, none⟩), .agg (cellsOf (fun j => By (s j)) 32), .slice q m cq] w fun e w' => e = .returned (.tuple #[.int .i64 0, .int .i64 22]) ∧ Below N w w' := by
  have hb : ((m : Int) != 2048) = true := by rw [bne_iff_ne]; omega
  go_enter Tryd.func33, Tryd.ntmps33
  go_wp2_with (first
    | (refine wpl_box rfl 23 (.tmp 1) rfl 32 _ rfl N hN ?_; intro w1 hN1 hb1 h1)
    | fail)
  go_ret2
  exact ⟨rfl, hb1⟩
theorem ver_cases (key s sig : Nat → BitVec 8) : (fitsB key s sig = true ∧ verAns key s sig = 0) ∨ (fitsB key s sig = false ∧ verAns key s sig = 129) := by
  unfold verAns
  cases h : fitsB key s sig
  · exact .inr ⟨rfl, rfl⟩
  · exact .inl ⟨rfl, rfl⟩
set_option maxRecDepth 100000 in
set_option maxHeartbeats 1000000 in
theorem Find_any (R : Rg) (b : Nat) (s sig : Nat → BitVec 8) (q : Option Addr) (cq : Nat) (hcq : 2048 ≤ cq) (w : World) (N : Nat) (hN : Sz w N) (hT : Tabs w) (hS : Bytes w q 2048 sig) (hR : Has w b 98 1057 (rgC R)) (hc : R.c ≤ 32) :
    Calls Tryd.prog 33 #[.pointer (some ⟨b, 0, none⟩), .agg (cellsOf (fun j => By (s j)) 32), .slice q 2048 cq] w fun e w' => e = .returned (frV (frO R s sig)) ∧ Below N w w' := by
  have hTN := hT.ltN hN
  have hb : b < N := hR.ltN hN
  go_enter Tryd.func33, Tryd.ntmps33
  go_wp2_with (first
    | (refine wpl_box rfl 23 (.tmp 1) rfl 32 _ rfl N hN ?_; intro w1 hN1 hb1 h1; have r1 := hR.below hb1 hb; have c1 := rg_count_cell r1)
    | fail)
  clear c1
  go_loopw [20] (fun i wr => ∃ k : Nat, k ≤ R.c ∧ i = .int .i64 k ∧ Hid (∀ i, i < k → fitR R s sig i = false) ∧ Has wr b 98 1057 (rgC R) ∧ Has wr N 23 32 (fun j => By (s j)) ∧ Below N w wr)
    (fun i _ => R.c - (intOf i).toNat)
  case atStart => exact ⟨0, by omega, rfl, hid (fun i hi => by omega), r1, h1, hb1⟩
  case round =>
    clear r1 h1 hb1
    obtain ⟨k, hk, rfl, HF, r1, h1, qb⟩ := hrel
    by_cases hlt : k < R.c
    · have hk32 : (k : Int) < 32 := by omega
      obtain ⟨M, hM⟩ := sz_some wr
      have hNM : N < M := h1.ltN hM
      have c2 := rg_sp_cell r1 k (by omega)
      have hld : (Instr.loadAt 4 (.pointer (some ⟨b, k * 33 + 32, none⟩))).run Tryd.prog (World.drew wr) = .ok (.bool (R.sp k)) (World.drew wr) := by
        have c2d : (World.drew wr).cell? ⟨b, k * 33 + 32, none⟩ = some (.bool (R.sp k)) := c2
        go_simp
      go_wp2_with fail
      refine wp_region_any (by kernel_rfl) ?_
      change wpAny _ _ _ _ _ _ _ (World.drew _)
      refine wpAny_take (i := 0) (v := .pointer (some ⟨b, 0, none⟩)) rfl (by kernel_rfl) (by kernel_rfl) (by kernel_rfl) (fun _ _ _ h => h) (Or.inl ⟨by rfl, ?y0⟩) ?r0
      case y0 => (intro w; go_simp; first | done | with_reducible rfl)
      refine wpAny_take (i := 1) (v := .int .i64 (k : Int)) rfl (by kernel_rfl) (by kernel_rfl) (by kernel_rfl) (fun _ _ _ h => h) (Or.inl ⟨by rfl, ?y1⟩) ?r1
      case y1 => (intro w; go_simp; first | done | with_reducible rfl)
      refine wpAny_take (i := 2) (v := .pointer (some ⟨b, 0, none⟩)) rfl (by kernel_rfl) (by kernel_rfl) (by kernel_rfl) (fun _ _ _ h => h) (Or.inl ⟨by rfl, ?y2⟩) ?r2
      case y2 => (intro w; go_simp; first | done | with_reducible rfl)
      refine wpAny_take (i := 3) (v := .pointer (some ⟨b, 0, none⟩)) rfl (by kernel_rfl) (by kernel_rfl) (by kernel_rfl) (fun _ _ _ h => h) (Or.inl ⟨by rfl, ?y3⟩) ?r3
      case y3 => (intro w; go_simp; first | done | with_reducible rfl)
      simp only [Act.put, List.setIfInBounds_toArray, List.set_cons_succ, List.set_cons_zero, List.getElem_toArray, List.getElem_cons_succ, List.getElem_cons_zero]
      refine wpAny_take (i := 4) (v := .pointer (some ⟨b, k * 33, none⟩)) rfl (by kernel_rfl) (by kernel_rfl) (by kernel_rfl) (fun _ _ _ h => h) (Or.inl ⟨by rfl, ?y4⟩) ?r4
      case y4 => (intro w; go_simp; first | done | with_reducible rfl)
      refine wpAny_take (i := 5) (v := .pointer (some ⟨b, k * 33 + 32, none⟩)) rfl (by kernel_rfl) (by kernel_rfl) (by kernel_rfl) (fun _ _ _ h => h) (Or.inl ⟨by rfl, ?y5⟩) ?r5
      case y5 => (intro w; go_simp; first | done | with_reducible rfl)
      simp only [Act.put, List.setIfInBounds_toArray, List.set_cons_succ, List.set_cons_zero, List.getElem_toArray, List.getElem_cons_succ, List.getElem_cons_zero]
      refine wpAny_part [6, 7, 8] _ _ _ _ (by kernel_rfl) ?_
      simp only [List.filterMap_cons, List.filterMap_nil, List.getElem?_toArray, List.getElem?_cons_succ, List.getElem?_cons_zero]
      refine wpl_run rfl _ _ (run_ld1 4 (.tmp 28) rfl ⟨b, k * 33 + 32, none⟩ rfl (.bool (R.sp k)) (by exact c2) hld) ?_
      refine wpl_pure rfl (v := .bool (!R.sp k)) (by intro w; first | rfl | go_simp) ?_
      refine wpl_pure rfl (v := .bool (!R.sp k)) (by intro w; rfl) ?_
      change wpAny _ _ _ _ _ _ _ _
      simp only [Act.put, List.setIfInBounds_toArray, List.set_cons_succ, List.set_cons_zero]
      clear c2 hld
      cases hs : R.sp k
      · have hs' := hid hs
        clear hs
        simp only [Bool.not_false]
        refine wpAny_take (i := 9) (v := .pointer (some ⟨b, 0, none⟩)) rfl (by kernel_rfl) (by kernel_rfl) (by kernel_rfl) (fun _ _ _ h => h) (Or.inl ⟨by rfl, ?y9n⟩) ?r9n
        case y9n => (intro w; go_simp; first | done | with_reducible rfl)
        refine wpAny_take (i := 10) (v := .int .i64 (k : Int)) rfl (by kernel_rfl) (by kernel_rfl) (by kernel_rfl) (fun _ _ _ h => h) (Or.inl ⟨by rfl, ?y10n⟩) ?r10n
        case y10n => (intro w; go_simp; first | done | with_reducible rfl)
        refine wpAny_take (i := 11) (v := .pointer (some ⟨b, 0, none⟩)) rfl (by kernel_rfl) (by kernel_rfl) (by kernel_rfl) (fun _ _ _ h => h) (Or.inl ⟨by rfl, ?y11n⟩) ?r11n
        case y11n => (intro w; go_simp; first | done | with_reducible rfl)
        refine wpAny_take (i := 12) (v := .pointer (some ⟨b, 0, none⟩)) rfl (by kernel_rfl) (by kernel_rfl) (by kernel_rfl) (fun _ _ _ h => h) (Or.inl ⟨by rfl, ?y12n⟩) ?r12n
        case y12n => (intro w; go_simp; first | done | with_reducible rfl)
        simp only [Act.put, List.setIfInBounds_toArray, List.set_cons_succ, List.set_cons_zero, List.getElem_toArray, List.getElem_cons_succ, List.getElem_cons_zero]
        refine wpAny_take (i := 13) (v := .pointer (some ⟨b, k * 33, none⟩)) rfl (by kernel_rfl) (by kernel_rfl) (by kernel_rfl) (fun _ _ _ h => h) (Or.inl ⟨by rfl, ?y13n⟩) ?r13n
        case y13n => (intro w; go_simp; first | done | with_reducible rfl)
        refine wpAny_take (i := 14) (v := .pointer (some ⟨b, k * 33, none⟩)) rfl (by kernel_rfl) (by kernel_rfl) (by kernel_rfl) (fun _ _ _ h => h) (Or.inl ⟨by rfl, ?y14n⟩) ?r14n
        case y14n => (intro w; go_simp; first | done | with_reducible rfl)
        refine wpAny_take (i := 17) (v := .slice q 2048 cq) rfl (by kernel_rfl) (by kernel_rfl) (by kernel_rfl) (fun _ _ _ h => h) (Or.inl ⟨by rfl, ?y17n⟩) ?r17n
        case y17n => (intro w; go_simp; first | done | with_reducible rfl)
        simp only [Act.put, List.setIfInBounds_toArray, List.set_cons_succ, List.set_cons_zero, List.getElem_toArray, List.getElem_cons_succ, List.getElem_cons_zero]
        refine wpAny_pair 15 16 _ _ (.agg (cellsOf (fun j => By (R.K k j)) 32)) (.agg (cellsOf (fun j => By (s j)) 32)) _ _ _ _ rfl rfl (by refine ⟨?_, ?_, ?_⟩ <;> kernel_rfl) (by rfl) (by rfl) (by rfl) (by rfl)
          (run_ldp 23 (.tmp 37) rfl b (k * 33) rfl 98 1057 _ (by exact r1) 32 (by omega) _ (fun j hj => by rw [Nat.mul_comm k 33]; exact rg_key R k (by omega) j hj) _ und23 rfl inf23)
          (run_ld 23 (.tmp 4) rfl N rfl 23 32 _ (by exact h1) _ und23 rfl inf23)
          (run_ldp 23 (.tmp 37) rfl b (k * 33) rfl 98 1057 _ (by exact r1) 32 (by omega) _ (fun j hj => by rw [Nat.mul_comm k 33]; exact rg_key R k (by omega) j hj) _ und23 rfl inf23)
          (run_ld 23 (.tmp 4) rfl N rfl 23 32 _ (by exact h1) _ und23 rfl inf23)
          (put_swap _ _ _ _ _ (by omega)) (by omega) ?_
        simp only [Act.put, List.setIfInBounds_toArray, List.set_cons_succ, List.set_cons_zero, List.getElem_toArray, List.getElem_cons_succ, List.getElem_cons_zero]
        refine wpAny_part [18, 19, 20] _ _ _ _ (by kernel_rfl) ?_
        simp only [List.filterMap_cons, List.filterMap_nil, List.getElem?_toArray, List.getElem?_cons_succ, List.getElem?_cons_zero]
        refine wpl_want (by rfl) ?_
        dsimp only
        go_wp2_with fail
        refine (Verify_any (R.K k) s sig q cq hcq _ M (by exact hM) (by exact (hT.below qb hTN).drew) (by exact hS.below hN (below_drew1 qb))).mono ?_
        rintro e w3 ⟨rfl, hb3'⟩
        have hb3 : Below M wr w3 := mod_belowdrew hb3'
        have r3 := r1.below hb3 (by omega)
        have h3 := h1.below hb3 (by omega)
        have q3 := qb.trans (hb3.mono (by omega))
        rcases ver_cases (R.K k) s sig with ⟨hf, hv⟩ | ⟨hf, hv⟩
        · have hfr := hid (show fitR R s sig k = true by unfold fitR; rw [hs'.out, hf]; rfl)
          rw [hv]
          clear hf hv
          dsimp only
          go_step
          refine wpl_want (by rfl) ?_
          refine wpl_pure rfl (v := .bool true) (by intro w; first | rfl | go_simp) ?_
          refine wpl_pure rfl (v := .bool true) (by intro w; rfl) ?_
          change wpAny _ _ _ _ _ _ _ _
          refine wpAny_done (by kernel_rfl) ?_ _
          try simp only [Act.put, List.setIfInBounds_toArray, List.set_cons_succ, List.set_cons_zero]
          have hp := find_first (fitR R s sig) R.c k hlt HF.out hfr.out
          have e1 : frV (frO R s sig) = .tuple #[.int .i64 (k : Int), .int .i64 0] := by unfold frO; rw [hp]; rfl
          have E1 := hid e1
          clear e1 hp
          go_wp2_with fail
          go_ret2
          exact ⟨by rw [E1.out]; rfl, q3⟩
        · have hfr := hid (show fitR R s sig k = false by unfold fitR; rw [hf, Bool.and_false])
          rw [hv]
          clear hf hv
          dsimp only
          go_step
          refine wpl_want (by rfl) ?_
          refine wpl_pure rfl (v := .bool false) (by intro w; first | rfl | go_simp) ?_
          refine wpl_pure rfl (v := .bool false) (by intro w; rfl) ?_
          change wpAny _ _ _ _ _ _ _ _
          refine wpAny_done (by kernel_rfl) ?_ _
          try simp only [Act.put, List.setIfInBounds_toArray, List.set_cons_succ, List.set_cons_zero]
          go_wp2_with fail
          exact ⟨⟨k + 1, by omega, by go_num, hid (fun i hi => by
          by_cases h : i < k
          · exact HF.out i h
          · obtain rfl : i = k := by omega
            exact hfr.out), r3, h3, q3⟩, by simp [intOf]; omega⟩
      · have hfr := hid (show fitR R s sig k = false by unfold fitR; rw [hs]; rfl)
        clear hs
        simp only [Bool.not_true]
        refine wpAny_take (i := 9) (v := undef) rfl (by kernel_rfl) (by kernel_rfl) (by kernel_rfl) (fun _ _ _ h => h) (Or.inr ⟨by kernel_rfl, rfl⟩) ?r9s
        simp only [Act.put, List.setIfInBounds_toArray, List.set_cons_succ, List.set_cons_zero, List.getElem_toArray, List.getElem_cons_succ, List.getElem_cons_zero]
        refine wpAny_take (i := 10) (v := undef) rfl (by kernel_rfl) (by kernel_rfl) (by kernel_rfl) (fun _ _ _ h => h) (Or.inr ⟨by kernel_rfl, rfl⟩) ?r10s
        refine wpAny_take (i := 11) (v := undef) rfl (by kernel_rfl) (by kernel_rfl) (by kernel_rfl) (fun _ _ _ h => h) (Or.inr ⟨by kernel_rfl, rfl⟩) ?r11s
        simp only [Act.put, List.setIfInBounds_toArray, List.set_cons_succ, List.set_cons_zero, List.getElem_toArray, List.getElem_cons_succ, List.getElem_cons_zero]
        refine wpAny_take (i := 12) (v := undef) rfl (by kernel_rfl) (by kernel_rfl) (by kernel_rfl) (fun _ _ _ h => h) (Or.inr ⟨by kernel_rfl, rfl⟩) ?r12s
        refine wpAny_take (i := 13) (v := undef) rfl (by kernel_rfl) (by kernel_rfl) (by kernel_rfl) (fun _ _ _ h => h) (Or.inr ⟨by kernel_rfl, rfl⟩) ?r13s
        simp only [Act.put, List.setIfInBounds_toArray, List.set_cons_succ, List.set_cons_zero, List.getElem_toArray, List.getElem_cons_succ, List.getElem_cons_zero]
        refine wpAny_take (i := 14) (v := undef) rfl (by kernel_rfl) (by kernel_rfl) (by kernel_rfl) (fun _ _ _ h => h) (Or.inr ⟨by kernel_rfl, rfl⟩) ?r14s
        refine wpAny_take (i := 15) (v := undef) rfl (by kernel_rfl) (by kernel_rfl) (by kernel_rfl) (fun _ _ _ h => h) (Or.inr ⟨by kernel_rfl, rfl⟩) ?r15s
        simp only [Act.put, List.setIfInBounds_toArray, List.set_cons_succ, List.set_cons_zero, List.getElem_toArray, List.getElem_cons_succ, List.getElem_cons_zero]
        refine wpAny_take (i := 16) (v := undef) rfl (by kernel_rfl) (by kernel_rfl) (by kernel_rfl) (fun _ _ _ h => h) (Or.inr ⟨by kernel_rfl, rfl⟩) ?r16s
        refine wpAny_take (i := 17) (v := undef) rfl (by kernel_rfl) (by kernel_rfl) (by kernel_rfl) (fun _ _ _ h => h) (Or.inr ⟨by kernel_rfl, rfl⟩) ?r17s
        simp only [Act.put, List.setIfInBounds_toArray, List.set_cons_succ, List.set_cons_zero, List.getElem_toArray, List.getElem_cons_succ, List.getElem_cons_zero]
        refine wpAny_take (i := 18) (v := undef) rfl (by kernel_rfl) (by kernel_rfl) (by kernel_rfl) (fun _ _ _ h => h) (Or.inr ⟨by kernel_rfl, rfl⟩) ?r18s
        refine wpAny_take (i := 19) (v := undef) rfl (by kernel_rfl) (by kernel_rfl) (by kernel_rfl) (fun _ _ _ h => h) (Or.inr ⟨by kernel_rfl, rfl⟩) ?r19s
        simp only [Act.put, List.setIfInBounds_toArray, List.set_cons_succ, List.set_cons_zero, List.getElem_toArray, List.getElem_cons_succ, List.getElem_cons_zero]
        refine wpAny_take (i := 20) (v := .bool false) rfl (by kernel_rfl) (by kernel_rfl) (by kernel_rfl) (fun _ _ _ h => h) (Or.inl ⟨by rfl, ?y20s⟩) ?r20s
        case y20s => (intro w; rfl)
        refine wpAny_done (by kernel_rfl) ?_ _
        simp only [Act.put, List.setIfInBounds_toArray, List.set_cons_succ, List.set_cons_zero, List.getElem_toArray, List.getElem_cons_succ, List.getElem_cons_zero]
        go_wp2_with fail
        exact ⟨⟨k + 1, by omega, by go_num, hid (fun i hi => by
          by_cases h : i < k
          · exact HF.out i h
          · obtain rfl : i = k := by omega
            exact hfr.out), by exact r1, by exact h1, below_drew1 qb⟩, by simp [intOf]; omega⟩
    · obtain rfl : k = R.c := by omega
      have hp := find_none (fitR R s sig) R.c HF.out
      have e1 : frV (frO R s sig) = .tuple #[.int .i64 0, .int .i64 129] := by unfold frO; rw [hp]; rfl
      have E1 := hid e1
      clear e1 hp
      go_wp2_with fail
      go_ret2
      exact ⟨by rw [E1.out]; rfl, qb⟩
end Go.Proofs.YtcampjgemedhlaaDoor
