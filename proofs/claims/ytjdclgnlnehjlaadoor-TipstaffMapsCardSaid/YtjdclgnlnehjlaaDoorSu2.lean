/- A map's entries in order: Clone, the sort of none, inOrder. -/
import Derived.Test.YtjdclgnlnehjlaaDoorMgSu1
namespace Go.Proofs.YtjdclgnlnehjlaaDoor
open Go Go.RowKit Go.Sort Go.Proofs
set_option maxRecDepth 100000 in
theorem Sort_zero (p : Option Addr) (cap : Nat) (w : World) (N : Nat) :
    Calls Tryd.prog 60 #[.slice p 0 cap, .func (.func 61) #[] #[]] w fun e w' => e = .returned (.tuple #[]) ∧ Below N w w' := by
  have HL := fun w => Tryd.bits_Len 0 w (by omega) (by omega)
  have HI : ∀ w, Calls Tryd.prog 77 #[.slice p 0 cap, .int .i64 0, .int .i64 0, .func (.func 61) #[] #[]] w fun e w' => e = .returned (.tuple #[]) ∧ w' = w := by
    intro w
    go_enter Tryd.func77, Tryd.ntmps77
    go_wp2
    go_loop [8] (fun x => x = .int .i64 1) (fun _ => 0)
    case atStart => rfl
    case round =>
      subst hrel
      go_wp2
      go_end0
      exact ⟨rfl, rfl⟩
  have HP : ∀ (z : Int) w, Calls Tryd.prog 73 #[.slice p 0 cap, .int .i64 0, .int .i64 0, .int .i64 z, .func (.func 61) #[] #[]] w fun e w' => e = .returned (.tuple #[]) ∧ w' = w := by
    intro z w
    go_enter Tryd.func73, Tryd.ntmps73
    go_wp2
    go_loop [1, 2, 3, 10, 11] (fun x1 x2 x3 x10 x11 => x1 = .int .i64 0 ∧ x2 = .int .i64 0 ∧ x3 = .int .i64 z ∧ x10 = .bool true ∧ x11 = .bool true) (fun _ _ _ _ _ => 0)
    case atStart => exact ⟨rfl, rfl, rfl, rfl, rfl⟩
    case round =>
      obtain ⟨rfl, rfl, rfl, rfl, rfl⟩ := hrel
      go_wp2_with (go_at_call 77; refine (HI _).mono ?_; rintro e w' ⟨rfl, rfl⟩)
      refine bodyPost_ret (results_none rfl _ _ _) rfl ?_
      exact ⟨rfl, rfl⟩
  generalize ((Lib.bitLen (0 : Int).toNat : Nat) : Int) = z at HL
  have HP := HP z
  go_enter Tryd.func60, Tryd.ntmps60
  go_wp2_with (first
    | (go_at_call 74; refine (HL _).mono ?_; rintro e w' ⟨rfl, rfl⟩)
    | (go_at_call 73; refine (HP _).mono ?_; rintro e w' ⟨rfl, rfl⟩))
  go_end0
  exact ⟨rfl, Below.refl N _⟩
theorem eqSNd {P : Program} (w : World) (d : Nat) (t e : TypeId) (a : Option Addr) (l c : Nat) (h : P.underlying t = some (.slice e)) : (Op.equalIn (d + 1) t (.slice a l c) (.slice none 0 0)).run P w = .ok a.isNone w := by
  cases a <;> simp [Op.equalIn, run_underlying h]
theorem eqSNe {P : Program} (w : World) (t e : TypeId) (a : Option Addr) (l c : Nat) (h : P.underlying t = some (.slice e)) : (Op.equal t (.slice a l c) (.slice none 0 0)).run P w = .ok a.isNone w := eqSNd w 9999 t e a l c h
theorem eqSN {P : Program} (w : World) (t e : TypeId) (a : Option Addr) (l c : Nat) (h : P.underlying t = some (.slice e)) : (binOp .eql t (.slice a l c) (.slice none 0 0)).run P w = .ok (.bool a.isNone) w := by
  simp [binOp, eqSNe w t e a l c h]
theorem run_eqSN {P : Program} {a : Act} {o : Oper} {t e ty : TypeId} {x y : Operand} {p : Option Addr} {n c : Nat} {r : Bool} (ho : o.op = .binOp .eql t x y ty) (ht : P.underlying t = some (.slice e)) (hx : a.eval x = .slice p n c) (hy : a.eval y = .slice none 0 0) (hr : p.isNone = r) (hg : ∀ w, (eqGuard .eql t x y (.slice p n c) (.slice none 0 0)).run P w = .ok () w) (w : World) : (execOp a.eval o).run P w = .ok (.value (.bool r)) w := by
  subst hr
  unfold execOp
  simp only [ho, hx, hy, Sem.run_bind, hg, Result.andThen_ok, eqSN w t e p n c ht, Sem.run_pure]
theorem undBEs : Tryd.prog.underlying 57 = some (.slice 82) := by kernel_rfl
theorem cells_own {w : World} {T n cap : Nat} {q : Option Addr} {E : Nat → Me} (h : OwnK w T 2 q n cap (meC E)) : Cells w q (n * 2) (meC E) := fun h0 => by
  obtain ⟨g, e, hc⟩ := h.cell (by omega)
  exact ⟨_, e, fun j hj => by rw [Addr.add_mid]; exact hc j hj⟩
theorem wpl_bsE {ops : Array Oper} {rest : List Oper} {o : Oper} {a : Act} {w : World} {Q' : Exit → Act → World → Prop} (hgd : o.guard = none) (ho : o.op = .buildSlice 57 0 #[]) (N : Nat) (hN : Sz w N)
    (h : ∀ w1, Sz w1 (N + 1) → Below N w w1 → OwnK w1 82 2 (some ⟨N, 0, none⟩) 0 0 (meC (fun _ => default)) → wpList Tryd.prog ops Q' rest (a.put o.dst (.slice (some ⟨N, 0, none⟩) 0 0)) w1) : wpList Tryd.prog ops Q' (o :: rest) a w := by
  have e : w.heap.size = N := hN
  subst e
  refine wpl_run hgd (.slice (some ⟨w.heap.size, 0, none⟩) 0 0) (w.alloc (.cells #[] 82)) ?_ (h _ (sz_alloc rfl _) (below_new _ _ _ rfl) ?_)
  · clear h hN
    generalize a.eval = ev at *
    unfold execOp
    simp only [ho]
    go_simp
  · exact .inr ⟨_, #[], rfl, heap_alloc_new w _, Nat.le_refl _, rfl, fun j hj => by omega⟩
set_option maxRecDepth 100000 in
theorem Clone_own (p : Option Addr) (n cap : Nat) (E : Nat → Me) (w : World) (N : Nat) (hN : Sz w N) (h : OwnK w 82 2 p n cap (meC E)) (hn : n ≤ 1000) :
    Calls Tryd.prog 59 #[.slice p n cap] w fun e w' => ∃ p' cap', e = .returned (.slice p' n cap') ∧ OwnK w' 82 2 p' n cap' (meC E) ∧ Below N w w' ∧ ∀ g, blk p' = some g → N ≤ g := by
  have q2 := fun (a : Option Addr) (l c : Nat) (w : World) => eqSN (P := Tryd.prog) w 57 82 a l c undBEs
  cases p with
  | none =>
    obtain ⟨rfl, rfl⟩ : n = 0 ∧ cap = 0 := by
      rcases h with ⟨_, h1, h2⟩ | ⟨_, _, e, _⟩
      · exact ⟨h1, h2⟩
      · cases e
    go_enter Tryd.func59, Tryd.ntmps59
    go_wp2
    go_ret
    exact ⟨none, 0, rfl, .inl ⟨rfl, rfl, rfl⟩, Below.refl N _, fun g hg => by cases hg⟩
  | some ad =>
    go_enter Tryd.func59, Tryd.ntmps59
    go_upto_region 3 with fail
    go_wp2_with (first
      | ((with_reducible show wpList _ _ _ (_ :: _) _ _); first
        | (refine wpl_bsE rfl rfl N hN ?_; intro w1 hN1 b1 o1)
        | (refine wpl_appK rfl (.tmp 5) (.tmp 6) 57 rfl 82 2 (by omega) undBEs kBE (some ⟨N, 0, none⟩) 0 0 rfl (meC (fun _ => default)) o1 (some ad) n cap rfl (meC E) (cells_own (h.below b1 (Nat.le_of_eq hN))) (fun j _ => meC_one _ _) (by omega) ?_; intro p2 cap2 w2 o2 g2 e2 n2))
      | fail)

    go_ret
    have hsz : w1.heap.size = N + 1 := hN1
    refine ⟨p2, cap2, rfl, ?_, g2.below b1 (by omega) (fun g hg => by simp [blk] at hg; omega), fun g hg => ?_⟩
    · rw [Nat.zero_add] at o2
      exact o2.congr (fun j hj => by unfold cat; rw [if_neg (by omega)]; rw [Nat.zero_mul, Nat.sub_zero])
    · rcases e2 with e | e
      · rw [e] at hg; simp [blk] at hg; omega
      · rw [e] at hg; injection hg with hg; omega
/-- The entries, in the order in which a sum takes them. -/
def Ordd (m : Mp) (E' : Nat → Me) : Prop := (m.ty ≠ 3 ∧ m.ty ≠ 4 → Ord m.n m.E E') ∧ (m.ty = 3 ∨ m.ty = 4 → E' = m.E)
set_option maxRecDepth 100000 in
theorem inOrder_any (m : Mp) (hn : m.n ≤ 1000) (w : World) (N : Nat) (hN : Sz w N) (hA : MpAt w m) :
    Calls Tryd.prog 34 #[.pointer (some ⟨m.b, 0, none⟩)] w fun e w' => ∃ p' cap' E', e = .returned (.slice p' m.n cap') ∧ OwnK w' 82 2 p' m.n cap' (meC E') ∧ Below N w w' ∧ Ordd m E' := by
  by_cases hl : m.ty = 3 ∨ m.ty = 4
  · have hL := fun w hA => isLine_yes m hl w hA
    have c5 := hA.c5
    go_enter Tryd.func34, Tryd.ntmps34
    go_wp2_with (first
      | (go_at_call 37; refine (hL _ hA).mono ?_; rintro e w2 ⟨rfl, rfl⟩)
      | fail)
    go_ret
    exact ⟨_, _, _, rfl, hA.e, Below.refl N _, fun h => absurd hl (by omega), fun _ => rfl⟩
  · have h3 : m.ty ≠ 3 := fun h => hl (.inl h)
    have h4 : m.ty ≠ 4 := fun h => hl (.inr h)
    have hL := fun w hA => isLine_no m h3 h4 w hA
    have c5 := hA.c5
    have HC := Clone_own m.p m.n m.cap m.E w N hN hA.e hn
    have hO : ∀ E', Ord m.n m.E E' → Ordd m E' := fun E' h => ⟨fun _ => h, fun h => absurd h hl⟩
    by_cases h0 : m.n = 0
    · have HS := fun (p : Option Addr) (cap : Nat) (w : World) (N : Nat) => Sort_zero p cap w N
      have hO2 := hO m.E (by rw [h0]; exact Ord.zero _)
      rw [h0] at HC c5 ⊢
      clear hO hl h3 h4
      go_enter Tryd.func34, Tryd.ntmps34
      go_wp2_with (first
        | (go_at_call 37; refine (hL _ hA).mono ?_; rintro e w2 ⟨rfl, rfl⟩)
        | (go_at_call 59; refine HC.mono ?_; rintro e w3 ⟨p2, cap2, rfl, o3, b3, ge3⟩; obtain ⟨M3, hM3⟩ := sz_some w3; have l3 := below_sz b3 hN hM3)
        | (go_at_call 60; refine (HS p2 cap2 _ M3).mono ?_; rintro e w4 ⟨rfl, b4⟩)
        | fail)
      go_ret
      exact ⟨p2, cap2, m.E, rfl, o3.below b4 (Nat.le_of_eq hM3), b3.trans (b4.mono l3), hO2⟩
    · have HS := fun (g cap : Nat) (w : World) (h : OwnK w 82 2 (some ⟨g, 0, none⟩) m.n cap (meC m.E)) => Sort_own g m.n cap m.E w h (by omega) hn
      clear hl h3 h4
      go_enter Tryd.func34, Tryd.ntmps34
      go_wp2_with (first
        | (go_at_call 37; refine (hL _ hA).mono ?_; rintro e w2 ⟨rfl, rfl⟩)
        | (go_at_call 59; refine HC.mono ?_; rintro e w3 ⟨p2, cap2, rfl, o3, b3, ge3⟩; obtain ⟨g2, eg2, _⟩ := o3.cell (by omega); subst eg2)
        | (go_at_call 60; refine (HS g2 cap2 _ o3).mono ?_; rintro e w4 ⟨rfl, E2, t4, o4, ho⟩)
        | fail)
      go_ret
      exact ⟨_, cap2, E2, rfl, o4, t4.below b3 (fun j hj => by rw [hj]; exact ge3 g2 rfl) (below_le b3 hN), hO E2 ho⟩
end Go.Proofs.YtjdclgnlnehjlaaDoor
