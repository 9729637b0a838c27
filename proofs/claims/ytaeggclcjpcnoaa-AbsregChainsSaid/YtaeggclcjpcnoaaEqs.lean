/- '==' of two structs, of whatever depth, that are the same; of two ranges. -/
import Derived.Test.YtaeggclcjpcnoaaSc12
import Derived.DeepKeys
namespace Go.Proofs.Ytaeggclcjpcnoaa
open Go Go.RowKit
/-- A cell of a number that its kind can hold, or a bool. -/
def okC : Value → Prop
  | .int k n => (Lit.int k n).wf = true
  | .bool _ => True
  | _ => False
/-- What a key's cells are, without looking at the numbers. -/
def kl (P : Program) : Nat → TypeId → List Value → Option (List Lit)
  | 0, _, _ => none
  | d + 1, t, cs =>
    match P.underlying t with
    | some .bool => match cs with | [.bool b] => some [.bool b] | _ => none
    | some (.int q) => match cs with | [.int q' n] => if q' = q then some [.int q n] else none | _ => none
    | some (.array n e) => if cs.length = P.cellsOf t then ((List.range n).mapM fun i => kl P d e ((cs.drop (i * P.cellsOf e)).take (P.cellsOf e))).map List.flatten else none
    | some (.struct fs) => if cs.length = P.cellsOf t ∧ fs.all (·.name != "_") = true then (fs.toList.mapM fun f => kl P d f.type ((cs.drop f.offset).take (P.cellsOf f.type))).map List.flatten else none
    | _ => none
theorem mapM_le {α β : Type} {f g : α → Option β} : ∀ (l : List α) (r : List β), (∀ i ∈ l, ∀ b, f i = some b → g i = some b) → l.mapM f = some r → l.mapM g = some r
  | [], r, _, h => by simpa using h
  | x :: l, r, hfg, h => by
    rw [List.mapM_cons] at h ⊢
    cases hx : f x with
    | none => rw [hx] at h; cases h
    | some b =>
      rw [hx] at h
      rw [hfg x (by simp) b hx]
      cases hl : l.mapM f with
      | none => rw [hl] at h; cases h
      | some r2 =>
        rw [hl] at h
        rw [mapM_le l r2 (fun i hi => hfg i (by simp [hi])) hl]
        exact h
theorem kl_ok {P : Program} : ∀ (d : Nat) (t : TypeId) (cs : List Value) (la : List Lit), (∀ c ∈ cs, okC c) → kl P d t cs = some la → P.keyLits d t cs = some la
  | 0, _, _, _, _, h => by simp [kl] at h
  | d + 1, t, cs, la, hc, h => by
    have hsub : ∀ (k n : Nat), ∀ c ∈ (cs.drop k).take n, okC c := fun k n c hm => hc c (List.mem_of_mem_drop (List.mem_of_mem_take hm))
    unfold kl at h
    unfold Program.keyLits
    cases hu : P.underlying t with
    | none => rw [hu] at h; cases h
    | some td =>
      rw [hu] at h
      cases td with
      | bool =>
        simp only at h ⊢
        split at h
        · exact h
        · cases h
      | int q =>
        simp only at h ⊢
        split at h
        · rename_i q' n
          split at h
          · rename_i e
            have hw : (Lit.int q n).wf = true := by have := hc (.int q' n) (by simp); rw [← e]; exact this
            simp only [e, hw, and_self, if_true]; exact h
          · cases h
        · cases h
      | array n e =>
        simp only at h ⊢
        split at h
        · rename_i hl
          rw [if_pos hl]
          cases hm : (List.range n).mapM fun i => kl P d e ((cs.drop (i * P.cellsOf e)).take (P.cellsOf e)) with
          | none => rw [hm] at h; cases h
          | some r =>
            rw [hm] at h
            rw [mapM_le _ r (fun i _ b hb => kl_ok d e _ b (hsub _ _) hb) hm]
            exact h
        · cases h
      | struct fs =>
        simp only at h ⊢
        split at h
        · rename_i hl
          rw [if_pos hl]
          cases hm : fs.toList.mapM fun f => kl P d f.type ((cs.drop f.offset).take (P.cellsOf f.type)) with
          | none => rw [hm] at h; cases h
          | some r =>
            rw [hm] at h
            rw [mapM_le _ r (fun i _ b hb => kl_ok d i.type _ b (hsub _ _) hb) hm]
            exact h
        · cases h
      | _ => cases h
/-- A value of comparable parts is equal to itself. -/
theorem run_eq_self {P : Program} {T : TypeId} (m : Nat) (hm : m ≤ 10000) (hk : P.keyTypeAt m T = true) {A : Array Value} (hf : (Value.agg A).formed P T = true) {D : Nat} (hl : (kl P D T A.toList).isSome = true) (hc : ∀ c ∈ A.toList, okC c) (w : World) :
    (Op.equalIn 10000 T (.agg A) (.agg A)).run P w = .ok true w := by
  obtain ⟨la, hla⟩ := Option.isSome_iff_exists.1 hl
  have hl' := kl_ok D T A.toList la hc hla
  obtain ⟨r, h1, h2⟩ := run_equalIn_deep (10000 - m) m T hk w D D (.agg A) (.agg A) la la hf hf hl' hl'
  rw [show 10000 - m + m = 10000 by omega] at h1
  rw [h1, h2.2 rfl]
theorem ok_Q (x : W) : okC (Q x) := by
  have h1 := qn_lo x; have h2 := qn_hi x
  show (Lit.int .u64 (qn x)).wf = true
  simp only [Lit.wf, Bool.and_eq_true, decide_eq_true_eq]
  have e1 : IntKind.u64.min = 0 := by decide
  have e2 : IntKind.u64.max = 18446744073709551615 := by decide
  rw [e1, e2]; omega
theorem ok_S (x : W) : okC (S x) := by
  have h := And.intro (sn_lo x) (sn_hi x)
  show (Lit.int .i64 (sn x)).wf = true
  simp only [Lit.wf, Bool.and_eq_true, decide_eq_true_eq]
  have e1 : IntKind.i64.min = -9223372036854775808 := by decide
  have e2 : IntKind.i64.max = 9223372036854775807 := by decide
  rw [e1, e2]; omega
theorem ok_rC (r : Rn) : ∀ c ∈ (cellsOf (rC r) 6).toList, okC c := by
  intro c hc
  have : (cellsOf (rC r) 6).toList = [Q r.b.v, Q r.b.m, Q r.lo, Q r.hi, S r.sl, S r.sh] := rfl
  rw [this] at hc
  simp only [List.mem_cons, List.not_mem_nil, or_false] at hc
  rcases hc with rfl | rfl | rfl | rfl | rfl | rfl <;> first | exact ok_Q _ | exact ok_S _
theorem run_eqR_t {a b : Rn} (h : a = b) (w : World) : (Op.equalIn 10000 41 (.agg (cellsOf (rC a) 6)) (.agg (cellsOf (rC b) 6))).run Try.prog w = .ok true w := by
  subst h
  exact run_eq_self 5 (by omega) (by kernel_rfl) (by kernel_rfl) (D := 5) (by kernel_rfl) (ok_rC a) w
end Go.Proofs.Ytaeggclcjpcnoaa
