/- A region that draws its order, of many operations: a check, cheap for the kernel, that its text's order may be walked. Nothing of the program. -/
import Derived.Test.YtkljnpdojmcipaaLater
namespace Go.Proofs.Ytkljnpdojmcipaa
open Go Go.RowKit
/-- Each waits for earlier ones alone, and each later one waits for it or is apart from it. -/
def lexL (ops : Array Oper) : Nat → List Oper → Bool
  | _, [] => true
  | k, o :: rest => o.after.toList.all (fun e => !Region.binds .any e || decide (e.on < k)) && rest.all (fun oj => oj.after.toList.any (fun e => Region.binds .any e && e.on == k) || o.apart ops oj) && lexL ops (k + 1) rest
/-- The first k are listed. -/
structure Fst (n k : Nat) (listed : Array Bool) : Prop where
  s : listed.size = n
  l : ∀ j, j < n → ∀ d, listed.getD j d = decide (j < k)
theorem Fst.next {n k : Nat} {listed : Array Bool} (h : Fst n k listed) (hk : k < n) : Fst n (k + 1) (listed.setIfInBounds k true) where
  s := by simp [h.s]
  l := fun j hj d => by
    by_cases e : j = k
    · subst e
      have hs := h.s
      simp [Array.getD, hs, hk]
    · have := h.l j hj d
      have e2 : decide (j < k + 1) = decide (j < k) := by
        by_cases h1 : j < k
        · simp [h1]; omega
        · simp [h1]; omega
      rw [e2, ← this]
      have hs := h.s
      simp [Array.getD, hs, hj, Array.getElem_setIfInBounds, Ne.symm e]
theorem lex_from {l : List Oper} : ∀ (rest : List Oper) (k : Nat) (listed : Array Bool), l.drop k = rest → k + rest.length = l.length → Fst l.length k listed → lexL l.toArray k rest = true → Region.lexFrom .any l.toArray rest.length k listed = true
  | [], k, listed, hd, hlen, hF, _ => by
    show (Region.ready .any l.toArray listed).isEmpty = true
    rw [List.isEmpty_iff]
    unfold Region.ready
    rw [List.filter_eq_nil_iff]
    intro i hi
    simp only [List.size_toArray, List.mem_range] at hi
    rw [hF.l i hi true]
    simp only [List.length_nil, Nat.add_zero] at hlen
    simp [show i < k from by omega]
  | o :: rest, k, listed, hd, hlen, hF, h => by
    simp only [lexL, Bool.and_eq_true, List.all_eq_true] at h
    obtain ⟨⟨h1, h2⟩, h3⟩ := h
    simp only [List.length_cons] at hlen
    have hk : k < l.length := by omega
    have hok : l[k]? = some o := by
      have := congrArg (fun x => x[0]?) hd
      simpa using this
    have hrest : l.drop (k + 1) = rest := by
      have := congrArg (fun x => x.drop 1) hd
      simpa using this
    have hin : k ∈ Region.ready .any l.toArray listed := by
      unfold Region.ready
      rw [List.mem_filter]
      refine ⟨by simpa using hk, ?_⟩
      rw [hF.l k hk true]
      simp only [Nat.lt_irrefl, decide_false, Bool.not_false, Bool.true_and, List.getElem?_toArray, hok, Option.map_some, Option.getD_some]
      rw [Array.all_eq_true_iff_forall_mem]
      intro e he
      have := h1 e (by simpa using he)
      rw [Bool.or_eq_true] at this ⊢
      rcases this with h | h
      · exact Or.inl h
      · have hlt : e.on < k := by simpa using h
        exact Or.inr (by rw [hF.l e.on (by omega) false]; simp [hlt])
    have hfree : Region.free .any l.toArray listed k = true := by
      unfold Region.free
      simp only [List.getElem?_toArray, hok, List.all_eq_true, List.mem_range, List.size_toArray]
      intro j hj
      by_cases hjk : j = k
      · simp [hjk]
      · rw [hF.l j hj true]
        by_cases hlt : j < k
        · simp [hlt]
        · have hoj : l[j]? = some l[j] := List.getElem?_eq_getElem hj
          rw [hoj]
          have hmem : l[j] ∈ rest := by
            rw [← hrest]
            have : l[j] = (l.drop (k + 1))[j - (k + 1)]'(by simp; omega) := by simp [show k + 1 + (j - (k + 1)) = j from by omega]
            rw [this]; exact List.getElem_mem _
          have := h2 _ hmem
          rw [Bool.or_eq_true] at this ⊢
          refine Or.inr ?_
          show (l[j].after.any (fun e => Region.binds .any e && e.on == k) || o.apart l.toArray l[j]) = true
          rw [Bool.or_eq_true]
          rcases this with h | h
          · refine Or.inl ?_
            rw [Array.any_eq_true']
            rw [List.any_eq_true] at h
            obtain ⟨e, he, h⟩ := h
            exact ⟨e, by simpa using he, h⟩
          · exact Or.inr h
    show (Region.lexFrom .any l.toArray (rest.length + 1) k listed) = true
    unfold Region.lexFrom
    rw [Bool.and_eq_true, Bool.and_eq_true]
    exact ⟨⟨by simpa using hin, hfree⟩, lex_from rest (k + 1) _ hrest (by omega) (hF.next hk) h3⟩
theorem lexB_of {l : List Oper} (h : (Region.noSelect l.toArray && lexL l.toArray 0 l) = true) : Region.lexB .any l.toArray = true := by
  rw [Bool.and_eq_true] at h
  unfold Region.lexB
  rw [Bool.and_eq_true]
  refine ⟨h.1, ?_⟩
  have := lex_from (l := l) l 0 (Array.replicate l.toArray.size false) rfl (by simp) ⟨by simp, fun j hj d => by simp [Array.getD, hj]⟩ h.2
  simpa using this
theorem wp_region_laterL {P : Program} {w : World} {id : Nat} {Q : Exit → Act → World → Prop} {a : Act} {l : List Oper} (N : Nat) (hm : P.follows .mixedOrders = true) (hB : (Region.noSelect l.toArray && lexL l.toArray 0 l) = true)
    (h : wpQuiet P l.toArray (fun w' => ∃ x : Later N w, w' = x.w') (fun a' => ∀ w', (∃ x : Later N w, w' = x.w') → Q .normal a' w') l a) : (Code.region id l.toArray true).wp P Q a w :=
  wp_region_later N hm (lexB_of hB) h
end Go.Proofs.Ytkljnpdojmcipaa
