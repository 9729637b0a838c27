/- A region that draws its order, some of whose operations may come in whatever order: each one tells a fact of its value that the others keep, and of any two a fact holds together (two new blocks are two). Nothing of the program. -/
import Derived.Test.YtkljnpdojmcipaaBag
namespace Go.Proofs.Ytkljnpdojmcipaa
open Go Go.RowKit
section
variable {P : Program} {md : Region.Mode} {ops : Array Oper} {Q : Exit → Act → World → Prop}
/-- One waits for another one, by way of others of the row. -/
def reachB (md : Region.Mode) (ops : Array Oper) (rem : List Nat) : Nat → Nat → Nat → Bool
  | 0, j, i => waitsB md ops j i
  | n + 1, j, i => waitsB md ops j i || rem.any (fun m => waitsB md ops j m && reachB md ops rem n m i)
theorem reach_done {rem : List Nat} {L : Nat → Bool} (hc : ∀ j ∈ rem, L j = true → ∀ i ∈ rem, waitsB md ops j i = true → L i = true) : ∀ (n j i : Nat), j ∈ rem → i ∈ rem → L j = true → reachB md ops rem n j i = true → L i = true
  | 0, j, i, hj, hi, hL, h => hc j hj hL i hi h
  | n + 1, j, i, hj, hi, hL, h => by
    simp only [reachB, Bool.or_eq_true, List.any_eq_true, Bool.and_eq_true] at h
    rcases h with h | ⟨m, hm, h1, h2⟩
    · exact hc j hj hL i hi h
    · exact reach_done hc n m i hm hi (hc j hj hL m hm h1) h2
/-- What the row must be for the law: none is listed, no two write to one slot, and all others are listed or wait for each of the row. -/
def potB (md : Region.Mode) (ops : Array Oper) (listed : Array Bool) (rem : List Nat) : Bool :=
  apartB ops rem && rem.all (fun i => (ops[i]?).isSome && !listed.getD i true) && (List.range ops.size).all (fun k => listed.getD k false || rem.contains k || (List.range ops.size).any (fun m => waitsB md ops k m && !rem.contains m && !listed.getD m false) || rem.all (fun i => reachB md ops rem rem.length k i)) && topoB md ops listed [] rem
structure Pot (md : Region.Mode) (ops : Array Oper) (rem : List Nat) (F : Nat → Value → World → Prop) (G : Nat → Nat → Value → Value → Prop) (I : World → Prop) (listed0 : Array Bool) (a0 : Act) (L : Nat → Bool) (listed : Array Bool) (a : Act) (w : World) : Prop where
  hl : listed = marks L rem listed0
  hI : I w
  hc : ∀ j ∈ rem, L j = true → ∀ i ∈ rem, waitsB md ops j i = true → L i = true
  ha : ∃ vals, a = puts ops L vals rem a0 ∧ (∀ j ∈ rem, L j = true → F j (vals j) w) ∧ ∀ j ∈ rem, ∀ k ∈ rem, j ≠ k → L j = true → L k = true → G j k (vals j) (vals k)
theorem wpAny_pot_go {rem : List Nat} {F : Nat → Value → World → Prop} {G : Nat → Nat → Value → Value → Prop} {I : World → Prop} {listed0 : Array Bool} {a0 : Act} {Fu : Nat} (hchk : potB md ops listed0 rem = true)
    (hsize : ∀ i ∈ rem, ∀ t, dstOf ops i = some t → t < a0.tmps.size)
    (hstep : ∀ i ∈ rem, ∀ a w, I w → (∀ t, (∀ j ∈ rem, dstOf ops j ≠ some t) → a.tmps.getD t undef = a0.tmps.getD t undef) →
      (∀ j ∈ rem, waitsB md ops i j = true → ∃ v, (∀ t, dstOf ops j = some t → a.tmps.getD t undef = v) ∧ F j v w) →
      wpOp P ops Q i (fun a' w' => ∃ v, a' = a.put (dstOf ops i) v ∧ F i v w' ∧ I w' ∧ ∀ j ∈ rem, ∀ u, j ≠ i → F j u w → F j u w' ∧ G j i u v ∧ G i j v u) a w)
    (hend : ∀ (vals : Nat → Value) w, I w → (∀ j ∈ rem, F j (vals j) w) → (∀ j ∈ rem, ∀ k ∈ rem, j ≠ k → G j k (vals j) (vals k)) → wpAny P md ops Q Fu (marks (fun _ => true) rem listed0) (puts ops (fun _ => true) vals rem a0) w) :
    ∀ (n : Nat) (L : Nat → Bool) (listed : Array Bool) (a : Act) (w : World), left L rem = n → Pot md ops rem F G I listed0 a0 L listed a w → wpAny P md ops Q (Fu + n) listed a w := by
  simp only [potB, Bool.and_eq_true, List.all_eq_true, Bool.or_eq_true, List.mem_range] at hchk
  obtain ⟨⟨⟨hap, hrem⟩, hoth⟩, htopo⟩ := hchk
  have hnd := apart_nodup rem hap
  intro n
  induction n with
  | zero =>
    intro L listed a w hn B
    have hall : ∀ j ∈ rem, L j = true := fun j hj => by
      cases hL : L j
      · have : j ∈ rem.filter (fun i => !L i) := List.mem_filter.2 ⟨hj, by simp [hL]⟩
        rw [List.eq_nil_of_length_eq_zero hn] at this
        cases this
      · rfl
    obtain ⟨vals, ha, hF, hG⟩ := B.ha
    rw [B.hl, ha, marks_congr (L' := fun _ => true) rem listed0 (fun j hj => hall j hj), puts_congr (L' := fun _ => true) (vals' := vals) rem a0 (fun j hj => ⟨hall j hj, rfl⟩)]
    exact hend vals w B.hI (fun j hj => hF j hj (hall j hj)) (fun j hj k hk hjk => hG j hj k hk hjk (hall j hj) (hall k hk))
  | succ n ih =>
    intro L listed a w hn B
    have hsome : ∃ i ∈ rem, L i = false := by
      have : (rem.filter (fun i => !L i)) ≠ [] := fun e => by unfold left at hn; rw [e] at hn; simp at hn
      obtain ⟨i, hi⟩ := List.exists_mem_of_ne_nil _ this
      rw [List.mem_filter] at hi
      exact ⟨i, hi.1, by simpa using hi.2⟩
    have hlist : ∀ j ∈ rem, ∀ d, listed.getD j d = L j := fun j hj d => by
      rw [B.hl]
      exact marks_getD j d rem listed0 hnd hj (by simpa using (hrem j hj).2)
    have hin : ∀ k ∈ Region.ready md ops listed, k ∈ rem ∧ L k = false := fun k hk => by
      obtain ⟨hkl, o, ho, _⟩ := mem_ready.1 hk
      have hks : k < ops.size := (Array.getElem?_eq_some_iff.1 ho).1
      by_cases hkr : k ∈ rem
      · exact ⟨hkr, by rw [← hlist k hkr true]; exact hkl⟩
      · exfalso
        rcases hoth k hks with ((h | h) | h) | h
        · have h1 : listed.getD k true = listed0.getD k true := by rw [B.hl]; exact marks_getD_not k true rem listed0 hkr
          rw [hkl] at h1
          rcases Nat.lt_or_ge k listed0.size with h' | h'
          · simp [h'] at h h1; rw [h] at h1; cases h1
          · simp [Array.getElem?_eq_none h'] at h1
        · exact hkr (by simpa using h)
        · simp only [List.any_eq_true, Bool.and_eq_true, Bool.not_eq_true', List.mem_range] at h
          obtain ⟨m, _, ⟨h1, h2⟩, h3⟩ := h
          have h4 := waits_listed h1 hk
          have hmr : m ∉ rem := fun hm => by
            have : rem.contains m = true := by simpa using hm
            rw [this] at h2; cases h2
          rw [B.hl, marks_getD_not m false rem listed0 hmr, h3] at h4
          cases h4
        · obtain ⟨i, hi, hLi⟩ := hsome
          have hd : ∀ m ∈ rem, waitsB md ops k m = true → L m = true := fun m hm hw => by
            have := waits_listed hw hk
            rwa [hlist m hm false] at this
          have hLi' : L i = true := by
            have hr := h i hi
            cases hrl : rem.length with
            | zero => rw [hrl] at hr; exact hd i hi hr
            | succ n =>
              rw [hrl] at hr
              simp only [reachB, Bool.or_eq_true, List.any_eq_true, Bool.and_eq_true] at hr
              rcases hr with h | ⟨m, hm, h1, h2⟩
              · exact hd i hi h
              · exact reach_done B.hc n m i hm hi (hd m hm h1) h2
          rw [hLi] at hLi'
          cases hLi'
    show wpAny P md ops Q (Fu + n + 1) listed a w
    have hsub : ∀ k, listed0.getD k false = true → listed.getD k false = true := fun k hk => by
      by_cases hkr : k ∈ rem
      · have := (hrem k hkr).2
        rcases Nat.lt_or_ge k listed0.size with h' | h'
        · simp [h'] at hk this; rw [hk] at this; cases this
        · simp [Array.getElem?_eq_none h'] at hk
      · rw [B.hl, marks_getD_not k false rem listed0 hkr]; exact hk
    refine ⟨fun he => ?_, fun i hi => ?_⟩
    · exfalso
      obtain ⟨i, hi⟩ := topo_ready (L := L) hsub rem [] htopo (fun _ h => by cases h) (fun j hj => ⟨fun h => by rw [hlist j hj false]; exact h, fun h => by rw [hlist j hj true]; exact h⟩) hsome
      rw [he] at hi
      cases hi
    · obtain ⟨hir, hLi⟩ := hin i hi
      obtain ⟨vals, ha, hF, hG⟩ := B.ha
      refine wpOp_mono (fun a' w' h => ?_) (hstep i hir a w B.hI (fun t ht => by rw [ha]; exact puts_getD_not t rem a0 ht) (fun j hj hw => ?_))
      · obtain ⟨v, rfl, hFi, hI', hst⟩ := h
        refine ih (setL L i) _ _ _ (by have := left_set hLi hnd hir; omega) ⟨?_, hI', fun j hj hLj k hk hw => ?_, setV vals i v, ?_, fun j hj hLj => ?_, fun j hj k hk hjk hLj hLk => ?_⟩
        · rw [B.hl]; exact marks_set i hLi rem listed0 hnd hir
        · by_cases e : j = i
          · subst e
            have : L k = true := by rw [← hlist k hk false]; exact waits_listed hw hi
            simp [setL, this]
          · simp only [setL, if_neg e] at hLj
            have := B.hc j hj hLj k hk hw
            simp [setL, this]
        · rw [ha]; exact puts_set i v hLi rem a0 hap hir
        · by_cases e : j = i
          · subst e; simp only [setV, if_true]; exact hFi
          · simp only [setV, if_neg e]
            simp only [setL, if_neg e] at hLj
            exact (hst j hj _ e (hF j hj hLj)).1
        · by_cases e : j = i
          · subst e
            have e2 : k ≠ j := fun h => hjk h.symm
            simp only [setL, if_neg e2] at hLk
            simp only [setV, if_true, if_neg e2]
            exact (hst k hk _ e2 (hF k hk hLk)).2.2
          · simp only [setL, if_neg e] at hLj
            by_cases e2 : k = i
            · subst e2
              simp only [setV, if_true, if_neg e]
              exact (hst j hj _ e (hF j hj hLj)).2.1
            · simp only [setL, if_neg e2] at hLk
              simp only [setV, if_neg e, if_neg e2]
              exact hG j hj k hk hjk hLj hLk
      · have hLj : L j = true := by rw [← hlist j hj false]; exact waits_listed hw hi
        exact ⟨vals j, fun t ht => by rw [ha]; exact puts_getD j t ht hLj rem a0 hap hj (hsize j hj t ht), hF j hj hLj⟩
theorem wpAny_pot {rem : List Nat} (F : Nat → Value → World → Prop) (G : Nat → Nat → Value → Value → Prop) (I : World → Prop) (Fu : Nat) (listed0 : Array Bool) (a0 : Act) (w0 : World) (hchk : (potB md ops listed0 rem && decide (rem.length ≤ Fu)) = true)
    (hsize : ∀ i ∈ rem, ∀ t, dstOf ops i = some t → t < a0.tmps.size) (hI : I w0)
    (hstep : ∀ i ∈ rem, ∀ a w, I w → (∀ t, (∀ j ∈ rem, dstOf ops j ≠ some t) → a.tmps.getD t undef = a0.tmps.getD t undef) →
      (∀ j ∈ rem, waitsB md ops i j = true → ∃ v, (∀ t, dstOf ops j = some t → a.tmps.getD t undef = v) ∧ F j v w) →
      wpOp P ops Q i (fun a' w' => ∃ v, a' = a.put (dstOf ops i) v ∧ F i v w' ∧ I w' ∧ ∀ j ∈ rem, ∀ u, j ≠ i → F j u w → F j u w' ∧ G j i u v ∧ G i j v u) a w)
    (hend : ∀ (vals : Nat → Value) w, I w → (∀ j ∈ rem, F j (vals j) w) → (∀ j ∈ rem, ∀ k ∈ rem, j ≠ k → G j k (vals j) (vals k)) → wpAny P md ops Q (Fu - rem.length) (rem.foldl (fun l i => l.setIfInBounds i true) listed0) (rem.foldl (fun a i => a.put (dstOf ops i) (vals i)) a0) w) : wpAny P md ops Q Fu listed0 a0 w0 := by
  simp only [Bool.and_eq_true, decide_eq_true_eq] at hchk
  have m : ∀ (r : List Nat) (l : Array Bool), marks (fun _ => true) r l = r.foldl (fun l i => l.setIfInBounds i true) l := fun r => by
    induction r with
    | nil => intro l; rfl
    | cons i r ih => intro l; simp only [marks, if_true, List.foldl_cons]; exact ih _
  have q : ∀ (vals : Nat → Value) (r : List Nat) (a : Act), puts ops (fun _ => true) vals r a = r.foldl (fun a i => a.put (dstOf ops i) (vals i)) a := fun vals r => by
    induction r with
    | nil => intro l; rfl
    | cons i r ih => intro l; simp only [puts, if_true, List.foldl_cons]; exact ih _
  have n0 : ∀ (r : List Nat) (l : Array Bool), marks (fun _ => false) r l = l := fun r => by
    induction r with
    | nil => intro l; rfl
    | cons i r ih => intro l; simp only [marks, Bool.false_eq_true, if_false]; exact ih l
  have n1 : ∀ (vals : Nat → Value) (r : List Nat) (a : Act), puts ops (fun _ => false) vals r a = a := fun vals r => by
    induction r with
    | nil => intro l; rfl
    | cons i r ih => intro l; simp only [puts, Bool.false_eq_true, if_false]; exact ih l
  have lf : left (fun _ => false) rem = rem.length := by unfold left; simp
  have := wpAny_pot_go (P := P) (Q := Q) (md := md) (ops := ops) (F := F) (G := G) (I := I) (listed0 := listed0) (a0 := a0) (Fu := Fu - rem.length) hchk.1 hsize hstep
    (fun vals w hw hf hg => by rw [m, q]; exact hend vals w hw hf hg) rem.length (fun _ => false) listed0 a0 w0 lf ⟨(n0 rem listed0).symm, hI, (fun j _ h => Bool.noConfusion h), ⟨fun _ => undef, (n1 _ rem a0).symm, ⟨(fun j _ h => Bool.noConfusion h), (fun j _ k _ _ h _ => Bool.noConfusion h)⟩⟩⟩
  rwa [Nat.sub_add_cancel hchk.2] at this
/-- Two pointers that are told to go to two blocks. -/
def TwoB (_ _ : Nat) (u v : Value) : Prop := ∀ b c : Nat, u = .pointer (some ⟨b, 0, none⟩) → v = .pointer (some ⟨c, 0, none⟩) → b ≠ c
end
end Go.Proofs.Ytkljnpdojmcipaa
