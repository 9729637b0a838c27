/- A region that draws its order, whose head may come in whatever order, some of its operations as late as they like: the store behind it need not wait for them. Nothing of the program. -/
import Derived.Test.YtbeikhokkpioeaaPotG
namespace Go.Proofs.Ytbeikhokkpioeaa
open Go Go.RowKit
section
variable {P : Program} {md : Region.Mode} {ops : Array Oper} {Q : Exit → Act → World → Prop}
/-- As potB, but that the others wait for these alone. -/
def potO (md : Region.Mode) (ops : Array Oper) (listed : Array Bool) (rem must : List Nat) : Bool :=
  apartB ops rem && rem.all (fun i => (ops[i]?).isSome && !listed.getD i true) && (List.range ops.size).all (fun k => listed.getD k false || rem.contains k || (List.range ops.size).any (fun m => waitsB md ops k m && !rem.contains m && !listed.getD m false) || must.all (fun i => reachB md ops rem rem.length k i)) && topoB md ops listed [] rem
theorem wpAny_potO_go {rem must : List Nat} (hmr : ∀ i ∈ must, i ∈ rem) {F : Nat → Value → World → Prop} {G : Nat → Nat → Value → Value → Prop} {I : World → Prop} {listed0 : Array Bool} {a0 : Act} {Fu : Nat} (hchk : potO md ops listed0 rem must = true)
    (hsize : ∀ i ∈ rem, ∀ t, dstOf ops i = some t → t < a0.tmps.size)
    (hstep : ∀ i ∈ rem, ∀ a w, I w → (∀ t, (∀ j ∈ rem, dstOf ops j ≠ some t) → a.tmps.getD t undef = a0.tmps.getD t undef) →
      (∀ j ∈ rem, waitsB md ops i j = true → ∃ v, (∀ t, dstOf ops j = some t → a.tmps.getD t undef = v) ∧ F j v w) →
      wpOp P ops Q i (fun a' w' => ∃ v, a' = a.put (dstOf ops i) v ∧ F i v w' ∧ I w' ∧ ∀ j ∈ rem, ∀ u, j ≠ i → F j u w → F j u w' ∧ G j i u v ∧ G i j v u) a w)
    (hend : ∀ (L : Nat → Bool) (vals : Nat → Value) w, (∀ j ∈ must, L j = true) → I w → (∀ j ∈ rem, L j = true → F j (vals j) w) → (∀ j ∈ rem, ∀ k ∈ rem, j ≠ k → L j = true → L k = true → G j k (vals j) (vals k)) → wpAny P md ops Q (Fu + left L rem) (marks L rem listed0) (puts ops L vals rem a0) w) :
    ∀ (n : Nat) (L : Nat → Bool) (listed : Array Bool) (a : Act) (w : World), left L rem = n → Pot md ops rem F G I listed0 a0 L listed a w → wpAny P md ops Q (Fu + n) listed a w := by
  simp only [potO, Bool.and_eq_true, List.all_eq_true, Bool.or_eq_true, List.mem_range] at hchk
  obtain ⟨⟨⟨hap, hrem⟩, hoth⟩, htopo⟩ := hchk
  have hnd := apart_nodup rem hap
  intro n
  induction n with
  | zero =>
    intro L listed a w hn B
    have hall : ∀ j ∈ rem, L j = true := fun j hj => by
      cases hL : L j
      · have : j ∈ rem.filter (fun i => !L i) := List.mem_filter.2 ⟨hj, by simp [hL]⟩
        rw [List.eq_nil_of_length_eq_zero hn] at this
        cases this
      · rfl
    obtain ⟨vals, ha, hF, hG⟩ := B.ha
    rw [B.hl, ha, ← hn]
    exact hend L vals w (fun j hj => hall j (hmr j hj)) B.hI hF hG
  | succ n ih =>
    intro L listed a w hn B
    by_cases hmust : ∀ j ∈ must, L j = true
    · obtain ⟨vals, ha, hF, hG⟩ := B.ha
      rw [B.hl, ha, ← hn]
      exact hend L vals w hmust B.hI hF hG
    have hsomeM : ∃ i ∈ must, L i = false := by
      apply Classical.byContradiction
      intro hc
      apply hmust
      intro j hj
      cases hL : L j
      · exact absurd ⟨j, hj, hL⟩ hc
      · rfl
    have hsome : ∃ i ∈ rem, L i = false := by
      have : (rem.filter (fun i => !L i)) ≠ [] := fun e => by unfold left at hn; rw [e] at hn; simp at hn
      obtain ⟨i, hi⟩ := List.exists_mem_of_ne_nil _ this
      rw [List.mem_filter] at hi
      exact ⟨i, hi.1, by simpa using hi.2⟩
    have hlist : ∀ j ∈ rem, ∀ d, listed.getD j d = L j := fun j hj d => by
      rw [B.hl]
      exact marks_getD j d rem listed0 hnd hj (by simpa using (hrem j hj).2)
    have hin : ∀ k ∈ Region.ready md ops listed, k ∈ rem ∧ L k = false := fun k hk => by
      obtain ⟨hkl, o, ho, _⟩ := mem_ready.1 hk
      have hks : k < ops.size := (Array.getElem?_eq_some_iff.1 ho).1
      by_cases hkr : k ∈ rem
      · exact ⟨hkr, by rw [← hlist k hkr true]; exact hkl⟩
      · exfalso
        rcases hoth k hks with ((h | h) | h) | h
        · have h1 : listed.getD k true = listed0.getD k true := by rw [B.hl]; exact marks_getD_not k true rem listed0 hkr
          rw [hkl] at h1
          rcases Nat.lt_or_ge k listed0.size with h' | h'
          · simp [h'] at h h1; rw [h] at h1; cases h1
          · simp [Array.getElem?_eq_none h'] at h1
        · exact hkr (by simpa using h)
        · simp only [List.any_eq_true, Bool.and_eq_true, Bool.not_eq_true', List.mem_range] at h
          obtain ⟨m, _, ⟨h1, h2⟩, h3⟩ := h
          have h4 := waits_listed h1 hk
          have hmr : m ∉ rem := fun hm => by
            have : rem.contains m = true := by simpa using hm
            rw [this] at h2; cases h2
          rw [B.hl, marks_getD_not m false rem listed0 hmr, h3] at h4
          cases h4
        · obtain ⟨i, hi, hLi⟩ := hsomeM
          have hd : ∀ m ∈ rem, waitsB md ops k m = true → L m = true := fun m hm hw => by
            have := waits_listed hw hk
            rwa [hlist m hm false] at this
          have hLi' : L i = true := by
            have hr := h i hi
            cases hrl : rem.length with
            | zero => rw [hrl] at hr; exact hd i (hmr i hi) hr
            | succ n =>
              rw [hrl] at hr
              simp only [reachB, Bool.or_eq_true, List.any_eq_true, Bool.and_eq_true] at hr
              rcases hr with h | ⟨m, hm, h1, h2⟩
              · exact hd i (hmr i hi) h
              · exact reach_done B.hc n m i hm (hmr i hi) (hd m hm h1) h2
          rw [hLi] at hLi'
          cases hLi'
    show wpAny P md ops Q (Fu + n + 1) listed a w
    have hsub : ∀ k, listed0.getD k false = true → listed.getD k false = true := fun k hk => by
      by_cases hkr : k ∈ rem
      · have := (hrem k hkr).2
        rcases Nat.lt_or_ge k listed0.size with h' | h'
        · simp [h'] at hk this; rw [hk] at this; cases this
        · simp [Array.getElem?_eq_none h'] at hk
      · rw [B.hl, marks_getD_not k false rem listed0 hkr]; exact hk
    refine ⟨fun he => ?_, fun i hi => ?_⟩
    · exfalso
      obtain ⟨i, hi⟩ := topo_ready (L := L) hsub rem [] htopo (fun _ h => by cases h) (fun j hj => ⟨fun h => by rw [hlist j hj false]; exact h, fun h => by rw [hlist j hj true]; exact h⟩) hsome
      rw [he] at hi
      cases hi
    · obtain ⟨hir, hLi⟩ := hin i hi
      obtain ⟨vals, ha, hF, hG⟩ := B.ha
      refine wpOp_mono (fun a' w' h => ?_) (hstep i hir a w B.hI (fun t ht => by rw [ha]; exact puts_getD_not t rem a0 ht) (fun j hj hw => ?_))
      · obtain ⟨v, rfl, hFi, hI', hst⟩ := h
        refine ih (setL L i) _ _ _ (by have := left_set hLi hnd hir; omega) ⟨?_, hI', fun j hj hLj k hk hw => ?_, setV vals i v, ?_, fun j hj hLj => ?_, fun j hj k hk hjk hLj hLk => ?_⟩
        · rw [B.hl]; exact marks_set i hLi rem listed0 hnd hir
        · by_cases e : j = i
          · subst e
            have : L k = true := by rw [← hlist k hk false]; exact waits_listed hw hi
            simp [setL, this]
          · simp only [setL, if_neg e] at hLj
            have := B.hc j hj hLj k hk hw
            simp [setL, this]
        · rw [ha]; exact puts_set i v hLi rem a0 hap hir
        · by_cases e : j = i
          · subst e; simp only [setV, if_true]; exact hFi
          · simp only [setV, if_neg e]
            simp only [setL, if_neg e] at hLj
            exact (hst j hj _ e (hF j hj hLj)).1
        · by_cases e : j = i
          · subst e
            have e2 : k ≠ j := fun h => hjk h.symm
            simp only [setL, if_neg e2] at hLk
            simp only [setV, if_true, if_neg e2]
            exact (hst k hk _ e2 (hF k hk hLk)).2.2
          · simp only [setL, if_neg e] at hLj
            by_cases e2 : k = i
            · subst e2
              simp only [setV, if_true, if_neg e]
              exact (hst j hj _ e (hF j hj hLj)).2.1
            · simp only [setL, if_neg e2] at hLk
              simp only [setV, if_neg e, if_neg e2]
              exact hG j hj k hk hjk hLj hLk
      · have hLj : L j = true := by rw [← hlist j hj false]; exact waits_listed hw hi
        exact ⟨vals j, fun t ht => by rw [ha]; exact puts_getD j t ht hLj rem a0 hap hj (hsize j hj t ht), hF j hj hLj⟩
/-- All but one, which may come late. -/
theorem marks_but (o : Nat) : ∀ (r : List Nat) (l : Array Bool), marks (fun j => !(j == o)) r l = (r.filter (fun j => !(j == o))).foldl (fun l i => l.setIfInBounds i true) l
  | [], l => rfl
  | i :: r, l => by
    simp only [marks, List.filter_cons]
    by_cases h : i = o <;> simp [h, marks_but o r]
theorem puts_but (o : Nat) (vals : Nat → Value) : ∀ (r : List Nat) (a : Act), puts ops (fun j => !(j == o)) vals r a = (r.filter (fun j => !(j == o))).foldl (fun a i => a.put (dstOf ops i) (vals i)) a
  | [], a => rfl
  | i :: r, a => by
    simp only [puts, List.filter_cons]
    by_cases h : i = o <;> simp [h, puts_but o vals r]
theorem marks_all : ∀ (r : List Nat) (l : Array Bool), marks (fun _ => true) r l = r.foldl (fun l i => l.setIfInBounds i true) l
  | [], l => rfl
  | i :: r, l => by simp only [marks, if_true, List.foldl_cons]; exact marks_all r _
theorem puts_all (vals : Nat → Value) : ∀ (r : List Nat) (a : Act), puts ops (fun _ => true) vals r a = r.foldl (fun a i => a.put (dstOf ops i) (vals i)) a
  | [], a => rfl
  | i :: r, a => by simp only [puts, if_true, List.foldl_cons]; exact puts_all vals r _
theorem wpAny_potO {rem : List Nat} (o : Nat) (F : Nat → Value → World → Prop) (G : Nat → Nat → Value → Value → Prop) (I : World → Prop) (Fu : Nat) (listed0 : Array Bool) (a0 : Act) (w0 : World) (hchk : (potO md ops listed0 rem (rem.filter (fun j => !(j == o))) && decide (rem.length ≤ Fu)) = true)
    (hsize : ∀ i ∈ rem, ∀ t, dstOf ops i = some t → t < a0.tmps.size) (hI : I w0)
    (hstep : ∀ i ∈ rem, ∀ a w, I w → (∀ t, (∀ j ∈ rem, dstOf ops j ≠ some t) → a.tmps.getD t undef = a0.tmps.getD t undef) →
      (∀ j ∈ rem, waitsB md ops i j = true → ∃ v, (∀ t, dstOf ops j = some t → a.tmps.getD t undef = v) ∧ F j v w) →
      wpOp P ops Q i (fun a' w' => ∃ v, a' = a.put (dstOf ops i) v ∧ F i v w' ∧ I w' ∧ ∀ j ∈ rem, ∀ u, j ≠ i → F j u w → F j u w' ∧ G j i u v ∧ G i j v u) a w)
    (hend : ∀ (vals : Nat → Value) w, I w → (∀ j ∈ rem, F j (vals j) w) → (∀ j ∈ rem, ∀ k ∈ rem, j ≠ k → G j k (vals j) (vals k)) → wpAny P md ops Q (Fu - rem.length) (rem.foldl (fun l i => l.setIfInBounds i true) listed0) (rem.foldl (fun a i => a.put (dstOf ops i) (vals i)) a0) w)
    (hend2 : ∀ (vals : Nat → Value) w, I w → (∀ j ∈ rem, j ≠ o → F j (vals j) w) → (∀ j ∈ rem, ∀ k ∈ rem, j ≠ k → j ≠ o → k ≠ o → G j k (vals j) (vals k)) → wpAny P md ops Q (Fu - rem.length + left (fun j => !(j == o)) rem) ((rem.filter (fun j => !(j == o))).foldl (fun l i => l.setIfInBounds i true) listed0) ((rem.filter (fun j => !(j == o))).foldl (fun a i => a.put (dstOf ops i) (vals i)) a0) w) : wpAny P md ops Q Fu listed0 a0 w0 := by
  simp only [Bool.and_eq_true, decide_eq_true_eq] at hchk
  have n0 : ∀ (r : List Nat) (l : Array Bool), marks (fun _ => false) r l = l := fun r => by
    induction r with
    | nil => intro l; rfl
    | cons i r ih => intro l; simp only [marks, Bool.false_eq_true, if_false]; exact ih l
  have n1 : ∀ (vals : Nat → Value) (r : List Nat) (a : Act), puts ops (fun _ => false) vals r a = a := fun vals r => by
    induction r with
    | nil => intro l; rfl
    | cons i r ih => intro l; simp only [puts, Bool.false_eq_true, if_false]; exact ih l
  have lf : left (fun _ => false) rem = rem.length := by unfold left; simp
  have := wpAny_potO_go (P := P) (Q := Q) (md := md) (ops := ops) (F := F) (G := G) (I := I) (listed0 := listed0) (a0 := a0) (Fu := Fu - rem.length) (must := rem.filter (fun j => !(j == o))) (fun i hi => (List.mem_filter.1 hi).1) hchk.1 hsize hstep
    (fun L vals w hL hw hf hg => by
      cases ho : L o
      · have e : ∀ j ∈ rem, L j = !(j == o) := fun j hj => by
          by_cases h : j = o
          · subst h; simp [ho]
          · have := hL j (List.mem_filter.2 ⟨hj, by simp [h]⟩); rw [this]; simp [h]
        have e2 : left L rem = left (fun j => !(j == o)) rem := by unfold left; congr 1; exact List.filter_congr (fun j hj => by rw [e j hj])
        rw [e2, marks_congr (L' := fun j => !(j == o)) rem listed0 e, puts_congr (L' := fun j => !(j == o)) (vals' := vals) rem a0 (fun j hj => ⟨e j hj, rfl⟩), marks_but, puts_but]
        exact hend2 vals w hw (fun j hj h => hf j hj (by rw [e j hj]; simp [h])) (fun j hj k hk hjk h1 h2 => hg j hj k hk hjk (by rw [e j hj]; simp [h1]) (by rw [e k hk]; simp [h2]))
      · have e : ∀ j ∈ rem, L j = true := fun j hj => by
          by_cases h : j = o
          · subst h; exact ho
          · exact hL j (List.mem_filter.2 ⟨hj, by simp [h]⟩)
        have e2 : left L rem = 0 := by unfold left; rw [List.length_eq_zero_iff, List.filter_eq_nil_iff]; intro j hj; rw [e j hj]; simp
        rw [e2, marks_congr (L' := fun _ => true) rem listed0 e, puts_congr (L' := fun _ => true) (vals' := vals) rem a0 (fun j hj => ⟨e j hj, rfl⟩), marks_all, puts_all]
        exact hend vals w hw (fun j hj => hf j hj (e j hj)) (fun j hj k hk hjk => hg j hj k hk hjk (e j hj) (e k hk)))
    rem.length (fun _ => false) listed0 a0 w0 lf ⟨(n0 rem listed0).symm, hI, (fun j _ h => Bool.noConfusion h), ⟨fun _ => undef, (n1 _ rem a0).symm, ⟨(fun j _ h => Bool.noConfusion h), (fun j _ k _ _ h _ => Bool.noConfusion h)⟩⟩⟩
  rwa [Nat.sub_add_cancel hchk.2] at this
end
end Go.Proofs.Ytbeikhokkpioeaa
