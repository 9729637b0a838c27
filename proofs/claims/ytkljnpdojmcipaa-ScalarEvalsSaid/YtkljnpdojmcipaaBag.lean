/- A region that draws its order, some of whose operations may come in whatever order: each one tells a fact of its value, that the others keep till it is used. Nothing of the program. -/
import Derived.Test.YtkljnpdojmcipaaTill
namespace Go.Proofs.Ytkljnpdojmcipaa
open Go Go.RowKit
section
variable {P : Program} {md : Region.Mode} {ops : Array Oper} {Q : Exit → Act → World → Prop}
def dstOf (ops : Array Oper) (i : Nat) : Option Tmp := (ops[i]?).bind (·.dst)
/-- The values of those of the row that are done. -/
def puts (ops : Array Oper) (L : Nat → Bool) (vals : Nat → Value) : List Nat → Act → Act
  | [], a => a
  | i :: r, a => puts ops L vals r (if L i then a.put (dstOf ops i) (vals i) else a)
def marks (L : Nat → Bool) : List Nat → Array Bool → Array Bool
  | [], l => l
  | i :: r, l => marks L r (if L i then l.setIfInBounds i true else l)
def setL (L : Nat → Bool) (i : Nat) : Nat → Bool := fun j => if j = i then true else L j
def setV (vals : Nat → Value) (i : Nat) (v : Value) : Nat → Value := fun j => if j = i then v else vals j
theorem puts_congr {L L' : Nat → Bool} {vals vals' : Nat → Value} : ∀ (r : List Nat) (a : Act), (∀ j ∈ r, L j = L' j ∧ vals j = vals' j) → puts ops L vals r a = puts ops L' vals' r a
  | [], _, _ => rfl
  | i :: r, a, h => by
    obtain ⟨h1, h2⟩ := h i (by simp)
    simp only [puts, h1, h2]
    exact puts_congr r _ (fun j hj => h j (List.mem_cons_of_mem _ hj))
theorem marks_congr {L L' : Nat → Bool} : ∀ (r : List Nat) (l : Array Bool), (∀ j ∈ r, L j = L' j) → marks L r l = marks L' r l
  | [], _, _ => rfl
  | i :: r, l, h => by
    simp only [marks, h i (by simp)]
    exact marks_congr r _ (fun j hj => h j (List.mem_cons_of_mem _ hj))
theorem puts_comm {L : Nat → Bool} {vals : Nat → Value} (d : Option Tmp) (v : Value) : ∀ (r : List Nat) (a : Act), (∀ j ∈ r, ∀ t, dstOf ops j = some t → d ≠ some t) → puts ops L vals r (a.put d v) = (puts ops L vals r a).put d v
  | [], _, _ => rfl
  | i :: r, a, h => by
    simp only [puts]
    split
    · rw [← puts_comm d v r _ (fun j hj => h j (List.mem_cons_of_mem _ hj)), Act.put_comm a (vals i) v (fun t ht => h i (by simp) t ht)]
    · exact puts_comm d v r a (fun j hj => h j (List.mem_cons_of_mem _ hj))
theorem marks_comm {L : Nat → Bool} (k : Nat) : ∀ (r : List Nat) (l : Array Bool), marks L r (l.setIfInBounds k true) = (marks L r l).setIfInBounds k true
  | [], _ => rfl
  | i :: r, l => by
    simp only [marks]
    split
    · rw [← marks_comm k r]
      congr 1
      by_cases e : k = i
      · subst e; rfl
      · exact Array.setIfInBounds_comm _ _ e
    · exact marks_comm k r l
/-- Of these rows no two write to one slot. -/
def apartB (ops : Array Oper) : List Nat → Bool
  | [] => true
  | i :: r => r.all (fun j => j != i && (dstOf ops i == none || dstOf ops i != dstOf ops j)) && apartB ops r
theorem puts_set {L : Nat → Bool} {vals : Nat → Value} (i : Nat) (v : Value) (hi : L i = false) : ∀ (r : List Nat) (a : Act), apartB ops r = true → i ∈ r →
    (puts ops L vals r a).put (dstOf ops i) v = puts ops (setL L i) (setV vals i v) r a
  | [], _, _, h => by cases h
  | k :: r, a, hb, h => by
    simp only [apartB, Bool.and_eq_true, List.all_eq_true, bne_iff_ne, Bool.or_eq_true, beq_iff_eq] at hb
    obtain ⟨hk, hr⟩ := hb
    by_cases e : k = i
    · subst e
      simp only [puts, hi, setL, setV, if_true, Bool.false_eq_true, if_false]
      rw [← puts_comm (dstOf ops k) v r a (fun j hj t ht => by
        rcases (hk j hj).2 with h0 | h0
        · rw [h0]; simp
        · rw [← ht]; exact h0)]
      exact puts_congr r _ (fun j hj => by have := (hk j hj).1; simp [setL, setV, this])
    · have hir : i ∈ r := by
        rcases List.mem_cons.1 h with h | h
        · exact absurd h.symm e
        · exact h
      simp only [puts, setL, setV, if_neg e]
      exact puts_set i v hi r _ hr hir
theorem marks_set {L : Nat → Bool} (i : Nat) (hi : L i = false) : ∀ (r : List Nat) (l : Array Bool), r.Nodup → i ∈ r → (marks L r l).setIfInBounds i true = marks (setL L i) r l
  | [], _, _, h => by cases h
  | k :: r, l, hb, h => by
    rw [List.nodup_cons] at hb
    by_cases e : k = i
    · subst e
      simp only [marks, hi, setL, if_true]
      rw [← marks_comm]
      exact marks_congr r _ (fun j hj => by
        have : j ≠ k := fun e => hb.1 (e ▸ hj)
        simp [setL, this])
    · have hir : i ∈ r := by
        rcases List.mem_cons.1 h with h | h
        · exact absurd h.symm e
        · exact h
      simp only [marks, setL, if_neg e]
      exact marks_set i hi r _ hb.2 hir
theorem apart_nodup : ∀ (r : List Nat), apartB ops r = true → r.Nodup
  | [], _ => List.nodup_nil
  | i :: r, h => by
    simp only [apartB, Bool.and_eq_true, List.all_eq_true, bne_iff_ne] at h
    exact List.nodup_cons.2 ⟨fun hi => (h.1 i hi).1 rfl, apart_nodup r h.2⟩
theorem marks_getD_not {L : Nat → Bool} (k : Nat) (d : Bool) : ∀ (r : List Nat) (l : Array Bool), k ∉ r → (marks L r l).getD k d = l.getD k d
  | [], _, _ => rfl
  | i :: r, l, h => by
    simp only [List.mem_cons, not_or] at h
    simp only [marks]
    split
    · rw [marks_getD_not k d r _ h.2, getD_set_ne d (fun e => h.1 e.symm)]
    · exact marks_getD_not k d r l h.2
theorem marks_getD {L : Nat → Bool} (k : Nat) (d : Bool) : ∀ (r : List Nat) (l : Array Bool), r.Nodup → k ∈ r → l.getD k true = false → (marks L r l).getD k d = L k
  | [], _, _, h, _ => by cases h
  | i :: r, l, hn, h, hl => by
    rw [List.nodup_cons] at hn
    have hlt : k < l.size := by
      rcases Nat.lt_or_ge k l.size with h' | h'
      · exact h'
      · simp [Array.getElem?_eq_none h'] at hl
    by_cases e : i = k
    · subst e
      simp only [marks]
      rw [marks_getD_not i d r _ hn.1]
      have e : ∀ (l : Array Bool) (h : i < l.size) (d : Bool), l.getD i d = l[i] := fun l h d => by simp [h]
      cases hL : L i
      · simp only [Bool.false_eq_true, if_false]
        rw [e l hlt] at hl
        rw [e l hlt]
        exact hl
      · simp [hlt]
    · have hkr : k ∈ r := by
        rcases List.mem_cons.1 h with h | h
        · exact absurd h.symm e
        · exact h
      simp only [marks]
      refine marks_getD k d r _ hn.2 hkr ?_
      cases L i
      · exact hl
      · exact (getD_set_ne true e).trans hl
theorem put_getD_ne (a : Act) (d : Option Tmp) (v : Value) (t : Tmp) (h : d ≠ some t) : (a.put d v).tmps.getD t undef = a.tmps.getD t undef := by
  cases d with
  | none => rfl
  | some x =>
    have : x ≠ t := fun e => h (by rw [e])
    simp [Act.put, Array.getElem?_setIfInBounds_ne this]
theorem puts_getD_not {L : Nat → Bool} {vals : Nat → Value} (t : Tmp) : ∀ (r : List Nat) (a : Act), (∀ j ∈ r, dstOf ops j ≠ some t) → (puts ops L vals r a).tmps.getD t undef = a.tmps.getD t undef
  | [], _, _ => rfl
  | i :: r, a, h => by
    simp only [puts]
    rw [puts_getD_not t r _ (fun j hj => h j (List.mem_cons_of_mem _ hj))]
    split
    · exact put_getD_ne a _ _ t (h i (by simp))
    · rfl
theorem put_size (a : Act) (d : Option Tmp) (v : Value) : (a.put d v).tmps.size = a.tmps.size := by
  cases d <;> simp [Act.put]
theorem puts_getD {L : Nat → Bool} {vals : Nat → Value} (k : Nat) (t : Tmp) (hk : dstOf ops k = some t) (hL : L k = true) : ∀ (r : List Nat) (a : Act), apartB ops r = true → k ∈ r → t < a.tmps.size → (puts ops L vals r a).tmps.getD t undef = vals k
  | [], _, _, h, _ => by cases h
  | i :: r, a, hb, h, ht => by
    simp only [apartB, Bool.and_eq_true, List.all_eq_true, bne_iff_ne, Bool.or_eq_true, beq_iff_eq] at hb
    obtain ⟨hi, hr⟩ := hb
    by_cases e : i = k
    · subst e
      simp only [puts, hL, if_true]
      rw [puts_getD_not t r _ (fun j hj e => by
        rcases (hi j hj).2 with h0 | h0
        · rw [h0] at hk; cases hk
        · rw [hk, e] at h0; exact h0 rfl), hk]
      simp [Act.put, ht]
    · have hkr : k ∈ r := by
        rcases List.mem_cons.1 h with h | h
        · exact absurd h.symm e
        · exact h
      simp only [puts]
      refine puts_getD k t hk hL r _ hr hkr ?_
      split
      · rw [put_size]; exact ht
      · exact ht
/-- Each of the row waits for what is listed, or stands ahead of it. -/
def topoB (md : Region.Mode) (ops : Array Oper) (listed : Array Bool) : List Nat → List Nat → Bool
  | _, [] => true
  | done, i :: r => (match ops[i]? with | some o => o.after.all (fun e => !Region.binds md e || listed.getD e.on false || done.contains e.on) | none => false) && topoB md ops listed (i :: done) r
theorem topo_ready {L : Nat → Bool} {listed0 listed : Array Bool} (h0 : ∀ k, listed0.getD k false = true → listed.getD k false = true) : ∀ (r done : List Nat), topoB md ops listed0 done r = true → (∀ j ∈ done, listed.getD j false = true) →
    (∀ j ∈ r, (L j = true → listed.getD j false = true) ∧ (L j = false → listed.getD j true = false)) → (∃ i ∈ r, L i = false) → ∃ i, i ∈ Region.ready md ops listed
  | [], _, _, _, _, h => by obtain ⟨_, h, _⟩ := h; cases h
  | i :: r, done, ht, hd, hr, h => by
    simp only [topoB, Bool.and_eq_true] at ht
    obtain ⟨ht1, ht2⟩ := ht
    cases hL : L i
    · cases ho : ops[i]? with
      | none => rw [ho] at ht1; cases ht1
      | some o =>
        rw [ho] at ht1
        simp only [Array.all_eq_true'] at ht1
        refine ⟨i, mem_ready.2 ⟨(hr i (by simp)).2 hL, o, ho, fun e he hb => ?_⟩⟩
        have := ht1 e he
        simp only [hb, Bool.not_true, Bool.false_or, Bool.or_eq_true] at this
        rcases this with h | h
        · exact h0 _ h
        · exact hd _ (by simpa using h)
    · refine topo_ready h0 r (i :: done) ht2 (fun j hj => ?_) (fun j hj => hr j (List.mem_cons_of_mem _ hj)) ?_
      · rcases List.mem_cons.1 hj with e | hj
        · rw [e]; exact (hr i (by simp)).1 hL
        · exact hd j hj
      · obtain ⟨k, hk, hLk⟩ := h
        rcases List.mem_cons.1 hk with e | hk
        · rw [e, hL] at hLk; cases hLk
        · exact ⟨k, hk, hLk⟩
/-- What the row must be for the law: none is listed, no two write to one slot, and all others are listed or wait for each of the row. -/
def bagB (md : Region.Mode) (ops : Array Oper) (listed : Array Bool) (rem : List Nat) : Bool :=
  apartB ops rem && rem.all (fun i => (ops[i]?).isSome && !listed.getD i true) && (List.range ops.size).all (fun k => listed.getD k false || rem.contains k || rem.all (fun i => waitsB md ops k i)) && topoB md ops listed [] rem
structure Bag (ops : Array Oper) (rem : List Nat) (F : Nat → Value → World → Prop) (cons : Nat → Nat) (I : World → Prop) (listed0 : Array Bool) (a0 : Act) (L : Nat → Bool) (listed : Array Bool) (a : Act) (w : World) : Prop where
  hl : listed = marks L rem listed0
  hI : I w
  ha : ∃ vals, a = puts ops L vals rem a0 ∧ ∀ j ∈ rem, L j = true → (cons j ∈ rem → L (cons j) = false) → F j (vals j) w
theorem waits_listed {k i : Nat} {listed : Array Bool} (hw : waitsB md ops k i = true) (hk : k ∈ Region.ready md ops listed) : listed.getD i false = true := by
  unfold waitsB at hw
  obtain ⟨_, o, ho, hall⟩ := mem_ready.1 hk
  rw [ho] at hw
  simp only [Array.any_eq_true', Bool.and_eq_true, beq_iff_eq] at hw
  obtain ⟨e, he, hb, heq⟩ := hw
  have := hall e he hb
  rwa [heq] at this
/-- How many aren't done yet. -/
def left (L : Nat → Bool) (r : List Nat) : Nat := (r.filter (fun i => !L i)).length
theorem left_set {L : Nat → Bool} {i : Nat} (hi : L i = false) : ∀ {r : List Nat}, r.Nodup → i ∈ r → left (setL L i) r + 1 = left L r
  | [], _, h => by cases h
  | k :: r, hn, h => by
    rw [List.nodup_cons] at hn
    by_cases e : k = i
    · subst e
      have hs : (r.filter (fun j => !setL L k j)) = r.filter (fun j => !L j) := List.filter_congr (fun j hj => by
        have : j ≠ k := fun e => hn.1 (e ▸ hj)
        simp [setL, this])
      simp only [left, List.filter_cons, setL, if_true, Bool.not_true, Bool.false_eq_true, if_false, hi, Bool.not_false, List.length_cons]
      have hs' : (r.filter (fun j => !(if j = k then true else L j))) = r.filter (fun j => !L j) := hs
      rw [hs']
    · have hir : i ∈ r := by
        rcases List.mem_cons.1 h with h | h
        · exact absurd h.symm e
        · exact h
      have ih := left_set hi hn.2 hir
      have hk : setL L i k = L k := by simp [setL, e]
      unfold left at ih ⊢
      rw [List.filter_cons, List.filter_cons, hk]
      split
      · simp only [List.length_cons]; omega
      · exact ih
theorem wpAny_bag_go {rem : List Nat} {F : Nat → Value → World → Prop} {cons : Nat → Nat} {I : World → Prop} {listed0 : Array Bool} {a0 : Act} {Fu : Nat} (hchk : bagB md ops listed0 rem = true)
    (hsize : ∀ i ∈ rem, ∀ t, dstOf ops i = some t → t < a0.tmps.size)
    (hstep : ∀ i ∈ rem, ∀ a w, I w → (∀ t, (∀ j ∈ rem, dstOf ops j ≠ some t) → a.tmps.getD t undef = a0.tmps.getD t undef) →
      (∀ j ∈ rem, waitsB md ops i j = true → (cons j = i ∨ cons j ∉ rem) → ∃ v, (∀ t, dstOf ops j = some t → a.tmps.getD t undef = v) ∧ F j v w) →
      wpOp P ops Q i (fun a' w' => ∃ v, a' = a.put (dstOf ops i) v ∧ F i v w' ∧ I w' ∧ ∀ j ∈ rem, ∀ u, j ≠ i → cons j ≠ i → F j u w → F j u w') a w)
    (hend : ∀ (vals : Nat → Value) w, I w → (∀ j ∈ rem, cons j ∉ rem → F j (vals j) w) → wpAny P md ops Q Fu (marks (fun _ => true) rem listed0) (puts ops (fun _ => true) vals rem a0) w) :
    ∀ (n : Nat) (L : Nat → Bool) (listed : Array Bool) (a : Act) (w : World), left L rem = n → Bag ops rem F cons I listed0 a0 L listed a w → wpAny P md ops Q (Fu + n) listed a w := by
  simp only [bagB, Bool.and_eq_true, List.all_eq_true, Bool.or_eq_true, List.mem_range] at hchk
  obtain ⟨⟨⟨hap, hrem⟩, hoth⟩, htopo⟩ := hchk
  have hnd := apart_nodup rem hap
  intro n
  induction n with
  | zero =>
    intro L listed a w hn B
    have hall : ∀ j ∈ rem, L j = true := fun j hj => by
      cases hL : L j
      · have : j ∈ rem.filter (fun i => !L i) := List.mem_filter.2 ⟨hj, by simp [hL]⟩
        rw [List.eq_nil_of_length_eq_zero hn] at this
        cases this
      · rfl
    obtain ⟨vals, ha, hF⟩ := B.ha
    rw [B.hl, ha, marks_congr (L' := fun _ => true) rem listed0 (fun j hj => hall j hj), puts_congr (L' := fun _ => true) (vals' := vals) rem a0 (fun j hj => ⟨hall j hj, rfl⟩)]
    exact hend vals w B.hI (fun j hj hc => hF j hj (hall j hj) (fun h => absurd h hc))
  | succ n ih =>
    intro L listed a w hn B
    have hsome : ∃ i ∈ rem, L i = false := by
      have : (rem.filter (fun i => !L i)) ≠ [] := fun e => by unfold left at hn; rw [e] at hn; simp at hn
      obtain ⟨i, hi⟩ := List.exists_mem_of_ne_nil _ this
      rw [List.mem_filter] at hi
      exact ⟨i, hi.1, by simpa using hi.2⟩
    have hlist : ∀ j ∈ rem, ∀ d, listed.getD j d = L j := fun j hj d => by
      rw [B.hl]
      exact marks_getD j d rem listed0 hnd hj (by simpa using (hrem j hj).2)
    have hin : ∀ k ∈ Region.ready md ops listed, k ∈ rem ∧ L k = false := fun k hk => by
      obtain ⟨hkl, o, ho, _⟩ := mem_ready.1 hk
      have hks : k < ops.size := (Array.getElem?_eq_some_iff.1 ho).1
      by_cases hkr : k ∈ rem
      · exact ⟨hkr, by rw [← hlist k hkr true]; exact hkl⟩
      · exfalso
        rcases hoth k hks with (h | h) | h
        · have h1 : listed.getD k true = listed0.getD k true := by rw [B.hl]; exact marks_getD_not k true rem listed0 hkr
          rw [hkl] at h1
          rcases Nat.lt_or_ge k listed0.size with h' | h'
          · simp [h'] at h h1; rw [h] at h1; cases h1
          · simp [Array.getElem?_eq_none h'] at h1
        · exact hkr (by simpa using h)
        · obtain ⟨i, hi, hLi⟩ := hsome
          have := waits_listed (h i hi) hk
          rw [hlist i hi false, hLi] at this
          cases this
    show wpAny P md ops Q (Fu + n + 1) listed a w
    have hsub : ∀ k, listed0.getD k false = true → listed.getD k false = true := fun k hk => by
      by_cases hkr : k ∈ rem
      · have := (hrem k hkr).2
        rcases Nat.lt_or_ge k listed0.size with h' | h'
        · simp [h'] at hk this; rw [hk] at this; cases this
        · simp [Array.getElem?_eq_none h'] at hk
      · rw [B.hl, marks_getD_not k false rem listed0 hkr]; exact hk
    refine ⟨fun he => ?_, fun i hi => ?_⟩
    · exfalso
      obtain ⟨i, hi⟩ := topo_ready (L := L) hsub rem [] htopo (fun _ h => by cases h) (fun j hj => ⟨fun h => by rw [hlist j hj false]; exact h, fun h => by rw [hlist j hj true]; exact h⟩) hsome
      rw [he] at hi
      cases hi
    · obtain ⟨hir, hLi⟩ := hin i hi
      obtain ⟨vals, ha, hF⟩ := B.ha
      refine wpOp_mono (fun a' w' h => ?_) (hstep i hir a w B.hI (fun t ht => by rw [ha]; exact puts_getD_not t rem a0 ht) (fun j hj hw hc => ?_))
      · obtain ⟨v, rfl, hFi, hI', hst⟩ := h
        refine ih (setL L i) _ _ _ (by have := left_set hLi hnd hir; omega) ⟨?_, hI', setV vals i v, ?_, fun j hj hLj hcj => ?_⟩
        · rw [B.hl]; exact marks_set i hLi rem listed0 hnd hir
        · rw [ha]; exact puts_set i v hLi rem a0 hap hir
        · by_cases e : j = i
          · subst e; simp only [setV, if_true]; exact hFi
          · simp only [setV, if_neg e]
            simp only [setL, if_neg e] at hLj
            have hci : cons j ≠ i := fun ec => by
              have := hcj (by rw [ec]; exact hir)
              simp [setL, ec] at this
            refine hst j hj _ e hci (hF j hj hLj (fun hcr => ?_))
            have := hcj hcr
            simpa [setL, hci] using this
      · have hLj : L j = true := by rw [← hlist j hj false]; exact waits_listed hw hi
        refine ⟨vals j, fun t ht => by rw [ha]; exact puts_getD j t ht hLj rem a0 hap hj (hsize j hj t ht), hF j hj hLj (fun hcr => ?_)⟩
        rcases hc with e | h
        · rw [e]; exact hLi
        · exact absurd hcr h
theorem wpAny_bag {rem : List Nat} (F : Nat → Value → World → Prop) (cons : Nat → Nat) (I : World → Prop) (Fu : Nat) (listed0 : Array Bool) (a0 : Act) (w0 : World) (hchk : (bagB md ops listed0 rem && decide (rem.length ≤ Fu)) = true)
    (hsize : ∀ i ∈ rem, ∀ t, dstOf ops i = some t → t < a0.tmps.size) (hI : I w0)
    (hstep : ∀ i ∈ rem, ∀ a w, I w → (∀ t, (∀ j ∈ rem, dstOf ops j ≠ some t) → a.tmps.getD t undef = a0.tmps.getD t undef) →
      (∀ j ∈ rem, waitsB md ops i j = true → (cons j = i ∨ cons j ∉ rem) → ∃ v, (∀ t, dstOf ops j = some t → a.tmps.getD t undef = v) ∧ F j v w) →
      wpOp P ops Q i (fun a' w' => ∃ v, a' = a.put (dstOf ops i) v ∧ F i v w' ∧ I w' ∧ ∀ j ∈ rem, ∀ u, j ≠ i → cons j ≠ i → F j u w → F j u w') a w)
    (hend : ∀ (vals : Nat → Value) w, I w → (∀ j ∈ rem, cons j ∉ rem → F j (vals j) w) → wpAny P md ops Q (Fu - rem.length) (rem.foldl (fun l i => l.setIfInBounds i true) listed0) (rem.foldl (fun a i => a.put (dstOf ops i) (vals i)) a0) w) : wpAny P md ops Q Fu listed0 a0 w0 := by
  simp only [Bool.and_eq_true, decide_eq_true_eq] at hchk
  have m : ∀ (r : List Nat) (l : Array Bool), marks (fun _ => true) r l = r.foldl (fun l i => l.setIfInBounds i true) l := fun r => by
    induction r with
    | nil => intro l; rfl
    | cons i r ih => intro l; simp only [marks, if_true, List.foldl_cons]; exact ih _
  have q : ∀ (vals : Nat → Value) (r : List Nat) (a : Act), puts ops (fun _ => true) vals r a = r.foldl (fun a i => a.put (dstOf ops i) (vals i)) a := fun vals r => by
    induction r with
    | nil => intro l; rfl
    | cons i r ih => intro l; simp only [puts, if_true, List.foldl_cons]; exact ih _
  have n0 : ∀ (r : List Nat) (l : Array Bool), marks (fun _ => false) r l = l := fun r => by
    induction r with
    | nil => intro l; rfl
    | cons i r ih => intro l; simp only [marks, Bool.false_eq_true, if_false]; exact ih l
  have n1 : ∀ (vals : Nat → Value) (r : List Nat) (a : Act), puts ops (fun _ => false) vals r a = a := fun vals r => by
    induction r with
    | nil => intro l; rfl
    | cons i r ih => intro l; simp only [puts, Bool.false_eq_true, if_false]; exact ih l
  have lf : left (fun _ => false) rem = rem.length := by unfold left; simp
  have := wpAny_bag_go (P := P) (Q := Q) (md := md) (ops := ops) (F := F) (cons := cons) (I := I) (listed0 := listed0) (a0 := a0) (Fu := Fu - rem.length) hchk.1 hsize hstep
    (fun vals w hw hf => by rw [m, q]; exact hend vals w hw hf) rem.length (fun _ => false) listed0 a0 w0 lf ⟨(n0 rem listed0).symm, hI, fun _ => undef, (n1 _ rem a0).symm, fun j _ h => by cases h⟩
  rwa [Nat.sub_add_cancel hchk.2] at this
end
end Go.Proofs.Ytkljnpdojmcipaa
