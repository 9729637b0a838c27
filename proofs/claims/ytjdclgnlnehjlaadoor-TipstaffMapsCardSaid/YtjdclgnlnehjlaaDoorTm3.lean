/- TipstaffMaps: a map's sum as one value; new maps; six of them. -/
import Derived.Test.YtjdclgnlnehjlaaDoorTm2
namespace Go.Proofs.YtjdclgnlnehjlaaDoor
open Go Go.RowKit Go.Sort
def leMe (x y : Me) : Bool := !(decide (Lib.compareBytes y.k.data.toList x.k.data.toList < 0))
theorem leMe_trans (a b c : Me) (h1 : leMe a b = true) (h2 : leMe b c = true) : leMe a c = true := by
  unfold leMe at *
  have := (swo_text (fun e : Me => e.k)).ntrans c b a (by simpa using h2) (by simpa using h1)
  simpa using this
theorem leMe_total (a b : Me) : (leMe a b || leMe b a) = true := by
  cases h1 : leMe a b with
  | true => rfl
  | false =>
    cases h2 : leMe b a with
    | true => rfl
    | false =>
      unfold leMe at h1 h2
      have := (swo_text (fun e : Me => e.k)).trans a b a (by simpa using h2) (by simpa using h1)
      rw [(swo_text (fun e : Me => e.k)).irrefl a] at this
      cases this
/-- A map's entries by their keys, one such row. -/
def canL (m : Mp) : List Me := ((List.range m.n).map m.E).mergeSort leMe
def can (m : Mp) : Nat → Me := fun i => (canL m)[i]?.getD default
theorem canL_len (m : Mp) : (canL m).length = m.n := by unfold canL; rw [List.length_mergeSort]; simp
theorem can_list (m : Mp) : (List.range m.n).map (can m) = canL m := by
  apply List.ext_getElem?
  intro i
  by_cases hi : i < m.n
  · rw [List.getElem?_map, List.getElem?_range hi, Option.map_some]
    unfold can
    rw [List.getElem?_eq_getElem (by rw [canL_len]; exact hi)]
    rfl
  · rw [List.getElem?_eq_none (by simp; omega), List.getElem?_eq_none (by rw [canL_len]; omega)]
theorem can_ord (m : Mp) (h : m.ty ≠ 3 ∧ m.ty ≠ 4) : Ordd m (can m) := by
  refine ⟨fun _ => ⟨?_, ?_⟩, fun hl => absurd hl (by omega)⟩
  · rw [can_list]; exact List.mergeSort_perm _ _
  · rw [can_list]
    have := List.pairwise_mergeSort (le := leMe) leMe_trans leMe_total ((List.range m.n).map m.E)
    refine List.Pairwise.imp (fun {a b} h => ?_) this
    unfold leMe at h
    simpa using h
/-- A map's sum. -/
def sumZ (m : Mp) : Nat → BitVec 8 := sumD m (can m)
section
variable {m m1 m2 : Mp} {ty N : Nat} {th : Nat → Bool} {V : Nat → Nat → BitVec 8} {w w2 : World}
theorem MH.line (h : MH ty m th V w) : m.ty ≠ 3 ∧ m.ty ≠ 4 := by have := h.ety; have := h.t2; omega
theorem MSumZ (h : MH ty m th V w) (hN : Sz w N) (hT : Tabs w) : Calls Tryd.prog 11 #[.pointer (some ⟨m.b, 0, none⟩)] w fun e w' => e = .returned (.agg (cellsOf (fun j => By (sumZ m j)) 32)) ∧ Below N w w' := by
  refine (MSum_any m h.ok w N hN hT h.at_).mono ?_
  rintro e w' ⟨E, ho, rfl, b⟩
  exact ⟨by rw [MH_sum h h ho (can_ord m h.line)]; rfl, b⟩
theorem sumZ_same (h1 : MH ty m1 th V w) (h2 : MH ty m2 th V w2) : sumZ m1 = sumZ m2 := MH_sum h1 h2 (can_ord m1 h1.line) (can_ord m2 h2.line)
end
def th0 (ty : Nat) : Nat → Bool := fun _ => ty == 0
def NewP (ty N : Nat) (w : World) (e : Ending) (w' : World) : Prop := ∃ m, e = .returned (.tuple #[.pointer (some ⟨m.b, 0, none⟩), .int .i64 0]) ∧ MH ty m (th0 ty) (fun _ _ => 0#8) w' ∧ Below N w w' ∧ ∀ x, Foot m x → N ≤ x
theorem MNew (ty : Nat) (h : ty ≤ 2) (w : World) (N : Nat) (hN : Sz w N) : Calls Tryd.prog 7 #[spV ty 4 2 8] w (NewP ty N w) := by
  by_cases h0 : ty = 0
  · subst h0
    refine (New_array 2 8 (by omega) (by omega) (by omega) (by omega) w N hN).mono ?_
    rintro e w' ⟨b, m, hb, rfl, A⟩
    refine ⟨m, by rw [A.eb], ⟨A.at_, A.ety, by omega, A.ekey, A.eval, A.eent, A.efz, fun i => i, fun i hi => by have := A.en; omega, fun _ _ => rfl, fun i hi => A.ks i (by have := A.en; omega), fun i hi j hj => A.vs i (by have := A.en; omega) j hj, fun i j _ _ e => e, fun x hx _ => ⟨x, by rw [A.en]; exact hx, rfl⟩⟩, A.bel, A.lo⟩
  · have hS : SpecOk ty 4 2 8 := ⟨⟨1, 16, by rcases (show ty = 1 ∨ ty = 2 by omega) with e | e; exact .inr (.inl ⟨e, rfl, rfl⟩); exact .inr (.inr (.inl ⟨e, rfl, rfl⟩)), by omega, by omega⟩, by omega, by omega, by omega, by omega⟩
    refine (New_plain ty 4 2 8 hS h0 w N hN).mono ?_
    rintro e w' ⟨⟨b, hb, rfl, A⟩, bl⟩
    refine ⟨mp0 ty 4 2 8 b, rfl, ⟨A, rfl, h, rfl, rfl, rfl, rfl, fun i => i, fun i hi => absurd hi (Nat.not_lt_zero i), fun i hi => absurd hi (Nat.not_lt_zero i), fun i hi => absurd hi (Nat.not_lt_zero i), fun i hi => absurd hi (Nat.not_lt_zero i), fun i _ hi => absurd hi (Nat.not_lt_zero i), fun x _ ht => ?_⟩, bl, fun x hx => ?_⟩
    · unfold th0 at ht
      rw [beq_iff_eq] at ht
      exact absurd ht h0
    · rcases hx with hx | hx | ⟨i, hi, _⟩
      · rw [hx]; exact hb
      · cases hx
      · exact absurd hi (Nat.not_lt_zero i)
/-- The first c of each three are there. -/
def inC (c i : Nat) : Prop := i < c ∨ (3 ≤ i ∧ i < 3 + c)
structure PreW (w : World) (N c : Nat) (Mf : Nat → Mp) (wr : World) : Prop where
  lo : Below N w wr
  mh : ∀ i, inC c i → MH (ty3 i) (Mf i) (th0 (ty3 i)) (fun _ _ => 0#8) wr
  dis : ∀ i j, inC c i → inC c j → i ≠ j → ∀ x, Foot (Mf i) x → ¬ Foot (Mf j) x
  own : ∀ i, inC c i → ∀ x, Foot (Mf i) x → N + 2 ≤ x
  ha : Has wr N 51 3 (fun j => if j < c then .pointer (some ⟨(Mf j).b, 0, none⟩) else .pointer none)
  hb : Has wr (N + 1) 51 3 (fun j => if j < c then .pointer (some ⟨(Mf (3 + j)).b, 0, none⟩) else .pointer none)
section
variable {w wr w2 w3 w4 w5 : World} {N M M2 c : Nat} {Mf : Nat → Mp} {ma mb : Mp}
theorem PreW.below (F : PreW w N c Mf wr) (hM : Sz wr M) (b : Below M wr w2) : PreW w N c Mf w2 := by
  have t := turn_below hM b (fun _ => False)
  have hr := F.ha.ltN hM
  exact ⟨F.lo.trans (b.mono (by omega)), fun i hi => (F.mh i hi).turn t (fun _ _ h => h), F.dis, F.own, F.ha.below b hr, F.hb.below b (F.hb.ltN hM)⟩
/-- Two more. -/
theorem PreW.next (F : PreW w N c Mf wr) (hc : c < 3) (hM : Sz wr M) (a1 : MH c ma (th0 c) (fun _ _ => 0#8) w2) (a2 : Below M wr w2) (a3 : ∀ x, Foot ma x → M ≤ x) (hM2 : Sz w2 M2) (b1 : MH c mb (th0 c) (fun _ _ => 0#8) w3) (b2 : Below M2 w2 w3) (b3 : ∀ x, Foot mb x → M2 ≤ x)
    (t4 : Touch N w3 w4) (h4 : Has w4 N 51 3 (upd (fun j => if j < c then .pointer (some ⟨(Mf j).b, 0, none⟩) else .pointer none) c (.pointer (some ⟨ma.b, 0, none⟩)))) (t5 : Touch (N + 1) w4 w5) (h5 : Has w5 (N + 1) 51 3 (upd (fun j => if j < c then .pointer (some ⟨(Mf (3 + j)).b, 0, none⟩) else .pointer none) c (.pointer (some ⟨mb.b, 0, none⟩)))) :
    PreW w N (c + 1) (setN (setN Mf c ma) (3 + c) mb) w5 := by
  have F2 := F.below hM a2
  have F3 := F2.below hM2 b2
  have hNM := F.hb.ltN hM
  have l2 := below_sz a2 hM hM2
  have a1' : MH c ma (th0 c) (fun _ _ => 0#8) w3 := a1.turn (turn_below hM2 b2 (fun _ => False)) (fun _ _ h => h)
  have lt2 : ∀ x, Foot ma x → x < M2 := fun x hx => a1.at_.lt hM2 x hx
  have ltM : ∀ i, inC c i → ∀ x, Foot (Mf i) x → x < M := fun i hi x hx => (F.mh i hi).at_.lt hM x hx
  have tt : Turn (fun x => x = N ∨ x = N + 1) w3 w5 := ⟨t5.os.trans t4.os, t5.tape.trans t4.tape, t5.output.trans t4.output, Nat.le_of_eq (t4.size.symm.trans t5.size.symm), fun x _ hx => (t5.block x (fun e => hx (.inr e))).trans (t4.block x (fun e => hx (.inl e)))⟩
  have sa : (setN (setN Mf c ma) (3 + c) mb) c = ma := by rw [setN_ne _ _ (by omega), setN_eq]
  have sb : (setN (setN Mf c ma) (3 + c) mb) (3 + c) = mb := setN_eq _ _ _
  have so : ∀ i, i ≠ c → i ≠ 3 + c → (setN (setN Mf c ma) (3 + c) mb) i = Mf i := fun i h1 h2 => by rw [setN_ne _ _ h2, setN_ne _ _ h1]
  have split3 : ∀ i, inC (c + 1) i → i = c ∨ i = 3 + c ∨ (i ≠ c ∧ i ≠ 3 + c ∧ inC c i) := fun i h => by unfold inC at *; omega
  have fo : ∀ i, inC (c + 1) i → ∀ x, Foot ((setN (setN Mf c ma) (3 + c) mb) i) x → N + 2 ≤ x := fun i hi x hx => by
    rcases split3 i hi with e | e | ⟨e1, e2, hi⟩
    · rw [e, sa] at hx; have := a3 x hx; omega
    · rw [e, sb] at hx; have := b3 x hx; omega
    · rw [so i e1 e2] at hx; exact F.own i hi x hx
  refine ⟨t5.below (t4.below F3.lo (Nat.le_refl N)) (by omega), fun i hi => ?_, fun i j hi hj hne x hx hy => ?_, fo, ?_, ?_⟩
  · have hn : ∀ x, Foot ((setN (setN Mf c ma) (3 + c) mb) i) x → ¬ (x = N ∨ x = N + 1) := fun x hx => by have := fo i hi x hx; omega
    rcases split3 i hi with e | e | ⟨e1, e2, hi⟩
    · rw [e, sa] at hn ⊢
      have et : ty3 c = c := by unfold ty3; omega
      rw [et]
      exact a1'.turn tt hn
    · rw [e, sb] at hn ⊢
      have et : ty3 (3 + c) = c := by unfold ty3; omega
      rw [et]
      exact b1.turn tt hn
    · rw [so i e1 e2] at hn ⊢
      exact (F3.mh i hi).turn tt hn
  · rcases split3 i hi with e | e | ⟨e1, e2, hi'⟩ <;> rcases split3 j hj with e' | e' | ⟨e1', e2', hj'⟩
    · omega
    · rw [e, sa] at hx; rw [e', sb] at hy
      have := lt2 x hx; have := b3 x hy; omega
    · rw [e, sa] at hx; rw [so j e1' e2'] at hy
      have := a3 x hx; have := ltM j hj' x hy; omega
    · rw [e, sb] at hx; rw [e', sa] at hy
      have := lt2 x hy; have := b3 x hx; omega
    · omega
    · rw [e, sb] at hx; rw [so j e1' e2'] at hy
      have := b3 x hx; have := ltM j hj' x hy; omega
    · rw [so i e1 e2] at hx; rw [e', sa] at hy
      have := a3 x hy; have := ltM i hi' x hx; omega
    · rw [so i e1 e2] at hx; rw [e', sb] at hy
      have := b3 x hy; have := ltM i hi' x hx; omega
    · rw [so i e1 e2] at hx; rw [so j e1' e2'] at hy
      exact F.dis i j hi' hj' hne x hx hy
  · refine (h4.touch t5 (by omega)).congr (fun j hj => ?_)
    unfold upd
    by_cases e : j = c
    · subst e; rw [if_pos rfl, if_pos (by omega), sa]
    · rw [if_neg e]
      show (if j < c then _ else _) = _
      by_cases e2 : j < c
      · rw [if_pos e2, if_pos (by omega), so j e (by omega)]
      · rw [if_neg e2, if_neg (by omega)]
  · refine h5.congr (fun j hj => ?_)
    unfold upd
    by_cases e : j = c
    · subst e; rw [if_pos rfl, if_pos (by omega), sb]
    · rw [if_neg e]
      show (if j < c then _ else _) = _
      by_cases e2 : j < c
      · rw [if_pos e2, if_pos (by omega), so (3 + j) (by omega) (by omega)]
      · rw [if_neg e2, if_neg (by omega)]
/-- All six, and nothing wanted yet. -/
theorem PreW.six (F : PreW w N 3 Mf wr) (hM : Sz wr M) (b : Below M wr w2) (hw : Has w2 M 53 8 (rowV (fun _ => none))) : SixW w N (fun i => (Mf i).b) (fun i => th0 (ty3 i)) (fun _ _ _ => 0#8) M (fun _ => none) (fun _ _ => 0#8) Mf w2 := by
  have F2 := F.below hM b
  have ic : ∀ i, i < 6 → inC 3 i := fun i hi => by unfold inC; omega
  refine ⟨F2.lo, fun i hi => ⟨rfl, F2.mh i (ic i hi)⟩, fun i j hi hj => F2.dis i j (ic i hi) (ic j hj), fun i hi x hx => ⟨F.own i (ic i hi) x hx, fun e => ?_, fun k _ h => by cases h⟩, by have := F.hb.ltN hM; omega, F2.ha.congr (fun j hj => by rw [if_pos hj]), F2.hb.congr (fun j hj => by rw [if_pos hj]), hw, fun k _ c h => by cases h⟩
  have := (F.mh i (ic i hi)).at_.lt hM x hx
  omega
end
end Go.Proofs.YtjdclgnlnehjlaaDoor
