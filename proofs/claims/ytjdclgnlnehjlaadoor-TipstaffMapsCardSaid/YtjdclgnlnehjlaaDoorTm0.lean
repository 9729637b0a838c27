/- TipstaffMaps: a map of keys below eight: which are there, what values they have. -/
import Derived.Test.YtjdclgnlnehjlaaDoorBa1
import Derived.Test.YtjdclgnlnehjlaaDoorSu4
namespace Go.Proofs.YtjdclgnlnehjlaaDoor
open Go Go.RowKit
theorem pigeon : ∀ (m n : Nat) (κ : Nat → Nat), (∀ i, i < n → κ i < m) → (∀ i j, i < n → j < n → κ i = κ j → i = j) → n ≤ m
  | 0, n, κ, h, _ => by
    cases n with
    | zero => exact Nat.le_refl _
    | succ n => exact absurd (h 0 (by omega)) (by omega)
  | m + 1, n, κ, h, hi => by
    cases n with
    | zero => omega
    | succ n =>
      have := pigeon m n (fun i => if κ i = m then κ n else κ i) (fun i hin => by
        have h1 := h i (by omega)
        have h2 := h n (by omega)
        by_cases e : κ i = m
        · have : κ n ≠ m := fun e2 => by have := hi i n (by omega) (by omega) (by rw [e, e2]); omega
          simp only [if_pos e]; omega
        · simp only [if_neg e]; omega) (fun i j hin hjn e => by
        by_cases e1 : κ i = m <;> by_cases e2 : κ j = m
        · exact hi i j (by omega) (by omega) (by rw [e1, e2])
        · simp only [if_pos e1, if_neg e2] at e
          have := hi n j (by omega) (by omega) e; omega
        · simp only [if_neg e1, if_pos e2] at e
          have := hi i n (by omega) (by omega) e; omega
        · simp only [if_neg e1, if_neg e2] at e
          exact hi i j (by omega) (by omega) e)
      omega
theorem b8_inj {i j : Nat} (hi : i < 256) (hj : j < 256) (h : b8 i = b8 j) : i = j := by
  unfold b8 at h
  have := congrArg BitVec.toNat h
  rw [BitVec.toNat_ofNat, BitVec.toNat_ofNat, Nat.mod_eq_of_lt (by omega), Nat.mod_eq_of_lt (by omega)] at this
  exact this
theorem key4_inj {i j : Nat} (hi : i < 256) (hj : j < 256) (h : key4 i = key4 j) : i = j := by
  have := strOf_inj h 0 (by omega)
  exact b8_inj hi hj this
/-- The entries have keys below eight, each once: those of which th says so, with values V. -/
structure Ent8 (n : Nat) (E : Nat → Me) (κ : Nat → Nat) (th : Nat → Bool) (V : Nat → Nat → BitVec 8) : Prop where
  lt : ∀ i, i < n → κ i < 8
  tt : ∀ i, i < n → th (κ i) = true
  k : ∀ i, i < n → (E i).k = key4 (κ i)
  v : ∀ i, i < n → ∀ j, j < 2 → (E i).v j = V (κ i) j
  inj : ∀ i j, i < n → j < n → κ i = κ j → i = j
  sur : ∀ x, x < 8 → th x = true → ∃ i, i < n ∧ κ i = x
theorem Ent8.le {n : Nat} {E : Nat → Me} {κ : Nat → Nat} {th : Nat → Bool} {V : Nat → Nat → BitVec 8} (h : Ent8 n E κ th V) : n ≤ 8 := pigeon 8 n κ h.lt h.inj
/-- A map of such entries. -/
structure MH (ty : Nat) (m : Mp) (th : Nat → Bool) (V : Nat → Nat → BitVec 8) (w : World) : Prop where
  at_ : MpAt w m
  ety : m.ty = ty
  t2 : ty ≤ 2
  ekey : m.key = 4
  eval : m.val = 2
  eent : m.ent = 8
  efz : m.fz = false
  es : ∃ κ, Ent8 m.n m.E κ th V
def thS (th : Nat → Bool) (k : Nat) : Nat → Bool := fun x => if x = k then true else th x
def vS (V : Nat → Nat → BitVec 8) (k : Nat) (D : Nat → BitVec 8) : Nat → Nat → BitVec 8 := fun x => if x = k then D else V x
section
variable {n : Nat} {E : Nat → Me} {κ : Nat → Nat} {th : Nat → Bool} {V : Nat → Nat → BitVec 8} {m : Mp} {ty : Nat} {w : World}
theorem Ent8.at_ (h : Ent8 m.n m.E κ th V) {i : Nat} (hi : i < m.n) : KAt m (key4 (κ i)) i :=
  ⟨hi, h.k i hi, fun j hj e => by
    rw [h.k j (by omega)] at e
    have := key4_inj (by have := h.lt j (by omega); omega) (by have := h.lt i hi; omega) e
    have := h.inj j i (by omega) hi this
    omega⟩
theorem Ent8.no (h : Ent8 m.n m.E κ th V) {k : Nat} (hk : k < 8) (ht : th k = false) : KNo m (key4 k) := fun i hi e => by
  rw [h.k i hi] at e
  have := key4_inj (by have := h.lt i hi; omega) (by omega) e
  have h2 := h.tt i hi
  rw [this, ht] at h2; cases h2
/-- The same entries in another order. -/
theorem Ent8.re {E' : Nat → Me} {ix : Nat → Nat} (h : Ent8 n E κ th V) (h1 : ∀ i, i < n → ix i < n) (h2 : ∀ i j, i < n → j < n → ix i = ix j → i = j) (h3 : ∀ j, j < n → ∃ i, i < n ∧ ix i = j) (he : ∀ i, i < n → E' i = E (ix i)) : Ent8 n E' (fun i => κ (ix i)) th V :=
  ⟨fun i hi => h.lt _ (h1 i hi), fun i hi => h.tt _ (h1 i hi), fun i hi => by rw [he i hi]; exact h.k _ (h1 i hi), fun i hi => by rw [he i hi]; exact h.v _ (h1 i hi),
   fun i j hi hj e => h2 i j hi hj (h.inj _ _ (h1 i hi) (h1 j hj) e), fun x hx ht => by
    obtain ⟨j, hj, e⟩ := h.sur x hx ht
    obtain ⟨i, hi, e2⟩ := h3 j hj
    exact ⟨i, hi, by rw [e2]; exact e⟩⟩
theorem Ent8.use (h : Ent8 m.n m.E κ th V) {k : Nat} (hk : k < m.n) : ∃ ix : Nat → Nat, ix (m.n - 1) = k ∧ Ent8 m.n (m.use k).E (fun i => κ (ix i)) th V := by
  refine ⟨fun i => if i = m.n - 1 then k else if i < k then i else i + 1, by simp, h.re (fun i hi => ?_) (fun i j hi hj e => ?_) (fun j hj => ?_) (fun i hi => ?_)⟩
  · split; omega; split <;> omega
  · split at e <;> split at e <;> (repeat' split at e) <;> omega
  · by_cases e : j = k
    · exact ⟨m.n - 1, by omega, by simp [e]⟩
    · by_cases e2 : j < k
      · exact ⟨j, hj, by rw [if_neg (by omega), if_pos e2]⟩
      · exact ⟨j - 1, by omega, by rw [if_neg (by omega), if_neg (by omega)]; omega⟩
  · show setF (delF m.E k) (m.n - 1) (m.E k) i = m.E (if i = m.n - 1 then k else if i < k then i else i + 1)
    by_cases e : i = m.n - 1
    · rw [if_pos e, e, setF_self]
    · rw [if_neg e, setF_ne _ _ _ e]
      unfold delF
      split <;> rfl
theorem Ent8.set (h : Ent8 n E κ th V) {k : Nat} (hk : k < n) (D : Nat → BitVec 8) {x : Nat} (hx : κ k = x) {e : Me} (e1 : e.k = (E k).k) (e2 : e.v = D) : Ent8 n (setF E k e) κ (thS th x) (vS V x D) := by
  subst hx
  refine ⟨h.lt, fun i hi => ?_, fun i hi => ?_, fun i hi j hj => ?_, h.inj, fun x hx ht => ?_⟩
  · unfold thS; split; rfl; exact h.tt i hi
  · by_cases e' : i = k
    · rw [e', setF_self, e1]; exact h.k k hk
    · rw [setF_ne _ _ _ e']; exact h.k i hi
  · unfold vS
    by_cases e' : i = k
    · rw [e', setF_self, if_pos rfl, e2]
    · rw [setF_ne _ _ _ e', if_neg (fun e'' => e' (h.inj i k hi hk e''))]; exact h.v i hi j hj
  · unfold thS at ht
    split at ht
    · rename_i e'; exact ⟨k, hk, e'.symm⟩
    · exact h.sur x hx ht
theorem Ent8.put (h : Ent8 n E κ th V) {x : Nat} (hx : x < 8) (ht : th x = false) (D : Nat → BitVec 8) {e : Me} (e1 : e.k = key4 x) (e2 : e.v = D) : Ent8 (n + 1) (setF E n e) (setF κ n x) (thS th x) (vS V x D) := by
  have ne : ∀ i, i < n → κ i ≠ x := fun i hi e' => by have := h.tt i hi; rw [e', ht] at this; cases this
  refine ⟨fun i hi => ?_, fun i hi => ?_, fun i hi => ?_, fun i hi j hj => ?_, fun i j hi hj e' => ?_, fun y hy hty => ?_⟩
  · by_cases e' : i = n
    · rw [e', setF_self]; exact hx
    · rw [setF_ne _ _ _ e']; exact h.lt i (by omega)
  · by_cases e' : i = n
    · rw [e', setF_self]; unfold thS; rw [if_pos rfl]
    · rw [setF_ne _ _ _ e']; unfold thS; split; rfl; exact h.tt i (by omega)
  · by_cases e' : i = n
    · rw [e', setF_self, setF_self, e1]
    · rw [setF_ne _ _ _ e', setF_ne _ _ _ e']; exact h.k i (by omega)
  · by_cases e' : i = n
    · rw [e', setF_self, setF_self, e2]; unfold vS; rw [if_pos rfl]
    · rw [setF_ne _ _ _ e', setF_ne _ _ _ e']; unfold vS; rw [if_neg (ne i (by omega))]; exact h.v i (by omega) j hj
  · by_cases e1' : i = n <;> by_cases e2' : j = n
    · omega
    · rw [e1', setF_self, setF_ne _ _ _ e2'] at e'; exact absurd e'.symm (ne j (by omega))
    · rw [e2', setF_self, setF_ne _ _ _ e1'] at e'; exact absurd e' (ne i (by omega))
    · rw [setF_ne _ _ _ e1', setF_ne _ _ _ e2'] at e'; exact h.inj i j (by omega) (by omega) e'
  · unfold thS at hty
    by_cases e' : y = x
    · exact ⟨n, by omega, by rw [setF_self, e']⟩
    · rw [if_neg e'] at hty
      obtain ⟨i, hi, hi2⟩ := h.sur y hy hty
      exact ⟨i, by omega, by rw [setF_ne _ _ _ (by omega)]; exact hi2⟩
theorem Ent8.congr {th' : Nat → Bool} {V' : Nat → Nat → BitVec 8} (h : Ent8 n E κ th V) (h1 : ∀ x, x < 8 → th' x = th x) (h2 : ∀ x, x < 8 → ∀ j, j < 2 → V' x j = V x j) : Ent8 n E κ th' V' :=
  ⟨h.lt, fun i hi => by rw [h1 _ (h.lt i hi)]; exact h.tt i hi, h.k, fun i hi j hj => by rw [h2 _ (h.lt i hi) j hj]; exact h.v i hi j hj, h.inj, fun x hx ht => h.sur x hx (by rw [← h1 x hx]; exact ht)⟩
theorem MH.congr {th' : Nat → Bool} {V' : Nat → Nat → BitVec 8} (h : MH ty m th V w) (h1 : ∀ x, x < 8 → th' x = th x) (h2 : ∀ x, x < 8 → ∀ j, j < 2 → V' x j = V x j) : MH ty m th' V' w :=
  ⟨h.at_, h.ety, h.t2, h.ekey, h.eval, h.eent, h.efz, h.es.imp fun _ h => h.congr h1 h2⟩
theorem MH.turn {S : Nat → Prop} {w' : World} (h : MH ty m th V w) (t : Turn S w w') (hn : ∀ k, Foot m k → ¬ S k) : MH ty m th V w' :=
  ⟨h.at_.turn t hn, h.ety, h.t2, h.ekey, h.eval, h.eent, h.efz, h.es⟩
theorem keyIs8 (h : MH ty m th V w) (k : Nat) : KeyIs m (num4 k (fun _ => 0#8)) (key4 k) := by
  have := h.ety; have := h.t2
  exact ⟨by omega, by omega, by omega, by rw [h.ekey]; rfl⟩
/-- What an Update leaves: the map, with one value turned. -/
def UpdP (ty : Nat) (m : Mp) (th : Nat → Bool) (V : Nat → Nat → BitVec 8) (k : Nat) (D : Nat → BitVec 8) (w : World) (N : Nat) (w' : World) : Prop := ∃ m', m'.b = m.b ∧ MH ty m' (thS th k) (vS V k D) w' ∧ Turn (Foot m) w w' ∧ ∀ x, Foot m' x → Foot m x ∨ N ≤ x
set_option maxRecDepth 100000 in
theorem MUpd (h : MH ty m th V w) (k : Nat) (hk : k < 8) (h0 : ty = 0 → th k = true) (D : Nat → BitVec 8) (q : Option Addr) (c : Nat) (x : Option Addr) (cx : Nat) (N : Nat) (hN : Sz w N) (hq : Ats w q 4 (fun j => By (num4 k (fun _ => 0#8) j))) (hx : Ats w x 2 (fun j => By (D j))) (hxF : ∀ g, blk x = some g → ¬ Foot m g) :
    Calls Tryd.prog 19 #[.pointer (some ⟨m.b, 0, none⟩), .slice q 4 c, .slice x 2 cx, .int .u64 0] w fun e w' => e = .returned (.int .i64 0) ∧ UpdP ty m th V k D w N w' := by
  obtain ⟨κ, hE⟩ := h.es
  have hn8 := hE.le
  have hK := keyIs8 h k
  have hq' : Ats w q m.key (fun j => By (num4 k (fun _ => 0#8) j)) := by rw [h.ekey]; exact hq
  have hx' : Ats w x m.val (fun j => By (D j)) := by rw [h.eval]; exact hx
  have h1 : 1 ≤ m.val := by rw [h.eval]; omega
  have h2 : m.val ≤ 64 := by rw [h.eval]; omega
  have ez : Value.int .u64 0 = .int .u64 ((0 : Nat) : Int) := rfl
  rw [ez, show Value.slice q 4 c = .slice q m.key c by rw [h.ekey], show Value.slice x 2 cx = .slice x m.val cx by rw [h.eval]]
  cases ht : th k with
  | true =>
    obtain ⟨i, hi, ei⟩ := hE.sur k hk ht
    have hA := hE.at_ hi
    rw [ei] at hA
    by_cases hl : ty = 2
    · refine (Upd_set_lru m _ _ hK h.efz (h.ety.trans hl) i hA 0 (by omega) (by omega) (by omega) h1 h2 q c x cx D w N hN h.at_ hq' hx' (fun g hg ht => hxF g hg (top_foot ht))).mono ?_
      rintro e w' ⟨rfl, t, A⟩
      obtain ⟨ix, e1, hU⟩ := hE.use hi
      refine ⟨rfl, (m.use i).set (m.n - 1) D, rfl, ⟨A, h.ety, h.t2, h.ekey, h.eval, h.eent, h.efz, _, hU.set (by omega) D (by show κ (ix (m.n - 1)) = k; rw [e1]; exact ei) rfl rfl⟩, t, fun y hy => .inl (foot_use hi (foot_set hy))⟩
    · refine (Upd_set m _ _ hK h.efz (by rw [h.ety]; exact hl) i hA 0 (by omega) (by omega) (by omega) h1 h2 q c x cx D w N hN h.at_ hq' hx').mono ?_
      rintro e w' ⟨rfl, t, A⟩
      refine ⟨rfl, m.set i D, rfl, ⟨A, h.ety, h.t2, h.ekey, h.eval, h.eent, h.efz, _, hE.set hi D ei rfl rfl⟩, t.mono (fun y hy => .inr (.inr ⟨i, hi, .inr hy⟩)), fun y hy => .inl (foot_set hy)⟩
  | false =>
    have hl : ty ≠ 0 := fun e => by rw [h0 e] at ht; cases ht
    have hP := hE.put hk ht D (e := ⟨key4 k, 0, 0, D⟩) rfl rfl
    have hn := hP.le
    refine (Upd_new m _ _ hK h.efz (by rw [h.ety]; exact hl) (hE.no hk ht) 0 (by omega) (by rw [h.eent]; omega) (by rw [h.eent]; omega) h1 h2 q c x cx D w N hN h.at_ hq' hx').mono ?_
    rintro e w' ⟨rfl, M, hM, t, p', cap', A, hp⟩
    refine ⟨rfl, m.put p' cap' M (key4 k) D, rfl, ⟨A, h.ety, h.t2, h.ekey, h.eval, h.eent, h.efz, _, hE.put hk ht D rfl rfl⟩, t.mono (fun y hy => top_foot hy), fun y hy => ?_⟩
    rcases foot_put hy hp with h | h
    · exact .inl h
    · exact .inr (by omega)
/-- What a Lookup leaves, and tells. -/
def LookP (ty : Nat) (m : Mp) (th : Nat → Bool) (V : Nat → Nat → BitVec 8) (k : Nat) (w : World) (N : Nat) (e : Ending) (w' : World) : Prop := (∃ m', m'.b = m.b ∧ MH ty m' th V w' ∧ Turn (Foot m) w w' ∧ ∀ x, Foot m' x → Foot m x) ∧
  (if th k = true then ∃ M, N ≤ M ∧ e = .returned (.tuple #[.slice (some ⟨M, 0, none⟩) 2 2, .int .i64 0]) ∧ Has w' M 5 2 (fun j => By (V k j)) else e = .returned (.tuple #[.slice none 0 0, .int .i64 2]))
set_option maxRecDepth 100000 in
theorem MLook (h : MH ty m th V w) (k : Nat) (hk : k < 8) (q : Option Addr) (c : Nat) (N : Nat) (hN : Sz w N) (hq : Ats w q 4 (fun j => By (num4 k (fun _ => 0#8) j))) :
    Calls Tryd.prog 16 #[.pointer (some ⟨m.b, 0, none⟩), .slice q 4 c] w fun e w' => LookP ty m th V k w N e w' := by
  obtain ⟨κ, hE⟩ := h.es
  have hn8 := hE.le
  have hK := keyIs8 h k
  have hq' : Ats w q m.key (fun j => By (num4 k (fun _ => 0#8) j)) := by rw [h.ekey]; exact hq
  rw [show Value.slice q 4 c = .slice q m.key c by rw [h.ekey]]
  unfold LookP
  cases ht : th k with
  | true =>
    obtain ⟨i, hi, ei⟩ := hE.sur k hk ht
    have hA := hE.at_ hi
    rw [ei] at hA
    have hval : ∀ {e : Ending} {w' : World}, Val N 2 (m.E i).v e w' → ∃ M, N ≤ M ∧ e = .returned (.tuple #[.slice (some ⟨M, 0, none⟩) 2 2, .int .i64 0]) ∧ Has w' M 5 2 (fun j => By (V k j)) := fun ⟨M, h1, h2, h3⟩ => ⟨M, h1, h2, h3.congr (fun j hj => by rw [hE.v i hi j hj, ei])⟩
    by_cases hl : ty = 2
    · refine (Look_lru m _ _ hK (h.ety.trans hl) i hA (by omega) 2 h.eval (by omega) (by omega) q c w N hN h.at_ hq').mono ?_
      rintro e w' ⟨hv, t, A⟩
      obtain ⟨ix, e1, hU⟩ := hE.use hi
      exact ⟨⟨m.use i, rfl, ⟨A, h.ety, h.t2, h.ekey, h.eval, h.eent, h.efz, _, hU⟩, t.mono (fun y hy => top_foot hy), fun y hy => foot_use hi hy⟩, by rw [if_pos rfl]; exact hval hv⟩
    · refine (Look_at m _ _ hK (by rw [h.ety]; exact hl) i hA (by omega) 2 h.eval (by omega) (by omega) q c w N hN h.at_ hq').mono ?_
      rintro e w' ⟨hv, b⟩
      have t := turn_below hN b (Foot m)
      exact ⟨⟨m, rfl, ⟨h.at_.below hN b, h.ety, h.t2, h.ekey, h.eval, h.eent, h.efz, h.es⟩, t, fun y hy => hy⟩, by rw [if_pos rfl]; exact hval hv⟩
  | false =>
    refine (Look_no m _ _ hK (hE.no hk ht) (by omega) q c w N hN h.at_ hq').mono ?_
    rintro e w' ⟨rfl, b⟩
    have t := turn_below hN b (Foot m)
    exact ⟨⟨m, rfl, ⟨h.at_.below hN b, h.ety, h.t2, h.ekey, h.eval, h.eent, h.efz, h.es⟩, t, fun y hy => hy⟩, by rw [if_neg (by decide)]⟩
end
end Go.Proofs.YtjdclgnlnehjlaaDoor
