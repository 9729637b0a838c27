/- BmapLru: what Lookup and Update do to it. -/
import Derived.Test.YteicoheihalnnaaBr1
namespace Go.Proofs.Yteicoheihalnnaa
open Go Go.RowKit
/-- What became of it: nothing else turned, and what it has now was its own or is new. -/
def Went (m m' : Mp) (M : Nat) (w w' : World) : Prop := Turn (Foot m) w w' ∧ ∀ k, Foot m' k → Foot m k ∨ M ≤ k
theorem Went.low {m : Mp} {M : Nat} {w w' : World} (hM : Sz w M) (hb : Below M w w') : Went m m M w w' := ⟨turn_below hM hb _, fun _ h => .inl h⟩
section
variable (w0 w : World) (N M b n nn : Nat) (U : Nat → Nat) (m : Mp) (h : Lr w0 N b n nn U m w) (hM : Sz w M) (hNM : N ≤ M) (c : Nat) (hc : c < 9)
include h hM hNM hc
theorem Lr_look (a : Nat) (ha : a < nn) (hac : U a = c) (q : Option Addr) (cq : Nat) (hq : Ats w q 1 (fun _ => By (b8 c))) :
    Calls Try.prog 12 #[.pointer (some ⟨b, 0, none⟩), .slice q 1 cq] w fun e w' => (∃ K1, M ≤ K1 ∧ e = .returned (.tuple #[.slice (some ⟨K1, 0, none⟩) 1 1, .int .i64 0]) ∧ Has w' K1 5 1 (fun _ => By (b8 (c + 1)))) ∧ ∃ m', Lr w0 N b n nn (useU U nn a) m' w' ∧ Went m m' M w w' := by
  have hn := h.en
  have h6 := h.n6
  have hnn := h.nnn
  have _h := hc
  subst hac
  have X := Look_lru m (fun _ => b8 (U a)) (key1 (U a)) (keyIs_of m 2 1 h.ety h.ekey (by decide) _) h.ety a (h.kat a ha) (by omega) 1 h.eval (by omega) (by omega) q cq w M hM h.at_ (by rw [h.ekey]; exact hq)
  rw [h.ekey, h.eb] at X
  exact X.mono (fun e w' ⟨⟨K1, hK1, e1, hh⟩, T, A⟩ => ⟨⟨K1, hK1, e1, one_congr hh (h.vs a ha)⟩, m.use a, h.use a ha hM hNM (T.mono (fun k hk => top_foot hk)) (m.use a) A rfl rfl rfl rfl rfl rfl rfl (fun k hk => foot_use (by omega) hk) (fun i _ => rfl) (fun i _ => rfl), T.mono (fun k hk => top_foot hk), fun k hk => .inl (foot_use (by omega) hk)⟩)
theorem Lr_miss (hno : ∀ i, i < nn → U i ≠ c) (q : Option Addr) (cq : Nat) (hq : Ats w q 1 (fun _ => By (b8 c))) :
    Calls Try.prog 12 #[.pointer (some ⟨b, 0, none⟩), .slice q 1 cq] w fun e w' => e = .returned (.tuple #[.slice none 0 0, .int .i64 2]) ∧ Lr w0 N b n nn U m w' ∧ Went m m M w w' := by
  have hn := h.en
  have h6 := h.n6
  have hnn := h.nnn
  have X := Look_no m (fun _ => b8 c) (key1 c) (keyIs_of m 2 1 h.ety h.ekey (by decide) _) (h.kno c hc hno) (by omega) q cq w M hM h.at_ (by rw [h.ekey]; exact hq)
  rw [h.ekey, h.eb] at X
  exact X.mono (fun e w' ⟨e1, e2⟩ => ⟨e1, h.low hM e2 hNM, Went.low hM e2⟩)
theorem Lr_set (a : Nat) (ha : a < nn) (hac : U a = c) (q : Option Addr) (cq : Nat) (hq : Ats w q 1 (fun _ => By (b8 c))) (x : Option Addr) (cx : Nat) (hx : Ats w x 1 (fun _ => By (b8 (c + 1)))) (hxF : ∀ g, blk x = some g → ¬ Foot m g) :
    Calls Try.prog 10 #[.pointer (some ⟨b, 0, none⟩), .slice q 1 cq, .slice x 1 cx, .int .u64 0] w fun e w' => e = .returned (.int .i64 0) ∧ ∃ m', Lr w0 N b n nn (useU U nn a) m' w' ∧ Went m m' M w w' := by
  have hn := h.en
  have h6 := h.n6
  have hnn := h.nnn
  have _h := hc
  subst hac
  have X := Upd_set_lru m (fun _ => b8 (U a)) (key1 (U a)) (keyIs_of m 2 1 h.ety h.ekey (by decide) _) h.efz h.ety a (h.kat a ha) 0 (by omega) (by omega) (by omega) (by rw [h.eval]; omega) (by rw [h.eval]; omega) q cq x cx (fun _ => b8 (U a + 1)) w M hM h.at_ (by rw [h.ekey]; exact hq) (by rw [h.eval]; exact hx) (fun g hg hT => hxF g hg (top_foot hT))
  rw [h.ekey, h.eval, h.eb] at X
  refine X.mono (fun e w' ⟨e1, T, A⟩ => ⟨e1, (m.use a).set (m.n - 1) (fun _ => b8 (U a + 1)), h.use a ha hM hNM T _ A rfl rfl rfl rfl rfl rfl rfl (fun k hk => foot_use (by omega) (foot_set hk)) (fun i hi => ?_) (fun i hi => ?_), T, fun k hk => .inl (foot_use (by omega) (foot_set hk))⟩)
  · show (setF (m.use a).E (m.n - 1) ⟨((m.use a).E (m.n - 1)).k, ((m.use a).E (m.n - 1)).c, ((m.use a).E (m.n - 1)).b, fun _ => b8 (U a + 1)⟩ i).k = ((m.use a).E i).k
    by_cases hin : i = m.n - 1
    · rw [hin, setF_self]
    · rw [setF_ne _ _ _ hin]
  · show (setF (m.use a).E (m.n - 1) ⟨((m.use a).E (m.n - 1)).k, ((m.use a).E (m.n - 1)).c, ((m.use a).E (m.n - 1)).b, fun _ => b8 (U a + 1)⟩ i).v 0 = ((m.use a).E i).v 0
    by_cases hin : i = m.n - 1
    · rw [hin, setF_self, use_E, if_pos rfl]; exact (h.vs a ha).symm
    · rw [setF_ne _ _ _ hin]
theorem Lr_new (hno : ∀ i, i < nn → U i ≠ c) (hlt : nn < n) (q : Option Addr) (cq : Nat) (hq : Ats w q 1 (fun _ => By (b8 c))) (x : Option Addr) (cx : Nat) (hx : Ats w x 1 (fun _ => By (b8 (c + 1)))) :
    Calls Try.prog 10 #[.pointer (some ⟨b, 0, none⟩), .slice q 1 cq, .slice x 1 cx, .int .u64 0] w fun e w' => e = .returned (.int .i64 0) ∧ ∃ m', Lr w0 N b n (nn + 1) (setF U nn c) m' w' ∧ Went m m' M w w' := by
  have hn := h.en
  have h6 := h.n6
  have he := h.eent
  have ht := h.ety
  have X := Upd_new m (fun _ => b8 c) (key1 c) (keyIs_of m 2 1 h.ety h.ekey (by decide) _) h.efz (by omega) (h.kno c hc hno) 0 (by omega) (by omega) (by omega) (by rw [h.eval]; omega) (by rw [h.eval]; omega) q cq x cx (fun _ => b8 (c + 1)) w M hM h.at_ (by rw [h.ekey]; exact hq) (by rw [h.eval]; exact hx)
  rw [h.ekey, h.eval, h.eb] at X
  refine X.mono (fun e w' ⟨e1, K, hK, T, p', cap', A, hp⟩ => ⟨e1, m.put p' cap' K (key1 c) (fun _ => b8 (c + 1)), ⟨A, h.eb, h.ety, h.ekey, h.eval, h.eent, h.efz, by show m.n + 1 = nn + 1; omega, h.n1, h.n6, by omega, fun k hk => ?_, ?_, fun i hi => ?_, fun i j hi hj e => ?_, fun i hi => ?_, fun i hi => ?_⟩, T.mono (fun k hk => top_foot hk), fun k hk => ?_⟩)
  · rcases foot_put hk hp with hk | hk
    · exact h.lo k hk
    · omega
  · exact T.below h.bel (fun j hj => h.lo j (top_foot hj)) (by have e : w.heap.size = M := hM; omega)
  · unfold setF; split
    · exact hc
    · exact h.u9 i (by omega)
  · unfold setF at e
    split at e <;> split at e
    · omega
    · exact absurd e.symm (hno j (by omega))
    · exact absurd e (hno i (by omega))
    · exact h.inj i j (by omega) (by omega) e
  · show (setF m.E m.n ⟨key1 c, K, K + 1, fun _ => b8 (c + 1)⟩ i).k = key1 (setF U nn c i)
    rw [hn]
    unfold setF; split
    · rfl
    · exact h.ks i (by omega)
  · show (setF m.E m.n ⟨key1 c, K, K + 1, fun _ => b8 (c + 1)⟩ i).v 0 = b8 (setF U nn c i + 1)
    rw [hn]
    unfold setF; split
    · rfl
    · exact h.vs i (by omega)
  · rcases foot_put hk hp with hk | hk
    · exact .inl hk
    · exact .inr (by omega)
theorem Lr_evict (hno : ∀ i, i < nn → U i ≠ c) (hfull : nn = n) (q : Option Addr) (cq : Nat) (hq : Ats w q 1 (fun _ => By (b8 c))) (x : Option Addr) (cx : Nat) (hx : Ats w x 1 (fun _ => By (b8 (c + 1)))) (hxF : ∀ g, blk x = some g → ¬ Foot m g) :
    Calls Try.prog 10 #[.pointer (some ⟨b, 0, none⟩), .slice q 1 cq, .slice x 1 cx, .int .u64 0] w fun e w' => e = .returned (.int .i64 0) ∧ ∃ m', Lr w0 N b n nn (setF (delF U 0) (nn - 1) c) m' w' ∧ Went m m' M w w' := by
  have hn := h.en
  have h6 := h.n6
  have h1 := h.n1
  have he := h.eent
  have ht := h.ety
  have X := Upd_lru m (fun _ => b8 c) (key1 c) (keyIs_of m 2 1 h.ety h.ekey (by decide) _) h.efz h.ety (h.kno c hc hno) 0 (by omega) (by omega) (by omega) (by omega) (by rw [h.eval]; omega) (by rw [h.eval]; omega) q cq x cx (fun _ => b8 (c + 1)) w M hM h.at_ (by rw [h.ekey]; exact hq) (by rw [h.eval]; exact hx) (fun g hg hT => hxF g hg (top_foot hT))
  rw [h.ekey, h.eval, h.eb] at X
  have hF : ∀ p' cap' K k, M ≤ K → (blk p' = blk m.p ∨ ∀ g, blk p' = some g → M ≤ g) → Foot ((m.del 0).put p' cap' K (key1 c) (fun _ => b8 (c + 1))) k → Foot m k ∨ M ≤ k := fun p' cap' K k hK hp hk => by
    rcases hk with hk | hk | ⟨i, hi, hk⟩
    · exact .inl (.inl hk)
    · rcases hp with hp | hp
      · exact .inl (.inr (.inl (by rw [← hp]; exact hk)))
      · exact .inr (hp k hk)
    · have hi : i < m.n - 1 + 1 := hi
      by_cases hin : i = m.n - 1
      · right
        have hk : k = (setF (m.del 0).E (m.n - 1) ⟨key1 c, K, K + 1, fun _ => b8 (c + 1)⟩ i).c ∨ k = (setF (m.del 0).E (m.n - 1) ⟨key1 c, K, K + 1, fun _ => b8 (c + 1)⟩ i).b := hk
        rw [hin, setF_self] at hk
        have hk : k = K ∨ k = K + 1 := hk
        omega
      · left
        have hk : k = (setF (m.del 0).E (m.n - 1) ⟨key1 c, K, K + 1, fun _ => b8 (c + 1)⟩ i).c ∨ k = (setF (m.del 0).E (m.n - 1) ⟨key1 c, K, K + 1, fun _ => b8 (c + 1)⟩ i).b := hk
        rw [setF_ne _ _ _ hin] at hk
        have hk : k = (m.E (i + 1)).c ∨ k = (m.E (i + 1)).b := hk
        exact .inr (.inr ⟨i + 1, by omega, hk⟩)
  refine X.mono (fun e w' ⟨e1, T, p', cap', K, hK, A, hp⟩ => ⟨e1, (m.del 0).put p' cap' K (key1 c) (fun _ => b8 (c + 1)), ⟨A, h.eb, h.ety, h.ekey, h.eval, h.eent, h.efz, by show m.n - 1 + 1 = nn; omega, h.n1, h.n6, h.nnn, fun k hk => ?_, ?_, fun i hi => ?_, fun i j hi hj e => ?_, fun i hi => ?_, fun i hi => ?_⟩, T.mono (fun k hk => top_foot hk), fun k hk => hF _ _ _ _ hK hp hk⟩)
  · rcases hF _ _ _ _ hK hp hk with hk | hk
    · exact h.lo k hk
    · omega
  · exact T.below h.bel (fun j hj => h.lo j (top_foot hj)) (by have e : w.heap.size = M := hM; omega)
  · unfold setF delF; split
    · exact hc
    · rw [if_neg (by omega)]; exact h.u9 _ (by omega)
  · unfold setF delF at e
    rw [if_neg (Nat.not_lt_zero i), if_neg (Nat.not_lt_zero j)] at e
    split at e <;> split at e
    · omega
    · exact absurd e.symm (hno _ (by omega))
    · exact absurd e (hno _ (by omega))
    · have := h.inj _ _ (by omega) (by omega) e; omega
  · show (setF (m.del 0).E (m.n - 1) ⟨key1 c, K, K + 1, fun _ => b8 (c + 1)⟩ i).k = key1 (setF (delF U 0) (nn - 1) c i)
    rw [hn]
    unfold setF; split
    · rfl
    · show (m.E (i + 1)).k = key1 (U (i + 1))
      exact h.ks _ (by omega)
  · show (setF (m.del 0).E (m.n - 1) ⟨key1 c, K, K + 1, fun _ => b8 (c + 1)⟩ i).v 0 = b8 (setF (delF U 0) (nn - 1) c i + 1)
    rw [hn]
    unfold setF; split
    · rfl
    · show (m.E (i + 1)).v 0 = b8 (U (i + 1) + 1)
      exact h.vs _ (by omega)
end
end Go.Proofs.Yteicoheihalnnaa
