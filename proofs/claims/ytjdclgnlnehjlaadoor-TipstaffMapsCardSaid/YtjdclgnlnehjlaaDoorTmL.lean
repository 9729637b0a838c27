/- TipstaffMaps: what a Lookup among the six tells; their sums; laws of the last walk. -/
import Derived.Test.YtjdclgnlnehjlaaDoorTm4
namespace Go.Proofs.YtjdclgnlnehjlaaDoor
open Go Go.RowKit
section
variable {w wr : World} {N M wb k c : Nat} {B : Nat → Nat} {th : Nat → Bool} {rows : Nat → Option Nat} {V : Nat → Nat → BitVec 8} {Mf : Nat → Mp}
theorem MH_ty {a b : Nat} {m : Mp} {th : Nat → Bool} {V : Nat → Nat → BitVec 8} {w : World} (e : a = b) (h : MH a m th V w) : MH b m th V w := e ▸ h
def SLookP (w : World) (N : Nat) (B : Nat → Nat) (th : Nat → Bool) (V : Nat → Nat → BitVec 8) (wb : Nat) (rows : Nat → Option Nat) (c k : Nat) (e : Ending) (w' : World) : Prop :=
  (∃ Mf', SixW w N B (THb th 0) (VVb V 0) wb rows V Mf' w') ∧
  if th k = true ∨ c = 0 then ∃ P, e = .returned (.tuple #[.slice (some ⟨P, 0, none⟩) 2 2, .int .i64 0]) ∧ Has w' P 5 2 (fun j => By (V k j)) else e = .returned (.tuple #[.slice none 0 0, .int .i64 2])
theorem SLook (F : SixW w N B (THb th 0) (VVb V 0) wb rows V Mf wr) (hM : Sz wr M) (hc : c < 3) (hk : k < 8) (q : Option Addr) (cp : Nat) (hq : Ats wr q 4 (fun j => By (num4 k (fun _ => 0#8) j))) :
    Calls Tryd.prog 16 #[.pointer (some ⟨B c, 0, none⟩), .slice q 4 cp] wr (SLookP w N B th V wb rows c k) := by
  obtain ⟨eb, hm⟩ := F.mh c (by omega)
  rw [← eb]
  refine (MLook hm k hk q cp M hM hq).mono ?_
  rintro e w' ⟨⟨m', eb', hm', t, hf⟩, hr⟩
  refine ⟨⟨_, (F.step hM (by omega) eb' hm' t (fun x hx => .inl (hf x hx))).congr (fun i hi x hx => ?_) (fun i hi x hx j hj => ?_)⟩, ?_⟩
  · unfold setN; split
    · rename_i e; rw [e]
    · rfl
  · unfold setN; split
    · rename_i e; rw [e]
    · rfl
  · by_cases h : th k = true ∨ c = 0
    · rw [if_pos h]
      have h1 : THb th 0 c k = true := by
        unfold THb
        rcases h with h | h
        · split
          · rfl
          · exact h
        · rw [if_pos (by omega)]
      rw [if_pos h1] at hr
      obtain ⟨P, _, he, hh⟩ := hr
      exact ⟨P, he, hh.congr (fun j hj => by unfold VVb; rw [if_pos hc])⟩
    · rw [if_neg h]
      have h1 : ¬ THb th 0 c k = true := by
        unfold THb
        rw [if_neg (by omega), if_pos hc]
        exact fun h2 => h (.inl h2)
      rw [if_neg h1] at hr
      exact hr
theorem SSum {TH : Nat → Nat → Bool} {VV : Nat → Nat → Nat → BitVec 8} {K : Nat} (F : SixW w N B TH VV wb rows V Mf wr) (i : Nat) (hi : i < 6) (hK : Sz wr K) (hT : Tabs wr) :
    Calls Tryd.prog 11 #[.pointer (some ⟨B i, 0, none⟩)] wr fun e w' => e = .returned (.agg (cellsOf (fun j => By (sumZ (Mf i) j)) 32)) ∧ Below K wr w' := by
  obtain ⟨eb, hm⟩ := F.mh i hi
  rw [← eb]
  exact MSumZ hm hK hT
theorem SSame (F : SixW w N B (THb th 0) (VVb V 0) wb rows V Mf wr) (c : Nat) (hc : c < 3) : sumZ (Mf (3 + c)) = sumZ (Mf c) :=
  sumZ_same ((MH_ty (show ty3 (3 + c) = ty3 c by unfold ty3; omega) (F.mh (3 + c) (by omega)).2).congr (th' := THb th 0 c) (V' := VVb V 0 c) (fun x hx => by
    unfold THb
    by_cases e : c % 3 = 0
    · rw [if_pos e, if_pos (by omega)]
    · rw [if_neg e, if_pos hc, if_neg (by omega), if_neg (by omega), decide_eq_true (Nat.zero_le x), Bool.and_true]) (fun x hx j hj => by
    unfold VVb
    rw [if_pos hc, if_neg (by omega), if_pos (Nat.zero_le x)])) (F.mh c (by omega)).2
end
section
variable {P : Program} {a : Act} {o : Oper} {x y : Operand} {T ty : TypeId}
theorem neSN {P : Program} (w : World) (t e : TypeId) (a : Option Addr) (l c : Nat) (h : P.underlying t = some (.slice e)) : (binOp .neq t (.slice a l c) (.slice none 0 0)).run P w = .ok (.bool (!a.isNone)) w := by
  simp [binOp, eqSNe w t e a l c h]
theorem run_neSN {t e : TypeId} {p : Option Addr} {n c : Nat} {r : Bool} (ho : o.op = .binOp .neq t x y ty) (ht : P.underlying t = some (.slice e)) (hx : a.eval x = .slice p n c) (hy : a.eval y = .slice none 0 0) (hr : (!p.isNone) = r) (hg : ∀ w, (eqGuard .neq t x y (.slice p n c) (.slice none 0 0)).run P w = .ok () w) (w : World) : (execOp a.eval o).run P w = .ok (.value (.bool r)) w := by
  subst hr
  unfold execOp
  simp only [ho, hx, hy, Sem.run_bind, hg, Result.andThen_ok, neSN w t e p n c ht, Sem.run_pure]
theorem run_neqT {p q : ByteArray} {r : Bool} (ho : o.op = .binOp .neq T x y ty) (hx : a.eval x = .string p) (hy : a.eval y = .string q) (h : (!(p.toList == q.toList)) = r) (w : World) : (execOp a.eval o).run P w = .ok (.value (.bool r)) w := by
  subst h; unfold execOp; simp only [ho, hx, hy]; go_simp
theorem run_strA {src dst e : TypeId} (ho : o.op = .convert src dst x) (hs : P.underlying src = some (.slice e)) (he : P.underlying e = some (.int .u8)) (hd : P.underlying dst = some .string) {p : Option Addr} {n cap : Nat} {D : Nat → BitVec 8} {w : World} (hx : a.eval x = .slice p n cap) (h : Ats w p n (fun j => By (D j))) : (execOp a.eval o).run P w = .ok (.value (.string (strOf D n))) w := by
  unfold execOp
  simp only [ho, hx, Sem.run_bind, run_string w src dst e hs he hd p n cap D h, Result.andThen_ok, Sem.run_pure]
theorem run_decI {z : Int} (ho : o.op = .binOp .sub T x y ty) (hx : a.eval x = .int .i64 z) (hy : a.eval y = .int .i64 1) (h0 : 0 ≤ z) (h1 : z < 1000) (w : World) : (execOp a.eval o).run P w = .ok (.value (.int .i64 (z - 1))) w := by
  have e : IntKind.i64.wrap (z - 1) = z - 1 := by rw [IntKind.wrap_i64]; omega
  have e2 : (execOp a.eval o).run P w = .ok (.value (.int .i64 (IntKind.i64.wrap (z - 1)))) w := by
    unfold execOp; simp only [ho, hx, hy]; go_simp
  rw [e2, e]
theorem run_incU8 {i m : Nat} (ho : o.op = .binOp .add T x y ty) (hx : a.eval x = .int .u8 (i : Int)) (hy : a.eval y = .int .u8 1) (hm : m = i + 1) (hi : i < 200) (w : World) : (execOp a.eval o).run P w = .ok (.value (.int .u8 (m : Int))) w := by
  subst hm
  have e : IntKind.u8.wrap ((i : Int) + 1) = ((i + 1 : Nat) : Int) := by
    simp [IntKind.wrap, IntKind.signed, IntKind.bits]; omega
  have e2 : (execOp a.eval o).run P w = .ok (.value (.int .u8 (IntKind.u8.wrap ((i : Int) + 1)))) w := by
    unfold execOp; simp only [ho, hx, hy]; go_simp
  rw [e2, e]
theorem run_neqZ {p q : Int} {r : Bool} (ho : o.op = .binOp .neq T x y ty) (hx : a.eval x = .int .i64 p) (hy : a.eval y = .int .i64 q) (h : (p != q) = r) (w : World) : (execOp a.eval o).run P w = .ok (.value (.bool r)) w := by
  subst h; unfold execOp; simp only [ho, hx, hy]; go_simp
end
theorem zz_str (D : Nat → BitVec 8) (h : ∀ j, D j = 0#8) : (!((strOf D 2).toList == (ByteArray.mk #[0, 0]).toList)) = false := by
  have e : strOf D 2 = strOf (fun _ => 0#8) 2 := by rw [show D = fun _ => 0#8 from funext h]
  have e2 : strOf (fun _ => 0#8) 2 = ByteArray.mk #[0, 0] := by rfl
  rw [e, e2]
  simp
theorem four_num (k j : Nat) (hj : j < 4) : four (b8 k) 0#8 0#8 0#8 j = num4 k (fun _ => 0#8) j := by
  unfold four num4
  rcases (show j = 0 ∨ j = 1 ∨ j = 2 ∨ j = 3 by omega) with rfl | rfl | rfl | rfl <;> rfl
theorem undIs : Tryd.prog.underlying 52 = some (.slice 3) := by kernel_rfl
theorem undItS : (Tryd.prog.info? 3).map (·.size) = some 1 := by kernel_rfl
end Go.Proofs.YtjdclgnlnehjlaaDoor
