/- The law DigestSums: its walk. -/
import Derived.Test.YtneffelpdaigoaaDoorRef11
import Derived.Test.YtneffelpdaigoaaDoorLaw2
import Derived.Test.YtneffelpdaigoaaDoorLaw8
namespace Go.Proofs.YtneffelpdaigoaaDoor
open Go Go.RowKit Sha
theorem strOf_refl (D : Nat → BitVec 8) (n : Nat) : ((strOf D n).toList == (strOf D n).toList) = true := by simp
theorem run_arr_all (t e : TypeId) (k : Nat) (hu : Tryd.prog.underlying t = some (.array k e)) (hs : (Tryd.prog.info? e).map (·.size) = some 1) (b : Nat) (w : World) :
    (Instr.sliceAt t (.pointer (some ⟨b, 0, none⟩)) none none none).run Tryd.prog w = .ok (.slice (some ⟨b, 0, none⟩) k k) w := run_sliceArr_all t e k hu hs b 0 w
set_option maxRecDepth 100000 in
set_option maxHeartbeats 1000000 in
theorem law_sums (p : Option Addr) (n cap : Nat) (D : Nat → BitVec 8) (w : World) (N : Nat) (hN : Sz w N) (hT : Tabs w) (hcap : n ≤ cap) (hD : Bytes w p n D) :
    Calls Tryd.prog 3 #[.slice p n cap] w fun e w' => e = .returned (.bool true) ∧ Below N w w' := by
  have hTN := hT.ltN hN
  obtain ⟨c, hc⟩ : ∃ c, c = min n 300 := ⟨_, rfl⟩
  have Hc := hid hc
  have hc1 : c ≤ n := by omega
  have hc2 : c ≤ 300 := by omega
  clear hc
  have hsl : ∀ w, (Instr.sliceAt 22 (.slice p n cap) none (some (.int .i64 (c : Int))) none).run Tryd.prog w = .ok (.slice p c cap) w := run_cut_head 22 5 und22 inf5 p n cap c (by omega)
  have hDc : Bytes w p c D := fun h0 => by
    obtain ⟨bb, off, e, h⟩ := hD (by omega)
    exact ⟨bb, off, e, fun j hj => h j (by omega)⟩
  go_enter Tryd.func3, Tryd.ntmps3
  go_wp2_with (first
    | (refine wpl_lit0 rfl 22 5 rfl und22 inf5 N hN (fun j => By (D j)) ?_; intro w1 hN1 hb1 h1; have hD1 := hDc.below hN hb1)
    | (refine wpl_min rfl (.tmp 8) (.const (.int .i64 300)) 3 rfl n 300 c rfl rfl Hc ?_)
    | (refine wpl_app rfl (.tmp 5) (.tmp 10) 22 rfl 5 und22 one5 _ 0 0 rfl _ h1 p c cap rfl (fun j => By (D j)) (bytes_cells hD1) (fun _ _ => rfl) (by omega) ?_; intro p2 c2 w2 o2 g2 k2 n2; rw [Nat.zero_add] at o2; have o2' := o2.congr (f' := fun j => By (D j)) (fun j hj => by simp only [cat]; rw [if_neg (by omega), Nat.sub_zero]); have hcv2 := run_string (P := Tryd.prog) w2 22 9 5 und22 und5 und9 p2 c c2 D o2'.ats; have b2 := g2.below hb1 (by have e : w1.heap.size = N + 1 := hN1; omega) (fun g hg => by simp [blk] at hg; omega); obtain ⟨M, hM⟩ := sz_some w2; have hNM := below_sz b2 hN hM; have hB2 : Bytes w2 p2 c D := o2'.ats)
    | (go_at_call 17; refine (Sum_any p2 c c2 D w2 M hM (hT.below b2 hTN) o2'.le (by omega) hB2).mono ?_; rintro e w3 ⟨rfl, hb3⟩; obtain ⟨M3, hM3⟩ := sz_some w3; have hMM3 := below_sz hb3 hM hM3)
    | (refine wpl_alloc rfl 23 rfl 32 _ zer23 M3 hM3 ?_; intro w4 hM4 hb4 h4)
    | (refine wpl_store rfl 23 (.tmp 4) (.tmp 15) rfl M3 32 _ rfl rfl 23 _ h4 inf23 (fun _ _ => rfl) ?_; intro w5 ht5 h5)
    | fail)
  have b5 : Below M w2 w5 := ht5.below (hb3.trans (hb4.mono (by omega))) (by omega)
  have hB5 := hB2.below hM b5
  have hM5 := ht5.sz hM4
  have bN := b2.trans (b5.mono hNM)
  have hT5 := hT.below bN hTN
  have hcap2 := o2'.le
  have hsl5 : ∀ w, (Instr.sliceAt 23 (.pointer (some ⟨M3, 0, none⟩)) none none none).run Tryd.prog w = .ok (.slice (some ⟨M3, 0, none⟩) 32 32) w := fun w => run_arr_all 23 5 32 und23 inf5 M3 w
  have hcv5 : ∀ x : Later (M3 + 1) w5, (convert 22 9 (.slice p2 c c2)).run Tryd.prog x.w' = .ok (.string (strOf D c)) x.w' := fun x => run_string (P := Tryd.prog) x.w' 22 9 5 und22 und5 und9 p2 c c2 D (hB5.below hM5 x.b)
  have heq := run_eq_same (P := Tryd.prog) 23 5 32 und23 und5 inf5 cof5 (shaD D c)
  refine wp_region_later (M3 + 1) (by kernel_rfl) (by kernel_rfl) ?_
  simp only [Act.put, List.setIfInBounds_toArray, List.set_cons_succ, List.set_cons_zero]
  repeat first | (refine later_val (fun x => run_ld 23 (.tmp 4) rfl M3 rfl 23 32 _ (Later.has hM5 h5 x) _ und23 rfl inf23) (by rfl) ?_; simp only [Act.put, List.setIfInBounds_toArray, List.set_cons_succ, List.set_cons_zero]) | (go_big_quiet_step ((first
    | (go_at_call 18; exact later_of hM5 _ (fun K hK hKN => sums_any _ K hK (hT5.below (Later.b _) (hT5.ltN hM5))))
    | (go_at_call 19; exact later_of hM5 _ (fun K hK hKN => RefSum_any p2 c c2 D _ K hK hcap2 (by omega) (hB5.below hM5 (Later.b _))))
    | (go_at_call 20; exact later_of hM5 _ (fun K hK hKN => Hex_any (shaD D c) _ K hK))
    | (go_at_call 21; exact later_of_drew _ (RefHex_any M3 32 (shaD D c) _ 23 (Later.has hM5 h5 _))))))
  refine wpQuiet_nil ?_
  rintro _ ⟨⟨w6, hb6⟩, rfl⟩
  go_wp2_with fail
  go_ret
  exact ⟨rfl, bN.trans (hb6.mono (by omega))⟩
end Go.Proofs.YtneffelpdaigoaaDoor
