/- BmapFrozen: the document's Pop. -/
import Derived.Test.YtjdclgnlnehjlaaDoorMgFx2
namespace Go.Proofs.YtjdclgnlnehjlaaDoor
open Go Go.RowKit
def RPop (m : Rm) (w : World) (N : Nat) (e : Ending) (w' : World) : Prop := ∃ (t : ByteArray) (z : Int) (m' : Rm), e = .returned (.tuple #[.string t, .int .i64 z]) ∧ RNx m w N w' m'
set_option maxRecDepth 100000 in
set_option maxHeartbeats 8000000 in
theorem DPop_3true (m : Rm) (hl : m.ty = 3) (h0 : 0 < m.n) (hfz : m.fz = false) (w : World) (N : Nat) (hN : Sz w N) (hA : RmAt w m) :
    Calls Tryd.prog 32 #[.pointer (some ⟨m.b, 0, none⟩), .bool true] w (RPop m w N) := by
  have c0 := hA.c0
  rw [hl] at c0
  have d4 := hid hA.c4
  have c5 := hA.c5
  rw [hfz] at c5
  have E34 := hid (show ((m.n : Int) == 0) = false by rw [beq_eq_false_iff_ne]; omega)
  obtain ⟨k, ek⟩ : ∃ k : Nat, k = 0 := ⟨_, rfl⟩
  have hk : k < m.n := by omega
  have HK := hid (show (0 : Int) = (k : Int) by omega)
  have hn := hA.n
  obtain ⟨g, hg⟩ := hA.ptr h0
  have HG := hid hg
  have hce : w.cell? ⟨g, k * 2 + 1, none⟩ = some (.string (m.E k).v) := hA.at hg k hk 1 (by omega)
  have kk0 : (0 : Int) ≤ (k : Int) := by omega
  have kk1 : (k : Int) ≤ 1000 := by omega
  clear ek hg hl h0 hfz
  go_enter Tryd.func32, Tryd.ntmps32
  go_upto_region 3 with fail
  go_upto_region 5 with fail
  go_upto_region 7 with (first
    | ((with_reducible show wpList _ _ _ (_ :: _) _ _); first
      | (refine wpl_run rfl (.slice m.p m.n m.cap) _ (run_cell1 (x := .tmp 31) 62 rfl rfl undRE rfl d4.out) ?_; try simp only [pA])
      | (refine wpl_run rfl (.int .i64 (m.n : Int)) _ (run_lenL (x := .tmp 32) rfl undRE rfl _) ?_; try simp only [pA])
      | (refine wpl_run rfl (.bool false) _ (run_eqK (x := .tmp 33) rfl rfl rfl E34.out _) ?_; try simp only [pA]))
    | fail)
  go_upto_region 8 with (first
    | ((with_reducible show wpList _ _ _ (_ :: _) _ _); first
      | (refine wpl_run rfl (.int .i64 (k : Int)) _ (by rw [← HK.out]; rfl) ?_; try simp only [pA]))
    | fail)
  go_upto_region 12 with (first
    | ((with_reducible show wpList _ _ _ (_ :: _) _ _); first
      | (refine wpl_run rfl (.slice m.p m.n m.cap) _ (run_cell1 (x := .tmp 49) 62 rfl rfl undRE rfl d4.out) ?_; try simp only [pA])
      | (refine wpl_run rfl (.pointer (some ⟨g, k * 2, none⟩)) _ (run_iaS2 (x := .tmp 50) (y := .tmp 51) rfl rfl HG.out rfl undRE szRE hk _) ?_; try simp only [pA])
      | (refine wpl_run rfl (.string (m.E k).v) _ (run_cell1 (x := .tmp 53) 9 rfl rfl undBS rfl hce) ?_; try simp only [pA]))
    | fail)
  have pre : ∀ w5 m2, RNx m w.drew N w5 m2 → RNx m w N w5 m2 := fun w5 m2 h => h.pre hN (Below.refl N w).drew hN
  clear c0 c5 d4 hce HG E34 HK
  have hI := hA.h
  have s2 := hA.cutF k hk
  have s3 := hA.cutT k hk
  refine wp_region_any (by kernel_rfl) ?_
  change wpAny _ _ _ _ _ _ _ (World.drew _)
  refine anyT_any (s := 19) (I := fun w' => Has w' m.b 64 6 (rmC m)) _ _ _ _ ?_
  have hne := inn_ne (I := fun w' => Has w' m.b 64 6 (rmC m)) hI
  refine anyT_reads [0, 2, 3, 4, 5, 6, 7, 9, 10, 11, 12, 13, 14, 15] _ _ _ hI.drew (by kernel_rfl) (fun _ _ _ d _ h => by cases d <;> exact h) ?_
  simp only [pickO, List.map_cons, List.map_nil, List.getElem?_toArray, List.getElem?_cons_succ, List.getElem?_cons_zero, Option.getD_some, Act.put, List.setIfInBounds_toArray, List.set_cons_succ, List.set_cons_zero]
  repeat first
    | (refine inn_val (fun x => ld_one 62 (.tmp 60) rfl ⟨m.b, 4, none⟩ rfl _ (ldL4 x.h)) (by rfl) ?_; simp only [Act.put, List.setIfInBounds_toArray, List.set_cons_succ, List.set_cons_zero])
    | (refine inn_val (fun x => ld_one 62 (.tmp 67) rfl ⟨m.b, 4, none⟩ rfl _ (ldL4 x.h)) (by rfl) ?_; simp only [Act.put, List.setIfInBounds_toArray, List.set_cons_succ, List.set_cons_zero])
    | go_big_quiet_step (fail)
  refine wpQuiet_nil ?_
  clear hne s2 s3
  have hMd : Sz w.drew N := hN
  have Ad : RmAt w.drew m := hA.below hN (Below.refl _ _).drew
  clear hI
  generalize World.drew w = wd at *
  refine anyT_one 1 _ _ _ _ (by kernel_rfl) ?_
  simp only [List.filterMap_cons, List.filterMap_nil, List.getElem?_toArray, List.getElem?_cons_succ, List.getElem?_cons_zero]
  refine wpl_bsR0 rfl rfl N hMd (reC m.E) ?_
  intro w1 z1 b1 v1
  have e1 : w1.heap.size = N + 1 := z1
  refine ⟨fun _ => (Ad.below hMd b1).h, ?_⟩
  change anyT _ _ _ _ _ _ _ _ _ _
  try simp only [pA]
  refine anyT_one 8 _ _ _ _ (by kernel_rfl) ?_
  simp only [List.filterMap_cons, List.filterMap_nil, List.getElem?_toArray, List.getElem?_cons_succ, List.getElem?_cons_zero]
  refine wpl_appK rfl (.tmp 57) (.tmp 63) 62 rfl 66 2 (by omega) undRE kRE (some ⟨N, 0, none⟩) 0 0 rfl (reC m.E) v1 m.p k m.cap rfl (reC m.E) ((Ad.below hMd b1).front k hk) (fun j _ => reC_one _ _) (by omega) ?_
  intro p2 cap2 w3 v2 g2 q2 n2
  have k1 : ∀ g, blk (some (⟨N, 0, none⟩ : Addr)) = some g → N ≤ g := fun g hg => Nat.le_of_eq (Option.some.inj hg)
  have b2 := g2.below b1 (below_le b1 hMd) k1
  have k2 := ge_step k1 q2 (below_le b1 hMd)
  rw [Nat.zero_add] at v2
  rw [Nat.zero_add]
  refine ⟨fun _ => (Ad.below hMd b2).h, ?_⟩
  change anyT _ _ _ _ _ _ _ _ _ _
  try simp only [pA]
  refine anyT_one 16 _ _ _ _ (by kernel_rfl) ?_
  simp only [List.filterMap_cons, List.filterMap_nil, List.getElem?_toArray, List.getElem?_cons_succ, List.getElem?_cons_zero]
  refine wpl_appK rfl (.tmp 64) (.tmp 71) 62 rfl 66 2 (by omega) undRE kRE p2 k cap2 rfl _ v2 (tailP m k) (m.n - (k + 1)) (m.cap - (k + 1)) rfl (fun j => reC m.E ((k + 1) * 2 + j)) ((Ad.below hMd b2).tail k hk) (fun j _ => reC_one _ _) (by omega) ?_
  intro p4 cap4 w4 v4 g4 q4 n4
  have b4 := g4.below b2 (below_le b2 hMd) k2
  have k4 := ge_step k2 q4 (below_le b2 hMd)
  refine ⟨fun _ => (Ad.below hMd b4).h, ?_⟩
  change anyT _ _ _ _ _ _ _ _ _ _
  try simp only [pA]
  refine anyT_one 17 _ _ _ _ (by kernel_rfl) ?_
  simp only [List.filterMap_cons, List.filterMap_nil, List.getElem?_toArray, List.getElem?_cons_succ, List.getElem?_cons_zero]
  refine wpl_pure rfl (v := .pointer (some ⟨m.b, 0, none⟩)) (by intro w; first | rfl | (go_simp; first | done | with_reducible rfl)) ?_
  refine ⟨fun _ => (Ad.below hMd b4).h, ?_⟩
  change anyT _ _ _ _ _ _ _ _ _ _
  try simp only [pA]
  refine anyT_one 18 _ _ _ _ (by kernel_rfl) ?_
  simp only [List.filterMap_cons, List.filterMap_nil, List.getElem?_toArray, List.getElem?_cons_succ, List.getElem?_cons_zero]
  refine wpl_pure rfl (v := .pointer (some ⟨m.b, 4, none⟩)) (by intro w; first | rfl | (go_simp; first | done | with_reducible rfl)) ?_
  refine ⟨fun _ => (Ad.below hMd b4).h, ?_⟩
  change anyT _ _ _ _ _ _ _ _ _ _
  try simp only [pA]
  refine anyT_one 19 _ _ _ _ (by kernel_rfl) ?_
  simp only [List.filterMap_cons, List.filterMap_nil, List.getElem?_toArray, List.getElem?_cons_succ, List.getElem?_cons_zero]
  refine wpl_set rfl 62 (.tmp 74) (.tmp 72) rfl m.b 4 rfl (.slice p4 (k + (m.n - (k + 1))) cap4) rfl szSlRE rfl rfl 64 6 _ (Ad.below hMd b4).h (by omega) ?_
  intro w5 t5 h5
  refine ⟨fun h => absurd h (by simp), ?_⟩
  refine anyT_of_any _ _ _ _ (by kernel_rfl) ?_
  change wpAny _ _ _ _ _ _ _ _
  refine wpAny_done (by kernel_rfl) ?_ _
  try simp only [pA]
  have X5 := hid (pre _ _ (RNx.del hMd Ad k hk b4 v4 k4 t5 h5))
  clear v1 v2 v4 g2 g4 q2 q4 n2 n4 k1 k2 k4 t5 h5 b1 b2 b4 Ad z1 e1
  rename_i K HKK
  refine HKK _ _ ?_
  clear HKK
  go_wp2_with fail
  go_ret2
  exact ⟨_, _, _, rfl, X5.out⟩
set_option maxRecDepth 100000 in
set_option maxHeartbeats 8000000 in
theorem DPop_3false (m : Rm) (hl : m.ty = 3) (h0 : 0 < m.n) (hfz : True) (w : World) (N : Nat) (hN : Sz w N) (hA : RmAt w m) :
    Calls Tryd.prog 32 #[.pointer (some ⟨m.b, 0, none⟩), .bool false] w (RPop m w N) := by
  have c0 := hA.c0
  rw [hl] at c0
  have d4 := hid hA.c4
  have E34 := hid (show ((m.n : Int) == 0) = false by rw [beq_eq_false_iff_ne]; omega)
  obtain ⟨k, ek⟩ : ∃ k : Nat, k = 0 := ⟨_, rfl⟩
  have hk : k < m.n := by omega
  have HK := hid (show (0 : Int) = (k : Int) by omega)
  have hn := hA.n
  obtain ⟨g, hg⟩ := hA.ptr h0
  have HG := hid hg
  have hce : w.cell? ⟨g, k * 2 + 1, none⟩ = some (.string (m.E k).v) := hA.at hg k hk 1 (by omega)
  have kk0 : (0 : Int) ≤ (k : Int) := by omega
  have kk1 : (k : Int) ≤ 1000 := by omega
  clear ek hg hl h0 hfz
  go_enter Tryd.func32, Tryd.ntmps32
  go_upto_region 3 with fail
  go_upto_region 5 with fail
  go_upto_region 7 with (first
    | ((with_reducible show wpList _ _ _ (_ :: _) _ _); first
      | (refine wpl_run rfl (.slice m.p m.n m.cap) _ (run_cell1 (x := .tmp 31) 62 rfl rfl undRE rfl d4.out) ?_; try simp only [pA])
      | (refine wpl_run rfl (.int .i64 (m.n : Int)) _ (run_lenL (x := .tmp 32) rfl undRE rfl _) ?_; try simp only [pA])
      | (refine wpl_run rfl (.bool false) _ (run_eqK (x := .tmp 33) rfl rfl rfl E34.out _) ?_; try simp only [pA]))
    | fail)
  go_upto_region 8 with (first
    | ((with_reducible show wpList _ _ _ (_ :: _) _ _); first
      | (refine wpl_run rfl (.int .i64 (k : Int)) _ (by rw [← HK.out]; rfl) ?_; try simp only [pA]))
    | fail)
  go_wp2_with (first
    | ((with_reducible show wpList _ _ _ (_ :: _) _ _); first
      | (refine wpl_run rfl (.slice m.p m.n m.cap) _ (run_cell1 (x := .tmp 49) 62 rfl rfl undRE rfl d4.out) ?_; try simp only [pA])
      | (refine wpl_run rfl (.pointer (some ⟨g, k * 2, none⟩)) _ (run_iaS2 (x := .tmp 50) (y := .tmp 51) rfl rfl HG.out rfl undRE szRE hk _) ?_; try simp only [pA])
      | (refine wpl_run rfl (.string (m.E k).v) _ (run_cell1 (x := .tmp 53) 9 rfl rfl undBS rfl hce) ?_; try simp only [pA]))
    | fail)
  go_ret2
  exact ⟨_, _, m, rfl, RNx.stay hN hA (Below.refl N w)⟩
set_option maxRecDepth 100000 in
set_option maxHeartbeats 8000000 in
theorem DPop_4true (m : Rm) (hl : m.ty = 4) (h0 : 0 < m.n) (hfz : m.fz = false) (w : World) (N : Nat) (hN : Sz w N) (hA : RmAt w m) :
    Calls Tryd.prog 32 #[.pointer (some ⟨m.b, 0, none⟩), .bool true] w (RPop m w N) := by
  have c0 := hA.c0
  rw [hl] at c0
  have d4 := hid hA.c4
  have c5 := hA.c5
  rw [hfz] at c5
  have E34 := hid (show ((m.n : Int) == 0) = false by rw [beq_eq_false_iff_ne]; omega)
  obtain ⟨k, ek⟩ : ∃ k : Nat, k = m.n - 1 := ⟨_, rfl⟩
  have hk : k < m.n := by omega
  have HK := hid (show (m.n : Int) - 1 = (k : Int) by omega)
  have hn := hA.n
  obtain ⟨g, hg⟩ := hA.ptr h0
  have HG := hid hg
  have hce : w.cell? ⟨g, k * 2 + 1, none⟩ = some (.string (m.E k).v) := hA.at hg k hk 1 (by omega)
  have kk0 : (0 : Int) ≤ (k : Int) := by omega
  have kk1 : (k : Int) ≤ 1000 := by omega
  clear ek hg hl h0 hfz
  go_enter Tryd.func32, Tryd.ntmps32
  go_upto_region 3 with fail
  go_upto_region 5 with fail
  go_upto_region 7 with (first
    | ((with_reducible show wpList _ _ _ (_ :: _) _ _); first
      | (refine wpl_run rfl (.slice m.p m.n m.cap) _ (run_cell1 (x := .tmp 31) 62 rfl rfl undRE rfl d4.out) ?_; try simp only [pA])
      | (refine wpl_run rfl (.int .i64 (m.n : Int)) _ (run_lenL (x := .tmp 32) rfl undRE rfl _) ?_; try simp only [pA])
      | (refine wpl_run rfl (.bool false) _ (run_eqK (x := .tmp 33) rfl rfl rfl E34.out _) ?_; try simp only [pA]))
    | fail)
  go_upto_region 8 with fail
  go_upto_region 12 with (first
    | ((with_reducible show wpList _ _ _ (_ :: _) _ _); first
      | (refine wpl_run rfl (.slice m.p m.n m.cap) _ (run_cell1 (x := .tmp 43) 62 rfl rfl undRE rfl d4.out) ?_; try simp only [pA])
      | (refine wpl_run rfl (.int .i64 (m.n : Int)) _ (run_lenL (x := .tmp 44) rfl undRE rfl _) ?_; try simp only [pA])
      | (refine wpl_run rfl (.int .i64 (k : Int)) _ (run_subN (x := .tmp 45) rfl rfl rfl HK.out (by omega) (by omega) _) ?_; try simp only [pA])
      | (refine wpl_run rfl (.slice m.p m.n m.cap) _ (run_cell1 (x := .tmp 49) 62 rfl rfl undRE rfl d4.out) ?_; try simp only [pA])
      | (refine wpl_run rfl (.pointer (some ⟨g, k * 2, none⟩)) _ (run_iaS2 (x := .tmp 50) (y := .tmp 51) rfl rfl HG.out rfl undRE szRE hk _) ?_; try simp only [pA])
      | (refine wpl_run rfl (.string (m.E k).v) _ (run_cell1 (x := .tmp 53) 9 rfl rfl undBS rfl hce) ?_; try simp only [pA]))
    | fail)
  have pre : ∀ w5 m2, RNx m w.drew N w5 m2 → RNx m w N w5 m2 := fun w5 m2 h => h.pre hN (Below.refl N w).drew hN
  clear c0 c5 d4 hce HG E34 HK
  have hI := hA.h
  have s2 := hA.cutF k hk
  have s3 := hA.cutT k hk
  refine wp_region_any (by kernel_rfl) ?_
  change wpAny _ _ _ _ _ _ _ (World.drew _)
  refine anyT_any (s := 19) (I := fun w' => Has w' m.b 64 6 (rmC m)) _ _ _ _ ?_
  have hne := inn_ne (I := fun w' => Has w' m.b 64 6 (rmC m)) hI
  refine anyT_reads [0, 2, 3, 4, 5, 6, 7, 9, 10, 11, 12, 13, 14, 15] _ _ _ hI.drew (by kernel_rfl) (fun _ _ _ d _ h => by cases d <;> exact h) ?_
  simp only [pickO, List.map_cons, List.map_nil, List.getElem?_toArray, List.getElem?_cons_succ, List.getElem?_cons_zero, Option.getD_some, Act.put, List.setIfInBounds_toArray, List.set_cons_succ, List.set_cons_zero]
  repeat first
    | (refine inn_val (fun x => ld_one 62 (.tmp 60) rfl ⟨m.b, 4, none⟩ rfl _ (ldL4 x.h)) (by rfl) ?_; simp only [Act.put, List.setIfInBounds_toArray, List.set_cons_succ, List.set_cons_zero])
    | (refine inn_val (fun x => ld_one 62 (.tmp 67) rfl ⟨m.b, 4, none⟩ rfl _ (ldL4 x.h)) (by rfl) ?_; simp only [Act.put, List.setIfInBounds_toArray, List.set_cons_succ, List.set_cons_zero])
    | go_big_quiet_step (fail)
  refine wpQuiet_nil ?_
  clear hne s2 s3
  have hMd : Sz w.drew N := hN
  have Ad : RmAt w.drew m := hA.below hN (Below.refl _ _).drew
  clear hI
  generalize World.drew w = wd at *
  refine anyT_one 1 _ _ _ _ (by kernel_rfl) ?_
  simp only [List.filterMap_cons, List.filterMap_nil, List.getElem?_toArray, List.getElem?_cons_succ, List.getElem?_cons_zero]
  refine wpl_bsR0 rfl rfl N hMd (reC m.E) ?_
  intro w1 z1 b1 v1
  have e1 : w1.heap.size = N + 1 := z1
  refine ⟨fun _ => (Ad.below hMd b1).h, ?_⟩
  change anyT _ _ _ _ _ _ _ _ _ _
  try simp only [pA]
  refine anyT_one 8 _ _ _ _ (by kernel_rfl) ?_
  simp only [List.filterMap_cons, List.filterMap_nil, List.getElem?_toArray, List.getElem?_cons_succ, List.getElem?_cons_zero]
  refine wpl_appK rfl (.tmp 57) (.tmp 63) 62 rfl 66 2 (by omega) undRE kRE (some ⟨N, 0, none⟩) 0 0 rfl (reC m.E) v1 m.p k m.cap rfl (reC m.E) ((Ad.below hMd b1).front k hk) (fun j _ => reC_one _ _) (by omega) ?_
  intro p2 cap2 w3 v2 g2 q2 n2
  have k1 : ∀ g, blk (some (⟨N, 0, none⟩ : Addr)) = some g → N ≤ g := fun g hg => Nat.le_of_eq (Option.some.inj hg)
  have b2 := g2.below b1 (below_le b1 hMd) k1
  have k2 := ge_step k1 q2 (below_le b1 hMd)
  rw [Nat.zero_add] at v2
  rw [Nat.zero_add]
  refine ⟨fun _ => (Ad.below hMd b2).h, ?_⟩
  change anyT _ _ _ _ _ _ _ _ _ _
  try simp only [pA]
  refine anyT_one 16 _ _ _ _ (by kernel_rfl) ?_
  simp only [List.filterMap_cons, List.filterMap_nil, List.getElem?_toArray, List.getElem?_cons_succ, List.getElem?_cons_zero]
  refine wpl_appK rfl (.tmp 64) (.tmp 71) 62 rfl 66 2 (by omega) undRE kRE p2 k cap2 rfl _ v2 (tailP m k) (m.n - (k + 1)) (m.cap - (k + 1)) rfl (fun j => reC m.E ((k + 1) * 2 + j)) ((Ad.below hMd b2).tail k hk) (fun j _ => reC_one _ _) (by omega) ?_
  intro p4 cap4 w4 v4 g4 q4 n4
  have b4 := g4.below b2 (below_le b2 hMd) k2
  have k4 := ge_step k2 q4 (below_le b2 hMd)
  refine ⟨fun _ => (Ad.below hMd b4).h, ?_⟩
  change anyT _ _ _ _ _ _ _ _ _ _
  try simp only [pA]
  refine anyT_one 17 _ _ _ _ (by kernel_rfl) ?_
  simp only [List.filterMap_cons, List.filterMap_nil, List.getElem?_toArray, List.getElem?_cons_succ, List.getElem?_cons_zero]
  refine wpl_pure rfl (v := .pointer (some ⟨m.b, 0, none⟩)) (by intro w; first | rfl | (go_simp; first | done | with_reducible rfl)) ?_
  refine ⟨fun _ => (Ad.below hMd b4).h, ?_⟩
  change anyT _ _ _ _ _ _ _ _ _ _
  try simp only [pA]
  refine anyT_one 18 _ _ _ _ (by kernel_rfl) ?_
  simp only [List.filterMap_cons, List.filterMap_nil, List.getElem?_toArray, List.getElem?_cons_succ, List.getElem?_cons_zero]
  refine wpl_pure rfl (v := .pointer (some ⟨m.b, 4, none⟩)) (by intro w; first | rfl | (go_simp; first | done | with_reducible rfl)) ?_
  refine ⟨fun _ => (Ad.below hMd b4).h, ?_⟩
  change anyT _ _ _ _ _ _ _ _ _ _
  try simp only [pA]
  refine anyT_one 19 _ _ _ _ (by kernel_rfl) ?_
  simp only [List.filterMap_cons, List.filterMap_nil, List.getElem?_toArray, List.getElem?_cons_succ, List.getElem?_cons_zero]
  refine wpl_set rfl 62 (.tmp 74) (.tmp 72) rfl m.b 4 rfl (.slice p4 (k + (m.n - (k + 1))) cap4) rfl szSlRE rfl rfl 64 6 _ (Ad.below hMd b4).h (by omega) ?_
  intro w5 t5 h5
  refine ⟨fun h => absurd h (by simp), ?_⟩
  refine anyT_of_any _ _ _ _ (by kernel_rfl) ?_
  change wpAny _ _ _ _ _ _ _ _
  refine wpAny_done (by kernel_rfl) ?_ _
  try simp only [pA]
  have X5 := hid (pre _ _ (RNx.del hMd Ad k hk b4 v4 k4 t5 h5))
  clear v1 v2 v4 g2 g4 q2 q4 n2 n4 k1 k2 k4 t5 h5 b1 b2 b4 Ad z1 e1
  rename_i K HKK
  refine HKK _ _ ?_
  clear HKK
  go_wp2_with fail
  go_ret2
  exact ⟨_, _, _, rfl, X5.out⟩
set_option maxRecDepth 100000 in
set_option maxHeartbeats 8000000 in
theorem DPop_4false (m : Rm) (hl : m.ty = 4) (h0 : 0 < m.n) (hfz : True) (w : World) (N : Nat) (hN : Sz w N) (hA : RmAt w m) :
    Calls Tryd.prog 32 #[.pointer (some ⟨m.b, 0, none⟩), .bool false] w (RPop m w N) := by
  have c0 := hA.c0
  rw [hl] at c0
  have d4 := hid hA.c4
  have E34 := hid (show ((m.n : Int) == 0) = false by rw [beq_eq_false_iff_ne]; omega)
  obtain ⟨k, ek⟩ : ∃ k : Nat, k = m.n - 1 := ⟨_, rfl⟩
  have hk : k < m.n := by omega
  have HK := hid (show (m.n : Int) - 1 = (k : Int) by omega)
  have hn := hA.n
  obtain ⟨g, hg⟩ := hA.ptr h0
  have HG := hid hg
  have hce : w.cell? ⟨g, k * 2 + 1, none⟩ = some (.string (m.E k).v) := hA.at hg k hk 1 (by omega)
  have kk0 : (0 : Int) ≤ (k : Int) := by omega
  have kk1 : (k : Int) ≤ 1000 := by omega
  clear ek hg hl h0 hfz
  go_enter Tryd.func32, Tryd.ntmps32
  go_upto_region 3 with fail
  go_upto_region 5 with fail
  go_upto_region 7 with (first
    | ((with_reducible show wpList _ _ _ (_ :: _) _ _); first
      | (refine wpl_run rfl (.slice m.p m.n m.cap) _ (run_cell1 (x := .tmp 31) 62 rfl rfl undRE rfl d4.out) ?_; try simp only [pA])
      | (refine wpl_run rfl (.int .i64 (m.n : Int)) _ (run_lenL (x := .tmp 32) rfl undRE rfl _) ?_; try simp only [pA])
      | (refine wpl_run rfl (.bool false) _ (run_eqK (x := .tmp 33) rfl rfl rfl E34.out _) ?_; try simp only [pA]))
    | fail)
  go_upto_region 8 with fail
  go_wp2_with (first
    | ((with_reducible show wpList _ _ _ (_ :: _) _ _); first
      | (refine wpl_run rfl (.slice m.p m.n m.cap) _ (run_cell1 (x := .tmp 43) 62 rfl rfl undRE rfl d4.out) ?_; try simp only [pA])
      | (refine wpl_run rfl (.int .i64 (m.n : Int)) _ (run_lenL (x := .tmp 44) rfl undRE rfl _) ?_; try simp only [pA])
      | (refine wpl_run rfl (.int .i64 (k : Int)) _ (run_subN (x := .tmp 45) rfl rfl rfl HK.out (by omega) (by omega) _) ?_; try simp only [pA])
      | (refine wpl_run rfl (.slice m.p m.n m.cap) _ (run_cell1 (x := .tmp 49) 62 rfl rfl undRE rfl d4.out) ?_; try simp only [pA])
      | (refine wpl_run rfl (.pointer (some ⟨g, k * 2, none⟩)) _ (run_iaS2 (x := .tmp 50) (y := .tmp 51) rfl rfl HG.out rfl undRE szRE hk _) ?_; try simp only [pA])
      | (refine wpl_run rfl (.string (m.E k).v) _ (run_cell1 (x := .tmp 53) 9 rfl rfl undBS rfl hce) ?_; try simp only [pA]))
    | fail)
  go_ret2
  exact ⟨_, _, m, rfl, RNx.stay hN hA (Below.refl N w)⟩
set_option maxRecDepth 100000 in
set_option maxHeartbeats 8000000 in
theorem DPop_no (m : Rm) (gone : Bool) (hg : gone = false ∨ m.fz = false) (hl : ¬ ((m.ty = 3 ∨ m.ty = 4) ∧ 0 < m.n)) (w : World) (N : Nat) (hN : Sz w N) (hA : RmAt w m) :
    Calls Tryd.prog 32 #[.pointer (some ⟨m.b, 0, none⟩), .bool gone] w (RPop m w N) := by
  have stay := hid (RNx.stay hN hA (Below.refl N w))
  have c0 := hA.c0
  have c5 := hA.c5
  have d4 := hid hA.c4
  by_cases h3 : m.ty = 3 ∨ m.ty = 4
  · have E34 := hid (show ((m.n : Int) == 0) = true by rw [beq_iff_eq]; omega)
    rcases h3 with h3 | h3
    · rw [h3] at c0
      clear h3 hl
      cases gone
      · clear hg c5
        go_enter Tryd.func32, Tryd.ntmps32
        go_wp2_with (first
          | ((with_reducible show wpList _ _ _ (_ :: _) _ _); first
            | (refine wpl_run rfl (.slice m.p m.n m.cap) _ (run_cell1 (x := .tmp 31) 62 rfl rfl undRE rfl d4.out) ?_; try simp only [pA])
            | (refine wpl_run rfl (.int .i64 (m.n : Int)) _ (run_lenL (x := .tmp 32) rfl undRE rfl _) ?_; try simp only [pA])
            | (refine wpl_run rfl (.bool true) _ (run_eqK (x := .tmp 33) rfl rfl rfl E34.out _) ?_; try simp only [pA]))
          | fail)
        go_ret2
        exact ⟨_, _, m, rfl, stay.out⟩
      · have hf : m.fz = false := hg.resolve_left (by decide)
        rw [hf] at c5
        clear hg hf
        go_enter Tryd.func32, Tryd.ntmps32
        go_wp2_with (first
          | ((with_reducible show wpList _ _ _ (_ :: _) _ _); first
            | (refine wpl_run rfl (.slice m.p m.n m.cap) _ (run_cell1 (x := .tmp 31) 62 rfl rfl undRE rfl d4.out) ?_; try simp only [pA])
            | (refine wpl_run rfl (.int .i64 (m.n : Int)) _ (run_lenL (x := .tmp 32) rfl undRE rfl _) ?_; try simp only [pA])
            | (refine wpl_run rfl (.bool true) _ (run_eqK (x := .tmp 33) rfl rfl rfl E34.out _) ?_; try simp only [pA]))
          | fail)
        go_ret2
        exact ⟨_, _, m, rfl, stay.out⟩
    · rw [h3] at c0
      clear h3 hl
      cases gone
      · clear hg c5
        go_enter Tryd.func32, Tryd.ntmps32
        go_wp2_with (first
          | ((with_reducible show wpList _ _ _ (_ :: _) _ _); first
            | (refine wpl_run rfl (.slice m.p m.n m.cap) _ (run_cell1 (x := .tmp 31) 62 rfl rfl undRE rfl d4.out) ?_; try simp only [pA])
            | (refine wpl_run rfl (.int .i64 (m.n : Int)) _ (run_lenL (x := .tmp 32) rfl undRE rfl _) ?_; try simp only [pA])
            | (refine wpl_run rfl (.bool true) _ (run_eqK (x := .tmp 33) rfl rfl rfl E34.out _) ?_; try simp only [pA]))
          | fail)
        go_ret2
        exact ⟨_, _, m, rfl, stay.out⟩
      · have hf : m.fz = false := hg.resolve_left (by decide)
        rw [hf] at c5
        clear hg hf
        go_enter Tryd.func32, Tryd.ntmps32
        go_wp2_with (first
          | ((with_reducible show wpList _ _ _ (_ :: _) _ _); first
            | (refine wpl_run rfl (.slice m.p m.n m.cap) _ (run_cell1 (x := .tmp 31) 62 rfl rfl undRE rfl d4.out) ?_; try simp only [pA])
            | (refine wpl_run rfl (.int .i64 (m.n : Int)) _ (run_lenL (x := .tmp 32) rfl undRE rfl _) ?_; try simp only [pA])
            | (refine wpl_run rfl (.bool true) _ (run_eqK (x := .tmp 33) rfl rfl rfl E34.out _) ?_; try simp only [pA]))
          | fail)
        go_ret2
        exact ⟨_, _, m, rfl, stay.out⟩
  · have t3 : ((m.ty : Int) != 3) = true := by rw [bne_iff_ne]; omega
    have t4 : ((m.ty : Int) != 4) = true := by rw [bne_iff_ne]; omega
    clear h3 hl
    cases gone
    · clear hg c5
      go_enter Tryd.func32, Tryd.ntmps32
      go_wp2
      go_ret2
      exact ⟨_, _, m, rfl, stay.out⟩
    · have hf : m.fz = false := hg.resolve_left (by decide)
      rw [hf] at c5
      clear hg hf
      go_enter Tryd.func32, Tryd.ntmps32
      go_wp2
      go_ret2
      exact ⟨_, _, m, rfl, stay.out⟩
set_option maxRecDepth 100000 in
theorem DPop_any (m : Rm) (gone : Bool) (w : World) (N : Nat) (hN : Sz w N) (hA : RmAt w m) :
    Calls Tryd.prog 32 #[.pointer (some ⟨m.b, 0, none⟩), .bool gone] w (RPop m w N) := by
  by_cases hg : gone = false ∨ m.fz = false
  · by_cases hl : (m.ty = 3 ∨ m.ty = 4) ∧ 0 < m.n
    · obtain ⟨h3, h0⟩ := hl
      cases gone
      · rcases h3 with h3 | h3
        · exact DPop_3false m h3 h0 trivial w N hN hA
        · exact DPop_4false m h3 h0 trivial w N hN hA
      · have hf : m.fz = false := hg.resolve_left (by decide)
        rcases h3 with h3 | h3
        · exact DPop_3true m h3 h0 hf w N hN hA
        · exact DPop_4true m h3 h0 hf w N hN hA
    · exact DPop_no m gone hg hl w N hN hA
  · have h1 : gone = true := by cases gone; exact absurd (.inl rfl) hg; rfl
    have h2 : m.fz = true := by cases h : m.fz; exact absurd (.inr h) hg; rfl
    subst h1
    have c5 := hA.c5
    rw [h2] at c5
    clear hg h2
    go_enter Tryd.func32, Tryd.ntmps32
    go_wp2
    go_ret2
    exact ⟨_, _, m, rfl, RNx.stay hN hA (Below.refl N w)⟩
end Go.Proofs.YtjdclgnlnehjlaaDoor
