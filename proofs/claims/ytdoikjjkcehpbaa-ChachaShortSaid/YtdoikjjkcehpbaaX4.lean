/- Stream. -/
import Derived.Test.YtdoikjjkcehpbaaX3
namespace Go.Proofs.Ytdoikjjkcehpbaa.B
open Go Go.RowKit
attribute [local irreducible] wpList wpAny
set_option maxHeartbeats 4000000 in
set_option maxRecDepth 100000 in
theorem stream_two {KV NV : List Value} {ks : Nat → List Int} (hT : Two KV NV ks) (c : Nat) (hc : c < 4294967296) (n : Nat) (hn : n ≤ 65536) (w : World) :
    Calls Try.prog 10 #[.agg KV.toArray, .agg NV.toArray, .int .u32 (c : Int), .int .i64 (n : Int)] w fun e w' => ∃ g, e = .returned (.tuple #[.slice (some ⟨g, 0, none⟩) n n, .int .i64 0]) ∧ Below w.heap.size w w' ∧ w.heap.size ≤ g ∧ Blk w' g 5 (ub (strm ks c n)).toArray := by
  have HT := Lib.hid hT
  have HC := Lib.hid hc
  have HN := Lib.hid hn
  clear hT hc hn
  go_enter Try.func10, Try.ntmps10
  go_upto_region 1 with (fail)
  obtain ⟨W1, hW1⟩ : ∃ V, V = (w.alloc (.cells KV.toArray 23)).alloc (.cells NV.toArray 28) := ⟨_, rfl⟩
  rw [← hW1]
  have F1 : Hid (Below w.heap.size w W1.drew ∧ Blk W1.drew w.heap.size 23 KV.toArray ∧ Blk W1.drew (w.heap.size + 1) 28 NV.toArray) := Lib.hid (by
    rw [hW1]
    exact ⟨(((Below.refl _ _).alloc (Nat.le_refl _) _).alloc (by simp) _).drew, (Blk.new _ _ _).alloc _, Blk.new' _ _ _ _ (by simp)⟩)
  clear hW1
  generalize w.heap.size + 1 = g1 at *
  obtain ⟨g0, hg0⟩ : ∃ q, w.heap.size = q := ⟨_, rfl⟩
  have G0 : Hid (w.heap.size = g0) := Lib.hid hg0
  rw [hg0] at F1
  rw [hg0]
  clear hg0
  refine wp_region_lit ?_
  refine wpL_pure (.int .i64 ((n : Nat) : Int)) rfl (by kernel_rfl) ?_
  simp only [Act.put, List.setIfInBounds_toArray, List.set_cons_zero, List.set_cons_succ]
  refine wpL_pure (.bool false) rfl (run_lti Try.underlying3 rfl rfl rfl (by have := HN.out; rw [decide_eq_false_iff_not]; omega)) ?_
  simp only [Act.put, List.setIfInBounds_toArray, List.set_cons_zero, List.set_cons_succ]
  refine wpL_pure (.bool false) rfl (by kernel_rfl) ?_
  simp only [Act.put, List.setIfInBounds_toArray, List.set_cons_zero, List.set_cons_succ]
  refine wpL_pure (.int .i64 ((n : Nat) : Int)) rfl (by kernel_rfl) ?_
  simp only [Act.put, List.setIfInBounds_toArray, List.set_cons_zero, List.set_cons_succ]
  refine wpL_pure (.bool false) rfl (run_gti Try.underlying3 rfl rfl rfl (by have := HN.out; rw [decide_eq_false_iff_not]; omega)) ?_
  simp only [Act.put, List.setIfInBounds_toArray, List.set_cons_zero, List.set_cons_succ]
  refine wpL_pure (.bool false) rfl (by kernel_rfl) ?_
  simp only [Act.put, List.setIfInBounds_toArray, List.set_cons_zero, List.set_cons_succ]
  unfold wpList
  go_upto_region 3 with (fail)
  refine region_any (by kernel_rfl) 8 rfl ?_
  refine wpAny_take (i := 2) (oi := ⟨some 18, _, _, _, _, _⟩) (v := (.int .u32 ((c : Nat) : Int))) rfl (by kernel_rfl) (by kernel_rfl) (by kernel_rfl) (fun _ _ _ h => h) (Or.inl ⟨rfl, fun w => by kernel_rfl⟩) ?_
  simp only [Act.put, List.setIfInBounds_toArray, List.set_cons_zero, List.set_cons_succ]
  refine wpAny_take (i := 3) (oi := ⟨some 19, _, _, _, _, _⟩) (v := (.int .i64 ((n : Nat) : Int))) rfl (by kernel_rfl) (by kernel_rfl) (by kernel_rfl) (fun _ _ _ h => h) (Or.inl ⟨rfl, fun w => by kernel_rfl⟩) ?_
  simp only [Act.put, List.setIfInBounds_toArray, List.set_cons_zero, List.set_cons_succ]
  refine wpAny_all (rs := [0, 1, 4]) (by kernel_rfl) (by simp) ?_
  intro i hi
  simp only [List.mem_cons, List.not_mem_nil, or_false] at hi
  rcases hi with rfl | rfl | rfl
  · refine op_val (o := ⟨some 16, _, _, _, _, _⟩) (.agg KV.toArray) rfl rfl (run_load_mid _ _ _ 23 _ rfl g0 0 rfl KV _ (blk_rangeC (F1.out.2.1)) Try.underlying23 rfl (by rw [HT.out.2.2.2.1]; kernel_rfl)) ?_
    simp only [Act.put, List.setIfInBounds_toArray, List.set_cons_zero, List.set_cons_succ]
    refine wpAny_all (rs := [1, 4]) (by kernel_rfl) (by simp) ?_
    intro i hi
    simp only [List.mem_cons, List.not_mem_nil, or_false] at hi
    rcases hi with rfl | rfl
    · refine op_val (o := ⟨some 17, _, _, _, _, _⟩) (.agg NV.toArray) rfl rfl (run_load_mid _ _ _ 28 _ rfl g1 0 rfl NV _ (blk_rangeC (F1.out.2.2)) Try.underlying28 rfl (by rw [HT.out.2.2.2.2]; kernel_rfl)) ?_
      simp only [Act.put, List.setIfInBounds_toArray, List.set_cons_zero, List.set_cons_succ]
      refine wpAny_all (rs := [4]) (by kernel_rfl) (by simp) ?_
      intro i hi
      simp only [List.mem_cons, List.not_mem_nil, or_false] at hi
      subst hi
      obtain ⟨z3, hz3⟩ : ∃ V, V = W1.drew.alloc (.cells (ub (List.replicate n 0)).toArray 5) := ⟨_, rfl⟩
      obtain ⟨gz3, kz3⟩ : ∃ q, W1.drew.heap.size = q := ⟨_, rfl⟩
      have qz3 : Below W1.drew.heap.size W1.drew z3 := by rw [hz3]; exact (Below.refl _ _).alloc (Nat.le_refl _) _
      have bz3 : Blk z3 gz3 5 (ub (List.replicate n 0)).toArray := by rw [hz3, ← kz3]; exact Blk.new _ _ _
      have Fz30 := Lib.hid (show Below g0 w z3 ∧ Blk z3 g0 23 KV.toArray ∧ Blk z3 g1 28 NV.toArray from ⟨F1.out.1.trans (qz3.mono (by have h1 := F1.out.1.size; have h2 := G0.out; omega)), F1.out.2.1.below qz3, F1.out.2.2.below qz3⟩)
      have Fz3 := Lib.hid (show Below g0 w z3 ∧ Blk z3 g0 23 KV.toArray ∧ Blk z3 g1 28 NV.toArray ∧ (True ∧ Blk z3 gz3 5 (ub (List.replicate n 0)).toArray) from ⟨Fz30.out.1, Fz30.out.2.1, Fz30.out.2.2, ⟨trivial, bz3⟩⟩)
      clear qz3 bz3 Fz30
      refine op_valw (o := ⟨some 20, _, _, _, _, _⟩) (.slice (some ⟨gz3, 0, none⟩) n n) z3 rfl rfl (by rw [← kz3]; exact run_mk24 _ _ _ _ _ n rfl rfl (by have := HN.out; omega) hz3) ?_
      simp only [Act.put, List.setIfInBounds_toArray, List.set_cons_zero, List.set_cons_succ]
      clear hz3 kz3
      refine wpAny_all (rs := [5]) (by kernel_rfl) (by simp) ?_
      intro i hi
      simp only [List.mem_cons, List.not_mem_nil, or_false] at hi
      subst hi
      refine op_call (o := ⟨some 21, _, _, _, _, _⟩) 9 #[.agg KV.toArray, .agg NV.toArray, .int .u32 ((c : Nat) : Int), .slice (some ⟨gz3, 0, none⟩) n n] rfl rfl (by kernel_rfl) (((xor_two HT.out c HC.out n n (some ⟨gz3, 0, none⟩) (List.replicate n 0) HN.out z3 (row_of_blk Fz3.out.2.2.2.2 (by simp) (by have := HN.out; omega) (by simp)))).mono fun e z4 ⟨goz4, he, qz4, lz4, rz4⟩ => ⟨.slice (some ⟨goz4, 0, none⟩) n n, he, ?_⟩)
      simp only [Act.put, List.setIfInBounds_toArray, List.set_cons_zero, List.set_cons_succ]
      have Fz4 := Lib.hid (show Below g0 w z4 ∧ Blk z4 g0 23 KV.toArray ∧ Blk z4 g1 28 NV.toArray ∧ (True ∧ Blk z4 gz3 5 (ub (List.replicate n 0)).toArray) ∧ (g0 ≤ goz4 ∧ Blk z4 goz4 5 (ub (strm ks c n)).toArray) from ⟨Fz3.out.1.trans (qz4.mono (by have h1 := Fz3.out.1.size; have h2 := G0.out; omega)), Fz3.out.2.1.below qz4, Fz3.out.2.2.1.below qz4, ⟨Fz3.out.2.2.2.1, Fz3.out.2.2.2.2.below qz4⟩, ⟨Nat.le_trans (Nat.le_trans (Nat.le_of_eq G0.out.symm) Fz3.out.1.size) lz4, by rw [← xorV_zero HT.out c n n]; exact rz4⟩⟩)
      clear qz4
      refine wpAny_take (i := 6) (oi := ⟨some 8, _, _, _, _, _⟩) (v := (.slice (some ⟨goz4, 0, none⟩) n n)) rfl (by kernel_rfl) (by kernel_rfl) (by kernel_rfl) (fun _ _ _ h => h) (Or.inl ⟨rfl, fun w => by kernel_rfl⟩) ?_
      simp only [Act.put, List.setIfInBounds_toArray, List.set_cons_zero, List.set_cons_succ]
      refine wpAny_take (i := 7) (oi := ⟨some 9, _, _, _, _, _⟩) (v := (.int .i64 0)) rfl (by kernel_rfl) (by kernel_rfl) (by kernel_rfl) (fun _ _ _ h => h) (Or.inl ⟨rfl, fun w => by kernel_rfl⟩) ?_
      simp only [Act.put, List.setIfInBounds_toArray, List.set_cons_zero, List.set_cons_succ]
      refine wpAny_done (by kernel_rfl) ?_ _
      go_wp2_with fail
      go_ret2
      exact ⟨_, rfl, by rw [G0.out]; exact Fz4.out.1, by rw [G0.out]; exact Fz4.out.2.2.2.2.1, Fz4.out.2.2.2.2.2⟩
    · obtain ⟨z5, hz5⟩ : ∃ V, V = W1.drew.alloc (.cells (ub (List.replicate n 0)).toArray 5) := ⟨_, rfl⟩
      obtain ⟨gz5, kz5⟩ : ∃ q, W1.drew.heap.size = q := ⟨_, rfl⟩
      have qz5 : Below W1.drew.heap.size W1.drew z5 := by rw [hz5]; exact (Below.refl _ _).alloc (Nat.le_refl _) _
      have bz5 : Blk z5 gz5 5 (ub (List.replicate n 0)).toArray := by rw [hz5, ← kz5]; exact Blk.new _ _ _
      have Fz50 := Lib.hid (show Below g0 w z5 ∧ Blk z5 g0 23 KV.toArray ∧ Blk z5 g1 28 NV.toArray from ⟨F1.out.1.trans (qz5.mono (by have h1 := F1.out.1.size; have h2 := G0.out; omega)), F1.out.2.1.below qz5, F1.out.2.2.below qz5⟩)
      have Fz5 := Lib.hid (show Below g0 w z5 ∧ Blk z5 g0 23 KV.toArray ∧ Blk z5 g1 28 NV.toArray ∧ (True ∧ Blk z5 gz5 5 (ub (List.replicate n 0)).toArray) from ⟨Fz50.out.1, Fz50.out.2.1, Fz50.out.2.2, ⟨trivial, bz5⟩⟩)
      clear qz5 bz5 Fz50
      refine op_valw (o := ⟨some 20, _, _, _, _, _⟩) (.slice (some ⟨gz5, 0, none⟩) n n) z5 rfl rfl (by rw [← kz5]; exact run_mk24 _ _ _ _ _ n rfl rfl (by have := HN.out; omega) hz5) ?_
      simp only [Act.put, List.setIfInBounds_toArray, List.set_cons_zero, List.set_cons_succ]
      clear hz5 kz5
      refine wpAny_all (rs := [1]) (by kernel_rfl) (by simp) ?_
      intro i hi
      simp only [List.mem_cons, List.not_mem_nil, or_false] at hi
      subst hi
      refine op_val (o := ⟨some 17, _, _, _, _, _⟩) (.agg NV.toArray) rfl rfl (run_load_mid _ _ _ 28 _ rfl g1 0 rfl NV _ (blk_rangeC (Fz5.out.2.2.1)) Try.underlying28 rfl (by rw [HT.out.2.2.2.2]; kernel_rfl)) ?_
      simp only [Act.put, List.setIfInBounds_toArray, List.set_cons_zero, List.set_cons_succ]
      refine wpAny_all (rs := [5]) (by kernel_rfl) (by simp) ?_
      intro i hi
      simp only [List.mem_cons, List.not_mem_nil, or_false] at hi
      subst hi
      refine op_call (o := ⟨some 21, _, _, _, _, _⟩) 9 #[.agg KV.toArray, .agg NV.toArray, .int .u32 ((c : Nat) : Int), .slice (some ⟨gz5, 0, none⟩) n n] rfl rfl (by kernel_rfl) (((xor_two HT.out c HC.out n n (some ⟨gz5, 0, none⟩) (List.replicate n 0) HN.out z5 (row_of_blk Fz5.out.2.2.2.2 (by simp) (by have := HN.out; omega) (by simp)))).mono fun e z7 ⟨goz7, he, qz7, lz7, rz7⟩ => ⟨.slice (some ⟨goz7, 0, none⟩) n n, he, ?_⟩)
      simp only [Act.put, List.setIfInBounds_toArray, List.set_cons_zero, List.set_cons_succ]
      have Fz7 := Lib.hid (show Below g0 w z7 ∧ Blk z7 g0 23 KV.toArray ∧ Blk z7 g1 28 NV.toArray ∧ (True ∧ Blk z7 gz5 5 (ub (List.replicate n 0)).toArray) ∧ (g0 ≤ goz7 ∧ Blk z7 goz7 5 (ub (strm ks c n)).toArray) from ⟨Fz5.out.1.trans (qz7.mono (by have h1 := Fz5.out.1.size; have h2 := G0.out; omega)), Fz5.out.2.1.below qz7, Fz5.out.2.2.1.below qz7, ⟨Fz5.out.2.2.2.1, Fz5.out.2.2.2.2.below qz7⟩, ⟨Nat.le_trans (Nat.le_trans (Nat.le_of_eq G0.out.symm) Fz5.out.1.size) lz7, by rw [← xorV_zero HT.out c n n]; exact rz7⟩⟩)
      clear qz7
      refine wpAny_take (i := 6) (oi := ⟨some 8, _, _, _, _, _⟩) (v := (.slice (some ⟨goz7, 0, none⟩) n n)) rfl (by kernel_rfl) (by kernel_rfl) (by kernel_rfl) (fun _ _ _ h => h) (Or.inl ⟨rfl, fun w => by kernel_rfl⟩) ?_
      simp only [Act.put, List.setIfInBounds_toArray, List.set_cons_zero, List.set_cons_succ]
      refine wpAny_take (i := 7) (oi := ⟨some 9, _, _, _, _, _⟩) (v := (.int .i64 0)) rfl (by kernel_rfl) (by kernel_rfl) (by kernel_rfl) (fun _ _ _ h => h) (Or.inl ⟨rfl, fun w => by kernel_rfl⟩) ?_
      simp only [Act.put, List.setIfInBounds_toArray, List.set_cons_zero, List.set_cons_succ]
      refine wpAny_done (by kernel_rfl) ?_ _
      go_wp2_with fail
      go_ret2
      exact ⟨_, rfl, by rw [G0.out]; exact Fz7.out.1, by rw [G0.out]; exact Fz7.out.2.2.2.2.1, Fz7.out.2.2.2.2.2⟩
  · refine op_val (o := ⟨some 17, _, _, _, _, _⟩) (.agg NV.toArray) rfl rfl (run_load_mid _ _ _ 28 _ rfl g1 0 rfl NV _ (blk_rangeC (F1.out.2.2)) Try.underlying28 rfl (by rw [HT.out.2.2.2.2]; kernel_rfl)) ?_
    simp only [Act.put, List.setIfInBounds_toArray, List.set_cons_zero, List.set_cons_succ]
    refine wpAny_all (rs := [0, 4]) (by kernel_rfl) (by simp) ?_
    intro i hi
    simp only [List.mem_cons, List.not_mem_nil, or_false] at hi
    rcases hi with rfl | rfl
    · refine op_val (o := ⟨some 16, _, _, _, _, _⟩) (.agg KV.toArray) rfl rfl (run_load_mid _ _ _ 23 _ rfl g0 0 rfl KV _ (blk_rangeC (F1.out.2.1)) Try.underlying23 rfl (by rw [HT.out.2.2.2.1]; kernel_rfl)) ?_
      simp only [Act.put, List.setIfInBounds_toArray, List.set_cons_zero, List.set_cons_succ]
      refine wpAny_all (rs := [4]) (by kernel_rfl) (by simp) ?_
      intro i hi
      simp only [List.mem_cons, List.not_mem_nil, or_false] at hi
      subst hi
      obtain ⟨z10, hz10⟩ : ∃ V, V = W1.drew.alloc (.cells (ub (List.replicate n 0)).toArray 5) := ⟨_, rfl⟩
      obtain ⟨gz10, kz10⟩ : ∃ q, W1.drew.heap.size = q := ⟨_, rfl⟩
      have qz10 : Below W1.drew.heap.size W1.drew z10 := by rw [hz10]; exact (Below.refl _ _).alloc (Nat.le_refl _) _
      have bz10 : Blk z10 gz10 5 (ub (List.replicate n 0)).toArray := by rw [hz10, ← kz10]; exact Blk.new _ _ _
      have Fz100 := Lib.hid (show Below g0 w z10 ∧ Blk z10 g0 23 KV.toArray ∧ Blk z10 g1 28 NV.toArray from ⟨F1.out.1.trans (qz10.mono (by have h1 := F1.out.1.size; have h2 := G0.out; omega)), F1.out.2.1.below qz10, F1.out.2.2.below qz10⟩)
      have Fz10 := Lib.hid (show Below g0 w z10 ∧ Blk z10 g0 23 KV.toArray ∧ Blk z10 g1 28 NV.toArray ∧ (True ∧ Blk z10 gz10 5 (ub (List.replicate n 0)).toArray) from ⟨Fz100.out.1, Fz100.out.2.1, Fz100.out.2.2, ⟨trivial, bz10⟩⟩)
      clear qz10 bz10 Fz100
      refine op_valw (o := ⟨some 20, _, _, _, _, _⟩) (.slice (some ⟨gz10, 0, none⟩) n n) z10 rfl rfl (by rw [← kz10]; exact run_mk24 _ _ _ _ _ n rfl rfl (by have := HN.out; omega) hz10) ?_
      simp only [Act.put, List.setIfInBounds_toArray, List.set_cons_zero, List.set_cons_succ]
      clear hz10 kz10
      refine wpAny_all (rs := [5]) (by kernel_rfl) (by simp) ?_
      intro i hi
      simp only [List.mem_cons, List.not_mem_nil, or_false] at hi
      subst hi
      refine op_call (o := ⟨some 21, _, _, _, _, _⟩) 9 #[.agg KV.toArray, .agg NV.toArray, .int .u32 ((c : Nat) : Int), .slice (some ⟨gz10, 0, none⟩) n n] rfl rfl (by kernel_rfl) (((xor_two HT.out c HC.out n n (some ⟨gz10, 0, none⟩) (List.replicate n 0) HN.out z10 (row_of_blk Fz10.out.2.2.2.2 (by simp) (by have := HN.out; omega) (by simp)))).mono fun e z11 ⟨goz11, he, qz11, lz11, rz11⟩ => ⟨.slice (some ⟨goz11, 0, none⟩) n n, he, ?_⟩)
      simp only [Act.put, List.setIfInBounds_toArray, List.set_cons_zero, List.set_cons_succ]
      have Fz11 := Lib.hid (show Below g0 w z11 ∧ Blk z11 g0 23 KV.toArray ∧ Blk z11 g1 28 NV.toArray ∧ (True ∧ Blk z11 gz10 5 (ub (List.replicate n 0)).toArray) ∧ (g0 ≤ goz11 ∧ Blk z11 goz11 5 (ub (strm ks c n)).toArray) from ⟨Fz10.out.1.trans (qz11.mono (by have h1 := Fz10.out.1.size; have h2 := G0.out; omega)), Fz10.out.2.1.below qz11, Fz10.out.2.2.1.below qz11, ⟨Fz10.out.2.2.2.1, Fz10.out.2.2.2.2.below qz11⟩, ⟨Nat.le_trans (Nat.le_trans (Nat.le_of_eq G0.out.symm) Fz10.out.1.size) lz11, by rw [← xorV_zero HT.out c n n]; exact rz11⟩⟩)
      clear qz11
      refine wpAny_take (i := 6) (oi := ⟨some 8, _, _, _, _, _⟩) (v := (.slice (some ⟨goz11, 0, none⟩) n n)) rfl (by kernel_rfl) (by kernel_rfl) (by kernel_rfl) (fun _ _ _ h => h) (Or.inl ⟨rfl, fun w => by kernel_rfl⟩) ?_
      simp only [Act.put, List.setIfInBounds_toArray, List.set_cons_zero, List.set_cons_succ]
      refine wpAny_take (i := 7) (oi := ⟨some 9, _, _, _, _, _⟩) (v := (.int .i64 0)) rfl (by kernel_rfl) (by kernel_rfl) (by kernel_rfl) (fun _ _ _ h => h) (Or.inl ⟨rfl, fun w => by kernel_rfl⟩) ?_
      simp only [Act.put, List.setIfInBounds_toArray, List.set_cons_zero, List.set_cons_succ]
      refine wpAny_done (by kernel_rfl) ?_ _
      go_wp2_with fail
      go_ret2
      exact ⟨_, rfl, by rw [G0.out]; exact Fz11.out.1, by rw [G0.out]; exact Fz11.out.2.2.2.2.1, Fz11.out.2.2.2.2.2⟩
    · obtain ⟨z12, hz12⟩ : ∃ V, V = W1.drew.alloc (.cells (ub (List.replicate n 0)).toArray 5) := ⟨_, rfl⟩
      obtain ⟨gz12, kz12⟩ : ∃ q, W1.drew.heap.size = q := ⟨_, rfl⟩
      have qz12 : Below W1.drew.heap.size W1.drew z12 := by rw [hz12]; exact (Below.refl _ _).alloc (Nat.le_refl _) _
      have bz12 : Blk z12 gz12 5 (ub (List.replicate n 0)).toArray := by rw [hz12, ← kz12]; exact Blk.new _ _ _
      have Fz120 := Lib.hid (show Below g0 w z12 ∧ Blk z12 g0 23 KV.toArray ∧ Blk z12 g1 28 NV.toArray from ⟨F1.out.1.trans (qz12.mono (by have h1 := F1.out.1.size; have h2 := G0.out; omega)), F1.out.2.1.below qz12, F1.out.2.2.below qz12⟩)
      have Fz12 := Lib.hid (show Below g0 w z12 ∧ Blk z12 g0 23 KV.toArray ∧ Blk z12 g1 28 NV.toArray ∧ (True ∧ Blk z12 gz12 5 (ub (List.replicate n 0)).toArray) from ⟨Fz120.out.1, Fz120.out.2.1, Fz120.out.2.2, ⟨trivial, bz12⟩⟩)
      clear qz12 bz12 Fz120
      refine op_valw (o := ⟨some 20, _, _, _, _, _⟩) (.slice (some ⟨gz12, 0, none⟩) n n) z12 rfl rfl (by rw [← kz12]; exact run_mk24 _ _ _ _ _ n rfl rfl (by have := HN.out; omega) hz12) ?_
      simp only [Act.put, List.setIfInBounds_toArray, List.set_cons_zero, List.set_cons_succ]
      clear hz12 kz12
      refine wpAny_all (rs := [0]) (by kernel_rfl) (by simp) ?_
      intro i hi
      simp only [List.mem_cons, List.not_mem_nil, or_false] at hi
      subst hi
      refine op_val (o := ⟨some 16, _, _, _, _, _⟩) (.agg KV.toArray) rfl rfl (run_load_mid _ _ _ 23 _ rfl g0 0 rfl KV _ (blk_rangeC (Fz12.out.2.1)) Try.underlying23 rfl (by rw [HT.out.2.2.2.1]; kernel_rfl)) ?_
      simp only [Act.put, List.setIfInBounds_toArray, List.set_cons_zero, List.set_cons_succ]
      refine wpAny_all (rs := [5]) (by kernel_rfl) (by simp) ?_
      intro i hi
      simp only [List.mem_cons, List.not_mem_nil, or_false] at hi
      subst hi
      refine op_call (o := ⟨some 21, _, _, _, _, _⟩) 9 #[.agg KV.toArray, .agg NV.toArray, .int .u32 ((c : Nat) : Int), .slice (some ⟨gz12, 0, none⟩) n n] rfl rfl (by kernel_rfl) (((xor_two HT.out c HC.out n n (some ⟨gz12, 0, none⟩) (List.replicate n 0) HN.out z12 (row_of_blk Fz12.out.2.2.2.2 (by simp) (by have := HN.out; omega) (by simp)))).mono fun e z14 ⟨goz14, he, qz14, lz14, rz14⟩ => ⟨.slice (some ⟨goz14, 0, none⟩) n n, he, ?_⟩)
      simp only [Act.put, List.setIfInBounds_toArray, List.set_cons_zero, List.set_cons_succ]
      have Fz14 := Lib.hid (show Below g0 w z14 ∧ Blk z14 g0 23 KV.toArray ∧ Blk z14 g1 28 NV.toArray ∧ (True ∧ Blk z14 gz12 5 (ub (List.replicate n 0)).toArray) ∧ (g0 ≤ goz14 ∧ Blk z14 goz14 5 (ub (strm ks c n)).toArray) from ⟨Fz12.out.1.trans (qz14.mono (by have h1 := Fz12.out.1.size; have h2 := G0.out; omega)), Fz12.out.2.1.below qz14, Fz12.out.2.2.1.below qz14, ⟨Fz12.out.2.2.2.1, Fz12.out.2.2.2.2.below qz14⟩, ⟨Nat.le_trans (Nat.le_trans (Nat.le_of_eq G0.out.symm) Fz12.out.1.size) lz14, by rw [← xorV_zero HT.out c n n]; exact rz14⟩⟩)
      clear qz14
      refine wpAny_take (i := 6) (oi := ⟨some 8, _, _, _, _, _⟩) (v := (.slice (some ⟨goz14, 0, none⟩) n n)) rfl (by kernel_rfl) (by kernel_rfl) (by kernel_rfl) (fun _ _ _ h => h) (Or.inl ⟨rfl, fun w => by kernel_rfl⟩) ?_
      simp only [Act.put, List.setIfInBounds_toArray, List.set_cons_zero, List.set_cons_succ]
      refine wpAny_take (i := 7) (oi := ⟨some 9, _, _, _, _, _⟩) (v := (.int .i64 0)) rfl (by kernel_rfl) (by kernel_rfl) (by kernel_rfl) (fun _ _ _ h => h) (Or.inl ⟨rfl, fun w => by kernel_rfl⟩) ?_
      simp only [Act.put, List.setIfInBounds_toArray, List.set_cons_zero, List.set_cons_succ]
      refine wpAny_done (by kernel_rfl) ?_ _
      go_wp2_with fail
      go_ret2
      exact ⟨_, rfl, by rw [G0.out]; exact Fz14.out.1, by rw [G0.out]; exact Fz14.out.2.2.2.2.1, Fz14.out.2.2.2.2.2⟩
  · obtain ⟨z15, hz15⟩ : ∃ V, V = W1.drew.alloc (.cells (ub (List.replicate n 0)).toArray 5) := ⟨_, rfl⟩
    obtain ⟨gz15, kz15⟩ : ∃ q, W1.drew.heap.size = q := ⟨_, rfl⟩
    have qz15 : Below W1.drew.heap.size W1.drew z15 := by rw [hz15]; exact (Below.refl _ _).alloc (Nat.le_refl _) _
    have bz15 : Blk z15 gz15 5 (ub (List.replicate n 0)).toArray := by rw [hz15, ← kz15]; exact Blk.new _ _ _
    have Fz150 := Lib.hid (show Below g0 w z15 ∧ Blk z15 g0 23 KV.toArray ∧ Blk z15 g1 28 NV.toArray from ⟨F1.out.1.trans (qz15.mono (by have h1 := F1.out.1.size; have h2 := G0.out; omega)), F1.out.2.1.below qz15, F1.out.2.2.below qz15⟩)
    have Fz15 := Lib.hid (show Below g0 w z15 ∧ Blk z15 g0 23 KV.toArray ∧ Blk z15 g1 28 NV.toArray ∧ (True ∧ Blk z15 gz15 5 (ub (List.replicate n 0)).toArray) from ⟨Fz150.out.1, Fz150.out.2.1, Fz150.out.2.2, ⟨trivial, bz15⟩⟩)
    clear qz15 bz15 Fz150
    refine op_valw (o := ⟨some 20, _, _, _, _, _⟩) (.slice (some ⟨gz15, 0, none⟩) n n) z15 rfl rfl (by rw [← kz15]; exact run_mk24 _ _ _ _ _ n rfl rfl (by have := HN.out; omega) hz15) ?_
    simp only [Act.put, List.setIfInBounds_toArray, List.set_cons_zero, List.set_cons_succ]
    clear hz15 kz15
    refine wpAny_all (rs := [0, 1]) (by kernel_rfl) (by simp) ?_
    intro i hi
    simp only [List.mem_cons, List.not_mem_nil, or_false] at hi
    rcases hi with rfl | rfl
    · refine op_val (o := ⟨some 16, _, _, _, _, _⟩) (.agg KV.toArray) rfl rfl (run_load_mid _ _ _ 23 _ rfl g0 0 rfl KV _ (blk_rangeC (Fz15.out.2.1)) Try.underlying23 rfl (by rw [HT.out.2.2.2.1]; kernel_rfl)) ?_
      simp only [Act.put, List.setIfInBounds_toArray, List.set_cons_zero, List.set_cons_succ]
      refine wpAny_all (rs := [1]) (by kernel_rfl) (by simp) ?_
      intro i hi
      simp only [List.mem_cons, List.not_mem_nil, or_false] at hi
      subst hi
      refine op_val (o := ⟨some 17, _, _, _, _, _⟩) (.agg NV.toArray) rfl rfl (run_load_mid _ _ _ 28 _ rfl g1 0 rfl NV _ (blk_rangeC (Fz15.out.2.2.1)) Try.underlying28 rfl (by rw [HT.out.2.2.2.2]; kernel_rfl)) ?_
      simp only [Act.put, List.setIfInBounds_toArray, List.set_cons_zero, List.set_cons_succ]
      refine wpAny_all (rs := [5]) (by kernel_rfl) (by simp) ?_
      intro i hi
      simp only [List.mem_cons, List.not_mem_nil, or_false] at hi
      subst hi
      refine op_call (o := ⟨some 21, _, _, _, _, _⟩) 9 #[.agg KV.toArray, .agg NV.toArray, .int .u32 ((c : Nat) : Int), .slice (some ⟨gz15, 0, none⟩) n n] rfl rfl (by kernel_rfl) (((xor_two HT.out c HC.out n n (some ⟨gz15, 0, none⟩) (List.replicate n 0) HN.out z15 (row_of_blk Fz15.out.2.2.2.2 (by simp) (by have := HN.out; omega) (by simp)))).mono fun e z18 ⟨goz18, he, qz18, lz18, rz18⟩ => ⟨.slice (some ⟨goz18, 0, none⟩) n n, he, ?_⟩)
      simp only [Act.put, List.setIfInBounds_toArray, List.set_cons_zero, List.set_cons_succ]
      have Fz18 := Lib.hid (show Below g0 w z18 ∧ Blk z18 g0 23 KV.toArray ∧ Blk z18 g1 28 NV.toArray ∧ (True ∧ Blk z18 gz15 5 (ub (List.replicate n 0)).toArray) ∧ (g0 ≤ goz18 ∧ Blk z18 goz18 5 (ub (strm ks c n)).toArray) from ⟨Fz15.out.1.trans (qz18.mono (by have h1 := Fz15.out.1.size; have h2 := G0.out; omega)), Fz15.out.2.1.below qz18, Fz15.out.2.2.1.below qz18, ⟨Fz15.out.2.2.2.1, Fz15.out.2.2.2.2.below qz18⟩, ⟨Nat.le_trans (Nat.le_trans (Nat.le_of_eq G0.out.symm) Fz15.out.1.size) lz18, by rw [← xorV_zero HT.out c n n]; exact rz18⟩⟩)
      clear qz18
      refine wpAny_take (i := 6) (oi := ⟨some 8, _, _, _, _, _⟩) (v := (.slice (some ⟨goz18, 0, none⟩) n n)) rfl (by kernel_rfl) (by kernel_rfl) (by kernel_rfl) (fun _ _ _ h => h) (Or.inl ⟨rfl, fun w => by kernel_rfl⟩) ?_
      simp only [Act.put, List.setIfInBounds_toArray, List.set_cons_zero, List.set_cons_succ]
      refine wpAny_take (i := 7) (oi := ⟨some 9, _, _, _, _, _⟩) (v := (.int .i64 0)) rfl (by kernel_rfl) (by kernel_rfl) (by kernel_rfl) (fun _ _ _ h => h) (Or.inl ⟨rfl, fun w => by kernel_rfl⟩) ?_
      simp only [Act.put, List.setIfInBounds_toArray, List.set_cons_zero, List.set_cons_succ]
      refine wpAny_done (by kernel_rfl) ?_ _
      go_wp2_with fail
      go_ret2
      exact ⟨_, rfl, by rw [G0.out]; exact Fz18.out.1, by rw [G0.out]; exact Fz18.out.2.2.2.2.1, Fz18.out.2.2.2.2.2⟩
    · refine op_val (o := ⟨some 17, _, _, _, _, _⟩) (.agg NV.toArray) rfl rfl (run_load_mid _ _ _ 28 _ rfl g1 0 rfl NV _ (blk_rangeC (Fz15.out.2.2.1)) Try.underlying28 rfl (by rw [HT.out.2.2.2.2]; kernel_rfl)) ?_
      simp only [Act.put, List.setIfInBounds_toArray, List.set_cons_zero, List.set_cons_succ]
      refine wpAny_all (rs := [0]) (by kernel_rfl) (by simp) ?_
      intro i hi
      simp only [List.mem_cons, List.not_mem_nil, or_false] at hi
      subst hi
      refine op_val (o := ⟨some 16, _, _, _, _, _⟩) (.agg KV.toArray) rfl rfl (run_load_mid _ _ _ 23 _ rfl g0 0 rfl KV _ (blk_rangeC (Fz15.out.2.1)) Try.underlying23 rfl (by rw [HT.out.2.2.2.1]; kernel_rfl)) ?_
      simp only [Act.put, List.setIfInBounds_toArray, List.set_cons_zero, List.set_cons_succ]
      refine wpAny_all (rs := [5]) (by kernel_rfl) (by simp) ?_
      intro i hi
      simp only [List.mem_cons, List.not_mem_nil, or_false] at hi
      subst hi
      refine op_call (o := ⟨some 21, _, _, _, _, _⟩) 9 #[.agg KV.toArray, .agg NV.toArray, .int .u32 ((c : Nat) : Int), .slice (some ⟨gz15, 0, none⟩) n n] rfl rfl (by kernel_rfl) (((xor_two HT.out c HC.out n n (some ⟨gz15, 0, none⟩) (List.replicate n 0) HN.out z15 (row_of_blk Fz15.out.2.2.2.2 (by simp) (by have := HN.out; omega) (by simp)))).mono fun e z21 ⟨goz21, he, qz21, lz21, rz21⟩ => ⟨.slice (some ⟨goz21, 0, none⟩) n n, he, ?_⟩)
      simp only [Act.put, List.setIfInBounds_toArray, List.set_cons_zero, List.set_cons_succ]
      have Fz21 := Lib.hid (show Below g0 w z21 ∧ Blk z21 g0 23 KV.toArray ∧ Blk z21 g1 28 NV.toArray ∧ (True ∧ Blk z21 gz15 5 (ub (List.replicate n 0)).toArray) ∧ (g0 ≤ goz21 ∧ Blk z21 goz21 5 (ub (strm ks c n)).toArray) from ⟨Fz15.out.1.trans (qz21.mono (by have h1 := Fz15.out.1.size; have h2 := G0.out; omega)), Fz15.out.2.1.below qz21, Fz15.out.2.2.1.below qz21, ⟨Fz15.out.2.2.2.1, Fz15.out.2.2.2.2.below qz21⟩, ⟨Nat.le_trans (Nat.le_trans (Nat.le_of_eq G0.out.symm) Fz15.out.1.size) lz21, by rw [← xorV_zero HT.out c n n]; exact rz21⟩⟩)
      clear qz21
      refine wpAny_take (i := 6) (oi := ⟨some 8, _, _, _, _, _⟩) (v := (.slice (some ⟨goz21, 0, none⟩) n n)) rfl (by kernel_rfl) (by kernel_rfl) (by kernel_rfl) (fun _ _ _ h => h) (Or.inl ⟨rfl, fun w => by kernel_rfl⟩) ?_
      simp only [Act.put, List.setIfInBounds_toArray, List.set_cons_zero, List.set_cons_succ]
      refine wpAny_take (i := 7) (oi := ⟨some 9, _, _, _, _, _⟩) (v := (.int .i64 0)) rfl (by kernel_rfl) (by kernel_rfl) (by kernel_rfl) (fun _ _ _ h => h) (Or.inl ⟨rfl, fun w => by kernel_rfl⟩) ?_
      simp only [Act.put, List.setIfInBounds_toArray, List.set_cons_zero, List.set_cons_succ]
      refine wpAny_done (by kernel_rfl) ?_ _
      go_wp2_with fail
      go_ret2
      exact ⟨_, rfl, by rw [G0.out]; exact Fz21.out.1, by rw [G0.out]; exact Fz21.out.2.2.2.2.1, Fz21.out.2.2.2.2.2⟩
set_option maxHeartbeats 4000000 in
set_option maxRecDepth 100000 in
theorem stream_bad (KV NV : List Value) (c : Int) (n : Int) (hn : n < 0 ∨ 65536 < n) (w : World) :
    Calls Try.prog 10 #[.agg KV.toArray, .agg NV.toArray, .int .u32 c, .int .i64 n] w fun e w' => e = .returned (.tuple #[.slice none 0 0, .int .i64 1]) ∧ Below w.heap.size w w' := by
  go_enter Try.func10, Try.ntmps10
  go_upto_region 1 with (fail)
  refine wp_region_lit ?_
  refine wpL_pure (.int .i64 n) rfl (by kernel_rfl) ?_
  simp only [Act.put, List.setIfInBounds_toArray, List.set_cons_zero, List.set_cons_succ]
  by_cases h0 : n < 0
  · refine wpL_pure (.bool true) rfl (run_lti Try.underlying3 rfl rfl rfl (by rw [decide_eq_true_eq]; omega)) ?_
    simp only [Act.put, List.setIfInBounds_toArray, List.set_cons_zero, List.set_cons_succ]
    refine wpL_pure (.bool true) rfl (by kernel_rfl) ?_
    simp only [Act.put, List.setIfInBounds_toArray, List.set_cons_zero, List.set_cons_succ]
    refine wpL_skip (by kernel_rfl) ?_
    simp only [Act.put, List.setIfInBounds_toArray, List.set_cons_zero, List.set_cons_succ]
    refine wpL_skip (by kernel_rfl) ?_
    simp only [Act.put, List.setIfInBounds_toArray, List.set_cons_zero, List.set_cons_succ]
    refine wpL_pure (.bool true) rfl (by kernel_rfl) ?_
    simp only [Act.put, List.setIfInBounds_toArray, List.set_cons_zero, List.set_cons_succ]
    unfold wpList
    go_wp2_with fail
    go_ret2
    exact ⟨rfl, ((Below.refl _ _).alloc (Nat.le_refl _) _).alloc (by simp) _⟩
  · refine wpL_pure (.bool false) rfl (run_lti Try.underlying3 rfl rfl rfl (by rw [decide_eq_false_iff_not]; omega)) ?_
    simp only [Act.put, List.setIfInBounds_toArray, List.set_cons_zero, List.set_cons_succ]
    refine wpL_pure (.bool false) rfl (by kernel_rfl) ?_
    simp only [Act.put, List.setIfInBounds_toArray, List.set_cons_zero, List.set_cons_succ]
    refine wpL_pure (.int .i64 n) rfl (by kernel_rfl) ?_
    simp only [Act.put, List.setIfInBounds_toArray, List.set_cons_zero, List.set_cons_succ]
    refine wpL_pure (.bool true) rfl (run_gti Try.underlying3 rfl rfl rfl (by rw [decide_eq_true_eq]; omega)) ?_
    simp only [Act.put, List.setIfInBounds_toArray, List.set_cons_zero, List.set_cons_succ]
    refine wpL_pure (.bool true) rfl (by kernel_rfl) ?_
    simp only [Act.put, List.setIfInBounds_toArray, List.set_cons_zero, List.set_cons_succ]
    unfold wpList
    go_wp2_with fail
    go_ret2
    exact ⟨rfl, ((Below.refl _ _).alloc (Nat.le_refl _) _).alloc (by simp) _⟩
end Go.Proofs.Ytdoikjjkcehpbaa.B
