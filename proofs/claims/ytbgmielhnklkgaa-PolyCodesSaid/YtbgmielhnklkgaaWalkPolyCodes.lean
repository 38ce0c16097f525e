import Derived.Test.YtbgmielhnklkgaaR6
namespace Go.Proofs.Ytbgmielhnklkgaa
open Go Go.RowKit

attribute [local irreducible] wpList
set_option maxRecDepth 100000 in
set_option maxHeartbeats 8000000 in
theorem walkPolyCodes (key : List Int) (a : Option Addr) (n c : Nat) (z : List Int) (lx : key.length = 32) (wx : ∀ x ∈ key, (Lit.int .u8 x).wf = true) (w : World) (h : IsRow .u8 w a n c z) :
    Calls Try.prog 4 #[.agg (u8l key).toArray, .slice a n c] w fun e w' => e = .returned (.bool true) ∧ Below w.heap.size w w' := by
  have hs := sl_of h
  obtain ⟨t, ht⟩ : ∃ t, z.take n = t := ⟨_, rfl⟩
  rw [ht] at hs
  have HKY := Lib.hid (And.intro lx (u8_bounds wx))
  have HS := Lib.hid hs
  clear h lx wx hs ht
  go_enter Try.func4, Try.ntmps4
  obtain ⟨w1, hw1⟩ : ∃ V, V = w.alloc (.cells (u8l key).toArray 23) := ⟨_, rfl⟩
  have B1 : Hid (Below w.heap.size w w1 ∧ Blk w1 w.heap.size 23 (u8l key).toArray) := Lib.hid (by rw [hw1]; exact ⟨(Below.refl _ _).alloc (Nat.le_refl _) _, Blk.new _ _ _⟩)
  have HW1 := Lib.hid hw1
  clear hw1
  go_upto_region 0 with (fail)
  refine wp_region_lit ?_
  refine wpL_value (.pointer (some ⟨w.heap.size, 0, none⟩)) (w1) rfl (run_box23 _ _ _ _ _ key rfl rfl HKY.out.1 HW1.out) ?_
  simp only [Act.put, List.setIfInBounds_toArray, List.set_cons_zero, List.set_cons_succ]
  refine wpL_pure (.bool false) rfl (by kernel_rfl) ?_
  simp only [Act.put, List.setIfInBounds_toArray, List.set_cons_zero, List.set_cons_succ]
  clear HW1
  obtain ⟨g2, hg2⟩ : ∃ q, w.heap.size = q := ⟨_, rfl⟩
  have G2 := Lib.hid hg2
  rw [hg2] at B1
  try rw [hg2]
  clear hg2
  have F0 : Hid (Below g2 w w1.drew ∧ Blk w1.drew g2 23 (u8l key).toArray) := Lib.hid ⟨B1.out.1.drew, B1.out.2⟩
  clear B1
  by_cases hn : 400 < n
  · have HN := Lib.hid hn
    clear hn
    go_upto_region 1 with (fail)
    refine region_any (by kernel_rfl) 17 rfl ?_
    refine wpAny_all (rs := [0]) (by kernel_rfl) (by simp) ?_
    intro i hi
    simp only [List.mem_cons, List.not_mem_nil, or_false] at hi
    subst hi
    refine op_call (o := ⟨some 5, _, _, _, _, _⟩) 9 #[] rfl rfl (by kernel_rfl) (((awake_any w1.drew)).mono fun e z1 ⟨he, qz1⟩ => ⟨.bool true, he, ?_⟩)
    simp only [Act.put, List.setIfInBounds_toArray, List.set_cons_zero, List.set_cons_succ]
    have Fz1 := Lib.hid (show Below g2 w z1 ∧ Blk z1 g2 23 (u8l key).toArray from ⟨F0.out.1.trans (qz1.mono (by have h1 := F0.out.1.size; have h2 := G2.out; omega)), F0.out.2.below qz1⟩)
    clear qz1
    refine wpAny_take (i := 1) (oi := ⟨some 6, _, _, _, _, _⟩) (v := (.bool true)) rfl (by kernel_rfl) (by kernel_rfl) (by kernel_rfl) (fun _ _ _ h => h) (Or.inl ⟨rfl, fun w => by kernel_rfl⟩) ?_
    simp only [Act.put, List.setIfInBounds_toArray, List.set_cons_zero, List.set_cons_succ]
    refine wpAny_take (i := 2) (oi := ⟨some 7, _, _, _, _, _⟩) (v := (.slice a n c)) rfl (by kernel_rfl) (by kernel_rfl) (by kernel_rfl) (fun _ _ _ h => h) (Or.inl ⟨rfl, fun w => by kernel_rfl⟩) ?_
    simp only [Act.put, List.setIfInBounds_toArray, List.set_cons_zero, List.set_cons_succ]
    refine wpAny_take (i := 3) (oi := ⟨some 8, _, _, _, _, _⟩) (v := (.int .i64 (n : Int))) rfl (by kernel_rfl) (by kernel_rfl) (by kernel_rfl) (fun _ _ _ h => h) (Or.inl ⟨rfl, fun w => by kernel_rfl⟩) ?_
    simp only [Act.put, List.setIfInBounds_toArray, List.set_cons_zero, List.set_cons_succ]
    refine wpAny_take (i := 4) (oi := ⟨some 9, _, _, _, _, _⟩) (v := (.bool true)) rfl (by kernel_rfl) (by kernel_rfl) (by kernel_rfl) (fun _ _ _ h => h) (Or.inl ⟨rfl, fun w => run_gti Try.underlying3 rfl rfl rfl (by have := HN.out; rw [decide_eq_true_eq]; omega)⟩) ?_
    simp only [Act.put, List.setIfInBounds_toArray, List.set_cons_zero, List.set_cons_succ]
    refine wpAny_take (i := 5) (oi := ⟨some 10, _, _, _, _, _⟩) (v := (.bool true)) rfl (by kernel_rfl) (by kernel_rfl) (by kernel_rfl) (fun _ _ _ h => h) (Or.inl ⟨rfl, fun w => by kernel_rfl⟩) ?_
    simp only [Act.put, List.setIfInBounds_toArray, List.set_cons_zero, List.set_cons_succ]
    refine wpAny_take (i := 6) (oi := ⟨some 11, _, _, _, _, _⟩) (v := undef) rfl (by kernel_rfl) (by kernel_rfl) (by kernel_rfl) (fun _ _ _ h => h) (Or.inr ⟨rfl, rfl⟩) ?_
    simp only [Act.put, List.setIfInBounds_toArray, List.set_cons_zero, List.set_cons_succ]
    refine wpAny_take (i := 7) (oi := ⟨some 12, _, _, _, _, _⟩) (v := undef) rfl (by kernel_rfl) (by kernel_rfl) (by kernel_rfl) (fun _ _ _ h => h) (Or.inr ⟨rfl, rfl⟩) ?_
    simp only [Act.put, List.setIfInBounds_toArray, List.set_cons_zero, List.set_cons_succ]
    refine wpAny_take (i := 8) (oi := ⟨some 13, _, _, _, _, _⟩) (v := undef) rfl (by kernel_rfl) (by kernel_rfl) (by kernel_rfl) (fun _ _ _ h => h) (Or.inr ⟨rfl, rfl⟩) ?_
    simp only [Act.put, List.setIfInBounds_toArray, List.set_cons_zero, List.set_cons_succ]
    refine wpAny_take (i := 9) (oi := ⟨some 14, _, _, _, _, _⟩) (v := undef) rfl (by kernel_rfl) (by kernel_rfl) (by kernel_rfl) (fun _ _ _ h => h) (Or.inr ⟨rfl, rfl⟩) ?_
    simp only [Act.put, List.setIfInBounds_toArray, List.set_cons_zero, List.set_cons_succ]
    refine wpAny_take (i := 10) (oi := ⟨some 15, _, _, _, _, _⟩) (v := undef) rfl (by kernel_rfl) (by kernel_rfl) (by kernel_rfl) (fun _ _ _ h => h) (Or.inr ⟨rfl, rfl⟩) ?_
    simp only [Act.put, List.setIfInBounds_toArray, List.set_cons_zero, List.set_cons_succ]
    refine wpAny_take (i := 11) (oi := ⟨some 16, _, _, _, _, _⟩) (v := undef) rfl (by kernel_rfl) (by kernel_rfl) (by kernel_rfl) (fun _ _ _ h => h) (Or.inr ⟨rfl, rfl⟩) ?_
    simp only [Act.put, List.setIfInBounds_toArray, List.set_cons_zero, List.set_cons_succ]
    refine wpAny_take (i := 12) (oi := ⟨some 17, _, _, _, _, _⟩) (v := undef) rfl (by kernel_rfl) (by kernel_rfl) (by kernel_rfl) (fun _ _ _ h => h) (Or.inr ⟨rfl, rfl⟩) ?_
    simp only [Act.put, List.setIfInBounds_toArray, List.set_cons_zero, List.set_cons_succ]
    refine wpAny_take (i := 13) (oi := ⟨some 18, _, _, _, _, _⟩) (v := undef) rfl (by kernel_rfl) (by kernel_rfl) (by kernel_rfl) (fun _ _ _ h => h) (Or.inr ⟨rfl, rfl⟩) ?_
    simp only [Act.put, List.setIfInBounds_toArray, List.set_cons_zero, List.set_cons_succ]
    refine wpAny_take (i := 14) (oi := ⟨some 19, _, _, _, _, _⟩) (v := (.bool true)) rfl (by kernel_rfl) (by kernel_rfl) (by kernel_rfl) (fun _ _ _ h => h) (Or.inl ⟨rfl, fun w => by kernel_rfl⟩) ?_
    simp only [Act.put, List.setIfInBounds_toArray, List.set_cons_zero, List.set_cons_succ]
    refine wpAny_take (i := 15) (oi := ⟨some 20, _, _, _, _, _⟩) (v := (.bool true)) rfl (by kernel_rfl) (by kernel_rfl) (by kernel_rfl) (fun _ _ _ h => h) (Or.inl ⟨rfl, fun w => by kernel_rfl⟩) ?_
    simp only [Act.put, List.setIfInBounds_toArray, List.set_cons_zero, List.set_cons_succ]
    refine wpAny_take (i := 16) (oi := ⟨some 4, _, _, _, _, _⟩) (v := (.bool true)) rfl (by kernel_rfl) (by kernel_rfl) (by kernel_rfl) (fun _ _ _ h => h) (Or.inl ⟨rfl, fun w => by kernel_rfl⟩) ?_
    simp only [Act.put, List.setIfInBounds_toArray, List.set_cons_zero, List.set_cons_succ]
    refine wpAny_done (by kernel_rfl) ?_ _
    go_wp2_with fail
    go_ret
    exact ⟨rfl, by rw [G2.out]; exact Fz1.out.1⟩
  · have HN := Lib.hid hn
    clear hn
    go_upto_region 1 with (fail)
    refine region_any (by kernel_rfl) 17 rfl ?_
    refine wpAny_all (rs := [0]) (by kernel_rfl) (by simp) ?_
    intro i hi
    simp only [List.mem_cons, List.not_mem_nil, or_false] at hi
    subst hi
    refine op_call (o := ⟨some 5, _, _, _, _, _⟩) 9 #[] rfl rfl (by kernel_rfl) (((awake_any w1.drew)).mono fun e z1 ⟨he, qz1⟩ => ⟨.bool true, he, ?_⟩)
    simp only [Act.put, List.setIfInBounds_toArray, List.set_cons_zero, List.set_cons_succ]
    have Fz1 := Lib.hid (show Below g2 w z1 ∧ Blk z1 g2 23 (u8l key).toArray from ⟨F0.out.1.trans (qz1.mono (by have h1 := F0.out.1.size; have h2 := G2.out; omega)), F0.out.2.below qz1⟩)
    clear qz1
    refine wpAny_take (i := 1) (oi := ⟨some 6, _, _, _, _, _⟩) (v := (.bool true)) rfl (by kernel_rfl) (by kernel_rfl) (by kernel_rfl) (fun _ _ _ h => h) (Or.inl ⟨rfl, fun w => by kernel_rfl⟩) ?_
    simp only [Act.put, List.setIfInBounds_toArray, List.set_cons_zero, List.set_cons_succ]
    refine wpAny_take (i := 2) (oi := ⟨some 7, _, _, _, _, _⟩) (v := (.slice a n c)) rfl (by kernel_rfl) (by kernel_rfl) (by kernel_rfl) (fun _ _ _ h => h) (Or.inl ⟨rfl, fun w => by kernel_rfl⟩) ?_
    simp only [Act.put, List.setIfInBounds_toArray, List.set_cons_zero, List.set_cons_succ]
    refine wpAny_take (i := 3) (oi := ⟨some 8, _, _, _, _, _⟩) (v := (.int .i64 (n : Int))) rfl (by kernel_rfl) (by kernel_rfl) (by kernel_rfl) (fun _ _ _ h => h) (Or.inl ⟨rfl, fun w => by kernel_rfl⟩) ?_
    simp only [Act.put, List.setIfInBounds_toArray, List.set_cons_zero, List.set_cons_succ]
    refine wpAny_take (i := 4) (oi := ⟨some 9, _, _, _, _, _⟩) (v := (.bool false)) rfl (by kernel_rfl) (by kernel_rfl) (by kernel_rfl) (fun _ _ _ h => h) (Or.inl ⟨rfl, fun w => run_gti Try.underlying3 rfl rfl rfl (by have := HN.out; rw [decide_eq_false_iff_not]; omega)⟩) ?_
    simp only [Act.put, List.setIfInBounds_toArray, List.set_cons_zero, List.set_cons_succ]
    refine wpAny_take (i := 5) (oi := ⟨some 10, _, _, _, _, _⟩) (v := (.bool false)) rfl (by kernel_rfl) (by kernel_rfl) (by kernel_rfl) (fun _ _ _ h => h) (Or.inl ⟨rfl, fun w => by kernel_rfl⟩) ?_
    simp only [Act.put, List.setIfInBounds_toArray, List.set_cons_zero, List.set_cons_succ]
    refine wpAny_take (i := 7) (oi := ⟨some 12, _, _, _, _, _⟩) (v := (.slice a n c)) rfl (by kernel_rfl) (by kernel_rfl) (by kernel_rfl) (fun _ _ _ h => h) (Or.inl ⟨rfl, fun w => by kernel_rfl⟩) ?_
    simp only [Act.put, List.setIfInBounds_toArray, List.set_cons_zero, List.set_cons_succ]
    refine wpAny_take (i := 11) (oi := ⟨some 16, _, _, _, _, _⟩) (v := (.slice a n c)) rfl (by kernel_rfl) (by kernel_rfl) (by kernel_rfl) (fun _ _ _ h => h) (Or.inl ⟨rfl, fun w => by kernel_rfl⟩) ?_
    simp only [Act.put, List.setIfInBounds_toArray, List.set_cons_zero, List.set_cons_succ]
    refine wpAny_all (rs := [6, 8, 10]) (by kernel_rfl) (by simp) ?_
    intro i hi
    simp only [List.mem_cons, List.not_mem_nil, or_false] at hi
    rcases hi with rfl | rfl | rfl
    · refine op_val (o := ⟨some 11, _, _, _, _, _⟩) (.agg (u8l key).toArray) rfl rfl (run_load_mid _ _ _ 23 _ rfl g2 0 rfl (u8l key) _ (range_blk (Fz1.out.2)) Try.underlying23 rfl (by rw [u8l_len, HKY.out.1]; kernel_rfl)) ?_
      simp only [Act.put, List.setIfInBounds_toArray, List.set_cons_zero, List.set_cons_succ]
      refine wpAny_all (rs := [8, 10]) (by kernel_rfl) (by simp) ?_
      intro i hi
      simp only [List.mem_cons, List.not_mem_nil, or_false] at hi
      rcases hi with rfl | rfl
      · obtain ⟨z3, hz3⟩ : ∃ V, V = z1.alloc (.cells #[.slice a n c] 24) := ⟨_, rfl⟩
        obtain ⟨gz3, kz3⟩ : ∃ q, z1.heap.size = q := ⟨_, rfl⟩
        have qz3 : Below z1.heap.size z1 z3 := by rw [hz3]; exact (Below.refl _ _).alloc (Nat.le_refl _) _
        have bz3 : Blk z3 gz3 24 #[.slice a n c] := by rw [hz3, ← kz3]; exact Blk.new _ _ _
        have Fz30 := Lib.hid (show Below g2 w z3 ∧ Blk z3 g2 23 (u8l key).toArray from ⟨Fz1.out.1.trans (qz3.mono (by have h1 := Fz1.out.1.size; have h2 := G2.out; omega)), Fz1.out.2.below qz3⟩)
        have Fz3 := Lib.hid (show Below g2 w z3 ∧ Blk z3 g2 23 (u8l key).toArray ∧ PSl z3 (some ⟨gz3, 0, none⟩) 1 [t] from ⟨Fz30.out.1, Fz30.out.2, psl_one bz3 (HS.out.below (below_eq Fz30.out.1 G2.out)) (by have := HN.out; omega)⟩)
        clear qz3 bz3 Fz30
        refine op_valw (o := ⟨some 13, _, _, _, _, _⟩) (.slice (some ⟨gz3, 0, none⟩) 1 1) z3 rfl rfl (by rw [hz3, ← kz3]; kernel_rfl) ?_
        simp only [Act.put, List.setIfInBounds_toArray, List.set_cons_zero, List.set_cons_succ]
        clear hz3 kz3
        refine wpAny_all (rs := [9, 10]) (by kernel_rfl) (by simp) ?_
        intro i hi
        simp only [List.mem_cons, List.not_mem_nil, or_false] at hi
        rcases hi with rfl | rfl
        · refine op_call (o := ⟨some 14, _, _, _, _, _⟩) 10 #[.agg (u8l key).toArray, .slice (some ⟨gz3, 0, none⟩) 1 1] rfl rfl (by kernel_rfl) (((code_flat z3 key gz3 1 [t] (t) HKY.out Fz3.out.2.2 (by omega) (by simp))).mono fun e z4 ⟨he, qz4⟩ => ⟨.agg (u8l (codeS key t)).toArray, he, ?_⟩)
          simp only [Act.put, List.setIfInBounds_toArray, List.set_cons_zero, List.set_cons_succ]
          have Fz4 := Lib.hid (show Below g2 w z4 ∧ Blk z4 g2 23 (u8l key).toArray ∧ PSl z4 (some ⟨gz3, 0, none⟩) 1 [t] from ⟨Fz3.out.1.trans (qz4.mono (by have h1 := Fz3.out.1.size; have h2 := G2.out; omega)), Fz3.out.2.1.below qz4, Fz3.out.2.2.below qz4⟩)
          clear qz4
          refine wpAny_all (rs := [10]) (by kernel_rfl) (by simp) ?_
          intro i hi
          simp only [List.mem_cons, List.not_mem_nil, or_false] at hi
          subst hi
          refine op_val (o := ⟨some 15, _, _, _, _, _⟩) (.agg (u8l key).toArray) rfl rfl (run_load_mid _ _ _ 23 _ rfl g2 0 rfl (u8l key) _ (range_blk (Fz4.out.2.1)) Try.underlying23 rfl (by rw [u8l_len, HKY.out.1]; kernel_rfl)) ?_
          simp only [Act.put, List.setIfInBounds_toArray, List.set_cons_zero, List.set_cons_succ]
          refine wpAny_all (rs := [12]) (by kernel_rfl) (by simp) ?_
          intro i hi
          simp only [List.mem_cons, List.not_mem_nil, or_false] at hi
          subst hi
          refine op_call (o := ⟨some 17, _, _, _, _, _⟩) 11 #[.agg (u8l key).toArray, .slice a n c] rfl rfl (by kernel_rfl) (((refcode_any z4 key _ _ _ t HKY.out (HS.out.below (below_eq Fz4.out.1 G2.out)) (by have := HN.out; omega))).mono fun e z6 ⟨he, qz6⟩ => ⟨.agg (u8l (codeS key t)).toArray, he, ?_⟩)
          simp only [Act.put, List.setIfInBounds_toArray, List.set_cons_zero, List.set_cons_succ]
          have Fz6 := Lib.hid (show Below g2 w z6 ∧ Blk z6 g2 23 (u8l key).toArray ∧ PSl z6 (some ⟨gz3, 0, none⟩) 1 [t] from ⟨Fz4.out.1.trans (qz6.mono (by have h1 := Fz4.out.1.size; have h2 := G2.out; omega)), Fz4.out.2.1.below qz6, Fz4.out.2.2.below qz6⟩)
          clear qz6
          refine wpAny_take (i := 13) (oi := ⟨some 18, _, _, _, _, _⟩) (v := (.bool true)) rfl (by kernel_rfl) (by kernel_rfl) (by kernel_rfl) (fun _ _ _ h => h) (Or.inl ⟨rfl, fun w => run_eq26 _ _ _ _ _ (codeS key t) (codeS_len _ _) rfl rfl rfl⟩) ?_
          simp only [Act.put, List.setIfInBounds_toArray, List.set_cons_zero, List.set_cons_succ]
          refine wpAny_take (i := 14) (oi := ⟨some 19, _, _, _, _, _⟩) (v := (.bool true)) rfl (by kernel_rfl) (by kernel_rfl) (by kernel_rfl) (fun _ _ _ h => h) (Or.inl ⟨rfl, fun w => by kernel_rfl⟩) ?_
          simp only [Act.put, List.setIfInBounds_toArray, List.set_cons_zero, List.set_cons_succ]
          refine wpAny_take (i := 15) (oi := ⟨some 20, _, _, _, _, _⟩) (v := (.bool true)) rfl (by kernel_rfl) (by kernel_rfl) (by kernel_rfl) (fun _ _ _ h => h) (Or.inl ⟨rfl, fun w => by kernel_rfl⟩) ?_
          simp only [Act.put, List.setIfInBounds_toArray, List.set_cons_zero, List.set_cons_succ]
          refine wpAny_take (i := 16) (oi := ⟨some 4, _, _, _, _, _⟩) (v := (.bool true)) rfl (by kernel_rfl) (by kernel_rfl) (by kernel_rfl) (fun _ _ _ h => h) (Or.inl ⟨rfl, fun w => by kernel_rfl⟩) ?_
          simp only [Act.put, List.setIfInBounds_toArray, List.set_cons_zero, List.set_cons_succ]
          refine wpAny_done (by kernel_rfl) ?_ _
          go_wp2_with fail
          go_ret
          exact ⟨rfl, by rw [G2.out]; exact Fz6.out.1⟩
        · refine op_val (o := ⟨some 15, _, _, _, _, _⟩) (.agg (u8l key).toArray) rfl rfl (run_load_mid _ _ _ 23 _ rfl g2 0 rfl (u8l key) _ (range_blk (Fz3.out.2.1)) Try.underlying23 rfl (by rw [u8l_len, HKY.out.1]; kernel_rfl)) ?_
          simp only [Act.put, List.setIfInBounds_toArray, List.set_cons_zero, List.set_cons_succ]
          refine wpAny_all (rs := [9]) (by kernel_rfl) (by simp) ?_
          intro i hi
          simp only [List.mem_cons, List.not_mem_nil, or_false] at hi
          subst hi
          refine op_call (o := ⟨some 14, _, _, _, _, _⟩) 10 #[.agg (u8l key).toArray, .slice (some ⟨gz3, 0, none⟩) 1 1] rfl rfl (by kernel_rfl) (((code_flat z3 key gz3 1 [t] (t) HKY.out Fz3.out.2.2 (by omega) (by simp))).mono fun e z8 ⟨he, qz8⟩ => ⟨.agg (u8l (codeS key t)).toArray, he, ?_⟩)
          simp only [Act.put, List.setIfInBounds_toArray, List.set_cons_zero, List.set_cons_succ]
          have Fz8 := Lib.hid (show Below g2 w z8 ∧ Blk z8 g2 23 (u8l key).toArray ∧ PSl z8 (some ⟨gz3, 0, none⟩) 1 [t] from ⟨Fz3.out.1.trans (qz8.mono (by have h1 := Fz3.out.1.size; have h2 := G2.out; omega)), Fz3.out.2.1.below qz8, Fz3.out.2.2.below qz8⟩)
          clear qz8
          refine wpAny_all (rs := [12]) (by kernel_rfl) (by simp) ?_
          intro i hi
          simp only [List.mem_cons, List.not_mem_nil, or_false] at hi
          subst hi
          refine op_call (o := ⟨some 17, _, _, _, _, _⟩) 11 #[.agg (u8l key).toArray, .slice a n c] rfl rfl (by kernel_rfl) (((refcode_any z8 key _ _ _ t HKY.out (HS.out.below (below_eq Fz8.out.1 G2.out)) (by have := HN.out; omega))).mono fun e z9 ⟨he, qz9⟩ => ⟨.agg (u8l (codeS key t)).toArray, he, ?_⟩)
          simp only [Act.put, List.setIfInBounds_toArray, List.set_cons_zero, List.set_cons_succ]
          have Fz9 := Lib.hid (show Below g2 w z9 ∧ Blk z9 g2 23 (u8l key).toArray ∧ PSl z9 (some ⟨gz3, 0, none⟩) 1 [t] from ⟨Fz8.out.1.trans (qz9.mono (by have h1 := Fz8.out.1.size; have h2 := G2.out; omega)), Fz8.out.2.1.below qz9, Fz8.out.2.2.below qz9⟩)
          clear qz9
          refine wpAny_take (i := 13) (oi := ⟨some 18, _, _, _, _, _⟩) (v := (.bool true)) rfl (by kernel_rfl) (by kernel_rfl) (by kernel_rfl) (fun _ _ _ h => h) (Or.inl ⟨rfl, fun w => run_eq26 _ _ _ _ _ (codeS key t) (codeS_len _ _) rfl rfl rfl⟩) ?_
          simp only [Act.put, List.setIfInBounds_toArray, List.set_cons_zero, List.set_cons_succ]
          refine wpAny_take (i := 14) (oi := ⟨some 19, _, _, _, _, _⟩) (v := (.bool true)) rfl (by kernel_rfl) (by kernel_rfl) (by kernel_rfl) (fun _ _ _ h => h) (Or.inl ⟨rfl, fun w => by kernel_rfl⟩) ?_
          simp only [Act.put, List.setIfInBounds_toArray, List.set_cons_zero, List.set_cons_succ]
          refine wpAny_take (i := 15) (oi := ⟨some 20, _, _, _, _, _⟩) (v := (.bool true)) rfl (by kernel_rfl) (by kernel_rfl) (by kernel_rfl) (fun _ _ _ h => h) (Or.inl ⟨rfl, fun w => by kernel_rfl⟩) ?_
          simp only [Act.put, List.setIfInBounds_toArray, List.set_cons_zero, List.set_cons_succ]
          refine wpAny_take (i := 16) (oi := ⟨some 4, _, _, _, _, _⟩) (v := (.bool true)) rfl (by kernel_rfl) (by kernel_rfl) (by kernel_rfl) (fun _ _ _ h => h) (Or.inl ⟨rfl, fun w => by kernel_rfl⟩) ?_
          simp only [Act.put, List.setIfInBounds_toArray, List.set_cons_zero, List.set_cons_succ]
          refine wpAny_done (by kernel_rfl) ?_ _
          go_wp2_with fail
          go_ret
          exact ⟨rfl, by rw [G2.out]; exact Fz9.out.1⟩
      · refine op_val (o := ⟨some 15, _, _, _, _, _⟩) (.agg (u8l key).toArray) rfl rfl (run_load_mid _ _ _ 23 _ rfl g2 0 rfl (u8l key) _ (range_blk (Fz1.out.2)) Try.underlying23 rfl (by rw [u8l_len, HKY.out.1]; kernel_rfl)) ?_
        simp only [Act.put, List.setIfInBounds_toArray, List.set_cons_zero, List.set_cons_succ]
        refine wpAny_all (rs := [8]) (by kernel_rfl) (by simp) ?_
        intro i hi
        simp only [List.mem_cons, List.not_mem_nil, or_false] at hi
        subst hi
        obtain ⟨z11, hz11⟩ : ∃ V, V = z1.alloc (.cells #[.slice a n c] 24) := ⟨_, rfl⟩
        obtain ⟨gz11, kz11⟩ : ∃ q, z1.heap.size = q := ⟨_, rfl⟩
        have qz11 : Below z1.heap.size z1 z11 := by rw [hz11]; exact (Below.refl _ _).alloc (Nat.le_refl _) _
        have bz11 : Blk z11 gz11 24 #[.slice a n c] := by rw [hz11, ← kz11]; exact Blk.new _ _ _
        have Fz110 := Lib.hid (show Below g2 w z11 ∧ Blk z11 g2 23 (u8l key).toArray from ⟨Fz1.out.1.trans (qz11.mono (by have h1 := Fz1.out.1.size; have h2 := G2.out; omega)), Fz1.out.2.below qz11⟩)
        have Fz11 := Lib.hid (show Below g2 w z11 ∧ Blk z11 g2 23 (u8l key).toArray ∧ PSl z11 (some ⟨gz11, 0, none⟩) 1 [t] from ⟨Fz110.out.1, Fz110.out.2, psl_one bz11 (HS.out.below (below_eq Fz110.out.1 G2.out)) (by have := HN.out; omega)⟩)
        clear qz11 bz11 Fz110
        refine op_valw (o := ⟨some 13, _, _, _, _, _⟩) (.slice (some ⟨gz11, 0, none⟩) 1 1) z11 rfl rfl (by rw [hz11, ← kz11]; kernel_rfl) ?_
        simp only [Act.put, List.setIfInBounds_toArray, List.set_cons_zero, List.set_cons_succ]
        clear hz11 kz11
        refine wpAny_all (rs := [9]) (by kernel_rfl) (by simp) ?_
        intro i hi
        simp only [List.mem_cons, List.not_mem_nil, or_false] at hi
        subst hi
        refine op_call (o := ⟨some 14, _, _, _, _, _⟩) 10 #[.agg (u8l key).toArray, .slice (some ⟨gz11, 0, none⟩) 1 1] rfl rfl (by kernel_rfl) (((code_flat z11 key gz11 1 [t] (t) HKY.out Fz11.out.2.2 (by omega) (by simp))).mono fun e z12 ⟨he, qz12⟩ => ⟨.agg (u8l (codeS key t)).toArray, he, ?_⟩)
        simp only [Act.put, List.setIfInBounds_toArray, List.set_cons_zero, List.set_cons_succ]
        have Fz12 := Lib.hid (show Below g2 w z12 ∧ Blk z12 g2 23 (u8l key).toArray ∧ PSl z12 (some ⟨gz11, 0, none⟩) 1 [t] from ⟨Fz11.out.1.trans (qz12.mono (by have h1 := Fz11.out.1.size; have h2 := G2.out; omega)), Fz11.out.2.1.below qz12, Fz11.out.2.2.below qz12⟩)
        clear qz12
        refine wpAny_all (rs := [12]) (by kernel_rfl) (by simp) ?_
        intro i hi
        simp only [List.mem_cons, List.not_mem_nil, or_false] at hi
        subst hi
        refine op_call (o := ⟨some 17, _, _, _, _, _⟩) 11 #[.agg (u8l key).toArray, .slice a n c] rfl rfl (by kernel_rfl) (((refcode_any z12 key _ _ _ t HKY.out (HS.out.below (below_eq Fz12.out.1 G2.out)) (by have := HN.out; omega))).mono fun e z13 ⟨he, qz13⟩ => ⟨.agg (u8l (codeS key t)).toArray, he, ?_⟩)
        simp only [Act.put, List.setIfInBounds_toArray, List.set_cons_zero, List.set_cons_succ]
        have Fz13 := Lib.hid (show Below g2 w z13 ∧ Blk z13 g2 23 (u8l key).toArray ∧ PSl z13 (some ⟨gz11, 0, none⟩) 1 [t] from ⟨Fz12.out.1.trans (qz13.mono (by have h1 := Fz12.out.1.size; have h2 := G2.out; omega)), Fz12.out.2.1.below qz13, Fz12.out.2.2.below qz13⟩)
        clear qz13
        refine wpAny_take (i := 13) (oi := ⟨some 18, _, _, _, _, _⟩) (v := (.bool true)) rfl (by kernel_rfl) (by kernel_rfl) (by kernel_rfl) (fun _ _ _ h => h) (Or.inl ⟨rfl, fun w => run_eq26 _ _ _ _ _ (codeS key t) (codeS_len _ _) rfl rfl rfl⟩) ?_
        simp only [Act.put, List.setIfInBounds_toArray, List.set_cons_zero, List.set_cons_succ]
        refine wpAny_take (i := 14) (oi := ⟨some 19, _, _, _, _, _⟩) (v := (.bool true)) rfl (by kernel_rfl) (by kernel_rfl) (by kernel_rfl) (fun _ _ _ h => h) (Or.inl ⟨rfl, fun w => by kernel_rfl⟩) ?_
        simp only [Act.put, List.setIfInBounds_toArray, List.set_cons_zero, List.set_cons_succ]
        refine wpAny_take (i := 15) (oi := ⟨some 20, _, _, _, _, _⟩) (v := (.bool true)) rfl (by kernel_rfl) (by kernel_rfl) (by kernel_rfl) (fun _ _ _ h => h) (Or.inl ⟨rfl, fun w => by kernel_rfl⟩) ?_
        simp only [Act.put, List.setIfInBounds_toArray, List.set_cons_zero, List.set_cons_succ]
        refine wpAny_take (i := 16) (oi := ⟨some 4, _, _, _, _, _⟩) (v := (.bool true)) rfl (by kernel_rfl) (by kernel_rfl) (by kernel_rfl) (fun _ _ _ h => h) (Or.inl ⟨rfl, fun w => by kernel_rfl⟩) ?_
        simp only [Act.put, List.setIfInBounds_toArray, List.set_cons_zero, List.set_cons_succ]
        refine wpAny_done (by kernel_rfl) ?_ _
        go_wp2_with fail
        go_ret
        exact ⟨rfl, by rw [G2.out]; exact Fz13.out.1⟩
    · obtain ⟨z14, hz14⟩ : ∃ V, V = z1.alloc (.cells #[.slice a n c] 24) := ⟨_, rfl⟩
      obtain ⟨gz14, kz14⟩ : ∃ q, z1.heap.size = q := ⟨_, rfl⟩
      have qz14 : Below z1.heap.size z1 z14 := by rw [hz14]; exact (Below.refl _ _).alloc (Nat.le_refl _) _
      have bz14 : Blk z14 gz14 24 #[.slice a n c] := by rw [hz14, ← kz14]; exact Blk.new _ _ _
      have Fz140 := Lib.hid (show Below g2 w z14 ∧ Blk z14 g2 23 (u8l key).toArray from ⟨Fz1.out.1.trans (qz14.mono (by have h1 := Fz1.out.1.size; have h2 := G2.out; omega)), Fz1.out.2.below qz14⟩)
      have Fz14 := Lib.hid (show Below g2 w z14 ∧ Blk z14 g2 23 (u8l key).toArray ∧ PSl z14 (some ⟨gz14, 0, none⟩) 1 [t] from ⟨Fz140.out.1, Fz140.out.2, psl_one bz14 (HS.out.below (below_eq Fz140.out.1 G2.out)) (by have := HN.out; omega)⟩)
      clear qz14 bz14 Fz140
      refine op_valw (o := ⟨some 13, _, _, _, _, _⟩) (.slice (some ⟨gz14, 0, none⟩) 1 1) z14 rfl rfl (by rw [hz14, ← kz14]; kernel_rfl) ?_
      simp only [Act.put, List.setIfInBounds_toArray, List.set_cons_zero, List.set_cons_succ]
      clear hz14 kz14
      refine wpAny_all (rs := [6, 10]) (by kernel_rfl) (by simp) ?_
      intro i hi
      simp only [List.mem_cons, List.not_mem_nil, or_false] at hi
      rcases hi with rfl | rfl
      · refine op_val (o := ⟨some 11, _, _, _, _, _⟩) (.agg (u8l key).toArray) rfl rfl (run_load_mid _ _ _ 23 _ rfl g2 0 rfl (u8l key) _ (range_blk (Fz14.out.2.1)) Try.underlying23 rfl (by rw [u8l_len, HKY.out.1]; kernel_rfl)) ?_
        simp only [Act.put, List.setIfInBounds_toArray, List.set_cons_zero, List.set_cons_succ]
        refine wpAny_all (rs := [9, 10]) (by kernel_rfl) (by simp) ?_
        intro i hi
        simp only [List.mem_cons, List.not_mem_nil, or_false] at hi
        rcases hi with rfl | rfl
        · refine op_call (o := ⟨some 14, _, _, _, _, _⟩) 10 #[.agg (u8l key).toArray, .slice (some ⟨gz14, 0, none⟩) 1 1] rfl rfl (by kernel_rfl) (((code_flat z14 key gz14 1 [t] (t) HKY.out Fz14.out.2.2 (by omega) (by simp))).mono fun e z16 ⟨he, qz16⟩ => ⟨.agg (u8l (codeS key t)).toArray, he, ?_⟩)
          simp only [Act.put, List.setIfInBounds_toArray, List.set_cons_zero, List.set_cons_succ]
          have Fz16 := Lib.hid (show Below g2 w z16 ∧ Blk z16 g2 23 (u8l key).toArray ∧ PSl z16 (some ⟨gz14, 0, none⟩) 1 [t] from ⟨Fz14.out.1.trans (qz16.mono (by have h1 := Fz14.out.1.size; have h2 := G2.out; omega)), Fz14.out.2.1.below qz16, Fz14.out.2.2.below qz16⟩)
          clear qz16
          refine wpAny_all (rs := [10]) (by kernel_rfl) (by simp) ?_
          intro i hi
          simp only [List.mem_cons, List.not_mem_nil, or_false] at hi
          subst hi
          refine op_val (o := ⟨some 15, _, _, _, _, _⟩) (.agg (u8l key).toArray) rfl rfl (run_load_mid _ _ _ 23 _ rfl g2 0 rfl (u8l key) _ (range_blk (Fz16.out.2.1)) Try.underlying23 rfl (by rw [u8l_len, HKY.out.1]; kernel_rfl)) ?_
          simp only [Act.put, List.setIfInBounds_toArray, List.set_cons_zero, List.set_cons_succ]
          refine wpAny_all (rs := [12]) (by kernel_rfl) (by simp) ?_
          intro i hi
          simp only [List.mem_cons, List.not_mem_nil, or_false] at hi
          subst hi
          refine op_call (o := ⟨some 17, _, _, _, _, _⟩) 11 #[.agg (u8l key).toArray, .slice a n c] rfl rfl (by kernel_rfl) (((refcode_any z16 key _ _ _ t HKY.out (HS.out.below (below_eq Fz16.out.1 G2.out)) (by have := HN.out; omega))).mono fun e z18 ⟨he, qz18⟩ => ⟨.agg (u8l (codeS key t)).toArray, he, ?_⟩)
          simp only [Act.put, List.setIfInBounds_toArray, List.set_cons_zero, List.set_cons_succ]
          have Fz18 := Lib.hid (show Below g2 w z18 ∧ Blk z18 g2 23 (u8l key).toArray ∧ PSl z18 (some ⟨gz14, 0, none⟩) 1 [t] from ⟨Fz16.out.1.trans (qz18.mono (by have h1 := Fz16.out.1.size; have h2 := G2.out; omega)), Fz16.out.2.1.below qz18, Fz16.out.2.2.below qz18⟩)
          clear qz18
          refine wpAny_take (i := 13) (oi := ⟨some 18, _, _, _, _, _⟩) (v := (.bool true)) rfl (by kernel_rfl) (by kernel_rfl) (by kernel_rfl) (fun _ _ _ h => h) (Or.inl ⟨rfl, fun w => run_eq26 _ _ _ _ _ (codeS key t) (codeS_len _ _) rfl rfl rfl⟩) ?_
          simp only [Act.put, List.setIfInBounds_toArray, List.set_cons_zero, List.set_cons_succ]
          refine wpAny_take (i := 14) (oi := ⟨some 19, _, _, _, _, _⟩) (v := (.bool true)) rfl (by kernel_rfl) (by kernel_rfl) (by kernel_rfl) (fun _ _ _ h => h) (Or.inl ⟨rfl, fun w => by kernel_rfl⟩) ?_
          simp only [Act.put, List.setIfInBounds_toArray, List.set_cons_zero, List.set_cons_succ]
          refine wpAny_take (i := 15) (oi := ⟨some 20, _, _, _, _, _⟩) (v := (.bool true)) rfl (by kernel_rfl) (by kernel_rfl) (by kernel_rfl) (fun _ _ _ h => h) (Or.inl ⟨rfl, fun w => by kernel_rfl⟩) ?_
          simp only [Act.put, List.setIfInBounds_toArray, List.set_cons_zero, List.set_cons_succ]
          refine wpAny_take (i := 16) (oi := ⟨some 4, _, _, _, _, _⟩) (v := (.bool true)) rfl (by kernel_rfl) (by kernel_rfl) (by kernel_rfl) (fun _ _ _ h => h) (Or.inl ⟨rfl, fun w => by kernel_rfl⟩) ?_
          simp only [Act.put, List.setIfInBounds_toArray, List.set_cons_zero, List.set_cons_succ]
          refine wpAny_done (by kernel_rfl) ?_ _
          go_wp2_with fail
          go_ret
          exact ⟨rfl, by rw [G2.out]; exact Fz18.out.1⟩
        · refine op_val (o := ⟨some 15, _, _, _, _, _⟩) (.agg (u8l key).toArray) rfl rfl (run_load_mid _ _ _ 23 _ rfl g2 0 rfl (u8l key) _ (range_blk (Fz14.out.2.1)) Try.underlying23 rfl (by rw [u8l_len, HKY.out.1]; kernel_rfl)) ?_
          simp only [Act.put, List.setIfInBounds_toArray, List.set_cons_zero, List.set_cons_succ]
          refine wpAny_all (rs := [9]) (by kernel_rfl) (by simp) ?_
          intro i hi
          simp only [List.mem_cons, List.not_mem_nil, or_false] at hi
          subst hi
          refine op_call (o := ⟨some 14, _, _, _, _, _⟩) 10 #[.agg (u8l key).toArray, .slice (some ⟨gz14, 0, none⟩) 1 1] rfl rfl (by kernel_rfl) (((code_flat z14 key gz14 1 [t] (t) HKY.out Fz14.out.2.2 (by omega) (by simp))).mono fun e z20 ⟨he, qz20⟩ => ⟨.agg (u8l (codeS key t)).toArray, he, ?_⟩)
          simp only [Act.put, List.setIfInBounds_toArray, List.set_cons_zero, List.set_cons_succ]
          have Fz20 := Lib.hid (show Below g2 w z20 ∧ Blk z20 g2 23 (u8l key).toArray ∧ PSl z20 (some ⟨gz14, 0, none⟩) 1 [t] from ⟨Fz14.out.1.trans (qz20.mono (by have h1 := Fz14.out.1.size; have h2 := G2.out; omega)), Fz14.out.2.1.below qz20, Fz14.out.2.2.below qz20⟩)
          clear qz20
          refine wpAny_all (rs := [12]) (by kernel_rfl) (by simp) ?_
          intro i hi
          simp only [List.mem_cons, List.not_mem_nil, or_false] at hi
          subst hi
          refine op_call (o := ⟨some 17, _, _, _, _, _⟩) 11 #[.agg (u8l key).toArray, .slice a n c] rfl rfl (by kernel_rfl) (((refcode_any z20 key _ _ _ t HKY.out (HS.out.below (below_eq Fz20.out.1 G2.out)) (by have := HN.out; omega))).mono fun e z21 ⟨he, qz21⟩ => ⟨.agg (u8l (codeS key t)).toArray, he, ?_⟩)
          simp only [Act.put, List.setIfInBounds_toArray, List.set_cons_zero, List.set_cons_succ]
          have Fz21 := Lib.hid (show Below g2 w z21 ∧ Blk z21 g2 23 (u8l key).toArray ∧ PSl z21 (some ⟨gz14, 0, none⟩) 1 [t] from ⟨Fz20.out.1.trans (qz21.mono (by have h1 := Fz20.out.1.size; have h2 := G2.out; omega)), Fz20.out.2.1.below qz21, Fz20.out.2.2.below qz21⟩)
          clear qz21
          refine wpAny_take (i := 13) (oi := ⟨some 18, _, _, _, _, _⟩) (v := (.bool true)) rfl (by kernel_rfl) (by kernel_rfl) (by kernel_rfl) (fun _ _ _ h => h) (Or.inl ⟨rfl, fun w => run_eq26 _ _ _ _ _ (codeS key t) (codeS_len _ _) rfl rfl rfl⟩) ?_
          simp only [Act.put, List.setIfInBounds_toArray, List.set_cons_zero, List.set_cons_succ]
          refine wpAny_take (i := 14) (oi := ⟨some 19, _, _, _, _, _⟩) (v := (.bool true)) rfl (by kernel_rfl) (by kernel_rfl) (by kernel_rfl) (fun _ _ _ h => h) (Or.inl ⟨rfl, fun w => by kernel_rfl⟩) ?_
          simp only [Act.put, List.setIfInBounds_toArray, List.set_cons_zero, List.set_cons_succ]
          refine wpAny_take (i := 15) (oi := ⟨some 20, _, _, _, _, _⟩) (v := (.bool true)) rfl (by kernel_rfl) (by kernel_rfl) (by kernel_rfl) (fun _ _ _ h => h) (Or.inl ⟨rfl, fun w => by kernel_rfl⟩) ?_
          simp only [Act.put, List.setIfInBounds_toArray, List.set_cons_zero, List.set_cons_succ]
          refine wpAny_take (i := 16) (oi := ⟨some 4, _, _, _, _, _⟩) (v := (.bool true)) rfl (by kernel_rfl) (by kernel_rfl) (by kernel_rfl) (fun _ _ _ h => h) (Or.inl ⟨rfl, fun w => by kernel_rfl⟩) ?_
          simp only [Act.put, List.setIfInBounds_toArray, List.set_cons_zero, List.set_cons_succ]
          refine wpAny_done (by kernel_rfl) ?_ _
          go_wp2_with fail
          go_ret
          exact ⟨rfl, by rw [G2.out]; exact Fz21.out.1⟩
      · refine op_val (o := ⟨some 15, _, _, _, _, _⟩) (.agg (u8l key).toArray) rfl rfl (run_load_mid _ _ _ 23 _ rfl g2 0 rfl (u8l key) _ (range_blk (Fz14.out.2.1)) Try.underlying23 rfl (by rw [u8l_len, HKY.out.1]; kernel_rfl)) ?_
        simp only [Act.put, List.setIfInBounds_toArray, List.set_cons_zero, List.set_cons_succ]
        refine wpAny_all (rs := [6]) (by kernel_rfl) (by simp) ?_
        intro i hi
        simp only [List.mem_cons, List.not_mem_nil, or_false] at hi
        subst hi
        refine op_val (o := ⟨some 11, _, _, _, _, _⟩) (.agg (u8l key).toArray) rfl rfl (run_load_mid _ _ _ 23 _ rfl g2 0 rfl (u8l key) _ (range_blk (Fz14.out.2.1)) Try.underlying23 rfl (by rw [u8l_len, HKY.out.1]; kernel_rfl)) ?_
        simp only [Act.put, List.setIfInBounds_toArray, List.set_cons_zero, List.set_cons_succ]
        refine wpAny_all (rs := [9]) (by kernel_rfl) (by simp) ?_
        intro i hi
        simp only [List.mem_cons, List.not_mem_nil, or_false] at hi
        subst hi
        refine op_call (o := ⟨some 14, _, _, _, _, _⟩) 10 #[.agg (u8l key).toArray, .slice (some ⟨gz14, 0, none⟩) 1 1] rfl rfl (by kernel_rfl) (((code_flat z14 key gz14 1 [t] (t) HKY.out Fz14.out.2.2 (by omega) (by simp))).mono fun e z24 ⟨he, qz24⟩ => ⟨.agg (u8l (codeS key t)).toArray, he, ?_⟩)
        simp only [Act.put, List.setIfInBounds_toArray, List.set_cons_zero, List.set_cons_succ]
        have Fz24 := Lib.hid (show Below g2 w z24 ∧ Blk z24 g2 23 (u8l key).toArray ∧ PSl z24 (some ⟨gz14, 0, none⟩) 1 [t] from ⟨Fz14.out.1.trans (qz24.mono (by have h1 := Fz14.out.1.size; have h2 := G2.out; omega)), Fz14.out.2.1.below qz24, Fz14.out.2.2.below qz24⟩)
        clear qz24
        refine wpAny_all (rs := [12]) (by kernel_rfl) (by simp) ?_
        intro i hi
        simp only [List.mem_cons, List.not_mem_nil, or_false] at hi
        subst hi
        refine op_call (o := ⟨some 17, _, _, _, _, _⟩) 11 #[.agg (u8l key).toArray, .slice a n c] rfl rfl (by kernel_rfl) (((refcode_any z24 key _ _ _ t HKY.out (HS.out.below (below_eq Fz24.out.1 G2.out)) (by have := HN.out; omega))).mono fun e z25 ⟨he, qz25⟩ => ⟨.agg (u8l (codeS key t)).toArray, he, ?_⟩)
        simp only [Act.put, List.setIfInBounds_toArray, List.set_cons_zero, List.set_cons_succ]
        have Fz25 := Lib.hid (show Below g2 w z25 ∧ Blk z25 g2 23 (u8l key).toArray ∧ PSl z25 (some ⟨gz14, 0, none⟩) 1 [t] from ⟨Fz24.out.1.trans (qz25.mono (by have h1 := Fz24.out.1.size; have h2 := G2.out; omega)), Fz24.out.2.1.below qz25, Fz24.out.2.2.below qz25⟩)
        clear qz25
        refine wpAny_take (i := 13) (oi := ⟨some 18, _, _, _, _, _⟩) (v := (.bool true)) rfl (by kernel_rfl) (by kernel_rfl) (by kernel_rfl) (fun _ _ _ h => h) (Or.inl ⟨rfl, fun w => run_eq26 _ _ _ _ _ (codeS key t) (codeS_len _ _) rfl rfl rfl⟩) ?_
        simp only [Act.put, List.setIfInBounds_toArray, List.set_cons_zero, List.set_cons_succ]
        refine wpAny_take (i := 14) (oi := ⟨some 19, _, _, _, _, _⟩) (v := (.bool true)) rfl (by kernel_rfl) (by kernel_rfl) (by kernel_rfl) (fun _ _ _ h => h) (Or.inl ⟨rfl, fun w => by kernel_rfl⟩) ?_
        simp only [Act.put, List.setIfInBounds_toArray, List.set_cons_zero, List.set_cons_succ]
        refine wpAny_take (i := 15) (oi := ⟨some 20, _, _, _, _, _⟩) (v := (.bool true)) rfl (by kernel_rfl) (by kernel_rfl) (by kernel_rfl) (fun _ _ _ h => h) (Or.inl ⟨rfl, fun w => by kernel_rfl⟩) ?_
        simp only [Act.put, List.setIfInBounds_toArray, List.set_cons_zero, List.set_cons_succ]
        refine wpAny_take (i := 16) (oi := ⟨some 4, _, _, _, _, _⟩) (v := (.bool true)) rfl (by kernel_rfl) (by kernel_rfl) (by kernel_rfl) (fun _ _ _ h => h) (Or.inl ⟨rfl, fun w => by kernel_rfl⟩) ?_
        simp only [Act.put, List.setIfInBounds_toArray, List.set_cons_zero, List.set_cons_succ]
        refine wpAny_done (by kernel_rfl) ?_ _
        go_wp2_with fail
        go_ret
        exact ⟨rfl, by rw [G2.out]; exact Fz25.out.1⟩
    · refine op_val (o := ⟨some 15, _, _, _, _, _⟩) (.agg (u8l key).toArray) rfl rfl (run_load_mid _ _ _ 23 _ rfl g2 0 rfl (u8l key) _ (range_blk (Fz1.out.2)) Try.underlying23 rfl (by rw [u8l_len, HKY.out.1]; kernel_rfl)) ?_
      simp only [Act.put, List.setIfInBounds_toArray, List.set_cons_zero, List.set_cons_succ]
      refine wpAny_all (rs := [6, 8]) (by kernel_rfl) (by simp) ?_
      intro i hi
      simp only [List.mem_cons, List.not_mem_nil, or_false] at hi
      rcases hi with rfl | rfl
      · refine op_val (o := ⟨some 11, _, _, _, _, _⟩) (.agg (u8l key).toArray) rfl rfl (run_load_mid _ _ _ 23 _ rfl g2 0 rfl (u8l key) _ (range_blk (Fz1.out.2)) Try.underlying23 rfl (by rw [u8l_len, HKY.out.1]; kernel_rfl)) ?_
        simp only [Act.put, List.setIfInBounds_toArray, List.set_cons_zero, List.set_cons_succ]
        refine wpAny_all (rs := [8]) (by kernel_rfl) (by simp) ?_
        intro i hi
        simp only [List.mem_cons, List.not_mem_nil, or_false] at hi
        subst hi
        obtain ⟨z28, hz28⟩ : ∃ V, V = z1.alloc (.cells #[.slice a n c] 24) := ⟨_, rfl⟩
        obtain ⟨gz28, kz28⟩ : ∃ q, z1.heap.size = q := ⟨_, rfl⟩
        have qz28 : Below z1.heap.size z1 z28 := by rw [hz28]; exact (Below.refl _ _).alloc (Nat.le_refl _) _
        have bz28 : Blk z28 gz28 24 #[.slice a n c] := by rw [hz28, ← kz28]; exact Blk.new _ _ _
        have Fz280 := Lib.hid (show Below g2 w z28 ∧ Blk z28 g2 23 (u8l key).toArray from ⟨Fz1.out.1.trans (qz28.mono (by have h1 := Fz1.out.1.size; have h2 := G2.out; omega)), Fz1.out.2.below qz28⟩)
        have Fz28 := Lib.hid (show Below g2 w z28 ∧ Blk z28 g2 23 (u8l key).toArray ∧ PSl z28 (some ⟨gz28, 0, none⟩) 1 [t] from ⟨Fz280.out.1, Fz280.out.2, psl_one bz28 (HS.out.below (below_eq Fz280.out.1 G2.out)) (by have := HN.out; omega)⟩)
        clear qz28 bz28 Fz280
        refine op_valw (o := ⟨some 13, _, _, _, _, _⟩) (.slice (some ⟨gz28, 0, none⟩) 1 1) z28 rfl rfl (by rw [hz28, ← kz28]; kernel_rfl) ?_
        simp only [Act.put, List.setIfInBounds_toArray, List.set_cons_zero, List.set_cons_succ]
        clear hz28 kz28
        refine wpAny_all (rs := [9]) (by kernel_rfl) (by simp) ?_
        intro i hi
        simp only [List.mem_cons, List.not_mem_nil, or_false] at hi
        subst hi
        refine op_call (o := ⟨some 14, _, _, _, _, _⟩) 10 #[.agg (u8l key).toArray, .slice (some ⟨gz28, 0, none⟩) 1 1] rfl rfl (by kernel_rfl) (((code_flat z28 key gz28 1 [t] (t) HKY.out Fz28.out.2.2 (by omega) (by simp))).mono fun e z29 ⟨he, qz29⟩ => ⟨.agg (u8l (codeS key t)).toArray, he, ?_⟩)
        simp only [Act.put, List.setIfInBounds_toArray, List.set_cons_zero, List.set_cons_succ]
        have Fz29 := Lib.hid (show Below g2 w z29 ∧ Blk z29 g2 23 (u8l key).toArray ∧ PSl z29 (some ⟨gz28, 0, none⟩) 1 [t] from ⟨Fz28.out.1.trans (qz29.mono (by have h1 := Fz28.out.1.size; have h2 := G2.out; omega)), Fz28.out.2.1.below qz29, Fz28.out.2.2.below qz29⟩)
        clear qz29
        refine wpAny_all (rs := [12]) (by kernel_rfl) (by simp) ?_
        intro i hi
        simp only [List.mem_cons, List.not_mem_nil, or_false] at hi
        subst hi
        refine op_call (o := ⟨some 17, _, _, _, _, _⟩) 11 #[.agg (u8l key).toArray, .slice a n c] rfl rfl (by kernel_rfl) (((refcode_any z29 key _ _ _ t HKY.out (HS.out.below (below_eq Fz29.out.1 G2.out)) (by have := HN.out; omega))).mono fun e z30 ⟨he, qz30⟩ => ⟨.agg (u8l (codeS key t)).toArray, he, ?_⟩)
        simp only [Act.put, List.setIfInBounds_toArray, List.set_cons_zero, List.set_cons_succ]
        have Fz30 := Lib.hid (show Below g2 w z30 ∧ Blk z30 g2 23 (u8l key).toArray ∧ PSl z30 (some ⟨gz28, 0, none⟩) 1 [t] from ⟨Fz29.out.1.trans (qz30.mono (by have h1 := Fz29.out.1.size; have h2 := G2.out; omega)), Fz29.out.2.1.below qz30, Fz29.out.2.2.below qz30⟩)
        clear qz30
        refine wpAny_take (i := 13) (oi := ⟨some 18, _, _, _, _, _⟩) (v := (.bool true)) rfl (by kernel_rfl) (by kernel_rfl) (by kernel_rfl) (fun _ _ _ h => h) (Or.inl ⟨rfl, fun w => run_eq26 _ _ _ _ _ (codeS key t) (codeS_len _ _) rfl rfl rfl⟩) ?_
        simp only [Act.put, List.setIfInBounds_toArray, List.set_cons_zero, List.set_cons_succ]
        refine wpAny_take (i := 14) (oi := ⟨some 19, _, _, _, _, _⟩) (v := (.bool true)) rfl (by kernel_rfl) (by kernel_rfl) (by kernel_rfl) (fun _ _ _ h => h) (Or.inl ⟨rfl, fun w => by kernel_rfl⟩) ?_
        simp only [Act.put, List.setIfInBounds_toArray, List.set_cons_zero, List.set_cons_succ]
        refine wpAny_take (i := 15) (oi := ⟨some 20, _, _, _, _, _⟩) (v := (.bool true)) rfl (by kernel_rfl) (by kernel_rfl) (by kernel_rfl) (fun _ _ _ h => h) (Or.inl ⟨rfl, fun w => by kernel_rfl⟩) ?_
        simp only [Act.put, List.setIfInBounds_toArray, List.set_cons_zero, List.set_cons_succ]
        refine wpAny_take (i := 16) (oi := ⟨some 4, _, _, _, _, _⟩) (v := (.bool true)) rfl (by kernel_rfl) (by kernel_rfl) (by kernel_rfl) (fun _ _ _ h => h) (Or.inl ⟨rfl, fun w => by kernel_rfl⟩) ?_
        simp only [Act.put, List.setIfInBounds_toArray, List.set_cons_zero, List.set_cons_succ]
        refine wpAny_done (by kernel_rfl) ?_ _
        go_wp2_with fail
        go_ret
        exact ⟨rfl, by rw [G2.out]; exact Fz30.out.1⟩
      · obtain ⟨z31, hz31⟩ : ∃ V, V = z1.alloc (.cells #[.slice a n c] 24) := ⟨_, rfl⟩
        obtain ⟨gz31, kz31⟩ : ∃ q, z1.heap.size = q := ⟨_, rfl⟩
        have qz31 : Below z1.heap.size z1 z31 := by rw [hz31]; exact (Below.refl _ _).alloc (Nat.le_refl _) _
        have bz31 : Blk z31 gz31 24 #[.slice a n c] := by rw [hz31, ← kz31]; exact Blk.new _ _ _
        have Fz310 := Lib.hid (show Below g2 w z31 ∧ Blk z31 g2 23 (u8l key).toArray from ⟨Fz1.out.1.trans (qz31.mono (by have h1 := Fz1.out.1.size; have h2 := G2.out; omega)), Fz1.out.2.below qz31⟩)
        have Fz31 := Lib.hid (show Below g2 w z31 ∧ Blk z31 g2 23 (u8l key).toArray ∧ PSl z31 (some ⟨gz31, 0, none⟩) 1 [t] from ⟨Fz310.out.1, Fz310.out.2, psl_one bz31 (HS.out.below (below_eq Fz310.out.1 G2.out)) (by have := HN.out; omega)⟩)
        clear qz31 bz31 Fz310
        refine op_valw (o := ⟨some 13, _, _, _, _, _⟩) (.slice (some ⟨gz31, 0, none⟩) 1 1) z31 rfl rfl (by rw [hz31, ← kz31]; kernel_rfl) ?_
        simp only [Act.put, List.setIfInBounds_toArray, List.set_cons_zero, List.set_cons_succ]
        clear hz31 kz31
        refine wpAny_all (rs := [6]) (by kernel_rfl) (by simp) ?_
        intro i hi
        simp only [List.mem_cons, List.not_mem_nil, or_false] at hi
        subst hi
        refine op_val (o := ⟨some 11, _, _, _, _, _⟩) (.agg (u8l key).toArray) rfl rfl (run_load_mid _ _ _ 23 _ rfl g2 0 rfl (u8l key) _ (range_blk (Fz31.out.2.1)) Try.underlying23 rfl (by rw [u8l_len, HKY.out.1]; kernel_rfl)) ?_
        simp only [Act.put, List.setIfInBounds_toArray, List.set_cons_zero, List.set_cons_succ]
        refine wpAny_all (rs := [9]) (by kernel_rfl) (by simp) ?_
        intro i hi
        simp only [List.mem_cons, List.not_mem_nil, or_false] at hi
        subst hi
        refine op_call (o := ⟨some 14, _, _, _, _, _⟩) 10 #[.agg (u8l key).toArray, .slice (some ⟨gz31, 0, none⟩) 1 1] rfl rfl (by kernel_rfl) (((code_flat z31 key gz31 1 [t] (t) HKY.out Fz31.out.2.2 (by omega) (by simp))).mono fun e z33 ⟨he, qz33⟩ => ⟨.agg (u8l (codeS key t)).toArray, he, ?_⟩)
        simp only [Act.put, List.setIfInBounds_toArray, List.set_cons_zero, List.set_cons_succ]
        have Fz33 := Lib.hid (show Below g2 w z33 ∧ Blk z33 g2 23 (u8l key).toArray ∧ PSl z33 (some ⟨gz31, 0, none⟩) 1 [t] from ⟨Fz31.out.1.trans (qz33.mono (by have h1 := Fz31.out.1.size; have h2 := G2.out; omega)), Fz31.out.2.1.below qz33, Fz31.out.2.2.below qz33⟩)
        clear qz33
        refine wpAny_all (rs := [12]) (by kernel_rfl) (by simp) ?_
        intro i hi
        simp only [List.mem_cons, List.not_mem_nil, or_false] at hi
        subst hi
        refine op_call (o := ⟨some 17, _, _, _, _, _⟩) 11 #[.agg (u8l key).toArray, .slice a n c] rfl rfl (by kernel_rfl) (((refcode_any z33 key _ _ _ t HKY.out (HS.out.below (below_eq Fz33.out.1 G2.out)) (by have := HN.out; omega))).mono fun e z34 ⟨he, qz34⟩ => ⟨.agg (u8l (codeS key t)).toArray, he, ?_⟩)
        simp only [Act.put, List.setIfInBounds_toArray, List.set_cons_zero, List.set_cons_succ]
        have Fz34 := Lib.hid (show Below g2 w z34 ∧ Blk z34 g2 23 (u8l key).toArray ∧ PSl z34 (some ⟨gz31, 0, none⟩) 1 [t] from ⟨Fz33.out.1.trans (qz34.mono (by have h1 := Fz33.out.1.size; have h2 := G2.out; omega)), Fz33.out.2.1.below qz34, Fz33.out.2.2.below qz34⟩)
        clear qz34
        refine wpAny_take (i := 13) (oi := ⟨some 18, _, _, _, _, _⟩) (v := (.bool true)) rfl (by kernel_rfl) (by kernel_rfl) (by kernel_rfl) (fun _ _ _ h => h) (Or.inl ⟨rfl, fun w => run_eq26 _ _ _ _ _ (codeS key t) (codeS_len _ _) rfl rfl rfl⟩) ?_
        simp only [Act.put, List.setIfInBounds_toArray, List.set_cons_zero, List.set_cons_succ]
        refine wpAny_take (i := 14) (oi := ⟨some 19, _, _, _, _, _⟩) (v := (.bool true)) rfl (by kernel_rfl) (by kernel_rfl) (by kernel_rfl) (fun _ _ _ h => h) (Or.inl ⟨rfl, fun w => by kernel_rfl⟩) ?_
        simp only [Act.put, List.setIfInBounds_toArray, List.set_cons_zero, List.set_cons_succ]
        refine wpAny_take (i := 15) (oi := ⟨some 20, _, _, _, _, _⟩) (v := (.bool true)) rfl (by kernel_rfl) (by kernel_rfl) (by kernel_rfl) (fun _ _ _ h => h) (Or.inl ⟨rfl, fun w => by kernel_rfl⟩) ?_
        simp only [Act.put, List.setIfInBounds_toArray, List.set_cons_zero, List.set_cons_succ]
        refine wpAny_take (i := 16) (oi := ⟨some 4, _, _, _, _, _⟩) (v := (.bool true)) rfl (by kernel_rfl) (by kernel_rfl) (by kernel_rfl) (fun _ _ _ h => h) (Or.inl ⟨rfl, fun w => by kernel_rfl⟩) ?_
        simp only [Act.put, List.setIfInBounds_toArray, List.set_cons_zero, List.set_cons_succ]
        refine wpAny_done (by kernel_rfl) ?_ _
        go_wp2_with fail
        go_ret
        exact ⟨rfl, by rw [G2.out]; exact Fz34.out.1⟩
end Go.Proofs.Ytbgmielhnklkgaa
