import Derived.Test.YtbgmielhnklkgaaR6
namespace Go.Proofs.Ytbgmielhnklkgaa
open Go Go.RowKit

attribute [local irreducible] wpList
set_option maxRecDepth 100000 in
set_option maxHeartbeats 8000000 in
theorem walkPolyParts (key : List Int) (a : Option Addr) (n c : Nat) (z : List Int) (pp : Int) (lx : key.length = 32) (wx : ∀ x ∈ key, (Lit.int .u8 x).wf = true) (hp : (Lit.int .u16 pp).wf = true) (w : World) (h : IsRow .u8 w a n c z) :
    Calls Try.prog 5 #[.agg (u8l key).toArray, .slice a n c, .int .u16 pp] w fun e w' => e = .returned (.bool true) ∧ Below w.heap.size w w' := by
  obtain ⟨p, rfl, hpp⟩ := nat_u16' hp
  have hs := sl_of h
  obtain ⟨t, ht⟩ : ∃ t, z.take n = t := ⟨_, rfl⟩
  rw [ht] at hs
  have HKY := Lib.hid (And.intro lx (u8_bounds wx))
  have HS := Lib.hid hs
  have HPP := Lib.hid hpp
  clear h lx wx hs ht hp hpp
  go_enter Try.func5, Try.ntmps5
  obtain ⟨w1, hw1⟩ : ∃ V, V = w.alloc (.cells (u8l key).toArray 23) := ⟨_, rfl⟩
  have B1 : Hid (Below w.heap.size w w1 ∧ Blk w1 w.heap.size 23 (u8l key).toArray) := Lib.hid (by rw [hw1]; exact ⟨(Below.refl _ _).alloc (Nat.le_refl _) _, Blk.new _ _ _⟩)
  have HW1 := Lib.hid hw1
  clear hw1
  go_upto_region 0 with (fail)
  refine wp_region_lit ?_
  refine wpL_value (.pointer (some ⟨w.heap.size, 0, none⟩)) (w1) rfl (run_box23 _ _ _ _ _ key rfl rfl HKY.out.1 HW1.out) ?_
  simp only [Act.put, List.setIfInBounds_toArray, List.set_cons_zero, List.set_cons_succ]
  refine wpL_pure (.bool false) rfl (by kernel_rfl) ?_
  simp only [Act.put, List.setIfInBounds_toArray, List.set_cons_zero, List.set_cons_succ]
  clear HW1
  obtain ⟨g2, hg2⟩ : ∃ q, w.heap.size = q := ⟨_, rfl⟩
  have G2 := Lib.hid hg2
  rw [hg2] at B1
  try rw [hg2]
  clear hg2
  by_cases hn : 400 < n
  · have HN := Lib.hid hn
    clear hn
    go_upto_region 1 with (fail)
    refine wp_region_lit ?_
    refine wpL_call 9 #[] rfl (by kernel_rfl) (((awake_any w1)).mono fun e w2 ⟨he, hq⟩ => ⟨.bool true, he, ?_⟩)
    simp only [Act.put, List.setIfInBounds_toArray, List.set_cons_zero, List.set_cons_succ]
    have B2 : Hid (Below g2 w w2 ∧ Blk w2 g2 23 (u8l key).toArray) := Lib.hid ⟨B1.out.1.trans (hq.mono (by have := B1.out.2.lt; omega)), B1.out.2.below hq⟩
    clear hq B1
    refine wpL_pure (.bool false) rfl (by kernel_rfl) ?_
    simp only [Act.put, List.setIfInBounds_toArray, List.set_cons_zero, List.set_cons_succ]
    refine wpL_pure (.bool false) rfl (by kernel_rfl) ?_
    simp only [Act.put, List.setIfInBounds_toArray, List.set_cons_zero, List.set_cons_succ]
    refine wpL_pure (.slice a n c) rfl (by kernel_rfl) ?_
    simp only [Act.put, List.setIfInBounds_toArray, List.set_cons_zero, List.set_cons_succ]
    refine wpL_pure (.int .i64 (n : Int)) rfl (by kernel_rfl) ?_
    simp only [Act.put, List.setIfInBounds_toArray, List.set_cons_zero, List.set_cons_succ]
    refine wpL_pure (.bool true) rfl (run_gti Try.underlying3 rfl rfl rfl (by have := HN.out; rw [decide_eq_true_eq]; omega)) ?_
    simp only [Act.put, List.setIfInBounds_toArray, List.set_cons_zero, List.set_cons_succ]
    refine wpL_pure (.bool true) rfl (by kernel_rfl) ?_
    simp only [Act.put, List.setIfInBounds_toArray, List.set_cons_zero, List.set_cons_succ]
    go_upto_region 2 with (fail)
    refine wp_region_lit ?_
    refine wpL_call 9 #[] rfl (by kernel_rfl) (((awake_any w2)).mono fun e w3 ⟨he, hq⟩ => ⟨.bool true, he, ?_⟩)
    simp only [Act.put, List.setIfInBounds_toArray, List.set_cons_zero, List.set_cons_succ]
    have B3 : Hid (Below g2 w w3 ∧ Blk w3 g2 23 (u8l key).toArray) := Lib.hid ⟨B2.out.1.trans (hq.mono (by have := B2.out.2.lt; omega)), B2.out.2.below hq⟩
    clear hq B2
    refine wpL_pure (.bool true) rfl (by kernel_rfl) ?_
    simp only [Act.put, List.setIfInBounds_toArray, List.set_cons_zero, List.set_cons_succ]
    go_wp2_with fail
    go_ret
    exact ⟨rfl, by rw [G2.out]; exact B3.out.1⟩
  · have HN := Lib.hid hn
    clear hn
    go_upto_region 1 with (fail)
    refine wp_region_lit ?_
    refine wpL_call 9 #[] rfl (by kernel_rfl) (((awake_any w1)).mono fun e w2 ⟨he, hq⟩ => ⟨.bool true, he, ?_⟩)
    simp only [Act.put, List.setIfInBounds_toArray, List.set_cons_zero, List.set_cons_succ]
    have B2 : Hid (Below g2 w w2 ∧ Blk w2 g2 23 (u8l key).toArray) := Lib.hid ⟨B1.out.1.trans (hq.mono (by have := B1.out.2.lt; omega)), B1.out.2.below hq⟩
    clear hq B1
    refine wpL_pure (.bool false) rfl (by kernel_rfl) ?_
    simp only [Act.put, List.setIfInBounds_toArray, List.set_cons_zero, List.set_cons_succ]
    refine wpL_pure (.bool false) rfl (by kernel_rfl) ?_
    simp only [Act.put, List.setIfInBounds_toArray, List.set_cons_zero, List.set_cons_succ]
    refine wpL_pure (.slice a n c) rfl (by kernel_rfl) ?_
    simp only [Act.put, List.setIfInBounds_toArray, List.set_cons_zero, List.set_cons_succ]
    refine wpL_pure (.int .i64 (n : Int)) rfl (by kernel_rfl) ?_
    simp only [Act.put, List.setIfInBounds_toArray, List.set_cons_zero, List.set_cons_succ]
    refine wpL_pure (.bool false) rfl (run_gti Try.underlying3 rfl rfl rfl (by have := HN.out; rw [decide_eq_false_iff_not]; omega)) ?_
    simp only [Act.put, List.setIfInBounds_toArray, List.set_cons_zero, List.set_cons_succ]
    refine wpL_pure (.bool false) rfl (by kernel_rfl) ?_
    simp only [Act.put, List.setIfInBounds_toArray, List.set_cons_zero, List.set_cons_succ]
    go_upto_region 3 with (fail)
    refine wp_region_lit ?_
    refine wpL_pure (.slice a n c) rfl (by kernel_rfl) ?_
    simp only [Act.put, List.setIfInBounds_toArray, List.set_cons_zero, List.set_cons_succ]
    refine wpL_pure (.string (strOfNums t)) rfl (run_conv_str _ _ _ _ _ _ _ t rfl rfl (HS.out.below (below_eq B2.out.1 G2.out)).1) ?_
    simp only [Act.put, List.setIfInBounds_toArray, List.set_cons_zero, List.set_cons_succ]
    refine wpL_pure (.string (strOfNums t)) rfl (by kernel_rfl) ?_
    simp only [Act.put, List.setIfInBounds_toArray, List.set_cons_zero, List.set_cons_succ]
    obtain ⟨k, hk⟩ : ∃ q, p % (n + 1) = q := ⟨_, rfl⟩
    have HKK : Hid (p % (n + 1) = k ∧ k ≤ n) := Lib.hid ⟨hk, by have := Nat.mod_lt p (show 0 < n + 1 by omega); omega⟩
    clear hk
    go_upto_region 4 with (fail)
    refine wp_region_lit ?_
    refine wpL_pure (.int .u16 ((p : Nat) : Int)) rfl (by kernel_rfl) ?_
    simp only [Act.put, List.setIfInBounds_toArray, List.set_cons_zero, List.set_cons_succ]
    refine wpL_pure (.int .i64 ((p : Nat) : Int)) rfl (run_convi Try.underlying30 Try.underlying3 rfl rfl _ (by have := HPP.out; rw [wrap_in _ (by omega) (by omega)])) ?_
    simp only [Act.put, List.setIfInBounds_toArray, List.set_cons_zero, List.set_cons_succ]
    refine wpL_pure (.slice a n c) rfl (by kernel_rfl) ?_
    simp only [Act.put, List.setIfInBounds_toArray, List.set_cons_zero, List.set_cons_succ]
    refine wpL_pure (.int .i64 (n : Int)) rfl (by kernel_rfl) ?_
    simp only [Act.put, List.setIfInBounds_toArray, List.set_cons_zero, List.set_cons_succ]
    refine wpL_pure (.int .i64 ((n + 1 : Nat) : Int)) rfl (run_addi Try.underlying3 rfl rfl rfl _ (by have := HN.out; rw [wrap_in _ (by omega) (by omega)]; omega)) ?_
    simp only [Act.put, List.setIfInBounds_toArray, List.set_cons_zero, List.set_cons_succ]
    refine wpL_pure (.int .i64 ((k : Nat) : Int)) rfl (run_remk _ _ _ _ _ p (n + 1) k rfl rfl rfl (by have := HPP.out; omega) (by omega) (by have := HN.out; omega) HKK.out.1) ?_
    simp only [Act.put, List.setIfInBounds_toArray, List.set_cons_zero, List.set_cons_succ]
    refine wpL_pure (.int .i64 ((k : Nat) : Int)) rfl (by kernel_rfl) ?_
    simp only [Act.put, List.setIfInBounds_toArray, List.set_cons_zero, List.set_cons_succ]
    have F0 : Hid (Below g2 w w2.drew ∧ Blk w2.drew g2 23 (u8l key).toArray) := Lib.hid ⟨B2.out.1.drew, B2.out.2⟩
    clear B2
    go_upto_region 5 with (fail)
    refine region_any (by kernel_rfl) 20 rfl ?_
    refine wpAny_take (i := 1) (oi := ⟨some 26, _, _, _, _, _⟩) (v := (.slice a n c)) rfl (by kernel_rfl) (by kernel_rfl) (by kernel_rfl) (fun _ _ _ h => h) (Or.inl ⟨rfl, fun w => by kernel_rfl⟩) ?_
    simp only [Act.put, List.setIfInBounds_toArray, List.set_cons_zero, List.set_cons_succ]
    refine wpAny_take (i := 2) (oi := ⟨some 27, _, _, _, _, _⟩) (v := (.int .i64 ((k : Nat) : Int))) rfl (by kernel_rfl) (by kernel_rfl) (by kernel_rfl) (fun _ _ _ h => h) (Or.inl ⟨rfl, fun w => by kernel_rfl⟩) ?_
    simp only [Act.put, List.setIfInBounds_toArray, List.set_cons_zero, List.set_cons_succ]
    refine wpAny_take (i := 3) (oi := ⟨some 28, _, _, _, _, _⟩) (v := (.slice a k c)) rfl (by kernel_rfl) (by kernel_rfl) (by kernel_rfl) (fun _ _ _ h => h) (Or.inl ⟨rfl, fun w => run_slto _ _ _ _ _ a n c k rfl rfl rfl (by have := HKK.out.2; have := HS.out.2.1; omega) HS.out.2.2.1 HS.out.2.2.2⟩) ?_
    simp only [Act.put, List.setIfInBounds_toArray, List.set_cons_zero, List.set_cons_succ]
    refine wpAny_take (i := 4) (oi := ⟨some 29, _, _, _, _, _⟩) (v := (.slice a n c)) rfl (by kernel_rfl) (by kernel_rfl) (by kernel_rfl) (fun _ _ _ h => h) (Or.inl ⟨rfl, fun w => by kernel_rfl⟩) ?_
    simp only [Act.put, List.setIfInBounds_toArray, List.set_cons_zero, List.set_cons_succ]
    refine wpAny_take (i := 5) (oi := ⟨some 30, _, _, _, _, _⟩) (v := (.int .i64 ((k : Nat) : Int))) rfl (by kernel_rfl) (by kernel_rfl) (by kernel_rfl) (fun _ _ _ h => h) (Or.inl ⟨rfl, fun w => by kernel_rfl⟩) ?_
    simp only [Act.put, List.setIfInBounds_toArray, List.set_cons_zero, List.set_cons_succ]
    refine wpAny_take (i := 6) (oi := ⟨some 31, _, _, _, _, _⟩) (v := (.slice (dropA a c k) (n - k) (c - k))) rfl (by kernel_rfl) (by kernel_rfl) (by kernel_rfl) (fun _ _ _ h => h) (Or.inl ⟨rfl, fun w => run_slicep' _ _ _ _ _ a n c k (n - k) rfl rfl rfl HKK.out.2 HS.out.2.1 HS.out.2.2 rfl⟩) ?_
    simp only [Act.put, List.setIfInBounds_toArray, List.set_cons_zero, List.set_cons_succ]
    refine wpAny_take (i := 10) (oi := ⟨some 35, _, _, _, _, _⟩) (v := (.slice a n c)) rfl (by kernel_rfl) (by kernel_rfl) (by kernel_rfl) (fun _ _ _ h => h) (Or.inl ⟨rfl, fun w => by kernel_rfl⟩) ?_
    simp only [Act.put, List.setIfInBounds_toArray, List.set_cons_zero, List.set_cons_succ]
    refine wpAny_all (rs := [0, 7, 9]) (by kernel_rfl) (by simp) ?_
    intro i hi
    simp only [List.mem_cons, List.not_mem_nil, or_false] at hi
    rcases hi with rfl | rfl | rfl
    · refine op_val (o := ⟨some 25, _, _, _, _, _⟩) (.agg (u8l key).toArray) rfl rfl (run_load_mid _ _ _ 23 _ rfl g2 0 rfl (u8l key) _ (range_blk (F0.out.2)) Try.underlying23 rfl (by rw [u8l_len, HKY.out.1]; kernel_rfl)) ?_
      simp only [Act.put, List.setIfInBounds_toArray, List.set_cons_zero, List.set_cons_succ]
      refine wpAny_all (rs := [7, 9]) (by kernel_rfl) (by simp) ?_
      intro i hi
      simp only [List.mem_cons, List.not_mem_nil, or_false] at hi
      rcases hi with rfl | rfl
      · obtain ⟨z2, hz2⟩ : ∃ V, V = w2.drew.alloc (.cells #[.slice a k c, .slice (dropA a c k) (n - k) (c - k)] 24) := ⟨_, rfl⟩
        obtain ⟨gz2, kz2⟩ : ∃ q, w2.drew.heap.size = q := ⟨_, rfl⟩
        have qz2 : Below w2.drew.heap.size w2.drew z2 := by rw [hz2]; exact (Below.refl _ _).alloc (Nat.le_refl _) _
        have bz2 : Blk z2 gz2 24 #[.slice a k c, .slice (dropA a c k) (n - k) (c - k)] := by rw [hz2, ← kz2]; exact Blk.new _ _ _
        have Fz20 := Lib.hid (show Below g2 w z2 ∧ Blk z2 g2 23 (u8l key).toArray from ⟨F0.out.1.trans (qz2.mono (by have h1 := F0.out.1.size; have h2 := G2.out; omega)), F0.out.2.below qz2⟩)
        have Fz2 := Lib.hid (show Below g2 w z2 ∧ Blk z2 g2 23 (u8l key).toArray ∧ PSl z2 (some ⟨gz2, 0, none⟩) 2 [t.take k, t.drop k] from ⟨Fz20.out.1, Fz20.out.2, psl_two bz2 ((HS.out.below (below_eq Fz20.out.1 G2.out)).takeN k HKK.out.2) ((HS.out.below (below_eq Fz20.out.1 G2.out)).drop k HKK.out.2) (by have := HN.out; have := HKK.out; omega)⟩)
        clear qz2 bz2 Fz20
        refine op_valw (o := ⟨some 32, _, _, _, _, _⟩) (.slice (some ⟨gz2, 0, none⟩) 2 2) z2 rfl rfl (by rw [hz2, ← kz2]; kernel_rfl) ?_
        simp only [Act.put, List.setIfInBounds_toArray, List.set_cons_zero, List.set_cons_succ]
        clear hz2 kz2
        refine wpAny_all (rs := [8, 9]) (by kernel_rfl) (by simp) ?_
        intro i hi
        simp only [List.mem_cons, List.not_mem_nil, or_false] at hi
        rcases hi with rfl | rfl
        · refine op_call (o := ⟨some 33, _, _, _, _, _⟩) 10 #[.agg (u8l key).toArray, .slice (some ⟨gz2, 0, none⟩) 2 2] rfl rfl (by kernel_rfl) (((code_flat z2 key gz2 2 [t.take k, t.drop k] (t) HKY.out Fz2.out.2.2 (by omega) (by simp))).mono fun e z3 ⟨he, qz3⟩ => ⟨.agg (u8l (codeS key t)).toArray, he, ?_⟩)
          simp only [Act.put, List.setIfInBounds_toArray, List.set_cons_zero, List.set_cons_succ]
          have Fz3 := Lib.hid (show Below g2 w z3 ∧ Blk z3 g2 23 (u8l key).toArray ∧ PSl z3 (some ⟨gz2, 0, none⟩) 2 [t.take k, t.drop k] from ⟨Fz2.out.1.trans (qz3.mono (by have h1 := Fz2.out.1.size; have h2 := G2.out; omega)), Fz2.out.2.1.below qz3, Fz2.out.2.2.below qz3⟩)
          clear qz3
          refine wpAny_all (rs := [9]) (by kernel_rfl) (by simp) ?_
          intro i hi
          simp only [List.mem_cons, List.not_mem_nil, or_false] at hi
          subst hi
          refine op_val (o := ⟨some 34, _, _, _, _, _⟩) (.agg (u8l key).toArray) rfl rfl (run_load_mid _ _ _ 23 _ rfl g2 0 rfl (u8l key) _ (range_blk (Fz3.out.2.1)) Try.underlying23 rfl (by rw [u8l_len, HKY.out.1]; kernel_rfl)) ?_
          simp only [Act.put, List.setIfInBounds_toArray, List.set_cons_zero, List.set_cons_succ]
          refine wpAny_all (rs := [11]) (by kernel_rfl) (by simp) ?_
          intro i hi
          simp only [List.mem_cons, List.not_mem_nil, or_false] at hi
          subst hi
          refine op_call (o := ⟨some 36, _, _, _, _, _⟩) 11 #[.agg (u8l key).toArray, .slice a n c] rfl rfl (by kernel_rfl) (((refcode_any z3 key _ _ _ t HKY.out (HS.out.below (below_eq Fz3.out.1 G2.out)) (by have := HN.out; omega))).mono fun e z5 ⟨he, qz5⟩ => ⟨.agg (u8l (codeS key t)).toArray, he, ?_⟩)
          simp only [Act.put, List.setIfInBounds_toArray, List.set_cons_zero, List.set_cons_succ]
          have Fz5 := Lib.hid (show Below g2 w z5 ∧ Blk z5 g2 23 (u8l key).toArray ∧ PSl z5 (some ⟨gz2, 0, none⟩) 2 [t.take k, t.drop k] from ⟨Fz3.out.1.trans (qz5.mono (by have h1 := Fz3.out.1.size; have h2 := G2.out; omega)), Fz3.out.2.1.below qz5, Fz3.out.2.2.below qz5⟩)
          clear qz5
          refine wpAny_take (i := 12) (oi := ⟨some 37, _, _, _, _, _⟩) (v := (.bool true)) rfl (by kernel_rfl) (by kernel_rfl) (by kernel_rfl) (fun _ _ _ h => h) (Or.inl ⟨rfl, fun w => run_eq26 _ _ _ _ _ (codeS key t) (codeS_len _ _) rfl rfl rfl⟩) ?_
          simp only [Act.put, List.setIfInBounds_toArray, List.set_cons_zero, List.set_cons_succ]
          refine wpAny_take (i := 13) (oi := ⟨some 38, _, _, _, _, _⟩) (v := (.bool true)) rfl (by kernel_rfl) (by kernel_rfl) (by kernel_rfl) (fun _ _ _ h => h) (Or.inl ⟨rfl, fun w => by kernel_rfl⟩) ?_
          simp only [Act.put, List.setIfInBounds_toArray, List.set_cons_zero, List.set_cons_succ]
          refine wpAny_take (i := 14) (oi := ⟨some 39, _, _, _, _, _⟩) (v := (.slice a n c)) rfl (by kernel_rfl) (by kernel_rfl) (by kernel_rfl) (fun _ _ _ h => h) (Or.inl ⟨rfl, fun w => by kernel_rfl⟩) ?_
          simp only [Act.put, List.setIfInBounds_toArray, List.set_cons_zero, List.set_cons_succ]
          refine wpAny_take (i := 16) (oi := ⟨some 41, _, _, _, _, _⟩) (v := (.string (strOfNums t))) rfl (by kernel_rfl) (by kernel_rfl) (by kernel_rfl) (fun _ _ _ h => h) (Or.inl ⟨rfl, fun w => by kernel_rfl⟩) ?_
          simp only [Act.put, List.setIfInBounds_toArray, List.set_cons_zero, List.set_cons_succ]
          refine wpAny_all (rs := [15]) (by kernel_rfl) (by simp) ?_
          intro i hi
          simp only [List.mem_cons, List.not_mem_nil, or_false] at hi
          subst hi
          refine op_val (o := ⟨some 40, _, _, _, _, _⟩) (.string (strOfNums t)) rfl rfl (run_conv_str _ _ _ _ _ _ _ t rfl rfl (HS.out.below (below_eq Fz5.out.1 G2.out)).1) ?_
          simp only [Act.put, List.setIfInBounds_toArray, List.set_cons_zero, List.set_cons_succ]
          refine wpAny_take (i := 17) (oi := ⟨some 42, _, _, _, _, _⟩) (v := (.bool true)) rfl (by kernel_rfl) (by kernel_rfl) (by kernel_rfl) (fun _ _ _ h => h) (Or.inl ⟨rfl, fun w => run_str_eql _ _ _ _ _ t t true rfl rfl rfl (by simp) HS.out.1.2.2.1 HS.out.1.2.2.1⟩) ?_
          simp only [Act.put, List.setIfInBounds_toArray, List.set_cons_zero, List.set_cons_succ]
          refine wpAny_take (i := 18) (oi := ⟨some 43, _, _, _, _, _⟩) (v := (.bool true)) rfl (by kernel_rfl) (by kernel_rfl) (by kernel_rfl) (fun _ _ _ h => h) (Or.inl ⟨rfl, fun w => by kernel_rfl⟩) ?_
          simp only [Act.put, List.setIfInBounds_toArray, List.set_cons_zero, List.set_cons_succ]
          refine wpAny_take (i := 19) (oi := ⟨some 6, _, _, _, _, _⟩) (v := (.bool true)) rfl (by kernel_rfl) (by kernel_rfl) (by kernel_rfl) (fun _ _ _ h => h) (Or.inl ⟨rfl, fun w => by kernel_rfl⟩) ?_
          simp only [Act.put, List.setIfInBounds_toArray, List.set_cons_zero, List.set_cons_succ]
          refine wpAny_done (by kernel_rfl) ?_ _
          go_wp2_with fail
          go_ret
          exact ⟨rfl, by rw [G2.out]; exact Fz5.out.1⟩
        · refine op_val (o := ⟨some 34, _, _, _, _, _⟩) (.agg (u8l key).toArray) rfl rfl (run_load_mid _ _ _ 23 _ rfl g2 0 rfl (u8l key) _ (range_blk (Fz2.out.2.1)) Try.underlying23 rfl (by rw [u8l_len, HKY.out.1]; kernel_rfl)) ?_
          simp only [Act.put, List.setIfInBounds_toArray, List.set_cons_zero, List.set_cons_succ]
          refine wpAny_all (rs := [8]) (by kernel_rfl) (by simp) ?_
          intro i hi
          simp only [List.mem_cons, List.not_mem_nil, or_false] at hi
          subst hi
          refine op_call (o := ⟨some 33, _, _, _, _, _⟩) 10 #[.agg (u8l key).toArray, .slice (some ⟨gz2, 0, none⟩) 2 2] rfl rfl (by kernel_rfl) (((code_flat z2 key gz2 2 [t.take k, t.drop k] (t) HKY.out Fz2.out.2.2 (by omega) (by simp))).mono fun e z8 ⟨he, qz8⟩ => ⟨.agg (u8l (codeS key t)).toArray, he, ?_⟩)
          simp only [Act.put, List.setIfInBounds_toArray, List.set_cons_zero, List.set_cons_succ]
          have Fz8 := Lib.hid (show Below g2 w z8 ∧ Blk z8 g2 23 (u8l key).toArray ∧ PSl z8 (some ⟨gz2, 0, none⟩) 2 [t.take k, t.drop k] from ⟨Fz2.out.1.trans (qz8.mono (by have h1 := Fz2.out.1.size; have h2 := G2.out; omega)), Fz2.out.2.1.below qz8, Fz2.out.2.2.below qz8⟩)
          clear qz8
          refine wpAny_all (rs := [11]) (by kernel_rfl) (by simp) ?_
          intro i hi
          simp only [List.mem_cons, List.not_mem_nil, or_false] at hi
          subst hi
          refine op_call (o := ⟨some 36, _, _, _, _, _⟩) 11 #[.agg (u8l key).toArray, .slice a n c] rfl rfl (by kernel_rfl) (((refcode_any z8 key _ _ _ t HKY.out (HS.out.below (below_eq Fz8.out.1 G2.out)) (by have := HN.out; omega))).mono fun e z9 ⟨he, qz9⟩ => ⟨.agg (u8l (codeS key t)).toArray, he, ?_⟩)
          simp only [Act.put, List.setIfInBounds_toArray, List.set_cons_zero, List.set_cons_succ]
          have Fz9 := Lib.hid (show Below g2 w z9 ∧ Blk z9 g2 23 (u8l key).toArray ∧ PSl z9 (some ⟨gz2, 0, none⟩) 2 [t.take k, t.drop k] from ⟨Fz8.out.1.trans (qz9.mono (by have h1 := Fz8.out.1.size; have h2 := G2.out; omega)), Fz8.out.2.1.below qz9, Fz8.out.2.2.below qz9⟩)
          clear qz9
          refine wpAny_take (i := 12) (oi := ⟨some 37, _, _, _, _, _⟩) (v := (.bool true)) rfl (by kernel_rfl) (by kernel_rfl) (by kernel_rfl) (fun _ _ _ h => h) (Or.inl ⟨rfl, fun w => run_eq26 _ _ _ _ _ (codeS key t) (codeS_len _ _) rfl rfl rfl⟩) ?_
          simp only [Act.put, List.setIfInBounds_toArray, List.set_cons_zero, List.set_cons_succ]
          refine wpAny_take (i := 13) (oi := ⟨some 38, _, _, _, _, _⟩) (v := (.bool true)) rfl (by kernel_rfl) (by kernel_rfl) (by kernel_rfl) (fun _ _ _ h => h) (Or.inl ⟨rfl, fun w => by kernel_rfl⟩) ?_
          simp only [Act.put, List.setIfInBounds_toArray, List.set_cons_zero, List.set_cons_succ]
          refine wpAny_take (i := 14) (oi := ⟨some 39, _, _, _, _, _⟩) (v := (.slice a n c)) rfl (by kernel_rfl) (by kernel_rfl) (by kernel_rfl) (fun _ _ _ h => h) (Or.inl ⟨rfl, fun w => by kernel_rfl⟩) ?_
          simp only [Act.put, List.setIfInBounds_toArray, List.set_cons_zero, List.set_cons_succ]
          refine wpAny_take (i := 16) (oi := ⟨some 41, _, _, _, _, _⟩) (v := (.string (strOfNums t))) rfl (by kernel_rfl) (by kernel_rfl) (by kernel_rfl) (fun _ _ _ h => h) (Or.inl ⟨rfl, fun w => by kernel_rfl⟩) ?_
          simp only [Act.put, List.setIfInBounds_toArray, List.set_cons_zero, List.set_cons_succ]
          refine wpAny_all (rs := [15]) (by kernel_rfl) (by simp) ?_
          intro i hi
          simp only [List.mem_cons, List.not_mem_nil, or_false] at hi
          subst hi
          refine op_val (o := ⟨some 40, _, _, _, _, _⟩) (.string (strOfNums t)) rfl rfl (run_conv_str _ _ _ _ _ _ _ t rfl rfl (HS.out.below (below_eq Fz9.out.1 G2.out)).1) ?_
          simp only [Act.put, List.setIfInBounds_toArray, List.set_cons_zero, List.set_cons_succ]
          refine wpAny_take (i := 17) (oi := ⟨some 42, _, _, _, _, _⟩) (v := (.bool true)) rfl (by kernel_rfl) (by kernel_rfl) (by kernel_rfl) (fun _ _ _ h => h) (Or.inl ⟨rfl, fun w => run_str_eql _ _ _ _ _ t t true rfl rfl rfl (by simp) HS.out.1.2.2.1 HS.out.1.2.2.1⟩) ?_
          simp only [Act.put, List.setIfInBounds_toArray, List.set_cons_zero, List.set_cons_succ]
          refine wpAny_take (i := 18) (oi := ⟨some 43, _, _, _, _, _⟩) (v := (.bool true)) rfl (by kernel_rfl) (by kernel_rfl) (by kernel_rfl) (fun _ _ _ h => h) (Or.inl ⟨rfl, fun w => by kernel_rfl⟩) ?_
          simp only [Act.put, List.setIfInBounds_toArray, List.set_cons_zero, List.set_cons_succ]
          refine wpAny_take (i := 19) (oi := ⟨some 6, _, _, _, _, _⟩) (v := (.bool true)) rfl (by kernel_rfl) (by kernel_rfl) (by kernel_rfl) (fun _ _ _ h => h) (Or.inl ⟨rfl, fun w => by kernel_rfl⟩) ?_
          simp only [Act.put, List.setIfInBounds_toArray, List.set_cons_zero, List.set_cons_succ]
          refine wpAny_done (by kernel_rfl) ?_ _
          go_wp2_with fail
          go_ret
          exact ⟨rfl, by rw [G2.out]; exact Fz9.out.1⟩
      · refine op_val (o := ⟨some 34, _, _, _, _, _⟩) (.agg (u8l key).toArray) rfl rfl (run_load_mid _ _ _ 23 _ rfl g2 0 rfl (u8l key) _ (range_blk (F0.out.2)) Try.underlying23 rfl (by rw [u8l_len, HKY.out.1]; kernel_rfl)) ?_
        simp only [Act.put, List.setIfInBounds_toArray, List.set_cons_zero, List.set_cons_succ]
        refine wpAny_all (rs := [7]) (by kernel_rfl) (by simp) ?_
        intro i hi
        simp only [List.mem_cons, List.not_mem_nil, or_false] at hi
        subst hi
        obtain ⟨z12, hz12⟩ : ∃ V, V = w2.drew.alloc (.cells #[.slice a k c, .slice (dropA a c k) (n - k) (c - k)] 24) := ⟨_, rfl⟩
        obtain ⟨gz12, kz12⟩ : ∃ q, w2.drew.heap.size = q := ⟨_, rfl⟩
        have qz12 : Below w2.drew.heap.size w2.drew z12 := by rw [hz12]; exact (Below.refl _ _).alloc (Nat.le_refl _) _
        have bz12 : Blk z12 gz12 24 #[.slice a k c, .slice (dropA a c k) (n - k) (c - k)] := by rw [hz12, ← kz12]; exact Blk.new _ _ _
        have Fz120 := Lib.hid (show Below g2 w z12 ∧ Blk z12 g2 23 (u8l key).toArray from ⟨F0.out.1.trans (qz12.mono (by have h1 := F0.out.1.size; have h2 := G2.out; omega)), F0.out.2.below qz12⟩)
        have Fz12 := Lib.hid (show Below g2 w z12 ∧ Blk z12 g2 23 (u8l key).toArray ∧ PSl z12 (some ⟨gz12, 0, none⟩) 2 [t.take k, t.drop k] from ⟨Fz120.out.1, Fz120.out.2, psl_two bz12 ((HS.out.below (below_eq Fz120.out.1 G2.out)).takeN k HKK.out.2) ((HS.out.below (below_eq Fz120.out.1 G2.out)).drop k HKK.out.2) (by have := HN.out; have := HKK.out; omega)⟩)
        clear qz12 bz12 Fz120
        refine op_valw (o := ⟨some 32, _, _, _, _, _⟩) (.slice (some ⟨gz12, 0, none⟩) 2 2) z12 rfl rfl (by rw [hz12, ← kz12]; kernel_rfl) ?_
        simp only [Act.put, List.setIfInBounds_toArray, List.set_cons_zero, List.set_cons_succ]
        clear hz12 kz12
        refine wpAny_all (rs := [8]) (by kernel_rfl) (by simp) ?_
        intro i hi
        simp only [List.mem_cons, List.not_mem_nil, or_false] at hi
        subst hi
        refine op_call (o := ⟨some 33, _, _, _, _, _⟩) 10 #[.agg (u8l key).toArray, .slice (some ⟨gz12, 0, none⟩) 2 2] rfl rfl (by kernel_rfl) (((code_flat z12 key gz12 2 [t.take k, t.drop k] (t) HKY.out Fz12.out.2.2 (by omega) (by simp))).mono fun e z13 ⟨he, qz13⟩ => ⟨.agg (u8l (codeS key t)).toArray, he, ?_⟩)
        simp only [Act.put, List.setIfInBounds_toArray, List.set_cons_zero, List.set_cons_succ]
        have Fz13 := Lib.hid (show Below g2 w z13 ∧ Blk z13 g2 23 (u8l key).toArray ∧ PSl z13 (some ⟨gz12, 0, none⟩) 2 [t.take k, t.drop k] from ⟨Fz12.out.1.trans (qz13.mono (by have h1 := Fz12.out.1.size; have h2 := G2.out; omega)), Fz12.out.2.1.below qz13, Fz12.out.2.2.below qz13⟩)
        clear qz13
        refine wpAny_all (rs := [11]) (by kernel_rfl) (by simp) ?_
        intro i hi
        simp only [List.mem_cons, List.not_mem_nil, or_false] at hi
        subst hi
        refine op_call (o := ⟨some 36, _, _, _, _, _⟩) 11 #[.agg (u8l key).toArray, .slice a n c] rfl rfl (by kernel_rfl) (((refcode_any z13 key _ _ _ t HKY.out (HS.out.below (below_eq Fz13.out.1 G2.out)) (by have := HN.out; omega))).mono fun e z14 ⟨he, qz14⟩ => ⟨.agg (u8l (codeS key t)).toArray, he, ?_⟩)
        simp only [Act.put, List.setIfInBounds_toArray, List.set_cons_zero, List.set_cons_succ]
        have Fz14 := Lib.hid (show Below g2 w z14 ∧ Blk z14 g2 23 (u8l key).toArray ∧ PSl z14 (some ⟨gz12, 0, none⟩) 2 [t.take k, t.drop k] from ⟨Fz13.out.1.trans (qz14.mono (by have h1 := Fz13.out.1.size; have h2 := G2.out; omega)), Fz13.out.2.1.below qz14, Fz13.out.2.2.below qz14⟩)
        clear qz14
        refine wpAny_take (i := 12) (oi := ⟨some 37, _, _, _, _, _⟩) (v := (.bool true)) rfl (by kernel_rfl) (by kernel_rfl) (by kernel_rfl) (fun _ _ _ h => h) (Or.inl ⟨rfl, fun w => run_eq26 _ _ _ _ _ (codeS key t) (codeS_len _ _) rfl rfl rfl⟩) ?_
        simp only [Act.put, List.setIfInBounds_toArray, List.set_cons_zero, List.set_cons_succ]
        refine wpAny_take (i := 13) (oi := ⟨some 38, _, _, _, _, _⟩) (v := (.bool true)) rfl (by kernel_rfl) (by kernel_rfl) (by kernel_rfl) (fun _ _ _ h => h) (Or.inl ⟨rfl, fun w => by kernel_rfl⟩) ?_
        simp only [Act.put, List.setIfInBounds_toArray, List.set_cons_zero, List.set_cons_succ]
        refine wpAny_take (i := 14) (oi := ⟨some 39, _, _, _, _, _⟩) (v := (.slice a n c)) rfl (by kernel_rfl) (by kernel_rfl) (by kernel_rfl) (fun _ _ _ h => h) (Or.inl ⟨rfl, fun w => by kernel_rfl⟩) ?_
        simp only [Act.put, List.setIfInBounds_toArray, List.set_cons_zero, List.set_cons_succ]
        refine wpAny_take (i := 16) (oi := ⟨some 41, _, _, _, _, _⟩) (v := (.string (strOfNums t))) rfl (by kernel_rfl) (by kernel_rfl) (by kernel_rfl) (fun _ _ _ h => h) (Or.inl ⟨rfl, fun w => by kernel_rfl⟩) ?_
        simp only [Act.put, List.setIfInBounds_toArray, List.set_cons_zero, List.set_cons_succ]
        refine wpAny_all (rs := [15]) (by kernel_rfl) (by simp) ?_
        intro i hi
        simp only [List.mem_cons, List.not_mem_nil, or_false] at hi
        subst hi
        refine op_val (o := ⟨some 40, _, _, _, _, _⟩) (.string (strOfNums t)) rfl rfl (run_conv_str _ _ _ _ _ _ _ t rfl rfl (HS.out.below (below_eq Fz14.out.1 G2.out)).1) ?_
        simp only [Act.put, List.setIfInBounds_toArray, List.set_cons_zero, List.set_cons_succ]
        refine wpAny_take (i := 17) (oi := ⟨some 42, _, _, _, _, _⟩) (v := (.bool true)) rfl (by kernel_rfl) (by kernel_rfl) (by kernel_rfl) (fun _ _ _ h => h) (Or.inl ⟨rfl, fun w => run_str_eql _ _ _ _ _ t t true rfl rfl rfl (by simp) HS.out.1.2.2.1 HS.out.1.2.2.1⟩) ?_
        simp only [Act.put, List.setIfInBounds_toArray, List.set_cons_zero, List.set_cons_succ]
        refine wpAny_take (i := 18) (oi := ⟨some 43, _, _, _, _, _⟩) (v := (.bool true)) rfl (by kernel_rfl) (by kernel_rfl) (by kernel_rfl) (fun _ _ _ h => h) (Or.inl ⟨rfl, fun w => by kernel_rfl⟩) ?_
        simp only [Act.put, List.setIfInBounds_toArray, List.set_cons_zero, List.set_cons_succ]
        refine wpAny_take (i := 19) (oi := ⟨some 6, _, _, _, _, _⟩) (v := (.bool true)) rfl (by kernel_rfl) (by kernel_rfl) (by kernel_rfl) (fun _ _ _ h => h) (Or.inl ⟨rfl, fun w => by kernel_rfl⟩) ?_
        simp only [Act.put, List.setIfInBounds_toArray, List.set_cons_zero, List.set_cons_succ]
        refine wpAny_done (by kernel_rfl) ?_ _
        go_wp2_with fail
        go_ret
        exact ⟨rfl, by rw [G2.out]; exact Fz14.out.1⟩
    · obtain ⟨z16, hz16⟩ : ∃ V, V = w2.drew.alloc (.cells #[.slice a k c, .slice (dropA a c k) (n - k) (c - k)] 24) := ⟨_, rfl⟩
      obtain ⟨gz16, kz16⟩ : ∃ q, w2.drew.heap.size = q := ⟨_, rfl⟩
      have qz16 : Below w2.drew.heap.size w2.drew z16 := by rw [hz16]; exact (Below.refl _ _).alloc (Nat.le_refl _) _
      have bz16 : Blk z16 gz16 24 #[.slice a k c, .slice (dropA a c k) (n - k) (c - k)] := by rw [hz16, ← kz16]; exact Blk.new _ _ _
      have Fz160 := Lib.hid (show Below g2 w z16 ∧ Blk z16 g2 23 (u8l key).toArray from ⟨F0.out.1.trans (qz16.mono (by have h1 := F0.out.1.size; have h2 := G2.out; omega)), F0.out.2.below qz16⟩)
      have Fz16 := Lib.hid (show Below g2 w z16 ∧ Blk z16 g2 23 (u8l key).toArray ∧ PSl z16 (some ⟨gz16, 0, none⟩) 2 [t.take k, t.drop k] from ⟨Fz160.out.1, Fz160.out.2, psl_two bz16 ((HS.out.below (below_eq Fz160.out.1 G2.out)).takeN k HKK.out.2) ((HS.out.below (below_eq Fz160.out.1 G2.out)).drop k HKK.out.2) (by have := HN.out; have := HKK.out; omega)⟩)
      clear qz16 bz16 Fz160
      refine op_valw (o := ⟨some 32, _, _, _, _, _⟩) (.slice (some ⟨gz16, 0, none⟩) 2 2) z16 rfl rfl (by rw [hz16, ← kz16]; kernel_rfl) ?_
      simp only [Act.put, List.setIfInBounds_toArray, List.set_cons_zero, List.set_cons_succ]
      clear hz16 kz16
      refine wpAny_all (rs := [0, 9]) (by kernel_rfl) (by simp) ?_
      intro i hi
      simp only [List.mem_cons, List.not_mem_nil, or_false] at hi
      rcases hi with rfl | rfl
      · refine op_val (o := ⟨some 25, _, _, _, _, _⟩) (.agg (u8l key).toArray) rfl rfl (run_load_mid _ _ _ 23 _ rfl g2 0 rfl (u8l key) _ (range_blk (Fz16.out.2.1)) Try.underlying23 rfl (by rw [u8l_len, HKY.out.1]; kernel_rfl)) ?_
        simp only [Act.put, List.setIfInBounds_toArray, List.set_cons_zero, List.set_cons_succ]
        refine wpAny_all (rs := [8, 9]) (by kernel_rfl) (by simp) ?_
        intro i hi
        simp only [List.mem_cons, List.not_mem_nil, or_false] at hi
        rcases hi with rfl | rfl
        · refine op_call (o := ⟨some 33, _, _, _, _, _⟩) 10 #[.agg (u8l key).toArray, .slice (some ⟨gz16, 0, none⟩) 2 2] rfl rfl (by kernel_rfl) (((code_flat z16 key gz16 2 [t.take k, t.drop k] (t) HKY.out Fz16.out.2.2 (by omega) (by simp))).mono fun e z18 ⟨he, qz18⟩ => ⟨.agg (u8l (codeS key t)).toArray, he, ?_⟩)
          simp only [Act.put, List.setIfInBounds_toArray, List.set_cons_zero, List.set_cons_succ]
          have Fz18 := Lib.hid (show Below g2 w z18 ∧ Blk z18 g2 23 (u8l key).toArray ∧ PSl z18 (some ⟨gz16, 0, none⟩) 2 [t.take k, t.drop k] from ⟨Fz16.out.1.trans (qz18.mono (by have h1 := Fz16.out.1.size; have h2 := G2.out; omega)), Fz16.out.2.1.below qz18, Fz16.out.2.2.below qz18⟩)
          clear qz18
          refine wpAny_all (rs := [9]) (by kernel_rfl) (by simp) ?_
          intro i hi
          simp only [List.mem_cons, List.not_mem_nil, or_false] at hi
          subst hi
          refine op_val (o := ⟨some 34, _, _, _, _, _⟩) (.agg (u8l key).toArray) rfl rfl (run_load_mid _ _ _ 23 _ rfl g2 0 rfl (u8l key) _ (range_blk (Fz18.out.2.1)) Try.underlying23 rfl (by rw [u8l_len, HKY.out.1]; kernel_rfl)) ?_
          simp only [Act.put, List.setIfInBounds_toArray, List.set_cons_zero, List.set_cons_succ]
          refine wpAny_all (rs := [11]) (by kernel_rfl) (by simp) ?_
          intro i hi
          simp only [List.mem_cons, List.not_mem_nil, or_false] at hi
          subst hi
          refine op_call (o := ⟨some 36, _, _, _, _, _⟩) 11 #[.agg (u8l key).toArray, .slice a n c] rfl rfl (by kernel_rfl) (((refcode_any z18 key _ _ _ t HKY.out (HS.out.below (below_eq Fz18.out.1 G2.out)) (by have := HN.out; omega))).mono fun e z20 ⟨he, qz20⟩ => ⟨.agg (u8l (codeS key t)).toArray, he, ?_⟩)
          simp only [Act.put, List.setIfInBounds_toArray, List.set_cons_zero, List.set_cons_succ]
          have Fz20 := Lib.hid (show Below g2 w z20 ∧ Blk z20 g2 23 (u8l key).toArray ∧ PSl z20 (some ⟨gz16, 0, none⟩) 2 [t.take k, t.drop k] from ⟨Fz18.out.1.trans (qz20.mono (by have h1 := Fz18.out.1.size; have h2 := G2.out; omega)), Fz18.out.2.1.below qz20, Fz18.out.2.2.below qz20⟩)
          clear qz20
          refine wpAny_take (i := 12) (oi := ⟨some 37, _, _, _, _, _⟩) (v := (.bool true)) rfl (by kernel_rfl) (by kernel_rfl) (by kernel_rfl) (fun _ _ _ h => h) (Or.inl ⟨rfl, fun w => run_eq26 _ _ _ _ _ (codeS key t) (codeS_len _ _) rfl rfl rfl⟩) ?_
          simp only [Act.put, List.setIfInBounds_toArray, List.set_cons_zero, List.set_cons_succ]
          refine wpAny_take (i := 13) (oi := ⟨some 38, _, _, _, _, _⟩) (v := (.bool true)) rfl (by kernel_rfl) (by kernel_rfl) (by kernel_rfl) (fun _ _ _ h => h) (Or.inl ⟨rfl, fun w => by kernel_rfl⟩) ?_
          simp only [Act.put, List.setIfInBounds_toArray, List.set_cons_zero, List.set_cons_succ]
          refine wpAny_take (i := 14) (oi := ⟨some 39, _, _, _, _, _⟩) (v := (.slice a n c)) rfl (by kernel_rfl) (by kernel_rfl) (by kernel_rfl) (fun _ _ _ h => h) (Or.inl ⟨rfl, fun w => by kernel_rfl⟩) ?_
          simp only [Act.put, List.setIfInBounds_toArray, List.set_cons_zero, List.set_cons_succ]
          refine wpAny_take (i := 16) (oi := ⟨some 41, _, _, _, _, _⟩) (v := (.string (strOfNums t))) rfl (by kernel_rfl) (by kernel_rfl) (by kernel_rfl) (fun _ _ _ h => h) (Or.inl ⟨rfl, fun w => by kernel_rfl⟩) ?_
          simp only [Act.put, List.setIfInBounds_toArray, List.set_cons_zero, List.set_cons_succ]
          refine wpAny_all (rs := [15]) (by kernel_rfl) (by simp) ?_
          intro i hi
          simp only [List.mem_cons, List.not_mem_nil, or_false] at hi
          subst hi
          refine op_val (o := ⟨some 40, _, _, _, _, _⟩) (.string (strOfNums t)) rfl rfl (run_conv_str _ _ _ _ _ _ _ t rfl rfl (HS.out.below (below_eq Fz20.out.1 G2.out)).1) ?_
          simp only [Act.put, List.setIfInBounds_toArray, List.set_cons_zero, List.set_cons_succ]
          refine wpAny_take (i := 17) (oi := ⟨some 42, _, _, _, _, _⟩) (v := (.bool true)) rfl (by kernel_rfl) (by kernel_rfl) (by kernel_rfl) (fun _ _ _ h => h) (Or.inl ⟨rfl, fun w => run_str_eql _ _ _ _ _ t t true rfl rfl rfl (by simp) HS.out.1.2.2.1 HS.out.1.2.2.1⟩) ?_
          simp only [Act.put, List.setIfInBounds_toArray, List.set_cons_zero, List.set_cons_succ]
          refine wpAny_take (i := 18) (oi := ⟨some 43, _, _, _, _, _⟩) (v := (.bool true)) rfl (by kernel_rfl) (by kernel_rfl) (by kernel_rfl) (fun _ _ _ h => h) (Or.inl ⟨rfl, fun w => by kernel_rfl⟩) ?_
          simp only [Act.put, List.setIfInBounds_toArray, List.set_cons_zero, List.set_cons_succ]
          refine wpAny_take (i := 19) (oi := ⟨some 6, _, _, _, _, _⟩) (v := (.bool true)) rfl (by kernel_rfl) (by kernel_rfl) (by kernel_rfl) (fun _ _ _ h => h) (Or.inl ⟨rfl, fun w => by kernel_rfl⟩) ?_
          simp only [Act.put, List.setIfInBounds_toArray, List.set_cons_zero, List.set_cons_succ]
          refine wpAny_done (by kernel_rfl) ?_ _
          go_wp2_with fail
          go_ret
          exact ⟨rfl, by rw [G2.out]; exact Fz20.out.1⟩
        · refine op_val (o := ⟨some 34, _, _, _, _, _⟩) (.agg (u8l key).toArray) rfl rfl (run_load_mid _ _ _ 23 _ rfl g2 0 rfl (u8l key) _ (range_blk (Fz16.out.2.1)) Try.underlying23 rfl (by rw [u8l_len, HKY.out.1]; kernel_rfl)) ?_
          simp only [Act.put, List.setIfInBounds_toArray, List.set_cons_zero, List.set_cons_succ]
          refine wpAny_all (rs := [8]) (by kernel_rfl) (by simp) ?_
          intro i hi
          simp only [List.mem_cons, List.not_mem_nil, or_false] at hi
          subst hi
          refine op_call (o := ⟨some 33, _, _, _, _, _⟩) 10 #[.agg (u8l key).toArray, .slice (some ⟨gz16, 0, none⟩) 2 2] rfl rfl (by kernel_rfl) (((code_flat z16 key gz16 2 [t.take k, t.drop k] (t) HKY.out Fz16.out.2.2 (by omega) (by simp))).mono fun e z23 ⟨he, qz23⟩ => ⟨.agg (u8l (codeS key t)).toArray, he, ?_⟩)
          simp only [Act.put, List.setIfInBounds_toArray, List.set_cons_zero, List.set_cons_succ]
          have Fz23 := Lib.hid (show Below g2 w z23 ∧ Blk z23 g2 23 (u8l key).toArray ∧ PSl z23 (some ⟨gz16, 0, none⟩) 2 [t.take k, t.drop k] from ⟨Fz16.out.1.trans (qz23.mono (by have h1 := Fz16.out.1.size; have h2 := G2.out; omega)), Fz16.out.2.1.below qz23, Fz16.out.2.2.below qz23⟩)
          clear qz23
          refine wpAny_all (rs := [11]) (by kernel_rfl) (by simp) ?_
          intro i hi
          simp only [List.mem_cons, List.not_mem_nil, or_false] at hi
          subst hi
          refine op_call (o := ⟨some 36, _, _, _, _, _⟩) 11 #[.agg (u8l key).toArray, .slice a n c] rfl rfl (by kernel_rfl) (((refcode_any z23 key _ _ _ t HKY.out (HS.out.below (below_eq Fz23.out.1 G2.out)) (by have := HN.out; omega))).mono fun e z24 ⟨he, qz24⟩ => ⟨.agg (u8l (codeS key t)).toArray, he, ?_⟩)
          simp only [Act.put, List.setIfInBounds_toArray, List.set_cons_zero, List.set_cons_succ]
          have Fz24 := Lib.hid (show Below g2 w z24 ∧ Blk z24 g2 23 (u8l key).toArray ∧ PSl z24 (some ⟨gz16, 0, none⟩) 2 [t.take k, t.drop k] from ⟨Fz23.out.1.trans (qz24.mono (by have h1 := Fz23.out.1.size; have h2 := G2.out; omega)), Fz23.out.2.1.below qz24, Fz23.out.2.2.below qz24⟩)
          clear qz24
          refine wpAny_take (i := 12) (oi := ⟨some 37, _, _, _, _, _⟩) (v := (.bool true)) rfl (by kernel_rfl) (by kernel_rfl) (by kernel_rfl) (fun _ _ _ h => h) (Or.inl ⟨rfl, fun w => run_eq26 _ _ _ _ _ (codeS key t) (codeS_len _ _) rfl rfl rfl⟩) ?_
          simp only [Act.put, List.setIfInBounds_toArray, List.set_cons_zero, List.set_cons_succ]
          refine wpAny_take (i := 13) (oi := ⟨some 38, _, _, _, _, _⟩) (v := (.bool true)) rfl (by kernel_rfl) (by kernel_rfl) (by kernel_rfl) (fun _ _ _ h => h) (Or.inl ⟨rfl, fun w => by kernel_rfl⟩) ?_
          simp only [Act.put, List.setIfInBounds_toArray, List.set_cons_zero, List.set_cons_succ]
          refine wpAny_take (i := 14) (oi := ⟨some 39, _, _, _, _, _⟩) (v := (.slice a n c)) rfl (by kernel_rfl) (by kernel_rfl) (by kernel_rfl) (fun _ _ _ h => h) (Or.inl ⟨rfl, fun w => by kernel_rfl⟩) ?_
          simp only [Act.put, List.setIfInBounds_toArray, List.set_cons_zero, List.set_cons_succ]
          refine wpAny_take (i := 16) (oi := ⟨some 41, _, _, _, _, _⟩) (v := (.string (strOfNums t))) rfl (by kernel_rfl) (by kernel_rfl) (by kernel_rfl) (fun _ _ _ h => h) (Or.inl ⟨rfl, fun w => by kernel_rfl⟩) ?_
          simp only [Act.put, List.setIfInBounds_toArray, List.set_cons_zero, List.set_cons_succ]
          refine wpAny_all (rs := [15]) (by kernel_rfl) (by simp) ?_
          intro i hi
          simp only [List.mem_cons, List.not_mem_nil, or_false] at hi
          subst hi
          refine op_val (o := ⟨some 40, _, _, _, _, _⟩) (.string (strOfNums t)) rfl rfl (run_conv_str _ _ _ _ _ _ _ t rfl rfl (HS.out.below (below_eq Fz24.out.1 G2.out)).1) ?_
          simp only [Act.put, List.setIfInBounds_toArray, List.set_cons_zero, List.set_cons_succ]
          refine wpAny_take (i := 17) (oi := ⟨some 42, _, _, _, _, _⟩) (v := (.bool true)) rfl (by kernel_rfl) (by kernel_rfl) (by kernel_rfl) (fun _ _ _ h => h) (Or.inl ⟨rfl, fun w => run_str_eql _ _ _ _ _ t t true rfl rfl rfl (by simp) HS.out.1.2.2.1 HS.out.1.2.2.1⟩) ?_
          simp only [Act.put, List.setIfInBounds_toArray, List.set_cons_zero, List.set_cons_succ]
          refine wpAny_take (i := 18) (oi := ⟨some 43, _, _, _, _, _⟩) (v := (.bool true)) rfl (by kernel_rfl) (by kernel_rfl) (by kernel_rfl) (fun _ _ _ h => h) (Or.inl ⟨rfl, fun w => by kernel_rfl⟩) ?_
          simp only [Act.put, List.setIfInBounds_toArray, List.set_cons_zero, List.set_cons_succ]
          refine wpAny_take (i := 19) (oi := ⟨some 6, _, _, _, _, _⟩) (v := (.bool true)) rfl (by kernel_rfl) (by kernel_rfl) (by kernel_rfl) (fun _ _ _ h => h) (Or.inl ⟨rfl, fun w => by kernel_rfl⟩) ?_
          simp only [Act.put, List.setIfInBounds_toArray, List.set_cons_zero, List.set_cons_succ]
          refine wpAny_done (by kernel_rfl) ?_ _
          go_wp2_with fail
          go_ret
          exact ⟨rfl, by rw [G2.out]; exact Fz24.out.1⟩
      · refine op_val (o := ⟨some 34, _, _, _, _, _⟩) (.agg (u8l key).toArray) rfl rfl (run_load_mid _ _ _ 23 _ rfl g2 0 rfl (u8l key) _ (range_blk (Fz16.out.2.1)) Try.underlying23 rfl (by rw [u8l_len, HKY.out.1]; kernel_rfl)) ?_
        simp only [Act.put, List.setIfInBounds_toArray, List.set_cons_zero, List.set_cons_succ]
        refine wpAny_all (rs := [0]) (by kernel_rfl) (by simp) ?_
        intro i hi
        simp only [List.mem_cons, List.not_mem_nil, or_false] at hi
        subst hi
        refine op_val (o := ⟨some 25, _, _, _, _, _⟩) (.agg (u8l key).toArray) rfl rfl (run_load_mid _ _ _ 23 _ rfl g2 0 rfl (u8l key) _ (range_blk (Fz16.out.2.1)) Try.underlying23 rfl (by rw [u8l_len, HKY.out.1]; kernel_rfl)) ?_
        simp only [Act.put, List.setIfInBounds_toArray, List.set_cons_zero, List.set_cons_succ]
        refine wpAny_all (rs := [8]) (by kernel_rfl) (by simp) ?_
        intro i hi
        simp only [List.mem_cons, List.not_mem_nil, or_false] at hi
        subst hi
        refine op_call (o := ⟨some 33, _, _, _, _, _⟩) 10 #[.agg (u8l key).toArray, .slice (some ⟨gz16, 0, none⟩) 2 2] rfl rfl (by kernel_rfl) (((code_flat z16 key gz16 2 [t.take k, t.drop k] (t) HKY.out Fz16.out.2.2 (by omega) (by simp))).mono fun e z28 ⟨he, qz28⟩ => ⟨.agg (u8l (codeS key t)).toArray, he, ?_⟩)
        simp only [Act.put, List.setIfInBounds_toArray, List.set_cons_zero, List.set_cons_succ]
        have Fz28 := Lib.hid (show Below g2 w z28 ∧ Blk z28 g2 23 (u8l key).toArray ∧ PSl z28 (some ⟨gz16, 0, none⟩) 2 [t.take k, t.drop k] from ⟨Fz16.out.1.trans (qz28.mono (by have h1 := Fz16.out.1.size; have h2 := G2.out; omega)), Fz16.out.2.1.below qz28, Fz16.out.2.2.below qz28⟩)
        clear qz28
        refine wpAny_all (rs := [11]) (by kernel_rfl) (by simp) ?_
        intro i hi
        simp only [List.mem_cons, List.not_mem_nil, or_false] at hi
        subst hi
        refine op_call (o := ⟨some 36, _, _, _, _, _⟩) 11 #[.agg (u8l key).toArray, .slice a n c] rfl rfl (by kernel_rfl) (((refcode_any z28 key _ _ _ t HKY.out (HS.out.below (below_eq Fz28.out.1 G2.out)) (by have := HN.out; omega))).mono fun e z29 ⟨he, qz29⟩ => ⟨.agg (u8l (codeS key t)).toArray, he, ?_⟩)
        simp only [Act.put, List.setIfInBounds_toArray, List.set_cons_zero, List.set_cons_succ]
        have Fz29 := Lib.hid (show Below g2 w z29 ∧ Blk z29 g2 23 (u8l key).toArray ∧ PSl z29 (some ⟨gz16, 0, none⟩) 2 [t.take k, t.drop k] from ⟨Fz28.out.1.trans (qz29.mono (by have h1 := Fz28.out.1.size; have h2 := G2.out; omega)), Fz28.out.2.1.below qz29, Fz28.out.2.2.below qz29⟩)
        clear qz29
        refine wpAny_take (i := 12) (oi := ⟨some 37, _, _, _, _, _⟩) (v := (.bool true)) rfl (by kernel_rfl) (by kernel_rfl) (by kernel_rfl) (fun _ _ _ h => h) (Or.inl ⟨rfl, fun w => run_eq26 _ _ _ _ _ (codeS key t) (codeS_len _ _) rfl rfl rfl⟩) ?_
        simp only [Act.put, List.setIfInBounds_toArray, List.set_cons_zero, List.set_cons_succ]
        refine wpAny_take (i := 13) (oi := ⟨some 38, _, _, _, _, _⟩) (v := (.bool true)) rfl (by kernel_rfl) (by kernel_rfl) (by kernel_rfl) (fun _ _ _ h => h) (Or.inl ⟨rfl, fun w => by kernel_rfl⟩) ?_
        simp only [Act.put, List.setIfInBounds_toArray, List.set_cons_zero, List.set_cons_succ]
        refine wpAny_take (i := 14) (oi := ⟨some 39, _, _, _, _, _⟩) (v := (.slice a n c)) rfl (by kernel_rfl) (by kernel_rfl) (by kernel_rfl) (fun _ _ _ h => h) (Or.inl ⟨rfl, fun w => by kernel_rfl⟩) ?_
        simp only [Act.put, List.setIfInBounds_toArray, List.set_cons_zero, List.set_cons_succ]
        refine wpAny_take (i := 16) (oi := ⟨some 41, _, _, _, _, _⟩) (v := (.string (strOfNums t))) rfl (by kernel_rfl) (by kernel_rfl) (by kernel_rfl) (fun _ _ _ h => h) (Or.inl ⟨rfl, fun w => by kernel_rfl⟩) ?_
        simp only [Act.put, List.setIfInBounds_toArray, List.set_cons_zero, List.set_cons_succ]
        refine wpAny_all (rs := [15]) (by kernel_rfl) (by simp) ?_
        intro i hi
        simp only [List.mem_cons, List.not_mem_nil, or_false] at hi
        subst hi
        refine op_val (o := ⟨some 40, _, _, _, _, _⟩) (.string (strOfNums t)) rfl rfl (run_conv_str _ _ _ _ _ _ _ t rfl rfl (HS.out.below (below_eq Fz29.out.1 G2.out)).1) ?_
        simp only [Act.put, List.setIfInBounds_toArray, List.set_cons_zero, List.set_cons_succ]
        refine wpAny_take (i := 17) (oi := ⟨some 42, _, _, _, _, _⟩) (v := (.bool true)) rfl (by kernel_rfl) (by kernel_rfl) (by kernel_rfl) (fun _ _ _ h => h) (Or.inl ⟨rfl, fun w => run_str_eql _ _ _ _ _ t t true rfl rfl rfl (by simp) HS.out.1.2.2.1 HS.out.1.2.2.1⟩) ?_
        simp only [Act.put, List.setIfInBounds_toArray, List.set_cons_zero, List.set_cons_succ]
        refine wpAny_take (i := 18) (oi := ⟨some 43, _, _, _, _, _⟩) (v := (.bool true)) rfl (by kernel_rfl) (by kernel_rfl) (by kernel_rfl) (fun _ _ _ h => h) (Or.inl ⟨rfl, fun w => by kernel_rfl⟩) ?_
        simp only [Act.put, List.setIfInBounds_toArray, List.set_cons_zero, List.set_cons_succ]
        refine wpAny_take (i := 19) (oi := ⟨some 6, _, _, _, _, _⟩) (v := (.bool true)) rfl (by kernel_rfl) (by kernel_rfl) (by kernel_rfl) (fun _ _ _ h => h) (Or.inl ⟨rfl, fun w => by kernel_rfl⟩) ?_
        simp only [Act.put, List.setIfInBounds_toArray, List.set_cons_zero, List.set_cons_succ]
        refine wpAny_done (by kernel_rfl) ?_ _
        go_wp2_with fail
        go_ret
        exact ⟨rfl, by rw [G2.out]; exact Fz29.out.1⟩
    · refine op_val (o := ⟨some 34, _, _, _, _, _⟩) (.agg (u8l key).toArray) rfl rfl (run_load_mid _ _ _ 23 _ rfl g2 0 rfl (u8l key) _ (range_blk (F0.out.2)) Try.underlying23 rfl (by rw [u8l_len, HKY.out.1]; kernel_rfl)) ?_
      simp only [Act.put, List.setIfInBounds_toArray, List.set_cons_zero, List.set_cons_succ]
      refine wpAny_all (rs := [0, 7]) (by kernel_rfl) (by simp) ?_
      intro i hi
      simp only [List.mem_cons, List.not_mem_nil, or_false] at hi
      rcases hi with rfl | rfl
      · refine op_val (o := ⟨some 25, _, _, _, _, _⟩) (.agg (u8l key).toArray) rfl rfl (run_load_mid _ _ _ 23 _ rfl g2 0 rfl (u8l key) _ (range_blk (F0.out.2)) Try.underlying23 rfl (by rw [u8l_len, HKY.out.1]; kernel_rfl)) ?_
        simp only [Act.put, List.setIfInBounds_toArray, List.set_cons_zero, List.set_cons_succ]
        refine wpAny_all (rs := [7]) (by kernel_rfl) (by simp) ?_
        intro i hi
        simp only [List.mem_cons, List.not_mem_nil, or_false] at hi
        subst hi
        obtain ⟨z33, hz33⟩ : ∃ V, V = w2.drew.alloc (.cells #[.slice a k c, .slice (dropA a c k) (n - k) (c - k)] 24) := ⟨_, rfl⟩
        obtain ⟨gz33, kz33⟩ : ∃ q, w2.drew.heap.size = q := ⟨_, rfl⟩
        have qz33 : Below w2.drew.heap.size w2.drew z33 := by rw [hz33]; exact (Below.refl _ _).alloc (Nat.le_refl _) _
        have bz33 : Blk z33 gz33 24 #[.slice a k c, .slice (dropA a c k) (n - k) (c - k)] := by rw [hz33, ← kz33]; exact Blk.new _ _ _
        have Fz330 := Lib.hid (show Below g2 w z33 ∧ Blk z33 g2 23 (u8l key).toArray from ⟨F0.out.1.trans (qz33.mono (by have h1 := F0.out.1.size; have h2 := G2.out; omega)), F0.out.2.below qz33⟩)
        have Fz33 := Lib.hid (show Below g2 w z33 ∧ Blk z33 g2 23 (u8l key).toArray ∧ PSl z33 (some ⟨gz33, 0, none⟩) 2 [t.take k, t.drop k] from ⟨Fz330.out.1, Fz330.out.2, psl_two bz33 ((HS.out.below (below_eq Fz330.out.1 G2.out)).takeN k HKK.out.2) ((HS.out.below (below_eq Fz330.out.1 G2.out)).drop k HKK.out.2) (by have := HN.out; have := HKK.out; omega)⟩)
        clear qz33 bz33 Fz330
        refine op_valw (o := ⟨some 32, _, _, _, _, _⟩) (.slice (some ⟨gz33, 0, none⟩) 2 2) z33 rfl rfl (by rw [hz33, ← kz33]; kernel_rfl) ?_
        simp only [Act.put, List.setIfInBounds_toArray, List.set_cons_zero, List.set_cons_succ]
        clear hz33 kz33
        refine wpAny_all (rs := [8]) (by kernel_rfl) (by simp) ?_
        intro i hi
        simp only [List.mem_cons, List.not_mem_nil, or_false] at hi
        subst hi
        refine op_call (o := ⟨some 33, _, _, _, _, _⟩) 10 #[.agg (u8l key).toArray, .slice (some ⟨gz33, 0, none⟩) 2 2] rfl rfl (by kernel_rfl) (((code_flat z33 key gz33 2 [t.take k, t.drop k] (t) HKY.out Fz33.out.2.2 (by omega) (by simp))).mono fun e z34 ⟨he, qz34⟩ => ⟨.agg (u8l (codeS key t)).toArray, he, ?_⟩)
        simp only [Act.put, List.setIfInBounds_toArray, List.set_cons_zero, List.set_cons_succ]
        have Fz34 := Lib.hid (show Below g2 w z34 ∧ Blk z34 g2 23 (u8l key).toArray ∧ PSl z34 (some ⟨gz33, 0, none⟩) 2 [t.take k, t.drop k] from ⟨Fz33.out.1.trans (qz34.mono (by have h1 := Fz33.out.1.size; have h2 := G2.out; omega)), Fz33.out.2.1.below qz34, Fz33.out.2.2.below qz34⟩)
        clear qz34
        refine wpAny_all (rs := [11]) (by kernel_rfl) (by simp) ?_
        intro i hi
        simp only [List.mem_cons, List.not_mem_nil, or_false] at hi
        subst hi
        refine op_call (o := ⟨some 36, _, _, _, _, _⟩) 11 #[.agg (u8l key).toArray, .slice a n c] rfl rfl (by kernel_rfl) (((refcode_any z34 key _ _ _ t HKY.out (HS.out.below (below_eq Fz34.out.1 G2.out)) (by have := HN.out; omega))).mono fun e z35 ⟨he, qz35⟩ => ⟨.agg (u8l (codeS key t)).toArray, he, ?_⟩)
        simp only [Act.put, List.setIfInBounds_toArray, List.set_cons_zero, List.set_cons_succ]
        have Fz35 := Lib.hid (show Below g2 w z35 ∧ Blk z35 g2 23 (u8l key).toArray ∧ PSl z35 (some ⟨gz33, 0, none⟩) 2 [t.take k, t.drop k] from ⟨Fz34.out.1.trans (qz35.mono (by have h1 := Fz34.out.1.size; have h2 := G2.out; omega)), Fz34.out.2.1.below qz35, Fz34.out.2.2.below qz35⟩)
        clear qz35
        refine wpAny_take (i := 12) (oi := ⟨some 37, _, _, _, _, _⟩) (v := (.bool true)) rfl (by kernel_rfl) (by kernel_rfl) (by kernel_rfl) (fun _ _ _ h => h) (Or.inl ⟨rfl, fun w => run_eq26 _ _ _ _ _ (codeS key t) (codeS_len _ _) rfl rfl rfl⟩) ?_
        simp only [Act.put, List.setIfInBounds_toArray, List.set_cons_zero, List.set_cons_succ]
        refine wpAny_take (i := 13) (oi := ⟨some 38, _, _, _, _, _⟩) (v := (.bool true)) rfl (by kernel_rfl) (by kernel_rfl) (by kernel_rfl) (fun _ _ _ h => h) (Or.inl ⟨rfl, fun w => by kernel_rfl⟩) ?_
        simp only [Act.put, List.setIfInBounds_toArray, List.set_cons_zero, List.set_cons_succ]
        refine wpAny_take (i := 14) (oi := ⟨some 39, _, _, _, _, _⟩) (v := (.slice a n c)) rfl (by kernel_rfl) (by kernel_rfl) (by kernel_rfl) (fun _ _ _ h => h) (Or.inl ⟨rfl, fun w => by kernel_rfl⟩) ?_
        simp only [Act.put, List.setIfInBounds_toArray, List.set_cons_zero, List.set_cons_succ]
        refine wpAny_take (i := 16) (oi := ⟨some 41, _, _, _, _, _⟩) (v := (.string (strOfNums t))) rfl (by kernel_rfl) (by kernel_rfl) (by kernel_rfl) (fun _ _ _ h => h) (Or.inl ⟨rfl, fun w => by kernel_rfl⟩) ?_
        simp only [Act.put, List.setIfInBounds_toArray, List.set_cons_zero, List.set_cons_succ]
        refine wpAny_all (rs := [15]) (by kernel_rfl) (by simp) ?_
        intro i hi
        simp only [List.mem_cons, List.not_mem_nil, or_false] at hi
        subst hi
        refine op_val (o := ⟨some 40, _, _, _, _, _⟩) (.string (strOfNums t)) rfl rfl (run_conv_str _ _ _ _ _ _ _ t rfl rfl (HS.out.below (below_eq Fz35.out.1 G2.out)).1) ?_
        simp only [Act.put, List.setIfInBounds_toArray, List.set_cons_zero, List.set_cons_succ]
        refine wpAny_take (i := 17) (oi := ⟨some 42, _, _, _, _, _⟩) (v := (.bool true)) rfl (by kernel_rfl) (by kernel_rfl) (by kernel_rfl) (fun _ _ _ h => h) (Or.inl ⟨rfl, fun w => run_str_eql _ _ _ _ _ t t true rfl rfl rfl (by simp) HS.out.1.2.2.1 HS.out.1.2.2.1⟩) ?_
        simp only [Act.put, List.setIfInBounds_toArray, List.set_cons_zero, List.set_cons_succ]
        refine wpAny_take (i := 18) (oi := ⟨some 43, _, _, _, _, _⟩) (v := (.bool true)) rfl (by kernel_rfl) (by kernel_rfl) (by kernel_rfl) (fun _ _ _ h => h) (Or.inl ⟨rfl, fun w => by kernel_rfl⟩) ?_
        simp only [Act.put, List.setIfInBounds_toArray, List.set_cons_zero, List.set_cons_succ]
        refine wpAny_take (i := 19) (oi := ⟨some 6, _, _, _, _, _⟩) (v := (.bool true)) rfl (by kernel_rfl) (by kernel_rfl) (by kernel_rfl) (fun _ _ _ h => h) (Or.inl ⟨rfl, fun w => by kernel_rfl⟩) ?_
        simp only [Act.put, List.setIfInBounds_toArray, List.set_cons_zero, List.set_cons_succ]
        refine wpAny_done (by kernel_rfl) ?_ _
        go_wp2_with fail
        go_ret
        exact ⟨rfl, by rw [G2.out]; exact Fz35.out.1⟩
      · obtain ⟨z37, hz37⟩ : ∃ V, V = w2.drew.alloc (.cells #[.slice a k c, .slice (dropA a c k) (n - k) (c - k)] 24) := ⟨_, rfl⟩
        obtain ⟨gz37, kz37⟩ : ∃ q, w2.drew.heap.size = q := ⟨_, rfl⟩
        have qz37 : Below w2.drew.heap.size w2.drew z37 := by rw [hz37]; exact (Below.refl _ _).alloc (Nat.le_refl _) _
        have bz37 : Blk z37 gz37 24 #[.slice a k c, .slice (dropA a c k) (n - k) (c - k)] := by rw [hz37, ← kz37]; exact Blk.new _ _ _
        have Fz370 := Lib.hid (show Below g2 w z37 ∧ Blk z37 g2 23 (u8l key).toArray from ⟨F0.out.1.trans (qz37.mono (by have h1 := F0.out.1.size; have h2 := G2.out; omega)), F0.out.2.below qz37⟩)
        have Fz37 := Lib.hid (show Below g2 w z37 ∧ Blk z37 g2 23 (u8l key).toArray ∧ PSl z37 (some ⟨gz37, 0, none⟩) 2 [t.take k, t.drop k] from ⟨Fz370.out.1, Fz370.out.2, psl_two bz37 ((HS.out.below (below_eq Fz370.out.1 G2.out)).takeN k HKK.out.2) ((HS.out.below (below_eq Fz370.out.1 G2.out)).drop k HKK.out.2) (by have := HN.out; have := HKK.out; omega)⟩)
        clear qz37 bz37 Fz370
        refine op_valw (o := ⟨some 32, _, _, _, _, _⟩) (.slice (some ⟨gz37, 0, none⟩) 2 2) z37 rfl rfl (by rw [hz37, ← kz37]; kernel_rfl) ?_
        simp only [Act.put, List.setIfInBounds_toArray, List.set_cons_zero, List.set_cons_succ]
        clear hz37 kz37
        refine wpAny_all (rs := [0]) (by kernel_rfl) (by simp) ?_
        intro i hi
        simp only [List.mem_cons, List.not_mem_nil, or_false] at hi
        subst hi
        refine op_val (o := ⟨some 25, _, _, _, _, _⟩) (.agg (u8l key).toArray) rfl rfl (run_load_mid _ _ _ 23 _ rfl g2 0 rfl (u8l key) _ (range_blk (Fz37.out.2.1)) Try.underlying23 rfl (by rw [u8l_len, HKY.out.1]; kernel_rfl)) ?_
        simp only [Act.put, List.setIfInBounds_toArray, List.set_cons_zero, List.set_cons_succ]
        refine wpAny_all (rs := [8]) (by kernel_rfl) (by simp) ?_
        intro i hi
        simp only [List.mem_cons, List.not_mem_nil, or_false] at hi
        subst hi
        refine op_call (o := ⟨some 33, _, _, _, _, _⟩) 10 #[.agg (u8l key).toArray, .slice (some ⟨gz37, 0, none⟩) 2 2] rfl rfl (by kernel_rfl) (((code_flat z37 key gz37 2 [t.take k, t.drop k] (t) HKY.out Fz37.out.2.2 (by omega) (by simp))).mono fun e z39 ⟨he, qz39⟩ => ⟨.agg (u8l (codeS key t)).toArray, he, ?_⟩)
        simp only [Act.put, List.setIfInBounds_toArray, List.set_cons_zero, List.set_cons_succ]
        have Fz39 := Lib.hid (show Below g2 w z39 ∧ Blk z39 g2 23 (u8l key).toArray ∧ PSl z39 (some ⟨gz37, 0, none⟩) 2 [t.take k, t.drop k] from ⟨Fz37.out.1.trans (qz39.mono (by have h1 := Fz37.out.1.size; have h2 := G2.out; omega)), Fz37.out.2.1.below qz39, Fz37.out.2.2.below qz39⟩)
        clear qz39
        refine wpAny_all (rs := [11]) (by kernel_rfl) (by simp) ?_
        intro i hi
        simp only [List.mem_cons, List.not_mem_nil, or_false] at hi
        subst hi
        refine op_call (o := ⟨some 36, _, _, _, _, _⟩) 11 #[.agg (u8l key).toArray, .slice a n c] rfl rfl (by kernel_rfl) (((refcode_any z39 key _ _ _ t HKY.out (HS.out.below (below_eq Fz39.out.1 G2.out)) (by have := HN.out; omega))).mono fun e z40 ⟨he, qz40⟩ => ⟨.agg (u8l (codeS key t)).toArray, he, ?_⟩)
        simp only [Act.put, List.setIfInBounds_toArray, List.set_cons_zero, List.set_cons_succ]
        have Fz40 := Lib.hid (show Below g2 w z40 ∧ Blk z40 g2 23 (u8l key).toArray ∧ PSl z40 (some ⟨gz37, 0, none⟩) 2 [t.take k, t.drop k] from ⟨Fz39.out.1.trans (qz40.mono (by have h1 := Fz39.out.1.size; have h2 := G2.out; omega)), Fz39.out.2.1.below qz40, Fz39.out.2.2.below qz40⟩)
        clear qz40
        refine wpAny_take (i := 12) (oi := ⟨some 37, _, _, _, _, _⟩) (v := (.bool true)) rfl (by kernel_rfl) (by kernel_rfl) (by kernel_rfl) (fun _ _ _ h => h) (Or.inl ⟨rfl, fun w => run_eq26 _ _ _ _ _ (codeS key t) (codeS_len _ _) rfl rfl rfl⟩) ?_
        simp only [Act.put, List.setIfInBounds_toArray, List.set_cons_zero, List.set_cons_succ]
        refine wpAny_take (i := 13) (oi := ⟨some 38, _, _, _, _, _⟩) (v := (.bool true)) rfl (by kernel_rfl) (by kernel_rfl) (by kernel_rfl) (fun _ _ _ h => h) (Or.inl ⟨rfl, fun w => by kernel_rfl⟩) ?_
        simp only [Act.put, List.setIfInBounds_toArray, List.set_cons_zero, List.set_cons_succ]
        refine wpAny_take (i := 14) (oi := ⟨some 39, _, _, _, _, _⟩) (v := (.slice a n c)) rfl (by kernel_rfl) (by kernel_rfl) (by kernel_rfl) (fun _ _ _ h => h) (Or.inl ⟨rfl, fun w => by kernel_rfl⟩) ?_
        simp only [Act.put, List.setIfInBounds_toArray, List.set_cons_zero, List.set_cons_succ]
        refine wpAny_take (i := 16) (oi := ⟨some 41, _, _, _, _, _⟩) (v := (.string (strOfNums t))) rfl (by kernel_rfl) (by kernel_rfl) (by kernel_rfl) (fun _ _ _ h => h) (Or.inl ⟨rfl, fun w => by kernel_rfl⟩) ?_
        simp only [Act.put, List.setIfInBounds_toArray, List.set_cons_zero, List.set_cons_succ]
        refine wpAny_all (rs := [15]) (by kernel_rfl) (by simp) ?_
        intro i hi
        simp only [List.mem_cons, List.not_mem_nil, or_false] at hi
        subst hi
        refine op_val (o := ⟨some 40, _, _, _, _, _⟩) (.string (strOfNums t)) rfl rfl (run_conv_str _ _ _ _ _ _ _ t rfl rfl (HS.out.below (below_eq Fz40.out.1 G2.out)).1) ?_
        simp only [Act.put, List.setIfInBounds_toArray, List.set_cons_zero, List.set_cons_succ]
        refine wpAny_take (i := 17) (oi := ⟨some 42, _, _, _, _, _⟩) (v := (.bool true)) rfl (by kernel_rfl) (by kernel_rfl) (by kernel_rfl) (fun _ _ _ h => h) (Or.inl ⟨rfl, fun w => run_str_eql _ _ _ _ _ t t true rfl rfl rfl (by simp) HS.out.1.2.2.1 HS.out.1.2.2.1⟩) ?_
        simp only [Act.put, List.setIfInBounds_toArray, List.set_cons_zero, List.set_cons_succ]
        refine wpAny_take (i := 18) (oi := ⟨some 43, _, _, _, _, _⟩) (v := (.bool true)) rfl (by kernel_rfl) (by kernel_rfl) (by kernel_rfl) (fun _ _ _ h => h) (Or.inl ⟨rfl, fun w => by kernel_rfl⟩) ?_
        simp only [Act.put, List.setIfInBounds_toArray, List.set_cons_zero, List.set_cons_succ]
        refine wpAny_take (i := 19) (oi := ⟨some 6, _, _, _, _, _⟩) (v := (.bool true)) rfl (by kernel_rfl) (by kernel_rfl) (by kernel_rfl) (fun _ _ _ h => h) (Or.inl ⟨rfl, fun w => by kernel_rfl⟩) ?_
        simp only [Act.put, List.setIfInBounds_toArray, List.set_cons_zero, List.set_cons_succ]
        refine wpAny_done (by kernel_rfl) ?_ _
        go_wp2_with fail
        go_ret
        exact ⟨rfl, by rw [G2.out]; exact Fz40.out.1⟩
end Go.Proofs.Ytbgmielhnklkgaa
