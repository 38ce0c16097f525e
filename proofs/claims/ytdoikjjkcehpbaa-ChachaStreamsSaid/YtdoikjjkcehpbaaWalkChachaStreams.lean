/- 'ChachaStreams'. -/
import Derived.Test.YtdoikjjkcehpbaaX8
import Derived.Test.YtdoikjjkcehpbaaHeld
import Derived.OpenShut
namespace Go.Proofs.Ytdoikjjkcehpbaa.B
open Go Go.RowKit
attribute [local irreducible] wpList wpAny
set_option maxHeartbeats 4000000 in
set_option maxRecDepth 100000 in
theorem streams_any (xs : List Int) (c : Nat) (n : Int) (lx : xs.length = 32) (wx : ∀ x ∈ xs, 0 ≤ x ∧ x ≤ 255) (hc : c < 4294967296) (w : World) :
    Calls Try.prog 5 #[.agg (ub xs).toArray, .int .u32 (c : Int), .int .i64 n] w fun e w' => e = .returned (.bool true) ∧ Below w.heap.size w w' := by
  have hk0 := getD_byte wx 0
  have hk1 := getD_byte wx 1
  obtain ⟨ks, hT⟩ := two_of xs [xs.getD 0 0, xs.getD 1 0, 5, 0, 0, 0, 0, 0, 0, 0, 0, 0] lx wx rfl (by
    intro x hx
    simp only [List.mem_cons, List.not_mem_nil, or_false] at hx
    rcases hx with rfl | rfl | rfl | rfl | rfl | rfl | rfl | rfl | rfl | rfl | rfl | rfl <;> omega)
  have HT := Lib.hid hT
  have HC := Lib.hid hc
  have HL := Lib.hid lx
  clear hT hc lx hk0 hk1
  go_enter Try.func5, Try.ntmps5
  go_upto_region 1 with (fail)
  obtain ⟨W1, hW1⟩ : ∃ V, V = w.alloc (.cells (ub xs).toArray 23) := ⟨_, rfl⟩
  rw [← hW1]
  have F1 : Hid (Below w.heap.size w W1 ∧ Blk W1 w.heap.size 23 (ub xs).toArray) := Lib.hid (by
    rw [hW1]
    exact ⟨(Below.refl _ _).alloc (Nat.le_refl _) _, Blk.new _ _ _⟩)
  clear hW1
  obtain ⟨g0, hg0⟩ : ∃ q, w.heap.size = q := ⟨_, rfl⟩
  have G0 : Hid (w.heap.size = g0) := Lib.hid hg0
  rw [hg0] at F1
  rw [hg0]
  clear hg0
  refine wp_region_lit ?_
  refine wpL_call 8 #[] rfl (by kernel_rfl) (((awake_any W1)).mono fun e W2 ⟨he, ba⟩ => ⟨.bool true, he, ?_⟩)
  simp only [Act.put, List.setIfInBounds_toArray, List.set_cons_zero, List.set_cons_succ]
  have F2 : Hid (Below g0 w W2 ∧ Blk W2 g0 23 (ub xs).toArray) := Lib.hid ⟨F1.out.1.trans (ba.mono (by have := F1.out.1.size; have := G0.out; omega)), F1.out.2.below ba⟩
  clear ba
  refine wpL_pure (.bool false) rfl (by kernel_rfl) ?_
  simp only [Act.put, List.setIfInBounds_toArray, List.set_cons_zero, List.set_cons_succ]
  refine wpL_pure (.bool false) rfl (by kernel_rfl) ?_
  simp only [Act.put, List.setIfInBounds_toArray, List.set_cons_zero, List.set_cons_succ]
  refine wpL_pure (.int .i64 n) rfl (by kernel_rfl) ?_
  simp only [Act.put, List.setIfInBounds_toArray, List.set_cons_zero, List.set_cons_succ]
  by_cases h7 : 700 < n
  · have H7 := Lib.hid h7
    refine wpL_pure (.bool true) rfl (run_gti Try.underlying3 rfl rfl rfl (by have := H7.out; rw [decide_eq_true_eq]; omega)) ?_
    simp only [Act.put, List.setIfInBounds_toArray, List.set_cons_zero, List.set_cons_succ]
    refine wpL_pure (.bool true) rfl (by kernel_rfl) ?_
    simp only [Act.put, List.setIfInBounds_toArray, List.set_cons_zero, List.set_cons_succ]
    refine wpL_pure (.int .i64 n) rfl (by kernel_rfl) ?_
    simp only [Act.put, List.setIfInBounds_toArray, List.set_cons_zero, List.set_cons_succ]
    by_cases h6 : n ≤ 65536
    · have H6 := Lib.hid h6
      clear h6 h7
      refine wpL_pure (.bool true) rfl (run_lei Try.underlying3 rfl rfl rfl (by have := H6.out; rw [decide_eq_true_eq]; omega)) ?_
      simp only [Act.put, List.setIfInBounds_toArray, List.set_cons_zero, List.set_cons_succ]
      refine wpL_pure (.bool true) rfl (by kernel_rfl) ?_
      simp only [Act.put, List.setIfInBounds_toArray, List.set_cons_zero, List.set_cons_succ]
      refine wpL_pure (.bool true) rfl (by kernel_rfl) ?_
      simp only [Act.put, List.setIfInBounds_toArray, List.set_cons_zero, List.set_cons_succ]
      unfold wpList
      go_upto_region 2 with (fail)
      refine wp_region_lit ?_
      refine wpL_call 8 #[] rfl (by kernel_rfl) (((awake_any W2)).mono fun e W3 ⟨he, ba⟩ => ⟨.bool true, he, ?_⟩)
      simp only [Act.put, List.setIfInBounds_toArray, List.set_cons_zero, List.set_cons_succ]
      have F3 : Hid (Below g0 w W3 ∧ Blk W3 g0 23 (ub xs).toArray) := Lib.hid ⟨F2.out.1.trans (ba.mono (by have := F2.out.1.size; have := G0.out; omega)), F2.out.2.below ba⟩
      clear ba
      refine wpL_pure (.bool true) rfl (by kernel_rfl) ?_
      simp only [Act.put, List.setIfInBounds_toArray, List.set_cons_zero, List.set_cons_succ]
      go_wp2_with fail
      go_ret
      exact ⟨rfl, by rw [G0.out]; exact F3.out.1⟩
    · have H6 := Lib.hid h6
      have HBAD : Hid (n < 0 ∨ 65536 < n) := Lib.hid (by omega)
      clear h6 h7
      refine wpL_pure (.bool false) rfl (run_lei Try.underlying3 rfl rfl rfl (by have := H6.out; rw [decide_eq_false_iff_not]; omega)) ?_
      simp only [Act.put, List.setIfInBounds_toArray, List.set_cons_zero, List.set_cons_succ]
      refine wpL_pure (.bool false) rfl (by kernel_rfl) ?_
      simp only [Act.put, List.setIfInBounds_toArray, List.set_cons_zero, List.set_cons_succ]
      refine wpL_pure (.bool false) rfl (by kernel_rfl) ?_
      simp only [Act.put, List.setIfInBounds_toArray, List.set_cons_zero, List.set_cons_succ]
      unfold wpList
      go_upto_region 3 with (fail)
      refine wp_region_lit ?_
      refine wpL_pure (.pointer (some ⟨g0, 0, none⟩)) rfl (by kernel_rfl) ?_
      simp only [Act.put, List.setIfInBounds_toArray, List.set_cons_zero, List.set_cons_succ]
      refine wpL_pure (.int .u8 (xs.getD 0 0)) rfl (run_load_one _ _ _ 5 _ _ rfl (g0) (0) rfl (ub_cell F2.out.2 (j := 0) (by rw [HL.out]; decide)) (by kernel_rfl)) ?_
      simp only [Act.put, List.setIfInBounds_toArray, List.set_cons_zero, List.set_cons_succ]
      refine wpL_pure (.pointer (some ⟨g0, 1, none⟩)) rfl (by kernel_rfl) ?_
      simp only [Act.put, List.setIfInBounds_toArray, List.set_cons_zero, List.set_cons_succ]
      refine wpL_pure (.int .u8 (xs.getD 1 0)) rfl (run_load_one _ _ _ 5 _ _ rfl (g0) (1) rfl (ub_cell F2.out.2 (j := 1) (by rw [HL.out]; decide)) (by kernel_rfl)) ?_
      simp only [Act.put, List.setIfInBounds_toArray, List.set_cons_zero, List.set_cons_succ]
      refine wpL_pure (.agg (ub [xs.getD 0 0, xs.getD 1 0, 5, 0, 0, 0, 0, 0, 0, 0, 0, 0]).toArray) rfl (by kernel_rfl) ?_
      simp only [Act.put, List.setIfInBounds_toArray, List.set_cons_zero, List.set_cons_succ]
      obtain ⟨W4, hW4⟩ : ∃ V, V = (W2.alloc (.cells (ub (List.replicate 12 0)).toArray 28)).setRow W2.heap.size (ub [xs.getD 0 0, xs.getD 1 0, 5, 0, 0, 0, 0, 0, 0, 0, 0, 0]).toArray := ⟨_, rfl⟩
      refine wpL_value (.pointer (some ⟨W2.heap.size, 0, none⟩)) (W2.alloc (.cells (ub (List.replicate 12 0)).toArray 28)) rfl (by kernel_rfl) ?_
      simp only [Act.put, List.setIfInBounds_toArray, List.set_cons_zero, List.set_cons_succ]
      refine wpList_store_rowTo rfl 28 _ _ rfl rfl W2.heap.size (ub [xs.getD 0 0, xs.getD 1 0, 5, 0, 0, 0, 0, 0, 0, 0, 0, 0]).toArray rfl rfl 28 _ (Blk.new _ _ _) (by kernel_rfl) rfl (ub_one _) ?_
      rw [← hW4]
      have b4 : Below W2.heap.size W2 W4 := by rw [hW4]; exact below_setRow ((Below.refl _ _).alloc (Nat.le_refl _) _) (Nat.le_refl _) _
      have F4 : Hid ((Below g0 w W4 ∧ Blk W4 g0 23 (ub xs).toArray) ∧ Blk W4 W2.heap.size 28 (ub [xs.getD 0 0, xs.getD 1 0, 5, 0, 0, 0, 0, 0, 0, 0, 0, 0]).toArray) := Lib.hid ⟨⟨F2.out.1.trans (b4.mono (by have := F2.out.1.size; have := G0.out; omega)), F2.out.2.below b4⟩, by rw [hW4]; exact setRow_heap _ _ _ _ _ _ (Blk.new _ _ _)⟩
      clear b4 hW4 F2
      generalize W2.heap.size = g7 at *
      go_upto_region 4 with (fail)
      refine wp_region_lit ?_
      refine wpL_load 23 _ rfl rfl g0 0 rfl (ub xs) _ (blk_rangeC (F4.out.1.2)) Try.underlying23 rfl (by rw [HT.out.2.2.2.1]; kernel_rfl) ?_
      simp only [Act.put, List.setIfInBounds_toArray, List.set_cons_zero, List.set_cons_succ]
      refine wpL_load 28 _ rfl rfl g7 0 rfl (ub [xs.getD 0 0, xs.getD 1 0, 5, 0, 0, 0, 0, 0, 0, 0, 0, 0]) _ (blk_rangeC (F4.out.2)) Try.underlying28 rfl (by rw [HT.out.2.2.2.2]; kernel_rfl) ?_
      simp only [Act.put, List.setIfInBounds_toArray, List.set_cons_zero, List.set_cons_succ]
      refine wpL_pure (.int .u32 ((c : Nat) : Int)) rfl (by kernel_rfl) ?_
      simp only [Act.put, List.setIfInBounds_toArray, List.set_cons_zero, List.set_cons_succ]
      refine wpL_pure (.int .i64 n) rfl (by kernel_rfl) ?_
      simp only [Act.put, List.setIfInBounds_toArray, List.set_cons_zero, List.set_cons_succ]
      refine wpL_call 10 #[.agg (ub xs).toArray, .agg (ub [xs.getD 0 0, xs.getD 1 0, 5, 0, 0, 0, 0, 0, 0, 0, 0, 0]).toArray, .int .u32 ((c : Nat) : Int), .int .i64 n] rfl (by kernel_rfl) (((stream_bad (ub xs) _ (c : Int) n HBAD.out W4)).mono fun e W5 ⟨he, b5⟩ => ⟨.tuple #[.slice none 0 0, .int .i64 1], he, ?_⟩)
      simp only [Act.put, List.setIfInBounds_toArray, List.set_cons_zero, List.set_cons_succ]
      have F5 : Hid (Below g0 w W5) := Lib.hid (F4.out.1.1.trans (b5.mono (by have := F4.out.1.1.size; have := G0.out; omega)))
      clear b5
      refine wpL_pure (.tuple #[.slice none 0 0, .int .i64 1]) rfl (by kernel_rfl) ?_
      simp only [Act.put, List.setIfInBounds_toArray, List.set_cons_zero, List.set_cons_succ]
      refine wpL_pure (.slice none 0 0) rfl (by kernel_rfl) ?_
      simp only [Act.put, List.setIfInBounds_toArray, List.set_cons_zero, List.set_cons_succ]
      refine wpL_pure (.int .i64 1) rfl (by kernel_rfl) ?_
      simp only [Act.put, List.setIfInBounds_toArray, List.set_cons_zero, List.set_cons_succ]
      refine wpL_pure (.slice none 0 0) rfl (by kernel_rfl) ?_
      simp only [Act.put, List.setIfInBounds_toArray, List.set_cons_zero, List.set_cons_succ]
      refine wpL_pure (.int .i64 1) rfl (by kernel_rfl) ?_
      simp only [Act.put, List.setIfInBounds_toArray, List.set_cons_zero, List.set_cons_succ]
      go_upto_region 5 with (fail)
      refine wp_region_lit ?_
      refine wpL_pure (.int .i64 n) rfl (by kernel_rfl) ?_
      simp only [Act.put, List.setIfInBounds_toArray, List.set_cons_zero, List.set_cons_succ]
      refine wpL_pure (.bool false) rfl (run_lti Try.underlying3 rfl rfl rfl (by have := H7.out; rw [decide_eq_false_iff_not]; omega)) ?_
      simp only [Act.put, List.setIfInBounds_toArray, List.set_cons_zero, List.set_cons_succ]
      refine wpL_pure (.bool false) rfl (by kernel_rfl) ?_
      simp only [Act.put, List.setIfInBounds_toArray, List.set_cons_zero, List.set_cons_succ]
      refine wpL_pure (.int .i64 n) rfl (by kernel_rfl) ?_
      simp only [Act.put, List.setIfInBounds_toArray, List.set_cons_zero, List.set_cons_succ]
      refine wpL_pure (.bool true) rfl (run_gti Try.underlying3 rfl rfl rfl (by have := H6.out; rw [decide_eq_true_eq]; omega)) ?_
      simp only [Act.put, List.setIfInBounds_toArray, List.set_cons_zero, List.set_cons_succ]
      refine wpL_pure (.bool true) rfl (by kernel_rfl) ?_
      simp only [Act.put, List.setIfInBounds_toArray, List.set_cons_zero, List.set_cons_succ]
      go_upto_region 6 with (fail)
      refine wp_region_lit ?_
      refine wpL_pure (.int .i64 1) rfl (by kernel_rfl) ?_
      simp only [Act.put, List.setIfInBounds_toArray, List.set_cons_zero, List.set_cons_succ]
      refine wpL_pure (.bool true) rfl (by kernel_rfl) ?_
      simp only [Act.put, List.setIfInBounds_toArray, List.set_cons_zero, List.set_cons_succ]
      refine wpL_pure (.bool true) rfl (by kernel_rfl) ?_
      simp only [Act.put, List.setIfInBounds_toArray, List.set_cons_zero, List.set_cons_succ]
      refine wpL_pure (.slice none 0 0) rfl (by kernel_rfl) ?_
      simp only [Act.put, List.setIfInBounds_toArray, List.set_cons_zero, List.set_cons_succ]
      refine wpL_pure (.int .i64 (0 : Int)) rfl (by kernel_rfl) ?_
      simp only [Act.put, List.setIfInBounds_toArray, List.set_cons_zero, List.set_cons_succ]
      refine wpL_pure (.bool true) rfl (by kernel_rfl) ?_
      simp only [Act.put, List.setIfInBounds_toArray, List.set_cons_zero, List.set_cons_succ]
      refine wpL_pure (.bool true) rfl (by kernel_rfl) ?_
      simp only [Act.put, List.setIfInBounds_toArray, List.set_cons_zero, List.set_cons_succ]
      refine wpL_pure (.bool true) rfl (by kernel_rfl) ?_
      simp only [Act.put, List.setIfInBounds_toArray, List.set_cons_zero, List.set_cons_succ]
      go_wp2_with fail
      go_ret
      exact ⟨rfl, by rw [G0.out]; exact F5.out⟩
  · have H7 := Lib.hid h7
    clear h7
    refine wpL_pure (.bool false) rfl (run_gti Try.underlying3 rfl rfl rfl (by have := H7.out; rw [decide_eq_false_iff_not]; omega)) ?_
    simp only [Act.put, List.setIfInBounds_toArray, List.set_cons_zero, List.set_cons_succ]
    refine wpL_pure (.bool false) rfl (by kernel_rfl) ?_
    simp only [Act.put, List.setIfInBounds_toArray, List.set_cons_zero, List.set_cons_succ]
    refine wpL_skip (by kernel_rfl) ?_
    simp only [Act.put, List.setIfInBounds_toArray, List.set_cons_zero, List.set_cons_succ]
    refine wpL_skip (by kernel_rfl) ?_
    simp only [Act.put, List.setIfInBounds_toArray, List.set_cons_zero, List.set_cons_succ]
    refine wpL_pure (.bool false) rfl (by kernel_rfl) ?_
    simp only [Act.put, List.setIfInBounds_toArray, List.set_cons_zero, List.set_cons_succ]
    refine wpL_pure (.bool false) rfl (by kernel_rfl) ?_
    simp only [Act.put, List.setIfInBounds_toArray, List.set_cons_zero, List.set_cons_succ]
    unfold wpList
    by_cases h0 : n < 0
    · have H0 := Lib.hid h0
      have HBAD : Hid (n < 0 ∨ 65536 < n) := Lib.hid (.inl h0)
      clear h0
      go_upto_region 3 with (fail)
      refine wp_region_lit ?_
      refine wpL_pure (.pointer (some ⟨g0, 0, none⟩)) rfl (by kernel_rfl) ?_
      simp only [Act.put, List.setIfInBounds_toArray, List.set_cons_zero, List.set_cons_succ]
      refine wpL_pure (.int .u8 (xs.getD 0 0)) rfl (run_load_one _ _ _ 5 _ _ rfl (g0) (0) rfl (ub_cell F2.out.2 (j := 0) (by rw [HL.out]; decide)) (by kernel_rfl)) ?_
      simp only [Act.put, List.setIfInBounds_toArray, List.set_cons_zero, List.set_cons_succ]
      refine wpL_pure (.pointer (some ⟨g0, 1, none⟩)) rfl (by kernel_rfl) ?_
      simp only [Act.put, List.setIfInBounds_toArray, List.set_cons_zero, List.set_cons_succ]
      refine wpL_pure (.int .u8 (xs.getD 1 0)) rfl (run_load_one _ _ _ 5 _ _ rfl (g0) (1) rfl (ub_cell F2.out.2 (j := 1) (by rw [HL.out]; decide)) (by kernel_rfl)) ?_
      simp only [Act.put, List.setIfInBounds_toArray, List.set_cons_zero, List.set_cons_succ]
      refine wpL_pure (.agg (ub [xs.getD 0 0, xs.getD 1 0, 5, 0, 0, 0, 0, 0, 0, 0, 0, 0]).toArray) rfl (by kernel_rfl) ?_
      simp only [Act.put, List.setIfInBounds_toArray, List.set_cons_zero, List.set_cons_succ]
      obtain ⟨W4, hW4⟩ : ∃ V, V = (W2.alloc (.cells (ub (List.replicate 12 0)).toArray 28)).setRow W2.heap.size (ub [xs.getD 0 0, xs.getD 1 0, 5, 0, 0, 0, 0, 0, 0, 0, 0, 0]).toArray := ⟨_, rfl⟩
      refine wpL_value (.pointer (some ⟨W2.heap.size, 0, none⟩)) (W2.alloc (.cells (ub (List.replicate 12 0)).toArray 28)) rfl (by kernel_rfl) ?_
      simp only [Act.put, List.setIfInBounds_toArray, List.set_cons_zero, List.set_cons_succ]
      refine wpList_store_rowTo rfl 28 _ _ rfl rfl W2.heap.size (ub [xs.getD 0 0, xs.getD 1 0, 5, 0, 0, 0, 0, 0, 0, 0, 0, 0]).toArray rfl rfl 28 _ (Blk.new _ _ _) (by kernel_rfl) rfl (ub_one _) ?_
      rw [← hW4]
      have b4 : Below W2.heap.size W2 W4 := by rw [hW4]; exact below_setRow ((Below.refl _ _).alloc (Nat.le_refl _) _) (Nat.le_refl _) _
      have F4 : Hid ((Below g0 w W4 ∧ Blk W4 g0 23 (ub xs).toArray) ∧ Blk W4 W2.heap.size 28 (ub [xs.getD 0 0, xs.getD 1 0, 5, 0, 0, 0, 0, 0, 0, 0, 0, 0]).toArray) := Lib.hid ⟨⟨F2.out.1.trans (b4.mono (by have := F2.out.1.size; have := G0.out; omega)), F2.out.2.below b4⟩, by rw [hW4]; exact setRow_heap _ _ _ _ _ _ (Blk.new _ _ _)⟩
      clear b4 hW4 F2
      generalize W2.heap.size = g7 at *
      go_upto_region 4 with (fail)
      refine wp_region_lit ?_
      refine wpL_load 23 _ rfl rfl g0 0 rfl (ub xs) _ (blk_rangeC (F4.out.1.2)) Try.underlying23 rfl (by rw [HT.out.2.2.2.1]; kernel_rfl) ?_
      simp only [Act.put, List.setIfInBounds_toArray, List.set_cons_zero, List.set_cons_succ]
      refine wpL_load 28 _ rfl rfl g7 0 rfl (ub [xs.getD 0 0, xs.getD 1 0, 5, 0, 0, 0, 0, 0, 0, 0, 0, 0]) _ (blk_rangeC (F4.out.2)) Try.underlying28 rfl (by rw [HT.out.2.2.2.2]; kernel_rfl) ?_
      simp only [Act.put, List.setIfInBounds_toArray, List.set_cons_zero, List.set_cons_succ]
      refine wpL_pure (.int .u32 ((c : Nat) : Int)) rfl (by kernel_rfl) ?_
      simp only [Act.put, List.setIfInBounds_toArray, List.set_cons_zero, List.set_cons_succ]
      refine wpL_pure (.int .i64 n) rfl (by kernel_rfl) ?_
      simp only [Act.put, List.setIfInBounds_toArray, List.set_cons_zero, List.set_cons_succ]
      refine wpL_call 10 #[.agg (ub xs).toArray, .agg (ub [xs.getD 0 0, xs.getD 1 0, 5, 0, 0, 0, 0, 0, 0, 0, 0, 0]).toArray, .int .u32 ((c : Nat) : Int), .int .i64 n] rfl (by kernel_rfl) (((stream_bad (ub xs) _ (c : Int) n HBAD.out W4)).mono fun e W5 ⟨he, b5⟩ => ⟨.tuple #[.slice none 0 0, .int .i64 1], he, ?_⟩)
      simp only [Act.put, List.setIfInBounds_toArray, List.set_cons_zero, List.set_cons_succ]
      have F5 : Hid (Below g0 w W5) := Lib.hid (F4.out.1.1.trans (b5.mono (by have := F4.out.1.1.size; have := G0.out; omega)))
      clear b5
      refine wpL_pure (.tuple #[.slice none 0 0, .int .i64 1]) rfl (by kernel_rfl) ?_
      simp only [Act.put, List.setIfInBounds_toArray, List.set_cons_zero, List.set_cons_succ]
      refine wpL_pure (.slice none 0 0) rfl (by kernel_rfl) ?_
      simp only [Act.put, List.setIfInBounds_toArray, List.set_cons_zero, List.set_cons_succ]
      refine wpL_pure (.int .i64 1) rfl (by kernel_rfl) ?_
      simp only [Act.put, List.setIfInBounds_toArray, List.set_cons_zero, List.set_cons_succ]
      refine wpL_pure (.slice none 0 0) rfl (by kernel_rfl) ?_
      simp only [Act.put, List.setIfInBounds_toArray, List.set_cons_zero, List.set_cons_succ]
      refine wpL_pure (.int .i64 1) rfl (by kernel_rfl) ?_
      simp only [Act.put, List.setIfInBounds_toArray, List.set_cons_zero, List.set_cons_succ]
      go_upto_region 5 with (fail)
      refine wp_region_lit ?_
      refine wpL_pure (.int .i64 n) rfl (by kernel_rfl) ?_
      simp only [Act.put, List.setIfInBounds_toArray, List.set_cons_zero, List.set_cons_succ]
      refine wpL_pure (.bool true) rfl (run_lti Try.underlying3 rfl rfl rfl (by have := H0.out; rw [decide_eq_true_eq]; omega)) ?_
      simp only [Act.put, List.setIfInBounds_toArray, List.set_cons_zero, List.set_cons_succ]
      refine wpL_pure (.bool true) rfl (by kernel_rfl) ?_
      simp only [Act.put, List.setIfInBounds_toArray, List.set_cons_zero, List.set_cons_succ]
      refine wpL_skip (by kernel_rfl) ?_
      simp only [Act.put, List.setIfInBounds_toArray, List.set_cons_zero, List.set_cons_succ]
      refine wpL_skip (by kernel_rfl) ?_
      simp only [Act.put, List.setIfInBounds_toArray, List.set_cons_zero, List.set_cons_succ]
      refine wpL_pure (.bool true) rfl (by kernel_rfl) ?_
      simp only [Act.put, List.setIfInBounds_toArray, List.set_cons_zero, List.set_cons_succ]
      go_upto_region 6 with (fail)
      refine wp_region_lit ?_
      refine wpL_pure (.int .i64 1) rfl (by kernel_rfl) ?_
      simp only [Act.put, List.setIfInBounds_toArray, List.set_cons_zero, List.set_cons_succ]
      refine wpL_pure (.bool true) rfl (by kernel_rfl) ?_
      simp only [Act.put, List.setIfInBounds_toArray, List.set_cons_zero, List.set_cons_succ]
      refine wpL_pure (.bool true) rfl (by kernel_rfl) ?_
      simp only [Act.put, List.setIfInBounds_toArray, List.set_cons_zero, List.set_cons_succ]
      refine wpL_pure (.slice none 0 0) rfl (by kernel_rfl) ?_
      simp only [Act.put, List.setIfInBounds_toArray, List.set_cons_zero, List.set_cons_succ]
      refine wpL_pure (.int .i64 (0 : Int)) rfl (by kernel_rfl) ?_
      simp only [Act.put, List.setIfInBounds_toArray, List.set_cons_zero, List.set_cons_succ]
      refine wpL_pure (.bool true) rfl (by kernel_rfl) ?_
      simp only [Act.put, List.setIfInBounds_toArray, List.set_cons_zero, List.set_cons_succ]
      refine wpL_pure (.bool true) rfl (by kernel_rfl) ?_
      simp only [Act.put, List.setIfInBounds_toArray, List.set_cons_zero, List.set_cons_succ]
      refine wpL_pure (.bool true) rfl (by kernel_rfl) ?_
      simp only [Act.put, List.setIfInBounds_toArray, List.set_cons_zero, List.set_cons_succ]
      go_wp2_with fail
      go_ret
      exact ⟨rfl, by rw [G0.out]; exact F5.out⟩
    · obtain ⟨m, rfl⟩ : ∃ m : Nat, n = (m : Int) := ⟨n.toNat, by omega⟩
      have HM : Hid (m ≤ 700) := Lib.hid (by have := H7.out; omega)
      clear h0
      go_upto_region 3 with (fail)
      refine wp_region_lit ?_
      refine wpL_pure (.pointer (some ⟨g0, 0, none⟩)) rfl (by kernel_rfl) ?_
      simp only [Act.put, List.setIfInBounds_toArray, List.set_cons_zero, List.set_cons_succ]
      refine wpL_pure (.int .u8 (xs.getD 0 0)) rfl (run_load_one _ _ _ 5 _ _ rfl (g0) (0) rfl (ub_cell F2.out.2 (j := 0) (by rw [HL.out]; decide)) (by kernel_rfl)) ?_
      simp only [Act.put, List.setIfInBounds_toArray, List.set_cons_zero, List.set_cons_succ]
      refine wpL_pure (.pointer (some ⟨g0, 1, none⟩)) rfl (by kernel_rfl) ?_
      simp only [Act.put, List.setIfInBounds_toArray, List.set_cons_zero, List.set_cons_succ]
      refine wpL_pure (.int .u8 (xs.getD 1 0)) rfl (run_load_one _ _ _ 5 _ _ rfl (g0) (1) rfl (ub_cell F2.out.2 (j := 1) (by rw [HL.out]; decide)) (by kernel_rfl)) ?_
      simp only [Act.put, List.setIfInBounds_toArray, List.set_cons_zero, List.set_cons_succ]
      refine wpL_pure (.agg (ub [xs.getD 0 0, xs.getD 1 0, 5, 0, 0, 0, 0, 0, 0, 0, 0, 0]).toArray) rfl (by kernel_rfl) ?_
      simp only [Act.put, List.setIfInBounds_toArray, List.set_cons_zero, List.set_cons_succ]
      obtain ⟨W4, hW4⟩ : ∃ V, V = (W2.alloc (.cells (ub (List.replicate 12 0)).toArray 28)).setRow W2.heap.size (ub [xs.getD 0 0, xs.getD 1 0, 5, 0, 0, 0, 0, 0, 0, 0, 0, 0]).toArray := ⟨_, rfl⟩
      refine wpL_value (.pointer (some ⟨W2.heap.size, 0, none⟩)) (W2.alloc (.cells (ub (List.replicate 12 0)).toArray 28)) rfl (by kernel_rfl) ?_
      simp only [Act.put, List.setIfInBounds_toArray, List.set_cons_zero, List.set_cons_succ]
      refine wpList_store_rowTo rfl 28 _ _ rfl rfl W2.heap.size (ub [xs.getD 0 0, xs.getD 1 0, 5, 0, 0, 0, 0, 0, 0, 0, 0, 0]).toArray rfl rfl 28 _ (Blk.new _ _ _) (by kernel_rfl) rfl (ub_one _) ?_
      rw [← hW4]
      have b4 : Below W2.heap.size W2 W4 := by rw [hW4]; exact below_setRow ((Below.refl _ _).alloc (Nat.le_refl _) _) (Nat.le_refl _) _
      have F4 : Hid ((Below g0 w W4 ∧ Blk W4 g0 23 (ub xs).toArray) ∧ Blk W4 W2.heap.size 28 (ub [xs.getD 0 0, xs.getD 1 0, 5, 0, 0, 0, 0, 0, 0, 0, 0, 0]).toArray) := Lib.hid ⟨⟨F2.out.1.trans (b4.mono (by have := F2.out.1.size; have := G0.out; omega)), F2.out.2.below b4⟩, by rw [hW4]; exact setRow_heap _ _ _ _ _ _ (Blk.new _ _ _)⟩
      clear b4 hW4 F2
      generalize W2.heap.size = g7 at *
      go_upto_region 4 with (fail)
      refine wp_region_lit ?_
      refine wpL_load 23 _ rfl rfl g0 0 rfl (ub xs) _ (blk_rangeC (F4.out.1.2)) Try.underlying23 rfl (by rw [HT.out.2.2.2.1]; kernel_rfl) ?_
      simp only [Act.put, List.setIfInBounds_toArray, List.set_cons_zero, List.set_cons_succ]
      refine wpL_load 28 _ rfl rfl g7 0 rfl (ub [xs.getD 0 0, xs.getD 1 0, 5, 0, 0, 0, 0, 0, 0, 0, 0, 0]) _ (blk_rangeC (F4.out.2)) Try.underlying28 rfl (by rw [HT.out.2.2.2.2]; kernel_rfl) ?_
      simp only [Act.put, List.setIfInBounds_toArray, List.set_cons_zero, List.set_cons_succ]
      refine wpL_pure (.int .u32 ((c : Nat) : Int)) rfl (by kernel_rfl) ?_
      simp only [Act.put, List.setIfInBounds_toArray, List.set_cons_zero, List.set_cons_succ]
      refine wpL_pure (.int .i64 ((m : Nat) : Int)) rfl (by kernel_rfl) ?_
      simp only [Act.put, List.setIfInBounds_toArray, List.set_cons_zero, List.set_cons_succ]
      refine wpL_call 10 #[.agg (ub xs).toArray, .agg (ub [xs.getD 0 0, xs.getD 1 0, 5, 0, 0, 0, 0, 0, 0, 0, 0, 0]).toArray, .int .u32 ((c : Nat) : Int), .int .i64 ((m : Nat) : Int)] rfl (by kernel_rfl) (((stream_two HT.out c HC.out m (by have := HM.out; omega) W4)).mono fun e W5 ⟨go, he, b5, l5, r5⟩ => ⟨.tuple #[.slice (some ⟨go, 0, none⟩) m m, .int .i64 0], he, ?_⟩)
      simp only [Act.put, List.setIfInBounds_toArray, List.set_cons_zero, List.set_cons_succ]
      have F5 : Hid (Below g0 w W5.drew ∧ Blk W5.drew g0 23 (ub xs).toArray ∧ Blk W5.drew g7 28 (ub [xs.getD 0 0, xs.getD 1 0, 5, 0, 0, 0, 0, 0, 0, 0, 0, 0]).toArray ∧ Row W5.drew (some ⟨go, 0, none⟩) m (strm ks c m)) := Lib.hid ⟨(F4.out.1.1.trans (b5.mono (by have := F4.out.1.1.size; have := G0.out; omega))).drew, F4.out.1.2.below b5.drew, F4.out.2.below b5.drew, row_of_blk r5 (strm_len _ _ _) (by have := HM.out; omega) (strm_byte HT.out _ _)⟩
      clear b5 l5 r5 F4
      refine wpL_pure (.tuple #[.slice (some ⟨go, 0, none⟩) m m, .int .i64 0]) rfl (by kernel_rfl) ?_
      simp only [Act.put, List.setIfInBounds_toArray, List.set_cons_zero, List.set_cons_succ]
      refine wpL_pure (.slice (some ⟨go, 0, none⟩) m m) rfl (by kernel_rfl) ?_
      simp only [Act.put, List.setIfInBounds_toArray, List.set_cons_zero, List.set_cons_succ]
      refine wpL_pure (.int .i64 0) rfl (by kernel_rfl) ?_
      simp only [Act.put, List.setIfInBounds_toArray, List.set_cons_zero, List.set_cons_succ]
      refine wpL_pure (.slice (some ⟨go, 0, none⟩) m m) rfl (by kernel_rfl) ?_
      simp only [Act.put, List.setIfInBounds_toArray, List.set_cons_zero, List.set_cons_succ]
      refine wpL_pure (.int .i64 0) rfl (by kernel_rfl) ?_
      simp only [Act.put, List.setIfInBounds_toArray, List.set_cons_zero, List.set_cons_succ]
      go_upto_region 5 with (fail)
      refine wp_region_lit ?_
      refine wpL_pure (.int .i64 ((m : Nat) : Int)) rfl (by kernel_rfl) ?_
      simp only [Act.put, List.setIfInBounds_toArray, List.set_cons_zero, List.set_cons_succ]
      refine wpL_pure (.bool false) rfl (run_lti Try.underlying3 rfl rfl rfl (by have := HM.out; rw [decide_eq_false_iff_not]; omega)) ?_
      simp only [Act.put, List.setIfInBounds_toArray, List.set_cons_zero, List.set_cons_succ]
      refine wpL_pure (.bool false) rfl (by kernel_rfl) ?_
      simp only [Act.put, List.setIfInBounds_toArray, List.set_cons_zero, List.set_cons_succ]
      refine wpL_pure (.int .i64 ((m : Nat) : Int)) rfl (by kernel_rfl) ?_
      simp only [Act.put, List.setIfInBounds_toArray, List.set_cons_zero, List.set_cons_succ]
      refine wpL_pure (.bool false) rfl (run_gti Try.underlying3 rfl rfl rfl (by have := HM.out; rw [decide_eq_false_iff_not]; omega)) ?_
      simp only [Act.put, List.setIfInBounds_toArray, List.set_cons_zero, List.set_cons_succ]
      refine wpL_pure (.bool false) rfl (by kernel_rfl) ?_
      simp only [Act.put, List.setIfInBounds_toArray, List.set_cons_zero, List.set_cons_succ]
      go_upto_region 7 with (fail)
      refine region_any (by kernel_rfl) 14 rfl ?_
      refine wpAny_take (i := 0) (oi := ⟨some 47, _, _, _, _, _⟩) (v := (.int .i64 0)) rfl (by kernel_rfl) (by kernel_rfl) (by kernel_rfl) (fun _ _ _ h => h) (Or.inl ⟨rfl, fun w => by kernel_rfl⟩) ?_
      simp only [Act.put, List.setIfInBounds_toArray, List.set_cons_zero, List.set_cons_succ]
      refine wpAny_take (i := 1) (oi := ⟨some 48, _, _, _, _, _⟩) (v := (.bool true)) rfl (by kernel_rfl) (by kernel_rfl) (by kernel_rfl) (fun _ _ _ h => h) (Or.inl ⟨rfl, fun w => by kernel_rfl⟩) ?_
      simp only [Act.put, List.setIfInBounds_toArray, List.set_cons_zero, List.set_cons_succ]
      refine wpAny_take (i := 2) (oi := ⟨some 49, _, _, _, _, _⟩) (v := (.bool true)) rfl (by kernel_rfl) (by kernel_rfl) (by kernel_rfl) (fun _ _ _ h => h) (Or.inl ⟨rfl, fun w => by kernel_rfl⟩) ?_
      simp only [Act.put, List.setIfInBounds_toArray, List.set_cons_zero, List.set_cons_succ]
      refine wpAny_take (i := 3) (oi := ⟨some 50, _, _, _, _, _⟩) (v := (.slice (some ⟨go, 0, none⟩) m m)) rfl (by kernel_rfl) (by kernel_rfl) (by kernel_rfl) (fun _ _ _ h => h) (Or.inl ⟨rfl, fun w => by kernel_rfl⟩) ?_
      simp only [Act.put, List.setIfInBounds_toArray, List.set_cons_zero, List.set_cons_succ]
      refine wpAny_take (i := 7) (oi := ⟨some 54, _, _, _, _, _⟩) (v := (.int .u32 ((c : Nat) : Int))) rfl (by kernel_rfl) (by kernel_rfl) (by kernel_rfl) (fun _ _ _ h => h) (Or.inl ⟨rfl, fun w => by kernel_rfl⟩) ?_
      simp only [Act.put, List.setIfInBounds_toArray, List.set_cons_zero, List.set_cons_succ]
      refine wpAny_take (i := 8) (oi := ⟨some 55, _, _, _, _, _⟩) (v := (.int .i64 ((m : Nat) : Int))) rfl (by kernel_rfl) (by kernel_rfl) (by kernel_rfl) (fun _ _ _ h => h) (Or.inl ⟨rfl, fun w => by kernel_rfl⟩) ?_
      simp only [Act.put, List.setIfInBounds_toArray, List.set_cons_zero, List.set_cons_succ]
      refine wpAny_all (rs := [4, 5, 6]) (by kernel_rfl) (by simp) ?_
      intro i hi
      simp only [List.mem_cons, List.not_mem_nil, or_false] at hi
      rcases hi with rfl | rfl | rfl
      · refine op_val (o := ⟨some 51, _, _, _, _, _⟩) (.string (strOfNums (strm ks c m))) rfl rfl (run_conv_str _ _ _ _ (some ⟨go, 0, none⟩) m m (strm ks c m) rfl rfl (F5.out.2.2.2)) ?_
        simp only [Act.put, List.setIfInBounds_toArray, List.set_cons_zero, List.set_cons_succ]
        refine wpAny_all (rs := [5, 6]) (by kernel_rfl) (by simp) ?_
        intro i hi
        simp only [List.mem_cons, List.not_mem_nil, or_false] at hi
        rcases hi with rfl | rfl
        · refine op_val (o := ⟨some 52, _, _, _, _, _⟩) (.agg (ub xs).toArray) rfl rfl (run_load_mid _ _ _ 23 _ rfl g0 0 rfl (ub xs) _ (blk_rangeC (F5.out.2.1)) Try.underlying23 rfl (by rw [HT.out.2.2.2.1]; kernel_rfl)) ?_
          simp only [Act.put, List.setIfInBounds_toArray, List.set_cons_zero, List.set_cons_succ]
          refine wpAny_all (rs := [6]) (by kernel_rfl) (by simp) ?_
          intro i hi
          simp only [List.mem_cons, List.not_mem_nil, or_false] at hi
          subst hi
          refine op_val (o := ⟨some 53, _, _, _, _, _⟩) (.agg (ub [xs.getD 0 0, xs.getD 1 0, 5, 0, 0, 0, 0, 0, 0, 0, 0, 0]).toArray) rfl rfl (run_load_mid _ _ _ 28 _ rfl g7 0 rfl (ub [xs.getD 0 0, xs.getD 1 0, 5, 0, 0, 0, 0, 0, 0, 0, 0, 0]) _ (blk_rangeC (F5.out.2.2.1)) Try.underlying28 rfl (by rw [HT.out.2.2.2.2]; kernel_rfl)) ?_
          simp only [Act.put, List.setIfInBounds_toArray, List.set_cons_zero, List.set_cons_succ]
          refine wpAny_all (rs := [9]) (by kernel_rfl) (by simp) ?_
          intro i hi
          simp only [List.mem_cons, List.not_mem_nil, or_false] at hi
          subst hi
          refine op_call (o := ⟨some 56, _, _, _, _, _⟩) 11 #[.agg (ub xs).toArray, .agg (ub [xs.getD 0 0, xs.getD 1 0, 5, 0, 0, 0, 0, 0, 0, 0, 0, 0]).toArray, .int .u32 ((c : Nat) : Int), .int .i64 ((m : Nat) : Int)] rfl rfl (by kernel_rfl) (((refstream_two HT.out c HC.out m (by have := HM.out; omega) W5.drew)).mono fun e z4 ⟨az4, cz4, he, qz4, rz4, _, _⟩ => ⟨.slice az4 m cz4, he, ?_⟩)
          simp only [Act.put, List.setIfInBounds_toArray, List.set_cons_zero, List.set_cons_succ]
          have Fz4 := Lib.hid (show Below g0 w z4 ∧ Blk z4 g0 23 (ub xs).toArray ∧ Blk z4 g7 28 (ub [xs.getD 0 0, xs.getD 1 0, 5, 0, 0, 0, 0, 0, 0, 0, 0, 0]).toArray ∧ Row z4 (some ⟨go, 0, none⟩) m (strm ks c m) ∧ Row z4 az4 m (strm ks c m) from ⟨F5.out.1.trans (qz4.mono (by have h1 := F5.out.1.size; have h2 := G0.out; omega)), F5.out.2.1.below qz4, F5.out.2.2.1.below qz4, F5.out.2.2.2.keep qz4, rz4⟩)
          clear qz4
          refine wpAny_all (rs := [10]) (by kernel_rfl) (by simp) ?_
          intro i hi
          simp only [List.mem_cons, List.not_mem_nil, or_false] at hi
          subst hi
          refine op_val (o := ⟨some 57, _, _, _, _, _⟩) (.string (strOfNums (strm ks c m))) rfl rfl (run_conv_str _ _ _ _ az4 m cz4 (strm ks c m) rfl rfl (Fz4.out.2.2.2.2)) ?_
          simp only [Act.put, List.setIfInBounds_toArray, List.set_cons_zero, List.set_cons_succ]
          refine wpAny_take (i := 11) (oi := ⟨some 58, _, _, _, _, _⟩) (v := (.bool true)) rfl (by kernel_rfl) (by kernel_rfl) (by kernel_rfl) (fun _ _ _ h => h) (Or.inl ⟨rfl, fun w => run_str_eql _ _ _ _ _ (strm ks c m) (strm ks c m) true rfl rfl rfl (by simp) (strm_byte HT.out _ _) (strm_byte HT.out _ _)⟩) ?_
          simp only [Act.put, List.setIfInBounds_toArray, List.set_cons_zero, List.set_cons_succ]
          refine wpAny_take (i := 12) (oi := ⟨some 59, _, _, _, _, _⟩) (v := (.bool true)) rfl (by kernel_rfl) (by kernel_rfl) (by kernel_rfl) (fun _ _ _ h => h) (Or.inl ⟨rfl, fun w => by kernel_rfl⟩) ?_
          simp only [Act.put, List.setIfInBounds_toArray, List.set_cons_zero, List.set_cons_succ]
          refine wpAny_take (i := 13) (oi := ⟨some 6, _, _, _, _, _⟩) (v := (.bool true)) rfl (by kernel_rfl) (by kernel_rfl) (by kernel_rfl) (fun _ _ _ h => h) (Or.inl ⟨rfl, fun w => by kernel_rfl⟩) ?_
          simp only [Act.put, List.setIfInBounds_toArray, List.set_cons_zero, List.set_cons_succ]
          refine wpAny_done (by kernel_rfl) ?_ _
          go_wp2_with fail
          go_ret
          exact ⟨rfl, by rw [G0.out]; exact Fz4.out.1⟩
        · refine op_val (o := ⟨some 53, _, _, _, _, _⟩) (.agg (ub [xs.getD 0 0, xs.getD 1 0, 5, 0, 0, 0, 0, 0, 0, 0, 0, 0]).toArray) rfl rfl (run_load_mid _ _ _ 28 _ rfl g7 0 rfl (ub [xs.getD 0 0, xs.getD 1 0, 5, 0, 0, 0, 0, 0, 0, 0, 0, 0]) _ (blk_rangeC (F5.out.2.2.1)) Try.underlying28 rfl (by rw [HT.out.2.2.2.2]; kernel_rfl)) ?_
          simp only [Act.put, List.setIfInBounds_toArray, List.set_cons_zero, List.set_cons_succ]
          refine wpAny_all (rs := [5]) (by kernel_rfl) (by simp) ?_
          intro i hi
          simp only [List.mem_cons, List.not_mem_nil, or_false] at hi
          subst hi
          refine op_val (o := ⟨some 52, _, _, _, _, _⟩) (.agg (ub xs).toArray) rfl rfl (run_load_mid _ _ _ 23 _ rfl g0 0 rfl (ub xs) _ (blk_rangeC (F5.out.2.1)) Try.underlying23 rfl (by rw [HT.out.2.2.2.1]; kernel_rfl)) ?_
          simp only [Act.put, List.setIfInBounds_toArray, List.set_cons_zero, List.set_cons_succ]
          refine wpAny_all (rs := [9]) (by kernel_rfl) (by simp) ?_
          intro i hi
          simp only [List.mem_cons, List.not_mem_nil, or_false] at hi
          subst hi
          refine op_call (o := ⟨some 56, _, _, _, _, _⟩) 11 #[.agg (ub xs).toArray, .agg (ub [xs.getD 0 0, xs.getD 1 0, 5, 0, 0, 0, 0, 0, 0, 0, 0, 0]).toArray, .int .u32 ((c : Nat) : Int), .int .i64 ((m : Nat) : Int)] rfl rfl (by kernel_rfl) (((refstream_two HT.out c HC.out m (by have := HM.out; omega) W5.drew)).mono fun e z8 ⟨az8, cz8, he, qz8, rz8, _, _⟩ => ⟨.slice az8 m cz8, he, ?_⟩)
          simp only [Act.put, List.setIfInBounds_toArray, List.set_cons_zero, List.set_cons_succ]
          have Fz8 := Lib.hid (show Below g0 w z8 ∧ Blk z8 g0 23 (ub xs).toArray ∧ Blk z8 g7 28 (ub [xs.getD 0 0, xs.getD 1 0, 5, 0, 0, 0, 0, 0, 0, 0, 0, 0]).toArray ∧ Row z8 (some ⟨go, 0, none⟩) m (strm ks c m) ∧ Row z8 az8 m (strm ks c m) from ⟨F5.out.1.trans (qz8.mono (by have h1 := F5.out.1.size; have h2 := G0.out; omega)), F5.out.2.1.below qz8, F5.out.2.2.1.below qz8, F5.out.2.2.2.keep qz8, rz8⟩)
          clear qz8
          refine wpAny_all (rs := [10]) (by kernel_rfl) (by simp) ?_
          intro i hi
          simp only [List.mem_cons, List.not_mem_nil, or_false] at hi
          subst hi
          refine op_val (o := ⟨some 57, _, _, _, _, _⟩) (.string (strOfNums (strm ks c m))) rfl rfl (run_conv_str _ _ _ _ az8 m cz8 (strm ks c m) rfl rfl (Fz8.out.2.2.2.2)) ?_
          simp only [Act.put, List.setIfInBounds_toArray, List.set_cons_zero, List.set_cons_succ]
          refine wpAny_take (i := 11) (oi := ⟨some 58, _, _, _, _, _⟩) (v := (.bool true)) rfl (by kernel_rfl) (by kernel_rfl) (by kernel_rfl) (fun _ _ _ h => h) (Or.inl ⟨rfl, fun w => run_str_eql _ _ _ _ _ (strm ks c m) (strm ks c m) true rfl rfl rfl (by simp) (strm_byte HT.out _ _) (strm_byte HT.out _ _)⟩) ?_
          simp only [Act.put, List.setIfInBounds_toArray, List.set_cons_zero, List.set_cons_succ]
          refine wpAny_take (i := 12) (oi := ⟨some 59, _, _, _, _, _⟩) (v := (.bool true)) rfl (by kernel_rfl) (by kernel_rfl) (by kernel_rfl) (fun _ _ _ h => h) (Or.inl ⟨rfl, fun w => by kernel_rfl⟩) ?_
          simp only [Act.put, List.setIfInBounds_toArray, List.set_cons_zero, List.set_cons_succ]
          refine wpAny_take (i := 13) (oi := ⟨some 6, _, _, _, _, _⟩) (v := (.bool true)) rfl (by kernel_rfl) (by kernel_rfl) (by kernel_rfl) (fun _ _ _ h => h) (Or.inl ⟨rfl, fun w => by kernel_rfl⟩) ?_
          simp only [Act.put, List.setIfInBounds_toArray, List.set_cons_zero, List.set_cons_succ]
          refine wpAny_done (by kernel_rfl) ?_ _
          go_wp2_with fail
          go_ret
          exact ⟨rfl, by rw [G0.out]; exact Fz8.out.1⟩
      · refine op_val (o := ⟨some 52, _, _, _, _, _⟩) (.agg (ub xs).toArray) rfl rfl (run_load_mid _ _ _ 23 _ rfl g0 0 rfl (ub xs) _ (blk_rangeC (F5.out.2.1)) Try.underlying23 rfl (by rw [HT.out.2.2.2.1]; kernel_rfl)) ?_
        simp only [Act.put, List.setIfInBounds_toArray, List.set_cons_zero, List.set_cons_succ]
        refine wpAny_all (rs := [4, 6]) (by kernel_rfl) (by simp) ?_
        intro i hi
        simp only [List.mem_cons, List.not_mem_nil, or_false] at hi
        rcases hi with rfl | rfl
        · refine op_val (o := ⟨some 51, _, _, _, _, _⟩) (.string (strOfNums (strm ks c m))) rfl rfl (run_conv_str _ _ _ _ (some ⟨go, 0, none⟩) m m (strm ks c m) rfl rfl (F5.out.2.2.2)) ?_
          simp only [Act.put, List.setIfInBounds_toArray, List.set_cons_zero, List.set_cons_succ]
          refine wpAny_all (rs := [6]) (by kernel_rfl) (by simp) ?_
          intro i hi
          simp only [List.mem_cons, List.not_mem_nil, or_false] at hi
          subst hi
          refine op_val (o := ⟨some 53, _, _, _, _, _⟩) (.agg (ub [xs.getD 0 0, xs.getD 1 0, 5, 0, 0, 0, 0, 0, 0, 0, 0, 0]).toArray) rfl rfl (run_load_mid _ _ _ 28 _ rfl g7 0 rfl (ub [xs.getD 0 0, xs.getD 1 0, 5, 0, 0, 0, 0, 0, 0, 0, 0, 0]) _ (blk_rangeC (F5.out.2.2.1)) Try.underlying28 rfl (by rw [HT.out.2.2.2.2]; kernel_rfl)) ?_
          simp only [Act.put, List.setIfInBounds_toArray, List.set_cons_zero, List.set_cons_succ]
          refine wpAny_all (rs := [9]) (by kernel_rfl) (by simp) ?_
          intro i hi
          simp only [List.mem_cons, List.not_mem_nil, or_false] at hi
          subst hi
          refine op_call (o := ⟨some 56, _, _, _, _, _⟩) 11 #[.agg (ub xs).toArray, .agg (ub [xs.getD 0 0, xs.getD 1 0, 5, 0, 0, 0, 0, 0, 0, 0, 0, 0]).toArray, .int .u32 ((c : Nat) : Int), .int .i64 ((m : Nat) : Int)] rfl rfl (by kernel_rfl) (((refstream_two HT.out c HC.out m (by have := HM.out; omega) W5.drew)).mono fun e z13 ⟨az13, cz13, he, qz13, rz13, _, _⟩ => ⟨.slice az13 m cz13, he, ?_⟩)
          simp only [Act.put, List.setIfInBounds_toArray, List.set_cons_zero, List.set_cons_succ]
          have Fz13 := Lib.hid (show Below g0 w z13 ∧ Blk z13 g0 23 (ub xs).toArray ∧ Blk z13 g7 28 (ub [xs.getD 0 0, xs.getD 1 0, 5, 0, 0, 0, 0, 0, 0, 0, 0, 0]).toArray ∧ Row z13 (some ⟨go, 0, none⟩) m (strm ks c m) ∧ Row z13 az13 m (strm ks c m) from ⟨F5.out.1.trans (qz13.mono (by have h1 := F5.out.1.size; have h2 := G0.out; omega)), F5.out.2.1.below qz13, F5.out.2.2.1.below qz13, F5.out.2.2.2.keep qz13, rz13⟩)
          clear qz13
          refine wpAny_all (rs := [10]) (by kernel_rfl) (by simp) ?_
          intro i hi
          simp only [List.mem_cons, List.not_mem_nil, or_false] at hi
          subst hi
          refine op_val (o := ⟨some 57, _, _, _, _, _⟩) (.string (strOfNums (strm ks c m))) rfl rfl (run_conv_str _ _ _ _ az13 m cz13 (strm ks c m) rfl rfl (Fz13.out.2.2.2.2)) ?_
          simp only [Act.put, List.setIfInBounds_toArray, List.set_cons_zero, List.set_cons_succ]
          refine wpAny_take (i := 11) (oi := ⟨some 58, _, _, _, _, _⟩) (v := (.bool true)) rfl (by kernel_rfl) (by kernel_rfl) (by kernel_rfl) (fun _ _ _ h => h) (Or.inl ⟨rfl, fun w => run_str_eql _ _ _ _ _ (strm ks c m) (strm ks c m) true rfl rfl rfl (by simp) (strm_byte HT.out _ _) (strm_byte HT.out _ _)⟩) ?_
          simp only [Act.put, List.setIfInBounds_toArray, List.set_cons_zero, List.set_cons_succ]
          refine wpAny_take (i := 12) (oi := ⟨some 59, _, _, _, _, _⟩) (v := (.bool true)) rfl (by kernel_rfl) (by kernel_rfl) (by kernel_rfl) (fun _ _ _ h => h) (Or.inl ⟨rfl, fun w => by kernel_rfl⟩) ?_
          simp only [Act.put, List.setIfInBounds_toArray, List.set_cons_zero, List.set_cons_succ]
          refine wpAny_take (i := 13) (oi := ⟨some 6, _, _, _, _, _⟩) (v := (.bool true)) rfl (by kernel_rfl) (by kernel_rfl) (by kernel_rfl) (fun _ _ _ h => h) (Or.inl ⟨rfl, fun w => by kernel_rfl⟩) ?_
          simp only [Act.put, List.setIfInBounds_toArray, List.set_cons_zero, List.set_cons_succ]
          refine wpAny_done (by kernel_rfl) ?_ _
          go_wp2_with fail
          go_ret
          exact ⟨rfl, by rw [G0.out]; exact Fz13.out.1⟩
        · refine op_val (o := ⟨some 53, _, _, _, _, _⟩) (.agg (ub [xs.getD 0 0, xs.getD 1 0, 5, 0, 0, 0, 0, 0, 0, 0, 0, 0]).toArray) rfl rfl (run_load_mid _ _ _ 28 _ rfl g7 0 rfl (ub [xs.getD 0 0, xs.getD 1 0, 5, 0, 0, 0, 0, 0, 0, 0, 0, 0]) _ (blk_rangeC (F5.out.2.2.1)) Try.underlying28 rfl (by rw [HT.out.2.2.2.2]; kernel_rfl)) ?_
          simp only [Act.put, List.setIfInBounds_toArray, List.set_cons_zero, List.set_cons_succ]
          refine wpAny_all (rs := [4, 9]) (by kernel_rfl) (by simp) ?_
          intro i hi
          simp only [List.mem_cons, List.not_mem_nil, or_false] at hi
          rcases hi with rfl | rfl
          · refine op_val (o := ⟨some 51, _, _, _, _, _⟩) (.string (strOfNums (strm ks c m))) rfl rfl (run_conv_str _ _ _ _ (some ⟨go, 0, none⟩) m m (strm ks c m) rfl rfl (F5.out.2.2.2)) ?_
            simp only [Act.put, List.setIfInBounds_toArray, List.set_cons_zero, List.set_cons_succ]
            refine wpAny_all (rs := [9]) (by kernel_rfl) (by simp) ?_
            intro i hi
            simp only [List.mem_cons, List.not_mem_nil, or_false] at hi
            subst hi
            refine op_call (o := ⟨some 56, _, _, _, _, _⟩) 11 #[.agg (ub xs).toArray, .agg (ub [xs.getD 0 0, xs.getD 1 0, 5, 0, 0, 0, 0, 0, 0, 0, 0, 0]).toArray, .int .u32 ((c : Nat) : Int), .int .i64 ((m : Nat) : Int)] rfl rfl (by kernel_rfl) (((refstream_two HT.out c HC.out m (by have := HM.out; omega) W5.drew)).mono fun e z17 ⟨az17, cz17, he, qz17, rz17, _, _⟩ => ⟨.slice az17 m cz17, he, ?_⟩)
            simp only [Act.put, List.setIfInBounds_toArray, List.set_cons_zero, List.set_cons_succ]
            have Fz17 := Lib.hid (show Below g0 w z17 ∧ Blk z17 g0 23 (ub xs).toArray ∧ Blk z17 g7 28 (ub [xs.getD 0 0, xs.getD 1 0, 5, 0, 0, 0, 0, 0, 0, 0, 0, 0]).toArray ∧ Row z17 (some ⟨go, 0, none⟩) m (strm ks c m) ∧ Row z17 az17 m (strm ks c m) from ⟨F5.out.1.trans (qz17.mono (by have h1 := F5.out.1.size; have h2 := G0.out; omega)), F5.out.2.1.below qz17, F5.out.2.2.1.below qz17, F5.out.2.2.2.keep qz17, rz17⟩)
            clear qz17
            refine wpAny_all (rs := [10]) (by kernel_rfl) (by simp) ?_
            intro i hi
            simp only [List.mem_cons, List.not_mem_nil, or_false] at hi
            subst hi
            refine op_val (o := ⟨some 57, _, _, _, _, _⟩) (.string (strOfNums (strm ks c m))) rfl rfl (run_conv_str _ _ _ _ az17 m cz17 (strm ks c m) rfl rfl (Fz17.out.2.2.2.2)) ?_
            simp only [Act.put, List.setIfInBounds_toArray, List.set_cons_zero, List.set_cons_succ]
            refine wpAny_take (i := 11) (oi := ⟨some 58, _, _, _, _, _⟩) (v := (.bool true)) rfl (by kernel_rfl) (by kernel_rfl) (by kernel_rfl) (fun _ _ _ h => h) (Or.inl ⟨rfl, fun w => run_str_eql _ _ _ _ _ (strm ks c m) (strm ks c m) true rfl rfl rfl (by simp) (strm_byte HT.out _ _) (strm_byte HT.out _ _)⟩) ?_
            simp only [Act.put, List.setIfInBounds_toArray, List.set_cons_zero, List.set_cons_succ]
            refine wpAny_take (i := 12) (oi := ⟨some 59, _, _, _, _, _⟩) (v := (.bool true)) rfl (by kernel_rfl) (by kernel_rfl) (by kernel_rfl) (fun _ _ _ h => h) (Or.inl ⟨rfl, fun w => by kernel_rfl⟩) ?_
            simp only [Act.put, List.setIfInBounds_toArray, List.set_cons_zero, List.set_cons_succ]
            refine wpAny_take (i := 13) (oi := ⟨some 6, _, _, _, _, _⟩) (v := (.bool true)) rfl (by kernel_rfl) (by kernel_rfl) (by kernel_rfl) (fun _ _ _ h => h) (Or.inl ⟨rfl, fun w => by kernel_rfl⟩) ?_
            simp only [Act.put, List.setIfInBounds_toArray, List.set_cons_zero, List.set_cons_succ]
            refine wpAny_done (by kernel_rfl) ?_ _
            go_wp2_with fail
            go_ret
            exact ⟨rfl, by rw [G0.out]; exact Fz17.out.1⟩
          · refine op_call (o := ⟨some 56, _, _, _, _, _⟩) 11 #[.agg (ub xs).toArray, .agg (ub [xs.getD 0 0, xs.getD 1 0, 5, 0, 0, 0, 0, 0, 0, 0, 0, 0]).toArray, .int .u32 ((c : Nat) : Int), .int .i64 ((m : Nat) : Int)] rfl rfl (by kernel_rfl) (((refstream_two HT.out c HC.out m (by have := HM.out; omega) W5.drew)).mono fun e z19 ⟨az19, cz19, he, qz19, rz19, _, _⟩ => ⟨.slice az19 m cz19, he, ?_⟩)
            simp only [Act.put, List.setIfInBounds_toArray, List.set_cons_zero, List.set_cons_succ]
            have Fz19 := Lib.hid (show Below g0 w z19 ∧ Blk z19 g0 23 (ub xs).toArray ∧ Blk z19 g7 28 (ub [xs.getD 0 0, xs.getD 1 0, 5, 0, 0, 0, 0, 0, 0, 0, 0, 0]).toArray ∧ Row z19 (some ⟨go, 0, none⟩) m (strm ks c m) ∧ Row z19 az19 m (strm ks c m) from ⟨F5.out.1.trans (qz19.mono (by have h1 := F5.out.1.size; have h2 := G0.out; omega)), F5.out.2.1.below qz19, F5.out.2.2.1.below qz19, F5.out.2.2.2.keep qz19, rz19⟩)
            clear qz19
            refine wpAny_all (rs := [4, 10]) (by kernel_rfl) (by simp) ?_
            intro i hi
            simp only [List.mem_cons, List.not_mem_nil, or_false] at hi
            rcases hi with rfl | rfl
            · refine op_val (o := ⟨some 51, _, _, _, _, _⟩) (.string (strOfNums (strm ks c m))) rfl rfl (run_conv_str _ _ _ _ (some ⟨go, 0, none⟩) m m (strm ks c m) rfl rfl (Fz19.out.2.2.2.1)) ?_
              simp only [Act.put, List.setIfInBounds_toArray, List.set_cons_zero, List.set_cons_succ]
              refine wpAny_all (rs := [10]) (by kernel_rfl) (by simp) ?_
              intro i hi
              simp only [List.mem_cons, List.not_mem_nil, or_false] at hi
              subst hi
              refine op_val (o := ⟨some 57, _, _, _, _, _⟩) (.string (strOfNums (strm ks c m))) rfl rfl (run_conv_str _ _ _ _ az19 m cz19 (strm ks c m) rfl rfl (Fz19.out.2.2.2.2)) ?_
              simp only [Act.put, List.setIfInBounds_toArray, List.set_cons_zero, List.set_cons_succ]
              refine wpAny_take (i := 11) (oi := ⟨some 58, _, _, _, _, _⟩) (v := (.bool true)) rfl (by kernel_rfl) (by kernel_rfl) (by kernel_rfl) (fun _ _ _ h => h) (Or.inl ⟨rfl, fun w => run_str_eql _ _ _ _ _ (strm ks c m) (strm ks c m) true rfl rfl rfl (by simp) (strm_byte HT.out _ _) (strm_byte HT.out _ _)⟩) ?_
              simp only [Act.put, List.setIfInBounds_toArray, List.set_cons_zero, List.set_cons_succ]
              refine wpAny_take (i := 12) (oi := ⟨some 59, _, _, _, _, _⟩) (v := (.bool true)) rfl (by kernel_rfl) (by kernel_rfl) (by kernel_rfl) (fun _ _ _ h => h) (Or.inl ⟨rfl, fun w => by kernel_rfl⟩) ?_
              simp only [Act.put, List.setIfInBounds_toArray, List.set_cons_zero, List.set_cons_succ]
              refine wpAny_take (i := 13) (oi := ⟨some 6, _, _, _, _, _⟩) (v := (.bool true)) rfl (by kernel_rfl) (by kernel_rfl) (by kernel_rfl) (fun _ _ _ h => h) (Or.inl ⟨rfl, fun w => by kernel_rfl⟩) ?_
              simp only [Act.put, List.setIfInBounds_toArray, List.set_cons_zero, List.set_cons_succ]
              refine wpAny_done (by kernel_rfl) ?_ _
              go_wp2_with fail
              go_ret
              exact ⟨rfl, by rw [G0.out]; exact Fz19.out.1⟩
            · refine op_val (o := ⟨some 57, _, _, _, _, _⟩) (.string (strOfNums (strm ks c m))) rfl rfl (run_conv_str _ _ _ _ az19 m cz19 (strm ks c m) rfl rfl (Fz19.out.2.2.2.2)) ?_
              simp only [Act.put, List.setIfInBounds_toArray, List.set_cons_zero, List.set_cons_succ]
              refine wpAny_all (rs := [4]) (by kernel_rfl) (by simp) ?_
              intro i hi
              simp only [List.mem_cons, List.not_mem_nil, or_false] at hi
              subst hi
              refine op_val (o := ⟨some 51, _, _, _, _, _⟩) (.string (strOfNums (strm ks c m))) rfl rfl (run_conv_str _ _ _ _ (some ⟨go, 0, none⟩) m m (strm ks c m) rfl rfl (Fz19.out.2.2.2.1)) ?_
              simp only [Act.put, List.setIfInBounds_toArray, List.set_cons_zero, List.set_cons_succ]
              refine wpAny_take (i := 11) (oi := ⟨some 58, _, _, _, _, _⟩) (v := (.bool true)) rfl (by kernel_rfl) (by kernel_rfl) (by kernel_rfl) (fun _ _ _ h => h) (Or.inl ⟨rfl, fun w => run_str_eql _ _ _ _ _ (strm ks c m) (strm ks c m) true rfl rfl rfl (by simp) (strm_byte HT.out _ _) (strm_byte HT.out _ _)⟩) ?_
              simp only [Act.put, List.setIfInBounds_toArray, List.set_cons_zero, List.set_cons_succ]
              refine wpAny_take (i := 12) (oi := ⟨some 59, _, _, _, _, _⟩) (v := (.bool true)) rfl (by kernel_rfl) (by kernel_rfl) (by kernel_rfl) (fun _ _ _ h => h) (Or.inl ⟨rfl, fun w => by kernel_rfl⟩) ?_
              simp only [Act.put, List.setIfInBounds_toArray, List.set_cons_zero, List.set_cons_succ]
              refine wpAny_take (i := 13) (oi := ⟨some 6, _, _, _, _, _⟩) (v := (.bool true)) rfl (by kernel_rfl) (by kernel_rfl) (by kernel_rfl) (fun _ _ _ h => h) (Or.inl ⟨rfl, fun w => by kernel_rfl⟩) ?_
              simp only [Act.put, List.setIfInBounds_toArray, List.set_cons_zero, List.set_cons_succ]
              refine wpAny_done (by kernel_rfl) ?_ _
              go_wp2_with fail
              go_ret
              exact ⟨rfl, by rw [G0.out]; exact Fz19.out.1⟩
      · refine op_val (o := ⟨some 53, _, _, _, _, _⟩) (.agg (ub [xs.getD 0 0, xs.getD 1 0, 5, 0, 0, 0, 0, 0, 0, 0, 0, 0]).toArray) rfl rfl (run_load_mid _ _ _ 28 _ rfl g7 0 rfl (ub [xs.getD 0 0, xs.getD 1 0, 5, 0, 0, 0, 0, 0, 0, 0, 0, 0]) _ (blk_rangeC (F5.out.2.2.1)) Try.underlying28 rfl (by rw [HT.out.2.2.2.2]; kernel_rfl)) ?_
        simp only [Act.put, List.setIfInBounds_toArray, List.set_cons_zero, List.set_cons_succ]
        refine wpAny_all (rs := [4, 5]) (by kernel_rfl) (by simp) ?_
        intro i hi
        simp only [List.mem_cons, List.not_mem_nil, or_false] at hi
        rcases hi with rfl | rfl
        · refine op_val (o := ⟨some 51, _, _, _, _, _⟩) (.string (strOfNums (strm ks c m))) rfl rfl (run_conv_str _ _ _ _ (some ⟨go, 0, none⟩) m m (strm ks c m) rfl rfl (F5.out.2.2.2)) ?_
          simp only [Act.put, List.setIfInBounds_toArray, List.set_cons_zero, List.set_cons_succ]
          refine wpAny_all (rs := [5]) (by kernel_rfl) (by simp) ?_
          intro i hi
          simp only [List.mem_cons, List.not_mem_nil, or_false] at hi
          subst hi
          refine op_val (o := ⟨some 52, _, _, _, _, _⟩) (.agg (ub xs).toArray) rfl rfl (run_load_mid _ _ _ 23 _ rfl g0 0 rfl (ub xs) _ (blk_rangeC (F5.out.2.1)) Try.underlying23 rfl (by rw [HT.out.2.2.2.1]; kernel_rfl)) ?_
          simp only [Act.put, List.setIfInBounds_toArray, List.set_cons_zero, List.set_cons_succ]
          refine wpAny_all (rs := [9]) (by kernel_rfl) (by simp) ?_
          intro i hi
          simp only [List.mem_cons, List.not_mem_nil, or_false] at hi
          subst hi
          refine op_call (o := ⟨some 56, _, _, _, _, _⟩) 11 #[.agg (ub xs).toArray, .agg (ub [xs.getD 0 0, xs.getD 1 0, 5, 0, 0, 0, 0, 0, 0, 0, 0, 0]).toArray, .int .u32 ((c : Nat) : Int), .int .i64 ((m : Nat) : Int)] rfl rfl (by kernel_rfl) (((refstream_two HT.out c HC.out m (by have := HM.out; omega) W5.drew)).mono fun e z27 ⟨az27, cz27, he, qz27, rz27, _, _⟩ => ⟨.slice az27 m cz27, he, ?_⟩)
          simp only [Act.put, List.setIfInBounds_toArray, List.set_cons_zero, List.set_cons_succ]
          have Fz27 := Lib.hid (show Below g0 w z27 ∧ Blk z27 g0 23 (ub xs).toArray ∧ Blk z27 g7 28 (ub [xs.getD 0 0, xs.getD 1 0, 5, 0, 0, 0, 0, 0, 0, 0, 0, 0]).toArray ∧ Row z27 (some ⟨go, 0, none⟩) m (strm ks c m) ∧ Row z27 az27 m (strm ks c m) from ⟨F5.out.1.trans (qz27.mono (by have h1 := F5.out.1.size; have h2 := G0.out; omega)), F5.out.2.1.below qz27, F5.out.2.2.1.below qz27, F5.out.2.2.2.keep qz27, rz27⟩)
          clear qz27
          refine wpAny_all (rs := [10]) (by kernel_rfl) (by simp) ?_
          intro i hi
          simp only [List.mem_cons, List.not_mem_nil, or_false] at hi
          subst hi
          refine op_val (o := ⟨some 57, _, _, _, _, _⟩) (.string (strOfNums (strm ks c m))) rfl rfl (run_conv_str _ _ _ _ az27 m cz27 (strm ks c m) rfl rfl (Fz27.out.2.2.2.2)) ?_
          simp only [Act.put, List.setIfInBounds_toArray, List.set_cons_zero, List.set_cons_succ]
          refine wpAny_take (i := 11) (oi := ⟨some 58, _, _, _, _, _⟩) (v := (.bool true)) rfl (by kernel_rfl) (by kernel_rfl) (by kernel_rfl) (fun _ _ _ h => h) (Or.inl ⟨rfl, fun w => run_str_eql _ _ _ _ _ (strm ks c m) (strm ks c m) true rfl rfl rfl (by simp) (strm_byte HT.out _ _) (strm_byte HT.out _ _)⟩) ?_
          simp only [Act.put, List.setIfInBounds_toArray, List.set_cons_zero, List.set_cons_succ]
          refine wpAny_take (i := 12) (oi := ⟨some 59, _, _, _, _, _⟩) (v := (.bool true)) rfl (by kernel_rfl) (by kernel_rfl) (by kernel_rfl) (fun _ _ _ h => h) (Or.inl ⟨rfl, fun w => by kernel_rfl⟩) ?_
          simp only [Act.put, List.setIfInBounds_toArray, List.set_cons_zero, List.set_cons_succ]
          refine wpAny_take (i := 13) (oi := ⟨some 6, _, _, _, _, _⟩) (v := (.bool true)) rfl (by kernel_rfl) (by kernel_rfl) (by kernel_rfl) (fun _ _ _ h => h) (Or.inl ⟨rfl, fun w => by kernel_rfl⟩) ?_
          simp only [Act.put, List.setIfInBounds_toArray, List.set_cons_zero, List.set_cons_succ]
          refine wpAny_done (by kernel_rfl) ?_ _
          go_wp2_with fail
          go_ret
          exact ⟨rfl, by rw [G0.out]; exact Fz27.out.1⟩
        · refine op_val (o := ⟨some 52, _, _, _, _, _⟩) (.agg (ub xs).toArray) rfl rfl (run_load_mid _ _ _ 23 _ rfl g0 0 rfl (ub xs) _ (blk_rangeC (F5.out.2.1)) Try.underlying23 rfl (by rw [HT.out.2.2.2.1]; kernel_rfl)) ?_
          simp only [Act.put, List.setIfInBounds_toArray, List.set_cons_zero, List.set_cons_succ]
          refine wpAny_all (rs := [4, 9]) (by kernel_rfl) (by simp) ?_
          intro i hi
          simp only [List.mem_cons, List.not_mem_nil, or_false] at hi
          rcases hi with rfl | rfl
          · refine op_val (o := ⟨some 51, _, _, _, _, _⟩) (.string (strOfNums (strm ks c m))) rfl rfl (run_conv_str _ _ _ _ (some ⟨go, 0, none⟩) m m (strm ks c m) rfl rfl (F5.out.2.2.2)) ?_
            simp only [Act.put, List.setIfInBounds_toArray, List.set_cons_zero, List.set_cons_succ]
            refine wpAny_all (rs := [9]) (by kernel_rfl) (by simp) ?_
            intro i hi
            simp only [List.mem_cons, List.not_mem_nil, or_false] at hi
            subst hi
            refine op_call (o := ⟨some 56, _, _, _, _, _⟩) 11 #[.agg (ub xs).toArray, .agg (ub [xs.getD 0 0, xs.getD 1 0, 5, 0, 0, 0, 0, 0, 0, 0, 0, 0]).toArray, .int .u32 ((c : Nat) : Int), .int .i64 ((m : Nat) : Int)] rfl rfl (by kernel_rfl) (((refstream_two HT.out c HC.out m (by have := HM.out; omega) W5.drew)).mono fun e z31 ⟨az31, cz31, he, qz31, rz31, _, _⟩ => ⟨.slice az31 m cz31, he, ?_⟩)
            simp only [Act.put, List.setIfInBounds_toArray, List.set_cons_zero, List.set_cons_succ]
            have Fz31 := Lib.hid (show Below g0 w z31 ∧ Blk z31 g0 23 (ub xs).toArray ∧ Blk z31 g7 28 (ub [xs.getD 0 0, xs.getD 1 0, 5, 0, 0, 0, 0, 0, 0, 0, 0, 0]).toArray ∧ Row z31 (some ⟨go, 0, none⟩) m (strm ks c m) ∧ Row z31 az31 m (strm ks c m) from ⟨F5.out.1.trans (qz31.mono (by have h1 := F5.out.1.size; have h2 := G0.out; omega)), F5.out.2.1.below qz31, F5.out.2.2.1.below qz31, F5.out.2.2.2.keep qz31, rz31⟩)
            clear qz31
            refine wpAny_all (rs := [10]) (by kernel_rfl) (by simp) ?_
            intro i hi
            simp only [List.mem_cons, List.not_mem_nil, or_false] at hi
            subst hi
            refine op_val (o := ⟨some 57, _, _, _, _, _⟩) (.string (strOfNums (strm ks c m))) rfl rfl (run_conv_str _ _ _ _ az31 m cz31 (strm ks c m) rfl rfl (Fz31.out.2.2.2.2)) ?_
            simp only [Act.put, List.setIfInBounds_toArray, List.set_cons_zero, List.set_cons_succ]
            refine wpAny_take (i := 11) (oi := ⟨some 58, _, _, _, _, _⟩) (v := (.bool true)) rfl (by kernel_rfl) (by kernel_rfl) (by kernel_rfl) (fun _ _ _ h => h) (Or.inl ⟨rfl, fun w => run_str_eql _ _ _ _ _ (strm ks c m) (strm ks c m) true rfl rfl rfl (by simp) (strm_byte HT.out _ _) (strm_byte HT.out _ _)⟩) ?_
            simp only [Act.put, List.setIfInBounds_toArray, List.set_cons_zero, List.set_cons_succ]
            refine wpAny_take (i := 12) (oi := ⟨some 59, _, _, _, _, _⟩) (v := (.bool true)) rfl (by kernel_rfl) (by kernel_rfl) (by kernel_rfl) (fun _ _ _ h => h) (Or.inl ⟨rfl, fun w => by kernel_rfl⟩) ?_
            simp only [Act.put, List.setIfInBounds_toArray, List.set_cons_zero, List.set_cons_succ]
            refine wpAny_take (i := 13) (oi := ⟨some 6, _, _, _, _, _⟩) (v := (.bool true)) rfl (by kernel_rfl) (by kernel_rfl) (by kernel_rfl) (fun _ _ _ h => h) (Or.inl ⟨rfl, fun w => by kernel_rfl⟩) ?_
            simp only [Act.put, List.setIfInBounds_toArray, List.set_cons_zero, List.set_cons_succ]
            refine wpAny_done (by kernel_rfl) ?_ _
            go_wp2_with fail
            go_ret
            exact ⟨rfl, by rw [G0.out]; exact Fz31.out.1⟩
          · refine op_call (o := ⟨some 56, _, _, _, _, _⟩) 11 #[.agg (ub xs).toArray, .agg (ub [xs.getD 0 0, xs.getD 1 0, 5, 0, 0, 0, 0, 0, 0, 0, 0, 0]).toArray, .int .u32 ((c : Nat) : Int), .int .i64 ((m : Nat) : Int)] rfl rfl (by kernel_rfl) (((refstream_two HT.out c HC.out m (by have := HM.out; omega) W5.drew)).mono fun e z33 ⟨az33, cz33, he, qz33, rz33, _, _⟩ => ⟨.slice az33 m cz33, he, ?_⟩)
            simp only [Act.put, List.setIfInBounds_toArray, List.set_cons_zero, List.set_cons_succ]
            have Fz33 := Lib.hid (show Below g0 w z33 ∧ Blk z33 g0 23 (ub xs).toArray ∧ Blk z33 g7 28 (ub [xs.getD 0 0, xs.getD 1 0, 5, 0, 0, 0, 0, 0, 0, 0, 0, 0]).toArray ∧ Row z33 (some ⟨go, 0, none⟩) m (strm ks c m) ∧ Row z33 az33 m (strm ks c m) from ⟨F5.out.1.trans (qz33.mono (by have h1 := F5.out.1.size; have h2 := G0.out; omega)), F5.out.2.1.below qz33, F5.out.2.2.1.below qz33, F5.out.2.2.2.keep qz33, rz33⟩)
            clear qz33
            refine wpAny_all (rs := [4, 10]) (by kernel_rfl) (by simp) ?_
            intro i hi
            simp only [List.mem_cons, List.not_mem_nil, or_false] at hi
            rcases hi with rfl | rfl
            · refine op_val (o := ⟨some 51, _, _, _, _, _⟩) (.string (strOfNums (strm ks c m))) rfl rfl (run_conv_str _ _ _ _ (some ⟨go, 0, none⟩) m m (strm ks c m) rfl rfl (Fz33.out.2.2.2.1)) ?_
              simp only [Act.put, List.setIfInBounds_toArray, List.set_cons_zero, List.set_cons_succ]
              refine wpAny_all (rs := [10]) (by kernel_rfl) (by simp) ?_
              intro i hi
              simp only [List.mem_cons, List.not_mem_nil, or_false] at hi
              subst hi
              refine op_val (o := ⟨some 57, _, _, _, _, _⟩) (.string (strOfNums (strm ks c m))) rfl rfl (run_conv_str _ _ _ _ az33 m cz33 (strm ks c m) rfl rfl (Fz33.out.2.2.2.2)) ?_
              simp only [Act.put, List.setIfInBounds_toArray, List.set_cons_zero, List.set_cons_succ]
              refine wpAny_take (i := 11) (oi := ⟨some 58, _, _, _, _, _⟩) (v := (.bool true)) rfl (by kernel_rfl) (by kernel_rfl) (by kernel_rfl) (fun _ _ _ h => h) (Or.inl ⟨rfl, fun w => run_str_eql _ _ _ _ _ (strm ks c m) (strm ks c m) true rfl rfl rfl (by simp) (strm_byte HT.out _ _) (strm_byte HT.out _ _)⟩) ?_
              simp only [Act.put, List.setIfInBounds_toArray, List.set_cons_zero, List.set_cons_succ]
              refine wpAny_take (i := 12) (oi := ⟨some 59, _, _, _, _, _⟩) (v := (.bool true)) rfl (by kernel_rfl) (by kernel_rfl) (by kernel_rfl) (fun _ _ _ h => h) (Or.inl ⟨rfl, fun w => by kernel_rfl⟩) ?_
              simp only [Act.put, List.setIfInBounds_toArray, List.set_cons_zero, List.set_cons_succ]
              refine wpAny_take (i := 13) (oi := ⟨some 6, _, _, _, _, _⟩) (v := (.bool true)) rfl (by kernel_rfl) (by kernel_rfl) (by kernel_rfl) (fun _ _ _ h => h) (Or.inl ⟨rfl, fun w => by kernel_rfl⟩) ?_
              simp only [Act.put, List.setIfInBounds_toArray, List.set_cons_zero, List.set_cons_succ]
              refine wpAny_done (by kernel_rfl) ?_ _
              go_wp2_with fail
              go_ret
              exact ⟨rfl, by rw [G0.out]; exact Fz33.out.1⟩
            · refine op_val (o := ⟨some 57, _, _, _, _, _⟩) (.string (strOfNums (strm ks c m))) rfl rfl (run_conv_str _ _ _ _ az33 m cz33 (strm ks c m) rfl rfl (Fz33.out.2.2.2.2)) ?_
              simp only [Act.put, List.setIfInBounds_toArray, List.set_cons_zero, List.set_cons_succ]
              refine wpAny_all (rs := [4]) (by kernel_rfl) (by simp) ?_
              intro i hi
              simp only [List.mem_cons, List.not_mem_nil, or_false] at hi
              subst hi
              refine op_val (o := ⟨some 51, _, _, _, _, _⟩) (.string (strOfNums (strm ks c m))) rfl rfl (run_conv_str _ _ _ _ (some ⟨go, 0, none⟩) m m (strm ks c m) rfl rfl (Fz33.out.2.2.2.1)) ?_
              simp only [Act.put, List.setIfInBounds_toArray, List.set_cons_zero, List.set_cons_succ]
              refine wpAny_take (i := 11) (oi := ⟨some 58, _, _, _, _, _⟩) (v := (.bool true)) rfl (by kernel_rfl) (by kernel_rfl) (by kernel_rfl) (fun _ _ _ h => h) (Or.inl ⟨rfl, fun w => run_str_eql _ _ _ _ _ (strm ks c m) (strm ks c m) true rfl rfl rfl (by simp) (strm_byte HT.out _ _) (strm_byte HT.out _ _)⟩) ?_
              simp only [Act.put, List.setIfInBounds_toArray, List.set_cons_zero, List.set_cons_succ]
              refine wpAny_take (i := 12) (oi := ⟨some 59, _, _, _, _, _⟩) (v := (.bool true)) rfl (by kernel_rfl) (by kernel_rfl) (by kernel_rfl) (fun _ _ _ h => h) (Or.inl ⟨rfl, fun w => by kernel_rfl⟩) ?_
              simp only [Act.put, List.setIfInBounds_toArray, List.set_cons_zero, List.set_cons_succ]
              refine wpAny_take (i := 13) (oi := ⟨some 6, _, _, _, _, _⟩) (v := (.bool true)) rfl (by kernel_rfl) (by kernel_rfl) (by kernel_rfl) (fun _ _ _ h => h) (Or.inl ⟨rfl, fun w => by kernel_rfl⟩) ?_
              simp only [Act.put, List.setIfInBounds_toArray, List.set_cons_zero, List.set_cons_succ]
              refine wpAny_done (by kernel_rfl) ?_ _
              go_wp2_with fail
              go_ret
              exact ⟨rfl, by rw [G0.out]; exact Fz33.out.1⟩
end Go.Proofs.Ytdoikjjkcehpbaa.B
namespace Go.Proofs.Ytdoikjjkcehpbaa
open Go Go.RowKit
theorem walkChachaStreams (xs : List Int) (c n : Int) (lx : xs.length = 32) (wx : ∀ x ∈ xs, (Lit.int .u8 x).wf = true) (hc : (Lit.int .u32 c).wf = true) (_hn : (Lit.int .i64 n).wf = true) (w : World) :
    Calls Try.prog 5 #[.agg (xs.map (Value.int .u8)).toArray, .int .u32 c, .int .i64 n] w fun e w' => e = .returned (.bool true) ∧ Below w.heap.size w w' := by
  have hb := bounds_u32 hc
  obtain ⟨m, rfl⟩ : ∃ m : Nat, c = (m : Int) := ⟨c.toNat, by omega⟩
  exact B.streams_any xs m n lx (fun x hx => by have := bounds_u8 (wx x hx); omega) (by omega) w
end Go.Proofs.Ytdoikjjkcehpbaa
