/- 'ControlKeys'. -/
import Derived.Test.YtfhjfpgfbeiacaaDoorC1
namespace Go.Proofs.YtfhjfpgfbeiacaaDoor.Ha
open Go Go.RowKit
set_option maxRecDepth 100000
theorem run_ne26 (a : Act) (o : Oper) (w : World) (x y : Operand) (L : List Int) (hl : L.length = 32) (ho : o.op = .binOp .neq 23 x y 23) (hx : a.eval x = .agg (u8l L).toArray) (hy : a.eval y = .agg (u8l L).toArray) : (execOp a.eval o).run Tryd.prog w = .ok (.value (.bool false)) w := by
  have h := eq26 L hl w
  have g : (Tryd.prog.eqGuardType Tryd.prog.depth 23) = false := by kernel_rfl
  unfold execOp
  simp only [ho, hx, hy]
  go_simp
attribute [local irreducible] wpList
set_option maxHeartbeats 4000000 in
theorem awake_any (w : World) (hT : TabK w) (hH : TabH w) : Calls Tryd.prog 9 #[] w fun e w' => e = .returned (.bool true) ∧ Below w.heap.size w w' := by
  have HT := Lib.hid hT
  have HH := Lib.hid hH
  clear hT hH
  go_enter Tryd.func9, Tryd.ntmps9
  go_upto_region 0 with (fail)
  refine wp_region_lit ?_
  refine wpL_pure (.bool false) rfl (by kernel_rfl) ?_
  simp only [Act.put, List.setIfInBounds_toArray, List.set_cons_zero, List.set_cons_succ]
  go_upto_region 1 with (fail)
  refine wp_region_lit ?_
  refine wpL_pure (.agg (u8l (7 :: List.replicate 31 0)).toArray) rfl (by kernel_rfl) ?_
  simp only [Act.put, List.setIfInBounds_toArray, List.set_cons_zero, List.set_cons_succ]
  refine wpL_call 8 #[.agg (u8l (7 :: List.replicate 31 0)).toArray, .int .i64 255] rfl (by kernel_rfl) ((key_any w (7 :: List.replicate 31 0) (by simp) (by decide) 255 HT.out HH.out).mono ?_)
  rintro e w1 ⟨he, b1⟩
  refine ⟨.tuple #[.agg (u8l (7 :: List.replicate 31 0)).toArray, .int .i64 0], by rw [he, show bkR (7 :: List.replicate 31 0) 255 255 = .tuple #[.agg (u8l (7 :: List.replicate 31 0)).toArray, .int .i64 0] from rfl], ?_⟩
  simp only [Act.put, List.setIfInBounds_toArray, List.set_cons_zero, List.set_cons_succ]
  clear he
  have F1 : Hid (Below w.heap.size w w1) := Lib.hid b1
  clear b1
  refine wpL_pure (.tuple #[.agg (u8l (7 :: List.replicate 31 0)).toArray, .int .i64 0]) rfl (by kernel_rfl) ?_
  simp only [Act.put, List.setIfInBounds_toArray, List.set_cons_zero, List.set_cons_succ]
  refine wpL_pure (.agg (u8l (7 :: List.replicate 31 0)).toArray) rfl (by kernel_rfl) ?_
  simp only [Act.put, List.setIfInBounds_toArray, List.set_cons_zero, List.set_cons_succ]
  refine wpL_pure (.int .i64 0) rfl (by kernel_rfl) ?_
  simp only [Act.put, List.setIfInBounds_toArray, List.set_cons_zero, List.set_cons_succ]
  obtain ⟨w2, hw2⟩ : ∃ V, V = w1.alloc (.cells (u8l (List.replicate 32 0)).toArray 23) := ⟨_, rfl⟩
  obtain ⟨g1, hg1⟩ : ∃ q, w1.heap.size = q := ⟨_, rfl⟩
  have F2 : Hid (Below w.heap.size w w2 ∧ Blk w2 g1 23 (u8l (List.replicate 32 0)).toArray ∧ w.heap.size ≤ g1) := Lib.hid (by rw [hw2, ← hg1]; exact ⟨F1.out.alloc F1.out.size _, Blk.new _ _ _, F1.out.size⟩)
  refine wpL_value (.pointer (some ⟨g1, 0, none⟩)) w2 rfl (by rw [hw2, ← hg1]; kernel_rfl) ?_
  simp only [Act.put, List.setIfInBounds_toArray, List.set_cons_zero, List.set_cons_succ]
  clear hw2 hg1
  refine wpList_store_rowTo rfl 23 _ _ rfl rfl g1 (u8l (7 :: List.replicate 31 0)).toArray rfl rfl 23 _ F2.out.2.1 (by simp only [List.size_toArray, u8l_len, List.length_cons, List.length_replicate]; kernel_rfl) (by simp [u8l_len, List.length_cons, List.length_replicate]) (u8l_one _) ?_
  obtain ⟨w3, hw3⟩ : ∃ V, V = w2.setRow g1 (u8l (7 :: List.replicate 31 0)).toArray := ⟨_, rfl⟩
  rw [← hw3]
  have F3 : Hid (Below w.heap.size w w3 ∧ Blk w3 g1 23 (u8l (7 :: List.replicate 31 0)).toArray) := Lib.hid (by rw [hw3]; exact ⟨below_setRow F2.out.1 F2.out.2.2 _, setRow_heap _ _ _ _ _ _ F2.out.2.1⟩)
  clear hw3
  refine wpL_pure (.int .i64 0) rfl (by kernel_rfl) ?_
  simp only [Act.put, List.setIfInBounds_toArray, List.set_cons_zero, List.set_cons_succ]
  unfold wpList
  go_upto_region 2 with (fail)
  refine wp_region_lit ?_
  refine wpL_pure (.int .i64 0) rfl (by kernel_rfl) ?_
  simp only [Act.put, List.setIfInBounds_toArray, List.set_cons_zero, List.set_cons_succ]
  refine wpL_pure (.bool true) rfl (by kernel_rfl) ?_
  simp only [Act.put, List.setIfInBounds_toArray, List.set_cons_zero, List.set_cons_succ]
  refine wpL_pure (.bool true) rfl (by kernel_rfl) ?_
  simp only [Act.put, List.setIfInBounds_toArray, List.set_cons_zero, List.set_cons_succ]
  refine wpL_pure (.agg (u8l (7 :: List.replicate 31 0)).toArray) rfl (run_load_mid _ _ _ 23 _ rfl g1 0 rfl (u8l (7 :: List.replicate 31 0)) _ (blk_range F3.out.2) Tryd.underlying23 rfl (by kernel_rfl)) ?_
  simp only [Act.put, List.setIfInBounds_toArray, List.set_cons_zero, List.set_cons_succ]
  refine wpL_pure (.agg (u8l (7 :: List.replicate 31 0)).toArray) rfl (by kernel_rfl) ?_
  simp only [Act.put, List.setIfInBounds_toArray, List.set_cons_zero, List.set_cons_succ]
  refine wpL_pure (.bool true) rfl (run_eq26 _ _ _ _ _ (7 :: List.replicate 31 0) (by simp) rfl rfl rfl) ?_
  simp only [Act.put, List.setIfInBounds_toArray, List.set_cons_zero, List.set_cons_succ]
  refine wpL_pure (.bool true) rfl (by kernel_rfl) ?_
  simp only [Act.put, List.setIfInBounds_toArray, List.set_cons_zero, List.set_cons_succ]
  refine wpL_pure (.bool true) rfl (by kernel_rfl) ?_
  simp only [Act.put, List.setIfInBounds_toArray, List.set_cons_zero, List.set_cons_succ]
  go_wp2_with fail
  go_ret
  exact ⟨rfl, F3.out.1⟩
set_option maxHeartbeats 4000000 in
theorem keys_any (w : World) (ks : List Int) (hk : ks.length = 32) (hkb : ∀ x ∈ ks, 0 ≤ x ∧ x ≤ 255) (a b : Int) (hT : TabK w) (hH : TabH w) (hW : TabW w) :
    Calls Tryd.prog 3 #[.agg (u8l ks).toArray, .int .i64 a, .int .i64 b] w fun e w' => e = .returned (.bool true) ∧ Below w.heap.size w w' := by
  have HKL := Lib.hid hk
  have HKB := Lib.hid hkb
  have HT := Lib.hid hT
  have HH := Lib.hid hH
  have HTW := Lib.hid hW
  clear hk hkb hT hH hW
  go_enter Tryd.func3, Tryd.ntmps3
  obtain ⟨w1, hw1⟩ : ∃ V, V = w.alloc (.cells (u8l ks).toArray 23) := ⟨_, rfl⟩
  obtain ⟨g3, hg3⟩ : ∃ q, w.heap.size = q := ⟨_, rfl⟩
  have F1 : Hid (Blk w1 g3 23 (u8l ks).toArray ∧ Below w.heap.size w w1 ∧ w.heap.size ≤ g3) := Lib.hid (by rw [hw1, ← hg3]; exact ⟨Blk.new _ _ _, (Below.refl _ _).alloc (Nat.le_refl _) _, Nat.le_refl _⟩)
  go_upto_region 0 with (fail)
  refine wp_region_lit ?_
  refine wpL_value (.pointer (some ⟨g3, 0, none⟩)) (w1) rfl (by rw [← hg3]; exact run_box26 _ _ _ _ _ ks rfl rfl HKL.out hw1) ?_
  simp only [Act.put, List.setIfInBounds_toArray, List.set_cons_zero, List.set_cons_succ]
  refine wpL_pure (.bool false) rfl (by kernel_rfl) ?_
  simp only [Act.put, List.setIfInBounds_toArray, List.set_cons_zero, List.set_cons_succ]
  clear hw1 hg3
  by_cases ha : a < 0 ∨ 255 < a
  · have HA := Lib.hid ha
    clear ha
    go_upto_region 1 with (fail)
    refine wp_region_lit ?_
    refine wpL_pure (.agg (u8l ks).toArray) rfl (run_load_mid _ _ _ 23 _ rfl g3 0 rfl (u8l ks) _ (blk_range F1.out.1) Tryd.underlying23 rfl (by simp only [u8l_len, HKL.out]; kernel_rfl)) ?_
    simp only [Act.put, List.setIfInBounds_toArray, List.set_cons_zero, List.set_cons_succ]
    refine wpL_pure (.int .i64 a) rfl (by kernel_rfl) ?_
    simp only [Act.put, List.setIfInBounds_toArray, List.set_cons_zero, List.set_cons_succ]
    refine wpL_call 8 #[.agg (u8l ks).toArray, .int .i64 a] rfl (by kernel_rfl) ((key_any w1 ks HKL.out HKB.out a (HT.out.below F1.out.2.1) (HH.out.below F1.out.2.1)).mono ?_)
    rintro e w2 ⟨he, hb⟩
    refine ⟨.tuple #[.agg (u8l (List.replicate 32 0)).toArray, .int .i64 1], by rw [he, show bkR ks 255 a = .tuple #[.agg (u8l (List.replicate 32 0)).toArray, .int .i64 1] by unfold bkR; rw [if_pos (by have := HA.out; omega)]], ?_⟩
    simp only [Act.put, List.setIfInBounds_toArray, List.set_cons_zero, List.set_cons_succ]
    have F2 : Hid (Blk w2 g3 23 (u8l ks).toArray ∧ Below w.heap.size w w2) := Lib.hid ⟨F1.out.1.below hb, F1.out.2.1.trans (hb.mono F1.out.2.1.size)⟩
    clear hb he
    refine wpL_pure (.tuple #[.agg (u8l (List.replicate 32 0)).toArray, .int .i64 1]) rfl (by kernel_rfl) ?_
    simp only [Act.put, List.setIfInBounds_toArray, List.set_cons_zero, List.set_cons_succ]
    refine wpL_pure (.agg (u8l (List.replicate 32 0)).toArray) rfl (by kernel_rfl) ?_
    simp only [Act.put, List.setIfInBounds_toArray, List.set_cons_zero, List.set_cons_succ]
    refine wpL_pure (.int .i64 1) rfl (by kernel_rfl) ?_
    simp only [Act.put, List.setIfInBounds_toArray, List.set_cons_zero, List.set_cons_succ]
    obtain ⟨w3a, hA⟩ : ∃ V, V = w2.alloc (.cells (u8l (List.replicate 32 0)).toArray 23) := ⟨_, rfl⟩
    obtain ⟨g7, hg⟩ : ∃ q, w2.heap.size = q := ⟨_, rfl⟩
    have A0 : Below w2.heap.size w2 w3a := by rw [hA]; exact (Below.refl _ _).alloc (Nat.le_refl _) _
    have A1 : Blk w3a g7 23 (u8l (List.replicate 32 0)).toArray := by rw [hA, ← hg]; exact Blk.new _ _ _
    refine wpL_value (.pointer (some ⟨g7, 0, none⟩)) w3a rfl (by rw [hA, ← hg]; kernel_rfl) ?_
    simp only [Act.put, List.setIfInBounds_toArray, List.set_cons_zero, List.set_cons_succ]
    refine wpList_store_rowTo rfl 23 _ _ rfl rfl g7 (u8l (List.replicate 32 0)).toArray rfl rfl 23 _ A1 (by simp only [List.size_toArray, u8l_len, List.length_replicate]; kernel_rfl) (by simp [u8l_len, List.length_replicate]) (u8l_one _) ?_
    obtain ⟨w3, hB⟩ : ∃ V, V = w3a.setRow g7 (u8l (List.replicate 32 0)).toArray := ⟨_, rfl⟩
    rw [← hB]
    have A2 : Below w2.heap.size w2 w3 := by rw [hB]; exact below_setRow A0 (Nat.le_of_eq hg) _
    have A3 : Blk w3 g7 23 (u8l (List.replicate 32 0)).toArray := by rw [hB]; exact setRow_heap _ _ _ _ _ _ A1
    have F3 : Hid (Blk w3 g3 23 (u8l ks).toArray ∧ Below w.heap.size w w3 ∧ Blk w3 g7 23 (u8l (List.replicate 32 0)).toArray) := Lib.hid ⟨F2.out.1.below A2, F2.out.2.trans (A2.mono F2.out.2.size), A3⟩
    clear hA hB hg A0 A1 A2 A3
    refine wpL_pure (.int .i64 1) rfl (by kernel_rfl) ?_
    simp only [Act.put, List.setIfInBounds_toArray, List.set_cons_zero, List.set_cons_succ]
    unfold wpList
    go_upto_region 2 with (fail)
    refine wp_region_lit ?_
    refine wpL_call 9 #[] rfl (by kernel_rfl) ((awake_any w3 (HT.out.below F3.out.2.1) (HH.out.below F3.out.2.1)).mono ?_)
    rintro e w4 ⟨rfl, hb⟩
    have F4 : Hid (Blk w4 g3 23 (u8l ks).toArray ∧ Below w.heap.size w w4 ∧ Blk w4 g7 23 (u8l (List.replicate 32 0)).toArray) := Lib.hid ⟨F3.out.1.below hb, F3.out.2.1.trans (hb.mono F3.out.2.1.size), F3.out.2.2.below hb⟩
    clear hb
    refine ⟨_, rfl, ?_⟩
    simp only [Act.put, List.setIfInBounds_toArray, List.set_cons_zero, List.set_cons_succ]
    refine wpL_pure (.bool false) rfl (by kernel_rfl) ?_
    simp only [Act.put, List.setIfInBounds_toArray, List.set_cons_zero, List.set_cons_succ]
    refine wpL_pure (.bool false) rfl (by kernel_rfl) ?_
    simp only [Act.put, List.setIfInBounds_toArray, List.set_cons_zero, List.set_cons_succ]
    by_cases h0 : a < 0
    · have H0 := Lib.hid h0
      clear h0
      refine wpL_pure (.int .i64 a) rfl (by kernel_rfl) ?_
      simp only [Act.put, List.setIfInBounds_toArray, List.set_cons_zero, List.set_cons_succ]
      refine wpL_pure (.bool true) rfl (run_lti Tryd.underlying3 rfl rfl rfl (by have := H0.out; rw [decide_eq_true_eq]; omega)) ?_
      simp only [Act.put, List.setIfInBounds_toArray, List.set_cons_zero, List.set_cons_succ]
      refine wpL_pure (.bool true) rfl (by kernel_rfl) ?_
      simp only [Act.put, List.setIfInBounds_toArray, List.set_cons_zero, List.set_cons_succ]
      refine wpL_pure (.bool true) rfl (by kernel_rfl) ?_
      simp only [Act.put, List.setIfInBounds_toArray, List.set_cons_zero, List.set_cons_succ]
      refine wpL_skip (by kernel_rfl) ?_
      simp only [Act.put, List.setIfInBounds_toArray, List.set_cons_zero, List.set_cons_succ]
      refine wpL_skip (by kernel_rfl) ?_
      simp only [Act.put, List.setIfInBounds_toArray, List.set_cons_zero, List.set_cons_succ]
      refine wpL_pure (.bool true) rfl (by kernel_rfl) ?_
      simp only [Act.put, List.setIfInBounds_toArray, List.set_cons_zero, List.set_cons_succ]
      unfold wpList
      go_upto_region 3 with (fail)
      refine wp_region_lit ?_
      refine wpL_call 9 #[] rfl (by kernel_rfl) ((awake_any w4 (HT.out.below F4.out.2.1) (HH.out.below F4.out.2.1)).mono ?_)
      rintro e w5 ⟨rfl, hb⟩
      have F5 : Hid (Blk w5 g3 23 (u8l ks).toArray ∧ Below w.heap.size w w5 ∧ Blk w5 g7 23 (u8l (List.replicate 32 0)).toArray) := Lib.hid ⟨F4.out.1.below hb, F4.out.2.1.trans (hb.mono F4.out.2.1.size), F4.out.2.2.below hb⟩
      clear hb
      refine ⟨_, rfl, ?_⟩
      simp only [Act.put, List.setIfInBounds_toArray, List.set_cons_zero, List.set_cons_succ]
      refine wpL_pure (.bool true) rfl (by kernel_rfl) ?_
      simp only [Act.put, List.setIfInBounds_toArray, List.set_cons_zero, List.set_cons_succ]
      refine wpL_pure (.int .i64 1) rfl (by kernel_rfl) ?_
      simp only [Act.put, List.setIfInBounds_toArray, List.set_cons_zero, List.set_cons_succ]
      refine wpL_pure (.bool true) rfl (by kernel_rfl) ?_
      simp only [Act.put, List.setIfInBounds_toArray, List.set_cons_zero, List.set_cons_succ]
      refine wpL_pure (.bool true) rfl (by kernel_rfl) ?_
      simp only [Act.put, List.setIfInBounds_toArray, List.set_cons_zero, List.set_cons_succ]
      refine wpL_pure (.bool true) rfl (by kernel_rfl) ?_
      simp only [Act.put, List.setIfInBounds_toArray, List.set_cons_zero, List.set_cons_succ]
      refine wpL_pure (.agg (u8l (List.replicate 32 0)).toArray) rfl (run_load_mid _ _ _ 23 _ rfl g7 0 rfl (u8l (List.replicate 32 0)) _ (blk_range F5.out.2.2) Tryd.underlying23 rfl (by simp only [u8l_len, List.length_replicate]; kernel_rfl)) ?_
      simp only [Act.put, List.setIfInBounds_toArray, List.set_cons_zero, List.set_cons_succ]
      refine wpL_pure (.agg (u8l (List.replicate 32 0)).toArray) rfl (by kernel_rfl) ?_
      simp only [Act.put, List.setIfInBounds_toArray, List.set_cons_zero, List.set_cons_succ]
      refine wpL_pure (.bool true) rfl (run_eq26 _ _ _ _ _ (List.replicate 32 0) List.length_replicate rfl rfl rfl) ?_
      simp only [Act.put, List.setIfInBounds_toArray, List.set_cons_zero, List.set_cons_succ]
      refine wpL_pure (.bool true) rfl (by kernel_rfl) ?_
      simp only [Act.put, List.setIfInBounds_toArray, List.set_cons_zero, List.set_cons_succ]
      refine wpL_pure (.bool true) rfl (by kernel_rfl) ?_
      simp only [Act.put, List.setIfInBounds_toArray, List.set_cons_zero, List.set_cons_succ]
      unfold wpList
      go_wp2_with fail
      go_ret
      exact ⟨rfl, F5.out.2.1⟩
    · have H0 := Lib.hid h0
      clear h0
      refine wpL_pure (.int .i64 a) rfl (by kernel_rfl) ?_
      simp only [Act.put, List.setIfInBounds_toArray, List.set_cons_zero, List.set_cons_succ]
      refine wpL_pure (.bool false) rfl (run_lti Tryd.underlying3 rfl rfl rfl (by have := H0.out; rw [decide_eq_false_iff_not]; omega)) ?_
      simp only [Act.put, List.setIfInBounds_toArray, List.set_cons_zero, List.set_cons_succ]
      refine wpL_pure (.bool false) rfl (by kernel_rfl) ?_
      simp only [Act.put, List.setIfInBounds_toArray, List.set_cons_zero, List.set_cons_succ]
      refine wpL_pure (.bool false) rfl (by kernel_rfl) ?_
      simp only [Act.put, List.setIfInBounds_toArray, List.set_cons_zero, List.set_cons_succ]
      refine wpL_pure (.int .i64 a) rfl (by kernel_rfl) ?_
      simp only [Act.put, List.setIfInBounds_toArray, List.set_cons_zero, List.set_cons_succ]
      refine wpL_pure (.bool true) rfl (run_gti Tryd.underlying3 rfl rfl rfl (by have := H0.out; have := HA.out; rw [decide_eq_true_eq]; omega)) ?_
      simp only [Act.put, List.setIfInBounds_toArray, List.set_cons_zero, List.set_cons_succ]
      refine wpL_pure (.bool true) rfl (by kernel_rfl) ?_
      simp only [Act.put, List.setIfInBounds_toArray, List.set_cons_zero, List.set_cons_succ]
      unfold wpList
      go_upto_region 3 with (fail)
      refine wp_region_lit ?_
      refine wpL_call 9 #[] rfl (by kernel_rfl) ((awake_any w4 (HT.out.below F4.out.2.1) (HH.out.below F4.out.2.1)).mono ?_)
      rintro e w5 ⟨rfl, hb⟩
      have F5 : Hid (Blk w5 g3 23 (u8l ks).toArray ∧ Below w.heap.size w w5 ∧ Blk w5 g7 23 (u8l (List.replicate 32 0)).toArray) := Lib.hid ⟨F4.out.1.below hb, F4.out.2.1.trans (hb.mono F4.out.2.1.size), F4.out.2.2.below hb⟩
      clear hb
      refine ⟨_, rfl, ?_⟩
      simp only [Act.put, List.setIfInBounds_toArray, List.set_cons_zero, List.set_cons_succ]
      refine wpL_pure (.bool true) rfl (by kernel_rfl) ?_
      simp only [Act.put, List.setIfInBounds_toArray, List.set_cons_zero, List.set_cons_succ]
      refine wpL_pure (.int .i64 1) rfl (by kernel_rfl) ?_
      simp only [Act.put, List.setIfInBounds_toArray, List.set_cons_zero, List.set_cons_succ]
      refine wpL_pure (.bool true) rfl (by kernel_rfl) ?_
      simp only [Act.put, List.setIfInBounds_toArray, List.set_cons_zero, List.set_cons_succ]
      refine wpL_pure (.bool true) rfl (by kernel_rfl) ?_
      simp only [Act.put, List.setIfInBounds_toArray, List.set_cons_zero, List.set_cons_succ]
      refine wpL_pure (.bool true) rfl (by kernel_rfl) ?_
      simp only [Act.put, List.setIfInBounds_toArray, List.set_cons_zero, List.set_cons_succ]
      refine wpL_pure (.agg (u8l (List.replicate 32 0)).toArray) rfl (run_load_mid _ _ _ 23 _ rfl g7 0 rfl (u8l (List.replicate 32 0)) _ (blk_range F5.out.2.2) Tryd.underlying23 rfl (by simp only [u8l_len, List.length_replicate]; kernel_rfl)) ?_
      simp only [Act.put, List.setIfInBounds_toArray, List.set_cons_zero, List.set_cons_succ]
      refine wpL_pure (.agg (u8l (List.replicate 32 0)).toArray) rfl (by kernel_rfl) ?_
      simp only [Act.put, List.setIfInBounds_toArray, List.set_cons_zero, List.set_cons_succ]
      refine wpL_pure (.bool true) rfl (run_eq26 _ _ _ _ _ (List.replicate 32 0) List.length_replicate rfl rfl rfl) ?_
      simp only [Act.put, List.setIfInBounds_toArray, List.set_cons_zero, List.set_cons_succ]
      refine wpL_pure (.bool true) rfl (by kernel_rfl) ?_
      simp only [Act.put, List.setIfInBounds_toArray, List.set_cons_zero, List.set_cons_succ]
      refine wpL_pure (.bool true) rfl (by kernel_rfl) ?_
      simp only [Act.put, List.setIfInBounds_toArray, List.set_cons_zero, List.set_cons_succ]
      unfold wpList
      go_wp2_with fail
      go_ret
      exact ⟨rfl, F5.out.2.1⟩
  · obtain ⟨na, rfl⟩ : ∃ k : Nat, a = (k : Int) := ⟨a.toNat, by omega⟩
    have NA : Hid (na ≤ 255) := Lib.hid (by omega)
    clear ha
    obtain ⟨ka, hka⟩ : ∃ q, itD (255 - na) ks = q := ⟨_, rfl⟩
    have KA : Hid (itD (255 - na) ks = ka ∧ ka.length = 32 ∧ ∀ x ∈ ka, 0 ≤ x ∧ x ≤ 255) := Lib.hid ⟨hka, by rw [← hka]; exact itD_len HKL.out _, by rw [← hka]; exact itD_byte HKB.out _⟩
    clear hka
    go_upto_region 1 with (fail)
    refine wp_region_lit ?_
    refine wpL_pure (.agg (u8l ks).toArray) rfl (run_load_mid _ _ _ 23 _ rfl g3 0 rfl (u8l ks) _ (blk_range F1.out.1) Tryd.underlying23 rfl (by simp only [u8l_len, HKL.out]; kernel_rfl)) ?_
    simp only [Act.put, List.setIfInBounds_toArray, List.set_cons_zero, List.set_cons_succ]
    refine wpL_pure (.int .i64 (na : Int)) rfl (by kernel_rfl) ?_
    simp only [Act.put, List.setIfInBounds_toArray, List.set_cons_zero, List.set_cons_succ]
    refine wpL_call 8 #[.agg (u8l ks).toArray, .int .i64 (na : Int)] rfl (by kernel_rfl) ((key_any w1 ks HKL.out HKB.out (na : Int) (HT.out.below F1.out.2.1) (HH.out.below F1.out.2.1)).mono ?_)
    rintro e w2 ⟨he, hb⟩
    refine ⟨.tuple #[.agg (u8l ka).toArray, .int .i64 0], by rw [he, show bkR ks 255 (na : Int) = .tuple #[.agg (u8l ka).toArray, .int .i64 0] by unfold bkR; rw [if_neg (by have := NA.out; omega), show ((255 : Int) - (na : Int)).toNat = 255 - na by omega, KA.out.1]], ?_⟩
    simp only [Act.put, List.setIfInBounds_toArray, List.set_cons_zero, List.set_cons_succ]
    have F2 : Hid (Blk w2 g3 23 (u8l ks).toArray ∧ Below w.heap.size w w2) := Lib.hid ⟨F1.out.1.below hb, F1.out.2.1.trans (hb.mono F1.out.2.1.size)⟩
    clear hb he
    refine wpL_pure (.tuple #[.agg (u8l ka).toArray, .int .i64 0]) rfl (by kernel_rfl) ?_
    simp only [Act.put, List.setIfInBounds_toArray, List.set_cons_zero, List.set_cons_succ]
    refine wpL_pure (.agg (u8l ka).toArray) rfl (by kernel_rfl) ?_
    simp only [Act.put, List.setIfInBounds_toArray, List.set_cons_zero, List.set_cons_succ]
    refine wpL_pure (.int .i64 0) rfl (by kernel_rfl) ?_
    simp only [Act.put, List.setIfInBounds_toArray, List.set_cons_zero, List.set_cons_succ]
    obtain ⟨w3a, hA⟩ : ∃ V, V = w2.alloc (.cells (u8l (List.replicate 32 0)).toArray 23) := ⟨_, rfl⟩
    obtain ⟨g7, hg⟩ : ∃ q, w2.heap.size = q := ⟨_, rfl⟩
    have A0 : Below w2.heap.size w2 w3a := by rw [hA]; exact (Below.refl _ _).alloc (Nat.le_refl _) _
    have A1 : Blk w3a g7 23 (u8l (List.replicate 32 0)).toArray := by rw [hA, ← hg]; exact Blk.new _ _ _
    refine wpL_value (.pointer (some ⟨g7, 0, none⟩)) w3a rfl (by rw [hA, ← hg]; kernel_rfl) ?_
    simp only [Act.put, List.setIfInBounds_toArray, List.set_cons_zero, List.set_cons_succ]
    refine wpList_store_rowTo rfl 23 _ _ rfl rfl g7 (u8l ka).toArray rfl rfl 23 _ A1 (by simp only [List.size_toArray, u8l_len, KA.out.2.1]; kernel_rfl) (by simp [u8l_len, KA.out.2.1]) (u8l_one _) ?_
    obtain ⟨w3, hB⟩ : ∃ V, V = w3a.setRow g7 (u8l ka).toArray := ⟨_, rfl⟩
    rw [← hB]
    have A2 : Below w2.heap.size w2 w3 := by rw [hB]; exact below_setRow A0 (Nat.le_of_eq hg) _
    have A3 : Blk w3 g7 23 (u8l ka).toArray := by rw [hB]; exact setRow_heap _ _ _ _ _ _ A1
    have F3 : Hid (Blk w3 g3 23 (u8l ks).toArray ∧ Below w.heap.size w w3 ∧ Blk w3 g7 23 (u8l ka).toArray) := Lib.hid ⟨F2.out.1.below A2, F2.out.2.trans (A2.mono F2.out.2.size), A3⟩
    clear hA hB hg A0 A1 A2 A3
    refine wpL_pure (.int .i64 0) rfl (by kernel_rfl) ?_
    simp only [Act.put, List.setIfInBounds_toArray, List.set_cons_zero, List.set_cons_succ]
    unfold wpList
    go_upto_region 2 with (fail)
    refine wp_region_lit ?_
    refine wpL_call 9 #[] rfl (by kernel_rfl) ((awake_any w3 (HT.out.below F3.out.2.1) (HH.out.below F3.out.2.1)).mono ?_)
    rintro e w4 ⟨rfl, hb⟩
    have F4 : Hid (Blk w4 g3 23 (u8l ks).toArray ∧ Below w.heap.size w w4 ∧ Blk w4 g7 23 (u8l ka).toArray) := Lib.hid ⟨F3.out.1.below hb, F3.out.2.1.trans (hb.mono F3.out.2.1.size), F3.out.2.2.below hb⟩
    clear hb
    refine ⟨_, rfl, ?_⟩
    simp only [Act.put, List.setIfInBounds_toArray, List.set_cons_zero, List.set_cons_succ]
    refine wpL_pure (.bool false) rfl (by kernel_rfl) ?_
    simp only [Act.put, List.setIfInBounds_toArray, List.set_cons_zero, List.set_cons_succ]
    refine wpL_pure (.bool false) rfl (by kernel_rfl) ?_
    simp only [Act.put, List.setIfInBounds_toArray, List.set_cons_zero, List.set_cons_succ]
    refine wpL_pure (.int .i64 (na : Int)) rfl (by kernel_rfl) ?_
    simp only [Act.put, List.setIfInBounds_toArray, List.set_cons_zero, List.set_cons_succ]
    refine wpL_pure (.bool false) rfl (run_lti Tryd.underlying3 rfl rfl rfl (by rw [decide_eq_false_iff_not]; omega)) ?_
    simp only [Act.put, List.setIfInBounds_toArray, List.set_cons_zero, List.set_cons_succ]
    refine wpL_pure (.bool false) rfl (by kernel_rfl) ?_
    simp only [Act.put, List.setIfInBounds_toArray, List.set_cons_zero, List.set_cons_succ]
    refine wpL_pure (.bool false) rfl (by kernel_rfl) ?_
    simp only [Act.put, List.setIfInBounds_toArray, List.set_cons_zero, List.set_cons_succ]
    refine wpL_pure (.int .i64 (na : Int)) rfl (by kernel_rfl) ?_
    simp only [Act.put, List.setIfInBounds_toArray, List.set_cons_zero, List.set_cons_succ]
    refine wpL_pure (.bool false) rfl (run_gti Tryd.underlying3 rfl rfl rfl (by have := NA.out; rw [decide_eq_false_iff_not]; omega)) ?_
    simp only [Act.put, List.setIfInBounds_toArray, List.set_cons_zero, List.set_cons_succ]
    refine wpL_pure (.bool false) rfl (by kernel_rfl) ?_
    simp only [Act.put, List.setIfInBounds_toArray, List.set_cons_zero, List.set_cons_succ]
    unfold wpList
    by_cases hb0 : b < 0 ∨ (na : Int) < b
    · have HB := Lib.hid hb0
      clear hb0
      go_upto_region 4 with (fail)
      refine wp_region_lit ?_
      refine wpL_pure (.agg (u8l ka).toArray) rfl (run_load_mid _ _ _ 23 _ rfl g7 0 rfl (u8l ka) _ (blk_range F4.out.2.2) Tryd.underlying23 rfl (by simp only [u8l_len, KA.out.2.1]; kernel_rfl)) ?_
      simp only [Act.put, List.setIfInBounds_toArray, List.set_cons_zero, List.set_cons_succ]
      refine wpL_pure (.int .i64 (na : Int)) rfl (by kernel_rfl) ?_
      simp only [Act.put, List.setIfInBounds_toArray, List.set_cons_zero, List.set_cons_succ]
      refine wpL_pure (.int .i64 b) rfl (by kernel_rfl) ?_
      simp only [Act.put, List.setIfInBounds_toArray, List.set_cons_zero, List.set_cons_succ]
      refine wpL_call 10 #[.agg (u8l ka).toArray, .int .i64 (na : Int), .int .i64 b] rfl (by kernel_rfl) ((back_any w4 ka KA.out.2.1 KA.out.2.2 (na : Int) b (HT.out.below F4.out.2.1) (HH.out.below F4.out.2.1)).mono ?_)
      rintro e w5 ⟨he, hb⟩
      refine ⟨.tuple #[.agg (u8l (List.replicate 32 0)).toArray, .int .i64 1], by rw [he, show bkR ka (na : Int) b = .tuple #[.agg (u8l (List.replicate 32 0)).toArray, .int .i64 1] by unfold bkR; rw [if_pos (by have := HB.out; omega)]], ?_⟩
      simp only [Act.put, List.setIfInBounds_toArray, List.set_cons_zero, List.set_cons_succ]
      have F5 : Hid (Blk w5 g3 23 (u8l ks).toArray ∧ Below w.heap.size w w5 ∧ Blk w5 g7 23 (u8l ka).toArray) := Lib.hid ⟨F4.out.1.below hb, F4.out.2.1.trans (hb.mono F4.out.2.1.size), F4.out.2.2.below hb⟩
      clear hb he
      refine wpL_pure (.tuple #[.agg (u8l (List.replicate 32 0)).toArray, .int .i64 1]) rfl (by kernel_rfl) ?_
      simp only [Act.put, List.setIfInBounds_toArray, List.set_cons_zero, List.set_cons_succ]
      refine wpL_pure (.agg (u8l (List.replicate 32 0)).toArray) rfl (by kernel_rfl) ?_
      simp only [Act.put, List.setIfInBounds_toArray, List.set_cons_zero, List.set_cons_succ]
      refine wpL_pure (.int .i64 1) rfl (by kernel_rfl) ?_
      simp only [Act.put, List.setIfInBounds_toArray, List.set_cons_zero, List.set_cons_succ]
      obtain ⟨w6a, hA⟩ : ∃ V, V = w5.alloc (.cells (u8l (List.replicate 32 0)).toArray 23) := ⟨_, rfl⟩
      obtain ⟨g9, hg⟩ : ∃ q, w5.heap.size = q := ⟨_, rfl⟩
      have A0 : Below w5.heap.size w5 w6a := by rw [hA]; exact (Below.refl _ _).alloc (Nat.le_refl _) _
      have A1 : Blk w6a g9 23 (u8l (List.replicate 32 0)).toArray := by rw [hA, ← hg]; exact Blk.new _ _ _
      refine wpL_value (.pointer (some ⟨g9, 0, none⟩)) w6a rfl (by rw [hA, ← hg]; kernel_rfl) ?_
      simp only [Act.put, List.setIfInBounds_toArray, List.set_cons_zero, List.set_cons_succ]
      refine wpList_store_rowTo rfl 23 _ _ rfl rfl g9 (u8l (List.replicate 32 0)).toArray rfl rfl 23 _ A1 (by simp only [List.size_toArray, u8l_len, List.length_replicate]; kernel_rfl) (by simp [u8l_len, List.length_replicate]) (u8l_one _) ?_
      obtain ⟨w6, hB⟩ : ∃ V, V = w6a.setRow g9 (u8l (List.replicate 32 0)).toArray := ⟨_, rfl⟩
      rw [← hB]
      have A2 : Below w5.heap.size w5 w6 := by rw [hB]; exact below_setRow A0 (Nat.le_of_eq hg) _
      have A3 : Blk w6 g9 23 (u8l (List.replicate 32 0)).toArray := by rw [hB]; exact setRow_heap _ _ _ _ _ _ A1
      have F6 : Hid ((Blk w6 g3 23 (u8l ks).toArray ∧ Below w.heap.size w w6 ∧ Blk w6 g7 23 (u8l ka).toArray) ∧ Blk w6 g9 23 (u8l (List.replicate 32 0)).toArray) := Lib.hid ⟨⟨F5.out.1.below A2, F5.out.2.1.trans (A2.mono F5.out.2.1.size), F5.out.2.2.below A2⟩, A3⟩
      clear hA hB hg A0 A1 A2 A3
      refine wpL_pure (.int .i64 1) rfl (by kernel_rfl) ?_
      simp only [Act.put, List.setIfInBounds_toArray, List.set_cons_zero, List.set_cons_succ]
      unfold wpList
      go_upto_region 5 with (fail)
      refine region_held_all (fun X => (Blk X g3 23 (u8l ks).toArray ∧ Below w.heap.size w X ∧ Blk X g7 23 (u8l ka).toArray) ∧ Blk X g9 23 (u8l (List.replicate 32 0)).toArray) (by kernel_rfl) (by kernel_rfl) (by exact ⟨⟨F6.out.1.1.below (Below.drew (Below.refl _ _)), F6.out.1.2.1.trans (Below.drew (Below.refl _ _)), F6.out.1.2.2.below (Below.drew (Below.refl _ _))⟩, F6.out.2.below (Below.drew (Below.refl _ _))⟩) ?_
      refine wpHeld_cons (.int .i64 0) rfl (fun w h => heldRun_value (by kernel_rfl) h) ?_
      simp only [Act.put, List.setIfInBounds_toArray, List.set_cons_zero, List.set_cons_succ]
      refine wpHeld_cons (.bool false) rfl (fun w h => heldRun_value (by kernel_rfl) h) ?_
      simp only [Act.put, List.setIfInBounds_toArray, List.set_cons_zero, List.set_cons_succ]
      refine wpHeld_cons (.bool false) rfl (fun w h => heldRun_value (by kernel_rfl) h) ?_
      simp only [Act.put, List.setIfInBounds_toArray, List.set_cons_zero, List.set_cons_succ]
      refine wpHeld_cons (.agg (u8l ka).toArray) rfl (fun w h => heldRun_value (run_load_mid _ _ _ 23 _ rfl g7 0 rfl (u8l ka) _ (blk_range h.1.2.2) Tryd.underlying23 rfl (by simp only [u8l_len, KA.out.2.1]; kernel_rfl)) h) ?_
      simp only [Act.put, List.setIfInBounds_toArray, List.set_cons_zero, List.set_cons_succ]
      refine wpHeld_cons (.agg (u8l ks).toArray) rfl (fun w h => heldRun_value (run_load_mid _ _ _ 23 _ rfl g3 0 rfl (u8l ks) _ (blk_range h.1.1) Tryd.underlying23 rfl (by simp only [u8l_len, HKL.out]; kernel_rfl)) h) ?_
      simp only [Act.put, List.setIfInBounds_toArray, List.set_cons_zero, List.set_cons_succ]
      refine wpHeld_cons (.int .i64 (na : Int)) rfl (fun w h => heldRun_value (by kernel_rfl) h) ?_
      simp only [Act.put, List.setIfInBounds_toArray, List.set_cons_zero, List.set_cons_succ]
      refine wpHeld_call (.agg (u8l ka).toArray) 11 #[.agg (u8l ks).toArray, .int .i64 (na : Int)] rfl (fun w => by kernel_rfl) (fun X h => (refkey_any X ks HKL.out HKB.out na NA.out (HTW.out.below h.1.2.1)).mono fun e V he => ⟨by rw [he.1, KA.out.1], ⟨h.1.1.below he.2, h.1.2.1.trans (he.2.mono h.1.2.1.size), h.1.2.2.below he.2⟩, h.2.below he.2⟩) ?_
      simp only [Act.put, List.setIfInBounds_toArray, List.set_cons_zero, List.set_cons_succ]
      refine wpHeld_cons (.bool false) rfl (fun w h => heldRun_value (run_ne26 _ _ _ _ _ ka KA.out.2.1 rfl rfl rfl) h) ?_
      simp only [Act.put, List.setIfInBounds_toArray, List.set_cons_zero, List.set_cons_succ]
      refine wpHeld_cons (.bool false) rfl (fun w h => heldRun_value (by kernel_rfl) h) ?_
      simp only [Act.put, List.setIfInBounds_toArray, List.set_cons_zero, List.set_cons_succ]
      refine wpHeld_nil ?_
      intro w7 h
      have F7 := Lib.hid h
      clear h
      by_cases h1 : b < 0
      · have H1 := Lib.hid h1
        clear h1
        go_upto_region 7 with (fail)
        refine wp_region_lit ?_
        refine wpL_pure (.int .i64 b) rfl (by kernel_rfl) ?_
        simp only [Act.put, List.setIfInBounds_toArray, List.set_cons_zero, List.set_cons_succ]
        refine wpL_pure (.bool true) rfl (run_lti Tryd.underlying3 rfl rfl rfl (by have := H1.out; rw [decide_eq_true_eq]; omega)) ?_
        simp only [Act.put, List.setIfInBounds_toArray, List.set_cons_zero, List.set_cons_succ]
        refine wpL_pure (.bool true) rfl (by kernel_rfl) ?_
        simp only [Act.put, List.setIfInBounds_toArray, List.set_cons_zero, List.set_cons_succ]
        refine wpL_skip (by kernel_rfl) ?_
        simp only [Act.put, List.setIfInBounds_toArray, List.set_cons_zero, List.set_cons_succ]
        refine wpL_skip (by kernel_rfl) ?_
        simp only [Act.put, List.setIfInBounds_toArray, List.set_cons_zero, List.set_cons_succ]
        refine wpL_skip (by kernel_rfl) ?_
        simp only [Act.put, List.setIfInBounds_toArray, List.set_cons_zero, List.set_cons_succ]
        refine wpL_pure (.bool true) rfl (by kernel_rfl) ?_
        simp only [Act.put, List.setIfInBounds_toArray, List.set_cons_zero, List.set_cons_succ]
        go_upto_region 8 with (fail)
        refine wp_region_lit ?_
        refine wpL_pure (.int .i64 1) rfl (by kernel_rfl) ?_
        simp only [Act.put, List.setIfInBounds_toArray, List.set_cons_zero, List.set_cons_succ]
        refine wpL_pure (.bool true) rfl (by kernel_rfl) ?_
        simp only [Act.put, List.setIfInBounds_toArray, List.set_cons_zero, List.set_cons_succ]
        refine wpL_pure (.bool true) rfl (by kernel_rfl) ?_
        simp only [Act.put, List.setIfInBounds_toArray, List.set_cons_zero, List.set_cons_succ]
        refine wpL_pure (.agg (u8l (List.replicate 32 0)).toArray) rfl (run_load_mid _ _ _ 23 _ rfl g9 0 rfl (u8l (List.replicate 32 0)) _ (blk_range F7.out.2) Tryd.underlying23 rfl (by simp only [u8l_len, List.length_replicate]; kernel_rfl)) ?_
        simp only [Act.put, List.setIfInBounds_toArray, List.set_cons_zero, List.set_cons_succ]
        refine wpL_pure (.agg (u8l (List.replicate 32 0)).toArray) rfl (by kernel_rfl) ?_
        simp only [Act.put, List.setIfInBounds_toArray, List.set_cons_zero, List.set_cons_succ]
        refine wpL_pure (.bool true) rfl (run_eq26 _ _ _ _ _ (List.replicate 32 0) List.length_replicate rfl rfl rfl) ?_
        simp only [Act.put, List.setIfInBounds_toArray, List.set_cons_zero, List.set_cons_succ]
        refine wpL_pure (.bool true) rfl (by kernel_rfl) ?_
        simp only [Act.put, List.setIfInBounds_toArray, List.set_cons_zero, List.set_cons_succ]
        refine wpL_pure (.bool true) rfl (by kernel_rfl) ?_
        simp only [Act.put, List.setIfInBounds_toArray, List.set_cons_zero, List.set_cons_succ]
        go_wp2_with fail
        go_ret
        exact ⟨rfl, F7.out.1.2.1⟩
      · have H1 := Lib.hid h1
        clear h1
        go_upto_region 7 with (fail)
        refine wp_region_lit ?_
        refine wpL_pure (.int .i64 b) rfl (by kernel_rfl) ?_
        simp only [Act.put, List.setIfInBounds_toArray, List.set_cons_zero, List.set_cons_succ]
        refine wpL_pure (.bool false) rfl (run_lti Tryd.underlying3 rfl rfl rfl (by have := H1.out; rw [decide_eq_false_iff_not]; omega)) ?_
        simp only [Act.put, List.setIfInBounds_toArray, List.set_cons_zero, List.set_cons_succ]
        refine wpL_pure (.bool false) rfl (by kernel_rfl) ?_
        simp only [Act.put, List.setIfInBounds_toArray, List.set_cons_zero, List.set_cons_succ]
        refine wpL_pure (.int .i64 b) rfl (by kernel_rfl) ?_
        simp only [Act.put, List.setIfInBounds_toArray, List.set_cons_zero, List.set_cons_succ]
        refine wpL_pure (.int .i64 (na : Int)) rfl (by kernel_rfl) ?_
        simp only [Act.put, List.setIfInBounds_toArray, List.set_cons_zero, List.set_cons_succ]
        refine wpL_pure (.bool true) rfl (run_gti Tryd.underlying3 rfl rfl rfl (by have := H1.out; have := HB.out; rw [decide_eq_true_eq]; omega)) ?_
        simp only [Act.put, List.setIfInBounds_toArray, List.set_cons_zero, List.set_cons_succ]
        refine wpL_pure (.bool true) rfl (by kernel_rfl) ?_
        simp only [Act.put, List.setIfInBounds_toArray, List.set_cons_zero, List.set_cons_succ]
        go_upto_region 8 with (fail)
        refine wp_region_lit ?_
        refine wpL_pure (.int .i64 1) rfl (by kernel_rfl) ?_
        simp only [Act.put, List.setIfInBounds_toArray, List.set_cons_zero, List.set_cons_succ]
        refine wpL_pure (.bool true) rfl (by kernel_rfl) ?_
        simp only [Act.put, List.setIfInBounds_toArray, List.set_cons_zero, List.set_cons_succ]
        refine wpL_pure (.bool true) rfl (by kernel_rfl) ?_
        simp only [Act.put, List.setIfInBounds_toArray, List.set_cons_zero, List.set_cons_succ]
        refine wpL_pure (.agg (u8l (List.replicate 32 0)).toArray) rfl (run_load_mid _ _ _ 23 _ rfl g9 0 rfl (u8l (List.replicate 32 0)) _ (blk_range F7.out.2) Tryd.underlying23 rfl (by simp only [u8l_len, List.length_replicate]; kernel_rfl)) ?_
        simp only [Act.put, List.setIfInBounds_toArray, List.set_cons_zero, List.set_cons_succ]
        refine wpL_pure (.agg (u8l (List.replicate 32 0)).toArray) rfl (by kernel_rfl) ?_
        simp only [Act.put, List.setIfInBounds_toArray, List.set_cons_zero, List.set_cons_succ]
        refine wpL_pure (.bool true) rfl (run_eq26 _ _ _ _ _ (List.replicate 32 0) List.length_replicate rfl rfl rfl) ?_
        simp only [Act.put, List.setIfInBounds_toArray, List.set_cons_zero, List.set_cons_succ]
        refine wpL_pure (.bool true) rfl (by kernel_rfl) ?_
        simp only [Act.put, List.setIfInBounds_toArray, List.set_cons_zero, List.set_cons_succ]
        refine wpL_pure (.bool true) rfl (by kernel_rfl) ?_
        simp only [Act.put, List.setIfInBounds_toArray, List.set_cons_zero, List.set_cons_succ]
        go_wp2_with fail
        go_ret
        exact ⟨rfl, F7.out.1.2.1⟩
    · obtain ⟨nb, rfl⟩ : ∃ k : Nat, b = (k : Int) := ⟨b.toNat, by omega⟩
      have NB : Hid (nb ≤ na) := Lib.hid (by omega)
      clear hb0
      obtain ⟨kb, hkb⟩ : ∃ q, itD (255 - nb) ks = q := ⟨_, rfl⟩
      have KB : Hid (itD (255 - nb) ks = kb ∧ itD (na - nb) ka = kb ∧ kb.length = 32) := Lib.hid ⟨hkb, by rw [← hkb, ← KA.out.1, itD_add, show na - nb + (255 - na) = 255 - nb by have := NA.out; have := NB.out; omega], by rw [← hkb]; exact itD_len HKL.out _⟩
      clear hkb
      go_upto_region 4 with (fail)
      refine wp_region_lit ?_
      refine wpL_pure (.agg (u8l ka).toArray) rfl (run_load_mid _ _ _ 23 _ rfl g7 0 rfl (u8l ka) _ (blk_range F4.out.2.2) Tryd.underlying23 rfl (by simp only [u8l_len, KA.out.2.1]; kernel_rfl)) ?_
      simp only [Act.put, List.setIfInBounds_toArray, List.set_cons_zero, List.set_cons_succ]
      refine wpL_pure (.int .i64 (na : Int)) rfl (by kernel_rfl) ?_
      simp only [Act.put, List.setIfInBounds_toArray, List.set_cons_zero, List.set_cons_succ]
      refine wpL_pure (.int .i64 (nb : Int)) rfl (by kernel_rfl) ?_
      simp only [Act.put, List.setIfInBounds_toArray, List.set_cons_zero, List.set_cons_succ]
      refine wpL_call 10 #[.agg (u8l ka).toArray, .int .i64 (na : Int), .int .i64 (nb : Int)] rfl (by kernel_rfl) ((back_any w4 ka KA.out.2.1 KA.out.2.2 (na : Int) (nb : Int) (HT.out.below F4.out.2.1) (HH.out.below F4.out.2.1)).mono ?_)
      rintro e w5 ⟨he, hb⟩
      refine ⟨.tuple #[.agg (u8l kb).toArray, .int .i64 0], by rw [he, show bkR ka (na : Int) (nb : Int) = .tuple #[.agg (u8l kb).toArray, .int .i64 0] by unfold bkR; rw [if_neg (by have := NA.out; have := NB.out; omega), show ((na : Int) - (nb : Int)).toNat = na - nb by omega, KB.out.2.1]], ?_⟩
      simp only [Act.put, List.setIfInBounds_toArray, List.set_cons_zero, List.set_cons_succ]
      have F5 : Hid (Blk w5 g3 23 (u8l ks).toArray ∧ Below w.heap.size w w5 ∧ Blk w5 g7 23 (u8l ka).toArray) := Lib.hid ⟨F4.out.1.below hb, F4.out.2.1.trans (hb.mono F4.out.2.1.size), F4.out.2.2.below hb⟩
      clear hb he
      refine wpL_pure (.tuple #[.agg (u8l kb).toArray, .int .i64 0]) rfl (by kernel_rfl) ?_
      simp only [Act.put, List.setIfInBounds_toArray, List.set_cons_zero, List.set_cons_succ]
      refine wpL_pure (.agg (u8l kb).toArray) rfl (by kernel_rfl) ?_
      simp only [Act.put, List.setIfInBounds_toArray, List.set_cons_zero, List.set_cons_succ]
      refine wpL_pure (.int .i64 0) rfl (by kernel_rfl) ?_
      simp only [Act.put, List.setIfInBounds_toArray, List.set_cons_zero, List.set_cons_succ]
      obtain ⟨w6a, hA⟩ : ∃ V, V = w5.alloc (.cells (u8l (List.replicate 32 0)).toArray 23) := ⟨_, rfl⟩
      obtain ⟨g9, hg⟩ : ∃ q, w5.heap.size = q := ⟨_, rfl⟩
      have A0 : Below w5.heap.size w5 w6a := by rw [hA]; exact (Below.refl _ _).alloc (Nat.le_refl _) _
      have A1 : Blk w6a g9 23 (u8l (List.replicate 32 0)).toArray := by rw [hA, ← hg]; exact Blk.new _ _ _
      refine wpL_value (.pointer (some ⟨g9, 0, none⟩)) w6a rfl (by rw [hA, ← hg]; kernel_rfl) ?_
      simp only [Act.put, List.setIfInBounds_toArray, List.set_cons_zero, List.set_cons_succ]
      refine wpList_store_rowTo rfl 23 _ _ rfl rfl g9 (u8l kb).toArray rfl rfl 23 _ A1 (by simp only [List.size_toArray, u8l_len, KB.out.2.2]; kernel_rfl) (by simp [u8l_len, KB.out.2.2]) (u8l_one _) ?_
      obtain ⟨w6, hB⟩ : ∃ V, V = w6a.setRow g9 (u8l kb).toArray := ⟨_, rfl⟩
      rw [← hB]
      have A2 : Below w5.heap.size w5 w6 := by rw [hB]; exact below_setRow A0 (Nat.le_of_eq hg) _
      have A3 : Blk w6 g9 23 (u8l kb).toArray := by rw [hB]; exact setRow_heap _ _ _ _ _ _ A1
      have F6 : Hid ((Blk w6 g3 23 (u8l ks).toArray ∧ Below w.heap.size w w6 ∧ Blk w6 g7 23 (u8l ka).toArray) ∧ Blk w6 g9 23 (u8l kb).toArray) := Lib.hid ⟨⟨F5.out.1.below A2, F5.out.2.1.trans (A2.mono F5.out.2.1.size), F5.out.2.2.below A2⟩, A3⟩
      clear hA hB hg A0 A1 A2 A3
      refine wpL_pure (.int .i64 0) rfl (by kernel_rfl) ?_
      simp only [Act.put, List.setIfInBounds_toArray, List.set_cons_zero, List.set_cons_succ]
      unfold wpList
      go_upto_region 5 with (fail)
      refine region_held_all (fun X => (Blk X g3 23 (u8l ks).toArray ∧ Below w.heap.size w X ∧ Blk X g7 23 (u8l ka).toArray) ∧ Blk X g9 23 (u8l kb).toArray) (by kernel_rfl) (by kernel_rfl) (by exact ⟨⟨F6.out.1.1.below (Below.drew (Below.refl _ _)), F6.out.1.2.1.trans (Below.drew (Below.refl _ _)), F6.out.1.2.2.below (Below.drew (Below.refl _ _))⟩, F6.out.2.below (Below.drew (Below.refl _ _))⟩) ?_
      refine wpHeld_cons (.int .i64 0) rfl (fun w h => heldRun_value (by kernel_rfl) h) ?_
      simp only [Act.put, List.setIfInBounds_toArray, List.set_cons_zero, List.set_cons_succ]
      refine wpHeld_cons (.bool false) rfl (fun w h => heldRun_value (by kernel_rfl) h) ?_
      simp only [Act.put, List.setIfInBounds_toArray, List.set_cons_zero, List.set_cons_succ]
      refine wpHeld_cons (.bool false) rfl (fun w h => heldRun_value (by kernel_rfl) h) ?_
      simp only [Act.put, List.setIfInBounds_toArray, List.set_cons_zero, List.set_cons_succ]
      refine wpHeld_cons (.agg (u8l ka).toArray) rfl (fun w h => heldRun_value (run_load_mid _ _ _ 23 _ rfl g7 0 rfl (u8l ka) _ (blk_range h.1.2.2) Tryd.underlying23 rfl (by simp only [u8l_len, KA.out.2.1]; kernel_rfl)) h) ?_
      simp only [Act.put, List.setIfInBounds_toArray, List.set_cons_zero, List.set_cons_succ]
      refine wpHeld_cons (.agg (u8l ks).toArray) rfl (fun w h => heldRun_value (run_load_mid _ _ _ 23 _ rfl g3 0 rfl (u8l ks) _ (blk_range h.1.1) Tryd.underlying23 rfl (by simp only [u8l_len, HKL.out]; kernel_rfl)) h) ?_
      simp only [Act.put, List.setIfInBounds_toArray, List.set_cons_zero, List.set_cons_succ]
      refine wpHeld_cons (.int .i64 (na : Int)) rfl (fun w h => heldRun_value (by kernel_rfl) h) ?_
      simp only [Act.put, List.setIfInBounds_toArray, List.set_cons_zero, List.set_cons_succ]
      refine wpHeld_call (.agg (u8l ka).toArray) 11 #[.agg (u8l ks).toArray, .int .i64 (na : Int)] rfl (fun w => by kernel_rfl) (fun X h => (refkey_any X ks HKL.out HKB.out na NA.out (HTW.out.below h.1.2.1)).mono fun e V he => ⟨by rw [he.1, KA.out.1], ⟨h.1.1.below he.2, h.1.2.1.trans (he.2.mono h.1.2.1.size), h.1.2.2.below he.2⟩, h.2.below he.2⟩) ?_
      simp only [Act.put, List.setIfInBounds_toArray, List.set_cons_zero, List.set_cons_succ]
      refine wpHeld_cons (.bool false) rfl (fun w h => heldRun_value (run_ne26 _ _ _ _ _ ka KA.out.2.1 rfl rfl rfl) h) ?_
      simp only [Act.put, List.setIfInBounds_toArray, List.set_cons_zero, List.set_cons_succ]
      refine wpHeld_cons (.bool false) rfl (fun w h => heldRun_value (by kernel_rfl) h) ?_
      simp only [Act.put, List.setIfInBounds_toArray, List.set_cons_zero, List.set_cons_succ]
      refine wpHeld_nil ?_
      intro w7 h
      have F7 := Lib.hid h
      clear h
      go_upto_region 7 with (fail)
      refine wp_region_lit ?_
      refine wpL_pure (.int .i64 (nb : Int)) rfl (by kernel_rfl) ?_
      simp only [Act.put, List.setIfInBounds_toArray, List.set_cons_zero, List.set_cons_succ]
      refine wpL_pure (.bool false) rfl (run_lti Tryd.underlying3 rfl rfl rfl (by rw [decide_eq_false_iff_not]; omega)) ?_
      simp only [Act.put, List.setIfInBounds_toArray, List.set_cons_zero, List.set_cons_succ]
      refine wpL_pure (.bool false) rfl (by kernel_rfl) ?_
      simp only [Act.put, List.setIfInBounds_toArray, List.set_cons_zero, List.set_cons_succ]
      refine wpL_pure (.int .i64 (nb : Int)) rfl (by kernel_rfl) ?_
      simp only [Act.put, List.setIfInBounds_toArray, List.set_cons_zero, List.set_cons_succ]
      refine wpL_pure (.int .i64 (na : Int)) rfl (by kernel_rfl) ?_
      simp only [Act.put, List.setIfInBounds_toArray, List.set_cons_zero, List.set_cons_succ]
      refine wpL_pure (.bool false) rfl (run_gti Tryd.underlying3 rfl rfl rfl (by have := NB.out; rw [decide_eq_false_iff_not]; omega)) ?_
      simp only [Act.put, List.setIfInBounds_toArray, List.set_cons_zero, List.set_cons_succ]
      refine wpL_pure (.bool false) rfl (by kernel_rfl) ?_
      simp only [Act.put, List.setIfInBounds_toArray, List.set_cons_zero, List.set_cons_succ]
      go_upto_region 9 with (fail)
      refine wp_region_lit ?_
      refine wpL_pure (.agg (u8l ks).toArray) rfl (run_load_mid _ _ _ 23 _ rfl g3 0 rfl (u8l ks) _ (blk_range F7.out.1.1) Tryd.underlying23 rfl (by simp only [u8l_len, HKL.out]; kernel_rfl)) ?_
      simp only [Act.put, List.setIfInBounds_toArray, List.set_cons_zero, List.set_cons_succ]
      refine wpL_pure (.int .i64 (nb : Int)) rfl (by kernel_rfl) ?_
      simp only [Act.put, List.setIfInBounds_toArray, List.set_cons_zero, List.set_cons_succ]
      refine wpL_call 8 #[.agg (u8l ks).toArray, .int .i64 (nb : Int)] rfl (by kernel_rfl) ((key_any w7 ks HKL.out HKB.out (nb : Int) (HT.out.below F7.out.1.2.1) (HH.out.below F7.out.1.2.1)).mono ?_)
      rintro e w8 ⟨he, hb⟩
      refine ⟨.tuple #[.agg (u8l kb).toArray, .int .i64 0], by rw [he, show bkR ks 255 (nb : Int) = .tuple #[.agg (u8l kb).toArray, .int .i64 0] by unfold bkR; rw [if_neg (by have := NA.out; have := NB.out; omega), show ((255 : Int) - (nb : Int)).toNat = 255 - nb by omega, KB.out.1]], ?_⟩
      simp only [Act.put, List.setIfInBounds_toArray, List.set_cons_zero, List.set_cons_succ]
      have F8 : Hid (Below w.heap.size w w8 ∧ Blk w8 g9 23 (u8l kb).toArray) := Lib.hid ⟨F7.out.1.2.1.trans (hb.mono F7.out.1.2.1.size), F7.out.2.below hb⟩
      clear hb he
      refine wpL_pure (.tuple #[.agg (u8l kb).toArray, .int .i64 0]) rfl (by kernel_rfl) ?_
      simp only [Act.put, List.setIfInBounds_toArray, List.set_cons_zero, List.set_cons_succ]
      refine wpL_pure (.agg (u8l kb).toArray) rfl (by kernel_rfl) ?_
      simp only [Act.put, List.setIfInBounds_toArray, List.set_cons_zero, List.set_cons_succ]
      refine wpL_pure (.int .i64 0) rfl (by kernel_rfl) ?_
      simp only [Act.put, List.setIfInBounds_toArray, List.set_cons_zero, List.set_cons_succ]
      obtain ⟨w9a, hA⟩ : ∃ V, V = w8.alloc (.cells (u8l (List.replicate 32 0)).toArray 23) := ⟨_, rfl⟩
      obtain ⟨g11, hg⟩ : ∃ q, w8.heap.size = q := ⟨_, rfl⟩
      have A0 : Below w8.heap.size w8 w9a := by rw [hA]; exact (Below.refl _ _).alloc (Nat.le_refl _) _
      have A1 : Blk w9a g11 23 (u8l (List.replicate 32 0)).toArray := by rw [hA, ← hg]; exact Blk.new _ _ _
      refine wpL_value (.pointer (some ⟨g11, 0, none⟩)) w9a rfl (by rw [hA, ← hg]; kernel_rfl) ?_
      simp only [Act.put, List.setIfInBounds_toArray, List.set_cons_zero, List.set_cons_succ]
      refine wpList_store_rowTo rfl 23 _ _ rfl rfl g11 (u8l kb).toArray rfl rfl 23 _ A1 (by simp only [List.size_toArray, u8l_len, KB.out.2.2]; kernel_rfl) (by simp [u8l_len, KB.out.2.2]) (u8l_one _) ?_
      obtain ⟨w9, hB⟩ : ∃ V, V = w9a.setRow g11 (u8l kb).toArray := ⟨_, rfl⟩
      rw [← hB]
      have A2 : Below w8.heap.size w8 w9 := by rw [hB]; exact below_setRow A0 (Nat.le_of_eq hg) _
      have A3 : Blk w9 g11 23 (u8l kb).toArray := by rw [hB]; exact setRow_heap _ _ _ _ _ _ A1
      have F9 : Hid (Below w.heap.size w w9 ∧ Blk w9 g9 23 (u8l kb).toArray ∧ Blk w9 g11 23 (u8l kb).toArray) := Lib.hid ⟨F8.out.1.trans (A2.mono F8.out.1.size), F8.out.2.below A2, A3⟩
      clear hA hB hg A0 A1 A2 A3
      refine wpL_pure (.int .i64 0) rfl (by kernel_rfl) ?_
      simp only [Act.put, List.setIfInBounds_toArray, List.set_cons_zero, List.set_cons_succ]
      unfold wpList
      go_upto_region 10 with (fail)
      refine wp_region_lit ?_
      refine wpL_pure (.int .i64 0) rfl (by kernel_rfl) ?_
      simp only [Act.put, List.setIfInBounds_toArray, List.set_cons_zero, List.set_cons_succ]
      refine wpL_pure (.bool true) rfl (by kernel_rfl) ?_
      simp only [Act.put, List.setIfInBounds_toArray, List.set_cons_zero, List.set_cons_succ]
      refine wpL_pure (.bool true) rfl (by kernel_rfl) ?_
      simp only [Act.put, List.setIfInBounds_toArray, List.set_cons_zero, List.set_cons_succ]
      refine wpL_pure (.int .i64 0) rfl (by kernel_rfl) ?_
      simp only [Act.put, List.setIfInBounds_toArray, List.set_cons_zero, List.set_cons_succ]
      refine wpL_pure (.bool true) rfl (by kernel_rfl) ?_
      simp only [Act.put, List.setIfInBounds_toArray, List.set_cons_zero, List.set_cons_succ]
      refine wpL_pure (.bool true) rfl (by kernel_rfl) ?_
      simp only [Act.put, List.setIfInBounds_toArray, List.set_cons_zero, List.set_cons_succ]
      refine wpL_pure (.bool true) rfl (by kernel_rfl) ?_
      simp only [Act.put, List.setIfInBounds_toArray, List.set_cons_zero, List.set_cons_succ]
      refine wpL_pure (.agg (u8l kb).toArray) rfl (run_load_mid _ _ _ 23 _ rfl g9 0 rfl (u8l kb) _ (blk_range F9.out.2.1) Tryd.underlying23 rfl (by simp only [u8l_len, KB.out.2.2]; kernel_rfl)) ?_
      simp only [Act.put, List.setIfInBounds_toArray, List.set_cons_zero, List.set_cons_succ]
      refine wpL_pure (.agg (u8l kb).toArray) rfl (run_load_mid _ _ _ 23 _ rfl g11 0 rfl (u8l kb) _ (blk_range F9.out.2.2) Tryd.underlying23 rfl (by simp only [u8l_len, KB.out.2.2]; kernel_rfl)) ?_
      simp only [Act.put, List.setIfInBounds_toArray, List.set_cons_zero, List.set_cons_succ]
      refine wpL_pure (.bool true) rfl (run_eq26 _ _ _ _ _ kb KB.out.2.2 rfl rfl rfl) ?_
      simp only [Act.put, List.setIfInBounds_toArray, List.set_cons_zero, List.set_cons_succ]
      refine wpL_pure (.bool true) rfl (by kernel_rfl) ?_
      simp only [Act.put, List.setIfInBounds_toArray, List.set_cons_zero, List.set_cons_succ]
      refine wpL_pure (.bool true) rfl (by kernel_rfl) ?_
      simp only [Act.put, List.setIfInBounds_toArray, List.set_cons_zero, List.set_cons_succ]
      go_wp2_with fail
      go_ret
      exact ⟨rfl, F9.out.1⟩
end Go.Proofs.YtfhjfpgfbeiacaaDoor.Ha
