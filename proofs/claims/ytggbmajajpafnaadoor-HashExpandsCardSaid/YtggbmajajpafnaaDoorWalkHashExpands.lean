import Derived.Test.YtggbmajajpafnaaDoorH20
namespace Go.Proofs.YtggbmajajpafnaaDoor
open Go Go.RowKit

theorem exp32 (ks bs : List Int) : expS ks bs 32 = macS ks (bs ++ [1]) := by
  show (([] : List Int) ++ macS ks (([] : List Int) ++ bs ++ [((1 % 256 : Nat) : Int)])).take 32 = _
  rw [List.nil_append, List.nil_append, List.take_of_length_le (by rw [macS_len]; omega)]
  rfl
theorem i64_bounds {v : Int} (h : (Lit.int .i64 v).wf = true) : -9223372036854775808 ≤ v ∧ v ≤ 9223372036854775807 := bounds_i64 h
attribute [local irreducible] wpList
set_option maxHeartbeats 16000000 in
set_option maxRecDepth 100000 in
theorem walkHashExpands (ks : List Int) (a : Option Addr) (n c : Nat) (zs : List Int) (v : Int) (hkl : ks.length = 32) (hkw : ∀ x ∈ ks, (Lit.int .u8 x).wf = true) (hv : (Lit.int .i64 v).wf = true) (w : World) (h : IsRow .u8 w a n c zs) (tabs : TabK w ∧ TabH w ∧ TabW w) :
    Calls Tryd.prog 7 #[.agg (ks.map (Value.int .u8)).toArray, .slice a n c, .int .i64 v] w fun e w' => e = .returned (.bool true) ∧ Below w.heap.size w w' := by
  show Calls Tryd.prog 7 #[.agg (u8l ks).toArray, .slice a n c, .int .i64 v] w fun e w' => e = .returned (.bool true) ∧ Below w.heap.size w w'
  have HKL := Lib.hid hkl
  have HKB := Lib.hid (u8_bounds hkw)
  obtain ⟨bs, hbs⟩ : ∃ q, zs.take n = q := ⟨_, rfl⟩
  have hs := sl_of h
  rw [hbs] at hs
  have HS := Lib.hid hs
  have HT := Lib.hid tabs.1
  have HH := Lib.hid tabs.2.1
  have HW := Lib.hid tabs.2.2
  clear hkl hkw hbs hs h tabs hv
  go_enter Tryd.func7, Tryd.ntmps7
  obtain ⟨w1, hw1⟩ : ∃ V, V = w.alloc (.cells (u8l ks).toArray 26) := ⟨_, rfl⟩
  have B1 : Hid (Blk w1 w.heap.size 26 (u8l ks).toArray ∧ Below w.heap.size w w1 ∧ w.heap.size < w1.heap.size) := Lib.hid (by rw [hw1]; exact ⟨Blk.new _ _ _, (Below.refl _ _).alloc (Nat.le_refl _) _, by simp⟩)
  go_upto_region 0 with (fail)
  refine wp_region_lit ?_
  refine wpL_value (.pointer (some ⟨w.heap.size, 0, none⟩)) (w1) rfl (run_box26 _ _ _ _ _ ks rfl rfl HKL.out hw1) ?_
  simp only [Act.put, List.setIfInBounds_toArray, List.set_cons_zero, List.set_cons_succ]
  refine wpL_pure (.bool false) rfl (by kernel_rfl) ?_
  simp only [Act.put, List.setIfInBounds_toArray, List.set_cons_zero, List.set_cons_succ]
  clear hw1
  obtain ⟨g3, h3⟩ : ∃ q, w.heap.size = q := ⟨_, rfl⟩
  have G3 : Hid (w.heap.size = g3) := Lib.hid h3
  rw [h3] at B1
  try rw [h3]
  clear h3
  go_upto_region 1 with (fail)
  refine wp_region_lit ?_
  refine wpL_call 10 #[] rfl (by kernel_rfl) (((awake_any w1 (HT.out.below (by rw [G3.out]; exact B1.out.2.1)) (HH.out.below (by rw [G3.out]; exact B1.out.2.1)))).mono fun e w2 ⟨he, hb⟩ => ⟨.bool true, he, ?_⟩)
  simp only [Act.put, List.setIfInBounds_toArray, List.set_cons_zero, List.set_cons_succ]
  have B2 : Hid (Blk w2 g3 26 (u8l ks).toArray ∧ Below g3 w w2) := Lib.hid ⟨B1.out.1.below hb, B1.out.2.1.trans (hb.mono (by have := B1.out.2.2; omega))⟩
  clear hb
  refine wpL_pure (.bool false) rfl (by kernel_rfl) ?_
  simp only [Act.put, List.setIfInBounds_toArray, List.set_cons_zero, List.set_cons_succ]
  refine wpL_pure (.bool false) rfl (by kernel_rfl) ?_
  simp only [Act.put, List.setIfInBounds_toArray, List.set_cons_zero, List.set_cons_succ]
  refine wpL_pure (.slice a n c) rfl (by kernel_rfl) ?_
  simp only [Act.put, List.setIfInBounds_toArray, List.set_cons_zero, List.set_cons_succ]
  refine wpL_pure (.int .i64 (n : Int)) rfl (by kernel_rfl) ?_
  simp only [Act.put, List.setIfInBounds_toArray, List.set_cons_zero, List.set_cons_succ]
  by_cases hl : n ≤ 200
  · have HL := Lib.hid hl
    clear hl
    refine wpL_pure (.bool false) rfl (run_gti Tryd.underlying3 rfl rfl rfl (by have := HL.out; rw [decide_eq_false_iff_not]; omega)) ?_
    simp only [Act.put, List.setIfInBounds_toArray, List.set_cons_zero, List.set_cons_succ]
    refine wpL_pure (.bool false) rfl (by kernel_rfl) ?_
    simp only [Act.put, List.setIfInBounds_toArray, List.set_cons_zero, List.set_cons_succ]
    refine wpL_pure (.bool false) rfl (by kernel_rfl) ?_
    simp only [Act.put, List.setIfInBounds_toArray, List.set_cons_zero, List.set_cons_succ]
    refine wpL_pure (.int .i64 v) rfl (by kernel_rfl) ?_
    simp only [Act.put, List.setIfInBounds_toArray, List.set_cons_zero, List.set_cons_succ]
    by_cases hv : 600 < v
    · have HV := Lib.hid hv
      clear hv
      refine wpL_pure (.bool true) rfl (run_gti Tryd.underlying3 rfl rfl rfl (by have := HV.out; rw [decide_eq_true_eq]; omega)) ?_
      simp only [Act.put, List.setIfInBounds_toArray, List.set_cons_zero, List.set_cons_succ]
      refine wpL_pure (.bool true) rfl (by kernel_rfl) ?_
      simp only [Act.put, List.setIfInBounds_toArray, List.set_cons_zero, List.set_cons_succ]
      refine wpL_pure (.int .i64 v) rfl (by kernel_rfl) ?_
      simp only [Act.put, List.setIfInBounds_toArray, List.set_cons_zero, List.set_cons_succ]
      by_cases hf : v ≤ 8160
      · have HF := Lib.hid hf
        clear hf
        refine wpL_pure (.bool true) rfl (run_lei Tryd.underlying3 rfl rfl rfl (by have := HF.out; rw [decide_eq_true_eq]; omega)) ?_
        simp only [Act.put, List.setIfInBounds_toArray, List.set_cons_zero, List.set_cons_succ]
        refine wpL_pure (.bool true) rfl (by kernel_rfl) ?_
        simp only [Act.put, List.setIfInBounds_toArray, List.set_cons_zero, List.set_cons_succ]
        refine wpL_pure (.bool true) rfl (by kernel_rfl) ?_
        simp only [Act.put, List.setIfInBounds_toArray, List.set_cons_zero, List.set_cons_succ]
        go_upto_region 2 with (fail)
        refine wp_region_lit ?_
        refine wpL_call 10 #[] rfl (by kernel_rfl) (((awake_any w2 (HT.out.below (by rw [G3.out]; exact B2.out.2)) (HH.out.below (by rw [G3.out]; exact B2.out.2)))).mono fun e w3 ⟨he, hb⟩ => ⟨.bool true, he, ?_⟩)
        simp only [Act.put, List.setIfInBounds_toArray, List.set_cons_zero, List.set_cons_succ]
        have B3 : Hid (Below g3 w w3) := Lib.hid (B2.out.2.trans (hb.mono (by have := B2.out.1.lt; omega)))
        clear hb
        refine wpL_pure (.bool true) rfl (by kernel_rfl) ?_
        simp only [Act.put, List.setIfInBounds_toArray, List.set_cons_zero, List.set_cons_succ]
        go_wp2_with fail
        go_ret
        exact ⟨rfl, by rw [G3.out]; exact B3.out⟩
      · have HF := Lib.hid hf
        clear hf
        refine wpL_pure (.bool false) rfl (run_lei Tryd.underlying3 rfl rfl rfl (by have := HF.out; rw [decide_eq_false_iff_not]; omega)) ?_
        simp only [Act.put, List.setIfInBounds_toArray, List.set_cons_zero, List.set_cons_succ]
        refine wpL_pure (.bool false) rfl (by kernel_rfl) ?_
        simp only [Act.put, List.setIfInBounds_toArray, List.set_cons_zero, List.set_cons_succ]
        refine wpL_pure (.bool false) rfl (by kernel_rfl) ?_
        simp only [Act.put, List.setIfInBounds_toArray, List.set_cons_zero, List.set_cons_succ]
        have HE : Hid (v < 0 ∨ 8160 < v) := Lib.hid (by have := HF.out; omega)
        go_upto_region 3 with (fail)
        refine wp_region_lit ?_
        refine wpL_load 26 _ rfl rfl g3 0 rfl (u8l ks) _ (blk_range B2.out.1) Tryd.underlying26 rfl (by rw [u8l_len, HKL.out]; kernel_rfl) ?_
        simp only [Act.put, List.setIfInBounds_toArray, List.set_cons_zero, List.set_cons_succ]
        refine wpL_pure (.slice a n c) rfl (by kernel_rfl) ?_
        simp only [Act.put, List.setIfInBounds_toArray, List.set_cons_zero, List.set_cons_succ]
        refine wpL_pure (.int .i64 v) rfl (by kernel_rfl) ?_
        simp only [Act.put, List.setIfInBounds_toArray, List.set_cons_zero, List.set_cons_succ]
        refine wpL_call 13 #[.agg (u8l ks).toArray, .slice a n c, .int .i64 v] rfl (by kernel_rfl) (((expand_err w2 ks HKL.out a n c v HE.out)).mono fun e w3 ⟨he, hb⟩ => ⟨.tuple #[.slice none 0 0, .int .i64 1], he, ?_⟩)
        simp only [Act.put, List.setIfInBounds_toArray, List.set_cons_zero, List.set_cons_succ]
        have B3 : Hid (Below g3 w w3) := Lib.hid (B2.out.2.trans (hb.mono (by have := B2.out.1.lt; omega)))
        clear hb
        refine wpL_pure (.tuple #[.slice none 0 0, .int .i64 1]) rfl (by kernel_rfl) ?_
        simp only [Act.put, List.setIfInBounds_toArray, List.set_cons_zero, List.set_cons_succ]
        refine wpL_pure (.slice none 0 0) rfl (by kernel_rfl) ?_
        simp only [Act.put, List.setIfInBounds_toArray, List.set_cons_zero, List.set_cons_succ]
        refine wpL_pure (.int .i64 1) rfl (by kernel_rfl) ?_
        simp only [Act.put, List.setIfInBounds_toArray, List.set_cons_zero, List.set_cons_succ]
        refine wpL_pure (.slice none 0 0) rfl (by kernel_rfl) ?_
        simp only [Act.put, List.setIfInBounds_toArray, List.set_cons_zero, List.set_cons_succ]
        refine wpL_pure (.int .i64 1) rfl (by kernel_rfl) ?_
        simp only [Act.put, List.setIfInBounds_toArray, List.set_cons_zero, List.set_cons_succ]
        go_upto_region 4 with (fail)
        refine wp_region_lit ?_
        refine wpL_pure (.int .i64 v) rfl (by kernel_rfl) ?_
        simp only [Act.put, List.setIfInBounds_toArray, List.set_cons_zero, List.set_cons_succ]
        refine wpL_pure (.bool false) rfl (run_lti Tryd.underlying3 rfl rfl rfl (by have := HF.out; rw [decide_eq_false_iff_not]; omega)) ?_
        simp only [Act.put, List.setIfInBounds_toArray, List.set_cons_zero, List.set_cons_succ]
        refine wpL_pure (.bool false) rfl (by kernel_rfl) ?_
        simp only [Act.put, List.setIfInBounds_toArray, List.set_cons_zero, List.set_cons_succ]
        refine wpL_pure (.int .i64 v) rfl (by kernel_rfl) ?_
        simp only [Act.put, List.setIfInBounds_toArray, List.set_cons_zero, List.set_cons_succ]
        refine wpL_pure (.bool true) rfl (run_gti Tryd.underlying3 rfl rfl rfl (by have := HF.out; rw [decide_eq_true_eq]; omega)) ?_
        simp only [Act.put, List.setIfInBounds_toArray, List.set_cons_zero, List.set_cons_succ]
        refine wpL_pure (.bool true) rfl (by kernel_rfl) ?_
        simp only [Act.put, List.setIfInBounds_toArray, List.set_cons_zero, List.set_cons_succ]
        go_upto_region 5 with (fail)
        refine wp_region_lit ?_
        refine wpL_pure (.int .i64 1) rfl (by kernel_rfl) ?_
        simp only [Act.put, List.setIfInBounds_toArray, List.set_cons_zero, List.set_cons_succ]
        refine wpL_pure (.bool true) rfl (by kernel_rfl) ?_
        simp only [Act.put, List.setIfInBounds_toArray, List.set_cons_zero, List.set_cons_succ]
        refine wpL_pure (.bool true) rfl (by kernel_rfl) ?_
        simp only [Act.put, List.setIfInBounds_toArray, List.set_cons_zero, List.set_cons_succ]
        refine wpL_pure (.slice none 0 0) rfl (by kernel_rfl) ?_
        simp only [Act.put, List.setIfInBounds_toArray, List.set_cons_zero, List.set_cons_succ]
        refine wpL_pure (.int .i64 (0 : Int)) rfl (by kernel_rfl) ?_
        simp only [Act.put, List.setIfInBounds_toArray, List.set_cons_zero, List.set_cons_succ]
        refine wpL_pure (.bool true) rfl (by kernel_rfl) ?_
        simp only [Act.put, List.setIfInBounds_toArray, List.set_cons_zero, List.set_cons_succ]
        refine wpL_pure (.bool true) rfl (by kernel_rfl) ?_
        simp only [Act.put, List.setIfInBounds_toArray, List.set_cons_zero, List.set_cons_succ]
        refine wpL_pure (.bool true) rfl (by kernel_rfl) ?_
        simp only [Act.put, List.setIfInBounds_toArray, List.set_cons_zero, List.set_cons_succ]
        go_wp2_with fail
        go_ret
        exact ⟨rfl, by rw [G3.out]; exact B3.out⟩
    · have HV := Lib.hid hv
      clear hv
      refine wpL_pure (.bool false) rfl (run_gti Tryd.underlying3 rfl rfl rfl (by have := HV.out; rw [decide_eq_false_iff_not]; omega)) ?_
      simp only [Act.put, List.setIfInBounds_toArray, List.set_cons_zero, List.set_cons_succ]
      refine wpL_pure (.bool false) rfl (by kernel_rfl) ?_
      simp only [Act.put, List.setIfInBounds_toArray, List.set_cons_zero, List.set_cons_succ]
      refine wpL_skip (by kernel_rfl) ?_
      simp only [Act.put, List.setIfInBounds_toArray, List.set_cons_zero, List.set_cons_succ]
      refine wpL_skip (by kernel_rfl) ?_
      simp only [Act.put, List.setIfInBounds_toArray, List.set_cons_zero, List.set_cons_succ]
      refine wpL_pure (.bool false) rfl (by kernel_rfl) ?_
      simp only [Act.put, List.setIfInBounds_toArray, List.set_cons_zero, List.set_cons_succ]
      refine wpL_pure (.bool false) rfl (by kernel_rfl) ?_
      simp only [Act.put, List.setIfInBounds_toArray, List.set_cons_zero, List.set_cons_succ]
      by_cases hn : v < 0
      · have HN := Lib.hid hn
        clear hn
        have HE : Hid (v < 0 ∨ 8160 < v) := Lib.hid (by have := HN.out; omega)
        go_upto_region 3 with (fail)
        refine wp_region_lit ?_
        refine wpL_load 26 _ rfl rfl g3 0 rfl (u8l ks) _ (blk_range B2.out.1) Tryd.underlying26 rfl (by rw [u8l_len, HKL.out]; kernel_rfl) ?_
        simp only [Act.put, List.setIfInBounds_toArray, List.set_cons_zero, List.set_cons_succ]
        refine wpL_pure (.slice a n c) rfl (by kernel_rfl) ?_
        simp only [Act.put, List.setIfInBounds_toArray, List.set_cons_zero, List.set_cons_succ]
        refine wpL_pure (.int .i64 v) rfl (by kernel_rfl) ?_
        simp only [Act.put, List.setIfInBounds_toArray, List.set_cons_zero, List.set_cons_succ]
        refine wpL_call 13 #[.agg (u8l ks).toArray, .slice a n c, .int .i64 v] rfl (by kernel_rfl) (((expand_err w2 ks HKL.out a n c v HE.out)).mono fun e w3 ⟨he, hb⟩ => ⟨.tuple #[.slice none 0 0, .int .i64 1], he, ?_⟩)
        simp only [Act.put, List.setIfInBounds_toArray, List.set_cons_zero, List.set_cons_succ]
        have B3 : Hid (Below g3 w w3) := Lib.hid (B2.out.2.trans (hb.mono (by have := B2.out.1.lt; omega)))
        clear hb
        refine wpL_pure (.tuple #[.slice none 0 0, .int .i64 1]) rfl (by kernel_rfl) ?_
        simp only [Act.put, List.setIfInBounds_toArray, List.set_cons_zero, List.set_cons_succ]
        refine wpL_pure (.slice none 0 0) rfl (by kernel_rfl) ?_
        simp only [Act.put, List.setIfInBounds_toArray, List.set_cons_zero, List.set_cons_succ]
        refine wpL_pure (.int .i64 1) rfl (by kernel_rfl) ?_
        simp only [Act.put, List.setIfInBounds_toArray, List.set_cons_zero, List.set_cons_succ]
        refine wpL_pure (.slice none 0 0) rfl (by kernel_rfl) ?_
        simp only [Act.put, List.setIfInBounds_toArray, List.set_cons_zero, List.set_cons_succ]
        refine wpL_pure (.int .i64 1) rfl (by kernel_rfl) ?_
        simp only [Act.put, List.setIfInBounds_toArray, List.set_cons_zero, List.set_cons_succ]
        go_upto_region 4 with (fail)
        refine wp_region_lit ?_
        refine wpL_pure (.int .i64 v) rfl (by kernel_rfl) ?_
        simp only [Act.put, List.setIfInBounds_toArray, List.set_cons_zero, List.set_cons_succ]
        refine wpL_pure (.bool true) rfl (run_lti Tryd.underlying3 rfl rfl rfl (by have := HN.out; rw [decide_eq_true_eq]; omega)) ?_
        simp only [Act.put, List.setIfInBounds_toArray, List.set_cons_zero, List.set_cons_succ]
        refine wpL_pure (.bool true) rfl (by kernel_rfl) ?_
        simp only [Act.put, List.setIfInBounds_toArray, List.set_cons_zero, List.set_cons_succ]
        refine wpL_skip (by kernel_rfl) ?_
        simp only [Act.put, List.setIfInBounds_toArray, List.set_cons_zero, List.set_cons_succ]
        refine wpL_skip (by kernel_rfl) ?_
        simp only [Act.put, List.setIfInBounds_toArray, List.set_cons_zero, List.set_cons_succ]
        refine wpL_pure (.bool true) rfl (by kernel_rfl) ?_
        simp only [Act.put, List.setIfInBounds_toArray, List.set_cons_zero, List.set_cons_succ]
        go_upto_region 5 with (fail)
        refine wp_region_lit ?_
        refine wpL_pure (.int .i64 1) rfl (by kernel_rfl) ?_
        simp only [Act.put, List.setIfInBounds_toArray, List.set_cons_zero, List.set_cons_succ]
        refine wpL_pure (.bool true) rfl (by kernel_rfl) ?_
        simp only [Act.put, List.setIfInBounds_toArray, List.set_cons_zero, List.set_cons_succ]
        refine wpL_pure (.bool true) rfl (by kernel_rfl) ?_
        simp only [Act.put, List.setIfInBounds_toArray, List.set_cons_zero, List.set_cons_succ]
        refine wpL_pure (.slice none 0 0) rfl (by kernel_rfl) ?_
        simp only [Act.put, List.setIfInBounds_toArray, List.set_cons_zero, List.set_cons_succ]
        refine wpL_pure (.int .i64 (0 : Int)) rfl (by kernel_rfl) ?_
        simp only [Act.put, List.setIfInBounds_toArray, List.set_cons_zero, List.set_cons_succ]
        refine wpL_pure (.bool true) rfl (by kernel_rfl) ?_
        simp only [Act.put, List.setIfInBounds_toArray, List.set_cons_zero, List.set_cons_succ]
        refine wpL_pure (.bool true) rfl (by kernel_rfl) ?_
        simp only [Act.put, List.setIfInBounds_toArray, List.set_cons_zero, List.set_cons_succ]
        refine wpL_pure (.bool true) rfl (by kernel_rfl) ?_
        simp only [Act.put, List.setIfInBounds_toArray, List.set_cons_zero, List.set_cons_succ]
        go_wp2_with fail
        go_ret
        exact ⟨rfl, by rw [G3.out]; exact B3.out⟩
      · have HN := Lib.hid hn
        clear hn
        obtain ⟨m, hm⟩ : ∃ m : Nat, v = (m : Int) := ⟨v.toNat, by have := HN.out; omega⟩
        have ML : Hid (m ≤ 600) := Lib.hid (by have := HV.out; omega)
        subst hm
        go_upto_region 3 with (fail)
        refine wp_region_lit ?_
        refine wpL_load 26 _ rfl rfl g3 0 rfl (u8l ks) _ (blk_range B2.out.1) Tryd.underlying26 rfl (by rw [u8l_len, HKL.out]; kernel_rfl) ?_
        simp only [Act.put, List.setIfInBounds_toArray, List.set_cons_zero, List.set_cons_succ]
        refine wpL_pure (.slice a n c) rfl (by kernel_rfl) ?_
        simp only [Act.put, List.setIfInBounds_toArray, List.set_cons_zero, List.set_cons_succ]
        refine wpL_pure (.int .i64 (m : Int)) rfl (by kernel_rfl) ?_
        simp only [Act.put, List.setIfInBounds_toArray, List.set_cons_zero, List.set_cons_succ]
        refine wpL_call 13 #[.agg (u8l ks).toArray, .slice a n c, .int .i64 (m : Int)] rfl (by kernel_rfl) (((expand_any w2 ks HKL.out HKB.out a n c bs (HS.out.below (by rw [G3.out]; exact B2.out.2)) (by have := HL.out; omega) m (by have := ML.out; omega) (HT.out.below (by rw [G3.out]; exact B2.out.2)) (HH.out.below (by rw [G3.out]; exact B2.out.2)))).mono fun e w3 ⟨gx, cx, he, p1, p2, p3, p4, p5⟩ => ⟨.tuple #[.slice (some ⟨gx, 0, none⟩) m m, .int .i64 0], he, ?_⟩)
        simp only [Act.put, List.setIfInBounds_toArray, List.set_cons_zero, List.set_cons_succ]
        have B3 : Hid (Blk w3 g3 26 (u8l ks).toArray ∧ Below g3 w w3 ∧ Sl w3 (some ⟨gx, 0, none⟩) m m (expS ks bs m)) := Lib.hid ⟨B2.out.1.below p5, B2.out.2.trans (p5.mono (by have := B2.out.1.lt; omega)), sl_pre p2 p4 expS_len expS_byte (by have := ML.out; omega)⟩
        clear p1 p2 p3 p4 p5
        refine wpL_pure (.tuple #[.slice (some ⟨gx, 0, none⟩) m m, .int .i64 0]) rfl (by kernel_rfl) ?_
        simp only [Act.put, List.setIfInBounds_toArray, List.set_cons_zero, List.set_cons_succ]
        refine wpL_pure (.slice (some ⟨gx, 0, none⟩) m m) rfl (by kernel_rfl) ?_
        simp only [Act.put, List.setIfInBounds_toArray, List.set_cons_zero, List.set_cons_succ]
        refine wpL_pure (.int .i64 0) rfl (by kernel_rfl) ?_
        simp only [Act.put, List.setIfInBounds_toArray, List.set_cons_zero, List.set_cons_succ]
        refine wpL_pure (.slice (some ⟨gx, 0, none⟩) m m) rfl (by kernel_rfl) ?_
        simp only [Act.put, List.setIfInBounds_toArray, List.set_cons_zero, List.set_cons_succ]
        refine wpL_pure (.int .i64 0) rfl (by kernel_rfl) ?_
        simp only [Act.put, List.setIfInBounds_toArray, List.set_cons_zero, List.set_cons_succ]
        go_upto_region 4 with (fail)
        refine wp_region_lit ?_
        refine wpL_pure (.int .i64 (m : Int)) rfl (by kernel_rfl) ?_
        simp only [Act.put, List.setIfInBounds_toArray, List.set_cons_zero, List.set_cons_succ]
        refine wpL_pure (.bool false) rfl (run_lti Tryd.underlying3 rfl rfl rfl (by have := HN.out; rw [decide_eq_false_iff_not]; omega)) ?_
        simp only [Act.put, List.setIfInBounds_toArray, List.set_cons_zero, List.set_cons_succ]
        refine wpL_pure (.bool false) rfl (by kernel_rfl) ?_
        simp only [Act.put, List.setIfInBounds_toArray, List.set_cons_zero, List.set_cons_succ]
        refine wpL_pure (.int .i64 (m : Int)) rfl (by kernel_rfl) ?_
        simp only [Act.put, List.setIfInBounds_toArray, List.set_cons_zero, List.set_cons_succ]
        refine wpL_pure (.bool false) rfl (run_gti Tryd.underlying3 rfl rfl rfl (by have := ML.out; rw [decide_eq_false_iff_not]; omega)) ?_
        simp only [Act.put, List.setIfInBounds_toArray, List.set_cons_zero, List.set_cons_succ]
        refine wpL_pure (.bool false) rfl (by kernel_rfl) ?_
        simp only [Act.put, List.setIfInBounds_toArray, List.set_cons_zero, List.set_cons_succ]
        go_upto_region 6 with (fail)
        refine wp_region_lit ?_
        refine wpL_load 26 _ rfl rfl g3 0 rfl (u8l ks) _ (blk_range B3.out.1) Tryd.underlying26 rfl (by rw [u8l_len, HKL.out]; kernel_rfl) ?_
        simp only [Act.put, List.setIfInBounds_toArray, List.set_cons_zero, List.set_cons_succ]
        refine wpL_pure (.slice a n c) rfl (by kernel_rfl) ?_
        simp only [Act.put, List.setIfInBounds_toArray, List.set_cons_zero, List.set_cons_succ]
        refine wpL_pure (.string (strOfNums bs)) rfl (run_conv_str _ _ _ _ _ _ _ bs rfl rfl (HS.out.below (by rw [G3.out]; exact B3.out.2.1)).1) ?_
        simp only [Act.put, List.setIfInBounds_toArray, List.set_cons_zero, List.set_cons_succ]
        refine wpL_call 19 #[.agg (u8l ks).toArray, .string (strOfNums bs)] rfl (by kernel_rfl) (((derive_any w3 ks bs HKL.out HKB.out HS.out.1.2.2.1 (by have := HS.out.1.1; have := HL.out; omega) (HT.out.below (by rw [G3.out]; exact B3.out.2.1)) (HH.out.below (by rw [G3.out]; exact B3.out.2.1)))).mono fun e w4 ⟨he, hb⟩ => ⟨.agg (u8l (macS ks (bs ++ [1]))).toArray, he, ?_⟩)
        simp only [Act.put, List.setIfInBounds_toArray, List.set_cons_zero, List.set_cons_succ]
        obtain ⟨w5, hw5⟩ : ∃ V, V = (w4.alloc (.cells (u8l (List.replicate 32 0)).toArray 26)).setRow w4.heap.size (u8l (macS ks (bs ++ [1]))).toArray := ⟨_, rfl⟩
        have B5 : Hid (Below g3 w w5.drew ∧ Blk w5.drew g3 26 (u8l ks).toArray ∧ Sl w5.drew (some ⟨gx, 0, none⟩) m m (expS ks bs m) ∧ Blk w5.drew w4.heap.size 26 (u8l (macS ks (bs ++ [1]))).toArray) := Lib.hid (qq (show Below w4.heap.size w4 w5 by rw [hw5]; exact below_setRow ((Below.refl _ _).alloc (Nat.le_refl _) _) (Nat.le_refl _) _) fun q => qq (show Below w3.heap.size w3 w5.drew from (hb.trans (q.mono hb.size)).drew) fun q2 => ⟨B3.out.2.1.trans (q2.mono (by have := B3.out.1.lt; omega)), B3.out.1.below q2, B3.out.2.2.below q2, by rw [hw5]; exact setRow_heap _ _ _ _ _ _ (Blk.new w4 26 _)⟩)
        refine wpL_value (.pointer (some ⟨w4.heap.size, 0, none⟩)) (w4.alloc (.cells (u8l (List.replicate 32 0)).toArray 26)) rfl (by kernel_rfl) ?_
        simp only [Act.put, List.setIfInBounds_toArray, List.set_cons_zero, List.set_cons_succ]
        refine wpList_store_rowTo rfl 26 _ _ rfl rfl w4.heap.size (u8l (macS ks (bs ++ [1]))).toArray rfl rfl 26 _ (Blk.new w4 26 _) (by simp only [List.size_toArray, u8l_len, macS_len]; kernel_rfl) (by simp [u8l_len, macS_len]) (u8l_one _) ?_
        rw [← hw5]
        clear hw5 hb B3
        generalize w4.heap.size = g9 at B5 ⊢
        go_upto_region 7 with (fail)
        refine region_any (by kernel_rfl) 22 rfl ?_
        refine wpAny_take (i := 0) (oi := ⟨some 50, _, _, _, _, _⟩) (v := (.int .i64 0)) rfl (by kernel_rfl) (by kernel_rfl) (by kernel_rfl) (fun _ _ _ h => h) (Or.inl ⟨rfl, fun w => by kernel_rfl⟩) ?_
        simp only [Act.put, List.setIfInBounds_toArray, List.set_cons_zero, List.set_cons_succ]
        refine wpAny_take (i := 1) (oi := ⟨some 51, _, _, _, _, _⟩) (v := (.bool true)) rfl (by kernel_rfl) (by kernel_rfl) (by kernel_rfl) (fun _ _ _ h => h) (Or.inl ⟨rfl, fun w => by kernel_rfl⟩) ?_
        simp only [Act.put, List.setIfInBounds_toArray, List.set_cons_zero, List.set_cons_succ]
        refine wpAny_take (i := 2) (oi := ⟨some 52, _, _, _, _, _⟩) (v := (.bool true)) rfl (by kernel_rfl) (by kernel_rfl) (by kernel_rfl) (fun _ _ _ h => h) (Or.inl ⟨rfl, fun w => by kernel_rfl⟩) ?_
        simp only [Act.put, List.setIfInBounds_toArray, List.set_cons_zero, List.set_cons_succ]
        refine wpAny_take (i := 3) (oi := ⟨some 53, _, _, _, _, _⟩) (v := (.slice (some ⟨gx, 0, none⟩) m m)) rfl (by kernel_rfl) (by kernel_rfl) (by kernel_rfl) (fun _ _ _ h => h) (Or.inl ⟨rfl, fun w => by kernel_rfl⟩) ?_
        simp only [Act.put, List.setIfInBounds_toArray, List.set_cons_zero, List.set_cons_succ]
        refine wpAny_take (i := 6) (oi := ⟨some 56, _, _, _, _, _⟩) (v := (.slice a n c)) rfl (by kernel_rfl) (by kernel_rfl) (by kernel_rfl) (fun _ _ _ h => h) (Or.inl ⟨rfl, fun w => by kernel_rfl⟩) ?_
        simp only [Act.put, List.setIfInBounds_toArray, List.set_cons_zero, List.set_cons_succ]
        refine wpAny_take (i := 7) (oi := ⟨some 57, _, _, _, _, _⟩) (v := (.int .i64 (m : Int))) rfl (by kernel_rfl) (by kernel_rfl) (by kernel_rfl) (fun _ _ _ h => h) (Or.inl ⟨rfl, fun w => by kernel_rfl⟩) ?_
        simp only [Act.put, List.setIfInBounds_toArray, List.set_cons_zero, List.set_cons_succ]
        refine wpAny_all (rs := [4, 5]) (by kernel_rfl) (by simp) ?_
        intro i hi
        simp only [List.mem_cons, List.not_mem_nil, or_false] at hi
        rcases hi with rfl | rfl
        · refine op_val (o := ⟨some 54, _, _, _, _, _⟩) (.string (strOfNums (expS ks bs m))) rfl rfl (run_conv_str _ _ _ _ _ _ _ (expS ks bs m) rfl rfl B5.out.2.2.1.1) ?_
          simp only [Act.put, List.setIfInBounds_toArray, List.set_cons_zero, List.set_cons_succ]
          refine wpAny_all (rs := [5]) (by kernel_rfl) (by simp) ?_
          intro i hi
          simp only [List.mem_cons, List.not_mem_nil, or_false] at hi
          subst hi
          refine op_val (o := ⟨some 55, _, _, _, _, _⟩) (.agg (u8l ks).toArray) rfl rfl (run_load_mid _ _ _ 26 _ rfl g3 0 rfl (u8l ks) _ (blk_range B5.out.2.1) Tryd.underlying26 rfl (by rw [u8l_len, HKL.out]; kernel_rfl)) ?_
          simp only [Act.put, List.setIfInBounds_toArray, List.set_cons_zero, List.set_cons_succ]
          refine wpAny_all (rs := [8]) (by kernel_rfl) (by simp) ?_
          intro i hi
          simp only [List.mem_cons, List.not_mem_nil, or_false] at hi
          subst hi
          refine op_call (o := ⟨some 58, _, _, _, _, _⟩) 20 #[.agg (u8l ks).toArray, .slice a n c, .int .i64 (m : Int)] rfl rfl (by kernel_rfl) (((refexpand_any w5.drew ks HKL.out HKB.out a n c bs (HS.out.below (by rw [G3.out]; exact B5.out.1)) (by have := HL.out; omega) m (by have := ML.out; omega) (HW.out.below (by rw [G3.out]; exact B5.out.1)))).mono fun e z3 ⟨az3, cz3, he, sz3, qz3⟩ => ⟨.slice az3 m cz3, he, ?_⟩)
          simp only [Act.put, List.setIfInBounds_toArray, List.set_cons_zero, List.set_cons_succ]
          have Fz3 := Lib.hid (show Below g3 w z3 ∧ Blk z3 g3 26 (u8l ks).toArray ∧ Sl z3 (some ⟨gx, 0, none⟩) m m (expS ks bs m) ∧ Blk z3 g9 26 (u8l (macS ks (bs ++ [1]))).toArray ∧ Sl z3 az3 m cz3 (expS ks bs m) from ⟨B5.out.1.trans (qz3.mono (by have := (B5.out.2.1).lt; omega)), B5.out.2.1.below qz3, B5.out.2.2.1.below qz3, B5.out.2.2.2.below qz3, sz3⟩)
          clear qz3
          refine wpAny_all (rs := [9]) (by kernel_rfl) (by simp) ?_
          intro i hi
          simp only [List.mem_cons, List.not_mem_nil, or_false] at hi
          subst hi
          refine op_val (o := ⟨some 59, _, _, _, _, _⟩) (.string (strOfNums (expS ks bs m))) rfl rfl (run_conv_str _ _ _ _ _ _ _ (expS ks bs m) rfl rfl Fz3.out.2.2.2.2.1) ?_
          simp only [Act.put, List.setIfInBounds_toArray, List.set_cons_zero, List.set_cons_succ]
          refine wpAny_take (i := 10) (oi := ⟨some 60, _, _, _, _, _⟩) (v := (.bool true)) rfl (by kernel_rfl) (by kernel_rfl) (by kernel_rfl) (fun _ _ _ h => h) (Or.inl ⟨rfl, fun w => run_str_eql _ _ _ _ _ (expS ks bs m) (expS ks bs m) true rfl rfl rfl (by simp) expS_byte expS_byte⟩) ?_
          simp only [Act.put, List.setIfInBounds_toArray, List.set_cons_zero, List.set_cons_succ]
          refine wpAny_take (i := 11) (oi := ⟨some 61, _, _, _, _, _⟩) (v := (.bool true)) rfl (by kernel_rfl) (by kernel_rfl) (by kernel_rfl) (fun _ _ _ h => h) (Or.inl ⟨rfl, fun w => by kernel_rfl⟩) ?_
          simp only [Act.put, List.setIfInBounds_toArray, List.set_cons_zero, List.set_cons_succ]
          refine wpAny_take (i := 12) (oi := ⟨some 62, _, _, _, _, _⟩) (v := (.bool true)) rfl (by kernel_rfl) (by kernel_rfl) (by kernel_rfl) (fun _ _ _ h => h) (Or.inl ⟨rfl, fun w => by kernel_rfl⟩) ?_
          simp only [Act.put, List.setIfInBounds_toArray, List.set_cons_zero, List.set_cons_succ]
          refine wpAny_take (i := 13) (oi := ⟨some 63, _, _, _, _, _⟩) (v := (.slice (some ⟨g9, 0, none⟩) 32 32)) rfl (by kernel_rfl) (by kernel_rfl) (by kernel_rfl) (fun _ _ _ h => h) (Or.inl ⟨rfl, fun w => by kernel_rfl⟩) ?_
          simp only [Act.put, List.setIfInBounds_toArray, List.set_cons_zero, List.set_cons_succ]
          refine wpAny_take (i := 16) (oi := ⟨some 66, _, _, _, _, _⟩) (v := (.slice a n c)) rfl (by kernel_rfl) (by kernel_rfl) (by kernel_rfl) (fun _ _ _ h => h) (Or.inl ⟨rfl, fun w => by kernel_rfl⟩) ?_
          simp only [Act.put, List.setIfInBounds_toArray, List.set_cons_zero, List.set_cons_succ]
          refine wpAny_all (rs := [14, 15]) (by kernel_rfl) (by simp) ?_
          intro i hi
          simp only [List.mem_cons, List.not_mem_nil, or_false] at hi
          rcases hi with rfl | rfl
          · refine op_val (o := ⟨some 64, _, _, _, _, _⟩) (.string (strOfNums (expS ks bs 32))) rfl rfl (run_conv_str _ _ _ _ _ _ _ (expS ks bs 32) rfl rfl (by rw [exp32]; exact (sl_blk Fz3.out.2.2.2.1 (macS_len _ _) (macS_byte _ _) (by omega)).1)) ?_
            simp only [Act.put, List.setIfInBounds_toArray, List.set_cons_zero, List.set_cons_succ]
            refine wpAny_all (rs := [15]) (by kernel_rfl) (by simp) ?_
            intro i hi
            simp only [List.mem_cons, List.not_mem_nil, or_false] at hi
            subst hi
            refine op_val (o := ⟨some 65, _, _, _, _, _⟩) (.agg (u8l ks).toArray) rfl rfl (run_load_mid _ _ _ 26 _ rfl g3 0 rfl (u8l ks) _ (blk_range Fz3.out.2.1) Tryd.underlying26 rfl (by rw [u8l_len, HKL.out]; kernel_rfl)) ?_
            simp only [Act.put, List.setIfInBounds_toArray, List.set_cons_zero, List.set_cons_succ]
            refine wpAny_all (rs := [17]) (by kernel_rfl) (by simp) ?_
            intro i hi
            simp only [List.mem_cons, List.not_mem_nil, or_false] at hi
            subst hi
            refine op_call (o := ⟨some 67, _, _, _, _, _⟩) 20 #[.agg (u8l ks).toArray, .slice a n c, .int .i64 32] rfl rfl (by kernel_rfl) (((refexpand_any z3 ks HKL.out HKB.out a n c bs (HS.out.below (by rw [G3.out]; exact Fz3.out.1)) (by have := HL.out; omega) 32 (by omega) (HW.out.below (by rw [G3.out]; exact Fz3.out.1)))).mono fun e z7 ⟨az7, cz7, he, sz7, qz7⟩ => ⟨.slice az7 32 cz7, he, ?_⟩)
            simp only [Act.put, List.setIfInBounds_toArray, List.set_cons_zero, List.set_cons_succ]
            have Fz7 := Lib.hid (show Below g3 w z7 ∧ Blk z7 g3 26 (u8l ks).toArray ∧ Sl z7 (some ⟨gx, 0, none⟩) m m (expS ks bs m) ∧ Blk z7 g9 26 (u8l (macS ks (bs ++ [1]))).toArray ∧ Sl z7 az3 m cz3 (expS ks bs m) ∧ Sl z7 az7 32 cz7 (expS ks bs 32) from ⟨Fz3.out.1.trans (qz7.mono (by have := (Fz3.out.2.1).lt; omega)), Fz3.out.2.1.below qz7, Fz3.out.2.2.1.below qz7, Fz3.out.2.2.2.1.below qz7, Fz3.out.2.2.2.2.below qz7, sz7⟩)
            clear qz7
            refine wpAny_all (rs := [18]) (by kernel_rfl) (by simp) ?_
            intro i hi
            simp only [List.mem_cons, List.not_mem_nil, or_false] at hi
            subst hi
            refine op_val (o := ⟨some 68, _, _, _, _, _⟩) (.string (strOfNums (expS ks bs 32))) rfl rfl (run_conv_str _ _ _ _ _ _ _ (expS ks bs 32) rfl rfl Fz7.out.2.2.2.2.2.1) ?_
            simp only [Act.put, List.setIfInBounds_toArray, List.set_cons_zero, List.set_cons_succ]
            refine wpAny_take (i := 19) (oi := ⟨some 69, _, _, _, _, _⟩) (v := (.bool true)) rfl (by kernel_rfl) (by kernel_rfl) (by kernel_rfl) (fun _ _ _ h => h) (Or.inl ⟨rfl, fun w => run_str_eql _ _ _ _ _ (expS ks bs 32) (expS ks bs 32) true rfl rfl rfl (by simp) expS_byte expS_byte⟩) ?_
            simp only [Act.put, List.setIfInBounds_toArray, List.set_cons_zero, List.set_cons_succ]
            refine wpAny_take (i := 20) (oi := ⟨some 70, _, _, _, _, _⟩) (v := (.bool true)) rfl (by kernel_rfl) (by kernel_rfl) (by kernel_rfl) (fun _ _ _ h => h) (Or.inl ⟨rfl, fun w => by kernel_rfl⟩) ?_
            simp only [Act.put, List.setIfInBounds_toArray, List.set_cons_zero, List.set_cons_succ]
            refine wpAny_take (i := 21) (oi := ⟨some 6, _, _, _, _, _⟩) (v := (.bool true)) rfl (by kernel_rfl) (by kernel_rfl) (by kernel_rfl) (fun _ _ _ h => h) (Or.inl ⟨rfl, fun w => by kernel_rfl⟩) ?_
            simp only [Act.put, List.setIfInBounds_toArray, List.set_cons_zero, List.set_cons_succ]
            refine wpAny_done (by kernel_rfl) ?_ _
            go_wp2_with fail
            go_ret
            exact ⟨rfl, by rw [G3.out]; exact Fz7.out.1⟩
          · refine op_val (o := ⟨some 65, _, _, _, _, _⟩) (.agg (u8l ks).toArray) rfl rfl (run_load_mid _ _ _ 26 _ rfl g3 0 rfl (u8l ks) _ (blk_range Fz3.out.2.1) Tryd.underlying26 rfl (by rw [u8l_len, HKL.out]; kernel_rfl)) ?_
            simp only [Act.put, List.setIfInBounds_toArray, List.set_cons_zero, List.set_cons_succ]
            refine wpAny_all (rs := [14, 17]) (by kernel_rfl) (by simp) ?_
            intro i hi
            simp only [List.mem_cons, List.not_mem_nil, or_false] at hi
            rcases hi with rfl | rfl
            · refine op_val (o := ⟨some 64, _, _, _, _, _⟩) (.string (strOfNums (expS ks bs 32))) rfl rfl (run_conv_str _ _ _ _ _ _ _ (expS ks bs 32) rfl rfl (by rw [exp32]; exact (sl_blk Fz3.out.2.2.2.1 (macS_len _ _) (macS_byte _ _) (by omega)).1)) ?_
              simp only [Act.put, List.setIfInBounds_toArray, List.set_cons_zero, List.set_cons_succ]
              refine wpAny_all (rs := [17]) (by kernel_rfl) (by simp) ?_
              intro i hi
              simp only [List.mem_cons, List.not_mem_nil, or_false] at hi
              subst hi
              refine op_call (o := ⟨some 67, _, _, _, _, _⟩) 20 #[.agg (u8l ks).toArray, .slice a n c, .int .i64 32] rfl rfl (by kernel_rfl) (((refexpand_any z3 ks HKL.out HKB.out a n c bs (HS.out.below (by rw [G3.out]; exact Fz3.out.1)) (by have := HL.out; omega) 32 (by omega) (HW.out.below (by rw [G3.out]; exact Fz3.out.1)))).mono fun e z11 ⟨az11, cz11, he, sz11, qz11⟩ => ⟨.slice az11 32 cz11, he, ?_⟩)
              simp only [Act.put, List.setIfInBounds_toArray, List.set_cons_zero, List.set_cons_succ]
              have Fz11 := Lib.hid (show Below g3 w z11 ∧ Blk z11 g3 26 (u8l ks).toArray ∧ Sl z11 (some ⟨gx, 0, none⟩) m m (expS ks bs m) ∧ Blk z11 g9 26 (u8l (macS ks (bs ++ [1]))).toArray ∧ Sl z11 az3 m cz3 (expS ks bs m) ∧ Sl z11 az11 32 cz11 (expS ks bs 32) from ⟨Fz3.out.1.trans (qz11.mono (by have := (Fz3.out.2.1).lt; omega)), Fz3.out.2.1.below qz11, Fz3.out.2.2.1.below qz11, Fz3.out.2.2.2.1.below qz11, Fz3.out.2.2.2.2.below qz11, sz11⟩)
              clear qz11
              refine wpAny_all (rs := [18]) (by kernel_rfl) (by simp) ?_
              intro i hi
              simp only [List.mem_cons, List.not_mem_nil, or_false] at hi
              subst hi
              refine op_val (o := ⟨some 68, _, _, _, _, _⟩) (.string (strOfNums (expS ks bs 32))) rfl rfl (run_conv_str _ _ _ _ _ _ _ (expS ks bs 32) rfl rfl Fz11.out.2.2.2.2.2.1) ?_
              simp only [Act.put, List.setIfInBounds_toArray, List.set_cons_zero, List.set_cons_succ]
              refine wpAny_take (i := 19) (oi := ⟨some 69, _, _, _, _, _⟩) (v := (.bool true)) rfl (by kernel_rfl) (by kernel_rfl) (by kernel_rfl) (fun _ _ _ h => h) (Or.inl ⟨rfl, fun w => run_str_eql _ _ _ _ _ (expS ks bs 32) (expS ks bs 32) true rfl rfl rfl (by simp) expS_byte expS_byte⟩) ?_
              simp only [Act.put, List.setIfInBounds_toArray, List.set_cons_zero, List.set_cons_succ]
              refine wpAny_take (i := 20) (oi := ⟨some 70, _, _, _, _, _⟩) (v := (.bool true)) rfl (by kernel_rfl) (by kernel_rfl) (by kernel_rfl) (fun _ _ _ h => h) (Or.inl ⟨rfl, fun w => by kernel_rfl⟩) ?_
              simp only [Act.put, List.setIfInBounds_toArray, List.set_cons_zero, List.set_cons_succ]
              refine wpAny_take (i := 21) (oi := ⟨some 6, _, _, _, _, _⟩) (v := (.bool true)) rfl (by kernel_rfl) (by kernel_rfl) (by kernel_rfl) (fun _ _ _ h => h) (Or.inl ⟨rfl, fun w => by kernel_rfl⟩) ?_
              simp only [Act.put, List.setIfInBounds_toArray, List.set_cons_zero, List.set_cons_succ]
              refine wpAny_done (by kernel_rfl) ?_ _
              go_wp2_with fail
              go_ret
              exact ⟨rfl, by rw [G3.out]; exact Fz11.out.1⟩
            · refine op_call (o := ⟨some 67, _, _, _, _, _⟩) 20 #[.agg (u8l ks).toArray, .slice a n c, .int .i64 32] rfl rfl (by kernel_rfl) (((refexpand_any z3 ks HKL.out HKB.out a n c bs (HS.out.below (by rw [G3.out]; exact Fz3.out.1)) (by have := HL.out; omega) 32 (by omega) (HW.out.below (by rw [G3.out]; exact Fz3.out.1)))).mono fun e z13 ⟨az13, cz13, he, sz13, qz13⟩ => ⟨.slice az13 32 cz13, he, ?_⟩)
              simp only [Act.put, List.setIfInBounds_toArray, List.set_cons_zero, List.set_cons_succ]
              have Fz13 := Lib.hid (show Below g3 w z13 ∧ Blk z13 g3 26 (u8l ks).toArray ∧ Sl z13 (some ⟨gx, 0, none⟩) m m (expS ks bs m) ∧ Blk z13 g9 26 (u8l (macS ks (bs ++ [1]))).toArray ∧ Sl z13 az3 m cz3 (expS ks bs m) ∧ Sl z13 az13 32 cz13 (expS ks bs 32) from ⟨Fz3.out.1.trans (qz13.mono (by have := (Fz3.out.2.1).lt; omega)), Fz3.out.2.1.below qz13, Fz3.out.2.2.1.below qz13, Fz3.out.2.2.2.1.below qz13, Fz3.out.2.2.2.2.below qz13, sz13⟩)
              clear qz13
              refine wpAny_all (rs := [14, 18]) (by kernel_rfl) (by simp) ?_
              intro i hi
              simp only [List.mem_cons, List.not_mem_nil, or_false] at hi
              rcases hi with rfl | rfl
              · refine op_val (o := ⟨some 64, _, _, _, _, _⟩) (.string (strOfNums (expS ks bs 32))) rfl rfl (run_conv_str _ _ _ _ _ _ _ (expS ks bs 32) rfl rfl (by rw [exp32]; exact (sl_blk Fz13.out.2.2.2.1 (macS_len _ _) (macS_byte _ _) (by omega)).1)) ?_
                simp only [Act.put, List.setIfInBounds_toArray, List.set_cons_zero, List.set_cons_succ]
                refine wpAny_all (rs := [18]) (by kernel_rfl) (by simp) ?_
                intro i hi
                simp only [List.mem_cons, List.not_mem_nil, or_false] at hi
                subst hi
                refine op_val (o := ⟨some 68, _, _, _, _, _⟩) (.string (strOfNums (expS ks bs 32))) rfl rfl (run_conv_str _ _ _ _ _ _ _ (expS ks bs 32) rfl rfl Fz13.out.2.2.2.2.2.1) ?_
                simp only [Act.put, List.setIfInBounds_toArray, List.set_cons_zero, List.set_cons_succ]
                refine wpAny_take (i := 19) (oi := ⟨some 69, _, _, _, _, _⟩) (v := (.bool true)) rfl (by kernel_rfl) (by kernel_rfl) (by kernel_rfl) (fun _ _ _ h => h) (Or.inl ⟨rfl, fun w => run_str_eql _ _ _ _ _ (expS ks bs 32) (expS ks bs 32) true rfl rfl rfl (by simp) expS_byte expS_byte⟩) ?_
                simp only [Act.put, List.setIfInBounds_toArray, List.set_cons_zero, List.set_cons_succ]
                refine wpAny_take (i := 20) (oi := ⟨some 70, _, _, _, _, _⟩) (v := (.bool true)) rfl (by kernel_rfl) (by kernel_rfl) (by kernel_rfl) (fun _ _ _ h => h) (Or.inl ⟨rfl, fun w => by kernel_rfl⟩) ?_
                simp only [Act.put, List.setIfInBounds_toArray, List.set_cons_zero, List.set_cons_succ]
                refine wpAny_take (i := 21) (oi := ⟨some 6, _, _, _, _, _⟩) (v := (.bool true)) rfl (by kernel_rfl) (by kernel_rfl) (by kernel_rfl) (fun _ _ _ h => h) (Or.inl ⟨rfl, fun w => by kernel_rfl⟩) ?_
                simp only [Act.put, List.setIfInBounds_toArray, List.set_cons_zero, List.set_cons_succ]
                refine wpAny_done (by kernel_rfl) ?_ _
                go_wp2_with fail
                go_ret
                exact ⟨rfl, by rw [G3.out]; exact Fz13.out.1⟩
              · refine op_val (o := ⟨some 68, _, _, _, _, _⟩) (.string (strOfNums (expS ks bs 32))) rfl rfl (run_conv_str _ _ _ _ _ _ _ (expS ks bs 32) rfl rfl Fz13.out.2.2.2.2.2.1) ?_
                simp only [Act.put, List.setIfInBounds_toArray, List.set_cons_zero, List.set_cons_succ]
                refine wpAny_all (rs := [14]) (by kernel_rfl) (by simp) ?_
                intro i hi
                simp only [List.mem_cons, List.not_mem_nil, or_false] at hi
                subst hi
                refine op_val (o := ⟨some 64, _, _, _, _, _⟩) (.string (strOfNums (expS ks bs 32))) rfl rfl (run_conv_str _ _ _ _ _ _ _ (expS ks bs 32) rfl rfl (by rw [exp32]; exact (sl_blk Fz13.out.2.2.2.1 (macS_len _ _) (macS_byte _ _) (by omega)).1)) ?_
                simp only [Act.put, List.setIfInBounds_toArray, List.set_cons_zero, List.set_cons_succ]
                refine wpAny_take (i := 19) (oi := ⟨some 69, _, _, _, _, _⟩) (v := (.bool true)) rfl (by kernel_rfl) (by kernel_rfl) (by kernel_rfl) (fun _ _ _ h => h) (Or.inl ⟨rfl, fun w => run_str_eql _ _ _ _ _ (expS ks bs 32) (expS ks bs 32) true rfl rfl rfl (by simp) expS_byte expS_byte⟩) ?_
                simp only [Act.put, List.setIfInBounds_toArray, List.set_cons_zero, List.set_cons_succ]
                refine wpAny_take (i := 20) (oi := ⟨some 70, _, _, _, _, _⟩) (v := (.bool true)) rfl (by kernel_rfl) (by kernel_rfl) (by kernel_rfl) (fun _ _ _ h => h) (Or.inl ⟨rfl, fun w => by kernel_rfl⟩) ?_
                simp only [Act.put, List.setIfInBounds_toArray, List.set_cons_zero, List.set_cons_succ]
                refine wpAny_take (i := 21) (oi := ⟨some 6, _, _, _, _, _⟩) (v := (.bool true)) rfl (by kernel_rfl) (by kernel_rfl) (by kernel_rfl) (fun _ _ _ h => h) (Or.inl ⟨rfl, fun w => by kernel_rfl⟩) ?_
                simp only [Act.put, List.setIfInBounds_toArray, List.set_cons_zero, List.set_cons_succ]
                refine wpAny_done (by kernel_rfl) ?_ _
                go_wp2_with fail
                go_ret
                exact ⟨rfl, by rw [G3.out]; exact Fz13.out.1⟩
        · refine op_val (o := ⟨some 55, _, _, _, _, _⟩) (.agg (u8l ks).toArray) rfl rfl (run_load_mid _ _ _ 26 _ rfl g3 0 rfl (u8l ks) _ (blk_range B5.out.2.1) Tryd.underlying26 rfl (by rw [u8l_len, HKL.out]; kernel_rfl)) ?_
          simp only [Act.put, List.setIfInBounds_toArray, List.set_cons_zero, List.set_cons_succ]
          refine wpAny_all (rs := [4, 8]) (by kernel_rfl) (by simp) ?_
          intro i hi
          simp only [List.mem_cons, List.not_mem_nil, or_false] at hi
          rcases hi with rfl | rfl
          · refine op_val (o := ⟨some 54, _, _, _, _, _⟩) (.string (strOfNums (expS ks bs m))) rfl rfl (run_conv_str _ _ _ _ _ _ _ (expS ks bs m) rfl rfl B5.out.2.2.1.1) ?_
            simp only [Act.put, List.setIfInBounds_toArray, List.set_cons_zero, List.set_cons_succ]
            refine wpAny_all (rs := [8]) (by kernel_rfl) (by simp) ?_
            intro i hi
            simp only [List.mem_cons, List.not_mem_nil, or_false] at hi
            subst hi
            refine op_call (o := ⟨some 58, _, _, _, _, _⟩) 20 #[.agg (u8l ks).toArray, .slice a n c, .int .i64 (m : Int)] rfl rfl (by kernel_rfl) (((refexpand_any w5.drew ks HKL.out HKB.out a n c bs (HS.out.below (by rw [G3.out]; exact B5.out.1)) (by have := HL.out; omega) m (by have := ML.out; omega) (HW.out.below (by rw [G3.out]; exact B5.out.1)))).mono fun e z20 ⟨az20, cz20, he, sz20, qz20⟩ => ⟨.slice az20 m cz20, he, ?_⟩)
            simp only [Act.put, List.setIfInBounds_toArray, List.set_cons_zero, List.set_cons_succ]
            have Fz20 := Lib.hid (show Below g3 w z20 ∧ Blk z20 g3 26 (u8l ks).toArray ∧ Sl z20 (some ⟨gx, 0, none⟩) m m (expS ks bs m) ∧ Blk z20 g9 26 (u8l (macS ks (bs ++ [1]))).toArray ∧ Sl z20 az20 m cz20 (expS ks bs m) from ⟨B5.out.1.trans (qz20.mono (by have := (B5.out.2.1).lt; omega)), B5.out.2.1.below qz20, B5.out.2.2.1.below qz20, B5.out.2.2.2.below qz20, sz20⟩)
            clear qz20
            refine wpAny_all (rs := [9]) (by kernel_rfl) (by simp) ?_
            intro i hi
            simp only [List.mem_cons, List.not_mem_nil, or_false] at hi
            subst hi
            refine op_val (o := ⟨some 59, _, _, _, _, _⟩) (.string (strOfNums (expS ks bs m))) rfl rfl (run_conv_str _ _ _ _ _ _ _ (expS ks bs m) rfl rfl Fz20.out.2.2.2.2.1) ?_
            simp only [Act.put, List.setIfInBounds_toArray, List.set_cons_zero, List.set_cons_succ]
            refine wpAny_take (i := 10) (oi := ⟨some 60, _, _, _, _, _⟩) (v := (.bool true)) rfl (by kernel_rfl) (by kernel_rfl) (by kernel_rfl) (fun _ _ _ h => h) (Or.inl ⟨rfl, fun w => run_str_eql _ _ _ _ _ (expS ks bs m) (expS ks bs m) true rfl rfl rfl (by simp) expS_byte expS_byte⟩) ?_
            simp only [Act.put, List.setIfInBounds_toArray, List.set_cons_zero, List.set_cons_succ]
            refine wpAny_take (i := 11) (oi := ⟨some 61, _, _, _, _, _⟩) (v := (.bool true)) rfl (by kernel_rfl) (by kernel_rfl) (by kernel_rfl) (fun _ _ _ h => h) (Or.inl ⟨rfl, fun w => by kernel_rfl⟩) ?_
            simp only [Act.put, List.setIfInBounds_toArray, List.set_cons_zero, List.set_cons_succ]
            refine wpAny_take (i := 12) (oi := ⟨some 62, _, _, _, _, _⟩) (v := (.bool true)) rfl (by kernel_rfl) (by kernel_rfl) (by kernel_rfl) (fun _ _ _ h => h) (Or.inl ⟨rfl, fun w => by kernel_rfl⟩) ?_
            simp only [Act.put, List.setIfInBounds_toArray, List.set_cons_zero, List.set_cons_succ]
            refine wpAny_take (i := 13) (oi := ⟨some 63, _, _, _, _, _⟩) (v := (.slice (some ⟨g9, 0, none⟩) 32 32)) rfl (by kernel_rfl) (by kernel_rfl) (by kernel_rfl) (fun _ _ _ h => h) (Or.inl ⟨rfl, fun w => by kernel_rfl⟩) ?_
            simp only [Act.put, List.setIfInBounds_toArray, List.set_cons_zero, List.set_cons_succ]
            refine wpAny_take (i := 16) (oi := ⟨some 66, _, _, _, _, _⟩) (v := (.slice a n c)) rfl (by kernel_rfl) (by kernel_rfl) (by kernel_rfl) (fun _ _ _ h => h) (Or.inl ⟨rfl, fun w => by kernel_rfl⟩) ?_
            simp only [Act.put, List.setIfInBounds_toArray, List.set_cons_zero, List.set_cons_succ]
            refine wpAny_all (rs := [14, 15]) (by kernel_rfl) (by simp) ?_
            intro i hi
            simp only [List.mem_cons, List.not_mem_nil, or_false] at hi
            rcases hi with rfl | rfl
            · refine op_val (o := ⟨some 64, _, _, _, _, _⟩) (.string (strOfNums (expS ks bs 32))) rfl rfl (run_conv_str _ _ _ _ _ _ _ (expS ks bs 32) rfl rfl (by rw [exp32]; exact (sl_blk Fz20.out.2.2.2.1 (macS_len _ _) (macS_byte _ _) (by omega)).1)) ?_
              simp only [Act.put, List.setIfInBounds_toArray, List.set_cons_zero, List.set_cons_succ]
              refine wpAny_all (rs := [15]) (by kernel_rfl) (by simp) ?_
              intro i hi
              simp only [List.mem_cons, List.not_mem_nil, or_false] at hi
              subst hi
              refine op_val (o := ⟨some 65, _, _, _, _, _⟩) (.agg (u8l ks).toArray) rfl rfl (run_load_mid _ _ _ 26 _ rfl g3 0 rfl (u8l ks) _ (blk_range Fz20.out.2.1) Tryd.underlying26 rfl (by rw [u8l_len, HKL.out]; kernel_rfl)) ?_
              simp only [Act.put, List.setIfInBounds_toArray, List.set_cons_zero, List.set_cons_succ]
              refine wpAny_all (rs := [17]) (by kernel_rfl) (by simp) ?_
              intro i hi
              simp only [List.mem_cons, List.not_mem_nil, or_false] at hi
              subst hi
              refine op_call (o := ⟨some 67, _, _, _, _, _⟩) 20 #[.agg (u8l ks).toArray, .slice a n c, .int .i64 32] rfl rfl (by kernel_rfl) (((refexpand_any z20 ks HKL.out HKB.out a n c bs (HS.out.below (by rw [G3.out]; exact Fz20.out.1)) (by have := HL.out; omega) 32 (by omega) (HW.out.below (by rw [G3.out]; exact Fz20.out.1)))).mono fun e z24 ⟨az24, cz24, he, sz24, qz24⟩ => ⟨.slice az24 32 cz24, he, ?_⟩)
              simp only [Act.put, List.setIfInBounds_toArray, List.set_cons_zero, List.set_cons_succ]
              have Fz24 := Lib.hid (show Below g3 w z24 ∧ Blk z24 g3 26 (u8l ks).toArray ∧ Sl z24 (some ⟨gx, 0, none⟩) m m (expS ks bs m) ∧ Blk z24 g9 26 (u8l (macS ks (bs ++ [1]))).toArray ∧ Sl z24 az20 m cz20 (expS ks bs m) ∧ Sl z24 az24 32 cz24 (expS ks bs 32) from ⟨Fz20.out.1.trans (qz24.mono (by have := (Fz20.out.2.1).lt; omega)), Fz20.out.2.1.below qz24, Fz20.out.2.2.1.below qz24, Fz20.out.2.2.2.1.below qz24, Fz20.out.2.2.2.2.below qz24, sz24⟩)
              clear qz24
              refine wpAny_all (rs := [18]) (by kernel_rfl) (by simp) ?_
              intro i hi
              simp only [List.mem_cons, List.not_mem_nil, or_false] at hi
              subst hi
              refine op_val (o := ⟨some 68, _, _, _, _, _⟩) (.string (strOfNums (expS ks bs 32))) rfl rfl (run_conv_str _ _ _ _ _ _ _ (expS ks bs 32) rfl rfl Fz24.out.2.2.2.2.2.1) ?_
              simp only [Act.put, List.setIfInBounds_toArray, List.set_cons_zero, List.set_cons_succ]
              refine wpAny_take (i := 19) (oi := ⟨some 69, _, _, _, _, _⟩) (v := (.bool true)) rfl (by kernel_rfl) (by kernel_rfl) (by kernel_rfl) (fun _ _ _ h => h) (Or.inl ⟨rfl, fun w => run_str_eql _ _ _ _ _ (expS ks bs 32) (expS ks bs 32) true rfl rfl rfl (by simp) expS_byte expS_byte⟩) ?_
              simp only [Act.put, List.setIfInBounds_toArray, List.set_cons_zero, List.set_cons_succ]
              refine wpAny_take (i := 20) (oi := ⟨some 70, _, _, _, _, _⟩) (v := (.bool true)) rfl (by kernel_rfl) (by kernel_rfl) (by kernel_rfl) (fun _ _ _ h => h) (Or.inl ⟨rfl, fun w => by kernel_rfl⟩) ?_
              simp only [Act.put, List.setIfInBounds_toArray, List.set_cons_zero, List.set_cons_succ]
              refine wpAny_take (i := 21) (oi := ⟨some 6, _, _, _, _, _⟩) (v := (.bool true)) rfl (by kernel_rfl) (by kernel_rfl) (by kernel_rfl) (fun _ _ _ h => h) (Or.inl ⟨rfl, fun w => by kernel_rfl⟩) ?_
              simp only [Act.put, List.setIfInBounds_toArray, List.set_cons_zero, List.set_cons_succ]
              refine wpAny_done (by kernel_rfl) ?_ _
              go_wp2_with fail
              go_ret
              exact ⟨rfl, by rw [G3.out]; exact Fz24.out.1⟩
            · refine op_val (o := ⟨some 65, _, _, _, _, _⟩) (.agg (u8l ks).toArray) rfl rfl (run_load_mid _ _ _ 26 _ rfl g3 0 rfl (u8l ks) _ (blk_range Fz20.out.2.1) Tryd.underlying26 rfl (by rw [u8l_len, HKL.out]; kernel_rfl)) ?_
              simp only [Act.put, List.setIfInBounds_toArray, List.set_cons_zero, List.set_cons_succ]
              refine wpAny_all (rs := [14, 17]) (by kernel_rfl) (by simp) ?_
              intro i hi
              simp only [List.mem_cons, List.not_mem_nil, or_false] at hi
              rcases hi with rfl | rfl
              · refine op_val (o := ⟨some 64, _, _, _, _, _⟩) (.string (strOfNums (expS ks bs 32))) rfl rfl (run_conv_str _ _ _ _ _ _ _ (expS ks bs 32) rfl rfl (by rw [exp32]; exact (sl_blk Fz20.out.2.2.2.1 (macS_len _ _) (macS_byte _ _) (by omega)).1)) ?_
                simp only [Act.put, List.setIfInBounds_toArray, List.set_cons_zero, List.set_cons_succ]
                refine wpAny_all (rs := [17]) (by kernel_rfl) (by simp) ?_
                intro i hi
                simp only [List.mem_cons, List.not_mem_nil, or_false] at hi
                subst hi
                refine op_call (o := ⟨some 67, _, _, _, _, _⟩) 20 #[.agg (u8l ks).toArray, .slice a n c, .int .i64 32] rfl rfl (by kernel_rfl) (((refexpand_any z20 ks HKL.out HKB.out a n c bs (HS.out.below (by rw [G3.out]; exact Fz20.out.1)) (by have := HL.out; omega) 32 (by omega) (HW.out.below (by rw [G3.out]; exact Fz20.out.1)))).mono fun e z28 ⟨az28, cz28, he, sz28, qz28⟩ => ⟨.slice az28 32 cz28, he, ?_⟩)
                simp only [Act.put, List.setIfInBounds_toArray, List.set_cons_zero, List.set_cons_succ]
                have Fz28 := Lib.hid (show Below g3 w z28 ∧ Blk z28 g3 26 (u8l ks).toArray ∧ Sl z28 (some ⟨gx, 0, none⟩) m m (expS ks bs m) ∧ Blk z28 g9 26 (u8l (macS ks (bs ++ [1]))).toArray ∧ Sl z28 az20 m cz20 (expS ks bs m) ∧ Sl z28 az28 32 cz28 (expS ks bs 32) from ⟨Fz20.out.1.trans (qz28.mono (by have := (Fz20.out.2.1).lt; omega)), Fz20.out.2.1.below qz28, Fz20.out.2.2.1.below qz28, Fz20.out.2.2.2.1.below qz28, Fz20.out.2.2.2.2.below qz28, sz28⟩)
                clear qz28
                refine wpAny_all (rs := [18]) (by kernel_rfl) (by simp) ?_
                intro i hi
                simp only [List.mem_cons, List.not_mem_nil, or_false] at hi
                subst hi
                refine op_val (o := ⟨some 68, _, _, _, _, _⟩) (.string (strOfNums (expS ks bs 32))) rfl rfl (run_conv_str _ _ _ _ _ _ _ (expS ks bs 32) rfl rfl Fz28.out.2.2.2.2.2.1) ?_
                simp only [Act.put, List.setIfInBounds_toArray, List.set_cons_zero, List.set_cons_succ]
                refine wpAny_take (i := 19) (oi := ⟨some 69, _, _, _, _, _⟩) (v := (.bool true)) rfl (by kernel_rfl) (by kernel_rfl) (by kernel_rfl) (fun _ _ _ h => h) (Or.inl ⟨rfl, fun w => run_str_eql _ _ _ _ _ (expS ks bs 32) (expS ks bs 32) true rfl rfl rfl (by simp) expS_byte expS_byte⟩) ?_
                simp only [Act.put, List.setIfInBounds_toArray, List.set_cons_zero, List.set_cons_succ]
                refine wpAny_take (i := 20) (oi := ⟨some 70, _, _, _, _, _⟩) (v := (.bool true)) rfl (by kernel_rfl) (by kernel_rfl) (by kernel_rfl) (fun _ _ _ h => h) (Or.inl ⟨rfl, fun w => by kernel_rfl⟩) ?_
                simp only [Act.put, List.setIfInBounds_toArray, List.set_cons_zero, List.set_cons_succ]
                refine wpAny_take (i := 21) (oi := ⟨some 6, _, _, _, _, _⟩) (v := (.bool true)) rfl (by kernel_rfl) (by kernel_rfl) (by kernel_rfl) (fun _ _ _ h => h) (Or.inl ⟨rfl, fun w => by kernel_rfl⟩) ?_
                simp only [Act.put, List.setIfInBounds_toArray, List.set_cons_zero, List.set_cons_succ]
                refine wpAny_done (by kernel_rfl) ?_ _
                go_wp2_with fail
                go_ret
                exact ⟨rfl, by rw [G3.out]; exact Fz28.out.1⟩
              · refine op_call (o := ⟨some 67, _, _, _, _, _⟩) 20 #[.agg (u8l ks).toArray, .slice a n c, .int .i64 32] rfl rfl (by kernel_rfl) (((refexpand_any z20 ks HKL.out HKB.out a n c bs (HS.out.below (by rw [G3.out]; exact Fz20.out.1)) (by have := HL.out; omega) 32 (by omega) (HW.out.below (by rw [G3.out]; exact Fz20.out.1)))).mono fun e z30 ⟨az30, cz30, he, sz30, qz30⟩ => ⟨.slice az30 32 cz30, he, ?_⟩)
                simp only [Act.put, List.setIfInBounds_toArray, List.set_cons_zero, List.set_cons_succ]
                have Fz30 := Lib.hid (show Below g3 w z30 ∧ Blk z30 g3 26 (u8l ks).toArray ∧ Sl z30 (some ⟨gx, 0, none⟩) m m (expS ks bs m) ∧ Blk z30 g9 26 (u8l (macS ks (bs ++ [1]))).toArray ∧ Sl z30 az20 m cz20 (expS ks bs m) ∧ Sl z30 az30 32 cz30 (expS ks bs 32) from ⟨Fz20.out.1.trans (qz30.mono (by have := (Fz20.out.2.1).lt; omega)), Fz20.out.2.1.below qz30, Fz20.out.2.2.1.below qz30, Fz20.out.2.2.2.1.below qz30, Fz20.out.2.2.2.2.below qz30, sz30⟩)
                clear qz30
                refine wpAny_all (rs := [14, 18]) (by kernel_rfl) (by simp) ?_
                intro i hi
                simp only [List.mem_cons, List.not_mem_nil, or_false] at hi
                rcases hi with rfl | rfl
                · refine op_val (o := ⟨some 64, _, _, _, _, _⟩) (.string (strOfNums (expS ks bs 32))) rfl rfl (run_conv_str _ _ _ _ _ _ _ (expS ks bs 32) rfl rfl (by rw [exp32]; exact (sl_blk Fz30.out.2.2.2.1 (macS_len _ _) (macS_byte _ _) (by omega)).1)) ?_
                  simp only [Act.put, List.setIfInBounds_toArray, List.set_cons_zero, List.set_cons_succ]
                  refine wpAny_all (rs := [18]) (by kernel_rfl) (by simp) ?_
                  intro i hi
                  simp only [List.mem_cons, List.not_mem_nil, or_false] at hi
                  subst hi
                  refine op_val (o := ⟨some 68, _, _, _, _, _⟩) (.string (strOfNums (expS ks bs 32))) rfl rfl (run_conv_str _ _ _ _ _ _ _ (expS ks bs 32) rfl rfl Fz30.out.2.2.2.2.2.1) ?_
                  simp only [Act.put, List.setIfInBounds_toArray, List.set_cons_zero, List.set_cons_succ]
                  refine wpAny_take (i := 19) (oi := ⟨some 69, _, _, _, _, _⟩) (v := (.bool true)) rfl (by kernel_rfl) (by kernel_rfl) (by kernel_rfl) (fun _ _ _ h => h) (Or.inl ⟨rfl, fun w => run_str_eql _ _ _ _ _ (expS ks bs 32) (expS ks bs 32) true rfl rfl rfl (by simp) expS_byte expS_byte⟩) ?_
                  simp only [Act.put, List.setIfInBounds_toArray, List.set_cons_zero, List.set_cons_succ]
                  refine wpAny_take (i := 20) (oi := ⟨some 70, _, _, _, _, _⟩) (v := (.bool true)) rfl (by kernel_rfl) (by kernel_rfl) (by kernel_rfl) (fun _ _ _ h => h) (Or.inl ⟨rfl, fun w => by kernel_rfl⟩) ?_
                  simp only [Act.put, List.setIfInBounds_toArray, List.set_cons_zero, List.set_cons_succ]
                  refine wpAny_take (i := 21) (oi := ⟨some 6, _, _, _, _, _⟩) (v := (.bool true)) rfl (by kernel_rfl) (by kernel_rfl) (by kernel_rfl) (fun _ _ _ h => h) (Or.inl ⟨rfl, fun w => by kernel_rfl⟩) ?_
                  simp only [Act.put, List.setIfInBounds_toArray, List.set_cons_zero, List.set_cons_succ]
                  refine wpAny_done (by kernel_rfl) ?_ _
                  go_wp2_with fail
                  go_ret
                  exact ⟨rfl, by rw [G3.out]; exact Fz30.out.1⟩
                · refine op_val (o := ⟨some 68, _, _, _, _, _⟩) (.string (strOfNums (expS ks bs 32))) rfl rfl (run_conv_str _ _ _ _ _ _ _ (expS ks bs 32) rfl rfl Fz30.out.2.2.2.2.2.1) ?_
                  simp only [Act.put, List.setIfInBounds_toArray, List.set_cons_zero, List.set_cons_succ]
                  refine wpAny_all (rs := [14]) (by kernel_rfl) (by simp) ?_
                  intro i hi
                  simp only [List.mem_cons, List.not_mem_nil, or_false] at hi
                  subst hi
                  refine op_val (o := ⟨some 64, _, _, _, _, _⟩) (.string (strOfNums (expS ks bs 32))) rfl rfl (run_conv_str _ _ _ _ _ _ _ (expS ks bs 32) rfl rfl (by rw [exp32]; exact (sl_blk Fz30.out.2.2.2.1 (macS_len _ _) (macS_byte _ _) (by omega)).1)) ?_
                  simp only [Act.put, List.setIfInBounds_toArray, List.set_cons_zero, List.set_cons_succ]
                  refine wpAny_take (i := 19) (oi := ⟨some 69, _, _, _, _, _⟩) (v := (.bool true)) rfl (by kernel_rfl) (by kernel_rfl) (by kernel_rfl) (fun _ _ _ h => h) (Or.inl ⟨rfl, fun w => run_str_eql _ _ _ _ _ (expS ks bs 32) (expS ks bs 32) true rfl rfl rfl (by simp) expS_byte expS_byte⟩) ?_
                  simp only [Act.put, List.setIfInBounds_toArray, List.set_cons_zero, List.set_cons_succ]
                  refine wpAny_take (i := 20) (oi := ⟨some 70, _, _, _, _, _⟩) (v := (.bool true)) rfl (by kernel_rfl) (by kernel_rfl) (by kernel_rfl) (fun _ _ _ h => h) (Or.inl ⟨rfl, fun w => by kernel_rfl⟩) ?_
                  simp only [Act.put, List.setIfInBounds_toArray, List.set_cons_zero, List.set_cons_succ]
                  refine wpAny_take (i := 21) (oi := ⟨some 6, _, _, _, _, _⟩) (v := (.bool true)) rfl (by kernel_rfl) (by kernel_rfl) (by kernel_rfl) (fun _ _ _ h => h) (Or.inl ⟨rfl, fun w => by kernel_rfl⟩) ?_
                  simp only [Act.put, List.setIfInBounds_toArray, List.set_cons_zero, List.set_cons_succ]
                  refine wpAny_done (by kernel_rfl) ?_ _
                  go_wp2_with fail
                  go_ret
                  exact ⟨rfl, by rw [G3.out]; exact Fz30.out.1⟩
          · refine op_call (o := ⟨some 58, _, _, _, _, _⟩) 20 #[.agg (u8l ks).toArray, .slice a n c, .int .i64 (m : Int)] rfl rfl (by kernel_rfl) (((refexpand_any w5.drew ks HKL.out HKB.out a n c bs (HS.out.below (by rw [G3.out]; exact B5.out.1)) (by have := HL.out; omega) m (by have := ML.out; omega) (HW.out.below (by rw [G3.out]; exact B5.out.1)))).mono fun e z35 ⟨az35, cz35, he, sz35, qz35⟩ => ⟨.slice az35 m cz35, he, ?_⟩)
            simp only [Act.put, List.setIfInBounds_toArray, List.set_cons_zero, List.set_cons_succ]
            have Fz35 := Lib.hid (show Below g3 w z35 ∧ Blk z35 g3 26 (u8l ks).toArray ∧ Sl z35 (some ⟨gx, 0, none⟩) m m (expS ks bs m) ∧ Blk z35 g9 26 (u8l (macS ks (bs ++ [1]))).toArray ∧ Sl z35 az35 m cz35 (expS ks bs m) from ⟨B5.out.1.trans (qz35.mono (by have := (B5.out.2.1).lt; omega)), B5.out.2.1.below qz35, B5.out.2.2.1.below qz35, B5.out.2.2.2.below qz35, sz35⟩)
            clear qz35
            refine wpAny_all (rs := [4, 9]) (by kernel_rfl) (by simp) ?_
            intro i hi
            simp only [List.mem_cons, List.not_mem_nil, or_false] at hi
            rcases hi with rfl | rfl
            · refine op_val (o := ⟨some 54, _, _, _, _, _⟩) (.string (strOfNums (expS ks bs m))) rfl rfl (run_conv_str _ _ _ _ _ _ _ (expS ks bs m) rfl rfl Fz35.out.2.2.1.1) ?_
              simp only [Act.put, List.setIfInBounds_toArray, List.set_cons_zero, List.set_cons_succ]
              refine wpAny_all (rs := [9]) (by kernel_rfl) (by simp) ?_
              intro i hi
              simp only [List.mem_cons, List.not_mem_nil, or_false] at hi
              subst hi
              refine op_val (o := ⟨some 59, _, _, _, _, _⟩) (.string (strOfNums (expS ks bs m))) rfl rfl (run_conv_str _ _ _ _ _ _ _ (expS ks bs m) rfl rfl Fz35.out.2.2.2.2.1) ?_
              simp only [Act.put, List.setIfInBounds_toArray, List.set_cons_zero, List.set_cons_succ]
              refine wpAny_take (i := 10) (oi := ⟨some 60, _, _, _, _, _⟩) (v := (.bool true)) rfl (by kernel_rfl) (by kernel_rfl) (by kernel_rfl) (fun _ _ _ h => h) (Or.inl ⟨rfl, fun w => run_str_eql _ _ _ _ _ (expS ks bs m) (expS ks bs m) true rfl rfl rfl (by simp) expS_byte expS_byte⟩) ?_
              simp only [Act.put, List.setIfInBounds_toArray, List.set_cons_zero, List.set_cons_succ]
              refine wpAny_take (i := 11) (oi := ⟨some 61, _, _, _, _, _⟩) (v := (.bool true)) rfl (by kernel_rfl) (by kernel_rfl) (by kernel_rfl) (fun _ _ _ h => h) (Or.inl ⟨rfl, fun w => by kernel_rfl⟩) ?_
              simp only [Act.put, List.setIfInBounds_toArray, List.set_cons_zero, List.set_cons_succ]
              refine wpAny_take (i := 12) (oi := ⟨some 62, _, _, _, _, _⟩) (v := (.bool true)) rfl (by kernel_rfl) (by kernel_rfl) (by kernel_rfl) (fun _ _ _ h => h) (Or.inl ⟨rfl, fun w => by kernel_rfl⟩) ?_
              simp only [Act.put, List.setIfInBounds_toArray, List.set_cons_zero, List.set_cons_succ]
              refine wpAny_take (i := 13) (oi := ⟨some 63, _, _, _, _, _⟩) (v := (.slice (some ⟨g9, 0, none⟩) 32 32)) rfl (by kernel_rfl) (by kernel_rfl) (by kernel_rfl) (fun _ _ _ h => h) (Or.inl ⟨rfl, fun w => by kernel_rfl⟩) ?_
              simp only [Act.put, List.setIfInBounds_toArray, List.set_cons_zero, List.set_cons_succ]
              refine wpAny_take (i := 16) (oi := ⟨some 66, _, _, _, _, _⟩) (v := (.slice a n c)) rfl (by kernel_rfl) (by kernel_rfl) (by kernel_rfl) (fun _ _ _ h => h) (Or.inl ⟨rfl, fun w => by kernel_rfl⟩) ?_
              simp only [Act.put, List.setIfInBounds_toArray, List.set_cons_zero, List.set_cons_succ]
              refine wpAny_all (rs := [14, 15]) (by kernel_rfl) (by simp) ?_
              intro i hi
              simp only [List.mem_cons, List.not_mem_nil, or_false] at hi
              rcases hi with rfl | rfl
              · refine op_val (o := ⟨some 64, _, _, _, _, _⟩) (.string (strOfNums (expS ks bs 32))) rfl rfl (run_conv_str _ _ _ _ _ _ _ (expS ks bs 32) rfl rfl (by rw [exp32]; exact (sl_blk Fz35.out.2.2.2.1 (macS_len _ _) (macS_byte _ _) (by omega)).1)) ?_
                simp only [Act.put, List.setIfInBounds_toArray, List.set_cons_zero, List.set_cons_succ]
                refine wpAny_all (rs := [15]) (by kernel_rfl) (by simp) ?_
                intro i hi
                simp only [List.mem_cons, List.not_mem_nil, or_false] at hi
                subst hi
                refine op_val (o := ⟨some 65, _, _, _, _, _⟩) (.agg (u8l ks).toArray) rfl rfl (run_load_mid _ _ _ 26 _ rfl g3 0 rfl (u8l ks) _ (blk_range Fz35.out.2.1) Tryd.underlying26 rfl (by rw [u8l_len, HKL.out]; kernel_rfl)) ?_
                simp only [Act.put, List.setIfInBounds_toArray, List.set_cons_zero, List.set_cons_succ]
                refine wpAny_all (rs := [17]) (by kernel_rfl) (by simp) ?_
                intro i hi
                simp only [List.mem_cons, List.not_mem_nil, or_false] at hi
                subst hi
                refine op_call (o := ⟨some 67, _, _, _, _, _⟩) 20 #[.agg (u8l ks).toArray, .slice a n c, .int .i64 32] rfl rfl (by kernel_rfl) (((refexpand_any z35 ks HKL.out HKB.out a n c bs (HS.out.below (by rw [G3.out]; exact Fz35.out.1)) (by have := HL.out; omega) 32 (by omega) (HW.out.below (by rw [G3.out]; exact Fz35.out.1)))).mono fun e z40 ⟨az40, cz40, he, sz40, qz40⟩ => ⟨.slice az40 32 cz40, he, ?_⟩)
                simp only [Act.put, List.setIfInBounds_toArray, List.set_cons_zero, List.set_cons_succ]
                have Fz40 := Lib.hid (show Below g3 w z40 ∧ Blk z40 g3 26 (u8l ks).toArray ∧ Sl z40 (some ⟨gx, 0, none⟩) m m (expS ks bs m) ∧ Blk z40 g9 26 (u8l (macS ks (bs ++ [1]))).toArray ∧ Sl z40 az35 m cz35 (expS ks bs m) ∧ Sl z40 az40 32 cz40 (expS ks bs 32) from ⟨Fz35.out.1.trans (qz40.mono (by have := (Fz35.out.2.1).lt; omega)), Fz35.out.2.1.below qz40, Fz35.out.2.2.1.below qz40, Fz35.out.2.2.2.1.below qz40, Fz35.out.2.2.2.2.below qz40, sz40⟩)
                clear qz40
                refine wpAny_all (rs := [18]) (by kernel_rfl) (by simp) ?_
                intro i hi
                simp only [List.mem_cons, List.not_mem_nil, or_false] at hi
                subst hi
                refine op_val (o := ⟨some 68, _, _, _, _, _⟩) (.string (strOfNums (expS ks bs 32))) rfl rfl (run_conv_str _ _ _ _ _ _ _ (expS ks bs 32) rfl rfl Fz40.out.2.2.2.2.2.1) ?_
                simp only [Act.put, List.setIfInBounds_toArray, List.set_cons_zero, List.set_cons_succ]
                refine wpAny_take (i := 19) (oi := ⟨some 69, _, _, _, _, _⟩) (v := (.bool true)) rfl (by kernel_rfl) (by kernel_rfl) (by kernel_rfl) (fun _ _ _ h => h) (Or.inl ⟨rfl, fun w => run_str_eql _ _ _ _ _ (expS ks bs 32) (expS ks bs 32) true rfl rfl rfl (by simp) expS_byte expS_byte⟩) ?_
                simp only [Act.put, List.setIfInBounds_toArray, List.set_cons_zero, List.set_cons_succ]
                refine wpAny_take (i := 20) (oi := ⟨some 70, _, _, _, _, _⟩) (v := (.bool true)) rfl (by kernel_rfl) (by kernel_rfl) (by kernel_rfl) (fun _ _ _ h => h) (Or.inl ⟨rfl, fun w => by kernel_rfl⟩) ?_
                simp only [Act.put, List.setIfInBounds_toArray, List.set_cons_zero, List.set_cons_succ]
                refine wpAny_take (i := 21) (oi := ⟨some 6, _, _, _, _, _⟩) (v := (.bool true)) rfl (by kernel_rfl) (by kernel_rfl) (by kernel_rfl) (fun _ _ _ h => h) (Or.inl ⟨rfl, fun w => by kernel_rfl⟩) ?_
                simp only [Act.put, List.setIfInBounds_toArray, List.set_cons_zero, List.set_cons_succ]
                refine wpAny_done (by kernel_rfl) ?_ _
                go_wp2_with fail
                go_ret
                exact ⟨rfl, by rw [G3.out]; exact Fz40.out.1⟩
              · refine op_val (o := ⟨some 65, _, _, _, _, _⟩) (.agg (u8l ks).toArray) rfl rfl (run_load_mid _ _ _ 26 _ rfl g3 0 rfl (u8l ks) _ (blk_range Fz35.out.2.1) Tryd.underlying26 rfl (by rw [u8l_len, HKL.out]; kernel_rfl)) ?_
                simp only [Act.put, List.setIfInBounds_toArray, List.set_cons_zero, List.set_cons_succ]
                refine wpAny_all (rs := [14, 17]) (by kernel_rfl) (by simp) ?_
                intro i hi
                simp only [List.mem_cons, List.not_mem_nil, or_false] at hi
                rcases hi with rfl | rfl
                · refine op_val (o := ⟨some 64, _, _, _, _, _⟩) (.string (strOfNums (expS ks bs 32))) rfl rfl (run_conv_str _ _ _ _ _ _ _ (expS ks bs 32) rfl rfl (by rw [exp32]; exact (sl_blk Fz35.out.2.2.2.1 (macS_len _ _) (macS_byte _ _) (by omega)).1)) ?_
                  simp only [Act.put, List.setIfInBounds_toArray, List.set_cons_zero, List.set_cons_succ]
                  refine wpAny_all (rs := [17]) (by kernel_rfl) (by simp) ?_
                  intro i hi
                  simp only [List.mem_cons, List.not_mem_nil, or_false] at hi
                  subst hi
                  refine op_call (o := ⟨some 67, _, _, _, _, _⟩) 20 #[.agg (u8l ks).toArray, .slice a n c, .int .i64 32] rfl rfl (by kernel_rfl) (((refexpand_any z35 ks HKL.out HKB.out a n c bs (HS.out.below (by rw [G3.out]; exact Fz35.out.1)) (by have := HL.out; omega) 32 (by omega) (HW.out.below (by rw [G3.out]; exact Fz35.out.1)))).mono fun e z44 ⟨az44, cz44, he, sz44, qz44⟩ => ⟨.slice az44 32 cz44, he, ?_⟩)
                  simp only [Act.put, List.setIfInBounds_toArray, List.set_cons_zero, List.set_cons_succ]
                  have Fz44 := Lib.hid (show Below g3 w z44 ∧ Blk z44 g3 26 (u8l ks).toArray ∧ Sl z44 (some ⟨gx, 0, none⟩) m m (expS ks bs m) ∧ Blk z44 g9 26 (u8l (macS ks (bs ++ [1]))).toArray ∧ Sl z44 az35 m cz35 (expS ks bs m) ∧ Sl z44 az44 32 cz44 (expS ks bs 32) from ⟨Fz35.out.1.trans (qz44.mono (by have := (Fz35.out.2.1).lt; omega)), Fz35.out.2.1.below qz44, Fz35.out.2.2.1.below qz44, Fz35.out.2.2.2.1.below qz44, Fz35.out.2.2.2.2.below qz44, sz44⟩)
                  clear qz44
                  refine wpAny_all (rs := [18]) (by kernel_rfl) (by simp) ?_
                  intro i hi
                  simp only [List.mem_cons, List.not_mem_nil, or_false] at hi
                  subst hi
                  refine op_val (o := ⟨some 68, _, _, _, _, _⟩) (.string (strOfNums (expS ks bs 32))) rfl rfl (run_conv_str _ _ _ _ _ _ _ (expS ks bs 32) rfl rfl Fz44.out.2.2.2.2.2.1) ?_
                  simp only [Act.put, List.setIfInBounds_toArray, List.set_cons_zero, List.set_cons_succ]
                  refine wpAny_take (i := 19) (oi := ⟨some 69, _, _, _, _, _⟩) (v := (.bool true)) rfl (by kernel_rfl) (by kernel_rfl) (by kernel_rfl) (fun _ _ _ h => h) (Or.inl ⟨rfl, fun w => run_str_eql _ _ _ _ _ (expS ks bs 32) (expS ks bs 32) true rfl rfl rfl (by simp) expS_byte expS_byte⟩) ?_
                  simp only [Act.put, List.setIfInBounds_toArray, List.set_cons_zero, List.set_cons_succ]
                  refine wpAny_take (i := 20) (oi := ⟨some 70, _, _, _, _, _⟩) (v := (.bool true)) rfl (by kernel_rfl) (by kernel_rfl) (by kernel_rfl) (fun _ _ _ h => h) (Or.inl ⟨rfl, fun w => by kernel_rfl⟩) ?_
                  simp only [Act.put, List.setIfInBounds_toArray, List.set_cons_zero, List.set_cons_succ]
                  refine wpAny_take (i := 21) (oi := ⟨some 6, _, _, _, _, _⟩) (v := (.bool true)) rfl (by kernel_rfl) (by kernel_rfl) (by kernel_rfl) (fun _ _ _ h => h) (Or.inl ⟨rfl, fun w => by kernel_rfl⟩) ?_
                  simp only [Act.put, List.setIfInBounds_toArray, List.set_cons_zero, List.set_cons_succ]
                  refine wpAny_done (by kernel_rfl) ?_ _
                  go_wp2_with fail
                  go_ret
                  exact ⟨rfl, by rw [G3.out]; exact Fz44.out.1⟩
                · refine op_call (o := ⟨some 67, _, _, _, _, _⟩) 20 #[.agg (u8l ks).toArray, .slice a n c, .int .i64 32] rfl rfl (by kernel_rfl) (((refexpand_any z35 ks HKL.out HKB.out a n c bs (HS.out.below (by rw [G3.out]; exact Fz35.out.1)) (by have := HL.out; omega) 32 (by omega) (HW.out.below (by rw [G3.out]; exact Fz35.out.1)))).mono fun e z46 ⟨az46, cz46, he, sz46, qz46⟩ => ⟨.slice az46 32 cz46, he, ?_⟩)
                  simp only [Act.put, List.setIfInBounds_toArray, List.set_cons_zero, List.set_cons_succ]
                  have Fz46 := Lib.hid (show Below g3 w z46 ∧ Blk z46 g3 26 (u8l ks).toArray ∧ Sl z46 (some ⟨gx, 0, none⟩) m m (expS ks bs m) ∧ Blk z46 g9 26 (u8l (macS ks (bs ++ [1]))).toArray ∧ Sl z46 az35 m cz35 (expS ks bs m) ∧ Sl z46 az46 32 cz46 (expS ks bs 32) from ⟨Fz35.out.1.trans (qz46.mono (by have := (Fz35.out.2.1).lt; omega)), Fz35.out.2.1.below qz46, Fz35.out.2.2.1.below qz46, Fz35.out.2.2.2.1.below qz46, Fz35.out.2.2.2.2.below qz46, sz46⟩)
                  clear qz46
                  refine wpAny_all (rs := [14, 18]) (by kernel_rfl) (by simp) ?_
                  intro i hi
                  simp only [List.mem_cons, List.not_mem_nil, or_false] at hi
                  rcases hi with rfl | rfl
                  · refine op_val (o := ⟨some 64, _, _, _, _, _⟩) (.string (strOfNums (expS ks bs 32))) rfl rfl (run_conv_str _ _ _ _ _ _ _ (expS ks bs 32) rfl rfl (by rw [exp32]; exact (sl_blk Fz46.out.2.2.2.1 (macS_len _ _) (macS_byte _ _) (by omega)).1)) ?_
                    simp only [Act.put, List.setIfInBounds_toArray, List.set_cons_zero, List.set_cons_succ]
                    refine wpAny_all (rs := [18]) (by kernel_rfl) (by simp) ?_
                    intro i hi
                    simp only [List.mem_cons, List.not_mem_nil, or_false] at hi
                    subst hi
                    refine op_val (o := ⟨some 68, _, _, _, _, _⟩) (.string (strOfNums (expS ks bs 32))) rfl rfl (run_conv_str _ _ _ _ _ _ _ (expS ks bs 32) rfl rfl Fz46.out.2.2.2.2.2.1) ?_
                    simp only [Act.put, List.setIfInBounds_toArray, List.set_cons_zero, List.set_cons_succ]
                    refine wpAny_take (i := 19) (oi := ⟨some 69, _, _, _, _, _⟩) (v := (.bool true)) rfl (by kernel_rfl) (by kernel_rfl) (by kernel_rfl) (fun _ _ _ h => h) (Or.inl ⟨rfl, fun w => run_str_eql _ _ _ _ _ (expS ks bs 32) (expS ks bs 32) true rfl rfl rfl (by simp) expS_byte expS_byte⟩) ?_
                    simp only [Act.put, List.setIfInBounds_toArray, List.set_cons_zero, List.set_cons_succ]
                    refine wpAny_take (i := 20) (oi := ⟨some 70, _, _, _, _, _⟩) (v := (.bool true)) rfl (by kernel_rfl) (by kernel_rfl) (by kernel_rfl) (fun _ _ _ h => h) (Or.inl ⟨rfl, fun w => by kernel_rfl⟩) ?_
                    simp only [Act.put, List.setIfInBounds_toArray, List.set_cons_zero, List.set_cons_succ]
                    refine wpAny_take (i := 21) (oi := ⟨some 6, _, _, _, _, _⟩) (v := (.bool true)) rfl (by kernel_rfl) (by kernel_rfl) (by kernel_rfl) (fun _ _ _ h => h) (Or.inl ⟨rfl, fun w => by kernel_rfl⟩) ?_
                    simp only [Act.put, List.setIfInBounds_toArray, List.set_cons_zero, List.set_cons_succ]
                    refine wpAny_done (by kernel_rfl) ?_ _
                    go_wp2_with fail
                    go_ret
                    exact ⟨rfl, by rw [G3.out]; exact Fz46.out.1⟩
                  · refine op_val (o := ⟨some 68, _, _, _, _, _⟩) (.string (strOfNums (expS ks bs 32))) rfl rfl (run_conv_str _ _ _ _ _ _ _ (expS ks bs 32) rfl rfl Fz46.out.2.2.2.2.2.1) ?_
                    simp only [Act.put, List.setIfInBounds_toArray, List.set_cons_zero, List.set_cons_succ]
                    refine wpAny_all (rs := [14]) (by kernel_rfl) (by simp) ?_
                    intro i hi
                    simp only [List.mem_cons, List.not_mem_nil, or_false] at hi
                    subst hi
                    refine op_val (o := ⟨some 64, _, _, _, _, _⟩) (.string (strOfNums (expS ks bs 32))) rfl rfl (run_conv_str _ _ _ _ _ _ _ (expS ks bs 32) rfl rfl (by rw [exp32]; exact (sl_blk Fz46.out.2.2.2.1 (macS_len _ _) (macS_byte _ _) (by omega)).1)) ?_
                    simp only [Act.put, List.setIfInBounds_toArray, List.set_cons_zero, List.set_cons_succ]
                    refine wpAny_take (i := 19) (oi := ⟨some 69, _, _, _, _, _⟩) (v := (.bool true)) rfl (by kernel_rfl) (by kernel_rfl) (by kernel_rfl) (fun _ _ _ h => h) (Or.inl ⟨rfl, fun w => run_str_eql _ _ _ _ _ (expS ks bs 32) (expS ks bs 32) true rfl rfl rfl (by simp) expS_byte expS_byte⟩) ?_
                    simp only [Act.put, List.setIfInBounds_toArray, List.set_cons_zero, List.set_cons_succ]
                    refine wpAny_take (i := 20) (oi := ⟨some 70, _, _, _, _, _⟩) (v := (.bool true)) rfl (by kernel_rfl) (by kernel_rfl) (by kernel_rfl) (fun _ _ _ h => h) (Or.inl ⟨rfl, fun w => by kernel_rfl⟩) ?_
                    simp only [Act.put, List.setIfInBounds_toArray, List.set_cons_zero, List.set_cons_succ]
                    refine wpAny_take (i := 21) (oi := ⟨some 6, _, _, _, _, _⟩) (v := (.bool true)) rfl (by kernel_rfl) (by kernel_rfl) (by kernel_rfl) (fun _ _ _ h => h) (Or.inl ⟨rfl, fun w => by kernel_rfl⟩) ?_
                    simp only [Act.put, List.setIfInBounds_toArray, List.set_cons_zero, List.set_cons_succ]
                    refine wpAny_done (by kernel_rfl) ?_ _
                    go_wp2_with fail
                    go_ret
                    exact ⟨rfl, by rw [G3.out]; exact Fz46.out.1⟩
            · refine op_val (o := ⟨some 59, _, _, _, _, _⟩) (.string (strOfNums (expS ks bs m))) rfl rfl (run_conv_str _ _ _ _ _ _ _ (expS ks bs m) rfl rfl Fz35.out.2.2.2.2.1) ?_
              simp only [Act.put, List.setIfInBounds_toArray, List.set_cons_zero, List.set_cons_succ]
              refine wpAny_all (rs := [4]) (by kernel_rfl) (by simp) ?_
              intro i hi
              simp only [List.mem_cons, List.not_mem_nil, or_false] at hi
              subst hi
              refine op_val (o := ⟨some 54, _, _, _, _, _⟩) (.string (strOfNums (expS ks bs m))) rfl rfl (run_conv_str _ _ _ _ _ _ _ (expS ks bs m) rfl rfl Fz35.out.2.2.1.1) ?_
              simp only [Act.put, List.setIfInBounds_toArray, List.set_cons_zero, List.set_cons_succ]
              refine wpAny_take (i := 10) (oi := ⟨some 60, _, _, _, _, _⟩) (v := (.bool true)) rfl (by kernel_rfl) (by kernel_rfl) (by kernel_rfl) (fun _ _ _ h => h) (Or.inl ⟨rfl, fun w => run_str_eql _ _ _ _ _ (expS ks bs m) (expS ks bs m) true rfl rfl rfl (by simp) expS_byte expS_byte⟩) ?_
              simp only [Act.put, List.setIfInBounds_toArray, List.set_cons_zero, List.set_cons_succ]
              refine wpAny_take (i := 11) (oi := ⟨some 61, _, _, _, _, _⟩) (v := (.bool true)) rfl (by kernel_rfl) (by kernel_rfl) (by kernel_rfl) (fun _ _ _ h => h) (Or.inl ⟨rfl, fun w => by kernel_rfl⟩) ?_
              simp only [Act.put, List.setIfInBounds_toArray, List.set_cons_zero, List.set_cons_succ]
              refine wpAny_take (i := 12) (oi := ⟨some 62, _, _, _, _, _⟩) (v := (.bool true)) rfl (by kernel_rfl) (by kernel_rfl) (by kernel_rfl) (fun _ _ _ h => h) (Or.inl ⟨rfl, fun w => by kernel_rfl⟩) ?_
              simp only [Act.put, List.setIfInBounds_toArray, List.set_cons_zero, List.set_cons_succ]
              refine wpAny_take (i := 13) (oi := ⟨some 63, _, _, _, _, _⟩) (v := (.slice (some ⟨g9, 0, none⟩) 32 32)) rfl (by kernel_rfl) (by kernel_rfl) (by kernel_rfl) (fun _ _ _ h => h) (Or.inl ⟨rfl, fun w => by kernel_rfl⟩) ?_
              simp only [Act.put, List.setIfInBounds_toArray, List.set_cons_zero, List.set_cons_succ]
              refine wpAny_take (i := 16) (oi := ⟨some 66, _, _, _, _, _⟩) (v := (.slice a n c)) rfl (by kernel_rfl) (by kernel_rfl) (by kernel_rfl) (fun _ _ _ h => h) (Or.inl ⟨rfl, fun w => by kernel_rfl⟩) ?_
              simp only [Act.put, List.setIfInBounds_toArray, List.set_cons_zero, List.set_cons_succ]
              refine wpAny_all (rs := [14, 15]) (by kernel_rfl) (by simp) ?_
              intro i hi
              simp only [List.mem_cons, List.not_mem_nil, or_false] at hi
              rcases hi with rfl | rfl
              · refine op_val (o := ⟨some 64, _, _, _, _, _⟩) (.string (strOfNums (expS ks bs 32))) rfl rfl (run_conv_str _ _ _ _ _ _ _ (expS ks bs 32) rfl rfl (by rw [exp32]; exact (sl_blk Fz35.out.2.2.2.1 (macS_len _ _) (macS_byte _ _) (by omega)).1)) ?_
                simp only [Act.put, List.setIfInBounds_toArray, List.set_cons_zero, List.set_cons_succ]
                refine wpAny_all (rs := [15]) (by kernel_rfl) (by simp) ?_
                intro i hi
                simp only [List.mem_cons, List.not_mem_nil, or_false] at hi
                subst hi
                refine op_val (o := ⟨some 65, _, _, _, _, _⟩) (.agg (u8l ks).toArray) rfl rfl (run_load_mid _ _ _ 26 _ rfl g3 0 rfl (u8l ks) _ (blk_range Fz35.out.2.1) Tryd.underlying26 rfl (by rw [u8l_len, HKL.out]; kernel_rfl)) ?_
                simp only [Act.put, List.setIfInBounds_toArray, List.set_cons_zero, List.set_cons_succ]
                refine wpAny_all (rs := [17]) (by kernel_rfl) (by simp) ?_
                intro i hi
                simp only [List.mem_cons, List.not_mem_nil, or_false] at hi
                subst hi
                refine op_call (o := ⟨some 67, _, _, _, _, _⟩) 20 #[.agg (u8l ks).toArray, .slice a n c, .int .i64 32] rfl rfl (by kernel_rfl) (((refexpand_any z35 ks HKL.out HKB.out a n c bs (HS.out.below (by rw [G3.out]; exact Fz35.out.1)) (by have := HL.out; omega) 32 (by omega) (HW.out.below (by rw [G3.out]; exact Fz35.out.1)))).mono fun e z55 ⟨az55, cz55, he, sz55, qz55⟩ => ⟨.slice az55 32 cz55, he, ?_⟩)
                simp only [Act.put, List.setIfInBounds_toArray, List.set_cons_zero, List.set_cons_succ]
                have Fz55 := Lib.hid (show Below g3 w z55 ∧ Blk z55 g3 26 (u8l ks).toArray ∧ Sl z55 (some ⟨gx, 0, none⟩) m m (expS ks bs m) ∧ Blk z55 g9 26 (u8l (macS ks (bs ++ [1]))).toArray ∧ Sl z55 az35 m cz35 (expS ks bs m) ∧ Sl z55 az55 32 cz55 (expS ks bs 32) from ⟨Fz35.out.1.trans (qz55.mono (by have := (Fz35.out.2.1).lt; omega)), Fz35.out.2.1.below qz55, Fz35.out.2.2.1.below qz55, Fz35.out.2.2.2.1.below qz55, Fz35.out.2.2.2.2.below qz55, sz55⟩)
                clear qz55
                refine wpAny_all (rs := [18]) (by kernel_rfl) (by simp) ?_
                intro i hi
                simp only [List.mem_cons, List.not_mem_nil, or_false] at hi
                subst hi
                refine op_val (o := ⟨some 68, _, _, _, _, _⟩) (.string (strOfNums (expS ks bs 32))) rfl rfl (run_conv_str _ _ _ _ _ _ _ (expS ks bs 32) rfl rfl Fz55.out.2.2.2.2.2.1) ?_
                simp only [Act.put, List.setIfInBounds_toArray, List.set_cons_zero, List.set_cons_succ]
                refine wpAny_take (i := 19) (oi := ⟨some 69, _, _, _, _, _⟩) (v := (.bool true)) rfl (by kernel_rfl) (by kernel_rfl) (by kernel_rfl) (fun _ _ _ h => h) (Or.inl ⟨rfl, fun w => run_str_eql _ _ _ _ _ (expS ks bs 32) (expS ks bs 32) true rfl rfl rfl (by simp) expS_byte expS_byte⟩) ?_
                simp only [Act.put, List.setIfInBounds_toArray, List.set_cons_zero, List.set_cons_succ]
                refine wpAny_take (i := 20) (oi := ⟨some 70, _, _, _, _, _⟩) (v := (.bool true)) rfl (by kernel_rfl) (by kernel_rfl) (by kernel_rfl) (fun _ _ _ h => h) (Or.inl ⟨rfl, fun w => by kernel_rfl⟩) ?_
                simp only [Act.put, List.setIfInBounds_toArray, List.set_cons_zero, List.set_cons_succ]
                refine wpAny_take (i := 21) (oi := ⟨some 6, _, _, _, _, _⟩) (v := (.bool true)) rfl (by kernel_rfl) (by kernel_rfl) (by kernel_rfl) (fun _ _ _ h => h) (Or.inl ⟨rfl, fun w => by kernel_rfl⟩) ?_
                simp only [Act.put, List.setIfInBounds_toArray, List.set_cons_zero, List.set_cons_succ]
                refine wpAny_done (by kernel_rfl) ?_ _
                go_wp2_with fail
                go_ret
                exact ⟨rfl, by rw [G3.out]; exact Fz55.out.1⟩
              · refine op_val (o := ⟨some 65, _, _, _, _, _⟩) (.agg (u8l ks).toArray) rfl rfl (run_load_mid _ _ _ 26 _ rfl g3 0 rfl (u8l ks) _ (blk_range Fz35.out.2.1) Tryd.underlying26 rfl (by rw [u8l_len, HKL.out]; kernel_rfl)) ?_
                simp only [Act.put, List.setIfInBounds_toArray, List.set_cons_zero, List.set_cons_succ]
                refine wpAny_all (rs := [14, 17]) (by kernel_rfl) (by simp) ?_
                intro i hi
                simp only [List.mem_cons, List.not_mem_nil, or_false] at hi
                rcases hi with rfl | rfl
                · refine op_val (o := ⟨some 64, _, _, _, _, _⟩) (.string (strOfNums (expS ks bs 32))) rfl rfl (run_conv_str _ _ _ _ _ _ _ (expS ks bs 32) rfl rfl (by rw [exp32]; exact (sl_blk Fz35.out.2.2.2.1 (macS_len _ _) (macS_byte _ _) (by omega)).1)) ?_
                  simp only [Act.put, List.setIfInBounds_toArray, List.set_cons_zero, List.set_cons_succ]
                  refine wpAny_all (rs := [17]) (by kernel_rfl) (by simp) ?_
                  intro i hi
                  simp only [List.mem_cons, List.not_mem_nil, or_false] at hi
                  subst hi
                  refine op_call (o := ⟨some 67, _, _, _, _, _⟩) 20 #[.agg (u8l ks).toArray, .slice a n c, .int .i64 32] rfl rfl (by kernel_rfl) (((refexpand_any z35 ks HKL.out HKB.out a n c bs (HS.out.below (by rw [G3.out]; exact Fz35.out.1)) (by have := HL.out; omega) 32 (by omega) (HW.out.below (by rw [G3.out]; exact Fz35.out.1)))).mono fun e z59 ⟨az59, cz59, he, sz59, qz59⟩ => ⟨.slice az59 32 cz59, he, ?_⟩)
                  simp only [Act.put, List.setIfInBounds_toArray, List.set_cons_zero, List.set_cons_succ]
                  have Fz59 := Lib.hid (show Below g3 w z59 ∧ Blk z59 g3 26 (u8l ks).toArray ∧ Sl z59 (some ⟨gx, 0, none⟩) m m (expS ks bs m) ∧ Blk z59 g9 26 (u8l (macS ks (bs ++ [1]))).toArray ∧ Sl z59 az35 m cz35 (expS ks bs m) ∧ Sl z59 az59 32 cz59 (expS ks bs 32) from ⟨Fz35.out.1.trans (qz59.mono (by have := (Fz35.out.2.1).lt; omega)), Fz35.out.2.1.below qz59, Fz35.out.2.2.1.below qz59, Fz35.out.2.2.2.1.below qz59, Fz35.out.2.2.2.2.below qz59, sz59⟩)
                  clear qz59
                  refine wpAny_all (rs := [18]) (by kernel_rfl) (by simp) ?_
                  intro i hi
                  simp only [List.mem_cons, List.not_mem_nil, or_false] at hi
                  subst hi
                  refine op_val (o := ⟨some 68, _, _, _, _, _⟩) (.string (strOfNums (expS ks bs 32))) rfl rfl (run_conv_str _ _ _ _ _ _ _ (expS ks bs 32) rfl rfl Fz59.out.2.2.2.2.2.1) ?_
                  simp only [Act.put, List.setIfInBounds_toArray, List.set_cons_zero, List.set_cons_succ]
                  refine wpAny_take (i := 19) (oi := ⟨some 69, _, _, _, _, _⟩) (v := (.bool true)) rfl (by kernel_rfl) (by kernel_rfl) (by kernel_rfl) (fun _ _ _ h => h) (Or.inl ⟨rfl, fun w => run_str_eql _ _ _ _ _ (expS ks bs 32) (expS ks bs 32) true rfl rfl rfl (by simp) expS_byte expS_byte⟩) ?_
                  simp only [Act.put, List.setIfInBounds_toArray, List.set_cons_zero, List.set_cons_succ]
                  refine wpAny_take (i := 20) (oi := ⟨some 70, _, _, _, _, _⟩) (v := (.bool true)) rfl (by kernel_rfl) (by kernel_rfl) (by kernel_rfl) (fun _ _ _ h => h) (Or.inl ⟨rfl, fun w => by kernel_rfl⟩) ?_
                  simp only [Act.put, List.setIfInBounds_toArray, List.set_cons_zero, List.set_cons_succ]
                  refine wpAny_take (i := 21) (oi := ⟨some 6, _, _, _, _, _⟩) (v := (.bool true)) rfl (by kernel_rfl) (by kernel_rfl) (by kernel_rfl) (fun _ _ _ h => h) (Or.inl ⟨rfl, fun w => by kernel_rfl⟩) ?_
                  simp only [Act.put, List.setIfInBounds_toArray, List.set_cons_zero, List.set_cons_succ]
                  refine wpAny_done (by kernel_rfl) ?_ _
                  go_wp2_with fail
                  go_ret
                  exact ⟨rfl, by rw [G3.out]; exact Fz59.out.1⟩
                · refine op_call (o := ⟨some 67, _, _, _, _, _⟩) 20 #[.agg (u8l ks).toArray, .slice a n c, .int .i64 32] rfl rfl (by kernel_rfl) (((refexpand_any z35 ks HKL.out HKB.out a n c bs (HS.out.below (by rw [G3.out]; exact Fz35.out.1)) (by have := HL.out; omega) 32 (by omega) (HW.out.below (by rw [G3.out]; exact Fz35.out.1)))).mono fun e z61 ⟨az61, cz61, he, sz61, qz61⟩ => ⟨.slice az61 32 cz61, he, ?_⟩)
                  simp only [Act.put, List.setIfInBounds_toArray, List.set_cons_zero, List.set_cons_succ]
                  have Fz61 := Lib.hid (show Below g3 w z61 ∧ Blk z61 g3 26 (u8l ks).toArray ∧ Sl z61 (some ⟨gx, 0, none⟩) m m (expS ks bs m) ∧ Blk z61 g9 26 (u8l (macS ks (bs ++ [1]))).toArray ∧ Sl z61 az35 m cz35 (expS ks bs m) ∧ Sl z61 az61 32 cz61 (expS ks bs 32) from ⟨Fz35.out.1.trans (qz61.mono (by have := (Fz35.out.2.1).lt; omega)), Fz35.out.2.1.below qz61, Fz35.out.2.2.1.below qz61, Fz35.out.2.2.2.1.below qz61, Fz35.out.2.2.2.2.below qz61, sz61⟩)
                  clear qz61
                  refine wpAny_all (rs := [14, 18]) (by kernel_rfl) (by simp) ?_
                  intro i hi
                  simp only [List.mem_cons, List.not_mem_nil, or_false] at hi
                  rcases hi with rfl | rfl
                  · refine op_val (o := ⟨some 64, _, _, _, _, _⟩) (.string (strOfNums (expS ks bs 32))) rfl rfl (run_conv_str _ _ _ _ _ _ _ (expS ks bs 32) rfl rfl (by rw [exp32]; exact (sl_blk Fz61.out.2.2.2.1 (macS_len _ _) (macS_byte _ _) (by omega)).1)) ?_
                    simp only [Act.put, List.setIfInBounds_toArray, List.set_cons_zero, List.set_cons_succ]
                    refine wpAny_all (rs := [18]) (by kernel_rfl) (by simp) ?_
                    intro i hi
                    simp only [List.mem_cons, List.not_mem_nil, or_false] at hi
                    subst hi
                    refine op_val (o := ⟨some 68, _, _, _, _, _⟩) (.string (strOfNums (expS ks bs 32))) rfl rfl (run_conv_str _ _ _ _ _ _ _ (expS ks bs 32) rfl rfl Fz61.out.2.2.2.2.2.1) ?_
                    simp only [Act.put, List.setIfInBounds_toArray, List.set_cons_zero, List.set_cons_succ]
                    refine wpAny_take (i := 19) (oi := ⟨some 69, _, _, _, _, _⟩) (v := (.bool true)) rfl (by kernel_rfl) (by kernel_rfl) (by kernel_rfl) (fun _ _ _ h => h) (Or.inl ⟨rfl, fun w => run_str_eql _ _ _ _ _ (expS ks bs 32) (expS ks bs 32) true rfl rfl rfl (by simp) expS_byte expS_byte⟩) ?_
                    simp only [Act.put, List.setIfInBounds_toArray, List.set_cons_zero, List.set_cons_succ]
                    refine wpAny_take (i := 20) (oi := ⟨some 70, _, _, _, _, _⟩) (v := (.bool true)) rfl (by kernel_rfl) (by kernel_rfl) (by kernel_rfl) (fun _ _ _ h => h) (Or.inl ⟨rfl, fun w => by kernel_rfl⟩) ?_
                    simp only [Act.put, List.setIfInBounds_toArray, List.set_cons_zero, List.set_cons_succ]
                    refine wpAny_take (i := 21) (oi := ⟨some 6, _, _, _, _, _⟩) (v := (.bool true)) rfl (by kernel_rfl) (by kernel_rfl) (by kernel_rfl) (fun _ _ _ h => h) (Or.inl ⟨rfl, fun w => by kernel_rfl⟩) ?_
                    simp only [Act.put, List.setIfInBounds_toArray, List.set_cons_zero, List.set_cons_succ]
                    refine wpAny_done (by kernel_rfl) ?_ _
                    go_wp2_with fail
                    go_ret
                    exact ⟨rfl, by rw [G3.out]; exact Fz61.out.1⟩
                  · refine op_val (o := ⟨some 68, _, _, _, _, _⟩) (.string (strOfNums (expS ks bs 32))) rfl rfl (run_conv_str _ _ _ _ _ _ _ (expS ks bs 32) rfl rfl Fz61.out.2.2.2.2.2.1) ?_
                    simp only [Act.put, List.setIfInBounds_toArray, List.set_cons_zero, List.set_cons_succ]
                    refine wpAny_all (rs := [14]) (by kernel_rfl) (by simp) ?_
                    intro i hi
                    simp only [List.mem_cons, List.not_mem_nil, or_false] at hi
                    subst hi
                    refine op_val (o := ⟨some 64, _, _, _, _, _⟩) (.string (strOfNums (expS ks bs 32))) rfl rfl (run_conv_str _ _ _ _ _ _ _ (expS ks bs 32) rfl rfl (by rw [exp32]; exact (sl_blk Fz61.out.2.2.2.1 (macS_len _ _) (macS_byte _ _) (by omega)).1)) ?_
                    simp only [Act.put, List.setIfInBounds_toArray, List.set_cons_zero, List.set_cons_succ]
                    refine wpAny_take (i := 19) (oi := ⟨some 69, _, _, _, _, _⟩) (v := (.bool true)) rfl (by kernel_rfl) (by kernel_rfl) (by kernel_rfl) (fun _ _ _ h => h) (Or.inl ⟨rfl, fun w => run_str_eql _ _ _ _ _ (expS ks bs 32) (expS ks bs 32) true rfl rfl rfl (by simp) expS_byte expS_byte⟩) ?_
                    simp only [Act.put, List.setIfInBounds_toArray, List.set_cons_zero, List.set_cons_succ]
                    refine wpAny_take (i := 20) (oi := ⟨some 70, _, _, _, _, _⟩) (v := (.bool true)) rfl (by kernel_rfl) (by kernel_rfl) (by kernel_rfl) (fun _ _ _ h => h) (Or.inl ⟨rfl, fun w => by kernel_rfl⟩) ?_
                    simp only [Act.put, List.setIfInBounds_toArray, List.set_cons_zero, List.set_cons_succ]
                    refine wpAny_take (i := 21) (oi := ⟨some 6, _, _, _, _, _⟩) (v := (.bool true)) rfl (by kernel_rfl) (by kernel_rfl) (by kernel_rfl) (fun _ _ _ h => h) (Or.inl ⟨rfl, fun w => by kernel_rfl⟩) ?_
                    simp only [Act.put, List.setIfInBounds_toArray, List.set_cons_zero, List.set_cons_succ]
                    refine wpAny_done (by kernel_rfl) ?_ _
                    go_wp2_with fail
                    go_ret
                    exact ⟨rfl, by rw [G3.out]; exact Fz61.out.1⟩
  · have HL := Lib.hid hl
    clear hl
    refine wpL_pure (.bool true) rfl (run_gti Tryd.underlying3 rfl rfl rfl (by have := HL.out; rw [decide_eq_true_eq]; omega)) ?_
    simp only [Act.put, List.setIfInBounds_toArray, List.set_cons_zero, List.set_cons_succ]
    refine wpL_pure (.bool true) rfl (by kernel_rfl) ?_
    simp only [Act.put, List.setIfInBounds_toArray, List.set_cons_zero, List.set_cons_succ]
    refine wpL_pure (.bool true) rfl (by kernel_rfl) ?_
    simp only [Act.put, List.setIfInBounds_toArray, List.set_cons_zero, List.set_cons_succ]
    refine wpL_skip (by kernel_rfl) ?_
    simp only [Act.put, List.setIfInBounds_toArray, List.set_cons_zero, List.set_cons_succ]
    refine wpL_skip (by kernel_rfl) ?_
    simp only [Act.put, List.setIfInBounds_toArray, List.set_cons_zero, List.set_cons_succ]
    refine wpL_skip (by kernel_rfl) ?_
    simp only [Act.put, List.setIfInBounds_toArray, List.set_cons_zero, List.set_cons_succ]
    refine wpL_skip (by kernel_rfl) ?_
    simp only [Act.put, List.setIfInBounds_toArray, List.set_cons_zero, List.set_cons_succ]
    refine wpL_skip (by kernel_rfl) ?_
    simp only [Act.put, List.setIfInBounds_toArray, List.set_cons_zero, List.set_cons_succ]
    refine wpL_skip (by kernel_rfl) ?_
    simp only [Act.put, List.setIfInBounds_toArray, List.set_cons_zero, List.set_cons_succ]
    refine wpL_pure (.bool true) rfl (by kernel_rfl) ?_
    simp only [Act.put, List.setIfInBounds_toArray, List.set_cons_zero, List.set_cons_succ]
    go_upto_region 2 with (fail)
    refine wp_region_lit ?_
    refine wpL_call 10 #[] rfl (by kernel_rfl) (((awake_any w2 (HT.out.below (by rw [G3.out]; exact B2.out.2)) (HH.out.below (by rw [G3.out]; exact B2.out.2)))).mono fun e w3 ⟨he, hb⟩ => ⟨.bool true, he, ?_⟩)
    simp only [Act.put, List.setIfInBounds_toArray, List.set_cons_zero, List.set_cons_succ]
    have B3 : Hid (Below g3 w w3) := Lib.hid (B2.out.2.trans (hb.mono (by have := B2.out.1.lt; omega)))
    clear hb
    refine wpL_pure (.bool true) rfl (by kernel_rfl) ?_
    simp only [Act.put, List.setIfInBounds_toArray, List.set_cons_zero, List.set_cons_succ]
    go_wp2_with fail
    go_ret
    exact ⟨rfl, by rw [G3.out]; exact B3.out⟩
end Go.Proofs.YtggbmajajpafnaaDoor
