import Derived.Test.YteblaknbehfkgaaK13
namespace Go.Proofs.Yteblaknbehfkgaa
open Go Go.RowKit
attribute [local irreducible] wpList
set_option maxHeartbeats 4000000 in
theorem got0 (w : World) (q X : Nat) (a1 : Option Addr) (n1 c1 : Nat) (a : Option Addr) (n c : Nat) (xs : List Int) (h : Row w a n xs) (hc : n ≤ c) (hw : c < 9223372036854775808 ∧ (0 < c → ∀ p, a = some p → p.spot = none)) (hq : q < 256) (hX : X < 18446744073709551616) (hj : q % 4 = 0) :
    Calls Try.prog 15 #[.slice a n c, .agg #[.int .u8 (q : Int), .int .u64 (X : Int), .slice a1 n1 c1]] w (GotP w (gotO (q % 4) X xs)) := by
  have QL := Lib.hid hq
  have XL := Lib.hid hX
  have HN := Lib.hid h.1
  have NL := Lib.hid h.2.1
  have NC := Lib.hid hc
  have SP := Lib.hid hw
  obtain ⟨W0, hW0⟩ : ∃ V, V = w.alloc (.cells #[.int .u8 (q : Int), .int .u64 (X : Int), .slice a1 n1 c1] 35) := ⟨_, rfl⟩
  have HB : Hid (Blk W0 w.heap.size 35 #[.int .u8 (q : Int), .int .u64 (X : Int), .slice a1 n1 c1]) := Lib.hid (by rw [hW0]; exact Blk.new _ _ _)
  have GB : Hid (Below w.heap.size w W0 ∧ w.heap.size ≤ W0.heap.size) := Lib.hid (by rw [hW0]; exact ⟨(Below.refl _ _).alloc (Nat.le_refl _) _, by simp⟩)
  have HR : Hid (Row W0 a n xs) := Lib.hid (h.keep GB.out.1)
  obtain ⟨g1, hg1⟩ : ∃ q, w.heap.size = q := ⟨_, rfl⟩
  rw [hg1] at HB
  clear h hc hw hX hq
  have HQ : Hid (q % 4 = 0) := Lib.hid hj
  clear hj
  rcases numO_cases xs HN.out with hne | ⟨x, s, hne, hxs⟩
  · have NE := Lib.hid hne
    clear hne
    have RT := Lib.hid (reftake_any W0 a n c xs HR.out NC.out SP.out)
    rw [NE.out] at RT
    have RS : Hid (gotO (q % 4) X xs = none) := Lib.hid (by unfold gotO numT; rw [if_pos HQ.out]; rw [NE.out])
    go_enter Try.func15, Try.ntmps15
    go_upto_region 1 with (fail)
    try rw [← hW0]
    try rw [hg1]
    clear hW0 hg1
    refine wp_region_lit ?_
    refine wpL_pure (.pointer (some ⟨g1, 0, none⟩)) rfl (by kernel_rfl) ?_
    simp only [Act.put, List.setIfInBounds_toArray, List.set_cons_zero, List.set_cons_succ]
    refine wpL_pure (.int .u8 (q : Int)) rfl (run_load_one _ _ _ 5 _ _ rfl g1 0 rfl (by rw [HB.out.cell]; rfl) (by kernel_rfl)) ?_
    simp only [Act.put, List.setIfInBounds_toArray, List.set_cons_zero, List.set_cons_succ]
    refine wpL_pure (.int .u8 ((q % 4 : Nat) : Int)) rfl (run_rem4 _ _ _ _ _ q rfl rfl rfl QL.out) ?_
    simp only [Act.put, List.setIfInBounds_toArray, List.set_cons_zero, List.set_cons_succ]
    go_upto_region 2 with (fail)
    refine wp_region_lit ?_
    refine wpL_pure (.bool true) rfl (run_eqi Try.underlying5 rfl rfl rfl (by have := HQ.out; rw [decide_eq_true_eq]; omega)) ?_
    simp only [Act.put, List.setIfInBounds_toArray, List.set_cons_zero, List.set_cons_succ]
    refine wpL_pure (.bool true) rfl (by kernel_rfl) ?_
    simp only [Act.put, List.setIfInBounds_toArray, List.set_cons_zero, List.set_cons_succ]
    go_upto_region 3 with (fail)
    refine wp_region_lit ?_
    refine wpL_pure (.slice a n c) rfl (by kernel_rfl) ?_
    simp only [Act.put, List.setIfInBounds_toArray, List.set_cons_zero, List.set_cons_succ]
    refine wpL_call 29 #[.slice a n c] rfl (by kernel_rfl) ((RT.out).mono fun e w1 ⟨he, q2⟩ => ⟨.tuple #[.int .u64 0, .int .i64 0], he, ?_⟩)
    simp only [Act.put, List.setIfInBounds_toArray, List.set_cons_zero, List.set_cons_succ]
    have BB : Hid (Below w.heap.size w w1) := Lib.hid (GB.out.1.trans (q2.mono GB.out.2))
    have HB1 := Lib.hid (HB.out.below q2)
    have HR1 := Lib.hid (HR.out.keep q2)
    clear HB HR GB q2 RT
    refine wpL_pure (.tuple #[.int .u64 0, .int .i64 0]) rfl (by kernel_rfl) ?_
    simp only [Act.put, List.setIfInBounds_toArray, List.set_cons_zero, List.set_cons_succ]
    refine wpL_pure (.int .u64 0) rfl (by kernel_rfl) ?_
    simp only [Act.put, List.setIfInBounds_toArray, List.set_cons_zero, List.set_cons_succ]
    refine wpL_pure (.int .i64 0) rfl (by kernel_rfl) ?_
    simp only [Act.put, List.setIfInBounds_toArray, List.set_cons_zero, List.set_cons_succ]
    refine wpL_pure (.int .u64 0) rfl (by kernel_rfl) ?_
    simp only [Act.put, List.setIfInBounds_toArray, List.set_cons_zero, List.set_cons_succ]
    refine wpL_pure (.int .i64 0) rfl (by kernel_rfl) ?_
    simp only [Act.put, List.setIfInBounds_toArray, List.set_cons_zero, List.set_cons_succ]
    go_upto_region 4 with (fail)
    refine wp_region_lit ?_
    refine wpL_pure (.int .i64 0) rfl (by kernel_rfl) ?_
    simp only [Act.put, List.setIfInBounds_toArray, List.set_cons_zero, List.set_cons_succ]
    refine wpL_pure (.bool true) rfl (by kernel_rfl) ?_
    simp only [Act.put, List.setIfInBounds_toArray, List.set_cons_zero, List.set_cons_succ]
    refine wpL_pure (.bool true) rfl (by kernel_rfl) ?_
    simp only [Act.put, List.setIfInBounds_toArray, List.set_cons_zero, List.set_cons_succ]
    refine wpL_skip (by kernel_rfl) ?_
    simp only [Act.put, List.setIfInBounds_toArray, List.set_cons_zero, List.set_cons_succ]
    refine wpL_skip (by kernel_rfl) ?_
    simp only [Act.put, List.setIfInBounds_toArray, List.set_cons_zero, List.set_cons_succ]
    refine wpL_skip (by kernel_rfl) ?_
    simp only [Act.put, List.setIfInBounds_toArray, List.set_cons_zero, List.set_cons_succ]
    refine wpL_skip (by kernel_rfl) ?_
    simp only [Act.put, List.setIfInBounds_toArray, List.set_cons_zero, List.set_cons_succ]
    refine wpL_pure (.bool true) rfl (by kernel_rfl) ?_
    simp only [Act.put, List.setIfInBounds_toArray, List.set_cons_zero, List.set_cons_succ]
    go_upto_region 5 with (fail)
    refine wp_region_lit ?_
    refine wpL_pure (.int .u64 0) rfl (by kernel_rfl) ?_
    simp only [Act.put, List.setIfInBounds_toArray, List.set_cons_zero, List.set_cons_succ]
    refine wpL_pure (.slice none 0 0) rfl (by kernel_rfl) ?_
    simp only [Act.put, List.setIfInBounds_toArray, List.set_cons_zero, List.set_cons_succ]
    refine wpL_pure (.int .i64 (-1)) rfl (by kernel_rfl) ?_
    simp only [Act.put, List.setIfInBounds_toArray, List.set_cons_zero, List.set_cons_succ]
    go_wp2_with fail
    go_ret3
    exact ⟨none, 0, 0, by rw [RS.out]; rfl, by rw [RS.out]; exact Row.nil _ _, BB.out⟩
  · have NE := Lib.hid hne
    have XS := Lib.hid hxs
    clear hne hxs
    by_cases hg : x ≤ X
    · have HG := Lib.hid hg
      clear hg
      have RT := Lib.hid (reftake_any W0 a n c xs HR.out NC.out SP.out)
      rw [NE.out] at RT
      have RS : Hid (gotO (q % 4) X xs = some (x, [], s)) := Lib.hid (by unfold gotO numT; rw [if_pos HQ.out]; rw [NE.out]; simp only []; rw [if_pos HG.out])
      go_enter Try.func15, Try.ntmps15
      go_upto_region 1 with (fail)
      try rw [← hW0]
      try rw [hg1]
      clear hW0 hg1
      refine wp_region_lit ?_
      refine wpL_pure (.pointer (some ⟨g1, 0, none⟩)) rfl (by kernel_rfl) ?_
      simp only [Act.put, List.setIfInBounds_toArray, List.set_cons_zero, List.set_cons_succ]
      refine wpL_pure (.int .u8 (q : Int)) rfl (run_load_one _ _ _ 5 _ _ rfl g1 0 rfl (by rw [HB.out.cell]; rfl) (by kernel_rfl)) ?_
      simp only [Act.put, List.setIfInBounds_toArray, List.set_cons_zero, List.set_cons_succ]
      refine wpL_pure (.int .u8 ((q % 4 : Nat) : Int)) rfl (run_rem4 _ _ _ _ _ q rfl rfl rfl QL.out) ?_
      simp only [Act.put, List.setIfInBounds_toArray, List.set_cons_zero, List.set_cons_succ]
      go_upto_region 2 with (fail)
      refine wp_region_lit ?_
      refine wpL_pure (.bool true) rfl (run_eqi Try.underlying5 rfl rfl rfl (by have := HQ.out; rw [decide_eq_true_eq]; omega)) ?_
      simp only [Act.put, List.setIfInBounds_toArray, List.set_cons_zero, List.set_cons_succ]
      refine wpL_pure (.bool true) rfl (by kernel_rfl) ?_
      simp only [Act.put, List.setIfInBounds_toArray, List.set_cons_zero, List.set_cons_succ]
      go_upto_region 3 with (fail)
      refine wp_region_lit ?_
      refine wpL_pure (.slice a n c) rfl (by kernel_rfl) ?_
      simp only [Act.put, List.setIfInBounds_toArray, List.set_cons_zero, List.set_cons_succ]
      refine wpL_call 29 #[.slice a n c] rfl (by kernel_rfl) ((RT.out).mono fun e w1 ⟨he, q2⟩ => ⟨.tuple #[.int .u64 (x : Int), .int .i64 (s : Int)], he, ?_⟩)
      simp only [Act.put, List.setIfInBounds_toArray, List.set_cons_zero, List.set_cons_succ]
      have BB : Hid (Below w.heap.size w w1) := Lib.hid (GB.out.1.trans (q2.mono GB.out.2))
      have HB1 := Lib.hid (HB.out.below q2)
      have HR1 := Lib.hid (HR.out.keep q2)
      clear HB HR GB q2 RT
      refine wpL_pure (.tuple #[.int .u64 (x : Int), .int .i64 (s : Int)]) rfl (by kernel_rfl) ?_
      simp only [Act.put, List.setIfInBounds_toArray, List.set_cons_zero, List.set_cons_succ]
      refine wpL_pure (.int .u64 (x : Int)) rfl (by kernel_rfl) ?_
      simp only [Act.put, List.setIfInBounds_toArray, List.set_cons_zero, List.set_cons_succ]
      refine wpL_pure (.int .i64 (s : Int)) rfl (by kernel_rfl) ?_
      simp only [Act.put, List.setIfInBounds_toArray, List.set_cons_zero, List.set_cons_succ]
      refine wpL_pure (.int .u64 (x : Int)) rfl (by kernel_rfl) ?_
      simp only [Act.put, List.setIfInBounds_toArray, List.set_cons_zero, List.set_cons_succ]
      refine wpL_pure (.int .i64 (s : Int)) rfl (by kernel_rfl) ?_
      simp only [Act.put, List.setIfInBounds_toArray, List.set_cons_zero, List.set_cons_succ]
      go_upto_region 4 with (fail)
      refine wp_region_lit ?_
      refine wpL_pure (.int .i64 (s : Int)) rfl (by kernel_rfl) ?_
      simp only [Act.put, List.setIfInBounds_toArray, List.set_cons_zero, List.set_cons_succ]
      refine wpL_pure (.bool false) rfl (run_eqi Try.underlying3 rfl rfl rfl (by have := XS.out.1; rw [decide_eq_false_iff_not]; omega)) ?_
      simp only [Act.put, List.setIfInBounds_toArray, List.set_cons_zero, List.set_cons_succ]
      refine wpL_pure (.bool false) rfl (by kernel_rfl) ?_
      simp only [Act.put, List.setIfInBounds_toArray, List.set_cons_zero, List.set_cons_succ]
      refine wpL_pure (.int .u64 (x : Int)) rfl (by kernel_rfl) ?_
      simp only [Act.put, List.setIfInBounds_toArray, List.set_cons_zero, List.set_cons_succ]
      refine wpL_pure (.pointer (some ⟨g1, 1, none⟩)) rfl (by kernel_rfl) ?_
      simp only [Act.put, List.setIfInBounds_toArray, List.set_cons_zero, List.set_cons_succ]
      refine wpL_pure (.int .u64 (X : Int)) rfl (run_load_one _ _ _ 33 _ _ rfl g1 1 rfl (by rw [HB1.out.cell]; rfl) (by kernel_rfl)) ?_
      simp only [Act.put, List.setIfInBounds_toArray, List.set_cons_zero, List.set_cons_succ]
      refine wpL_pure (.bool false) rfl (run_gti Try.underlying33 rfl rfl rfl (by have := HG.out; rw [decide_eq_false_iff_not]; omega)) ?_
      simp only [Act.put, List.setIfInBounds_toArray, List.set_cons_zero, List.set_cons_succ]
      refine wpL_pure (.bool false) rfl (by kernel_rfl) ?_
      simp only [Act.put, List.setIfInBounds_toArray, List.set_cons_zero, List.set_cons_succ]
      go_upto_region 6 with (fail)
      refine wp_region_lit ?_
      refine wpL_pure (.int .u64 (x : Int)) rfl (by kernel_rfl) ?_
      simp only [Act.put, List.setIfInBounds_toArray, List.set_cons_zero, List.set_cons_succ]
      refine wpL_pure (.int .i64 (s : Int)) rfl (by kernel_rfl) ?_
      simp only [Act.put, List.setIfInBounds_toArray, List.set_cons_zero, List.set_cons_succ]
      refine wpL_pure (.int .u64 (x : Int)) rfl (by kernel_rfl) ?_
      simp only [Act.put, List.setIfInBounds_toArray, List.set_cons_zero, List.set_cons_succ]
      refine wpL_pure (.slice none 0 0) rfl (by kernel_rfl) ?_
      simp only [Act.put, List.setIfInBounds_toArray, List.set_cons_zero, List.set_cons_succ]
      refine wpL_pure (.int .i64 (s : Int)) rfl (by kernel_rfl) ?_
      simp only [Act.put, List.setIfInBounds_toArray, List.set_cons_zero, List.set_cons_succ]
      go_wp2_with fail
      go_ret3
      exact ⟨none, 0, 0, by rw [RS.out]; rfl, by rw [RS.out]; exact Row.nil _ _, BB.out⟩
    · have HG := Lib.hid hg
      clear hg
      have RT := Lib.hid (reftake_any W0 a n c xs HR.out NC.out SP.out)
      rw [NE.out] at RT
      have RS : Hid (gotO (q % 4) X xs = none) := Lib.hid (by unfold gotO numT; rw [if_pos HQ.out]; rw [NE.out]; simp only []; rw [if_neg (by have := HG.out; omega)])
      go_enter Try.func15, Try.ntmps15
      go_upto_region 1 with (fail)
      try rw [← hW0]
      try rw [hg1]
      clear hW0 hg1
      refine wp_region_lit ?_
      refine wpL_pure (.pointer (some ⟨g1, 0, none⟩)) rfl (by kernel_rfl) ?_
      simp only [Act.put, List.setIfInBounds_toArray, List.set_cons_zero, List.set_cons_succ]
      refine wpL_pure (.int .u8 (q : Int)) rfl (run_load_one _ _ _ 5 _ _ rfl g1 0 rfl (by rw [HB.out.cell]; rfl) (by kernel_rfl)) ?_
      simp only [Act.put, List.setIfInBounds_toArray, List.set_cons_zero, List.set_cons_succ]
      refine wpL_pure (.int .u8 ((q % 4 : Nat) : Int)) rfl (run_rem4 _ _ _ _ _ q rfl rfl rfl QL.out) ?_
      simp only [Act.put, List.setIfInBounds_toArray, List.set_cons_zero, List.set_cons_succ]
      go_upto_region 2 with (fail)
      refine wp_region_lit ?_
      refine wpL_pure (.bool true) rfl (run_eqi Try.underlying5 rfl rfl rfl (by have := HQ.out; rw [decide_eq_true_eq]; omega)) ?_
      simp only [Act.put, List.setIfInBounds_toArray, List.set_cons_zero, List.set_cons_succ]
      refine wpL_pure (.bool true) rfl (by kernel_rfl) ?_
      simp only [Act.put, List.setIfInBounds_toArray, List.set_cons_zero, List.set_cons_succ]
      go_upto_region 3 with (fail)
      refine wp_region_lit ?_
      refine wpL_pure (.slice a n c) rfl (by kernel_rfl) ?_
      simp only [Act.put, List.setIfInBounds_toArray, List.set_cons_zero, List.set_cons_succ]
      refine wpL_call 29 #[.slice a n c] rfl (by kernel_rfl) ((RT.out).mono fun e w1 ⟨he, q2⟩ => ⟨.tuple #[.int .u64 (x : Int), .int .i64 (s : Int)], he, ?_⟩)
      simp only [Act.put, List.setIfInBounds_toArray, List.set_cons_zero, List.set_cons_succ]
      have BB : Hid (Below w.heap.size w w1) := Lib.hid (GB.out.1.trans (q2.mono GB.out.2))
      have HB1 := Lib.hid (HB.out.below q2)
      have HR1 := Lib.hid (HR.out.keep q2)
      clear HB HR GB q2 RT
      refine wpL_pure (.tuple #[.int .u64 (x : Int), .int .i64 (s : Int)]) rfl (by kernel_rfl) ?_
      simp only [Act.put, List.setIfInBounds_toArray, List.set_cons_zero, List.set_cons_succ]
      refine wpL_pure (.int .u64 (x : Int)) rfl (by kernel_rfl) ?_
      simp only [Act.put, List.setIfInBounds_toArray, List.set_cons_zero, List.set_cons_succ]
      refine wpL_pure (.int .i64 (s : Int)) rfl (by kernel_rfl) ?_
      simp only [Act.put, List.setIfInBounds_toArray, List.set_cons_zero, List.set_cons_succ]
      refine wpL_pure (.int .u64 (x : Int)) rfl (by kernel_rfl) ?_
      simp only [Act.put, List.setIfInBounds_toArray, List.set_cons_zero, List.set_cons_succ]
      refine wpL_pure (.int .i64 (s : Int)) rfl (by kernel_rfl) ?_
      simp only [Act.put, List.setIfInBounds_toArray, List.set_cons_zero, List.set_cons_succ]
      go_upto_region 4 with (fail)
      refine wp_region_lit ?_
      refine wpL_pure (.int .i64 (s : Int)) rfl (by kernel_rfl) ?_
      simp only [Act.put, List.setIfInBounds_toArray, List.set_cons_zero, List.set_cons_succ]
      refine wpL_pure (.bool false) rfl (run_eqi Try.underlying3 rfl rfl rfl (by have := XS.out.1; rw [decide_eq_false_iff_not]; omega)) ?_
      simp only [Act.put, List.setIfInBounds_toArray, List.set_cons_zero, List.set_cons_succ]
      refine wpL_pure (.bool false) rfl (by kernel_rfl) ?_
      simp only [Act.put, List.setIfInBounds_toArray, List.set_cons_zero, List.set_cons_succ]
      refine wpL_pure (.int .u64 (x : Int)) rfl (by kernel_rfl) ?_
      simp only [Act.put, List.setIfInBounds_toArray, List.set_cons_zero, List.set_cons_succ]
      refine wpL_pure (.pointer (some ⟨g1, 1, none⟩)) rfl (by kernel_rfl) ?_
      simp only [Act.put, List.setIfInBounds_toArray, List.set_cons_zero, List.set_cons_succ]
      refine wpL_pure (.int .u64 (X : Int)) rfl (run_load_one _ _ _ 33 _ _ rfl g1 1 rfl (by rw [HB1.out.cell]; rfl) (by kernel_rfl)) ?_
      simp only [Act.put, List.setIfInBounds_toArray, List.set_cons_zero, List.set_cons_succ]
      refine wpL_pure (.bool true) rfl (run_gti Try.underlying33 rfl rfl rfl (by have := HG.out; rw [decide_eq_true_eq]; omega)) ?_
      simp only [Act.put, List.setIfInBounds_toArray, List.set_cons_zero, List.set_cons_succ]
      refine wpL_pure (.bool true) rfl (by kernel_rfl) ?_
      simp only [Act.put, List.setIfInBounds_toArray, List.set_cons_zero, List.set_cons_succ]
      go_upto_region 5 with (fail)
      refine wp_region_lit ?_
      refine wpL_pure (.int .u64 0) rfl (by kernel_rfl) ?_
      simp only [Act.put, List.setIfInBounds_toArray, List.set_cons_zero, List.set_cons_succ]
      refine wpL_pure (.slice none 0 0) rfl (by kernel_rfl) ?_
      simp only [Act.put, List.setIfInBounds_toArray, List.set_cons_zero, List.set_cons_succ]
      refine wpL_pure (.int .i64 (-1)) rfl (by kernel_rfl) ?_
      simp only [Act.put, List.setIfInBounds_toArray, List.set_cons_zero, List.set_cons_succ]
      go_wp2_with fail
      go_ret3
      exact ⟨none, 0, 0, by rw [RS.out]; rfl, by rw [RS.out]; exact Row.nil _ _, BB.out⟩
end Go.Proofs.Yteblaknbehfkgaa
