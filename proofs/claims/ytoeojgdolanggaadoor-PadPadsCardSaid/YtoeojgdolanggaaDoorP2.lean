import Derived.Test.YtoeojgdolanggaaDoorP1
namespace Go.Proofs.YtoeojgdolanggaaDoor
open Go Go.RowKit

attribute [local irreducible] wpList
set_option maxHeartbeats 4000000 in
set_option maxRecDepth 100000 in
theorem equal_any (w : World) (a : Option Addr) (n c : Nat) (xs : List Int) (b : Option Addr) (m d : Nat) (ys : List Int) (hx : Row w a n xs) (hy : Row w b m ys) (z : Bool) (hz : z = decide (xs = ys)) :
    Calls Tryd.prog 20 #[.slice a n c, .slice b m d] w fun e w' => e = .returned (.bool z) ∧ w' = w := by
  have HX := Lib.hid hx
  have HY := Lib.hid hy
  have HZ := Lib.hid hz
  clear hx hy hz
  go_enter Tryd.func20, Tryd.ntmps20
  go_upto_region 0 with (fail)
  refine wp_region_lit ?_
  refine wpL_pure (.bool false) rfl (by kernel_rfl) ?_
  simp only [Act.put, List.setIfInBounds_toArray, List.set_cons_zero, List.set_cons_succ]
  go_upto_region 1 with (fail)
  refine wp_region_lit ?_
  refine wpL_pure (.slice a n c) rfl (by kernel_rfl) ?_
  simp only [Act.put, List.setIfInBounds_toArray, List.set_cons_zero, List.set_cons_succ]
  refine wpL_pure (.string (strOfNums xs)) rfl (run_conv_str _ _ _ _ _ _ _ xs rfl rfl HX.out) ?_
  simp only [Act.put, List.setIfInBounds_toArray, List.set_cons_zero, List.set_cons_succ]
  refine wpL_pure (.slice b m d) rfl (by kernel_rfl) ?_
  simp only [Act.put, List.setIfInBounds_toArray, List.set_cons_zero, List.set_cons_succ]
  refine wpL_pure (.string (strOfNums ys)) rfl (run_conv_str _ _ _ _ _ _ _ ys rfl rfl HY.out) ?_
  simp only [Act.put, List.setIfInBounds_toArray, List.set_cons_zero, List.set_cons_succ]
  refine wpL_pure (.bool z) rfl (run_str_eql _ _ _ _ _ xs ys z rfl rfl rfl HZ.out HX.out.2.2.1 HY.out.2.2.1) ?_
  simp only [Act.put, List.setIfInBounds_toArray, List.set_cons_zero, List.set_cons_succ]
  refine wpL_pure (.bool z) rfl (by kernel_rfl) ?_
  simp only [Act.put, List.setIfInBounds_toArray, List.set_cons_zero, List.set_cons_succ]
  go_wp2_with fail
  go_ret
  exact ⟨rfl, rfl⟩
set_option maxHeartbeats 4000000 in
set_option maxRecDepth 100000 in
theorem hassuf_any (w : World) (a : Option Addr) (k c g : Nat) (xs : List Int) (h : Sl w a k c xs) (hg : Row w (some ⟨g, 0, none⟩) 1 [128]) :
    Calls Tryd.prog 15 #[.slice a k c, .slice (some ⟨g, 0, none⟩) 1 1] w fun e w' => ∃ z, e = .returned (.bool z) ∧ w' = w ∧ (z = true ↔ 0 < k ∧ xs.drop (k - 1) = [128]) := by
  have HS := Lib.hid h
  have HG := Lib.hid hg
  clear h hg
  go_enter Tryd.func15, Tryd.ntmps15
  go_upto_region 0 with (fail)
  refine wp_region_lit ?_
  refine wpL_pure (.bool false) rfl (by kernel_rfl) ?_
  simp only [Act.put, List.setIfInBounds_toArray, List.set_cons_zero, List.set_cons_succ]
  by_cases h0 : 0 < k
  · have H0 := Lib.hid h0
    clear h0
    obtain ⟨z, hz⟩ : ∃ z, decide (xs.drop (k - 1) = [128]) = z := ⟨_, rfl⟩
    have HZ := Lib.hid hz
    clear hz
    go_upto_region 1 with (fail)
    refine wp_region_lit ?_
    refine wpL_pure (.slice a k c) rfl (by kernel_rfl) ?_
    simp only [Act.put, List.setIfInBounds_toArray, List.set_cons_zero, List.set_cons_succ]
    refine wpL_pure (.int .i64 (k : Int)) rfl (by kernel_rfl) ?_
    simp only [Act.put, List.setIfInBounds_toArray, List.set_cons_zero, List.set_cons_succ]
    refine wpL_pure (.slice (some ⟨g, 0, none⟩) 1 1) rfl (by kernel_rfl) ?_
    simp only [Act.put, List.setIfInBounds_toArray, List.set_cons_zero, List.set_cons_succ]
    refine wpL_pure (.int .i64 (1 : Int)) rfl (by kernel_rfl) ?_
    simp only [Act.put, List.setIfInBounds_toArray, List.set_cons_zero, List.set_cons_succ]
    refine wpL_pure (.bool true) rfl (run_gei Tryd.underlying3 rfl rfl rfl (by have := H0.out; rw [decide_eq_true_eq]; omega)) ?_
    simp only [Act.put, List.setIfInBounds_toArray, List.set_cons_zero, List.set_cons_succ]
    refine wpL_pure (.bool true) rfl (by kernel_rfl) ?_
    simp only [Act.put, List.setIfInBounds_toArray, List.set_cons_zero, List.set_cons_succ]
    refine wpL_pure (.slice a k c) rfl (by kernel_rfl) ?_
    simp only [Act.put, List.setIfInBounds_toArray, List.set_cons_zero, List.set_cons_succ]
    refine wpL_pure (.slice a k c) rfl (by kernel_rfl) ?_
    simp only [Act.put, List.setIfInBounds_toArray, List.set_cons_zero, List.set_cons_succ]
    refine wpL_pure (.int .i64 (k : Int)) rfl (by kernel_rfl) ?_
    simp only [Act.put, List.setIfInBounds_toArray, List.set_cons_zero, List.set_cons_succ]
    refine wpL_pure (.slice (some ⟨g, 0, none⟩) 1 1) rfl (by kernel_rfl) ?_
    simp only [Act.put, List.setIfInBounds_toArray, List.set_cons_zero, List.set_cons_succ]
    refine wpL_pure (.int .i64 (1 : Int)) rfl (by kernel_rfl) ?_
    simp only [Act.put, List.setIfInBounds_toArray, List.set_cons_zero, List.set_cons_succ]
    refine wpL_pure (.int .i64 ((k - 1 : Nat) : Int)) rfl (run_subi Tryd.underlying3 rfl rfl rfl _ (by have := H0.out; have := HS.out.1.2.1; unfold maxLen at this; rw [wrap_in _ (by omega) (by omega)]; omega)) ?_
    simp only [Act.put, List.setIfInBounds_toArray, List.set_cons_zero, List.set_cons_succ]
    refine wpL_pure (.slice (dropA a c (k - 1)) 1 (c - (k - 1))) rfl (run_slicep' _ _ _ _ _ a k c (k - 1) 1 rfl rfl rfl (by omega) HS.out.2.1 HS.out.2.2 (by have := H0.out; omega)) ?_
    simp only [Act.put, List.setIfInBounds_toArray, List.set_cons_zero, List.set_cons_succ]
    refine wpL_pure (.slice (some ⟨g, 0, none⟩) 1 1) rfl (by kernel_rfl) ?_
    simp only [Act.put, List.setIfInBounds_toArray, List.set_cons_zero, List.set_cons_succ]
    refine wpL_call 20 #[.slice (dropA a c (k - 1)) 1 (c - (k - 1)), .slice (some ⟨g, 0, none⟩) 1 1] rfl (by kernel_rfl) (((equal_any w (dropA a c (k - 1)) 1 (c - (k - 1)) (xs.drop (k - 1)) (some ⟨g, 0, none⟩) 1 1 [128] (by have h := (HS.out.drop (k - 1) (by omega)).1; rw [show k - (k - 1) = 1 by have := H0.out; omega] at h; exact h) HG.out z HZ.out.symm)).mono fun e w1 ⟨he, hw⟩ => ⟨.bool z, he, ?_⟩)
    simp only [Act.put, List.setIfInBounds_toArray, List.set_cons_zero, List.set_cons_succ]
    rw [hw]
    clear hw
    refine wpL_pure (.bool z) rfl (by kernel_rfl) ?_
    simp only [Act.put, List.setIfInBounds_toArray, List.set_cons_zero, List.set_cons_succ]
    refine wpL_pure (.bool z) rfl (by kernel_rfl) ?_
    simp only [Act.put, List.setIfInBounds_toArray, List.set_cons_zero, List.set_cons_succ]
    go_wp2_with fail
    go_ret
    exact ⟨z, rfl, rfl, by rw [← HZ.out, decide_eq_true_eq]; exact ⟨fun h => ⟨H0.out, h⟩, fun h => h.2⟩⟩
  · have H0 := Lib.hid h0
    clear h0
    go_upto_region 1 with (fail)
    refine wp_region_lit ?_
    refine wpL_pure (.slice a k c) rfl (by kernel_rfl) ?_
    simp only [Act.put, List.setIfInBounds_toArray, List.set_cons_zero, List.set_cons_succ]
    refine wpL_pure (.int .i64 (k : Int)) rfl (by kernel_rfl) ?_
    simp only [Act.put, List.setIfInBounds_toArray, List.set_cons_zero, List.set_cons_succ]
    refine wpL_pure (.slice (some ⟨g, 0, none⟩) 1 1) rfl (by kernel_rfl) ?_
    simp only [Act.put, List.setIfInBounds_toArray, List.set_cons_zero, List.set_cons_succ]
    refine wpL_pure (.int .i64 (1 : Int)) rfl (by kernel_rfl) ?_
    simp only [Act.put, List.setIfInBounds_toArray, List.set_cons_zero, List.set_cons_succ]
    refine wpL_pure (.bool false) rfl (run_gei Tryd.underlying3 rfl rfl rfl (by have := H0.out; rw [decide_eq_false_iff_not]; omega)) ?_
    simp only [Act.put, List.setIfInBounds_toArray, List.set_cons_zero, List.set_cons_succ]
    refine wpL_pure (.bool false) rfl (by kernel_rfl) ?_
    simp only [Act.put, List.setIfInBounds_toArray, List.set_cons_zero, List.set_cons_succ]
    refine wpL_skip (by kernel_rfl) ?_
    simp only [Act.put, List.setIfInBounds_toArray, List.set_cons_zero, List.set_cons_succ]
    refine wpL_skip (by kernel_rfl) ?_
    simp only [Act.put, List.setIfInBounds_toArray, List.set_cons_zero, List.set_cons_succ]
    refine wpL_skip (by kernel_rfl) ?_
    simp only [Act.put, List.setIfInBounds_toArray, List.set_cons_zero, List.set_cons_succ]
    refine wpL_skip (by kernel_rfl) ?_
    simp only [Act.put, List.setIfInBounds_toArray, List.set_cons_zero, List.set_cons_succ]
    refine wpL_skip (by kernel_rfl) ?_
    simp only [Act.put, List.setIfInBounds_toArray, List.set_cons_zero, List.set_cons_succ]
    refine wpL_skip (by kernel_rfl) ?_
    simp only [Act.put, List.setIfInBounds_toArray, List.set_cons_zero, List.set_cons_succ]
    refine wpL_skip (by kernel_rfl) ?_
    simp only [Act.put, List.setIfInBounds_toArray, List.set_cons_zero, List.set_cons_succ]
    refine wpL_skip (by kernel_rfl) ?_
    simp only [Act.put, List.setIfInBounds_toArray, List.set_cons_zero, List.set_cons_succ]
    refine wpL_skip (by kernel_rfl) ?_
    simp only [Act.put, List.setIfInBounds_toArray, List.set_cons_zero, List.set_cons_succ]
    refine wpL_pure (.bool false) rfl (by kernel_rfl) ?_
    simp only [Act.put, List.setIfInBounds_toArray, List.set_cons_zero, List.set_cons_succ]
    refine wpL_pure (.bool false) rfl (by kernel_rfl) ?_
    simp only [Act.put, List.setIfInBounds_toArray, List.set_cons_zero, List.set_cons_succ]
    go_wp2_with fail
    go_ret
    exact ⟨false, rfl, rfl, ⟨fun h => (by cases h), fun h => absurd h.1 H0.out⟩⟩
set_option maxHeartbeats 4000000 in
set_option maxRecDepth 100000 in
theorem cut_any (w : World) (a : Option Addr) (k c g : Nat) (xs : List Int) (h : Sl w a k c xs) (hg : Row w (some ⟨g, 0, none⟩) 1 [128]) :
    Calls Tryd.prog 12 #[.slice a k c, .slice (some ⟨g, 0, none⟩) 1 1] w fun e w' => w' = w ∧ (((0 < k ∧ xs.drop (k - 1) = [128]) ∧ e = .returned (.tuple #[.slice a (k - 1) c, .bool true])) ∨ (¬ (0 < k ∧ xs.drop (k - 1) = [128]) ∧ e = .returned (.tuple #[.slice a k c, .bool false]))) := by
  have HS := Lib.hid h
  have HG := Lib.hid hg
  clear h hg
  go_enter Tryd.func12, Tryd.ntmps12
  go_upto_region 0 with (fail)
  refine wp_region_lit ?_
  refine wpL_pure (.slice none 0 0) rfl (by kernel_rfl) ?_
  simp only [Act.put, List.setIfInBounds_toArray, List.set_cons_zero, List.set_cons_succ]
  refine wpL_pure (.bool false) rfl (by kernel_rfl) ?_
  simp only [Act.put, List.setIfInBounds_toArray, List.set_cons_zero, List.set_cons_succ]
  go_upto_region 1 with (fail)
  refine wp_region_lit ?_
  refine wpL_pure (.slice a k c) rfl (by kernel_rfl) ?_
  simp only [Act.put, List.setIfInBounds_toArray, List.set_cons_zero, List.set_cons_succ]
  refine wpL_pure (.slice (some ⟨g, 0, none⟩) 1 1) rfl (by kernel_rfl) ?_
  simp only [Act.put, List.setIfInBounds_toArray, List.set_cons_zero, List.set_cons_succ]
  refine wpL_call 15 #[.slice a k c, .slice (some ⟨g, 0, none⟩) 1 1] rfl (by kernel_rfl) (((hassuf_any w a k c g xs HS.out HG.out)).mono fun e w1 ⟨z, he, hw, hz⟩ => ⟨.bool z, he, ?_⟩)
  simp only [Act.put, List.setIfInBounds_toArray, List.set_cons_zero, List.set_cons_succ]
  rw [hw]
  clear hw
  have HZ := Lib.hid hz
  clear hz
  cases z
  · refine wpL_pure (.bool true) rfl (by kernel_rfl) ?_
    simp only [Act.put, List.setIfInBounds_toArray, List.set_cons_zero, List.set_cons_succ]
    go_upto_region 2 with (fail)
    refine wp_region_lit ?_
    refine wpL_pure (.slice a k c) rfl (by kernel_rfl) ?_
    simp only [Act.put, List.setIfInBounds_toArray, List.set_cons_zero, List.set_cons_succ]
    refine wpL_pure (.slice a k c) rfl (by kernel_rfl) ?_
    simp only [Act.put, List.setIfInBounds_toArray, List.set_cons_zero, List.set_cons_succ]
    refine wpL_pure (.bool false) rfl (by kernel_rfl) ?_
    simp only [Act.put, List.setIfInBounds_toArray, List.set_cons_zero, List.set_cons_succ]
    go_wp2_with fail
    refine bodyPost_ret (v := .tuple #[.slice a k c, .bool false]) (by kernel_rfl) rfl ?_
    exact ⟨rfl, .inr ⟨fun h => (by have := HZ.out.2 h; cases this), rfl⟩⟩
  · refine wpL_pure (.bool false) rfl (by kernel_rfl) ?_
    simp only [Act.put, List.setIfInBounds_toArray, List.set_cons_zero, List.set_cons_succ]
    have PZ := Lib.hid (HZ.out.1 rfl)
    go_upto_region 3 with (fail)
    refine wp_region_lit ?_
    refine wpL_pure (.slice a k c) rfl (by kernel_rfl) ?_
    simp only [Act.put, List.setIfInBounds_toArray, List.set_cons_zero, List.set_cons_succ]
    refine wpL_pure (.slice a k c) rfl (by kernel_rfl) ?_
    simp only [Act.put, List.setIfInBounds_toArray, List.set_cons_zero, List.set_cons_succ]
    refine wpL_pure (.int .i64 (k : Int)) rfl (by kernel_rfl) ?_
    simp only [Act.put, List.setIfInBounds_toArray, List.set_cons_zero, List.set_cons_succ]
    refine wpL_pure (.slice (some ⟨g, 0, none⟩) 1 1) rfl (by kernel_rfl) ?_
    simp only [Act.put, List.setIfInBounds_toArray, List.set_cons_zero, List.set_cons_succ]
    refine wpL_pure (.int .i64 (1 : Int)) rfl (by kernel_rfl) ?_
    simp only [Act.put, List.setIfInBounds_toArray, List.set_cons_zero, List.set_cons_succ]
    refine wpL_pure (.int .i64 ((k - 1 : Nat) : Int)) rfl (run_subi Tryd.underlying3 rfl rfl rfl _ (by have := PZ.out.1; have := HS.out.1.2.1; unfold maxLen at this; rw [wrap_in _ (by omega) (by omega)]; omega)) ?_
    simp only [Act.put, List.setIfInBounds_toArray, List.set_cons_zero, List.set_cons_succ]
    refine wpL_pure (.slice a (k - 1) c) rfl (run_slto _ _ _ _ _ a k c (k - 1) rfl rfl rfl (by have := HS.out.2.1; omega) HS.out.2.2.1 HS.out.2.2.2) ?_
    simp only [Act.put, List.setIfInBounds_toArray, List.set_cons_zero, List.set_cons_succ]
    refine wpL_pure (.slice a (k - 1) c) rfl (by kernel_rfl) ?_
    simp only [Act.put, List.setIfInBounds_toArray, List.set_cons_zero, List.set_cons_succ]
    refine wpL_pure (.bool true) rfl (by kernel_rfl) ?_
    simp only [Act.put, List.setIfInBounds_toArray, List.set_cons_zero, List.set_cons_succ]
    go_wp2_with fail
    refine bodyPost_ret (v := .tuple #[.slice a (k - 1) c, .bool true]) (by kernel_rfl) rfl ?_
    exact ⟨rfl, .inl ⟨PZ.out, rfl⟩⟩
set_option maxHeartbeats 4000000 in
set_option maxRecDepth 100000 in
theorem trimb_any (w : World) (a : Option Addr) (n c : Nat) (xs : List Int) (h : Sl w a n c xs) :
    Calls Tryd.prog 16 #[.slice a n c, .int .u8 0] w fun e w' => ∃ k, e = .returned (.slice a k c) ∧ w' = w ∧ k ≤ n ∧ (∀ j, k ≤ j → j < n → xs.getD j 0 = 0) ∧ (0 < k → xs.getD (k - 1) 0 ≠ 0) := by
  have HS := Lib.hid h
  clear h
  go_enter Tryd.func16, Tryd.ntmps16
  go_upto_region 0 with (fail)
  refine wp_region_lit ?_
  refine wpL_pure (.slice none 0 0) rfl (by kernel_rfl) ?_
  simp only [Act.put, List.setIfInBounds_toArray, List.set_cons_zero, List.set_cons_succ]
  go_wp2_with fail
  go_loopw [0] (fun s0 wr => ∃ k : Nat, s0 = .slice a k c ∧ Hid (k ≤ n ∧ (∀ j, k ≤ j → j < n → xs.getD j 0 = 0) ∧ wr = w)) (fun s0 _ => lenOf s0)
  case atStart => exact ⟨n, rfl, Lib.hid ⟨by omega, fun j h1 h2 => by omega, rfl⟩⟩
  case round =>
    obtain ⟨k, rfl, RI⟩ := hrel
    by_cases h0 : 0 < k
    · have H0 := Lib.hid h0
      clear h0
      obtain ⟨g, o, ea, hc⟩ := HS.out.1.2.2.2 (k - 1) (by have := H0.out; have := RI.out.1; omega)
      have EA := Lib.hid ea
      obtain ⟨y, hy⟩ : ∃ y, xs.getD (k - 1) 0 = y := ⟨_, rfl⟩
      have CC : Hid (wr.cell? ⟨g, o + (k - 1), none⟩ = some (.int .u8 y)) := Lib.hid (by rw [RI.out.2.2, hc, hy])
      have HY := Lib.hid hy
      clear ea hc hy
      by_cases hz : y = 0
      · have HZ := Lib.hid hz
        clear hz
        go_upto_region 1 with (fail)
        refine wp_region_lit ?_
        refine wpL_pure (.slice a k c) rfl (by kernel_rfl) ?_
        simp only [Act.put, List.setIfInBounds_toArray, List.set_cons_zero, List.set_cons_succ]
        refine wpL_pure (.int .i64 (k : Int)) rfl (by kernel_rfl) ?_
        simp only [Act.put, List.setIfInBounds_toArray, List.set_cons_zero, List.set_cons_succ]
        refine wpL_pure (.bool true) rfl (run_gti Tryd.underlying3 rfl rfl rfl (by have := H0.out; rw [decide_eq_true_eq]; omega)) ?_
        simp only [Act.put, List.setIfInBounds_toArray, List.set_cons_zero, List.set_cons_succ]
        refine wpL_pure (.bool true) rfl (by kernel_rfl) ?_
        simp only [Act.put, List.setIfInBounds_toArray, List.set_cons_zero, List.set_cons_succ]
        refine wpL_pure (.slice a k c) rfl (by kernel_rfl) ?_
        simp only [Act.put, List.setIfInBounds_toArray, List.set_cons_zero, List.set_cons_succ]
        refine wpL_pure (.slice a k c) rfl (by kernel_rfl) ?_
        simp only [Act.put, List.setIfInBounds_toArray, List.set_cons_zero, List.set_cons_succ]
        refine wpL_pure (.int .i64 (k : Int)) rfl (by kernel_rfl) ?_
        simp only [Act.put, List.setIfInBounds_toArray, List.set_cons_zero, List.set_cons_succ]
        refine wpL_pure (.int .i64 ((k - 1 : Nat) : Int)) rfl (run_subi Tryd.underlying3 rfl rfl rfl _ (by have := H0.out; have := RI.out.1; have := HS.out.1.2.1; unfold maxLen at this; rw [wrap_in _ (by omega) (by omega)]; omega)) ?_
        simp only [Act.put, List.setIfInBounds_toArray, List.set_cons_zero, List.set_cons_succ]
        refine wpL_pure (.pointer (some ⟨g, o + (k - 1), none⟩)) rfl (run_idx _ _ _ _ _ g o k c (k - 1) rfl (by rw [EA.out]; rfl) rfl (by have := H0.out; omega) (by have := RI.out.1; have := HS.out.1.2.1; omega)) ?_
        simp only [Act.put, List.setIfInBounds_toArray, List.set_cons_zero, List.set_cons_succ]
        refine wpL_pure (.int .u8 y) rfl (run_load_one _ _ _ 5 _ _ rfl (g) (o + (k - 1)) rfl (CC.out) (by kernel_rfl)) ?_
        simp only [Act.put, List.setIfInBounds_toArray, List.set_cons_zero, List.set_cons_succ]
        refine wpL_pure (.int .u8 0) rfl (by kernel_rfl) ?_
        simp only [Act.put, List.setIfInBounds_toArray, List.set_cons_zero, List.set_cons_succ]
        refine wpL_pure (.bool true) rfl (run_eqi Tryd.underlying5 rfl rfl rfl (by have := HZ.out; rw [decide_eq_true_eq]; omega)) ?_
        simp only [Act.put, List.setIfInBounds_toArray, List.set_cons_zero, List.set_cons_succ]
        refine wpL_pure (.bool true) rfl (by kernel_rfl) ?_
        simp only [Act.put, List.setIfInBounds_toArray, List.set_cons_zero, List.set_cons_succ]
        go_upto_region 2 with (fail)
        refine wp_region_lit ?_
        refine wpL_pure (.slice a k c) rfl (by kernel_rfl) ?_
        simp only [Act.put, List.setIfInBounds_toArray, List.set_cons_zero, List.set_cons_succ]
        refine wpL_pure (.slice a k c) rfl (by kernel_rfl) ?_
        simp only [Act.put, List.setIfInBounds_toArray, List.set_cons_zero, List.set_cons_succ]
        refine wpL_pure (.int .i64 (k : Int)) rfl (by kernel_rfl) ?_
        simp only [Act.put, List.setIfInBounds_toArray, List.set_cons_zero, List.set_cons_succ]
        refine wpL_pure (.int .i64 ((k - 1 : Nat) : Int)) rfl (run_subi Tryd.underlying3 rfl rfl rfl _ (by have := H0.out; have := RI.out.1; have := HS.out.1.2.1; unfold maxLen at this; rw [wrap_in _ (by omega) (by omega)]; omega)) ?_
        simp only [Act.put, List.setIfInBounds_toArray, List.set_cons_zero, List.set_cons_succ]
        refine wpL_pure (.slice a (k - 1) c) rfl (run_slto _ _ _ _ _ a k c (k - 1) rfl rfl rfl (by have := HS.out.2.1; have := RI.out.1; omega) HS.out.2.2.1 HS.out.2.2.2) ?_
        simp only [Act.put, List.setIfInBounds_toArray, List.set_cons_zero, List.set_cons_succ]
        refine wpL_pure (.slice a (k - 1) c) rfl (by kernel_rfl) ?_
        simp only [Act.put, List.setIfInBounds_toArray, List.set_cons_zero, List.set_cons_succ]
        have NX : Hid (k - 1 ≤ n ∧ (∀ j, k - 1 ≤ j → j < n → xs.getD j 0 = 0) ∧ wr = w) := Lib.hid ⟨by have := RI.out.1; omega, fun j h1 h2 => by
          by_cases e : j = k - 1
          · rw [e, HY.out, HZ.out]
          · exact RI.out.2.1 j (by omega) h2, RI.out.2.2⟩
        unfold wpList
        go_roundw
        case rel => first | exact ⟨_, rfl, NX⟩ | ((repeat apply Exists.intro); exact ⟨⟨_, rfl, NX⟩, rfl⟩)
        case measure => simp [lenOf]; have := H0.out; omega
      · have HZ := Lib.hid hz
        clear hz
        go_upto_region 1 with (fail)
        refine wp_region_lit ?_
        refine wpL_pure (.slice a k c) rfl (by kernel_rfl) ?_
        simp only [Act.put, List.setIfInBounds_toArray, List.set_cons_zero, List.set_cons_succ]
        refine wpL_pure (.int .i64 (k : Int)) rfl (by kernel_rfl) ?_
        simp only [Act.put, List.setIfInBounds_toArray, List.set_cons_zero, List.set_cons_succ]
        refine wpL_pure (.bool true) rfl (run_gti Tryd.underlying3 rfl rfl rfl (by have := H0.out; rw [decide_eq_true_eq]; omega)) ?_
        simp only [Act.put, List.setIfInBounds_toArray, List.set_cons_zero, List.set_cons_succ]
        refine wpL_pure (.bool true) rfl (by kernel_rfl) ?_
        simp only [Act.put, List.setIfInBounds_toArray, List.set_cons_zero, List.set_cons_succ]
        refine wpL_pure (.slice a k c) rfl (by kernel_rfl) ?_
        simp only [Act.put, List.setIfInBounds_toArray, List.set_cons_zero, List.set_cons_succ]
        refine wpL_pure (.slice a k c) rfl (by kernel_rfl) ?_
        simp only [Act.put, List.setIfInBounds_toArray, List.set_cons_zero, List.set_cons_succ]
        refine wpL_pure (.int .i64 (k : Int)) rfl (by kernel_rfl) ?_
        simp only [Act.put, List.setIfInBounds_toArray, List.set_cons_zero, List.set_cons_succ]
        refine wpL_pure (.int .i64 ((k - 1 : Nat) : Int)) rfl (run_subi Tryd.underlying3 rfl rfl rfl _ (by have := H0.out; have := RI.out.1; have := HS.out.1.2.1; unfold maxLen at this; rw [wrap_in _ (by omega) (by omega)]; omega)) ?_
        simp only [Act.put, List.setIfInBounds_toArray, List.set_cons_zero, List.set_cons_succ]
        refine wpL_pure (.pointer (some ⟨g, o + (k - 1), none⟩)) rfl (run_idx _ _ _ _ _ g o k c (k - 1) rfl (by rw [EA.out]; rfl) rfl (by have := H0.out; omega) (by have := RI.out.1; have := HS.out.1.2.1; omega)) ?_
        simp only [Act.put, List.setIfInBounds_toArray, List.set_cons_zero, List.set_cons_succ]
        refine wpL_pure (.int .u8 y) rfl (run_load_one _ _ _ 5 _ _ rfl (g) (o + (k - 1)) rfl (CC.out) (by kernel_rfl)) ?_
        simp only [Act.put, List.setIfInBounds_toArray, List.set_cons_zero, List.set_cons_succ]
        refine wpL_pure (.int .u8 0) rfl (by kernel_rfl) ?_
        simp only [Act.put, List.setIfInBounds_toArray, List.set_cons_zero, List.set_cons_succ]
        refine wpL_pure (.bool false) rfl (run_eqi Tryd.underlying5 rfl rfl rfl (by have := HZ.out; rw [decide_eq_false_iff_not]; omega)) ?_
        simp only [Act.put, List.setIfInBounds_toArray, List.set_cons_zero, List.set_cons_succ]
        refine wpL_pure (.bool false) rfl (by kernel_rfl) ?_
        simp only [Act.put, List.setIfInBounds_toArray, List.set_cons_zero, List.set_cons_succ]
        go_upto_region 3 with (fail)
        refine wp_region_lit ?_
        refine wpL_pure (.slice a k c) rfl (by kernel_rfl) ?_
        simp only [Act.put, List.setIfInBounds_toArray, List.set_cons_zero, List.set_cons_succ]
        refine wpL_pure (.slice a k c) rfl (by kernel_rfl) ?_
        simp only [Act.put, List.setIfInBounds_toArray, List.set_cons_zero, List.set_cons_succ]
        go_wp2_with fail
        go_ret
        exact ⟨k, rfl, RI.out.2.2, RI.out.1, RI.out.2.1, fun _ => by rw [HY.out]; exact HZ.out⟩
    · have H0 := Lib.hid h0
      clear h0
      go_upto_region 1 with (fail)
      refine wp_region_lit ?_
      refine wpL_pure (.slice a k c) rfl (by kernel_rfl) ?_
      simp only [Act.put, List.setIfInBounds_toArray, List.set_cons_zero, List.set_cons_succ]
      refine wpL_pure (.int .i64 (k : Int)) rfl (by kernel_rfl) ?_
      simp only [Act.put, List.setIfInBounds_toArray, List.set_cons_zero, List.set_cons_succ]
      refine wpL_pure (.bool false) rfl (run_gti Tryd.underlying3 rfl rfl rfl (by have := H0.out; rw [decide_eq_false_iff_not]; omega)) ?_
      simp only [Act.put, List.setIfInBounds_toArray, List.set_cons_zero, List.set_cons_succ]
      refine wpL_pure (.bool false) rfl (by kernel_rfl) ?_
      simp only [Act.put, List.setIfInBounds_toArray, List.set_cons_zero, List.set_cons_succ]
      refine wpL_skip (by kernel_rfl) ?_
      simp only [Act.put, List.setIfInBounds_toArray, List.set_cons_zero, List.set_cons_succ]
      refine wpL_skip (by kernel_rfl) ?_
      simp only [Act.put, List.setIfInBounds_toArray, List.set_cons_zero, List.set_cons_succ]
      refine wpL_skip (by kernel_rfl) ?_
      simp only [Act.put, List.setIfInBounds_toArray, List.set_cons_zero, List.set_cons_succ]
      refine wpL_skip (by kernel_rfl) ?_
      simp only [Act.put, List.setIfInBounds_toArray, List.set_cons_zero, List.set_cons_succ]
      refine wpL_skip (by kernel_rfl) ?_
      simp only [Act.put, List.setIfInBounds_toArray, List.set_cons_zero, List.set_cons_succ]
      refine wpL_skip (by kernel_rfl) ?_
      simp only [Act.put, List.setIfInBounds_toArray, List.set_cons_zero, List.set_cons_succ]
      refine wpL_skip (by kernel_rfl) ?_
      simp only [Act.put, List.setIfInBounds_toArray, List.set_cons_zero, List.set_cons_succ]
      refine wpL_skip (by kernel_rfl) ?_
      simp only [Act.put, List.setIfInBounds_toArray, List.set_cons_zero, List.set_cons_succ]
      refine wpL_pure (.bool false) rfl (by kernel_rfl) ?_
      simp only [Act.put, List.setIfInBounds_toArray, List.set_cons_zero, List.set_cons_succ]
      go_upto_region 3 with (fail)
      refine wp_region_lit ?_
      refine wpL_pure (.slice a k c) rfl (by kernel_rfl) ?_
      simp only [Act.put, List.setIfInBounds_toArray, List.set_cons_zero, List.set_cons_succ]
      refine wpL_pure (.slice a k c) rfl (by kernel_rfl) ?_
      simp only [Act.put, List.setIfInBounds_toArray, List.set_cons_zero, List.set_cons_succ]
      go_wp2_with fail
      go_ret
      exact ⟨k, rfl, RI.out.2.2, RI.out.1, RI.out.2.1, fun h => absurd h H0.out⟩
set_option maxHeartbeats 4000000 in
set_option maxRecDepth 100000 in
theorem trim_any (w : World) (a : Option Addr) (n c : Nat) (xs : List Int) (h : Sl w a n c xs) :
    Calls Tryd.prog 13 #[.slice a n c, .string { data := #[0] }] w fun e w' => ∃ k, e = .returned (.slice a k c) ∧ w' = w ∧ k ≤ n ∧ (∀ j, k ≤ j → j < n → xs.getD j 0 = 0) ∧ (0 < k → xs.getD (k - 1) 0 ≠ 0) := by
  have HS := Lib.hid h
  clear h
  go_enter Tryd.func13, Tryd.ntmps13
  go_upto_region 0 with (fail)
  refine wp_region_lit ?_
  refine wpL_pure (.slice none 0 0) rfl (by kernel_rfl) ?_
  simp only [Act.put, List.setIfInBounds_toArray, List.set_cons_zero, List.set_cons_succ]
  by_cases h0 : n = 0
  · have H0 := Lib.hid h0
    clear h0
    go_upto_region 1 with (fail)
    refine wp_region_lit ?_
    refine wpL_pure (.slice a n c) rfl (by kernel_rfl) ?_
    simp only [Act.put, List.setIfInBounds_toArray, List.set_cons_zero, List.set_cons_succ]
    refine wpL_pure (.int .i64 (n : Int)) rfl (by kernel_rfl) ?_
    simp only [Act.put, List.setIfInBounds_toArray, List.set_cons_zero, List.set_cons_succ]
    refine wpL_pure (.bool true) rfl (run_eqi Tryd.underlying3 rfl rfl rfl (by have := H0.out; rw [decide_eq_true_eq]; omega)) ?_
    simp only [Act.put, List.setIfInBounds_toArray, List.set_cons_zero, List.set_cons_succ]
    refine wpL_pure (.bool true) rfl (by kernel_rfl) ?_
    simp only [Act.put, List.setIfInBounds_toArray, List.set_cons_zero, List.set_cons_succ]
    refine wpL_skip (by kernel_rfl) ?_
    simp only [Act.put, List.setIfInBounds_toArray, List.set_cons_zero, List.set_cons_succ]
    refine wpL_skip (by kernel_rfl) ?_
    simp only [Act.put, List.setIfInBounds_toArray, List.set_cons_zero, List.set_cons_succ]
    refine wpL_pure (.bool true) rfl (by kernel_rfl) ?_
    simp only [Act.put, List.setIfInBounds_toArray, List.set_cons_zero, List.set_cons_succ]
    go_upto_region 2 with (fail)
    refine wp_region_lit ?_
    refine wpL_pure (.slice a n c) rfl (by kernel_rfl) ?_
    simp only [Act.put, List.setIfInBounds_toArray, List.set_cons_zero, List.set_cons_succ]
    refine wpL_pure (.slice a n c) rfl (by kernel_rfl) ?_
    simp only [Act.put, List.setIfInBounds_toArray, List.set_cons_zero, List.set_cons_succ]
    go_wp2_with fail
    go_ret
    exact ⟨n, rfl, rfl, by omega, fun j h1 h2 => by omega, fun h => by have := H0.out; omega⟩
  · have H0 := Lib.hid h0
    clear h0
    go_upto_region 1 with (fail)
    refine wp_region_lit ?_
    refine wpL_pure (.slice a n c) rfl (by kernel_rfl) ?_
    simp only [Act.put, List.setIfInBounds_toArray, List.set_cons_zero, List.set_cons_succ]
    refine wpL_pure (.int .i64 (n : Int)) rfl (by kernel_rfl) ?_
    simp only [Act.put, List.setIfInBounds_toArray, List.set_cons_zero, List.set_cons_succ]
    refine wpL_pure (.bool false) rfl (run_eqi Tryd.underlying3 rfl rfl rfl (by have := H0.out; rw [decide_eq_false_iff_not]; omega)) ?_
    simp only [Act.put, List.setIfInBounds_toArray, List.set_cons_zero, List.set_cons_succ]
    refine wpL_pure (.bool false) rfl (by kernel_rfl) ?_
    simp only [Act.put, List.setIfInBounds_toArray, List.set_cons_zero, List.set_cons_succ]
    refine wpL_pure (.string { data := #[0] }) rfl (by kernel_rfl) ?_
    simp only [Act.put, List.setIfInBounds_toArray, List.set_cons_zero, List.set_cons_succ]
    refine wpL_pure (.bool false) rfl (by kernel_rfl) ?_
    simp only [Act.put, List.setIfInBounds_toArray, List.set_cons_zero, List.set_cons_succ]
    refine wpL_pure (.bool false) rfl (by kernel_rfl) ?_
    simp only [Act.put, List.setIfInBounds_toArray, List.set_cons_zero, List.set_cons_succ]
    go_upto_region 3 with (fail)
    refine wp_region_lit ?_
    refine wpL_pure (.string { data := #[0] }) rfl (by kernel_rfl) ?_
    simp only [Act.put, List.setIfInBounds_toArray, List.set_cons_zero, List.set_cons_succ]
    refine wpL_pure (.int .i64 1) rfl (by kernel_rfl) ?_
    simp only [Act.put, List.setIfInBounds_toArray, List.set_cons_zero, List.set_cons_succ]
    refine wpL_pure (.bool true) rfl (by kernel_rfl) ?_
    simp only [Act.put, List.setIfInBounds_toArray, List.set_cons_zero, List.set_cons_succ]
    refine wpL_pure (.bool true) rfl (by kernel_rfl) ?_
    simp only [Act.put, List.setIfInBounds_toArray, List.set_cons_zero, List.set_cons_succ]
    refine wpL_pure (.string { data := #[0] }) rfl (by kernel_rfl) ?_
    simp only [Act.put, List.setIfInBounds_toArray, List.set_cons_zero, List.set_cons_succ]
    refine wpL_pure (.int .u8 0) rfl (by kernel_rfl) ?_
    simp only [Act.put, List.setIfInBounds_toArray, List.set_cons_zero, List.set_cons_succ]
    refine wpL_pure (.bool true) rfl (by kernel_rfl) ?_
    simp only [Act.put, List.setIfInBounds_toArray, List.set_cons_zero, List.set_cons_succ]
    refine wpL_pure (.bool true) rfl (by kernel_rfl) ?_
    simp only [Act.put, List.setIfInBounds_toArray, List.set_cons_zero, List.set_cons_succ]
    go_upto_region 4 with (fail)
    refine wp_region_lit ?_
    refine wpL_pure (.slice a n c) rfl (by kernel_rfl) ?_
    simp only [Act.put, List.setIfInBounds_toArray, List.set_cons_zero, List.set_cons_succ]
    refine wpL_pure (.string { data := #[0] }) rfl (by kernel_rfl) ?_
    simp only [Act.put, List.setIfInBounds_toArray, List.set_cons_zero, List.set_cons_succ]
    refine wpL_pure (.int .u8 0) rfl (by kernel_rfl) ?_
    simp only [Act.put, List.setIfInBounds_toArray, List.set_cons_zero, List.set_cons_succ]
    refine wpL_call 16 #[.slice a n c, .int .u8 0] rfl (by kernel_rfl) (((trimb_any w a n c xs HS.out)).mono fun e w1 ⟨k, he, hw, hp⟩ => ⟨.slice a k c, he, ?_⟩)
    simp only [Act.put, List.setIfInBounds_toArray, List.set_cons_zero, List.set_cons_succ]
    rw [hw]
    clear hw
    have HP := Lib.hid hp
    clear hp
    refine wpL_pure (.slice a k c) rfl (by kernel_rfl) ?_
    simp only [Act.put, List.setIfInBounds_toArray, List.set_cons_zero, List.set_cons_succ]
    go_wp2_with fail
    go_ret
    exact ⟨k, rfl, rfl, HP.out⟩
end Go.Proofs.YtoeojgdolanggaaDoor
