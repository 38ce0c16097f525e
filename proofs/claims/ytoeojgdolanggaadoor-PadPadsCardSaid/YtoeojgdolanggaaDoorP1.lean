import Derived.Test.YtoeojgdolanggaaDoorP0
namespace Go.Proofs.YtoeojgdolanggaaDoor
open Go Go.RowKit

/-- the least bucket with room; 0: none. -/
def bk (n : Nat) : Nat := if n < 64 then 64 else if n < 128 then 128 else if n < 256 then 256 else if n < 512 then 512 else if n < 1024 then 1024 else if n < 2048 then 2048 else 0
def er (b : Nat) : Int := if b = 0 then 3 else 0
attribute [local irreducible] wpList
set_option maxHeartbeats 4000000 in
set_option maxRecDepth 100000 in
theorem bucket_any (n : Nat) (w : World) : Calls Tryd.prog 11 #[.int .i64 (n : Int)] w fun e w' => e = .returned (.tuple #[.int .i64 (bk n : Nat), .int .i64 (er (bk n))]) ∧ w' = w := by
  go_enter Tryd.func11, Tryd.ntmps11
  go_upto_region 0 with (fail)
  refine wp_region_lit ?_
  refine wpL_pure (.int .i64 0) rfl (by kernel_rfl) ?_
  simp only [Act.put, List.setIfInBounds_toArray, List.set_cons_zero, List.set_cons_succ]
  refine wpL_pure (.int .i64 0) rfl (by kernel_rfl) ?_
  simp only [Act.put, List.setIfInBounds_toArray, List.set_cons_zero, List.set_cons_succ]
  go_upto_region 1 with (fail)
  refine wp_region_lit ?_
  refine wpL_pure (.int .i64 (n : Int)) rfl (by kernel_rfl) ?_
  simp only [Act.put, List.setIfInBounds_toArray, List.set_cons_zero, List.set_cons_succ]
  refine wpL_pure (.bool false) rfl (run_lti Tryd.underlying3 rfl rfl rfl (by rw [decide_eq_false_iff_not]; omega)) ?_
  simp only [Act.put, List.setIfInBounds_toArray, List.set_cons_zero, List.set_cons_succ]
  go_upto_region 3 with (fail)
  refine wp_region_lit ?_
  refine wpL_pure (.int .i64 0) rfl (by kernel_rfl) ?_
  simp only [Act.put, List.setIfInBounds_toArray, List.set_cons_zero, List.set_cons_succ]
  go_wp2_with fail
  go_loopw [8] (fun s8 wr => ∃ k : Nat, s8 = .int .i64 (k : Int) ∧ Hid (k ≤ 6 ∧ (k = 0 ∨ 32 * 2 ^ k ≤ n) ∧ wr = w)) (fun s8 _ => 6 - (intOf s8).toNat)
  case atStart => exact ⟨0, rfl, Lib.hid ⟨by omega, .inl rfl, rfl⟩⟩
  case round =>
    obtain ⟨k, rfl, RI⟩ := hrel
    have hk := RI.out.1
    obtain rfl | rfl | rfl | rfl | rfl | rfl | rfl : k = 0 ∨ k = 1 ∨ k = 2 ∨ k = 3 ∨ k = 4 ∨ k = 5 ∨ k = 6 := by omega
    · clear hk
      have KL : Hid (0 = 0 ∨ 32 ≤ n) := Lib.hid (.inl rfl)
      have WE : Hid (wr = w) := Lib.hid RI.out.2.2
      clear RI
      go_upto_region 4 with (fail)
      refine wp_region_lit ?_
      refine wpL_pure (.bool true) rfl (by kernel_rfl) ?_
      simp only [Act.put, List.setIfInBounds_toArray, List.set_cons_zero, List.set_cons_succ]
      go_upto_region 5 with (fail)
      refine wp_region_lit ?_
      refine wpL_pure (.int .i64 0) rfl (by kernel_rfl) ?_
      simp only [Act.put, List.setIfInBounds_toArray, List.set_cons_zero, List.set_cons_succ]
      refine wpL_pure (.int .i64 0) rfl (by kernel_rfl) ?_
      simp only [Act.put, List.setIfInBounds_toArray, List.set_cons_zero, List.set_cons_succ]
      go_upto_region 6 with (fail)
      refine wp_region_lit ?_
      refine wpL_pure (.int .i64 0) rfl (by kernel_rfl) ?_
      simp only [Act.put, List.setIfInBounds_toArray, List.set_cons_zero, List.set_cons_succ]
      refine wpL_pure (.int .i64 64) rfl (by kernel_rfl) ?_
      simp only [Act.put, List.setIfInBounds_toArray, List.set_cons_zero, List.set_cons_succ]
      refine wpL_pure (.int .i64 64) rfl (by kernel_rfl) ?_
      simp only [Act.put, List.setIfInBounds_toArray, List.set_cons_zero, List.set_cons_succ]
      by_cases hn : n < 64
      · have HN := Lib.hid hn
        clear hn
        go_upto_region 7 with (fail)
        refine wp_region_lit ?_
        refine wpL_pure (.int .i64 (n : Int)) rfl (by kernel_rfl) ?_
        simp only [Act.put, List.setIfInBounds_toArray, List.set_cons_zero, List.set_cons_succ]
        refine wpL_pure (.int .i64 64) rfl (by kernel_rfl) ?_
        simp only [Act.put, List.setIfInBounds_toArray, List.set_cons_zero, List.set_cons_succ]
        refine wpL_pure (.bool true) rfl (run_lti Tryd.underlying3 rfl rfl rfl (by have := HN.out; rw [decide_eq_true_eq]; omega)) ?_
        simp only [Act.put, List.setIfInBounds_toArray, List.set_cons_zero, List.set_cons_succ]
        go_upto_region 8 with (fail)
        refine wp_region_lit ?_
        refine wpL_pure (.int .i64 64) rfl (by kernel_rfl) ?_
        simp only [Act.put, List.setIfInBounds_toArray, List.set_cons_zero, List.set_cons_succ]
        refine wpL_pure (.int .i64 64) rfl (by kernel_rfl) ?_
        simp only [Act.put, List.setIfInBounds_toArray, List.set_cons_zero, List.set_cons_succ]
        refine wpL_pure (.int .i64 0) rfl (by kernel_rfl) ?_
        simp only [Act.put, List.setIfInBounds_toArray, List.set_cons_zero, List.set_cons_succ]
        go_wp2_with fail
        refine bodyPost_ret (v := .tuple #[.int .i64 64, .int .i64 0]) (by kernel_rfl) rfl ?_
        have e : bk n = 64 := by have h1 := HN.out; have h2 := KL.out; unfold bk; (repeat' split) <;> omega
        exact ⟨by rw [e]; rfl, WE.out⟩
      · have HN := Lib.hid hn
        clear hn
        go_upto_region 7 with (fail)
        refine wp_region_lit ?_
        refine wpL_pure (.int .i64 (n : Int)) rfl (by kernel_rfl) ?_
        simp only [Act.put, List.setIfInBounds_toArray, List.set_cons_zero, List.set_cons_succ]
        refine wpL_pure (.int .i64 64) rfl (by kernel_rfl) ?_
        simp only [Act.put, List.setIfInBounds_toArray, List.set_cons_zero, List.set_cons_succ]
        refine wpL_pure (.bool false) rfl (run_lti Tryd.underlying3 rfl rfl rfl (by have := HN.out; rw [decide_eq_false_iff_not]; omega)) ?_
        simp only [Act.put, List.setIfInBounds_toArray, List.set_cons_zero, List.set_cons_succ]
        go_upto_region 9 with (fail)
        refine wp_region_lit ?_
        refine wpL_pure (.int .i64 1) rfl (by kernel_rfl) ?_
        simp only [Act.put, List.setIfInBounds_toArray, List.set_cons_zero, List.set_cons_succ]
        refine wpL_pure (.int .i64 1) rfl (by kernel_rfl) ?_
        simp only [Act.put, List.setIfInBounds_toArray, List.set_cons_zero, List.set_cons_succ]
        have NX : Hid (1 ≤ 6 ∧ (1 = 0 ∨ 32 * 2 ^ 1 ≤ n) ∧ wr = w) := Lib.hid ⟨by omega, .inr (by have := HN.out; simp; omega), WE.out⟩
        unfold wpList
        go_roundw
        case rel => first | exact ⟨1, rfl, NX⟩ | ((repeat apply Exists.intro); exact ⟨⟨1, rfl, NX⟩, rfl⟩)
        case measure => simp [intOf]
    · clear hk
      have KL : Hid (1 = 0 ∨ 64 ≤ n) := Lib.hid (.inr (by have h := RI.out.2.1; simp at h; omega))
      have WE : Hid (wr = w) := Lib.hid RI.out.2.2
      clear RI
      go_upto_region 4 with (fail)
      refine wp_region_lit ?_
      refine wpL_pure (.bool true) rfl (by kernel_rfl) ?_
      simp only [Act.put, List.setIfInBounds_toArray, List.set_cons_zero, List.set_cons_succ]
      go_upto_region 5 with (fail)
      refine wp_region_lit ?_
      refine wpL_pure (.int .i64 1) rfl (by kernel_rfl) ?_
      simp only [Act.put, List.setIfInBounds_toArray, List.set_cons_zero, List.set_cons_succ]
      refine wpL_pure (.int .i64 1) rfl (by kernel_rfl) ?_
      simp only [Act.put, List.setIfInBounds_toArray, List.set_cons_zero, List.set_cons_succ]
      go_upto_region 6 with (fail)
      refine wp_region_lit ?_
      refine wpL_pure (.int .i64 1) rfl (by kernel_rfl) ?_
      simp only [Act.put, List.setIfInBounds_toArray, List.set_cons_zero, List.set_cons_succ]
      refine wpL_pure (.int .i64 128) rfl (by kernel_rfl) ?_
      simp only [Act.put, List.setIfInBounds_toArray, List.set_cons_zero, List.set_cons_succ]
      refine wpL_pure (.int .i64 128) rfl (by kernel_rfl) ?_
      simp only [Act.put, List.setIfInBounds_toArray, List.set_cons_zero, List.set_cons_succ]
      by_cases hn : n < 128
      · have HN := Lib.hid hn
        clear hn
        go_upto_region 7 with (fail)
        refine wp_region_lit ?_
        refine wpL_pure (.int .i64 (n : Int)) rfl (by kernel_rfl) ?_
        simp only [Act.put, List.setIfInBounds_toArray, List.set_cons_zero, List.set_cons_succ]
        refine wpL_pure (.int .i64 128) rfl (by kernel_rfl) ?_
        simp only [Act.put, List.setIfInBounds_toArray, List.set_cons_zero, List.set_cons_succ]
        refine wpL_pure (.bool true) rfl (run_lti Tryd.underlying3 rfl rfl rfl (by have := HN.out; rw [decide_eq_true_eq]; omega)) ?_
        simp only [Act.put, List.setIfInBounds_toArray, List.set_cons_zero, List.set_cons_succ]
        go_upto_region 8 with (fail)
        refine wp_region_lit ?_
        refine wpL_pure (.int .i64 128) rfl (by kernel_rfl) ?_
        simp only [Act.put, List.setIfInBounds_toArray, List.set_cons_zero, List.set_cons_succ]
        refine wpL_pure (.int .i64 128) rfl (by kernel_rfl) ?_
        simp only [Act.put, List.setIfInBounds_toArray, List.set_cons_zero, List.set_cons_succ]
        refine wpL_pure (.int .i64 0) rfl (by kernel_rfl) ?_
        simp only [Act.put, List.setIfInBounds_toArray, List.set_cons_zero, List.set_cons_succ]
        go_wp2_with fail
        refine bodyPost_ret (v := .tuple #[.int .i64 128, .int .i64 0]) (by kernel_rfl) rfl ?_
        have e : bk n = 128 := by have h1 := HN.out; have h2 := KL.out; unfold bk; (repeat' split) <;> omega
        exact ⟨by rw [e]; rfl, WE.out⟩
      · have HN := Lib.hid hn
        clear hn
        go_upto_region 7 with (fail)
        refine wp_region_lit ?_
        refine wpL_pure (.int .i64 (n : Int)) rfl (by kernel_rfl) ?_
        simp only [Act.put, List.setIfInBounds_toArray, List.set_cons_zero, List.set_cons_succ]
        refine wpL_pure (.int .i64 128) rfl (by kernel_rfl) ?_
        simp only [Act.put, List.setIfInBounds_toArray, List.set_cons_zero, List.set_cons_succ]
        refine wpL_pure (.bool false) rfl (run_lti Tryd.underlying3 rfl rfl rfl (by have := HN.out; rw [decide_eq_false_iff_not]; omega)) ?_
        simp only [Act.put, List.setIfInBounds_toArray, List.set_cons_zero, List.set_cons_succ]
        go_upto_region 9 with (fail)
        refine wp_region_lit ?_
        refine wpL_pure (.int .i64 2) rfl (by kernel_rfl) ?_
        simp only [Act.put, List.setIfInBounds_toArray, List.set_cons_zero, List.set_cons_succ]
        refine wpL_pure (.int .i64 2) rfl (by kernel_rfl) ?_
        simp only [Act.put, List.setIfInBounds_toArray, List.set_cons_zero, List.set_cons_succ]
        have NX : Hid (2 ≤ 6 ∧ (2 = 0 ∨ 32 * 2 ^ 2 ≤ n) ∧ wr = w) := Lib.hid ⟨by omega, .inr (by have := HN.out; simp; omega), WE.out⟩
        unfold wpList
        go_roundw
        case rel => first | exact ⟨2, rfl, NX⟩ | ((repeat apply Exists.intro); exact ⟨⟨2, rfl, NX⟩, rfl⟩)
        case measure => simp [intOf]
    · clear hk
      have KL : Hid (2 = 0 ∨ 128 ≤ n) := Lib.hid (.inr (by have h := RI.out.2.1; simp at h; omega))
      have WE : Hid (wr = w) := Lib.hid RI.out.2.2
      clear RI
      go_upto_region 4 with (fail)
      refine wp_region_lit ?_
      refine wpL_pure (.bool true) rfl (by kernel_rfl) ?_
      simp only [Act.put, List.setIfInBounds_toArray, List.set_cons_zero, List.set_cons_succ]
      go_upto_region 5 with (fail)
      refine wp_region_lit ?_
      refine wpL_pure (.int .i64 2) rfl (by kernel_rfl) ?_
      simp only [Act.put, List.setIfInBounds_toArray, List.set_cons_zero, List.set_cons_succ]
      refine wpL_pure (.int .i64 2) rfl (by kernel_rfl) ?_
      simp only [Act.put, List.setIfInBounds_toArray, List.set_cons_zero, List.set_cons_succ]
      go_upto_region 6 with (fail)
      refine wp_region_lit ?_
      refine wpL_pure (.int .i64 2) rfl (by kernel_rfl) ?_
      simp only [Act.put, List.setIfInBounds_toArray, List.set_cons_zero, List.set_cons_succ]
      refine wpL_pure (.int .i64 256) rfl (by kernel_rfl) ?_
      simp only [Act.put, List.setIfInBounds_toArray, List.set_cons_zero, List.set_cons_succ]
      refine wpL_pure (.int .i64 256) rfl (by kernel_rfl) ?_
      simp only [Act.put, List.setIfInBounds_toArray, List.set_cons_zero, List.set_cons_succ]
      by_cases hn : n < 256
      · have HN := Lib.hid hn
        clear hn
        go_upto_region 7 with (fail)
        refine wp_region_lit ?_
        refine wpL_pure (.int .i64 (n : Int)) rfl (by kernel_rfl) ?_
        simp only [Act.put, List.setIfInBounds_toArray, List.set_cons_zero, List.set_cons_succ]
        refine wpL_pure (.int .i64 256) rfl (by kernel_rfl) ?_
        simp only [Act.put, List.setIfInBounds_toArray, List.set_cons_zero, List.set_cons_succ]
        refine wpL_pure (.bool true) rfl (run_lti Tryd.underlying3 rfl rfl rfl (by have := HN.out; rw [decide_eq_true_eq]; omega)) ?_
        simp only [Act.put, List.setIfInBounds_toArray, List.set_cons_zero, List.set_cons_succ]
        go_upto_region 8 with (fail)
        refine wp_region_lit ?_
        refine wpL_pure (.int .i64 256) rfl (by kernel_rfl) ?_
        simp only [Act.put, List.setIfInBounds_toArray, List.set_cons_zero, List.set_cons_succ]
        refine wpL_pure (.int .i64 256) rfl (by kernel_rfl) ?_
        simp only [Act.put, List.setIfInBounds_toArray, List.set_cons_zero, List.set_cons_succ]
        refine wpL_pure (.int .i64 0) rfl (by kernel_rfl) ?_
        simp only [Act.put, List.setIfInBounds_toArray, List.set_cons_zero, List.set_cons_succ]
        go_wp2_with fail
        refine bodyPost_ret (v := .tuple #[.int .i64 256, .int .i64 0]) (by kernel_rfl) rfl ?_
        have e : bk n = 256 := by have h1 := HN.out; have h2 := KL.out; unfold bk; (repeat' split) <;> omega
        exact ⟨by rw [e]; rfl, WE.out⟩
      · have HN := Lib.hid hn
        clear hn
        go_upto_region 7 with (fail)
        refine wp_region_lit ?_
        refine wpL_pure (.int .i64 (n : Int)) rfl (by kernel_rfl) ?_
        simp only [Act.put, List.setIfInBounds_toArray, List.set_cons_zero, List.set_cons_succ]
        refine wpL_pure (.int .i64 256) rfl (by kernel_rfl) ?_
        simp only [Act.put, List.setIfInBounds_toArray, List.set_cons_zero, List.set_cons_succ]
        refine wpL_pure (.bool false) rfl (run_lti Tryd.underlying3 rfl rfl rfl (by have := HN.out; rw [decide_eq_false_iff_not]; omega)) ?_
        simp only [Act.put, List.setIfInBounds_toArray, List.set_cons_zero, List.set_cons_succ]
        go_upto_region 9 with (fail)
        refine wp_region_lit ?_
        refine wpL_pure (.int .i64 3) rfl (by kernel_rfl) ?_
        simp only [Act.put, List.setIfInBounds_toArray, List.set_cons_zero, List.set_cons_succ]
        refine wpL_pure (.int .i64 3) rfl (by kernel_rfl) ?_
        simp only [Act.put, List.setIfInBounds_toArray, List.set_cons_zero, List.set_cons_succ]
        have NX : Hid (3 ≤ 6 ∧ (3 = 0 ∨ 32 * 2 ^ 3 ≤ n) ∧ wr = w) := Lib.hid ⟨by omega, .inr (by have := HN.out; simp; omega), WE.out⟩
        unfold wpList
        go_roundw
        case rel => first | exact ⟨3, rfl, NX⟩ | ((repeat apply Exists.intro); exact ⟨⟨3, rfl, NX⟩, rfl⟩)
        case measure => simp [intOf]
    · clear hk
      have KL : Hid (3 = 0 ∨ 256 ≤ n) := Lib.hid (.inr (by have h := RI.out.2.1; simp at h; omega))
      have WE : Hid (wr = w) := Lib.hid RI.out.2.2
      clear RI
      go_upto_region 4 with (fail)
      refine wp_region_lit ?_
      refine wpL_pure (.bool true) rfl (by kernel_rfl) ?_
      simp only [Act.put, List.setIfInBounds_toArray, List.set_cons_zero, List.set_cons_succ]
      go_upto_region 5 with (fail)
      refine wp_region_lit ?_
      refine wpL_pure (.int .i64 3) rfl (by kernel_rfl) ?_
      simp only [Act.put, List.setIfInBounds_toArray, List.set_cons_zero, List.set_cons_succ]
      refine wpL_pure (.int .i64 3) rfl (by kernel_rfl) ?_
      simp only [Act.put, List.setIfInBounds_toArray, List.set_cons_zero, List.set_cons_succ]
      go_upto_region 6 with (fail)
      refine wp_region_lit ?_
      refine wpL_pure (.int .i64 3) rfl (by kernel_rfl) ?_
      simp only [Act.put, List.setIfInBounds_toArray, List.set_cons_zero, List.set_cons_succ]
      refine wpL_pure (.int .i64 512) rfl (by kernel_rfl) ?_
      simp only [Act.put, List.setIfInBounds_toArray, List.set_cons_zero, List.set_cons_succ]
      refine wpL_pure (.int .i64 512) rfl (by kernel_rfl) ?_
      simp only [Act.put, List.setIfInBounds_toArray, List.set_cons_zero, List.set_cons_succ]
      by_cases hn : n < 512
      · have HN := Lib.hid hn
        clear hn
        go_upto_region 7 with (fail)
        refine wp_region_lit ?_
        refine wpL_pure (.int .i64 (n : Int)) rfl (by kernel_rfl) ?_
        simp only [Act.put, List.setIfInBounds_toArray, List.set_cons_zero, List.set_cons_succ]
        refine wpL_pure (.int .i64 512) rfl (by kernel_rfl) ?_
        simp only [Act.put, List.setIfInBounds_toArray, List.set_cons_zero, List.set_cons_succ]
        refine wpL_pure (.bool true) rfl (run_lti Tryd.underlying3 rfl rfl rfl (by have := HN.out; rw [decide_eq_true_eq]; omega)) ?_
        simp only [Act.put, List.setIfInBounds_toArray, List.set_cons_zero, List.set_cons_succ]
        go_upto_region 8 with (fail)
        refine wp_region_lit ?_
        refine wpL_pure (.int .i64 512) rfl (by kernel_rfl) ?_
        simp only [Act.put, List.setIfInBounds_toArray, List.set_cons_zero, List.set_cons_succ]
        refine wpL_pure (.int .i64 512) rfl (by kernel_rfl) ?_
        simp only [Act.put, List.setIfInBounds_toArray, List.set_cons_zero, List.set_cons_succ]
        refine wpL_pure (.int .i64 0) rfl (by kernel_rfl) ?_
        simp only [Act.put, List.setIfInBounds_toArray, List.set_cons_zero, List.set_cons_succ]
        go_wp2_with fail
        refine bodyPost_ret (v := .tuple #[.int .i64 512, .int .i64 0]) (by kernel_rfl) rfl ?_
        have e : bk n = 512 := by have h1 := HN.out; have h2 := KL.out; unfold bk; (repeat' split) <;> omega
        exact ⟨by rw [e]; rfl, WE.out⟩
      · have HN := Lib.hid hn
        clear hn
        go_upto_region 7 with (fail)
        refine wp_region_lit ?_
        refine wpL_pure (.int .i64 (n : Int)) rfl (by kernel_rfl) ?_
        simp only [Act.put, List.setIfInBounds_toArray, List.set_cons_zero, List.set_cons_succ]
        refine wpL_pure (.int .i64 512) rfl (by kernel_rfl) ?_
        simp only [Act.put, List.setIfInBounds_toArray, List.set_cons_zero, List.set_cons_succ]
        refine wpL_pure (.bool false) rfl (run_lti Tryd.underlying3 rfl rfl rfl (by have := HN.out; rw [decide_eq_false_iff_not]; omega)) ?_
        simp only [Act.put, List.setIfInBounds_toArray, List.set_cons_zero, List.set_cons_succ]
        go_upto_region 9 with (fail)
        refine wp_region_lit ?_
        refine wpL_pure (.int .i64 4) rfl (by kernel_rfl) ?_
        simp only [Act.put, List.setIfInBounds_toArray, List.set_cons_zero, List.set_cons_succ]
        refine wpL_pure (.int .i64 4) rfl (by kernel_rfl) ?_
        simp only [Act.put, List.setIfInBounds_toArray, List.set_cons_zero, List.set_cons_succ]
        have NX : Hid (4 ≤ 6 ∧ (4 = 0 ∨ 32 * 2 ^ 4 ≤ n) ∧ wr = w) := Lib.hid ⟨by omega, .inr (by have := HN.out; simp; omega), WE.out⟩
        unfold wpList
        go_roundw
        case rel => first | exact ⟨4, rfl, NX⟩ | ((repeat apply Exists.intro); exact ⟨⟨4, rfl, NX⟩, rfl⟩)
        case measure => simp [intOf]
    · clear hk
      have KL : Hid (4 = 0 ∨ 512 ≤ n) := Lib.hid (.inr (by have h := RI.out.2.1; simp at h; omega))
      have WE : Hid (wr = w) := Lib.hid RI.out.2.2
      clear RI
      go_upto_region 4 with (fail)
      refine wp_region_lit ?_
      refine wpL_pure (.bool true) rfl (by kernel_rfl) ?_
      simp only [Act.put, List.setIfInBounds_toArray, List.set_cons_zero, List.set_cons_succ]
      go_upto_region 5 with (fail)
      refine wp_region_lit ?_
      refine wpL_pure (.int .i64 4) rfl (by kernel_rfl) ?_
      simp only [Act.put, List.setIfInBounds_toArray, List.set_cons_zero, List.set_cons_succ]
      refine wpL_pure (.int .i64 4) rfl (by kernel_rfl) ?_
      simp only [Act.put, List.setIfInBounds_toArray, List.set_cons_zero, List.set_cons_succ]
      go_upto_region 6 with (fail)
      refine wp_region_lit ?_
      refine wpL_pure (.int .i64 4) rfl (by kernel_rfl) ?_
      simp only [Act.put, List.setIfInBounds_toArray, List.set_cons_zero, List.set_cons_succ]
      refine wpL_pure (.int .i64 1024) rfl (by kernel_rfl) ?_
      simp only [Act.put, List.setIfInBounds_toArray, List.set_cons_zero, List.set_cons_succ]
      refine wpL_pure (.int .i64 1024) rfl (by kernel_rfl) ?_
      simp only [Act.put, List.setIfInBounds_toArray, List.set_cons_zero, List.set_cons_succ]
      by_cases hn : n < 1024
      · have HN := Lib.hid hn
        clear hn
        go_upto_region 7 with (fail)
        refine wp_region_lit ?_
        refine wpL_pure (.int .i64 (n : Int)) rfl (by kernel_rfl) ?_
        simp only [Act.put, List.setIfInBounds_toArray, List.set_cons_zero, List.set_cons_succ]
        refine wpL_pure (.int .i64 1024) rfl (by kernel_rfl) ?_
        simp only [Act.put, List.setIfInBounds_toArray, List.set_cons_zero, List.set_cons_succ]
        refine wpL_pure (.bool true) rfl (run_lti Tryd.underlying3 rfl rfl rfl (by have := HN.out; rw [decide_eq_true_eq]; omega)) ?_
        simp only [Act.put, List.setIfInBounds_toArray, List.set_cons_zero, List.set_cons_succ]
        go_upto_region 8 with (fail)
        refine wp_region_lit ?_
        refine wpL_pure (.int .i64 1024) rfl (by kernel_rfl) ?_
        simp only [Act.put, List.setIfInBounds_toArray, List.set_cons_zero, List.set_cons_succ]
        refine wpL_pure (.int .i64 1024) rfl (by kernel_rfl) ?_
        simp only [Act.put, List.setIfInBounds_toArray, List.set_cons_zero, List.set_cons_succ]
        refine wpL_pure (.int .i64 0) rfl (by kernel_rfl) ?_
        simp only [Act.put, List.setIfInBounds_toArray, List.set_cons_zero, List.set_cons_succ]
        go_wp2_with fail
        refine bodyPost_ret (v := .tuple #[.int .i64 1024, .int .i64 0]) (by kernel_rfl) rfl ?_
        have e : bk n = 1024 := by have h1 := HN.out; have h2 := KL.out; unfold bk; (repeat' split) <;> omega
        exact ⟨by rw [e]; rfl, WE.out⟩
      · have HN := Lib.hid hn
        clear hn
        go_upto_region 7 with (fail)
        refine wp_region_lit ?_
        refine wpL_pure (.int .i64 (n : Int)) rfl (by kernel_rfl) ?_
        simp only [Act.put, List.setIfInBounds_toArray, List.set_cons_zero, List.set_cons_succ]
        refine wpL_pure (.int .i64 1024) rfl (by kernel_rfl) ?_
        simp only [Act.put, List.setIfInBounds_toArray, List.set_cons_zero, List.set_cons_succ]
        refine wpL_pure (.bool false) rfl (run_lti Tryd.underlying3 rfl rfl rfl (by have := HN.out; rw [decide_eq_false_iff_not]; omega)) ?_
        simp only [Act.put, List.setIfInBounds_toArray, List.set_cons_zero, List.set_cons_succ]
        go_upto_region 9 with (fail)
        refine wp_region_lit ?_
        refine wpL_pure (.int .i64 5) rfl (by kernel_rfl) ?_
        simp only [Act.put, List.setIfInBounds_toArray, List.set_cons_zero, List.set_cons_succ]
        refine wpL_pure (.int .i64 5) rfl (by kernel_rfl) ?_
        simp only [Act.put, List.setIfInBounds_toArray, List.set_cons_zero, List.set_cons_succ]
        have NX : Hid (5 ≤ 6 ∧ (5 = 0 ∨ 32 * 2 ^ 5 ≤ n) ∧ wr = w) := Lib.hid ⟨by omega, .inr (by have := HN.out; simp; omega), WE.out⟩
        unfold wpList
        go_roundw
        case rel => first | exact ⟨5, rfl, NX⟩ | ((repeat apply Exists.intro); exact ⟨⟨5, rfl, NX⟩, rfl⟩)
        case measure => simp [intOf]
    · clear hk
      have KL : Hid (5 = 0 ∨ 1024 ≤ n) := Lib.hid (.inr (by have h := RI.out.2.1; simp at h; omega))
      have WE : Hid (wr = w) := Lib.hid RI.out.2.2
      clear RI
      go_upto_region 4 with (fail)
      refine wp_region_lit ?_
      refine wpL_pure (.bool true) rfl (by kernel_rfl) ?_
      simp only [Act.put, List.setIfInBounds_toArray, List.set_cons_zero, List.set_cons_succ]
      go_upto_region 5 with (fail)
      refine wp_region_lit ?_
      refine wpL_pure (.int .i64 5) rfl (by kernel_rfl) ?_
      simp only [Act.put, List.setIfInBounds_toArray, List.set_cons_zero, List.set_cons_succ]
      refine wpL_pure (.int .i64 5) rfl (by kernel_rfl) ?_
      simp only [Act.put, List.setIfInBounds_toArray, List.set_cons_zero, List.set_cons_succ]
      go_upto_region 6 with (fail)
      refine wp_region_lit ?_
      refine wpL_pure (.int .i64 5) rfl (by kernel_rfl) ?_
      simp only [Act.put, List.setIfInBounds_toArray, List.set_cons_zero, List.set_cons_succ]
      refine wpL_pure (.int .i64 2048) rfl (by kernel_rfl) ?_
      simp only [Act.put, List.setIfInBounds_toArray, List.set_cons_zero, List.set_cons_succ]
      refine wpL_pure (.int .i64 2048) rfl (by kernel_rfl) ?_
      simp only [Act.put, List.setIfInBounds_toArray, List.set_cons_zero, List.set_cons_succ]
      by_cases hn : n < 2048
      · have HN := Lib.hid hn
        clear hn
        go_upto_region 7 with (fail)
        refine wp_region_lit ?_
        refine wpL_pure (.int .i64 (n : Int)) rfl (by kernel_rfl) ?_
        simp only [Act.put, List.setIfInBounds_toArray, List.set_cons_zero, List.set_cons_succ]
        refine wpL_pure (.int .i64 2048) rfl (by kernel_rfl) ?_
        simp only [Act.put, List.setIfInBounds_toArray, List.set_cons_zero, List.set_cons_succ]
        refine wpL_pure (.bool true) rfl (run_lti Tryd.underlying3 rfl rfl rfl (by have := HN.out; rw [decide_eq_true_eq]; omega)) ?_
        simp only [Act.put, List.setIfInBounds_toArray, List.set_cons_zero, List.set_cons_succ]
        go_upto_region 8 with (fail)
        refine wp_region_lit ?_
        refine wpL_pure (.int .i64 2048) rfl (by kernel_rfl) ?_
        simp only [Act.put, List.setIfInBounds_toArray, List.set_cons_zero, List.set_cons_succ]
        refine wpL_pure (.int .i64 2048) rfl (by kernel_rfl) ?_
        simp only [Act.put, List.setIfInBounds_toArray, List.set_cons_zero, List.set_cons_succ]
        refine wpL_pure (.int .i64 0) rfl (by kernel_rfl) ?_
        simp only [Act.put, List.setIfInBounds_toArray, List.set_cons_zero, List.set_cons_succ]
        go_wp2_with fail
        refine bodyPost_ret (v := .tuple #[.int .i64 2048, .int .i64 0]) (by kernel_rfl) rfl ?_
        have e : bk n = 2048 := by have h1 := HN.out; have h2 := KL.out; unfold bk; (repeat' split) <;> omega
        exact ⟨by rw [e]; rfl, WE.out⟩
      · have HN := Lib.hid hn
        clear hn
        go_upto_region 7 with (fail)
        refine wp_region_lit ?_
        refine wpL_pure (.int .i64 (n : Int)) rfl (by kernel_rfl) ?_
        simp only [Act.put, List.setIfInBounds_toArray, List.set_cons_zero, List.set_cons_succ]
        refine wpL_pure (.int .i64 2048) rfl (by kernel_rfl) ?_
        simp only [Act.put, List.setIfInBounds_toArray, List.set_cons_zero, List.set_cons_succ]
        refine wpL_pure (.bool false) rfl (run_lti Tryd.underlying3 rfl rfl rfl (by have := HN.out; rw [decide_eq_false_iff_not]; omega)) ?_
        simp only [Act.put, List.setIfInBounds_toArray, List.set_cons_zero, List.set_cons_succ]
        go_upto_region 9 with (fail)
        refine wp_region_lit ?_
        refine wpL_pure (.int .i64 6) rfl (by kernel_rfl) ?_
        simp only [Act.put, List.setIfInBounds_toArray, List.set_cons_zero, List.set_cons_succ]
        refine wpL_pure (.int .i64 6) rfl (by kernel_rfl) ?_
        simp only [Act.put, List.setIfInBounds_toArray, List.set_cons_zero, List.set_cons_succ]
        have NX : Hid (6 ≤ 6 ∧ (6 = 0 ∨ 32 * 2 ^ 6 ≤ n) ∧ wr = w) := Lib.hid ⟨by omega, .inr (by have := HN.out; simp; omega), WE.out⟩
        unfold wpList
        go_roundw
        case rel => first | exact ⟨6, rfl, NX⟩ | ((repeat apply Exists.intro); exact ⟨⟨6, rfl, NX⟩, rfl⟩)
        case measure => simp [intOf]
    · clear hk
      have KL : Hid (6 = 0 ∨ 2048 ≤ n) := Lib.hid (.inr (by have h := RI.out.2.1; simp at h; omega))
      have WE : Hid (wr = w) := Lib.hid RI.out.2.2
      clear RI
      go_upto_region 4 with (fail)
      refine wp_region_lit ?_
      refine wpL_pure (.bool false) rfl (by kernel_rfl) ?_
      simp only [Act.put, List.setIfInBounds_toArray, List.set_cons_zero, List.set_cons_succ]
      go_upto_region 10 with (fail)
      refine wp_region_lit ?_
      refine wpL_pure (.int .i64 0) rfl (by kernel_rfl) ?_
      simp only [Act.put, List.setIfInBounds_toArray, List.set_cons_zero, List.set_cons_succ]
      refine wpL_pure (.int .i64 3) rfl (by kernel_rfl) ?_
      simp only [Act.put, List.setIfInBounds_toArray, List.set_cons_zero, List.set_cons_succ]
      go_wp2_with fail
      refine bodyPost_ret (v := .tuple #[.int .i64 0, .int .i64 3]) (by kernel_rfl) rfl ?_
      have e : bk n = 0 := by have h2 := KL.out; unfold bk; (repeat' split) <;> omega
      exact ⟨by rw [e]; rfl, WE.out⟩
set_option maxHeartbeats 4000000 in
set_option maxRecDepth 100000 in
theorem refbucket_any (n : Nat) (w : World) : Calls Tryd.prog 7 #[.int .i64 (n : Int)] w fun e w' => e = .returned (.int .i64 (bk n : Nat)) ∧ Below w.heap.size w w' := by
  go_enter Tryd.func7, Tryd.ntmps7
  go_upto_region 0 with (fail)
  refine wp_region_lit ?_
  refine wpL_pure (.int .i64 0) rfl (by kernel_rfl) ?_
  simp only [Act.put, List.setIfInBounds_toArray, List.set_cons_zero, List.set_cons_succ]
  obtain ⟨w1, hw1⟩ : ∃ V, V = (w.alloc (.cells #[.int .i64 0, .int .i64 0, .int .i64 0, .int .i64 0, .int .i64 0, .int .i64 0] 34)).setRow w.heap.size #[.int .i64 64, .int .i64 128, .int .i64 256, .int .i64 512, .int .i64 1024, .int .i64 2048] := ⟨_, rfl⟩
  have B1 : Hid (Blk w1 w.heap.size 34 #[.int .i64 64, .int .i64 128, .int .i64 256, .int .i64 512, .int .i64 1024, .int .i64 2048] ∧ Below w.heap.size w w1) := Lib.hid (by rw [hw1]; exact ⟨setRow_heap _ _ _ _ _ _ (Blk.new w 34 _), below_setRow ((Below.refl _ _).alloc (Nat.le_refl _) _) (Nat.le_refl _) _⟩)
  go_upto_region 1 with (fail)
  refine wp_region_lit ?_
  refine wpL_pure (.agg #[.int .i64 64, .int .i64 128, .int .i64 256, .int .i64 512, .int .i64 1024, .int .i64 2048]) rfl (by kernel_rfl) ?_
  simp only [Act.put, List.setIfInBounds_toArray, List.set_cons_zero, List.set_cons_succ]
  refine wpL_value (.pointer (some ⟨w.heap.size, 0, none⟩)) (w.alloc (.cells #[.int .i64 0, .int .i64 0, .int .i64 0, .int .i64 0, .int .i64 0, .int .i64 0] 34)) rfl (by kernel_rfl) ?_
  simp only [Act.put, List.setIfInBounds_toArray, List.set_cons_zero, List.set_cons_succ]
  refine wpList_store_rowTo rfl 34 _ _ rfl rfl w.heap.size #[.int .i64 64, .int .i64 128, .int .i64 256, .int .i64 512, .int .i64 1024, .int .i64 2048] rfl rfl 34 _ (Blk.new w 34 _) (by kernel_rfl) (by kernel_rfl) (by kernel_rfl) ?_
  rw [← hw1]
  clear hw1
  obtain ⟨g3, h3⟩ : ∃ q, w.heap.size = q := ⟨_, rfl⟩
  have G3 : Hid (w.heap.size = g3) := Lib.hid h3
  rw [h3] at B1
  try rw [h3]
  clear h3
  go_upto_region 2 with (fail)
  refine wp_region_lit ?_
  refine wpL_pure (.int .i64 0) rfl (by kernel_rfl) ?_
  simp only [Act.put, List.setIfInBounds_toArray, List.set_cons_zero, List.set_cons_succ]
  go_wp2_with fail
  go_loopw [4] (fun s4 wr => ∃ k : Nat, s4 = .int .i64 (k : Int) ∧ Hid (k ≤ 6 ∧ (k = 0 ∨ 32 * 2 ^ k ≤ n) ∧ wr = w1)) (fun s4 _ => 6 - (intOf s4).toNat)
  case atStart => exact ⟨0, rfl, Lib.hid ⟨by omega, .inl rfl, rfl⟩⟩
  case round =>
    obtain ⟨k, rfl, RI⟩ := hrel
    have hk := RI.out.1
    have WB : Hid (Blk wr g3 34 #[.int .i64 64, .int .i64 128, .int .i64 256, .int .i64 512, .int .i64 1024, .int .i64 2048] ∧ Below g3 w wr) := Lib.hid (by rw [RI.out.2.2]; exact B1.out)
    obtain rfl | rfl | rfl | rfl | rfl | rfl | rfl : k = 0 ∨ k = 1 ∨ k = 2 ∨ k = 3 ∨ k = 4 ∨ k = 5 ∨ k = 6 := by omega
    · clear hk
      have KL : Hid (0 = 0 ∨ 32 ≤ n) := Lib.hid (.inl rfl)
      have WE : Hid (wr = w1) := Lib.hid RI.out.2.2
      clear RI
      go_upto_region 3 with (fail)
      refine wp_region_lit ?_
      refine wpL_pure (.int .i64 0) rfl (by kernel_rfl) ?_
      simp only [Act.put, List.setIfInBounds_toArray, List.set_cons_zero, List.set_cons_succ]
      refine wpL_pure (.bool true) rfl (by kernel_rfl) ?_
      simp only [Act.put, List.setIfInBounds_toArray, List.set_cons_zero, List.set_cons_succ]
      by_cases hn : n < 64
      · have HN := Lib.hid hn
        clear hn
        go_upto_region 5 with (fail)
        refine wp_region_lit ?_
        refine wpL_pure (.int .i64 (n : Int)) rfl (by kernel_rfl) ?_
        simp only [Act.put, List.setIfInBounds_toArray, List.set_cons_zero, List.set_cons_succ]
        refine wpL_pure (.int .i64 0) rfl (by kernel_rfl) ?_
        simp only [Act.put, List.setIfInBounds_toArray, List.set_cons_zero, List.set_cons_succ]
        refine wpL_pure (.pointer (some ⟨g3, 0, none⟩)) rfl (by kernel_rfl) ?_
        simp only [Act.put, List.setIfInBounds_toArray, List.set_cons_zero, List.set_cons_succ]
        refine wpL_pure (.int .i64 64) rfl (run_load_one _ _ _ 3 _ _ rfl (g3) (0) rfl (by rw [WB.out.1.cell]; rfl) (by kernel_rfl)) ?_
        simp only [Act.put, List.setIfInBounds_toArray, List.set_cons_zero, List.set_cons_succ]
        refine wpL_pure (.bool true) rfl (run_lti Tryd.underlying3 rfl rfl rfl (by have := HN.out; rw [decide_eq_true_eq]; omega)) ?_
        simp only [Act.put, List.setIfInBounds_toArray, List.set_cons_zero, List.set_cons_succ]
        go_upto_region 6 with (fail)
        refine wp_region_lit ?_
        refine wpL_pure (.int .i64 0) rfl (by kernel_rfl) ?_
        simp only [Act.put, List.setIfInBounds_toArray, List.set_cons_zero, List.set_cons_succ]
        refine wpL_pure (.pointer (some ⟨g3, 0, none⟩)) rfl (by kernel_rfl) ?_
        simp only [Act.put, List.setIfInBounds_toArray, List.set_cons_zero, List.set_cons_succ]
        refine wpL_pure (.int .i64 64) rfl (run_load_one _ _ _ 3 _ _ rfl (g3) (0) rfl (by rw [WB.out.1.cell]; rfl) (by kernel_rfl)) ?_
        simp only [Act.put, List.setIfInBounds_toArray, List.set_cons_zero, List.set_cons_succ]
        refine wpL_pure (.int .i64 64) rfl (by kernel_rfl) ?_
        simp only [Act.put, List.setIfInBounds_toArray, List.set_cons_zero, List.set_cons_succ]
        go_wp2_with fail
        go_ret
        have e : bk n = 64 := by have h1 := HN.out; have h2 := KL.out; unfold bk; (repeat' split) <;> omega
        exact ⟨by rw [e]; rfl, by rw [G3.out]; exact WB.out.2⟩
      · have HN := Lib.hid hn
        clear hn
        go_upto_region 5 with (fail)
        refine wp_region_lit ?_
        refine wpL_pure (.int .i64 (n : Int)) rfl (by kernel_rfl) ?_
        simp only [Act.put, List.setIfInBounds_toArray, List.set_cons_zero, List.set_cons_succ]
        refine wpL_pure (.int .i64 0) rfl (by kernel_rfl) ?_
        simp only [Act.put, List.setIfInBounds_toArray, List.set_cons_zero, List.set_cons_succ]
        refine wpL_pure (.pointer (some ⟨g3, 0, none⟩)) rfl (by kernel_rfl) ?_
        simp only [Act.put, List.setIfInBounds_toArray, List.set_cons_zero, List.set_cons_succ]
        refine wpL_pure (.int .i64 64) rfl (run_load_one _ _ _ 3 _ _ rfl (g3) (0) rfl (by rw [WB.out.1.cell]; rfl) (by kernel_rfl)) ?_
        simp only [Act.put, List.setIfInBounds_toArray, List.set_cons_zero, List.set_cons_succ]
        refine wpL_pure (.bool false) rfl (run_lti Tryd.underlying3 rfl rfl rfl (by have := HN.out; rw [decide_eq_false_iff_not]; omega)) ?_
        simp only [Act.put, List.setIfInBounds_toArray, List.set_cons_zero, List.set_cons_succ]
        go_upto_region 4 with (fail)
        refine wp_region_lit ?_
        refine wpL_pure (.int .i64 0) rfl (by kernel_rfl) ?_
        simp only [Act.put, List.setIfInBounds_toArray, List.set_cons_zero, List.set_cons_succ]
        refine wpL_pure (.int .i64 1) rfl (by kernel_rfl) ?_
        simp only [Act.put, List.setIfInBounds_toArray, List.set_cons_zero, List.set_cons_succ]
        refine wpL_pure (.int .i64 1) rfl (by kernel_rfl) ?_
        simp only [Act.put, List.setIfInBounds_toArray, List.set_cons_zero, List.set_cons_succ]
        have NX : Hid (1 ≤ 6 ∧ (1 = 0 ∨ 32 * 2 ^ 1 ≤ n) ∧ wr = w1) := Lib.hid ⟨by omega, .inr (by have := HN.out; simp; omega), WE.out⟩
        unfold wpList
        go_roundw
        case rel => first | exact ⟨1, rfl, NX⟩ | ((repeat apply Exists.intro); exact ⟨⟨1, rfl, NX⟩, rfl⟩)
        case measure => simp [intOf]
    · clear hk
      have KL : Hid (1 = 0 ∨ 64 ≤ n) := Lib.hid (.inr (by have h := RI.out.2.1; simp at h; omega))
      have WE : Hid (wr = w1) := Lib.hid RI.out.2.2
      clear RI
      go_upto_region 3 with (fail)
      refine wp_region_lit ?_
      refine wpL_pure (.int .i64 1) rfl (by kernel_rfl) ?_
      simp only [Act.put, List.setIfInBounds_toArray, List.set_cons_zero, List.set_cons_succ]
      refine wpL_pure (.bool true) rfl (by kernel_rfl) ?_
      simp only [Act.put, List.setIfInBounds_toArray, List.set_cons_zero, List.set_cons_succ]
      by_cases hn : n < 128
      · have HN := Lib.hid hn
        clear hn
        go_upto_region 5 with (fail)
        refine wp_region_lit ?_
        refine wpL_pure (.int .i64 (n : Int)) rfl (by kernel_rfl) ?_
        simp only [Act.put, List.setIfInBounds_toArray, List.set_cons_zero, List.set_cons_succ]
        refine wpL_pure (.int .i64 1) rfl (by kernel_rfl) ?_
        simp only [Act.put, List.setIfInBounds_toArray, List.set_cons_zero, List.set_cons_succ]
        refine wpL_pure (.pointer (some ⟨g3, 1, none⟩)) rfl (by kernel_rfl) ?_
        simp only [Act.put, List.setIfInBounds_toArray, List.set_cons_zero, List.set_cons_succ]
        refine wpL_pure (.int .i64 128) rfl (run_load_one _ _ _ 3 _ _ rfl (g3) (1) rfl (by rw [WB.out.1.cell]; rfl) (by kernel_rfl)) ?_
        simp only [Act.put, List.setIfInBounds_toArray, List.set_cons_zero, List.set_cons_succ]
        refine wpL_pure (.bool true) rfl (run_lti Tryd.underlying3 rfl rfl rfl (by have := HN.out; rw [decide_eq_true_eq]; omega)) ?_
        simp only [Act.put, List.setIfInBounds_toArray, List.set_cons_zero, List.set_cons_succ]
        go_upto_region 6 with (fail)
        refine wp_region_lit ?_
        refine wpL_pure (.int .i64 1) rfl (by kernel_rfl) ?_
        simp only [Act.put, List.setIfInBounds_toArray, List.set_cons_zero, List.set_cons_succ]
        refine wpL_pure (.pointer (some ⟨g3, 1, none⟩)) rfl (by kernel_rfl) ?_
        simp only [Act.put, List.setIfInBounds_toArray, List.set_cons_zero, List.set_cons_succ]
        refine wpL_pure (.int .i64 128) rfl (run_load_one _ _ _ 3 _ _ rfl (g3) (1) rfl (by rw [WB.out.1.cell]; rfl) (by kernel_rfl)) ?_
        simp only [Act.put, List.setIfInBounds_toArray, List.set_cons_zero, List.set_cons_succ]
        refine wpL_pure (.int .i64 128) rfl (by kernel_rfl) ?_
        simp only [Act.put, List.setIfInBounds_toArray, List.set_cons_zero, List.set_cons_succ]
        go_wp2_with fail
        go_ret
        have e : bk n = 128 := by have h1 := HN.out; have h2 := KL.out; unfold bk; (repeat' split) <;> omega
        exact ⟨by rw [e]; rfl, by rw [G3.out]; exact WB.out.2⟩
      · have HN := Lib.hid hn
        clear hn
        go_upto_region 5 with (fail)
        refine wp_region_lit ?_
        refine wpL_pure (.int .i64 (n : Int)) rfl (by kernel_rfl) ?_
        simp only [Act.put, List.setIfInBounds_toArray, List.set_cons_zero, List.set_cons_succ]
        refine wpL_pure (.int .i64 1) rfl (by kernel_rfl) ?_
        simp only [Act.put, List.setIfInBounds_toArray, List.set_cons_zero, List.set_cons_succ]
        refine wpL_pure (.pointer (some ⟨g3, 1, none⟩)) rfl (by kernel_rfl) ?_
        simp only [Act.put, List.setIfInBounds_toArray, List.set_cons_zero, List.set_cons_succ]
        refine wpL_pure (.int .i64 128) rfl (run_load_one _ _ _ 3 _ _ rfl (g3) (1) rfl (by rw [WB.out.1.cell]; rfl) (by kernel_rfl)) ?_
        simp only [Act.put, List.setIfInBounds_toArray, List.set_cons_zero, List.set_cons_succ]
        refine wpL_pure (.bool false) rfl (run_lti Tryd.underlying3 rfl rfl rfl (by have := HN.out; rw [decide_eq_false_iff_not]; omega)) ?_
        simp only [Act.put, List.setIfInBounds_toArray, List.set_cons_zero, List.set_cons_succ]
        go_upto_region 4 with (fail)
        refine wp_region_lit ?_
        refine wpL_pure (.int .i64 1) rfl (by kernel_rfl) ?_
        simp only [Act.put, List.setIfInBounds_toArray, List.set_cons_zero, List.set_cons_succ]
        refine wpL_pure (.int .i64 2) rfl (by kernel_rfl) ?_
        simp only [Act.put, List.setIfInBounds_toArray, List.set_cons_zero, List.set_cons_succ]
        refine wpL_pure (.int .i64 2) rfl (by kernel_rfl) ?_
        simp only [Act.put, List.setIfInBounds_toArray, List.set_cons_zero, List.set_cons_succ]
        have NX : Hid (2 ≤ 6 ∧ (2 = 0 ∨ 32 * 2 ^ 2 ≤ n) ∧ wr = w1) := Lib.hid ⟨by omega, .inr (by have := HN.out; simp; omega), WE.out⟩
        unfold wpList
        go_roundw
        case rel => first | exact ⟨2, rfl, NX⟩ | ((repeat apply Exists.intro); exact ⟨⟨2, rfl, NX⟩, rfl⟩)
        case measure => simp [intOf]
    · clear hk
      have KL : Hid (2 = 0 ∨ 128 ≤ n) := Lib.hid (.inr (by have h := RI.out.2.1; simp at h; omega))
      have WE : Hid (wr = w1) := Lib.hid RI.out.2.2
      clear RI
      go_upto_region 3 with (fail)
      refine wp_region_lit ?_
      refine wpL_pure (.int .i64 2) rfl (by kernel_rfl) ?_
      simp only [Act.put, List.setIfInBounds_toArray, List.set_cons_zero, List.set_cons_succ]
      refine wpL_pure (.bool true) rfl (by kernel_rfl) ?_
      simp only [Act.put, List.setIfInBounds_toArray, List.set_cons_zero, List.set_cons_succ]
      by_cases hn : n < 256
      · have HN := Lib.hid hn
        clear hn
        go_upto_region 5 with (fail)
        refine wp_region_lit ?_
        refine wpL_pure (.int .i64 (n : Int)) rfl (by kernel_rfl) ?_
        simp only [Act.put, List.setIfInBounds_toArray, List.set_cons_zero, List.set_cons_succ]
        refine wpL_pure (.int .i64 2) rfl (by kernel_rfl) ?_
        simp only [Act.put, List.setIfInBounds_toArray, List.set_cons_zero, List.set_cons_succ]
        refine wpL_pure (.pointer (some ⟨g3, 2, none⟩)) rfl (by kernel_rfl) ?_
        simp only [Act.put, List.setIfInBounds_toArray, List.set_cons_zero, List.set_cons_succ]
        refine wpL_pure (.int .i64 256) rfl (run_load_one _ _ _ 3 _ _ rfl (g3) (2) rfl (by rw [WB.out.1.cell]; rfl) (by kernel_rfl)) ?_
        simp only [Act.put, List.setIfInBounds_toArray, List.set_cons_zero, List.set_cons_succ]
        refine wpL_pure (.bool true) rfl (run_lti Tryd.underlying3 rfl rfl rfl (by have := HN.out; rw [decide_eq_true_eq]; omega)) ?_
        simp only [Act.put, List.setIfInBounds_toArray, List.set_cons_zero, List.set_cons_succ]
        go_upto_region 6 with (fail)
        refine wp_region_lit ?_
        refine wpL_pure (.int .i64 2) rfl (by kernel_rfl) ?_
        simp only [Act.put, List.setIfInBounds_toArray, List.set_cons_zero, List.set_cons_succ]
        refine wpL_pure (.pointer (some ⟨g3, 2, none⟩)) rfl (by kernel_rfl) ?_
        simp only [Act.put, List.setIfInBounds_toArray, List.set_cons_zero, List.set_cons_succ]
        refine wpL_pure (.int .i64 256) rfl (run_load_one _ _ _ 3 _ _ rfl (g3) (2) rfl (by rw [WB.out.1.cell]; rfl) (by kernel_rfl)) ?_
        simp only [Act.put, List.setIfInBounds_toArray, List.set_cons_zero, List.set_cons_succ]
        refine wpL_pure (.int .i64 256) rfl (by kernel_rfl) ?_
        simp only [Act.put, List.setIfInBounds_toArray, List.set_cons_zero, List.set_cons_succ]
        go_wp2_with fail
        go_ret
        have e : bk n = 256 := by have h1 := HN.out; have h2 := KL.out; unfold bk; (repeat' split) <;> omega
        exact ⟨by rw [e]; rfl, by rw [G3.out]; exact WB.out.2⟩
      · have HN := Lib.hid hn
        clear hn
        go_upto_region 5 with (fail)
        refine wp_region_lit ?_
        refine wpL_pure (.int .i64 (n : Int)) rfl (by kernel_rfl) ?_
        simp only [Act.put, List.setIfInBounds_toArray, List.set_cons_zero, List.set_cons_succ]
        refine wpL_pure (.int .i64 2) rfl (by kernel_rfl) ?_
        simp only [Act.put, List.setIfInBounds_toArray, List.set_cons_zero, List.set_cons_succ]
        refine wpL_pure (.pointer (some ⟨g3, 2, none⟩)) rfl (by kernel_rfl) ?_
        simp only [Act.put, List.setIfInBounds_toArray, List.set_cons_zero, List.set_cons_succ]
        refine wpL_pure (.int .i64 256) rfl (run_load_one _ _ _ 3 _ _ rfl (g3) (2) rfl (by rw [WB.out.1.cell]; rfl) (by kernel_rfl)) ?_
        simp only [Act.put, List.setIfInBounds_toArray, List.set_cons_zero, List.set_cons_succ]
        refine wpL_pure (.bool false) rfl (run_lti Tryd.underlying3 rfl rfl rfl (by have := HN.out; rw [decide_eq_false_iff_not]; omega)) ?_
        simp only [Act.put, List.setIfInBounds_toArray, List.set_cons_zero, List.set_cons_succ]
        go_upto_region 4 with (fail)
        refine wp_region_lit ?_
        refine wpL_pure (.int .i64 2) rfl (by kernel_rfl) ?_
        simp only [Act.put, List.setIfInBounds_toArray, List.set_cons_zero, List.set_cons_succ]
        refine wpL_pure (.int .i64 3) rfl (by kernel_rfl) ?_
        simp only [Act.put, List.setIfInBounds_toArray, List.set_cons_zero, List.set_cons_succ]
        refine wpL_pure (.int .i64 3) rfl (by kernel_rfl) ?_
        simp only [Act.put, List.setIfInBounds_toArray, List.set_cons_zero, List.set_cons_succ]
        have NX : Hid (3 ≤ 6 ∧ (3 = 0 ∨ 32 * 2 ^ 3 ≤ n) ∧ wr = w1) := Lib.hid ⟨by omega, .inr (by have := HN.out; simp; omega), WE.out⟩
        unfold wpList
        go_roundw
        case rel => first | exact ⟨3, rfl, NX⟩ | ((repeat apply Exists.intro); exact ⟨⟨3, rfl, NX⟩, rfl⟩)
        case measure => simp [intOf]
    · clear hk
      have KL : Hid (3 = 0 ∨ 256 ≤ n) := Lib.hid (.inr (by have h := RI.out.2.1; simp at h; omega))
      have WE : Hid (wr = w1) := Lib.hid RI.out.2.2
      clear RI
      go_upto_region 3 with (fail)
      refine wp_region_lit ?_
      refine wpL_pure (.int .i64 3) rfl (by kernel_rfl) ?_
      simp only [Act.put, List.setIfInBounds_toArray, List.set_cons_zero, List.set_cons_succ]
      refine wpL_pure (.bool true) rfl (by kernel_rfl) ?_
      simp only [Act.put, List.setIfInBounds_toArray, List.set_cons_zero, List.set_cons_succ]
      by_cases hn : n < 512
      · have HN := Lib.hid hn
        clear hn
        go_upto_region 5 with (fail)
        refine wp_region_lit ?_
        refine wpL_pure (.int .i64 (n : Int)) rfl (by kernel_rfl) ?_
        simp only [Act.put, List.setIfInBounds_toArray, List.set_cons_zero, List.set_cons_succ]
        refine wpL_pure (.int .i64 3) rfl (by kernel_rfl) ?_
        simp only [Act.put, List.setIfInBounds_toArray, List.set_cons_zero, List.set_cons_succ]
        refine wpL_pure (.pointer (some ⟨g3, 3, none⟩)) rfl (by kernel_rfl) ?_
        simp only [Act.put, List.setIfInBounds_toArray, List.set_cons_zero, List.set_cons_succ]
        refine wpL_pure (.int .i64 512) rfl (run_load_one _ _ _ 3 _ _ rfl (g3) (3) rfl (by rw [WB.out.1.cell]; rfl) (by kernel_rfl)) ?_
        simp only [Act.put, List.setIfInBounds_toArray, List.set_cons_zero, List.set_cons_succ]
        refine wpL_pure (.bool true) rfl (run_lti Tryd.underlying3 rfl rfl rfl (by have := HN.out; rw [decide_eq_true_eq]; omega)) ?_
        simp only [Act.put, List.setIfInBounds_toArray, List.set_cons_zero, List.set_cons_succ]
        go_upto_region 6 with (fail)
        refine wp_region_lit ?_
        refine wpL_pure (.int .i64 3) rfl (by kernel_rfl) ?_
        simp only [Act.put, List.setIfInBounds_toArray, List.set_cons_zero, List.set_cons_succ]
        refine wpL_pure (.pointer (some ⟨g3, 3, none⟩)) rfl (by kernel_rfl) ?_
        simp only [Act.put, List.setIfInBounds_toArray, List.set_cons_zero, List.set_cons_succ]
        refine wpL_pure (.int .i64 512) rfl (run_load_one _ _ _ 3 _ _ rfl (g3) (3) rfl (by rw [WB.out.1.cell]; rfl) (by kernel_rfl)) ?_
        simp only [Act.put, List.setIfInBounds_toArray, List.set_cons_zero, List.set_cons_succ]
        refine wpL_pure (.int .i64 512) rfl (by kernel_rfl) ?_
        simp only [Act.put, List.setIfInBounds_toArray, List.set_cons_zero, List.set_cons_succ]
        go_wp2_with fail
        go_ret
        have e : bk n = 512 := by have h1 := HN.out; have h2 := KL.out; unfold bk; (repeat' split) <;> omega
        exact ⟨by rw [e]; rfl, by rw [G3.out]; exact WB.out.2⟩
      · have HN := Lib.hid hn
        clear hn
        go_upto_region 5 with (fail)
        refine wp_region_lit ?_
        refine wpL_pure (.int .i64 (n : Int)) rfl (by kernel_rfl) ?_
        simp only [Act.put, List.setIfInBounds_toArray, List.set_cons_zero, List.set_cons_succ]
        refine wpL_pure (.int .i64 3) rfl (by kernel_rfl) ?_
        simp only [Act.put, List.setIfInBounds_toArray, List.set_cons_zero, List.set_cons_succ]
        refine wpL_pure (.pointer (some ⟨g3, 3, none⟩)) rfl (by kernel_rfl) ?_
        simp only [Act.put, List.setIfInBounds_toArray, List.set_cons_zero, List.set_cons_succ]
        refine wpL_pure (.int .i64 512) rfl (run_load_one _ _ _ 3 _ _ rfl (g3) (3) rfl (by rw [WB.out.1.cell]; rfl) (by kernel_rfl)) ?_
        simp only [Act.put, List.setIfInBounds_toArray, List.set_cons_zero, List.set_cons_succ]
        refine wpL_pure (.bool false) rfl (run_lti Tryd.underlying3 rfl rfl rfl (by have := HN.out; rw [decide_eq_false_iff_not]; omega)) ?_
        simp only [Act.put, List.setIfInBounds_toArray, List.set_cons_zero, List.set_cons_succ]
        go_upto_region 4 with (fail)
        refine wp_region_lit ?_
        refine wpL_pure (.int .i64 3) rfl (by kernel_rfl) ?_
        simp only [Act.put, List.setIfInBounds_toArray, List.set_cons_zero, List.set_cons_succ]
        refine wpL_pure (.int .i64 4) rfl (by kernel_rfl) ?_
        simp only [Act.put, List.setIfInBounds_toArray, List.set_cons_zero, List.set_cons_succ]
        refine wpL_pure (.int .i64 4) rfl (by kernel_rfl) ?_
        simp only [Act.put, List.setIfInBounds_toArray, List.set_cons_zero, List.set_cons_succ]
        have NX : Hid (4 ≤ 6 ∧ (4 = 0 ∨ 32 * 2 ^ 4 ≤ n) ∧ wr = w1) := Lib.hid ⟨by omega, .inr (by have := HN.out; simp; omega), WE.out⟩
        unfold wpList
        go_roundw
        case rel => first | exact ⟨4, rfl, NX⟩ | ((repeat apply Exists.intro); exact ⟨⟨4, rfl, NX⟩, rfl⟩)
        case measure => simp [intOf]
    · clear hk
      have KL : Hid (4 = 0 ∨ 512 ≤ n) := Lib.hid (.inr (by have h := RI.out.2.1; simp at h; omega))
      have WE : Hid (wr = w1) := Lib.hid RI.out.2.2
      clear RI
      go_upto_region 3 with (fail)
      refine wp_region_lit ?_
      refine wpL_pure (.int .i64 4) rfl (by kernel_rfl) ?_
      simp only [Act.put, List.setIfInBounds_toArray, List.set_cons_zero, List.set_cons_succ]
      refine wpL_pure (.bool true) rfl (by kernel_rfl) ?_
      simp only [Act.put, List.setIfInBounds_toArray, List.set_cons_zero, List.set_cons_succ]
      by_cases hn : n < 1024
      · have HN := Lib.hid hn
        clear hn
        go_upto_region 5 with (fail)
        refine wp_region_lit ?_
        refine wpL_pure (.int .i64 (n : Int)) rfl (by kernel_rfl) ?_
        simp only [Act.put, List.setIfInBounds_toArray, List.set_cons_zero, List.set_cons_succ]
        refine wpL_pure (.int .i64 4) rfl (by kernel_rfl) ?_
        simp only [Act.put, List.setIfInBounds_toArray, List.set_cons_zero, List.set_cons_succ]
        refine wpL_pure (.pointer (some ⟨g3, 4, none⟩)) rfl (by kernel_rfl) ?_
        simp only [Act.put, List.setIfInBounds_toArray, List.set_cons_zero, List.set_cons_succ]
        refine wpL_pure (.int .i64 1024) rfl (run_load_one _ _ _ 3 _ _ rfl (g3) (4) rfl (by rw [WB.out.1.cell]; rfl) (by kernel_rfl)) ?_
        simp only [Act.put, List.setIfInBounds_toArray, List.set_cons_zero, List.set_cons_succ]
        refine wpL_pure (.bool true) rfl (run_lti Tryd.underlying3 rfl rfl rfl (by have := HN.out; rw [decide_eq_true_eq]; omega)) ?_
        simp only [Act.put, List.setIfInBounds_toArray, List.set_cons_zero, List.set_cons_succ]
        go_upto_region 6 with (fail)
        refine wp_region_lit ?_
        refine wpL_pure (.int .i64 4) rfl (by kernel_rfl) ?_
        simp only [Act.put, List.setIfInBounds_toArray, List.set_cons_zero, List.set_cons_succ]
        refine wpL_pure (.pointer (some ⟨g3, 4, none⟩)) rfl (by kernel_rfl) ?_
        simp only [Act.put, List.setIfInBounds_toArray, List.set_cons_zero, List.set_cons_succ]
        refine wpL_pure (.int .i64 1024) rfl (run_load_one _ _ _ 3 _ _ rfl (g3) (4) rfl (by rw [WB.out.1.cell]; rfl) (by kernel_rfl)) ?_
        simp only [Act.put, List.setIfInBounds_toArray, List.set_cons_zero, List.set_cons_succ]
        refine wpL_pure (.int .i64 1024) rfl (by kernel_rfl) ?_
        simp only [Act.put, List.setIfInBounds_toArray, List.set_cons_zero, List.set_cons_succ]
        go_wp2_with fail
        go_ret
        have e : bk n = 1024 := by have h1 := HN.out; have h2 := KL.out; unfold bk; (repeat' split) <;> omega
        exact ⟨by rw [e]; rfl, by rw [G3.out]; exact WB.out.2⟩
      · have HN := Lib.hid hn
        clear hn
        go_upto_region 5 with (fail)
        refine wp_region_lit ?_
        refine wpL_pure (.int .i64 (n : Int)) rfl (by kernel_rfl) ?_
        simp only [Act.put, List.setIfInBounds_toArray, List.set_cons_zero, List.set_cons_succ]
        refine wpL_pure (.int .i64 4) rfl (by kernel_rfl) ?_
        simp only [Act.put, List.setIfInBounds_toArray, List.set_cons_zero, List.set_cons_succ]
        refine wpL_pure (.pointer (some ⟨g3, 4, none⟩)) rfl (by kernel_rfl) ?_
        simp only [Act.put, List.setIfInBounds_toArray, List.set_cons_zero, List.set_cons_succ]
        refine wpL_pure (.int .i64 1024) rfl (run_load_one _ _ _ 3 _ _ rfl (g3) (4) rfl (by rw [WB.out.1.cell]; rfl) (by kernel_rfl)) ?_
        simp only [Act.put, List.setIfInBounds_toArray, List.set_cons_zero, List.set_cons_succ]
        refine wpL_pure (.bool false) rfl (run_lti Tryd.underlying3 rfl rfl rfl (by have := HN.out; rw [decide_eq_false_iff_not]; omega)) ?_
        simp only [Act.put, List.setIfInBounds_toArray, List.set_cons_zero, List.set_cons_succ]
        go_upto_region 4 with (fail)
        refine wp_region_lit ?_
        refine wpL_pure (.int .i64 4) rfl (by kernel_rfl) ?_
        simp only [Act.put, List.setIfInBounds_toArray, List.set_cons_zero, List.set_cons_succ]
        refine wpL_pure (.int .i64 5) rfl (by kernel_rfl) ?_
        simp only [Act.put, List.setIfInBounds_toArray, List.set_cons_zero, List.set_cons_succ]
        refine wpL_pure (.int .i64 5) rfl (by kernel_rfl) ?_
        simp only [Act.put, List.setIfInBounds_toArray, List.set_cons_zero, List.set_cons_succ]
        have NX : Hid (5 ≤ 6 ∧ (5 = 0 ∨ 32 * 2 ^ 5 ≤ n) ∧ wr = w1) := Lib.hid ⟨by omega, .inr (by have := HN.out; simp; omega), WE.out⟩
        unfold wpList
        go_roundw
        case rel => first | exact ⟨5, rfl, NX⟩ | ((repeat apply Exists.intro); exact ⟨⟨5, rfl, NX⟩, rfl⟩)
        case measure => simp [intOf]
    · clear hk
      have KL : Hid (5 = 0 ∨ 1024 ≤ n) := Lib.hid (.inr (by have h := RI.out.2.1; simp at h; omega))
      have WE : Hid (wr = w1) := Lib.hid RI.out.2.2
      clear RI
      go_upto_region 3 with (fail)
      refine wp_region_lit ?_
      refine wpL_pure (.int .i64 5) rfl (by kernel_rfl) ?_
      simp only [Act.put, List.setIfInBounds_toArray, List.set_cons_zero, List.set_cons_succ]
      refine wpL_pure (.bool true) rfl (by kernel_rfl) ?_
      simp only [Act.put, List.setIfInBounds_toArray, List.set_cons_zero, List.set_cons_succ]
      by_cases hn : n < 2048
      · have HN := Lib.hid hn
        clear hn
        go_upto_region 5 with (fail)
        refine wp_region_lit ?_
        refine wpL_pure (.int .i64 (n : Int)) rfl (by kernel_rfl) ?_
        simp only [Act.put, List.setIfInBounds_toArray, List.set_cons_zero, List.set_cons_succ]
        refine wpL_pure (.int .i64 5) rfl (by kernel_rfl) ?_
        simp only [Act.put, List.setIfInBounds_toArray, List.set_cons_zero, List.set_cons_succ]
        refine wpL_pure (.pointer (some ⟨g3, 5, none⟩)) rfl (by kernel_rfl) ?_
        simp only [Act.put, List.setIfInBounds_toArray, List.set_cons_zero, List.set_cons_succ]
        refine wpL_pure (.int .i64 2048) rfl (run_load_one _ _ _ 3 _ _ rfl (g3) (5) rfl (by rw [WB.out.1.cell]; rfl) (by kernel_rfl)) ?_
        simp only [Act.put, List.setIfInBounds_toArray, List.set_cons_zero, List.set_cons_succ]
        refine wpL_pure (.bool true) rfl (run_lti Tryd.underlying3 rfl rfl rfl (by have := HN.out; rw [decide_eq_true_eq]; omega)) ?_
        simp only [Act.put, List.setIfInBounds_toArray, List.set_cons_zero, List.set_cons_succ]
        go_upto_region 6 with (fail)
        refine wp_region_lit ?_
        refine wpL_pure (.int .i64 5) rfl (by kernel_rfl) ?_
        simp only [Act.put, List.setIfInBounds_toArray, List.set_cons_zero, List.set_cons_succ]
        refine wpL_pure (.pointer (some ⟨g3, 5, none⟩)) rfl (by kernel_rfl) ?_
        simp only [Act.put, List.setIfInBounds_toArray, List.set_cons_zero, List.set_cons_succ]
        refine wpL_pure (.int .i64 2048) rfl (run_load_one _ _ _ 3 _ _ rfl (g3) (5) rfl (by rw [WB.out.1.cell]; rfl) (by kernel_rfl)) ?_
        simp only [Act.put, List.setIfInBounds_toArray, List.set_cons_zero, List.set_cons_succ]
        refine wpL_pure (.int .i64 2048) rfl (by kernel_rfl) ?_
        simp only [Act.put, List.setIfInBounds_toArray, List.set_cons_zero, List.set_cons_succ]
        go_wp2_with fail
        go_ret
        have e : bk n = 2048 := by have h1 := HN.out; have h2 := KL.out; unfold bk; (repeat' split) <;> omega
        exact ⟨by rw [e]; rfl, by rw [G3.out]; exact WB.out.2⟩
      · have HN := Lib.hid hn
        clear hn
        go_upto_region 5 with (fail)
        refine wp_region_lit ?_
        refine wpL_pure (.int .i64 (n : Int)) rfl (by kernel_rfl) ?_
        simp only [Act.put, List.setIfInBounds_toArray, List.set_cons_zero, List.set_cons_succ]
        refine wpL_pure (.int .i64 5) rfl (by kernel_rfl) ?_
        simp only [Act.put, List.setIfInBounds_toArray, List.set_cons_zero, List.set_cons_succ]
        refine wpL_pure (.pointer (some ⟨g3, 5, none⟩)) rfl (by kernel_rfl) ?_
        simp only [Act.put, List.setIfInBounds_toArray, List.set_cons_zero, List.set_cons_succ]
        refine wpL_pure (.int .i64 2048) rfl (run_load_one _ _ _ 3 _ _ rfl (g3) (5) rfl (by rw [WB.out.1.cell]; rfl) (by kernel_rfl)) ?_
        simp only [Act.put, List.setIfInBounds_toArray, List.set_cons_zero, List.set_cons_succ]
        refine wpL_pure (.bool false) rfl (run_lti Tryd.underlying3 rfl rfl rfl (by have := HN.out; rw [decide_eq_false_iff_not]; omega)) ?_
        simp only [Act.put, List.setIfInBounds_toArray, List.set_cons_zero, List.set_cons_succ]
        go_upto_region 4 with (fail)
        refine wp_region_lit ?_
        refine wpL_pure (.int .i64 5) rfl (by kernel_rfl) ?_
        simp only [Act.put, List.setIfInBounds_toArray, List.set_cons_zero, List.set_cons_succ]
        refine wpL_pure (.int .i64 6) rfl (by kernel_rfl) ?_
        simp only [Act.put, List.setIfInBounds_toArray, List.set_cons_zero, List.set_cons_succ]
        refine wpL_pure (.int .i64 6) rfl (by kernel_rfl) ?_
        simp only [Act.put, List.setIfInBounds_toArray, List.set_cons_zero, List.set_cons_succ]
        have NX : Hid (6 ≤ 6 ∧ (6 = 0 ∨ 32 * 2 ^ 6 ≤ n) ∧ wr = w1) := Lib.hid ⟨by omega, .inr (by have := HN.out; simp; omega), WE.out⟩
        unfold wpList
        go_roundw
        case rel => first | exact ⟨6, rfl, NX⟩ | ((repeat apply Exists.intro); exact ⟨⟨6, rfl, NX⟩, rfl⟩)
        case measure => simp [intOf]
    · clear hk
      have KL : Hid (6 = 0 ∨ 2048 ≤ n) := Lib.hid (.inr (by have h := RI.out.2.1; simp at h; omega))
      have WE : Hid (wr = w1) := Lib.hid RI.out.2.2
      clear RI
      go_upto_region 3 with (fail)
      refine wp_region_lit ?_
      refine wpL_pure (.int .i64 6) rfl (by kernel_rfl) ?_
      simp only [Act.put, List.setIfInBounds_toArray, List.set_cons_zero, List.set_cons_succ]
      refine wpL_pure (.bool false) rfl (by kernel_rfl) ?_
      simp only [Act.put, List.setIfInBounds_toArray, List.set_cons_zero, List.set_cons_succ]
      go_upto_region 7 with (fail)
      refine wp_region_lit ?_
      refine wpL_pure (.int .i64 0) rfl (by kernel_rfl) ?_
      simp only [Act.put, List.setIfInBounds_toArray, List.set_cons_zero, List.set_cons_succ]
      go_wp2_with fail
      go_ret
      have e : bk n = 0 := by have h2 := KL.out; unfold bk; (repeat' split) <;> omega
      exact ⟨by rw [e]; rfl, by rw [G3.out]; exact WB.out.2⟩
end Go.Proofs.YtoeojgdolanggaaDoor
