import Derived.Test.YtfhjfpgfbeiacaaDoorHaH10
import Derived.Test.YtfhjfpgfbeiacaaDoorHaHeldAll
namespace Go.Proofs.YtfhjfpgfbeiacaaDoor.Ha
open Go Go.RowKit
set_option maxRecDepth 100000

theorem rotr_zero (x : Nat) : rotr x 0 = x := by unfold rotr; simp [Nat.mod_one]
theorem run_quo32 (m : Nat) (hm : m ∈ [2, 8, 1024]) (a : Act) (o : Oper) (w : World) (x : Operand) (y : Nat) (ho : o.op = .binOp .quo 94 x (.const (.int .u32 (m : Int))) 94) (hx : a.eval x = .int .u32 (y : Int)) (hy : y < 4294967296) : (execOp a.eval o).run Tryd.prog w = .ok (.value (.int .u32 ((y / m : Nat) : Int))) w := by
  have u := run_underlying Tryd.underlying94 w
  simp only [List.mem_cons, List.not_mem_nil, or_false] at hm
  rcases hm with rfl | rfl | rfl
  all_goals
    have hc : ∀ v, a.eval (.const v) = v := fun _ => rfl
    unfold execOp
    simp only [ho, hx, hc]
    go_simp
    simp [Int.tdiv_eq_ediv_of_nonneg, IntKind.wrap, IntKind.bits, IntKind.signed]
    try omega
theorem run_rem32 (a : Act) (o : Oper) (w : World) (x : Operand) (y : Nat) (ho : o.op = .binOp .rem 94 x (.const (.int .u32 2)) 94) (hx : a.eval x = .int .u32 (y : Int)) (hy : y < 4294967296) : (execOp a.eval o).run Tryd.prog w = .ok (.value (.int .u32 ((y % 2 : Nat) : Int))) w := by
  have u := run_underlying Tryd.underlying94 w
  have hc : ∀ v, a.eval (.const v) = v := fun _ => rfl
  unfold execOp
  simp only [ho, hx, hc]
  go_simp
  simp [Int.tmod_eq_emod_of_nonneg, IntKind.wrap, IntKind.bits, IntKind.signed]
  try omega
/-- a shift to the right by a number that isn't known. -/
theorem run_shr64s (a : Act) (o : Oper) (w : World) (x i : Operand) (y s : Nat) (ho : o.op = .binOp .shr 31 x i 31) (hx : a.eval x = .int .u64 (y : Int)) (hi : a.eval i = .int .u64 (s : Int)) (hy : y < 18446744073709551616) (hs : s < 64) : (execOp a.eval o).run Tryd.prog w = .ok (.value (.int .u64 ((y / 2 ^ s : Nat) : Int))) w := by
  have u := run_underlying Tryd.underlying31 w
  have h1 : (0 : Int) ≤ (s : Int) := by omega
  have h2 : y / 2 ^ s ≤ y := Nat.div_le_self _ _
  have h3 : ¬ (64 ≤ s) := by omega
  have h4 : ¬ ((64 : Int) ≤ (s : Int)) := by omega
  unfold execOp
  simp only [ho, hx, hi]
  go_simp
theorem run_shr32s (a : Act) (o : Oper) (w : World) (x i : Operand) (y s : Nat) (ho : o.op = .binOp .shr 94 x i 94) (hx : a.eval x = .int .u32 (y : Int)) (hi : a.eval i = .int .u32 (s : Int)) (hy : y < 4294967296) (hs : s < 32) : (execOp a.eval o).run Tryd.prog w = .ok (.value (.int .u32 ((y / 2 ^ s : Nat) : Int))) w := by
  have u := run_underlying Tryd.underlying94 w
  have h1 : (0 : Int) ≤ (s : Int) := by omega
  have h2 : y / 2 ^ s ≤ y := Nat.div_le_self _ _
  unfold execOp
  simp only [ho, hx, hi]
  go_simp
attribute [local irreducible] wpList
set_option maxHeartbeats 4000000 in
theorem turn_any (x n : Nat) (hx : x < 4294967296) (hn : n < 32) (w : World) : Calls Tryd.prog 65 #[.int .u32 (x : Nat), .int .i64 (n : Int)] w fun e w' => e = .returned (.int .u32 (rotr x n : Nat)) ∧ w' = w := by
  have HX := Lib.hid hx
  have HN := Lib.hid hn
  clear hx hn
  go_enter Tryd.func65, Tryd.ntmps65
  go_upto_region 0 with (fail)
  refine wp_region_lit ?_
  refine wpL_pure (.int .u32 0) rfl (by kernel_rfl) ?_
  simp only [Act.put, List.setIfInBounds_toArray, List.set_cons_zero, List.set_cons_succ]
  go_upto_region 1 with (fail)
  refine wp_region_lit ?_
  refine wpL_pure (.int .i64 0) rfl (by kernel_rfl) ?_
  simp only [Act.put, List.setIfInBounds_toArray, List.set_cons_zero, List.set_cons_succ]
  go_wp2_with fail
  go_loopw [0, 5] (fun s0 s5 wr => ∃ k : Nat, s0 = .int .u32 (rotr x k : Nat) ∧ s5 = .int .i64 (k : Int) ∧ Hid (k ≤ n ∧ wr = w)) (fun _ s5 _ => n - (intOf s5).toNat)
  case atStart => exact ⟨0, by rw [rotr_zero], rfl, Lib.hid ⟨by omega, rfl⟩⟩
  case round =>
    obtain ⟨k, rfl, rfl, RI⟩ := hrel
    by_cases hlt : k < n
    · have HK := Lib.hid hlt
      clear hlt
      have RL : Hid (rotr x k < 4294967296) := Lib.hid (rotr_lt x k HX.out (by have := HK.out; have := HN.out; omega))
      obtain ⟨y, hy⟩ : ∃ y, rotr x k = y := ⟨_, rfl⟩
      rw [hy] at RL
      have HY := Lib.hid hy
      rw [hy]
      clear hy
      go_upto_region 2 with (fail)
      refine wp_region_lit ?_
      refine wpL_pure (.int .i64 (k : Int)) rfl (by kernel_rfl) ?_
      simp only [Act.put, List.setIfInBounds_toArray, List.set_cons_zero, List.set_cons_succ]
      refine wpL_pure (.int .i64 (n : Int)) rfl (by kernel_rfl) ?_
      simp only [Act.put, List.setIfInBounds_toArray, List.set_cons_zero, List.set_cons_succ]
      refine wpL_pure (.bool true) rfl (run_lti Tryd.underlying3 rfl rfl rfl (by have := HK.out; rw [decide_eq_true_eq]; omega)) ?_
      simp only [Act.put, List.setIfInBounds_toArray, List.set_cons_zero, List.set_cons_succ]
      go_upto_region 4 with (fail)
      refine wp_region_lit ?_
      refine wpL_pure (.int .u32 (y : Nat)) rfl (by kernel_rfl) ?_
      simp only [Act.put, List.setIfInBounds_toArray, List.set_cons_zero, List.set_cons_succ]
      refine wpL_pure (.int .u32 ((y / 2 : Nat) : Int)) rfl (run_quo32 2 (by simp) _ _ _ _ y rfl rfl RL.out) ?_
      simp only [Act.put, List.setIfInBounds_toArray, List.set_cons_zero, List.set_cons_succ]
      refine wpL_pure (.int .u32 (y : Nat)) rfl (by kernel_rfl) ?_
      simp only [Act.put, List.setIfInBounds_toArray, List.set_cons_zero, List.set_cons_succ]
      refine wpL_pure (.int .u32 ((y % 2 : Nat) : Int)) rfl (run_rem32 _ _ _ _ y rfl rfl RL.out) ?_
      simp only [Act.put, List.setIfInBounds_toArray, List.set_cons_zero, List.set_cons_succ]
      refine wpL_pure (.int .u32 ((y % 2 * 2147483648 : Nat) : Int)) rfl (run_muli Tryd.underlying94 rfl rfl rfl _ (by rw [IntKind.wrap_u32]; omega)) ?_
      simp only [Act.put, List.setIfInBounds_toArray, List.set_cons_zero, List.set_cons_succ]
      refine wpL_pure (.int .u32 ((y / 2 + y % 2 * 2147483648 : Nat) : Int)) rfl (run_addi Tryd.underlying94 rfl rfl rfl _ (by have := RL.out; rw [IntKind.wrap_u32]; omega)) ?_
      simp only [Act.put, List.setIfInBounds_toArray, List.set_cons_zero, List.set_cons_succ]
      refine wpL_pure (.int .u32 ((y / 2 + y % 2 * 2147483648 : Nat) : Int)) rfl (by kernel_rfl) ?_
      simp only [Act.put, List.setIfInBounds_toArray, List.set_cons_zero, List.set_cons_succ]
      go_upto_region 3 with (fail)
      refine wp_region_lit ?_
      refine wpL_pure (.int .i64 (k : Int)) rfl (by kernel_rfl) ?_
      simp only [Act.put, List.setIfInBounds_toArray, List.set_cons_zero, List.set_cons_succ]
      refine wpL_pure (.int .i64 ((k + 1 : Nat) : Int)) rfl (run_addi Tryd.underlying3 rfl rfl rfl _ (by have := HK.out; have := HN.out; rw [wrap_in _ (by omega) (by omega)]; omega)) ?_
      simp only [Act.put, List.setIfInBounds_toArray, List.set_cons_zero, List.set_cons_succ]
      refine wpL_pure (.int .i64 ((k + 1 : Nat) : Int)) rfl (by kernel_rfl) ?_
      simp only [Act.put, List.setIfInBounds_toArray, List.set_cons_zero, List.set_cons_succ]
      have NX : Hid (k + 1 ≤ n ∧ wr = w) := Lib.hid ⟨HK.out, RI.out.2⟩
      have E1 : y / 2 + y % 2 * 2147483648 = rotr x (k + 1) := by rw [rotr_step x k (by have := HK.out; have := HN.out; omega), HY.out]
      unfold wpList
      go_roundw
      case rel => first | exact ⟨k + 1, by rw [E1], rfl, NX⟩ | ((repeat apply Exists.intro); exact ⟨⟨k + 1, by rw [E1], rfl, NX⟩, rfl⟩)
      case measure => simp [intOf]; have := HK.out; omega
    · have HK := Lib.hid hlt
      have EK : Hid (k = n) := Lib.hid (by have := RI.out.1; omega)
      clear hlt
      go_upto_region 2 with (fail)
      refine wp_region_lit ?_
      refine wpL_pure (.int .i64 (k : Int)) rfl (by kernel_rfl) ?_
      simp only [Act.put, List.setIfInBounds_toArray, List.set_cons_zero, List.set_cons_succ]
      refine wpL_pure (.int .i64 (n : Int)) rfl (by kernel_rfl) ?_
      simp only [Act.put, List.setIfInBounds_toArray, List.set_cons_zero, List.set_cons_succ]
      refine wpL_pure (.bool false) rfl (run_lti Tryd.underlying3 rfl rfl rfl (by have := HK.out; rw [decide_eq_false_iff_not]; omega)) ?_
      simp only [Act.put, List.setIfInBounds_toArray, List.set_cons_zero, List.set_cons_succ]
      go_upto_region 5 with (fail)
      refine wp_region_lit ?_
      refine wpL_pure (.int .u32 (rotr x k : Nat)) rfl (by kernel_rfl) ?_
      simp only [Act.put, List.setIfInBounds_toArray, List.set_cons_zero, List.set_cons_succ]
      refine wpL_pure (.int .u32 (rotr x k : Nat)) rfl (by kernel_rfl) ?_
      simp only [Act.put, List.setIfInBounds_toArray, List.set_cons_zero, List.set_cons_succ]
      go_wp2_with fail
      go_ret
      exact ⟨by simp [EK.out], RI.out.2⟩
end Go.Proofs.YtfhjfpgfbeiacaaDoor.Ha
