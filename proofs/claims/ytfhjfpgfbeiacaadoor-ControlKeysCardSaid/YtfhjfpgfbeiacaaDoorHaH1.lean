import Derived.Test.YtfhjfpgfbeiacaaDoorHaSha
import Derived.Test.YtfhjfpgfbeiacaaDoorHaArith
import Derived.Laws.BitsAllLaws
namespace Go.Proofs.YtfhjfpgfbeiacaaDoor.Ha
open Go Go.RowKit
set_option maxRecDepth 100000

theorem ret_u32 {a b : Int} (h : a = b) : Ending.returned (.int .u32 a) = .returned (.int .u32 b) := by rw [h]
theorem run_shl32 (n : Nat) (m : Int) (hm : (n, m) ∈ [(2, (4 : Int)), (6, 64), (7, 128), (8, 256), (10, 1024), (11, 2048), (13, 8192), (14, 16384), (15, 32768), (16, 65536), (17, 131072), (18, 262144), (19, 524288), (21, 2097152), (22, 4194304), (24, 16777216), (25, 33554432), (26, 67108864), (30, 1073741824)]) (a : Act) (o : Oper) (w : World) (x y : Operand) (q : Int) (ho : o.op = .binOp .shl 94 x y 82) (hx : a.eval x = .int .u32 q) (hy : a.eval y = .int .u64 (n : Int)) (h0 : 0 ≤ q ∧ q < 4294967296) :
    (execOp a.eval o).run Tryd.prog w = .ok (.value (.int .u32 (q * m % 4294967296))) w := by
  obtain ⟨b0, b1⟩ := h0
  simp only [List.mem_cons, Prod.mk.injEq, List.not_mem_nil, or_false] at hm
  rcases hm with ⟨rfl, rfl⟩ | ⟨rfl, rfl⟩ | ⟨rfl, rfl⟩ | ⟨rfl, rfl⟩ | ⟨rfl, rfl⟩ | ⟨rfl, rfl⟩ | ⟨rfl, rfl⟩ | ⟨rfl, rfl⟩ | ⟨rfl, rfl⟩ | ⟨rfl, rfl⟩ | ⟨rfl, rfl⟩ | ⟨rfl, rfl⟩ | ⟨rfl, rfl⟩ | ⟨rfl, rfl⟩ | ⟨rfl, rfl⟩ | ⟨rfl, rfl⟩ | ⟨rfl, rfl⟩ | ⟨rfl, rfl⟩ | ⟨rfl, rfl⟩
  all_goals
    have u := run_underlying Tryd.underlying94 w
    unfold execOp
    simp only [ho, hx, hy]
    go_simp
    first | done | rw [IntKind.wrap_u32]
theorem run_shr32 (n : Nat) (m : Int) (hm : (n, m) ∈ [(2, (4 : Int)), (3, 8), (6, 64), (7, 128), (8, 256), (10, 1024), (11, 2048), (13, 8192), (14, 16384), (15, 32768), (16, 65536), (17, 131072), (18, 262144), (19, 524288), (22, 4194304), (24, 16777216), (25, 33554432)]) (a : Act) (o : Oper) (w : World) (x y : Operand) (q : Int) (ho : o.op = .binOp .shr 94 x y 82) (hx : a.eval x = .int .u32 q) (hy : a.eval y = .int .u64 (n : Int)) (h0 : 0 ≤ q ∧ q < 4294967296) :
    (execOp a.eval o).run Tryd.prog w = .ok (.value (.int .u32 (q / m))) w := by
  obtain ⟨b0, b1⟩ := h0
  simp only [List.mem_cons, Prod.mk.injEq, List.not_mem_nil, or_false] at hm
  rcases hm with ⟨rfl, rfl⟩ | ⟨rfl, rfl⟩ | ⟨rfl, rfl⟩ | ⟨rfl, rfl⟩ | ⟨rfl, rfl⟩ | ⟨rfl, rfl⟩ | ⟨rfl, rfl⟩ | ⟨rfl, rfl⟩ | ⟨rfl, rfl⟩ | ⟨rfl, rfl⟩ | ⟨rfl, rfl⟩ | ⟨rfl, rfl⟩ | ⟨rfl, rfl⟩ | ⟨rfl, rfl⟩ | ⟨rfl, rfl⟩ | ⟨rfl, rfl⟩ | ⟨rfl, rfl⟩
  all_goals
    have u := run_underlying Tryd.underlying94 w
    unfold execOp
    simp only [ho, hx, hy]
    go_simp
    try (first | done | (rw [IntKind.wrap_u32]; omega))
attribute [local irreducible] wpList
theorem ror_2 (x : Nat) (h1 : x < 4294967296) : bits BinOp.or IntKind.u32 ((x : Int) * 1073741824 % 4294967296) ((x : Int) / 4) = ((rotr x 2 : Nat) : Int) := by
  rw [← rotr_or x 2 h1 (by omega)]
  have e1 : ((x : Int) * 1073741824 % 4294967296) = ((x * 2 ^ (32 - 2) % 4294967296 : Nat) : Int) := by simp
  have e2 : ((x : Int) / 4) = ((x / 2 ^ 2 : Nat) : Int) := by simp
  rw [e1, e2]
  exact u32_or_nat _ _ (Nat.mod_lt _ (by omega)) (by have := Nat.div_le_self x (2 ^ 2); omega)
theorem rot2 (x : Nat) (h1 : x < 4294967296) (w : World) :
    Calls Tryd.prog 77 #[.int .u32 (x : Int), .int .i64 (-2)] w fun e w' => e = .returned (.int .u32 (rotr x 2 : Nat)) ∧ w = w' := by
  have h2 := ror_2 x h1
  have b0 : (0 : Int) ≤ (x : Int) := by omega
  have b1 : (x : Int) < 4294967296 := by omega
  clear h1
  go_enter Tryd.func77, Tryd.ntmps77
  go_upto_region 1 with (fail)
  refine wp_region_lit ?_
  refine wpL_pure (.int .i64 (-2)) rfl (by kernel_rfl) ?_
  simp only [Act.put, List.setIfInBounds_toArray, List.set_cons_zero, List.set_cons_succ]
  refine wpL_pure (.int .u64 18446744073709551614) rfl (by kernel_rfl) ?_
  simp only [Act.put, List.setIfInBounds_toArray, List.set_cons_zero, List.set_cons_succ]
  refine wpL_pure (.int .u64 30) rfl (by kernel_rfl) ?_
  simp only [Act.put, List.setIfInBounds_toArray, List.set_cons_zero, List.set_cons_succ]
  refine wpL_pure (.int .u64 30) rfl (by kernel_rfl) ?_
  simp only [Act.put, List.setIfInBounds_toArray, List.set_cons_zero, List.set_cons_succ]
  go_upto_region 2 with (fail)
  refine wp_region_lit ?_
  refine wpL_pure (.int .u32 (x : Int)) rfl (by kernel_rfl) ?_
  simp only [Act.put, List.setIfInBounds_toArray, List.set_cons_zero, List.set_cons_succ]
  refine wpL_pure (.int .u64 30) rfl (by kernel_rfl) ?_
  simp only [Act.put, List.setIfInBounds_toArray, List.set_cons_zero, List.set_cons_succ]
  refine wpL_pure (.int .u32 ((x : Int) * 1073741824 % 4294967296)) rfl (run_shl32 30 1073741824 (by simp) _ _ _ _ _ _ rfl rfl rfl ⟨b0, b1⟩) ?_
  simp only [Act.put, List.setIfInBounds_toArray, List.set_cons_zero, List.set_cons_succ]
  refine wpL_pure (.int .u32 (x : Int)) rfl (by kernel_rfl) ?_
  simp only [Act.put, List.setIfInBounds_toArray, List.set_cons_zero, List.set_cons_succ]
  refine wpL_pure (.int .u64 30) rfl (by kernel_rfl) ?_
  simp only [Act.put, List.setIfInBounds_toArray, List.set_cons_zero, List.set_cons_succ]
  refine wpL_pure (.int .u64 2) rfl (by kernel_rfl) ?_
  simp only [Act.put, List.setIfInBounds_toArray, List.set_cons_zero, List.set_cons_succ]
  refine wpL_pure (.int .u32 ((x : Int) / 4)) rfl (run_shr32 2 4 (by simp) _ _ _ _ _ _ rfl rfl rfl ⟨b0, b1⟩) ?_
  simp only [Act.put, List.setIfInBounds_toArray, List.set_cons_zero, List.set_cons_succ]
  refine wpL_pure (.int .u32 (rotr x 2 : Nat)) rfl (run_biti (.inl rfl) Tryd.underlying94 rfl rfl rfl _ h2) ?_
  simp only [Act.put, List.setIfInBounds_toArray, List.set_cons_zero, List.set_cons_succ]
  refine wpL_pure (.int .u32 (rotr x 2 : Nat)) rfl (by kernel_rfl) ?_
  simp only [Act.put, List.setIfInBounds_toArray, List.set_cons_zero, List.set_cons_succ]
  go_wp2_with fail
  go_ret
  exact ⟨rfl, rfl⟩
theorem ror_6 (x : Nat) (h1 : x < 4294967296) : bits BinOp.or IntKind.u32 ((x : Int) * 67108864 % 4294967296) ((x : Int) / 64) = ((rotr x 6 : Nat) : Int) := by
  rw [← rotr_or x 6 h1 (by omega)]
  have e1 : ((x : Int) * 67108864 % 4294967296) = ((x * 2 ^ (32 - 6) % 4294967296 : Nat) : Int) := by simp
  have e2 : ((x : Int) / 64) = ((x / 2 ^ 6 : Nat) : Int) := by simp
  rw [e1, e2]
  exact u32_or_nat _ _ (Nat.mod_lt _ (by omega)) (by have := Nat.div_le_self x (2 ^ 6); omega)
theorem rot6 (x : Nat) (h1 : x < 4294967296) (w : World) :
    Calls Tryd.prog 77 #[.int .u32 (x : Int), .int .i64 (-6)] w fun e w' => e = .returned (.int .u32 (rotr x 6 : Nat)) ∧ w = w' := by
  have h2 := ror_6 x h1
  have b0 : (0 : Int) ≤ (x : Int) := by omega
  have b1 : (x : Int) < 4294967296 := by omega
  clear h1
  go_enter Tryd.func77, Tryd.ntmps77
  go_upto_region 1 with (fail)
  refine wp_region_lit ?_
  refine wpL_pure (.int .i64 (-6)) rfl (by kernel_rfl) ?_
  simp only [Act.put, List.setIfInBounds_toArray, List.set_cons_zero, List.set_cons_succ]
  refine wpL_pure (.int .u64 18446744073709551610) rfl (by kernel_rfl) ?_
  simp only [Act.put, List.setIfInBounds_toArray, List.set_cons_zero, List.set_cons_succ]
  refine wpL_pure (.int .u64 26) rfl (by kernel_rfl) ?_
  simp only [Act.put, List.setIfInBounds_toArray, List.set_cons_zero, List.set_cons_succ]
  refine wpL_pure (.int .u64 26) rfl (by kernel_rfl) ?_
  simp only [Act.put, List.setIfInBounds_toArray, List.set_cons_zero, List.set_cons_succ]
  go_upto_region 2 with (fail)
  refine wp_region_lit ?_
  refine wpL_pure (.int .u32 (x : Int)) rfl (by kernel_rfl) ?_
  simp only [Act.put, List.setIfInBounds_toArray, List.set_cons_zero, List.set_cons_succ]
  refine wpL_pure (.int .u64 26) rfl (by kernel_rfl) ?_
  simp only [Act.put, List.setIfInBounds_toArray, List.set_cons_zero, List.set_cons_succ]
  refine wpL_pure (.int .u32 ((x : Int) * 67108864 % 4294967296)) rfl (run_shl32 26 67108864 (by simp) _ _ _ _ _ _ rfl rfl rfl ⟨b0, b1⟩) ?_
  simp only [Act.put, List.setIfInBounds_toArray, List.set_cons_zero, List.set_cons_succ]
  refine wpL_pure (.int .u32 (x : Int)) rfl (by kernel_rfl) ?_
  simp only [Act.put, List.setIfInBounds_toArray, List.set_cons_zero, List.set_cons_succ]
  refine wpL_pure (.int .u64 26) rfl (by kernel_rfl) ?_
  simp only [Act.put, List.setIfInBounds_toArray, List.set_cons_zero, List.set_cons_succ]
  refine wpL_pure (.int .u64 6) rfl (by kernel_rfl) ?_
  simp only [Act.put, List.setIfInBounds_toArray, List.set_cons_zero, List.set_cons_succ]
  refine wpL_pure (.int .u32 ((x : Int) / 64)) rfl (run_shr32 6 64 (by simp) _ _ _ _ _ _ rfl rfl rfl ⟨b0, b1⟩) ?_
  simp only [Act.put, List.setIfInBounds_toArray, List.set_cons_zero, List.set_cons_succ]
  refine wpL_pure (.int .u32 (rotr x 6 : Nat)) rfl (run_biti (.inl rfl) Tryd.underlying94 rfl rfl rfl _ h2) ?_
  simp only [Act.put, List.setIfInBounds_toArray, List.set_cons_zero, List.set_cons_succ]
  refine wpL_pure (.int .u32 (rotr x 6 : Nat)) rfl (by kernel_rfl) ?_
  simp only [Act.put, List.setIfInBounds_toArray, List.set_cons_zero, List.set_cons_succ]
  go_wp2_with fail
  go_ret
  exact ⟨rfl, rfl⟩
theorem ror_7 (x : Nat) (h1 : x < 4294967296) : bits BinOp.or IntKind.u32 ((x : Int) * 33554432 % 4294967296) ((x : Int) / 128) = ((rotr x 7 : Nat) : Int) := by
  rw [← rotr_or x 7 h1 (by omega)]
  have e1 : ((x : Int) * 33554432 % 4294967296) = ((x * 2 ^ (32 - 7) % 4294967296 : Nat) : Int) := by simp
  have e2 : ((x : Int) / 128) = ((x / 2 ^ 7 : Nat) : Int) := by simp
  rw [e1, e2]
  exact u32_or_nat _ _ (Nat.mod_lt _ (by omega)) (by have := Nat.div_le_self x (2 ^ 7); omega)
theorem rot7 (x : Nat) (h1 : x < 4294967296) (w : World) :
    Calls Tryd.prog 77 #[.int .u32 (x : Int), .int .i64 (-7)] w fun e w' => e = .returned (.int .u32 (rotr x 7 : Nat)) ∧ w = w' := by
  have h2 := ror_7 x h1
  have b0 : (0 : Int) ≤ (x : Int) := by omega
  have b1 : (x : Int) < 4294967296 := by omega
  clear h1
  go_enter Tryd.func77, Tryd.ntmps77
  go_upto_region 1 with (fail)
  refine wp_region_lit ?_
  refine wpL_pure (.int .i64 (-7)) rfl (by kernel_rfl) ?_
  simp only [Act.put, List.setIfInBounds_toArray, List.set_cons_zero, List.set_cons_succ]
  refine wpL_pure (.int .u64 18446744073709551609) rfl (by kernel_rfl) ?_
  simp only [Act.put, List.setIfInBounds_toArray, List.set_cons_zero, List.set_cons_succ]
  refine wpL_pure (.int .u64 25) rfl (by kernel_rfl) ?_
  simp only [Act.put, List.setIfInBounds_toArray, List.set_cons_zero, List.set_cons_succ]
  refine wpL_pure (.int .u64 25) rfl (by kernel_rfl) ?_
  simp only [Act.put, List.setIfInBounds_toArray, List.set_cons_zero, List.set_cons_succ]
  go_upto_region 2 with (fail)
  refine wp_region_lit ?_
  refine wpL_pure (.int .u32 (x : Int)) rfl (by kernel_rfl) ?_
  simp only [Act.put, List.setIfInBounds_toArray, List.set_cons_zero, List.set_cons_succ]
  refine wpL_pure (.int .u64 25) rfl (by kernel_rfl) ?_
  simp only [Act.put, List.setIfInBounds_toArray, List.set_cons_zero, List.set_cons_succ]
  refine wpL_pure (.int .u32 ((x : Int) * 33554432 % 4294967296)) rfl (run_shl32 25 33554432 (by simp) _ _ _ _ _ _ rfl rfl rfl ⟨b0, b1⟩) ?_
  simp only [Act.put, List.setIfInBounds_toArray, List.set_cons_zero, List.set_cons_succ]
  refine wpL_pure (.int .u32 (x : Int)) rfl (by kernel_rfl) ?_
  simp only [Act.put, List.setIfInBounds_toArray, List.set_cons_zero, List.set_cons_succ]
  refine wpL_pure (.int .u64 25) rfl (by kernel_rfl) ?_
  simp only [Act.put, List.setIfInBounds_toArray, List.set_cons_zero, List.set_cons_succ]
  refine wpL_pure (.int .u64 7) rfl (by kernel_rfl) ?_
  simp only [Act.put, List.setIfInBounds_toArray, List.set_cons_zero, List.set_cons_succ]
  refine wpL_pure (.int .u32 ((x : Int) / 128)) rfl (run_shr32 7 128 (by simp) _ _ _ _ _ _ rfl rfl rfl ⟨b0, b1⟩) ?_
  simp only [Act.put, List.setIfInBounds_toArray, List.set_cons_zero, List.set_cons_succ]
  refine wpL_pure (.int .u32 (rotr x 7 : Nat)) rfl (run_biti (.inl rfl) Tryd.underlying94 rfl rfl rfl _ h2) ?_
  simp only [Act.put, List.setIfInBounds_toArray, List.set_cons_zero, List.set_cons_succ]
  refine wpL_pure (.int .u32 (rotr x 7 : Nat)) rfl (by kernel_rfl) ?_
  simp only [Act.put, List.setIfInBounds_toArray, List.set_cons_zero, List.set_cons_succ]
  go_wp2_with fail
  go_ret
  exact ⟨rfl, rfl⟩
theorem ror_11 (x : Nat) (h1 : x < 4294967296) : bits BinOp.or IntKind.u32 ((x : Int) * 2097152 % 4294967296) ((x : Int) / 2048) = ((rotr x 11 : Nat) : Int) := by
  rw [← rotr_or x 11 h1 (by omega)]
  have e1 : ((x : Int) * 2097152 % 4294967296) = ((x * 2 ^ (32 - 11) % 4294967296 : Nat) : Int) := by simp
  have e2 : ((x : Int) / 2048) = ((x / 2 ^ 11 : Nat) : Int) := by simp
  rw [e1, e2]
  exact u32_or_nat _ _ (Nat.mod_lt _ (by omega)) (by have := Nat.div_le_self x (2 ^ 11); omega)
theorem rot11 (x : Nat) (h1 : x < 4294967296) (w : World) :
    Calls Tryd.prog 77 #[.int .u32 (x : Int), .int .i64 (-11)] w fun e w' => e = .returned (.int .u32 (rotr x 11 : Nat)) ∧ w = w' := by
  have h2 := ror_11 x h1
  have b0 : (0 : Int) ≤ (x : Int) := by omega
  have b1 : (x : Int) < 4294967296 := by omega
  clear h1
  go_enter Tryd.func77, Tryd.ntmps77
  go_upto_region 1 with (fail)
  refine wp_region_lit ?_
  refine wpL_pure (.int .i64 (-11)) rfl (by kernel_rfl) ?_
  simp only [Act.put, List.setIfInBounds_toArray, List.set_cons_zero, List.set_cons_succ]
  refine wpL_pure (.int .u64 18446744073709551605) rfl (by kernel_rfl) ?_
  simp only [Act.put, List.setIfInBounds_toArray, List.set_cons_zero, List.set_cons_succ]
  refine wpL_pure (.int .u64 21) rfl (by kernel_rfl) ?_
  simp only [Act.put, List.setIfInBounds_toArray, List.set_cons_zero, List.set_cons_succ]
  refine wpL_pure (.int .u64 21) rfl (by kernel_rfl) ?_
  simp only [Act.put, List.setIfInBounds_toArray, List.set_cons_zero, List.set_cons_succ]
  go_upto_region 2 with (fail)
  refine wp_region_lit ?_
  refine wpL_pure (.int .u32 (x : Int)) rfl (by kernel_rfl) ?_
  simp only [Act.put, List.setIfInBounds_toArray, List.set_cons_zero, List.set_cons_succ]
  refine wpL_pure (.int .u64 21) rfl (by kernel_rfl) ?_
  simp only [Act.put, List.setIfInBounds_toArray, List.set_cons_zero, List.set_cons_succ]
  refine wpL_pure (.int .u32 ((x : Int) * 2097152 % 4294967296)) rfl (run_shl32 21 2097152 (by simp) _ _ _ _ _ _ rfl rfl rfl ⟨b0, b1⟩) ?_
  simp only [Act.put, List.setIfInBounds_toArray, List.set_cons_zero, List.set_cons_succ]
  refine wpL_pure (.int .u32 (x : Int)) rfl (by kernel_rfl) ?_
  simp only [Act.put, List.setIfInBounds_toArray, List.set_cons_zero, List.set_cons_succ]
  refine wpL_pure (.int .u64 21) rfl (by kernel_rfl) ?_
  simp only [Act.put, List.setIfInBounds_toArray, List.set_cons_zero, List.set_cons_succ]
  refine wpL_pure (.int .u64 11) rfl (by kernel_rfl) ?_
  simp only [Act.put, List.setIfInBounds_toArray, List.set_cons_zero, List.set_cons_succ]
  refine wpL_pure (.int .u32 ((x : Int) / 2048)) rfl (run_shr32 11 2048 (by simp) _ _ _ _ _ _ rfl rfl rfl ⟨b0, b1⟩) ?_
  simp only [Act.put, List.setIfInBounds_toArray, List.set_cons_zero, List.set_cons_succ]
  refine wpL_pure (.int .u32 (rotr x 11 : Nat)) rfl (run_biti (.inl rfl) Tryd.underlying94 rfl rfl rfl _ h2) ?_
  simp only [Act.put, List.setIfInBounds_toArray, List.set_cons_zero, List.set_cons_succ]
  refine wpL_pure (.int .u32 (rotr x 11 : Nat)) rfl (by kernel_rfl) ?_
  simp only [Act.put, List.setIfInBounds_toArray, List.set_cons_zero, List.set_cons_succ]
  go_wp2_with fail
  go_ret
  exact ⟨rfl, rfl⟩
theorem ror_13 (x : Nat) (h1 : x < 4294967296) : bits BinOp.or IntKind.u32 ((x : Int) * 524288 % 4294967296) ((x : Int) / 8192) = ((rotr x 13 : Nat) : Int) := by
  rw [← rotr_or x 13 h1 (by omega)]
  have e1 : ((x : Int) * 524288 % 4294967296) = ((x * 2 ^ (32 - 13) % 4294967296 : Nat) : Int) := by simp
  have e2 : ((x : Int) / 8192) = ((x / 2 ^ 13 : Nat) : Int) := by simp
  rw [e1, e2]
  exact u32_or_nat _ _ (Nat.mod_lt _ (by omega)) (by have := Nat.div_le_self x (2 ^ 13); omega)
theorem rot13 (x : Nat) (h1 : x < 4294967296) (w : World) :
    Calls Tryd.prog 77 #[.int .u32 (x : Int), .int .i64 (-13)] w fun e w' => e = .returned (.int .u32 (rotr x 13 : Nat)) ∧ w = w' := by
  have h2 := ror_13 x h1
  have b0 : (0 : Int) ≤ (x : Int) := by omega
  have b1 : (x : Int) < 4294967296 := by omega
  clear h1
  go_enter Tryd.func77, Tryd.ntmps77
  go_upto_region 1 with (fail)
  refine wp_region_lit ?_
  refine wpL_pure (.int .i64 (-13)) rfl (by kernel_rfl) ?_
  simp only [Act.put, List.setIfInBounds_toArray, List.set_cons_zero, List.set_cons_succ]
  refine wpL_pure (.int .u64 18446744073709551603) rfl (by kernel_rfl) ?_
  simp only [Act.put, List.setIfInBounds_toArray, List.set_cons_zero, List.set_cons_succ]
  refine wpL_pure (.int .u64 19) rfl (by kernel_rfl) ?_
  simp only [Act.put, List.setIfInBounds_toArray, List.set_cons_zero, List.set_cons_succ]
  refine wpL_pure (.int .u64 19) rfl (by kernel_rfl) ?_
  simp only [Act.put, List.setIfInBounds_toArray, List.set_cons_zero, List.set_cons_succ]
  go_upto_region 2 with (fail)
  refine wp_region_lit ?_
  refine wpL_pure (.int .u32 (x : Int)) rfl (by kernel_rfl) ?_
  simp only [Act.put, List.setIfInBounds_toArray, List.set_cons_zero, List.set_cons_succ]
  refine wpL_pure (.int .u64 19) rfl (by kernel_rfl) ?_
  simp only [Act.put, List.setIfInBounds_toArray, List.set_cons_zero, List.set_cons_succ]
  refine wpL_pure (.int .u32 ((x : Int) * 524288 % 4294967296)) rfl (run_shl32 19 524288 (by simp) _ _ _ _ _ _ rfl rfl rfl ⟨b0, b1⟩) ?_
  simp only [Act.put, List.setIfInBounds_toArray, List.set_cons_zero, List.set_cons_succ]
  refine wpL_pure (.int .u32 (x : Int)) rfl (by kernel_rfl) ?_
  simp only [Act.put, List.setIfInBounds_toArray, List.set_cons_zero, List.set_cons_succ]
  refine wpL_pure (.int .u64 19) rfl (by kernel_rfl) ?_
  simp only [Act.put, List.setIfInBounds_toArray, List.set_cons_zero, List.set_cons_succ]
  refine wpL_pure (.int .u64 13) rfl (by kernel_rfl) ?_
  simp only [Act.put, List.setIfInBounds_toArray, List.set_cons_zero, List.set_cons_succ]
  refine wpL_pure (.int .u32 ((x : Int) / 8192)) rfl (run_shr32 13 8192 (by simp) _ _ _ _ _ _ rfl rfl rfl ⟨b0, b1⟩) ?_
  simp only [Act.put, List.setIfInBounds_toArray, List.set_cons_zero, List.set_cons_succ]
  refine wpL_pure (.int .u32 (rotr x 13 : Nat)) rfl (run_biti (.inl rfl) Tryd.underlying94 rfl rfl rfl _ h2) ?_
  simp only [Act.put, List.setIfInBounds_toArray, List.set_cons_zero, List.set_cons_succ]
  refine wpL_pure (.int .u32 (rotr x 13 : Nat)) rfl (by kernel_rfl) ?_
  simp only [Act.put, List.setIfInBounds_toArray, List.set_cons_zero, List.set_cons_succ]
  go_wp2_with fail
  go_ret
  exact ⟨rfl, rfl⟩
theorem ror_17 (x : Nat) (h1 : x < 4294967296) : bits BinOp.or IntKind.u32 ((x : Int) * 32768 % 4294967296) ((x : Int) / 131072) = ((rotr x 17 : Nat) : Int) := by
  rw [← rotr_or x 17 h1 (by omega)]
  have e1 : ((x : Int) * 32768 % 4294967296) = ((x * 2 ^ (32 - 17) % 4294967296 : Nat) : Int) := by simp
  have e2 : ((x : Int) / 131072) = ((x / 2 ^ 17 : Nat) : Int) := by simp
  rw [e1, e2]
  exact u32_or_nat _ _ (Nat.mod_lt _ (by omega)) (by have := Nat.div_le_self x (2 ^ 17); omega)
theorem rot17 (x : Nat) (h1 : x < 4294967296) (w : World) :
    Calls Tryd.prog 77 #[.int .u32 (x : Int), .int .i64 (-17)] w fun e w' => e = .returned (.int .u32 (rotr x 17 : Nat)) ∧ w = w' := by
  have h2 := ror_17 x h1
  have b0 : (0 : Int) ≤ (x : Int) := by omega
  have b1 : (x : Int) < 4294967296 := by omega
  clear h1
  go_enter Tryd.func77, Tryd.ntmps77
  go_upto_region 1 with (fail)
  refine wp_region_lit ?_
  refine wpL_pure (.int .i64 (-17)) rfl (by kernel_rfl) ?_
  simp only [Act.put, List.setIfInBounds_toArray, List.set_cons_zero, List.set_cons_succ]
  refine wpL_pure (.int .u64 18446744073709551599) rfl (by kernel_rfl) ?_
  simp only [Act.put, List.setIfInBounds_toArray, List.set_cons_zero, List.set_cons_succ]
  refine wpL_pure (.int .u64 15) rfl (by kernel_rfl) ?_
  simp only [Act.put, List.setIfInBounds_toArray, List.set_cons_zero, List.set_cons_succ]
  refine wpL_pure (.int .u64 15) rfl (by kernel_rfl) ?_
  simp only [Act.put, List.setIfInBounds_toArray, List.set_cons_zero, List.set_cons_succ]
  go_upto_region 2 with (fail)
  refine wp_region_lit ?_
  refine wpL_pure (.int .u32 (x : Int)) rfl (by kernel_rfl) ?_
  simp only [Act.put, List.setIfInBounds_toArray, List.set_cons_zero, List.set_cons_succ]
  refine wpL_pure (.int .u64 15) rfl (by kernel_rfl) ?_
  simp only [Act.put, List.setIfInBounds_toArray, List.set_cons_zero, List.set_cons_succ]
  refine wpL_pure (.int .u32 ((x : Int) * 32768 % 4294967296)) rfl (run_shl32 15 32768 (by simp) _ _ _ _ _ _ rfl rfl rfl ⟨b0, b1⟩) ?_
  simp only [Act.put, List.setIfInBounds_toArray, List.set_cons_zero, List.set_cons_succ]
  refine wpL_pure (.int .u32 (x : Int)) rfl (by kernel_rfl) ?_
  simp only [Act.put, List.setIfInBounds_toArray, List.set_cons_zero, List.set_cons_succ]
  refine wpL_pure (.int .u64 15) rfl (by kernel_rfl) ?_
  simp only [Act.put, List.setIfInBounds_toArray, List.set_cons_zero, List.set_cons_succ]
  refine wpL_pure (.int .u64 17) rfl (by kernel_rfl) ?_
  simp only [Act.put, List.setIfInBounds_toArray, List.set_cons_zero, List.set_cons_succ]
  refine wpL_pure (.int .u32 ((x : Int) / 131072)) rfl (run_shr32 17 131072 (by simp) _ _ _ _ _ _ rfl rfl rfl ⟨b0, b1⟩) ?_
  simp only [Act.put, List.setIfInBounds_toArray, List.set_cons_zero, List.set_cons_succ]
  refine wpL_pure (.int .u32 (rotr x 17 : Nat)) rfl (run_biti (.inl rfl) Tryd.underlying94 rfl rfl rfl _ h2) ?_
  simp only [Act.put, List.setIfInBounds_toArray, List.set_cons_zero, List.set_cons_succ]
  refine wpL_pure (.int .u32 (rotr x 17 : Nat)) rfl (by kernel_rfl) ?_
  simp only [Act.put, List.setIfInBounds_toArray, List.set_cons_zero, List.set_cons_succ]
  go_wp2_with fail
  go_ret
  exact ⟨rfl, rfl⟩
theorem ror_18 (x : Nat) (h1 : x < 4294967296) : bits BinOp.or IntKind.u32 ((x : Int) * 16384 % 4294967296) ((x : Int) / 262144) = ((rotr x 18 : Nat) : Int) := by
  rw [← rotr_or x 18 h1 (by omega)]
  have e1 : ((x : Int) * 16384 % 4294967296) = ((x * 2 ^ (32 - 18) % 4294967296 : Nat) : Int) := by simp
  have e2 : ((x : Int) / 262144) = ((x / 2 ^ 18 : Nat) : Int) := by simp
  rw [e1, e2]
  exact u32_or_nat _ _ (Nat.mod_lt _ (by omega)) (by have := Nat.div_le_self x (2 ^ 18); omega)
theorem rot18 (x : Nat) (h1 : x < 4294967296) (w : World) :
    Calls Tryd.prog 77 #[.int .u32 (x : Int), .int .i64 (-18)] w fun e w' => e = .returned (.int .u32 (rotr x 18 : Nat)) ∧ w = w' := by
  have h2 := ror_18 x h1
  have b0 : (0 : Int) ≤ (x : Int) := by omega
  have b1 : (x : Int) < 4294967296 := by omega
  clear h1
  go_enter Tryd.func77, Tryd.ntmps77
  go_upto_region 1 with (fail)
  refine wp_region_lit ?_
  refine wpL_pure (.int .i64 (-18)) rfl (by kernel_rfl) ?_
  simp only [Act.put, List.setIfInBounds_toArray, List.set_cons_zero, List.set_cons_succ]
  refine wpL_pure (.int .u64 18446744073709551598) rfl (by kernel_rfl) ?_
  simp only [Act.put, List.setIfInBounds_toArray, List.set_cons_zero, List.set_cons_succ]
  refine wpL_pure (.int .u64 14) rfl (by kernel_rfl) ?_
  simp only [Act.put, List.setIfInBounds_toArray, List.set_cons_zero, List.set_cons_succ]
  refine wpL_pure (.int .u64 14) rfl (by kernel_rfl) ?_
  simp only [Act.put, List.setIfInBounds_toArray, List.set_cons_zero, List.set_cons_succ]
  go_upto_region 2 with (fail)
  refine wp_region_lit ?_
  refine wpL_pure (.int .u32 (x : Int)) rfl (by kernel_rfl) ?_
  simp only [Act.put, List.setIfInBounds_toArray, List.set_cons_zero, List.set_cons_succ]
  refine wpL_pure (.int .u64 14) rfl (by kernel_rfl) ?_
  simp only [Act.put, List.setIfInBounds_toArray, List.set_cons_zero, List.set_cons_succ]
  refine wpL_pure (.int .u32 ((x : Int) * 16384 % 4294967296)) rfl (run_shl32 14 16384 (by simp) _ _ _ _ _ _ rfl rfl rfl ⟨b0, b1⟩) ?_
  simp only [Act.put, List.setIfInBounds_toArray, List.set_cons_zero, List.set_cons_succ]
  refine wpL_pure (.int .u32 (x : Int)) rfl (by kernel_rfl) ?_
  simp only [Act.put, List.setIfInBounds_toArray, List.set_cons_zero, List.set_cons_succ]
  refine wpL_pure (.int .u64 14) rfl (by kernel_rfl) ?_
  simp only [Act.put, List.setIfInBounds_toArray, List.set_cons_zero, List.set_cons_succ]
  refine wpL_pure (.int .u64 18) rfl (by kernel_rfl) ?_
  simp only [Act.put, List.setIfInBounds_toArray, List.set_cons_zero, List.set_cons_succ]
  refine wpL_pure (.int .u32 ((x : Int) / 262144)) rfl (run_shr32 18 262144 (by simp) _ _ _ _ _ _ rfl rfl rfl ⟨b0, b1⟩) ?_
  simp only [Act.put, List.setIfInBounds_toArray, List.set_cons_zero, List.set_cons_succ]
  refine wpL_pure (.int .u32 (rotr x 18 : Nat)) rfl (run_biti (.inl rfl) Tryd.underlying94 rfl rfl rfl _ h2) ?_
  simp only [Act.put, List.setIfInBounds_toArray, List.set_cons_zero, List.set_cons_succ]
  refine wpL_pure (.int .u32 (rotr x 18 : Nat)) rfl (by kernel_rfl) ?_
  simp only [Act.put, List.setIfInBounds_toArray, List.set_cons_zero, List.set_cons_succ]
  go_wp2_with fail
  go_ret
  exact ⟨rfl, rfl⟩
theorem ror_19 (x : Nat) (h1 : x < 4294967296) : bits BinOp.or IntKind.u32 ((x : Int) * 8192 % 4294967296) ((x : Int) / 524288) = ((rotr x 19 : Nat) : Int) := by
  rw [← rotr_or x 19 h1 (by omega)]
  have e1 : ((x : Int) * 8192 % 4294967296) = ((x * 2 ^ (32 - 19) % 4294967296 : Nat) : Int) := by simp
  have e2 : ((x : Int) / 524288) = ((x / 2 ^ 19 : Nat) : Int) := by simp
  rw [e1, e2]
  exact u32_or_nat _ _ (Nat.mod_lt _ (by omega)) (by have := Nat.div_le_self x (2 ^ 19); omega)
theorem rot19 (x : Nat) (h1 : x < 4294967296) (w : World) :
    Calls Tryd.prog 77 #[.int .u32 (x : Int), .int .i64 (-19)] w fun e w' => e = .returned (.int .u32 (rotr x 19 : Nat)) ∧ w = w' := by
  have h2 := ror_19 x h1
  have b0 : (0 : Int) ≤ (x : Int) := by omega
  have b1 : (x : Int) < 4294967296 := by omega
  clear h1
  go_enter Tryd.func77, Tryd.ntmps77
  go_upto_region 1 with (fail)
  refine wp_region_lit ?_
  refine wpL_pure (.int .i64 (-19)) rfl (by kernel_rfl) ?_
  simp only [Act.put, List.setIfInBounds_toArray, List.set_cons_zero, List.set_cons_succ]
  refine wpL_pure (.int .u64 18446744073709551597) rfl (by kernel_rfl) ?_
  simp only [Act.put, List.setIfInBounds_toArray, List.set_cons_zero, List.set_cons_succ]
  refine wpL_pure (.int .u64 13) rfl (by kernel_rfl) ?_
  simp only [Act.put, List.setIfInBounds_toArray, List.set_cons_zero, List.set_cons_succ]
  refine wpL_pure (.int .u64 13) rfl (by kernel_rfl) ?_
  simp only [Act.put, List.setIfInBounds_toArray, List.set_cons_zero, List.set_cons_succ]
  go_upto_region 2 with (fail)
  refine wp_region_lit ?_
  refine wpL_pure (.int .u32 (x : Int)) rfl (by kernel_rfl) ?_
  simp only [Act.put, List.setIfInBounds_toArray, List.set_cons_zero, List.set_cons_succ]
  refine wpL_pure (.int .u64 13) rfl (by kernel_rfl) ?_
  simp only [Act.put, List.setIfInBounds_toArray, List.set_cons_zero, List.set_cons_succ]
  refine wpL_pure (.int .u32 ((x : Int) * 8192 % 4294967296)) rfl (run_shl32 13 8192 (by simp) _ _ _ _ _ _ rfl rfl rfl ⟨b0, b1⟩) ?_
  simp only [Act.put, List.setIfInBounds_toArray, List.set_cons_zero, List.set_cons_succ]
  refine wpL_pure (.int .u32 (x : Int)) rfl (by kernel_rfl) ?_
  simp only [Act.put, List.setIfInBounds_toArray, List.set_cons_zero, List.set_cons_succ]
  refine wpL_pure (.int .u64 13) rfl (by kernel_rfl) ?_
  simp only [Act.put, List.setIfInBounds_toArray, List.set_cons_zero, List.set_cons_succ]
  refine wpL_pure (.int .u64 19) rfl (by kernel_rfl) ?_
  simp only [Act.put, List.setIfInBounds_toArray, List.set_cons_zero, List.set_cons_succ]
  refine wpL_pure (.int .u32 ((x : Int) / 524288)) rfl (run_shr32 19 524288 (by simp) _ _ _ _ _ _ rfl rfl rfl ⟨b0, b1⟩) ?_
  simp only [Act.put, List.setIfInBounds_toArray, List.set_cons_zero, List.set_cons_succ]
  refine wpL_pure (.int .u32 (rotr x 19 : Nat)) rfl (run_biti (.inl rfl) Tryd.underlying94 rfl rfl rfl _ h2) ?_
  simp only [Act.put, List.setIfInBounds_toArray, List.set_cons_zero, List.set_cons_succ]
  refine wpL_pure (.int .u32 (rotr x 19 : Nat)) rfl (by kernel_rfl) ?_
  simp only [Act.put, List.setIfInBounds_toArray, List.set_cons_zero, List.set_cons_succ]
  go_wp2_with fail
  go_ret
  exact ⟨rfl, rfl⟩
theorem ror_22 (x : Nat) (h1 : x < 4294967296) : bits BinOp.or IntKind.u32 ((x : Int) * 1024 % 4294967296) ((x : Int) / 4194304) = ((rotr x 22 : Nat) : Int) := by
  rw [← rotr_or x 22 h1 (by omega)]
  have e1 : ((x : Int) * 1024 % 4294967296) = ((x * 2 ^ (32 - 22) % 4294967296 : Nat) : Int) := by simp
  have e2 : ((x : Int) / 4194304) = ((x / 2 ^ 22 : Nat) : Int) := by simp
  rw [e1, e2]
  exact u32_or_nat _ _ (Nat.mod_lt _ (by omega)) (by have := Nat.div_le_self x (2 ^ 22); omega)
theorem rot22 (x : Nat) (h1 : x < 4294967296) (w : World) :
    Calls Tryd.prog 77 #[.int .u32 (x : Int), .int .i64 (-22)] w fun e w' => e = .returned (.int .u32 (rotr x 22 : Nat)) ∧ w = w' := by
  have h2 := ror_22 x h1
  have b0 : (0 : Int) ≤ (x : Int) := by omega
  have b1 : (x : Int) < 4294967296 := by omega
  clear h1
  go_enter Tryd.func77, Tryd.ntmps77
  go_upto_region 1 with (fail)
  refine wp_region_lit ?_
  refine wpL_pure (.int .i64 (-22)) rfl (by kernel_rfl) ?_
  simp only [Act.put, List.setIfInBounds_toArray, List.set_cons_zero, List.set_cons_succ]
  refine wpL_pure (.int .u64 18446744073709551594) rfl (by kernel_rfl) ?_
  simp only [Act.put, List.setIfInBounds_toArray, List.set_cons_zero, List.set_cons_succ]
  refine wpL_pure (.int .u64 10) rfl (by kernel_rfl) ?_
  simp only [Act.put, List.setIfInBounds_toArray, List.set_cons_zero, List.set_cons_succ]
  refine wpL_pure (.int .u64 10) rfl (by kernel_rfl) ?_
  simp only [Act.put, List.setIfInBounds_toArray, List.set_cons_zero, List.set_cons_succ]
  go_upto_region 2 with (fail)
  refine wp_region_lit ?_
  refine wpL_pure (.int .u32 (x : Int)) rfl (by kernel_rfl) ?_
  simp only [Act.put, List.setIfInBounds_toArray, List.set_cons_zero, List.set_cons_succ]
  refine wpL_pure (.int .u64 10) rfl (by kernel_rfl) ?_
  simp only [Act.put, List.setIfInBounds_toArray, List.set_cons_zero, List.set_cons_succ]
  refine wpL_pure (.int .u32 ((x : Int) * 1024 % 4294967296)) rfl (run_shl32 10 1024 (by simp) _ _ _ _ _ _ rfl rfl rfl ⟨b0, b1⟩) ?_
  simp only [Act.put, List.setIfInBounds_toArray, List.set_cons_zero, List.set_cons_succ]
  refine wpL_pure (.int .u32 (x : Int)) rfl (by kernel_rfl) ?_
  simp only [Act.put, List.setIfInBounds_toArray, List.set_cons_zero, List.set_cons_succ]
  refine wpL_pure (.int .u64 10) rfl (by kernel_rfl) ?_
  simp only [Act.put, List.setIfInBounds_toArray, List.set_cons_zero, List.set_cons_succ]
  refine wpL_pure (.int .u64 22) rfl (by kernel_rfl) ?_
  simp only [Act.put, List.setIfInBounds_toArray, List.set_cons_zero, List.set_cons_succ]
  refine wpL_pure (.int .u32 ((x : Int) / 4194304)) rfl (run_shr32 22 4194304 (by simp) _ _ _ _ _ _ rfl rfl rfl ⟨b0, b1⟩) ?_
  simp only [Act.put, List.setIfInBounds_toArray, List.set_cons_zero, List.set_cons_succ]
  refine wpL_pure (.int .u32 (rotr x 22 : Nat)) rfl (run_biti (.inl rfl) Tryd.underlying94 rfl rfl rfl _ h2) ?_
  simp only [Act.put, List.setIfInBounds_toArray, List.set_cons_zero, List.set_cons_succ]
  refine wpL_pure (.int .u32 (rotr x 22 : Nat)) rfl (by kernel_rfl) ?_
  simp only [Act.put, List.setIfInBounds_toArray, List.set_cons_zero, List.set_cons_succ]
  go_wp2_with fail
  go_ret
  exact ⟨rfl, rfl⟩
theorem ror_25 (x : Nat) (h1 : x < 4294967296) : bits BinOp.or IntKind.u32 ((x : Int) * 128 % 4294967296) ((x : Int) / 33554432) = ((rotr x 25 : Nat) : Int) := by
  rw [← rotr_or x 25 h1 (by omega)]
  have e1 : ((x : Int) * 128 % 4294967296) = ((x * 2 ^ (32 - 25) % 4294967296 : Nat) : Int) := by simp
  have e2 : ((x : Int) / 33554432) = ((x / 2 ^ 25 : Nat) : Int) := by simp
  rw [e1, e2]
  exact u32_or_nat _ _ (Nat.mod_lt _ (by omega)) (by have := Nat.div_le_self x (2 ^ 25); omega)
theorem rot25 (x : Nat) (h1 : x < 4294967296) (w : World) :
    Calls Tryd.prog 77 #[.int .u32 (x : Int), .int .i64 (-25)] w fun e w' => e = .returned (.int .u32 (rotr x 25 : Nat)) ∧ w = w' := by
  have h2 := ror_25 x h1
  have b0 : (0 : Int) ≤ (x : Int) := by omega
  have b1 : (x : Int) < 4294967296 := by omega
  clear h1
  go_enter Tryd.func77, Tryd.ntmps77
  go_upto_region 1 with (fail)
  refine wp_region_lit ?_
  refine wpL_pure (.int .i64 (-25)) rfl (by kernel_rfl) ?_
  simp only [Act.put, List.setIfInBounds_toArray, List.set_cons_zero, List.set_cons_succ]
  refine wpL_pure (.int .u64 18446744073709551591) rfl (by kernel_rfl) ?_
  simp only [Act.put, List.setIfInBounds_toArray, List.set_cons_zero, List.set_cons_succ]
  refine wpL_pure (.int .u64 7) rfl (by kernel_rfl) ?_
  simp only [Act.put, List.setIfInBounds_toArray, List.set_cons_zero, List.set_cons_succ]
  refine wpL_pure (.int .u64 7) rfl (by kernel_rfl) ?_
  simp only [Act.put, List.setIfInBounds_toArray, List.set_cons_zero, List.set_cons_succ]
  go_upto_region 2 with (fail)
  refine wp_region_lit ?_
  refine wpL_pure (.int .u32 (x : Int)) rfl (by kernel_rfl) ?_
  simp only [Act.put, List.setIfInBounds_toArray, List.set_cons_zero, List.set_cons_succ]
  refine wpL_pure (.int .u64 7) rfl (by kernel_rfl) ?_
  simp only [Act.put, List.setIfInBounds_toArray, List.set_cons_zero, List.set_cons_succ]
  refine wpL_pure (.int .u32 ((x : Int) * 128 % 4294967296)) rfl (run_shl32 7 128 (by simp) _ _ _ _ _ _ rfl rfl rfl ⟨b0, b1⟩) ?_
  simp only [Act.put, List.setIfInBounds_toArray, List.set_cons_zero, List.set_cons_succ]
  refine wpL_pure (.int .u32 (x : Int)) rfl (by kernel_rfl) ?_
  simp only [Act.put, List.setIfInBounds_toArray, List.set_cons_zero, List.set_cons_succ]
  refine wpL_pure (.int .u64 7) rfl (by kernel_rfl) ?_
  simp only [Act.put, List.setIfInBounds_toArray, List.set_cons_zero, List.set_cons_succ]
  refine wpL_pure (.int .u64 25) rfl (by kernel_rfl) ?_
  simp only [Act.put, List.setIfInBounds_toArray, List.set_cons_zero, List.set_cons_succ]
  refine wpL_pure (.int .u32 ((x : Int) / 33554432)) rfl (run_shr32 25 33554432 (by simp) _ _ _ _ _ _ rfl rfl rfl ⟨b0, b1⟩) ?_
  simp only [Act.put, List.setIfInBounds_toArray, List.set_cons_zero, List.set_cons_succ]
  refine wpL_pure (.int .u32 (rotr x 25 : Nat)) rfl (run_biti (.inl rfl) Tryd.underlying94 rfl rfl rfl _ h2) ?_
  simp only [Act.put, List.setIfInBounds_toArray, List.set_cons_zero, List.set_cons_succ]
  refine wpL_pure (.int .u32 (rotr x 25 : Nat)) rfl (by kernel_rfl) ?_
  simp only [Act.put, List.setIfInBounds_toArray, List.set_cons_zero, List.set_cons_succ]
  go_wp2_with fail
  go_ret
  exact ⟨rfl, rfl⟩
end Go.Proofs.YtfhjfpgfbeiacaaDoor.Ha
