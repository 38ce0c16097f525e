/- Headers; buckets; the greatest of six. -/
import Derived.Test.YthkhlkiemldbaaaKT1
import Derived.Test.YthkhlkiemldbaaaKK8
import Derived.Great.BuildSlice
namespace Go.Proofs.Ythkhlkiemldbaaa.K.Ha
open Go Go.RowKit
set_option maxRecDepth 100000
theorem run_idx60 (a : Act) (o : Oper) (w : World) (x i : Operand) (g off n c k : Nat) (ho : o.op = .indexAddr 60 x i) (hx : a.eval x = .slice (some ⟨g, off, none⟩) n c) (hi : a.eval i = .int .i64 (k : Int)) (hk : k < n) (hn : n ≤ maxLen) : (execOp a.eval o).run Try.prog w = .ok (.value (.pointer (some ⟨g, off + k, none⟩))) w := by
  unfold maxLen at hn
  have j0 : (0 : Int) ≤ (k : Int) := by omega
  have j6 : (k : Int) < (n : Int) := by omega
  unfold execOp
  simp only [ho, hx, hi]
  go_simp

theorem run_maxu (a : Act) (o : Oper) (w : World) (x y : Operand) (p q m : Int) (ho : o.op = .call { callee := .builtin .max, args := #[x, y], argTypes := #[22, 22] }) (ht : o.type = 22) (hx : a.eval x = .int .u64 p) (hy : a.eval y = .int .u64 q) (hm : m = if q > p then q else p) :
    (execOp a.eval o).run Try.prog w = .ok (.value (.int .u64 m)) w := by
  subst hm
  have r : (Builtin.max_ #[22, 22] 22 #[.int .u64 p, .int .u64 q]).run Try.prog w = .ok (.int .u64 (if q > p then q else p)) w := by rw [run_max_int2]
  unfold execOp
  simp only [ho, resolve, invoke, builtin, Sem.run_bind, Sem.run_pure, Result.andThen_ok, List.map_toArray, List.map_cons, List.map_nil, hx, hy, ht, r]
def bkt (n : Int) : Prop := n = 64 ∨ n = 128 ∨ n = 256 ∨ n = 512 ∨ n = 1024 ∨ n = 2048
def mxN (f : Nat → Int) : Nat → Int
  | 0 => f 0
  | k + 1 => if f (k + 1) > mxN f k then f (k + 1) else mxN f k
theorem mxN_le (f : Nat → Int) (b : Int) : ∀ k, mxN f k ≤ b ↔ ∀ j, j ≤ k → f j ≤ b
  | 0 => ⟨fun h j hj => (by obtain rfl : j = 0 := by omega
                            exact h), fun h => h 0 (Nat.le_refl _)⟩
  | k + 1 => by
    have ih := mxN_le f b k
    unfold mxN
    constructor
    · intro h j hj
      split at h
      · by_cases e : j = k + 1
        · subst e; exact h
        · exact ih.1 (by omega) j (by omega)
      · by_cases e : j = k + 1
        · subst e; omega
        · exact ih.1 h j (by omega)
    · intro h
      split
      · exact h (k + 1) (Nat.le_refl _)
      · exact ih.2 fun j hj => h j (by omega)
/-- the least bucket with room; 0: none. -/
def bk (n : Nat) : Nat := if n < 64 then 64 else if n < 128 then 128 else if n < 256 then 256 else if n < 512 then 512 else if n < 1024 then 1024 else if n < 2048 then 2048 else 0
attribute [local irreducible] wpList
set_option maxHeartbeats 4000000 in
theorem is_any (n : Int) (w : World) : Calls Try.prog 31 #[.int .i64 n] w fun e w' => ∃ z : Bool, e = .returned (.bool z) ∧ (z = true ↔ bkt n) ∧ w' = w := by
  go_enter Try.func31, Try.ntmps31
  go_upto_region 0 with (fail)
  refine wp_region_lit ?_
  refine wpL_pure (.bool false) rfl (by kernel_rfl) ?_
  simp only [Act.put, List.setIfInBounds_toArray, List.set_cons_zero, List.set_cons_succ]
  go_upto_region 1 with (fail)
  refine wp_region_lit ?_
  refine wpL_pure (.int .i64 0) rfl (by kernel_rfl) ?_
  simp only [Act.put, List.setIfInBounds_toArray, List.set_cons_zero, List.set_cons_succ]
  go_wp2_with fail
  go_loopw [4] (fun s4 wr => ∃ k : Nat, s4 = .int .i64 (k : Int) ∧ Hid (k ≤ 6 ∧ (∀ j : Nat, j < k → n ≠ ((64 * 2 ^ j : Nat) : Int)) ∧ wr = w)) (fun s4 _ => 6 - (intOf s4).toNat)
  case atStart => exact ⟨0, rfl, Lib.hid ⟨by omega, fun j h => by omega, rfl⟩⟩
  case round =>
    obtain ⟨k, rfl, RI⟩ := hrel
    have hk := RI.out.1
    obtain rfl | rfl | rfl | rfl | rfl | rfl | rfl : k = 0 ∨ k = 1 ∨ k = 2 ∨ k = 3 ∨ k = 4 ∨ k = 5 ∨ k = 6 := by omega
    · clear hk
      go_upto_region 2 with (fail)
      refine wp_region_lit ?_
      refine wpL_pure (.bool true) rfl (by kernel_rfl) ?_
      simp only [Act.put, List.setIfInBounds_toArray, List.set_cons_zero, List.set_cons_succ]
      go_upto_region 3 with (fail)
      refine wp_region_lit ?_
      refine wpL_pure (.int .i64 0) rfl (by kernel_rfl) ?_
      simp only [Act.put, List.setIfInBounds_toArray, List.set_cons_zero, List.set_cons_succ]
      refine wpL_pure (.int .i64 0) rfl (by kernel_rfl) ?_
      simp only [Act.put, List.setIfInBounds_toArray, List.set_cons_zero, List.set_cons_succ]
      by_cases hn : n = 64
      · have HN := Lib.hid hn
        clear hn
        go_upto_region 4 with (fail)
        refine wp_region_lit ?_
        refine wpL_pure (.int .i64 n) rfl (by kernel_rfl) ?_
        simp only [Act.put, List.setIfInBounds_toArray, List.set_cons_zero, List.set_cons_succ]
        refine wpL_pure (.int .i64 0) rfl (by kernel_rfl) ?_
        simp only [Act.put, List.setIfInBounds_toArray, List.set_cons_zero, List.set_cons_succ]
        refine wpL_pure (.int .i64 64) rfl (by kernel_rfl) ?_
        simp only [Act.put, List.setIfInBounds_toArray, List.set_cons_zero, List.set_cons_succ]
        refine wpL_pure (.bool true) rfl (run_eqi Try.underlying3 rfl rfl rfl (by have := HN.out; rw [decide_eq_true_eq]; omega)) ?_
        simp only [Act.put, List.setIfInBounds_toArray, List.set_cons_zero, List.set_cons_succ]
        go_upto_region 5 with (fail)
        refine wp_region_lit ?_
        refine wpL_pure (.bool true) rfl (by kernel_rfl) ?_
        simp only [Act.put, List.setIfInBounds_toArray, List.set_cons_zero, List.set_cons_succ]
        go_wp2_with fail
        go_ret
        exact ⟨true, rfl, ⟨fun _ => by have := HN.out; unfold bkt; omega, fun _ => rfl⟩, RI.out.2.2⟩
      · have HN := Lib.hid hn
        clear hn
        go_upto_region 4 with (fail)
        refine wp_region_lit ?_
        refine wpL_pure (.int .i64 n) rfl (by kernel_rfl) ?_
        simp only [Act.put, List.setIfInBounds_toArray, List.set_cons_zero, List.set_cons_succ]
        refine wpL_pure (.int .i64 0) rfl (by kernel_rfl) ?_
        simp only [Act.put, List.setIfInBounds_toArray, List.set_cons_zero, List.set_cons_succ]
        refine wpL_pure (.int .i64 64) rfl (by kernel_rfl) ?_
        simp only [Act.put, List.setIfInBounds_toArray, List.set_cons_zero, List.set_cons_succ]
        refine wpL_pure (.bool false) rfl (run_eqi Try.underlying3 rfl rfl rfl (by have := HN.out; rw [decide_eq_false_iff_not]; omega)) ?_
        simp only [Act.put, List.setIfInBounds_toArray, List.set_cons_zero, List.set_cons_succ]
        go_upto_region 6 with (fail)
        refine wp_region_lit ?_
        refine wpL_pure (.int .i64 1) rfl (by kernel_rfl) ?_
        simp only [Act.put, List.setIfInBounds_toArray, List.set_cons_zero, List.set_cons_succ]
        refine wpL_pure (.int .i64 1) rfl (by kernel_rfl) ?_
        simp only [Act.put, List.setIfInBounds_toArray, List.set_cons_zero, List.set_cons_succ]
        have NX : Hid (1 ≤ 6 ∧ (∀ j : Nat, j < 1 → n ≠ ((64 * 2 ^ j : Nat) : Int)) ∧ wr = w) := Lib.hid ⟨by omega, fun j h => by
          by_cases e : j = 0
          · subst e; have := HN.out; omega
          · exact RI.out.2.1 j (by omega), RI.out.2.2⟩
        unfold wpList
        go_roundw
        case rel => first | exact ⟨1, rfl, NX⟩ | ((repeat apply Exists.intro); exact ⟨⟨1, rfl, NX⟩, rfl⟩)
        case measure => simp [intOf]
    · clear hk
      go_upto_region 2 with (fail)
      refine wp_region_lit ?_
      refine wpL_pure (.bool true) rfl (by kernel_rfl) ?_
      simp only [Act.put, List.setIfInBounds_toArray, List.set_cons_zero, List.set_cons_succ]
      go_upto_region 3 with (fail)
      refine wp_region_lit ?_
      refine wpL_pure (.int .i64 1) rfl (by kernel_rfl) ?_
      simp only [Act.put, List.setIfInBounds_toArray, List.set_cons_zero, List.set_cons_succ]
      refine wpL_pure (.int .i64 1) rfl (by kernel_rfl) ?_
      simp only [Act.put, List.setIfInBounds_toArray, List.set_cons_zero, List.set_cons_succ]
      by_cases hn : n = 128
      · have HN := Lib.hid hn
        clear hn
        go_upto_region 4 with (fail)
        refine wp_region_lit ?_
        refine wpL_pure (.int .i64 n) rfl (by kernel_rfl) ?_
        simp only [Act.put, List.setIfInBounds_toArray, List.set_cons_zero, List.set_cons_succ]
        refine wpL_pure (.int .i64 1) rfl (by kernel_rfl) ?_
        simp only [Act.put, List.setIfInBounds_toArray, List.set_cons_zero, List.set_cons_succ]
        refine wpL_pure (.int .i64 128) rfl (by kernel_rfl) ?_
        simp only [Act.put, List.setIfInBounds_toArray, List.set_cons_zero, List.set_cons_succ]
        refine wpL_pure (.bool true) rfl (run_eqi Try.underlying3 rfl rfl rfl (by have := HN.out; rw [decide_eq_true_eq]; omega)) ?_
        simp only [Act.put, List.setIfInBounds_toArray, List.set_cons_zero, List.set_cons_succ]
        go_upto_region 5 with (fail)
        refine wp_region_lit ?_
        refine wpL_pure (.bool true) rfl (by kernel_rfl) ?_
        simp only [Act.put, List.setIfInBounds_toArray, List.set_cons_zero, List.set_cons_succ]
        go_wp2_with fail
        go_ret
        exact ⟨true, rfl, ⟨fun _ => by have := HN.out; unfold bkt; omega, fun _ => rfl⟩, RI.out.2.2⟩
      · have HN := Lib.hid hn
        clear hn
        go_upto_region 4 with (fail)
        refine wp_region_lit ?_
        refine wpL_pure (.int .i64 n) rfl (by kernel_rfl) ?_
        simp only [Act.put, List.setIfInBounds_toArray, List.set_cons_zero, List.set_cons_succ]
        refine wpL_pure (.int .i64 1) rfl (by kernel_rfl) ?_
        simp only [Act.put, List.setIfInBounds_toArray, List.set_cons_zero, List.set_cons_succ]
        refine wpL_pure (.int .i64 128) rfl (by kernel_rfl) ?_
        simp only [Act.put, List.setIfInBounds_toArray, List.set_cons_zero, List.set_cons_succ]
        refine wpL_pure (.bool false) rfl (run_eqi Try.underlying3 rfl rfl rfl (by have := HN.out; rw [decide_eq_false_iff_not]; omega)) ?_
        simp only [Act.put, List.setIfInBounds_toArray, List.set_cons_zero, List.set_cons_succ]
        go_upto_region 6 with (fail)
        refine wp_region_lit ?_
        refine wpL_pure (.int .i64 2) rfl (by kernel_rfl) ?_
        simp only [Act.put, List.setIfInBounds_toArray, List.set_cons_zero, List.set_cons_succ]
        refine wpL_pure (.int .i64 2) rfl (by kernel_rfl) ?_
        simp only [Act.put, List.setIfInBounds_toArray, List.set_cons_zero, List.set_cons_succ]
        have NX : Hid (2 ≤ 6 ∧ (∀ j : Nat, j < 2 → n ≠ ((64 * 2 ^ j : Nat) : Int)) ∧ wr = w) := Lib.hid ⟨by omega, fun j h => by
          by_cases e : j = 1
          · subst e; have := HN.out; omega
          · exact RI.out.2.1 j (by omega), RI.out.2.2⟩
        unfold wpList
        go_roundw
        case rel => first | exact ⟨2, rfl, NX⟩ | ((repeat apply Exists.intro); exact ⟨⟨2, rfl, NX⟩, rfl⟩)
        case measure => simp [intOf]
    · clear hk
      go_upto_region 2 with (fail)
      refine wp_region_lit ?_
      refine wpL_pure (.bool true) rfl (by kernel_rfl) ?_
      simp only [Act.put, List.setIfInBounds_toArray, List.set_cons_zero, List.set_cons_succ]
      go_upto_region 3 with (fail)
      refine wp_region_lit ?_
      refine wpL_pure (.int .i64 2) rfl (by kernel_rfl) ?_
      simp only [Act.put, List.setIfInBounds_toArray, List.set_cons_zero, List.set_cons_succ]
      refine wpL_pure (.int .i64 2) rfl (by kernel_rfl) ?_
      simp only [Act.put, List.setIfInBounds_toArray, List.set_cons_zero, List.set_cons_succ]
      by_cases hn : n = 256
      · have HN := Lib.hid hn
        clear hn
        go_upto_region 4 with (fail)
        refine wp_region_lit ?_
        refine wpL_pure (.int .i64 n) rfl (by kernel_rfl) ?_
        simp only [Act.put, List.setIfInBounds_toArray, List.set_cons_zero, List.set_cons_succ]
        refine wpL_pure (.int .i64 2) rfl (by kernel_rfl) ?_
        simp only [Act.put, List.setIfInBounds_toArray, List.set_cons_zero, List.set_cons_succ]
        refine wpL_pure (.int .i64 256) rfl (by kernel_rfl) ?_
        simp only [Act.put, List.setIfInBounds_toArray, List.set_cons_zero, List.set_cons_succ]
        refine wpL_pure (.bool true) rfl (run_eqi Try.underlying3 rfl rfl rfl (by have := HN.out; rw [decide_eq_true_eq]; omega)) ?_
        simp only [Act.put, List.setIfInBounds_toArray, List.set_cons_zero, List.set_cons_succ]
        go_upto_region 5 with (fail)
        refine wp_region_lit ?_
        refine wpL_pure (.bool true) rfl (by kernel_rfl) ?_
        simp only [Act.put, List.setIfInBounds_toArray, List.set_cons_zero, List.set_cons_succ]
        go_wp2_with fail
        go_ret
        exact ⟨true, rfl, ⟨fun _ => by have := HN.out; unfold bkt; omega, fun _ => rfl⟩, RI.out.2.2⟩
      · have HN := Lib.hid hn
        clear hn
        go_upto_region 4 with (fail)
        refine wp_region_lit ?_
        refine wpL_pure (.int .i64 n) rfl (by kernel_rfl) ?_
        simp only [Act.put, List.setIfInBounds_toArray, List.set_cons_zero, List.set_cons_succ]
        refine wpL_pure (.int .i64 2) rfl (by kernel_rfl) ?_
        simp only [Act.put, List.setIfInBounds_toArray, List.set_cons_zero, List.set_cons_succ]
        refine wpL_pure (.int .i64 256) rfl (by kernel_rfl) ?_
        simp only [Act.put, List.setIfInBounds_toArray, List.set_cons_zero, List.set_cons_succ]
        refine wpL_pure (.bool false) rfl (run_eqi Try.underlying3 rfl rfl rfl (by have := HN.out; rw [decide_eq_false_iff_not]; omega)) ?_
        simp only [Act.put, List.setIfInBounds_toArray, List.set_cons_zero, List.set_cons_succ]
        go_upto_region 6 with (fail)
        refine wp_region_lit ?_
        refine wpL_pure (.int .i64 3) rfl (by kernel_rfl) ?_
        simp only [Act.put, List.setIfInBounds_toArray, List.set_cons_zero, List.set_cons_succ]
        refine wpL_pure (.int .i64 3) rfl (by kernel_rfl) ?_
        simp only [Act.put, List.setIfInBounds_toArray, List.set_cons_zero, List.set_cons_succ]
        have NX : Hid (3 ≤ 6 ∧ (∀ j : Nat, j < 3 → n ≠ ((64 * 2 ^ j : Nat) : Int)) ∧ wr = w) := Lib.hid ⟨by omega, fun j h => by
          by_cases e : j = 2
          · subst e; have := HN.out; omega
          · exact RI.out.2.1 j (by omega), RI.out.2.2⟩
        unfold wpList
        go_roundw
        case rel => first | exact ⟨3, rfl, NX⟩ | ((repeat apply Exists.intro); exact ⟨⟨3, rfl, NX⟩, rfl⟩)
        case measure => simp [intOf]
    · clear hk
      go_upto_region 2 with (fail)
      refine wp_region_lit ?_
      refine wpL_pure (.bool true) rfl (by kernel_rfl) ?_
      simp only [Act.put, List.setIfInBounds_toArray, List.set_cons_zero, List.set_cons_succ]
      go_upto_region 3 with (fail)
      refine wp_region_lit ?_
      refine wpL_pure (.int .i64 3) rfl (by kernel_rfl) ?_
      simp only [Act.put, List.setIfInBounds_toArray, List.set_cons_zero, List.set_cons_succ]
      refine wpL_pure (.int .i64 3) rfl (by kernel_rfl) ?_
      simp only [Act.put, List.setIfInBounds_toArray, List.set_cons_zero, List.set_cons_succ]
      by_cases hn : n = 512
      · have HN := Lib.hid hn
        clear hn
        go_upto_region 4 with (fail)
        refine wp_region_lit ?_
        refine wpL_pure (.int .i64 n) rfl (by kernel_rfl) ?_
        simp only [Act.put, List.setIfInBounds_toArray, List.set_cons_zero, List.set_cons_succ]
        refine wpL_pure (.int .i64 3) rfl (by kernel_rfl) ?_
        simp only [Act.put, List.setIfInBounds_toArray, List.set_cons_zero, List.set_cons_succ]
        refine wpL_pure (.int .i64 512) rfl (by kernel_rfl) ?_
        simp only [Act.put, List.setIfInBounds_toArray, List.set_cons_zero, List.set_cons_succ]
        refine wpL_pure (.bool true) rfl (run_eqi Try.underlying3 rfl rfl rfl (by have := HN.out; rw [decide_eq_true_eq]; omega)) ?_
        simp only [Act.put, List.setIfInBounds_toArray, List.set_cons_zero, List.set_cons_succ]
        go_upto_region 5 with (fail)
        refine wp_region_lit ?_
        refine wpL_pure (.bool true) rfl (by kernel_rfl) ?_
        simp only [Act.put, List.setIfInBounds_toArray, List.set_cons_zero, List.set_cons_succ]
        go_wp2_with fail
        go_ret
        exact ⟨true, rfl, ⟨fun _ => by have := HN.out; unfold bkt; omega, fun _ => rfl⟩, RI.out.2.2⟩
      · have HN := Lib.hid hn
        clear hn
        go_upto_region 4 with (fail)
        refine wp_region_lit ?_
        refine wpL_pure (.int .i64 n) rfl (by kernel_rfl) ?_
        simp only [Act.put, List.setIfInBounds_toArray, List.set_cons_zero, List.set_cons_succ]
        refine wpL_pure (.int .i64 3) rfl (by kernel_rfl) ?_
        simp only [Act.put, List.setIfInBounds_toArray, List.set_cons_zero, List.set_cons_succ]
        refine wpL_pure (.int .i64 512) rfl (by kernel_rfl) ?_
        simp only [Act.put, List.setIfInBounds_toArray, List.set_cons_zero, List.set_cons_succ]
        refine wpL_pure (.bool false) rfl (run_eqi Try.underlying3 rfl rfl rfl (by have := HN.out; rw [decide_eq_false_iff_not]; omega)) ?_
        simp only [Act.put, List.setIfInBounds_toArray, List.set_cons_zero, List.set_cons_succ]
        go_upto_region 6 with (fail)
        refine wp_region_lit ?_
        refine wpL_pure (.int .i64 4) rfl (by kernel_rfl) ?_
        simp only [Act.put, List.setIfInBounds_toArray, List.set_cons_zero, List.set_cons_succ]
        refine wpL_pure (.int .i64 4) rfl (by kernel_rfl) ?_
        simp only [Act.put, List.setIfInBounds_toArray, List.set_cons_zero, List.set_cons_succ]
        have NX : Hid (4 ≤ 6 ∧ (∀ j : Nat, j < 4 → n ≠ ((64 * 2 ^ j : Nat) : Int)) ∧ wr = w) := Lib.hid ⟨by omega, fun j h => by
          by_cases e : j = 3
          · subst e; have := HN.out; omega
          · exact RI.out.2.1 j (by omega), RI.out.2.2⟩
        unfold wpList
        go_roundw
        case rel => first | exact ⟨4, rfl, NX⟩ | ((repeat apply Exists.intro); exact ⟨⟨4, rfl, NX⟩, rfl⟩)
        case measure => simp [intOf]
    · clear hk
      go_upto_region 2 with (fail)
      refine wp_region_lit ?_
      refine wpL_pure (.bool true) rfl (by kernel_rfl) ?_
      simp only [Act.put, List.setIfInBounds_toArray, List.set_cons_zero, List.set_cons_succ]
      go_upto_region 3 with (fail)
      refine wp_region_lit ?_
      refine wpL_pure (.int .i64 4) rfl (by kernel_rfl) ?_
      simp only [Act.put, List.setIfInBounds_toArray, List.set_cons_zero, List.set_cons_succ]
      refine wpL_pure (.int .i64 4) rfl (by kernel_rfl) ?_
      simp only [Act.put, List.setIfInBounds_toArray, List.set_cons_zero, List.set_cons_succ]
      by_cases hn : n = 1024
      · have HN := Lib.hid hn
        clear hn
        go_upto_region 4 with (fail)
        refine wp_region_lit ?_
        refine wpL_pure (.int .i64 n) rfl (by kernel_rfl) ?_
        simp only [Act.put, List.setIfInBounds_toArray, List.set_cons_zero, List.set_cons_succ]
        refine wpL_pure (.int .i64 4) rfl (by kernel_rfl) ?_
        simp only [Act.put, List.setIfInBounds_toArray, List.set_cons_zero, List.set_cons_succ]
        refine wpL_pure (.int .i64 1024) rfl (by kernel_rfl) ?_
        simp only [Act.put, List.setIfInBounds_toArray, List.set_cons_zero, List.set_cons_succ]
        refine wpL_pure (.bool true) rfl (run_eqi Try.underlying3 rfl rfl rfl (by have := HN.out; rw [decide_eq_true_eq]; omega)) ?_
        simp only [Act.put, List.setIfInBounds_toArray, List.set_cons_zero, List.set_cons_succ]
        go_upto_region 5 with (fail)
        refine wp_region_lit ?_
        refine wpL_pure (.bool true) rfl (by kernel_rfl) ?_
        simp only [Act.put, List.setIfInBounds_toArray, List.set_cons_zero, List.set_cons_succ]
        go_wp2_with fail
        go_ret
        exact ⟨true, rfl, ⟨fun _ => by have := HN.out; unfold bkt; omega, fun _ => rfl⟩, RI.out.2.2⟩
      · have HN := Lib.hid hn
        clear hn
        go_upto_region 4 with (fail)
        refine wp_region_lit ?_
        refine wpL_pure (.int .i64 n) rfl (by kernel_rfl) ?_
        simp only [Act.put, List.setIfInBounds_toArray, List.set_cons_zero, List.set_cons_succ]
        refine wpL_pure (.int .i64 4) rfl (by kernel_rfl) ?_
        simp only [Act.put, List.setIfInBounds_toArray, List.set_cons_zero, List.set_cons_succ]
        refine wpL_pure (.int .i64 1024) rfl (by kernel_rfl) ?_
        simp only [Act.put, List.setIfInBounds_toArray, List.set_cons_zero, List.set_cons_succ]
        refine wpL_pure (.bool false) rfl (run_eqi Try.underlying3 rfl rfl rfl (by have := HN.out; rw [decide_eq_false_iff_not]; omega)) ?_
        simp only [Act.put, List.setIfInBounds_toArray, List.set_cons_zero, List.set_cons_succ]
        go_upto_region 6 with (fail)
        refine wp_region_lit ?_
        refine wpL_pure (.int .i64 5) rfl (by kernel_rfl) ?_
        simp only [Act.put, List.setIfInBounds_toArray, List.set_cons_zero, List.set_cons_succ]
        refine wpL_pure (.int .i64 5) rfl (by kernel_rfl) ?_
        simp only [Act.put, List.setIfInBounds_toArray, List.set_cons_zero, List.set_cons_succ]
        have NX : Hid (5 ≤ 6 ∧ (∀ j : Nat, j < 5 → n ≠ ((64 * 2 ^ j : Nat) : Int)) ∧ wr = w) := Lib.hid ⟨by omega, fun j h => by
          by_cases e : j = 4
          · subst e; have := HN.out; omega
          · exact RI.out.2.1 j (by omega), RI.out.2.2⟩
        unfold wpList
        go_roundw
        case rel => first | exact ⟨5, rfl, NX⟩ | ((repeat apply Exists.intro); exact ⟨⟨5, rfl, NX⟩, rfl⟩)
        case measure => simp [intOf]
    · clear hk
      go_upto_region 2 with (fail)
      refine wp_region_lit ?_
      refine wpL_pure (.bool true) rfl (by kernel_rfl) ?_
      simp only [Act.put, List.setIfInBounds_toArray, List.set_cons_zero, List.set_cons_succ]
      go_upto_region 3 with (fail)
      refine wp_region_lit ?_
      refine wpL_pure (.int .i64 5) rfl (by kernel_rfl) ?_
      simp only [Act.put, List.setIfInBounds_toArray, List.set_cons_zero, List.set_cons_succ]
      refine wpL_pure (.int .i64 5) rfl (by kernel_rfl) ?_
      simp only [Act.put, List.setIfInBounds_toArray, List.set_cons_zero, List.set_cons_succ]
      by_cases hn : n = 2048
      · have HN := Lib.hid hn
        clear hn
        go_upto_region 4 with (fail)
        refine wp_region_lit ?_
        refine wpL_pure (.int .i64 n) rfl (by kernel_rfl) ?_
        simp only [Act.put, List.setIfInBounds_toArray, List.set_cons_zero, List.set_cons_succ]
        refine wpL_pure (.int .i64 5) rfl (by kernel_rfl) ?_
        simp only [Act.put, List.setIfInBounds_toArray, List.set_cons_zero, List.set_cons_succ]
        refine wpL_pure (.int .i64 2048) rfl (by kernel_rfl) ?_
        simp only [Act.put, List.setIfInBounds_toArray, List.set_cons_zero, List.set_cons_succ]
        refine wpL_pure (.bool true) rfl (run_eqi Try.underlying3 rfl rfl rfl (by have := HN.out; rw [decide_eq_true_eq]; omega)) ?_
        simp only [Act.put, List.setIfInBounds_toArray, List.set_cons_zero, List.set_cons_succ]
        go_upto_region 5 with (fail)
        refine wp_region_lit ?_
        refine wpL_pure (.bool true) rfl (by kernel_rfl) ?_
        simp only [Act.put, List.setIfInBounds_toArray, List.set_cons_zero, List.set_cons_succ]
        go_wp2_with fail
        go_ret
        exact ⟨true, rfl, ⟨fun _ => by have := HN.out; unfold bkt; omega, fun _ => rfl⟩, RI.out.2.2⟩
      · have HN := Lib.hid hn
        clear hn
        go_upto_region 4 with (fail)
        refine wp_region_lit ?_
        refine wpL_pure (.int .i64 n) rfl (by kernel_rfl) ?_
        simp only [Act.put, List.setIfInBounds_toArray, List.set_cons_zero, List.set_cons_succ]
        refine wpL_pure (.int .i64 5) rfl (by kernel_rfl) ?_
        simp only [Act.put, List.setIfInBounds_toArray, List.set_cons_zero, List.set_cons_succ]
        refine wpL_pure (.int .i64 2048) rfl (by kernel_rfl) ?_
        simp only [Act.put, List.setIfInBounds_toArray, List.set_cons_zero, List.set_cons_succ]
        refine wpL_pure (.bool false) rfl (run_eqi Try.underlying3 rfl rfl rfl (by have := HN.out; rw [decide_eq_false_iff_not]; omega)) ?_
        simp only [Act.put, List.setIfInBounds_toArray, List.set_cons_zero, List.set_cons_succ]
        go_upto_region 6 with (fail)
        refine wp_region_lit ?_
        refine wpL_pure (.int .i64 6) rfl (by kernel_rfl) ?_
        simp only [Act.put, List.setIfInBounds_toArray, List.set_cons_zero, List.set_cons_succ]
        refine wpL_pure (.int .i64 6) rfl (by kernel_rfl) ?_
        simp only [Act.put, List.setIfInBounds_toArray, List.set_cons_zero, List.set_cons_succ]
        have NX : Hid (6 ≤ 6 ∧ (∀ j : Nat, j < 6 → n ≠ ((64 * 2 ^ j : Nat) : Int)) ∧ wr = w) := Lib.hid ⟨by omega, fun j h => by
          by_cases e : j = 5
          · subst e; have := HN.out; omega
          · exact RI.out.2.1 j (by omega), RI.out.2.2⟩
        unfold wpList
        go_roundw
        case rel => first | exact ⟨6, rfl, NX⟩ | ((repeat apply Exists.intro); exact ⟨⟨6, rfl, NX⟩, rfl⟩)
        case measure => simp [intOf]
    · clear hk
      go_upto_region 2 with (fail)
      refine wp_region_lit ?_
      refine wpL_pure (.bool false) rfl (by kernel_rfl) ?_
      simp only [Act.put, List.setIfInBounds_toArray, List.set_cons_zero, List.set_cons_succ]
      go_upto_region 7 with (fail)
      refine wp_region_lit ?_
      refine wpL_pure (.bool false) rfl (by kernel_rfl) ?_
      simp only [Act.put, List.setIfInBounds_toArray, List.set_cons_zero, List.set_cons_succ]
      go_wp2_with fail
      go_ret
      have q := RI.out.2.1
      have q0 := q 0 (by omega)
      have q1 := q 1 (by omega)
      have q2 := q 2 (by omega)
      have q3 := q 3 (by omega)
      have q4 := q 4 (by omega)
      have q5 := q 5 (by omega)
      simp at q0 q1 q2 q3 q4 q5
      exact ⟨false, rfl, ⟨fun h => (by cases h), fun h => by unfold bkt at h; omega⟩, RI.out.2.2⟩
set_option maxHeartbeats 4000000 in
theorem max_any (w : World) (g o : Nat) (f : Nat → Int) (hc : ∀ k, k < 6 → w.cell? ⟨g, o + k, none⟩ = some (.int .u64 (f k))) : Calls Try.prog 30 #[.slice (some ⟨g, o, none⟩) 6 6] w fun e w' => e = .returned (.int .u64 (mxN f 5)) ∧ w' = w := by
  have HC := Lib.hid hc
  clear hc
  go_enter Try.func30, Try.ntmps30
  go_upto_region 0 with (fail)
  refine wp_region_lit ?_
  refine wpL_pure (.int .u64 0) rfl (by kernel_rfl) ?_
  simp only [Act.put, List.setIfInBounds_toArray, List.set_cons_zero, List.set_cons_succ]
  have C0 : Hid (w.cell? ⟨g, o + 0, none⟩ = some (.int .u64 (f 0))) := Lib.hid (HC.out 0 (by omega))
  go_upto_region 1 with (fail)
  refine wp_region_lit ?_
  refine wpL_pure (.slice (some ⟨g, o, none⟩) 6 6) rfl (by kernel_rfl) ?_
  simp only [Act.put, List.setIfInBounds_toArray, List.set_cons_zero, List.set_cons_succ]
  refine wpL_pure (.int .i64 (6 : Int)) rfl (by kernel_rfl) ?_
  simp only [Act.put, List.setIfInBounds_toArray, List.set_cons_zero, List.set_cons_succ]
  refine wpL_pure (.bool false) rfl (by kernel_rfl) ?_
  simp only [Act.put, List.setIfInBounds_toArray, List.set_cons_zero, List.set_cons_succ]
  go_upto_region 3 with (fail)
  refine wp_region_lit ?_
  refine wpL_pure (.slice (some ⟨g, o, none⟩) 6 6) rfl (by kernel_rfl) ?_
  simp only [Act.put, List.setIfInBounds_toArray, List.set_cons_zero, List.set_cons_succ]
  refine wpL_pure (.pointer (some ⟨g, o + 0, none⟩)) rfl (run_idx60 _ _ _ _ _ g o 6 6 0 rfl rfl rfl (by decide) (by decide)) ?_
  simp only [Act.put, List.setIfInBounds_toArray, List.set_cons_zero, List.set_cons_succ]
  refine wpL_pure (.int .u64 (f 0)) rfl (run_load_one _ _ _ 22 _ _ rfl (g) (o + 0) rfl (C0.out) (by kernel_rfl)) ?_
  simp only [Act.put, List.setIfInBounds_toArray, List.set_cons_zero, List.set_cons_succ]
  refine wpL_pure (.int .u64 (f 0)) rfl (by kernel_rfl) ?_
  simp only [Act.put, List.setIfInBounds_toArray, List.set_cons_zero, List.set_cons_succ]
  go_upto_region 4 with (fail)
  refine wp_region_lit ?_
  refine wpL_pure (.int .i64 1) rfl (by kernel_rfl) ?_
  simp only [Act.put, List.setIfInBounds_toArray, List.set_cons_zero, List.set_cons_succ]
  go_wp2_with fail
  go_loopw [3, 4] (fun s3 s4 wr => ∃ k : Nat, s3 = .int .u64 (mxN f k) ∧ s4 = .int .i64 ((k + 1 : Nat) : Int) ∧ Hid (k + 1 ≤ 6 ∧ wr = w)) (fun _ s4 _ => 6 - (intOf s4).toNat)
  case atStart => exact ⟨0, rfl, rfl, Lib.hid ⟨by omega, rfl⟩⟩
  case round =>
    obtain ⟨k, rfl, rfl, RI⟩ := hrel
    obtain ⟨mv, hmv⟩ : ∃ q, mxN f k = q := ⟨_, rfl⟩
    have MV := Lib.hid hmv
    rw [hmv]
    clear hmv
    by_cases hlt : k + 1 < 6
    · have HK := Lib.hid hlt
      clear hlt
      go_upto_region 5 with (fail)
      refine wp_region_lit ?_
      refine wpL_pure (.int .i64 ((k + 1 : Nat) : Int)) rfl (by kernel_rfl) ?_
      simp only [Act.put, List.setIfInBounds_toArray, List.set_cons_zero, List.set_cons_succ]
      refine wpL_pure (.slice (some ⟨g, o, none⟩) 6 6) rfl (by kernel_rfl) ?_
      simp only [Act.put, List.setIfInBounds_toArray, List.set_cons_zero, List.set_cons_succ]
      refine wpL_pure (.int .i64 (6 : Int)) rfl (by kernel_rfl) ?_
      simp only [Act.put, List.setIfInBounds_toArray, List.set_cons_zero, List.set_cons_succ]
      refine wpL_pure (.bool true) rfl (run_lti Try.underlying3 rfl rfl rfl (by have := HK.out; rw [decide_eq_true_eq]; omega)) ?_
      simp only [Act.put, List.setIfInBounds_toArray, List.set_cons_zero, List.set_cons_succ]
      obtain ⟨y, hy⟩ : ∃ q, f (k + 1) = q := ⟨_, rfl⟩
      have YV := Lib.hid hy
      have C1 : Hid (wr.cell? ⟨g, o + (k + 1), none⟩ = some (.int .u64 y)) := Lib.hid (by rw [RI.out.2, ← hy]; exact HC.out (k + 1) HK.out)
      clear hy
      obtain ⟨m2, hm2⟩ : ∃ q, mxN f (k + 1) = q := ⟨_, rfl⟩
      have M2 := Lib.hid hm2
      clear hm2
      go_upto_region 7 with (fail)
      refine wp_region_lit ?_
      refine wpL_pure (.int .u64 mv) rfl (by kernel_rfl) ?_
      simp only [Act.put, List.setIfInBounds_toArray, List.set_cons_zero, List.set_cons_succ]
      refine wpL_pure (.slice (some ⟨g, o, none⟩) 6 6) rfl (by kernel_rfl) ?_
      simp only [Act.put, List.setIfInBounds_toArray, List.set_cons_zero, List.set_cons_succ]
      refine wpL_pure (.int .i64 ((k + 1 : Nat) : Int)) rfl (by kernel_rfl) ?_
      simp only [Act.put, List.setIfInBounds_toArray, List.set_cons_zero, List.set_cons_succ]
      refine wpL_pure (.pointer (some ⟨g, o + (k + 1), none⟩)) rfl (run_idx60 _ _ _ _ _ g o 6 6 (k + 1) rfl rfl rfl HK.out (by decide)) ?_
      simp only [Act.put, List.setIfInBounds_toArray, List.set_cons_zero, List.set_cons_succ]
      refine wpL_pure (.int .u64 y) rfl (run_load_one _ _ _ 22 _ _ rfl (g) (o + (k + 1)) rfl (C1.out) (by kernel_rfl)) ?_
      simp only [Act.put, List.setIfInBounds_toArray, List.set_cons_zero, List.set_cons_succ]
      refine wpL_pure (.int .u64 m2) rfl (run_maxu _ _ _ _ _ mv y m2 rfl rfl rfl rfl (by rw [← M2.out, mxN, MV.out, YV.out])) ?_
      simp only [Act.put, List.setIfInBounds_toArray, List.set_cons_zero, List.set_cons_succ]
      refine wpL_pure (.int .u64 m2) rfl (by kernel_rfl) ?_
      simp only [Act.put, List.setIfInBounds_toArray, List.set_cons_zero, List.set_cons_succ]
      go_upto_region 6 with (fail)
      refine wp_region_lit ?_
      refine wpL_pure (.int .i64 ((k + 1 : Nat) : Int)) rfl (by kernel_rfl) ?_
      simp only [Act.put, List.setIfInBounds_toArray, List.set_cons_zero, List.set_cons_succ]
      refine wpL_pure (.int .i64 ((k + 1 + 1 : Nat) : Int)) rfl (run_addi Try.underlying3 rfl rfl rfl _ (by have := HK.out; rw [wrap_in _ (by omega) (by omega)]; omega)) ?_
      simp only [Act.put, List.setIfInBounds_toArray, List.set_cons_zero, List.set_cons_succ]
      refine wpL_pure (.int .i64 ((k + 1 + 1 : Nat) : Int)) rfl (by kernel_rfl) ?_
      simp only [Act.put, List.setIfInBounds_toArray, List.set_cons_zero, List.set_cons_succ]
      have NX : Hid (k + 1 + 1 ≤ 6 ∧ wr = w) := Lib.hid ⟨HK.out, RI.out.2⟩
      unfold wpList
      go_roundw
      case rel => first | exact ⟨k + 1, by rw [M2.out], rfl, NX⟩ | ((repeat apply Exists.intro); exact ⟨⟨k + 1, by rw [M2.out], rfl, NX⟩, rfl⟩)
      case measure => simp [intOf]; have := HK.out; omega
    · have HK := Lib.hid hlt
      clear hlt
      go_upto_region 5 with (fail)
      refine wp_region_lit ?_
      refine wpL_pure (.int .i64 ((k + 1 : Nat) : Int)) rfl (by kernel_rfl) ?_
      simp only [Act.put, List.setIfInBounds_toArray, List.set_cons_zero, List.set_cons_succ]
      refine wpL_pure (.slice (some ⟨g, o, none⟩) 6 6) rfl (by kernel_rfl) ?_
      simp only [Act.put, List.setIfInBounds_toArray, List.set_cons_zero, List.set_cons_succ]
      refine wpL_pure (.int .i64 (6 : Int)) rfl (by kernel_rfl) ?_
      simp only [Act.put, List.setIfInBounds_toArray, List.set_cons_zero, List.set_cons_succ]
      refine wpL_pure (.bool false) rfl (run_lti Try.underlying3 rfl rfl rfl (by have := HK.out; rw [decide_eq_false_iff_not]; omega)) ?_
      simp only [Act.put, List.setIfInBounds_toArray, List.set_cons_zero, List.set_cons_succ]
      go_upto_region 8 with (fail)
      refine wp_region_lit ?_
      refine wpL_pure (.int .u64 mv) rfl (by kernel_rfl) ?_
      simp only [Act.put, List.setIfInBounds_toArray, List.set_cons_zero, List.set_cons_succ]
      refine wpL_pure (.int .u64 mv) rfl (by kernel_rfl) ?_
      simp only [Act.put, List.setIfInBounds_toArray, List.set_cons_zero, List.set_cons_succ]
      go_wp2_with fail
      go_ret
      have EK : k = 5 := by have := RI.out.1; have := HK.out; omega
      exact ⟨by rw [← MV.out, EK]; rfl, RI.out.2⟩
set_option maxHeartbeats 4000000 in
theorem refbucket_any (n : Nat) (w : World) : Calls Try.prog 33 #[.int .i64 (n : Int)] w fun e w' => e = .returned (.int .i64 (bk n : Nat)) ∧ Below w.heap.size w w' := by
  go_enter Try.func33, Try.ntmps33
  go_upto_region 0 with (fail)
  refine wp_region_lit ?_
  refine wpL_pure (.int .i64 0) rfl (by kernel_rfl) ?_
  simp only [Act.put, List.setIfInBounds_toArray, List.set_cons_zero, List.set_cons_succ]
  obtain ⟨w1, hw1⟩ : ∃ V, V = (w.alloc (.cells #[.int .i64 0, .int .i64 0, .int .i64 0, .int .i64 0, .int .i64 0, .int .i64 0] 68)).setRow w.heap.size #[.int .i64 64, .int .i64 128, .int .i64 256, .int .i64 512, .int .i64 1024, .int .i64 2048] := ⟨_, rfl⟩
  have B1 : Hid (Blk w1 w.heap.size 68 #[.int .i64 64, .int .i64 128, .int .i64 256, .int .i64 512, .int .i64 1024, .int .i64 2048] ∧ Below w.heap.size w w1) := Lib.hid (by rw [hw1]; exact ⟨setRow_heap _ _ _ _ _ _ (Blk.new w 68 _), below_setRow ((Below.refl _ _).alloc (Nat.le_refl _) _) (Nat.le_refl _) _⟩)
  go_upto_region 1 with (fail)
  refine wp_region_lit ?_
  refine wpL_pure (.agg #[.int .i64 64, .int .i64 128, .int .i64 256, .int .i64 512, .int .i64 1024, .int .i64 2048]) rfl (by kernel_rfl) ?_
  simp only [Act.put, List.setIfInBounds_toArray, List.set_cons_zero, List.set_cons_succ]
  refine wpL_value (.pointer (some ⟨w.heap.size, 0, none⟩)) (w.alloc (.cells #[.int .i64 0, .int .i64 0, .int .i64 0, .int .i64 0, .int .i64 0, .int .i64 0] 68)) rfl (by kernel_rfl) ?_
  simp only [Act.put, List.setIfInBounds_toArray, List.set_cons_zero, List.set_cons_succ]
  refine wpList_store_rowTo rfl 68 _ _ rfl rfl w.heap.size #[.int .i64 64, .int .i64 128, .int .i64 256, .int .i64 512, .int .i64 1024, .int .i64 2048] rfl rfl 68 _ (Blk.new w 68 _) (by kernel_rfl) (by kernel_rfl) (by kernel_rfl) ?_
  rw [← hw1]
  clear hw1
  obtain ⟨g3, h3⟩ : ∃ q, w.heap.size = q := ⟨_, rfl⟩
  have G3 : Hid (w.heap.size = g3) := Lib.hid h3
  rw [h3] at B1
  try rw [h3]
  clear h3
  go_upto_region 2 with (fail)
  refine wp_region_lit ?_
  refine wpL_pure (.int .i64 0) rfl (by kernel_rfl) ?_
  simp only [Act.put, List.setIfInBounds_toArray, List.set_cons_zero, List.set_cons_succ]
  go_wp2_with fail
  go_loopw [4] (fun s4 wr => ∃ k : Nat, s4 = .int .i64 (k : Int) ∧ Hid (k ≤ 6 ∧ (k = 0 ∨ 32 * 2 ^ k ≤ n) ∧ wr = w1)) (fun s4 _ => 6 - (intOf s4).toNat)
  case atStart => exact ⟨0, rfl, Lib.hid ⟨by omega, .inl rfl, rfl⟩⟩
  case round =>
    obtain ⟨k, rfl, RI⟩ := hrel
    have hk := RI.out.1
    have WB : Hid (Blk wr g3 68 #[.int .i64 64, .int .i64 128, .int .i64 256, .int .i64 512, .int .i64 1024, .int .i64 2048] ∧ Below g3 w wr) := Lib.hid (by rw [RI.out.2.2]; exact B1.out)
    obtain rfl | rfl | rfl | rfl | rfl | rfl | rfl : k = 0 ∨ k = 1 ∨ k = 2 ∨ k = 3 ∨ k = 4 ∨ k = 5 ∨ k = 6 := by omega
    · clear hk
      have KL : Hid (0 = 0 ∨ 32 ≤ n) := Lib.hid (.inl rfl)
      have WE : Hid (wr = w1) := Lib.hid RI.out.2.2
      clear RI
      go_upto_region 3 with (fail)
      refine wp_region_lit ?_
      refine wpL_pure (.int .i64 0) rfl (by kernel_rfl) ?_
      simp only [Act.put, List.setIfInBounds_toArray, List.set_cons_zero, List.set_cons_succ]
      refine wpL_pure (.bool true) rfl (by kernel_rfl) ?_
      simp only [Act.put, List.setIfInBounds_toArray, List.set_cons_zero, List.set_cons_succ]
      by_cases hn : n < 64
      · have HN := Lib.hid hn
        clear hn
        go_upto_region 5 with (fail)
        refine wp_region_lit ?_
        refine wpL_pure (.int .i64 (n : Int)) rfl (by kernel_rfl) ?_
        simp only [Act.put, List.setIfInBounds_toArray, List.set_cons_zero, List.set_cons_succ]
        refine wpL_pure (.int .i64 0) rfl (by kernel_rfl) ?_
        simp only [Act.put, List.setIfInBounds_toArray, List.set_cons_zero, List.set_cons_succ]
        refine wpL_pure (.pointer (some ⟨g3, 0, none⟩)) rfl (by kernel_rfl) ?_
        simp only [Act.put, List.setIfInBounds_toArray, List.set_cons_zero, List.set_cons_succ]
        refine wpL_pure (.int .i64 64) rfl (run_load_one _ _ _ 3 _ _ rfl (g3) (0) rfl (by rw [WB.out.1.cell]; rfl) (by kernel_rfl)) ?_
        simp only [Act.put, List.setIfInBounds_toArray, List.set_cons_zero, List.set_cons_succ]
        refine wpL_pure (.bool true) rfl (run_lti Try.underlying3 rfl rfl rfl (by have := HN.out; rw [decide_eq_true_eq]; omega)) ?_
        simp only [Act.put, List.setIfInBounds_toArray, List.set_cons_zero, List.set_cons_succ]
        go_upto_region 6 with (fail)
        refine wp_region_lit ?_
        refine wpL_pure (.int .i64 0) rfl (by kernel_rfl) ?_
        simp only [Act.put, List.setIfInBounds_toArray, List.set_cons_zero, List.set_cons_succ]
        refine wpL_pure (.pointer (some ⟨g3, 0, none⟩)) rfl (by kernel_rfl) ?_
        simp only [Act.put, List.setIfInBounds_toArray, List.set_cons_zero, List.set_cons_succ]
        refine wpL_pure (.int .i64 64) rfl (run_load_one _ _ _ 3 _ _ rfl (g3) (0) rfl (by rw [WB.out.1.cell]; rfl) (by kernel_rfl)) ?_
        simp only [Act.put, List.setIfInBounds_toArray, List.set_cons_zero, List.set_cons_succ]
        refine wpL_pure (.int .i64 64) rfl (by kernel_rfl) ?_
        simp only [Act.put, List.setIfInBounds_toArray, List.set_cons_zero, List.set_cons_succ]
        go_wp2_with fail
        go_ret
        have e : bk n = 64 := by have h1 := HN.out; have h2 := KL.out; unfold bk; (repeat' split) <;> omega
        exact ⟨by rw [e]; rfl, by rw [G3.out]; exact WB.out.2⟩
      · have HN := Lib.hid hn
        clear hn
        go_upto_region 5 with (fail)
        refine wp_region_lit ?_
        refine wpL_pure (.int .i64 (n : Int)) rfl (by kernel_rfl) ?_
        simp only [Act.put, List.setIfInBounds_toArray, List.set_cons_zero, List.set_cons_succ]
        refine wpL_pure (.int .i64 0) rfl (by kernel_rfl) ?_
        simp only [Act.put, List.setIfInBounds_toArray, List.set_cons_zero, List.set_cons_succ]
        refine wpL_pure (.pointer (some ⟨g3, 0, none⟩)) rfl (by kernel_rfl) ?_
        simp only [Act.put, List.setIfInBounds_toArray, List.set_cons_zero, List.set_cons_succ]
        refine wpL_pure (.int .i64 64) rfl (run_load_one _ _ _ 3 _ _ rfl (g3) (0) rfl (by rw [WB.out.1.cell]; rfl) (by kernel_rfl)) ?_
        simp only [Act.put, List.setIfInBounds_toArray, List.set_cons_zero, List.set_cons_succ]
        refine wpL_pure (.bool false) rfl (run_lti Try.underlying3 rfl rfl rfl (by have := HN.out; rw [decide_eq_false_iff_not]; omega)) ?_
        simp only [Act.put, List.setIfInBounds_toArray, List.set_cons_zero, List.set_cons_succ]
        go_upto_region 4 with (fail)
        refine wp_region_lit ?_
        refine wpL_pure (.int .i64 0) rfl (by kernel_rfl) ?_
        simp only [Act.put, List.setIfInBounds_toArray, List.set_cons_zero, List.set_cons_succ]
        refine wpL_pure (.int .i64 1) rfl (by kernel_rfl) ?_
        simp only [Act.put, List.setIfInBounds_toArray, List.set_cons_zero, List.set_cons_succ]
        refine wpL_pure (.int .i64 1) rfl (by kernel_rfl) ?_
        simp only [Act.put, List.setIfInBounds_toArray, List.set_cons_zero, List.set_cons_succ]
        have NX : Hid (1 ≤ 6 ∧ (1 = 0 ∨ 32 * 2 ^ 1 ≤ n) ∧ wr = w1) := Lib.hid ⟨by omega, .inr (by have := HN.out; simp; omega), WE.out⟩
        unfold wpList
        go_roundw
        case rel => first | exact ⟨1, rfl, NX⟩ | ((repeat apply Exists.intro); exact ⟨⟨1, rfl, NX⟩, rfl⟩)
        case measure => simp [intOf]
    · clear hk
      have KL : Hid (1 = 0 ∨ 64 ≤ n) := Lib.hid (.inr (by have h := RI.out.2.1; simp at h; omega))
      have WE : Hid (wr = w1) := Lib.hid RI.out.2.2
      clear RI
      go_upto_region 3 with (fail)
      refine wp_region_lit ?_
      refine wpL_pure (.int .i64 1) rfl (by kernel_rfl) ?_
      simp only [Act.put, List.setIfInBounds_toArray, List.set_cons_zero, List.set_cons_succ]
      refine wpL_pure (.bool true) rfl (by kernel_rfl) ?_
      simp only [Act.put, List.setIfInBounds_toArray, List.set_cons_zero, List.set_cons_succ]
      by_cases hn : n < 128
      · have HN := Lib.hid hn
        clear hn
        go_upto_region 5 with (fail)
        refine wp_region_lit ?_
        refine wpL_pure (.int .i64 (n : Int)) rfl (by kernel_rfl) ?_
        simp only [Act.put, List.setIfInBounds_toArray, List.set_cons_zero, List.set_cons_succ]
        refine wpL_pure (.int .i64 1) rfl (by kernel_rfl) ?_
        simp only [Act.put, List.setIfInBounds_toArray, List.set_cons_zero, List.set_cons_succ]
        refine wpL_pure (.pointer (some ⟨g3, 1, none⟩)) rfl (by kernel_rfl) ?_
        simp only [Act.put, List.setIfInBounds_toArray, List.set_cons_zero, List.set_cons_succ]
        refine wpL_pure (.int .i64 128) rfl (run_load_one _ _ _ 3 _ _ rfl (g3) (1) rfl (by rw [WB.out.1.cell]; rfl) (by kernel_rfl)) ?_
        simp only [Act.put, List.setIfInBounds_toArray, List.set_cons_zero, List.set_cons_succ]
        refine wpL_pure (.bool true) rfl (run_lti Try.underlying3 rfl rfl rfl (by have := HN.out; rw [decide_eq_true_eq]; omega)) ?_
        simp only [Act.put, List.setIfInBounds_toArray, List.set_cons_zero, List.set_cons_succ]
        go_upto_region 6 with (fail)
        refine wp_region_lit ?_
        refine wpL_pure (.int .i64 1) rfl (by kernel_rfl) ?_
        simp only [Act.put, List.setIfInBounds_toArray, List.set_cons_zero, List.set_cons_succ]
        refine wpL_pure (.pointer (some ⟨g3, 1, none⟩)) rfl (by kernel_rfl) ?_
        simp only [Act.put, List.setIfInBounds_toArray, List.set_cons_zero, List.set_cons_succ]
        refine wpL_pure (.int .i64 128) rfl (run_load_one _ _ _ 3 _ _ rfl (g3) (1) rfl (by rw [WB.out.1.cell]; rfl) (by kernel_rfl)) ?_
        simp only [Act.put, List.setIfInBounds_toArray, List.set_cons_zero, List.set_cons_succ]
        refine wpL_pure (.int .i64 128) rfl (by kernel_rfl) ?_
        simp only [Act.put, List.setIfInBounds_toArray, List.set_cons_zero, List.set_cons_succ]
        go_wp2_with fail
        go_ret
        have e : bk n = 128 := by have h1 := HN.out; have h2 := KL.out; unfold bk; (repeat' split) <;> omega
        exact ⟨by rw [e]; rfl, by rw [G3.out]; exact WB.out.2⟩
      · have HN := Lib.hid hn
        clear hn
        go_upto_region 5 with (fail)
        refine wp_region_lit ?_
        refine wpL_pure (.int .i64 (n : Int)) rfl (by kernel_rfl) ?_
        simp only [Act.put, List.setIfInBounds_toArray, List.set_cons_zero, List.set_cons_succ]
        refine wpL_pure (.int .i64 1) rfl (by kernel_rfl) ?_
        simp only [Act.put, List.setIfInBounds_toArray, List.set_cons_zero, List.set_cons_succ]
        refine wpL_pure (.pointer (some ⟨g3, 1, none⟩)) rfl (by kernel_rfl) ?_
        simp only [Act.put, List.setIfInBounds_toArray, List.set_cons_zero, List.set_cons_succ]
        refine wpL_pure (.int .i64 128) rfl (run_load_one _ _ _ 3 _ _ rfl (g3) (1) rfl (by rw [WB.out.1.cell]; rfl) (by kernel_rfl)) ?_
        simp only [Act.put, List.setIfInBounds_toArray, List.set_cons_zero, List.set_cons_succ]
        refine wpL_pure (.bool false) rfl (run_lti Try.underlying3 rfl rfl rfl (by have := HN.out; rw [decide_eq_false_iff_not]; omega)) ?_
        simp only [Act.put, List.setIfInBounds_toArray, List.set_cons_zero, List.set_cons_succ]
        go_upto_region 4 with (fail)
        refine wp_region_lit ?_
        refine wpL_pure (.int .i64 1) rfl (by kernel_rfl) ?_
        simp only [Act.put, List.setIfInBounds_toArray, List.set_cons_zero, List.set_cons_succ]
        refine wpL_pure (.int .i64 2) rfl (by kernel_rfl) ?_
        simp only [Act.put, List.setIfInBounds_toArray, List.set_cons_zero, List.set_cons_succ]
        refine wpL_pure (.int .i64 2) rfl (by kernel_rfl) ?_
        simp only [Act.put, List.setIfInBounds_toArray, List.set_cons_zero, List.set_cons_succ]
        have NX : Hid (2 ≤ 6 ∧ (2 = 0 ∨ 32 * 2 ^ 2 ≤ n) ∧ wr = w1) := Lib.hid ⟨by omega, .inr (by have := HN.out; simp; omega), WE.out⟩
        unfold wpList
        go_roundw
        case rel => first | exact ⟨2, rfl, NX⟩ | ((repeat apply Exists.intro); exact ⟨⟨2, rfl, NX⟩, rfl⟩)
        case measure => simp [intOf]
    · clear hk
      have KL : Hid (2 = 0 ∨ 128 ≤ n) := Lib.hid (.inr (by have h := RI.out.2.1; simp at h; omega))
      have WE : Hid (wr = w1) := Lib.hid RI.out.2.2
      clear RI
      go_upto_region 3 with (fail)
      refine wp_region_lit ?_
      refine wpL_pure (.int .i64 2) rfl (by kernel_rfl) ?_
      simp only [Act.put, List.setIfInBounds_toArray, List.set_cons_zero, List.set_cons_succ]
      refine wpL_pure (.bool true) rfl (by kernel_rfl) ?_
      simp only [Act.put, List.setIfInBounds_toArray, List.set_cons_zero, List.set_cons_succ]
      by_cases hn : n < 256
      · have HN := Lib.hid hn
        clear hn
        go_upto_region 5 with (fail)
        refine wp_region_lit ?_
        refine wpL_pure (.int .i64 (n : Int)) rfl (by kernel_rfl) ?_
        simp only [Act.put, List.setIfInBounds_toArray, List.set_cons_zero, List.set_cons_succ]
        refine wpL_pure (.int .i64 2) rfl (by kernel_rfl) ?_
        simp only [Act.put, List.setIfInBounds_toArray, List.set_cons_zero, List.set_cons_succ]
        refine wpL_pure (.pointer (some ⟨g3, 2, none⟩)) rfl (by kernel_rfl) ?_
        simp only [Act.put, List.setIfInBounds_toArray, List.set_cons_zero, List.set_cons_succ]
        refine wpL_pure (.int .i64 256) rfl (run_load_one _ _ _ 3 _ _ rfl (g3) (2) rfl (by rw [WB.out.1.cell]; rfl) (by kernel_rfl)) ?_
        simp only [Act.put, List.setIfInBounds_toArray, List.set_cons_zero, List.set_cons_succ]
        refine wpL_pure (.bool true) rfl (run_lti Try.underlying3 rfl rfl rfl (by have := HN.out; rw [decide_eq_true_eq]; omega)) ?_
        simp only [Act.put, List.setIfInBounds_toArray, List.set_cons_zero, List.set_cons_succ]
        go_upto_region 6 with (fail)
        refine wp_region_lit ?_
        refine wpL_pure (.int .i64 2) rfl (by kernel_rfl) ?_
        simp only [Act.put, List.setIfInBounds_toArray, List.set_cons_zero, List.set_cons_succ]
        refine wpL_pure (.pointer (some ⟨g3, 2, none⟩)) rfl (by kernel_rfl) ?_
        simp only [Act.put, List.setIfInBounds_toArray, List.set_cons_zero, List.set_cons_succ]
        refine wpL_pure (.int .i64 256) rfl (run_load_one _ _ _ 3 _ _ rfl (g3) (2) rfl (by rw [WB.out.1.cell]; rfl) (by kernel_rfl)) ?_
        simp only [Act.put, List.setIfInBounds_toArray, List.set_cons_zero, List.set_cons_succ]
        refine wpL_pure (.int .i64 256) rfl (by kernel_rfl) ?_
        simp only [Act.put, List.setIfInBounds_toArray, List.set_cons_zero, List.set_cons_succ]
        go_wp2_with fail
        go_ret
        have e : bk n = 256 := by have h1 := HN.out; have h2 := KL.out; unfold bk; (repeat' split) <;> omega
        exact ⟨by rw [e]; rfl, by rw [G3.out]; exact WB.out.2⟩
      · have HN := Lib.hid hn
        clear hn
        go_upto_region 5 with (fail)
        refine wp_region_lit ?_
        refine wpL_pure (.int .i64 (n : Int)) rfl (by kernel_rfl) ?_
        simp only [Act.put, List.setIfInBounds_toArray, List.set_cons_zero, List.set_cons_succ]
        refine wpL_pure (.int .i64 2) rfl (by kernel_rfl) ?_
        simp only [Act.put, List.setIfInBounds_toArray, List.set_cons_zero, List.set_cons_succ]
        refine wpL_pure (.pointer (some ⟨g3, 2, none⟩)) rfl (by kernel_rfl) ?_
        simp only [Act.put, List.setIfInBounds_toArray, List.set_cons_zero, List.set_cons_succ]
        refine wpL_pure (.int .i64 256) rfl (run_load_one _ _ _ 3 _ _ rfl (g3) (2) rfl (by rw [WB.out.1.cell]; rfl) (by kernel_rfl)) ?_
        simp only [Act.put, List.setIfInBounds_toArray, List.set_cons_zero, List.set_cons_succ]
        refine wpL_pure (.bool false) rfl (run_lti Try.underlying3 rfl rfl rfl (by have := HN.out; rw [decide_eq_false_iff_not]; omega)) ?_
        simp only [Act.put, List.setIfInBounds_toArray, List.set_cons_zero, List.set_cons_succ]
        go_upto_region 4 with (fail)
        refine wp_region_lit ?_
        refine wpL_pure (.int .i64 2) rfl (by kernel_rfl) ?_
        simp only [Act.put, List.setIfInBounds_toArray, List.set_cons_zero, List.set_cons_succ]
        refine wpL_pure (.int .i64 3) rfl (by kernel_rfl) ?_
        simp only [Act.put, List.setIfInBounds_toArray, List.set_cons_zero, List.set_cons_succ]
        refine wpL_pure (.int .i64 3) rfl (by kernel_rfl) ?_
        simp only [Act.put, List.setIfInBounds_toArray, List.set_cons_zero, List.set_cons_succ]
        have NX : Hid (3 ≤ 6 ∧ (3 = 0 ∨ 32 * 2 ^ 3 ≤ n) ∧ wr = w1) := Lib.hid ⟨by omega, .inr (by have := HN.out; simp; omega), WE.out⟩
        unfold wpList
        go_roundw
        case rel => first | exact ⟨3, rfl, NX⟩ | ((repeat apply Exists.intro); exact ⟨⟨3, rfl, NX⟩, rfl⟩)
        case measure => simp [intOf]
    · clear hk
      have KL : Hid (3 = 0 ∨ 256 ≤ n) := Lib.hid (.inr (by have h := RI.out.2.1; simp at h; omega))
      have WE : Hid (wr = w1) := Lib.hid RI.out.2.2
      clear RI
      go_upto_region 3 with (fail)
      refine wp_region_lit ?_
      refine wpL_pure (.int .i64 3) rfl (by kernel_rfl) ?_
      simp only [Act.put, List.setIfInBounds_toArray, List.set_cons_zero, List.set_cons_succ]
      refine wpL_pure (.bool true) rfl (by kernel_rfl) ?_
      simp only [Act.put, List.setIfInBounds_toArray, List.set_cons_zero, List.set_cons_succ]
      by_cases hn : n < 512
      · have HN := Lib.hid hn
        clear hn
        go_upto_region 5 with (fail)
        refine wp_region_lit ?_
        refine wpL_pure (.int .i64 (n : Int)) rfl (by kernel_rfl) ?_
        simp only [Act.put, List.setIfInBounds_toArray, List.set_cons_zero, List.set_cons_succ]
        refine wpL_pure (.int .i64 3) rfl (by kernel_rfl) ?_
        simp only [Act.put, List.setIfInBounds_toArray, List.set_cons_zero, List.set_cons_succ]
        refine wpL_pure (.pointer (some ⟨g3, 3, none⟩)) rfl (by kernel_rfl) ?_
        simp only [Act.put, List.setIfInBounds_toArray, List.set_cons_zero, List.set_cons_succ]
        refine wpL_pure (.int .i64 512) rfl (run_load_one _ _ _ 3 _ _ rfl (g3) (3) rfl (by rw [WB.out.1.cell]; rfl) (by kernel_rfl)) ?_
        simp only [Act.put, List.setIfInBounds_toArray, List.set_cons_zero, List.set_cons_succ]
        refine wpL_pure (.bool true) rfl (run_lti Try.underlying3 rfl rfl rfl (by have := HN.out; rw [decide_eq_true_eq]; omega)) ?_
        simp only [Act.put, List.setIfInBounds_toArray, List.set_cons_zero, List.set_cons_succ]
        go_upto_region 6 with (fail)
        refine wp_region_lit ?_
        refine wpL_pure (.int .i64 3) rfl (by kernel_rfl) ?_
        simp only [Act.put, List.setIfInBounds_toArray, List.set_cons_zero, List.set_cons_succ]
        refine wpL_pure (.pointer (some ⟨g3, 3, none⟩)) rfl (by kernel_rfl) ?_
        simp only [Act.put, List.setIfInBounds_toArray, List.set_cons_zero, List.set_cons_succ]
        refine wpL_pure (.int .i64 512) rfl (run_load_one _ _ _ 3 _ _ rfl (g3) (3) rfl (by rw [WB.out.1.cell]; rfl) (by kernel_rfl)) ?_
        simp only [Act.put, List.setIfInBounds_toArray, List.set_cons_zero, List.set_cons_succ]
        refine wpL_pure (.int .i64 512) rfl (by kernel_rfl) ?_
        simp only [Act.put, List.setIfInBounds_toArray, List.set_cons_zero, List.set_cons_succ]
        go_wp2_with fail
        go_ret
        have e : bk n = 512 := by have h1 := HN.out; have h2 := KL.out; unfold bk; (repeat' split) <;> omega
        exact ⟨by rw [e]; rfl, by rw [G3.out]; exact WB.out.2⟩
      · have HN := Lib.hid hn
        clear hn
        go_upto_region 5 with (fail)
        refine wp_region_lit ?_
        refine wpL_pure (.int .i64 (n : Int)) rfl (by kernel_rfl) ?_
        simp only [Act.put, List.setIfInBounds_toArray, List.set_cons_zero, List.set_cons_succ]
        refine wpL_pure (.int .i64 3) rfl (by kernel_rfl) ?_
        simp only [Act.put, List.setIfInBounds_toArray, List.set_cons_zero, List.set_cons_succ]
        refine wpL_pure (.pointer (some ⟨g3, 3, none⟩)) rfl (by kernel_rfl) ?_
        simp only [Act.put, List.setIfInBounds_toArray, List.set_cons_zero, List.set_cons_succ]
        refine wpL_pure (.int .i64 512) rfl (run_load_one _ _ _ 3 _ _ rfl (g3) (3) rfl (by rw [WB.out.1.cell]; rfl) (by kernel_rfl)) ?_
        simp only [Act.put, List.setIfInBounds_toArray, List.set_cons_zero, List.set_cons_succ]
        refine wpL_pure (.bool false) rfl (run_lti Try.underlying3 rfl rfl rfl (by have := HN.out; rw [decide_eq_false_iff_not]; omega)) ?_
        simp only [Act.put, List.setIfInBounds_toArray, List.set_cons_zero, List.set_cons_succ]
        go_upto_region 4 with (fail)
        refine wp_region_lit ?_
        refine wpL_pure (.int .i64 3) rfl (by kernel_rfl) ?_
        simp only [Act.put, List.setIfInBounds_toArray, List.set_cons_zero, List.set_cons_succ]
        refine wpL_pure (.int .i64 4) rfl (by kernel_rfl) ?_
        simp only [Act.put, List.setIfInBounds_toArray, List.set_cons_zero, List.set_cons_succ]
        refine wpL_pure (.int .i64 4) rfl (by kernel_rfl) ?_
        simp only [Act.put, List.setIfInBounds_toArray, List.set_cons_zero, List.set_cons_succ]
        have NX : Hid (4 ≤ 6 ∧ (4 = 0 ∨ 32 * 2 ^ 4 ≤ n) ∧ wr = w1) := Lib.hid ⟨by omega, .inr (by have := HN.out; simp; omega), WE.out⟩
        unfold wpList
        go_roundw
        case rel => first | exact ⟨4, rfl, NX⟩ | ((repeat apply Exists.intro); exact ⟨⟨4, rfl, NX⟩, rfl⟩)
        case measure => simp [intOf]
    · clear hk
      have KL : Hid (4 = 0 ∨ 512 ≤ n) := Lib.hid (.inr (by have h := RI.out.2.1; simp at h; omega))
      have WE : Hid (wr = w1) := Lib.hid RI.out.2.2
      clear RI
      go_upto_region 3 with (fail)
      refine wp_region_lit ?_
      refine wpL_pure (.int .i64 4) rfl (by kernel_rfl) ?_
      simp only [Act.put, List.setIfInBounds_toArray, List.set_cons_zero, List.set_cons_succ]
      refine wpL_pure (.bool true) rfl (by kernel_rfl) ?_
      simp only [Act.put, List.setIfInBounds_toArray, List.set_cons_zero, List.set_cons_succ]
      by_cases hn : n < 1024
      · have HN := Lib.hid hn
        clear hn
        go_upto_region 5 with (fail)
        refine wp_region_lit ?_
        refine wpL_pure (.int .i64 (n : Int)) rfl (by kernel_rfl) ?_
        simp only [Act.put, List.setIfInBounds_toArray, List.set_cons_zero, List.set_cons_succ]
        refine wpL_pure (.int .i64 4) rfl (by kernel_rfl) ?_
        simp only [Act.put, List.setIfInBounds_toArray, List.set_cons_zero, List.set_cons_succ]
        refine wpL_pure (.pointer (some ⟨g3, 4, none⟩)) rfl (by kernel_rfl) ?_
        simp only [Act.put, List.setIfInBounds_toArray, List.set_cons_zero, List.set_cons_succ]
        refine wpL_pure (.int .i64 1024) rfl (run_load_one _ _ _ 3 _ _ rfl (g3) (4) rfl (by rw [WB.out.1.cell]; rfl) (by kernel_rfl)) ?_
        simp only [Act.put, List.setIfInBounds_toArray, List.set_cons_zero, List.set_cons_succ]
        refine wpL_pure (.bool true) rfl (run_lti Try.underlying3 rfl rfl rfl (by have := HN.out; rw [decide_eq_true_eq]; omega)) ?_
        simp only [Act.put, List.setIfInBounds_toArray, List.set_cons_zero, List.set_cons_succ]
        go_upto_region 6 with (fail)
        refine wp_region_lit ?_
        refine wpL_pure (.int .i64 4) rfl (by kernel_rfl) ?_
        simp only [Act.put, List.setIfInBounds_toArray, List.set_cons_zero, List.set_cons_succ]
        refine wpL_pure (.pointer (some ⟨g3, 4, none⟩)) rfl (by kernel_rfl) ?_
        simp only [Act.put, List.setIfInBounds_toArray, List.set_cons_zero, List.set_cons_succ]
        refine wpL_pure (.int .i64 1024) rfl (run_load_one _ _ _ 3 _ _ rfl (g3) (4) rfl (by rw [WB.out.1.cell]; rfl) (by kernel_rfl)) ?_
        simp only [Act.put, List.setIfInBounds_toArray, List.set_cons_zero, List.set_cons_succ]
        refine wpL_pure (.int .i64 1024) rfl (by kernel_rfl) ?_
        simp only [Act.put, List.setIfInBounds_toArray, List.set_cons_zero, List.set_cons_succ]
        go_wp2_with fail
        go_ret
        have e : bk n = 1024 := by have h1 := HN.out; have h2 := KL.out; unfold bk; (repeat' split) <;> omega
        exact ⟨by rw [e]; rfl, by rw [G3.out]; exact WB.out.2⟩
      · have HN := Lib.hid hn
        clear hn
        go_upto_region 5 with (fail)
        refine wp_region_lit ?_
        refine wpL_pure (.int .i64 (n : Int)) rfl (by kernel_rfl) ?_
        simp only [Act.put, List.setIfInBounds_toArray, List.set_cons_zero, List.set_cons_succ]
        refine wpL_pure (.int .i64 4) rfl (by kernel_rfl) ?_
        simp only [Act.put, List.setIfInBounds_toArray, List.set_cons_zero, List.set_cons_succ]
        refine wpL_pure (.pointer (some ⟨g3, 4, none⟩)) rfl (by kernel_rfl) ?_
        simp only [Act.put, List.setIfInBounds_toArray, List.set_cons_zero, List.set_cons_succ]
        refine wpL_pure (.int .i64 1024) rfl (run_load_one _ _ _ 3 _ _ rfl (g3) (4) rfl (by rw [WB.out.1.cell]; rfl) (by kernel_rfl)) ?_
        simp only [Act.put, List.setIfInBounds_toArray, List.set_cons_zero, List.set_cons_succ]
        refine wpL_pure (.bool false) rfl (run_lti Try.underlying3 rfl rfl rfl (by have := HN.out; rw [decide_eq_false_iff_not]; omega)) ?_
        simp only [Act.put, List.setIfInBounds_toArray, List.set_cons_zero, List.set_cons_succ]
        go_upto_region 4 with (fail)
        refine wp_region_lit ?_
        refine wpL_pure (.int .i64 4) rfl (by kernel_rfl) ?_
        simp only [Act.put, List.setIfInBounds_toArray, List.set_cons_zero, List.set_cons_succ]
        refine wpL_pure (.int .i64 5) rfl (by kernel_rfl) ?_
        simp only [Act.put, List.setIfInBounds_toArray, List.set_cons_zero, List.set_cons_succ]
        refine wpL_pure (.int .i64 5) rfl (by kernel_rfl) ?_
        simp only [Act.put, List.setIfInBounds_toArray, List.set_cons_zero, List.set_cons_succ]
        have NX : Hid (5 ≤ 6 ∧ (5 = 0 ∨ 32 * 2 ^ 5 ≤ n) ∧ wr = w1) := Lib.hid ⟨by omega, .inr (by have := HN.out; simp; omega), WE.out⟩
        unfold wpList
        go_roundw
        case rel => first | exact ⟨5, rfl, NX⟩ | ((repeat apply Exists.intro); exact ⟨⟨5, rfl, NX⟩, rfl⟩)
        case measure => simp [intOf]
    · clear hk
      have KL : Hid (5 = 0 ∨ 1024 ≤ n) := Lib.hid (.inr (by have h := RI.out.2.1; simp at h; omega))
      have WE : Hid (wr = w1) := Lib.hid RI.out.2.2
      clear RI
      go_upto_region 3 with (fail)
      refine wp_region_lit ?_
      refine wpL_pure (.int .i64 5) rfl (by kernel_rfl) ?_
      simp only [Act.put, List.setIfInBounds_toArray, List.set_cons_zero, List.set_cons_succ]
      refine wpL_pure (.bool true) rfl (by kernel_rfl) ?_
      simp only [Act.put, List.setIfInBounds_toArray, List.set_cons_zero, List.set_cons_succ]
      by_cases hn : n < 2048
      · have HN := Lib.hid hn
        clear hn
        go_upto_region 5 with (fail)
        refine wp_region_lit ?_
        refine wpL_pure (.int .i64 (n : Int)) rfl (by kernel_rfl) ?_
        simp only [Act.put, List.setIfInBounds_toArray, List.set_cons_zero, List.set_cons_succ]
        refine wpL_pure (.int .i64 5) rfl (by kernel_rfl) ?_
        simp only [Act.put, List.setIfInBounds_toArray, List.set_cons_zero, List.set_cons_succ]
        refine wpL_pure (.pointer (some ⟨g3, 5, none⟩)) rfl (by kernel_rfl) ?_
        simp only [Act.put, List.setIfInBounds_toArray, List.set_cons_zero, List.set_cons_succ]
        refine wpL_pure (.int .i64 2048) rfl (run_load_one _ _ _ 3 _ _ rfl (g3) (5) rfl (by rw [WB.out.1.cell]; rfl) (by kernel_rfl)) ?_
        simp only [Act.put, List.setIfInBounds_toArray, List.set_cons_zero, List.set_cons_succ]
        refine wpL_pure (.bool true) rfl (run_lti Try.underlying3 rfl rfl rfl (by have := HN.out; rw [decide_eq_true_eq]; omega)) ?_
        simp only [Act.put, List.setIfInBounds_toArray, List.set_cons_zero, List.set_cons_succ]
        go_upto_region 6 with (fail)
        refine wp_region_lit ?_
        refine wpL_pure (.int .i64 5) rfl (by kernel_rfl) ?_
        simp only [Act.put, List.setIfInBounds_toArray, List.set_cons_zero, List.set_cons_succ]
        refine wpL_pure (.pointer (some ⟨g3, 5, none⟩)) rfl (by kernel_rfl) ?_
        simp only [Act.put, List.setIfInBounds_toArray, List.set_cons_zero, List.set_cons_succ]
        refine wpL_pure (.int .i64 2048) rfl (run_load_one _ _ _ 3 _ _ rfl (g3) (5) rfl (by rw [WB.out.1.cell]; rfl) (by kernel_rfl)) ?_
        simp only [Act.put, List.setIfInBounds_toArray, List.set_cons_zero, List.set_cons_succ]
        refine wpL_pure (.int .i64 2048) rfl (by kernel_rfl) ?_
        simp only [Act.put, List.setIfInBounds_toArray, List.set_cons_zero, List.set_cons_succ]
        go_wp2_with fail
        go_ret
        have e : bk n = 2048 := by have h1 := HN.out; have h2 := KL.out; unfold bk; (repeat' split) <;> omega
        exact ⟨by rw [e]; rfl, by rw [G3.out]; exact WB.out.2⟩
      · have HN := Lib.hid hn
        clear hn
        go_upto_region 5 with (fail)
        refine wp_region_lit ?_
        refine wpL_pure (.int .i64 (n : Int)) rfl (by kernel_rfl) ?_
        simp only [Act.put, List.setIfInBounds_toArray, List.set_cons_zero, List.set_cons_succ]
        refine wpL_pure (.int .i64 5) rfl (by kernel_rfl) ?_
        simp only [Act.put, List.setIfInBounds_toArray, List.set_cons_zero, List.set_cons_succ]
        refine wpL_pure (.pointer (some ⟨g3, 5, none⟩)) rfl (by kernel_rfl) ?_
        simp only [Act.put, List.setIfInBounds_toArray, List.set_cons_zero, List.set_cons_succ]
        refine wpL_pure (.int .i64 2048) rfl (run_load_one _ _ _ 3 _ _ rfl (g3) (5) rfl (by rw [WB.out.1.cell]; rfl) (by kernel_rfl)) ?_
        simp only [Act.put, List.setIfInBounds_toArray, List.set_cons_zero, List.set_cons_succ]
        refine wpL_pure (.bool false) rfl (run_lti Try.underlying3 rfl rfl rfl (by have := HN.out; rw [decide_eq_false_iff_not]; omega)) ?_
        simp only [Act.put, List.setIfInBounds_toArray, List.set_cons_zero, List.set_cons_succ]
        go_upto_region 4 with (fail)
        refine wp_region_lit ?_
        refine wpL_pure (.int .i64 5) rfl (by kernel_rfl) ?_
        simp only [Act.put, List.setIfInBounds_toArray, List.set_cons_zero, List.set_cons_succ]
        refine wpL_pure (.int .i64 6) rfl (by kernel_rfl) ?_
        simp only [Act.put, List.setIfInBounds_toArray, List.set_cons_zero, List.set_cons_succ]
        refine wpL_pure (.int .i64 6) rfl (by kernel_rfl) ?_
        simp only [Act.put, List.setIfInBounds_toArray, List.set_cons_zero, List.set_cons_succ]
        have NX : Hid (6 ≤ 6 ∧ (6 = 0 ∨ 32 * 2 ^ 6 ≤ n) ∧ wr = w1) := Lib.hid ⟨by omega, .inr (by have := HN.out; simp; omega), WE.out⟩
        unfold wpList
        go_roundw
        case rel => first | exact ⟨6, rfl, NX⟩ | ((repeat apply Exists.intro); exact ⟨⟨6, rfl, NX⟩, rfl⟩)
        case measure => simp [intOf]
    · clear hk
      have KL : Hid (6 = 0 ∨ 2048 ≤ n) := Lib.hid (.inr (by have h := RI.out.2.1; simp at h; omega))
      have WE : Hid (wr = w1) := Lib.hid RI.out.2.2
      clear RI
      go_upto_region 3 with (fail)
      refine wp_region_lit ?_
      refine wpL_pure (.int .i64 6) rfl (by kernel_rfl) ?_
      simp only [Act.put, List.setIfInBounds_toArray, List.set_cons_zero, List.set_cons_succ]
      refine wpL_pure (.bool false) rfl (by kernel_rfl) ?_
      simp only [Act.put, List.setIfInBounds_toArray, List.set_cons_zero, List.set_cons_succ]
      go_upto_region 7 with (fail)
      refine wp_region_lit ?_
      refine wpL_pure (.int .i64 0) rfl (by kernel_rfl) ?_
      simp only [Act.put, List.setIfInBounds_toArray, List.set_cons_zero, List.set_cons_succ]
      go_wp2_with fail
      go_ret
      have e : bk n = 0 := by have h2 := KL.out; unfold bk; (repeat' split) <;> omega
      exact ⟨by rw [e]; rfl, by rw [G3.out]; exact WB.out.2⟩

/-- an entry's header. -/
structure Hdr where
  wr : Int
  sq : Int
  pv : List Int
  ep : Int
  ct : Bool
  tm : Int
  it : List Int
  ta : Option Addr
  tn : Nat
  tc : Nat
  kn : List Int
  sm : List Int
  sz : Int
  cd : List Int
def Hdr.L (h : Hdr) : List Value := [.int .i64 h.wr, .int .u64 h.sq] ++ (u8l h.pv ++ ([.int .i64 h.ep, .bool h.ct, .int .u64 h.tm] ++ (u8l h.it ++ ([.slice h.ta h.tn h.tc] ++ (h.kn.map (Value.int .u64) ++ (u8l h.sm ++ ([.int .i64 h.sz] ++ u8l h.cd)))))))
structure HOk (h : Hdr) : Prop where
  pl : h.pv.length = 32
  pb : ∀ x ∈ h.pv, 0 ≤ x ∧ x ≤ 255
  il : h.it.length = 16
  ib : ∀ x ∈ h.it, 0 ≤ x ∧ x ≤ 255
  kl : h.kn.length = 6
  kb : ∀ x ∈ h.kn, 0 ≤ x ∧ x < 18446744073709551616
  sl : h.sm.length = 32
  cl : h.cd.length = 32
  wb : -9223372036854775808 ≤ h.wr ∧ h.wr ≤ 9223372036854775807
  sb : 0 ≤ h.sq ∧ h.sq < 18446744073709551616
  eb : -9223372036854775808 ≤ h.ep ∧ h.ep ≤ 9223372036854775807
  tb : 0 ≤ h.tm ∧ h.tm < 18446744073709551616
  zb : -9223372036854775808 ≤ h.sz ∧ h.sz ≤ 9223372036854775807
theorem Hdr.len {h : Hdr} (o : HOk h) : h.L.length = 125 := by simp [Hdr.L, u8l_len, o.pl, o.il, o.kl, o.sl, o.cl]
theorem Hdr.c0 {h : Hdr} : h.L[0]? = some (.int .i64 h.wr) := rfl
theorem Hdr.c1 {h : Hdr} : h.L[1]? = some (.int .u64 h.sq) := rfl
section
variable {h : Hdr} (o : HOk h)
include o
theorem Hdr.mid (k : Nat) (hk : k < 32) : h.L[2 + k]? = (u8l h.pv)[k]? := by
  unfold Hdr.L
  rw [List.getElem?_append_right (by simp), List.getElem?_append_left (by simp [u8l_len, o.pl]; omega)]
  congr 1
  simp
theorem Hdr.d34 : h.L.drop 34 = [.int .i64 h.ep, .bool h.ct, .int .u64 h.tm] ++ (u8l h.it ++ ([.slice h.ta h.tn h.tc] ++ (h.kn.map (Value.int .u64) ++ (u8l h.sm ++ ([.int .i64 h.sz] ++ u8l h.cd))))) := by
  unfold Hdr.L
  rw [← List.append_assoc]
  exact List.drop_left' (by simp [u8l_len, o.pl])
theorem Hdr.d37 : h.L.drop 37 = u8l h.it ++ ([.slice h.ta h.tn h.tc] ++ (h.kn.map (Value.int .u64) ++ (u8l h.sm ++ ([.int .i64 h.sz] ++ u8l h.cd)))) := by
  rw [show 37 = 34 + 3 from rfl, ← List.drop_drop, Hdr.d34 o]; rfl
theorem Hdr.d53 : h.L.drop 53 = [.slice h.ta h.tn h.tc] ++ (h.kn.map (Value.int .u64) ++ (u8l h.sm ++ ([.int .i64 h.sz] ++ u8l h.cd))) := by
  rw [show 53 = 37 + 16 from rfl, ← List.drop_drop, Hdr.d37 o]
  exact List.drop_left' (by simp [u8l_len, o.il])
theorem Hdr.d54 : h.L.drop 54 = h.kn.map (Value.int .u64) ++ (u8l h.sm ++ ([.int .i64 h.sz] ++ u8l h.cd)) := by
  rw [show 54 = 53 + 1 from rfl, ← List.drop_drop, Hdr.d53 o]; rfl
theorem Hdr.d92 : h.L.drop 92 = [.int .i64 h.sz] ++ u8l h.cd := by
  rw [show 92 = 54 + 38 from rfl, ← List.drop_drop, Hdr.d54 o, ← List.append_assoc]
  exact List.drop_left' (by simp [u8l_len, o.kl, o.sl])
theorem Hdr.c34 : h.L[34]? = some (.int .i64 h.ep) := by
  have q := congrArg (fun l => l[0]?) (Hdr.d34 o); simpa using q
theorem Hdr.c35 : h.L[35]? = some (.bool h.ct) := by
  have q := congrArg (fun l => l[1]?) (Hdr.d34 o); simpa using q
theorem Hdr.c36 : h.L[36]? = some (.int .u64 h.tm) := by
  have q := congrArg (fun l => l[2]?) (Hdr.d34 o); simpa using q
theorem Hdr.c53 : h.L[53]? = some (.slice h.ta h.tn h.tc) := by
  have q := congrArg (fun l => l[0]?) (Hdr.d53 o); simpa using q
theorem Hdr.c92 : h.L[92]? = some (.int .i64 h.sz) := by
  have q := congrArg (fun l => l[0]?) (Hdr.d92 o); simpa using q
theorem Hdr.ck (k : Nat) (hk : k < 6) : h.L[54 + k]? = some (.int .u64 (h.kn.getD k 0)) := by
  have q := congrArg (fun l => l[k]?) (Hdr.d54 o)
  simp only [List.getElem?_drop] at q
  rw [q, List.getElem?_append_left (by rw [List.length_map, o.kl]; exact hk), List.getElem?_map]
  simp [List.getD, List.getElem?_eq_getElem (show k < h.kn.length by rw [o.kl]; exact hk)]
theorem Hdr.rpv {w : World} {g t : Nat} (b : Blk w g t h.L.toArray) : w.rangeAt g 2 (u8l h.pv) := fun j v hj => by
  have hl : j < 32 := by
    rcases Nat.lt_or_ge j 32 with q | q
    · exact q
    · rw [List.getElem?_eq_none (by rw [u8l_len, o.pl]; exact q)] at hj; cases hj
  rw [b.cell, List.getElem?_toArray, Hdr.mid o j hl, hj]
theorem Hdr.rit {w : World} {g t : Nat} (b : Blk w g t h.L.toArray) : w.rangeAt g 37 (u8l h.it) := fun j v hj => by
  have hl : j < 16 := by
    rcases Nat.lt_or_ge j 16 with q | q
    · exact q
    · rw [List.getElem?_eq_none (by rw [u8l_len, o.il]; exact q)] at hj; cases hj
  have q := congrArg (fun l => l[j]?) (Hdr.d37 o)
  simp only [List.getElem?_drop] at q
  rw [b.cell, List.getElem?_toArray, q, List.getElem?_append_left (by rw [u8l_len, o.il]; exact hl), hj]
theorem Hdr.rkn {w : World} {g t : Nat} (b : Blk w g t h.L.toArray) : w.rangeAt g 54 (h.kn.map (Value.int .u64)) := fun j v hj => by
  have hl : j < 6 := by
    rcases Nat.lt_or_ge j 6 with q | q
    · exact q
    · rw [List.getElem?_eq_none (by rw [List.length_map, o.kl]; exact q)] at hj; cases hj
  have q := congrArg (fun l => l[j]?) (Hdr.d54 o)
  simp only [List.getElem?_drop] at q
  rw [b.cell, List.getElem?_toArray, q, List.getElem?_append_left (by rw [List.length_map, o.kl]; exact hl), hj]
end
theorem run_boxh (a : Act) (o : Oper) (w w1 : World) (x : Operand) (h : Hdr) (hk : HOk h) (ho : o.op = .box 37 x) (hx : a.eval x = .agg h.L.toArray) (h1 : w1 = w.alloc (.cells h.L.toArray 37)) :
    (execOp a.eval o).run Try.prog w = .ok (.value (.pointer (some ⟨w.heap.size, 0, none⟩))) w1 := by
  have e : ¬ h.L.length = 0 := by rw [Hdr.len hk]; decide
  subst h1
  unfold execOp
  simp [ho, hx, Instr.box, newVar, newRow, Value.cells, e]
/-- a header is one. -/
structure FmP (h : Hdr) (T : List (List Int)) : Prop where
  wr : 1 ≤ h.wr ∧ h.wr ≤ 6
  sq : 1 ≤ h.sq ∧ h.sq ≤ 1048576
  pv : h.sq = 1 → h.pv = List.replicate 32 0
  ep : 0 ≤ h.ep ∧ h.ep ≤ 255
  tm : h.tm ≤ 1099511627776
  ct : h.ct = true → h.it = List.replicate 16 0 ∧ h.tn = 0
  tn : h.tn ≤ 8
  so : ∀ j, 1 ≤ j → j < h.tn → cmpT (T.getD (j - 1) []) (T.getD j []) < 0
  kn : h.kn.getD (h.wr - 1).toNat 0 = h.sq - 1
  km : ∀ j, j < 6 → h.kn.getD j 0 ≤ 1048576
  sz : bkt (h.sz - 16)
end Go.Proofs.Ythkhlkiemldbaaa.K.Ha
