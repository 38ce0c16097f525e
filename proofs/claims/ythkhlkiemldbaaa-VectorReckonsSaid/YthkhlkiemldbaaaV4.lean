import Derived.Test.YthkhlkiemldbaaaV1
import Derived.LoopTactic
namespace Go.Proofs.Ythkhlkiemldbaaa
open Go.RowKit
attribute [local go_sem] max_u64 min_u64

/-- how much more b is than a, 2^40 at most. -/
def dif (a b : Int) : Int := if a < b then min (b - a) 1099511627776 else 0
theorem dif_lo (a b : Int) : 0 ≤ dif a b := by unfold dif; split <;> omega
theorem dif_hi (a b : Int) : dif a b ≤ 1099511627776 := by unfold dif; split <;> omega
theorem dif_yes (a b : Int) (h : a < b) : dif a b = min (b - a) 1099511627776 := by unfold dif; rw [if_pos h]
theorem dif_no (a b : Int) (h : ¬ a < b) : dif a b = 0 := by unfold dif; rw [if_neg h]
def sumTo : Nat → List Int → Int
  | 0, _ => 0
  | _ + 1, [] => 0
  | k + 1, x :: r => x + sumTo k r

theorem val_u64 {a b : Int} (h : a = b) : Value.int .u64 a = .int .u64 b := by rw [h]
def msum (k : Nat) (a0 a1 a2 a3 a4 a5 b0 b1 b2 b3 b4 b5 : Int) : Int :=
  match k with
  | 0 => 0
  | 1 => dif a0 b0
  | 2 => dif a0 b0 + dif a1 b1
  | 3 => dif a0 b0 + dif a1 b1 + dif a2 b2
  | 4 => dif a0 b0 + dif a1 b1 + dif a2 b2 + dif a3 b3
  | 5 => dif a0 b0 + dif a1 b1 + dif a2 b2 + dif a3 b3 + dif a4 b4
  | _ => dif a0 b0 + dif a1 b1 + dif a2 b2 + dif a3 b3 + dif a4 b4 + dif a5 b5

set_option maxHeartbeats 1000000 in
theorem total_any (a0 a1 a2 a3 a4 a5 : Int) (wa0 : 0 ≤ a0 ∧ a0 < 18446744073709551616) (wa1 : 0 ≤ a1 ∧ a1 < 18446744073709551616) (wa2 : 0 ≤ a2 ∧ a2 < 18446744073709551616) (wa3 : 0 ≤ a3 ∧ a3 < 18446744073709551616) (wa4 : 0 ≤ a4 ∧ a4 < 18446744073709551616) (wa5 : 0 ≤ a5 ∧ a5 < 18446744073709551616) (w : World) :
    Calls Try.prog 15 #[.agg #[.int .u64 a0, .int .u64 a1, .int .u64 a2, .int .u64 a3, .int .u64 a4, .int .u64 a5]] w fun e w' => e = .returned (.int .u64 (min a0 1048576 + min a1 1048576 + min a2 1048576 + min a3 1048576 + min a4 1048576 + min a5 1048576)) ∧ Below w.heap.size w w' := by
  have m0 : 0 ≤ min a0 1048576 := by omega
  have m1 : 0 ≤ min a1 1048576 := by omega
  have m2 : 0 ≤ min a2 1048576 := by omega
  have m3 : 0 ≤ min a3 1048576 := by omega
  have m4 : 0 ≤ min a4 1048576 := by omega
  have m5 : 0 ≤ min a5 1048576 := by omega
  have n0 : min a0 1048576 ≤ 1048576 := by omega
  have n1 : min a1 1048576 ≤ 1048576 := by omega
  have n2 : min a2 1048576 ≤ 1048576 := by omega
  have n3 : min a3 1048576 ≤ 1048576 := by omega
  have n4 : min a4 1048576 ≤ 1048576 := by omega
  have n5 : min a5 1048576 ≤ 1048576 := by omega
  have i0 : ∀ w, (Instr.index 24 (.agg #[.int .u64 a0, .int .u64 a1, .int .u64 a2, .int .u64 a3, .int .u64 a4, .int .u64 a5]) (.int .i64 0)).run Try.prog w = .ok (.int .u64 a0) w := fun _ => by kernel_rfl
  have i1 : ∀ w, (Instr.index 24 (.agg #[.int .u64 a0, .int .u64 a1, .int .u64 a2, .int .u64 a3, .int .u64 a4, .int .u64 a5]) (.int .i64 1)).run Try.prog w = .ok (.int .u64 a1) w := fun _ => by kernel_rfl
  have i2 : ∀ w, (Instr.index 24 (.agg #[.int .u64 a0, .int .u64 a1, .int .u64 a2, .int .u64 a3, .int .u64 a4, .int .u64 a5]) (.int .i64 2)).run Try.prog w = .ok (.int .u64 a2) w := fun _ => by kernel_rfl
  have i3 : ∀ w, (Instr.index 24 (.agg #[.int .u64 a0, .int .u64 a1, .int .u64 a2, .int .u64 a3, .int .u64 a4, .int .u64 a5]) (.int .i64 3)).run Try.prog w = .ok (.int .u64 a3) w := fun _ => by kernel_rfl
  have i4 : ∀ w, (Instr.index 24 (.agg #[.int .u64 a0, .int .u64 a1, .int .u64 a2, .int .u64 a3, .int .u64 a4, .int .u64 a5]) (.int .i64 4)).run Try.prog w = .ok (.int .u64 a4) w := fun _ => by kernel_rfl
  have i5 : ∀ w, (Instr.index 24 (.agg #[.int .u64 a0, .int .u64 a1, .int .u64 a2, .int .u64 a3, .int .u64 a4, .int .u64 a5]) (.int .i64 5)).run Try.prog w = .ok (.int .u64 a5) w := fun _ => by kernel_rfl
  go_enter Try.func15, Try.ntmps15
  go_wp2
  refine wp_loop_rounds 7 ?_
  iterate 6 (rw [rounds_succ]; go_wp2)
  rw [rounds_succ]
  go_wp2
  go_ret
  refine ⟨ret_int (by omega), ?_⟩
  repeat (first | exact Below.refl _ _ | refine Below.drew ?_ | refine below_alloc ?_ (Nat.le_refl _) _)

theorem rgreat_any (a0 a1 a2 a3 a4 a5 b0 b1 b2 b3 b4 b5 : Int) (w : World) :
    Calls Try.prog 14 #[.agg #[.int .u64 a0, .int .u64 a1, .int .u64 a2, .int .u64 a3, .int .u64 a4, .int .u64 a5], .agg #[.int .u64 b0, .int .u64 b1, .int .u64 b2, .int .u64 b3, .int .u64 b4, .int .u64 b5]] w fun e w' => e = .returned (.bool (decide (b0 ≤ a0 ∧ b1 ≤ a1 ∧ b2 ≤ a2 ∧ b3 ≤ a3 ∧ b4 ≤ a4 ∧ b5 ≤ a5))) ∧ Below w.heap.size w w' := by
  go_enter Try.func14, Try.ntmps14
  go_wp2
  refine wp_loop_rounds 7 ?_
  rw [rounds_succ]
  go_wp2
  go_region
  go_wp2
  · go_ret
    refine ⟨ret_bool (decide_eq_false (by omega)).symm, ?_⟩
    repeat (first | exact Below.refl _ _ | refine Below.drew ?_ | refine below_alloc ?_ (Nat.le_refl _) _)
  rw [rounds_succ]
  go_wp2
  go_region
  go_wp2
  · go_ret
    refine ⟨ret_bool (decide_eq_false (by omega)).symm, ?_⟩
    repeat (first | exact Below.refl _ _ | refine Below.drew ?_ | refine below_alloc ?_ (Nat.le_refl _) _)
  rw [rounds_succ]
  go_wp2
  go_region
  go_wp2
  · go_ret
    refine ⟨ret_bool (decide_eq_false (by omega)).symm, ?_⟩
    repeat (first | exact Below.refl _ _ | refine Below.drew ?_ | refine below_alloc ?_ (Nat.le_refl _) _)
  rw [rounds_succ]
  go_wp2
  go_region
  go_wp2
  · go_ret
    refine ⟨ret_bool (decide_eq_false (by omega)).symm, ?_⟩
    repeat (first | exact Below.refl _ _ | refine Below.drew ?_ | refine below_alloc ?_ (Nat.le_refl _) _)
  rw [rounds_succ]
  go_wp2
  go_region
  go_wp2
  · go_ret
    refine ⟨ret_bool (decide_eq_false (by omega)).symm, ?_⟩
    repeat (first | exact Below.refl _ _ | refine Below.drew ?_ | refine below_alloc ?_ (Nat.le_refl _) _)
  rw [rounds_succ]
  go_wp2
  go_region
  go_wp2
  · go_ret
    refine ⟨ret_bool (decide_eq_false (by omega)).symm, ?_⟩
    repeat (first | exact Below.refl _ _ | refine Below.drew ?_ | refine below_alloc ?_ (Nat.le_refl _) _)
  rw [rounds_succ]
  go_wp2
  go_ret
  refine ⟨ret_bool (decide_eq_true (by omega)).symm, ?_⟩
  repeat (first | exact Below.refl _ _ | refine Below.drew ?_ | refine below_alloc ?_ (Nat.le_refl _) _)

set_option maxRecDepth 100000 in
set_option maxHeartbeats 2000000 in
theorem missing_any (a0 a1 a2 a3 a4 a5 b0 b1 b2 b3 b4 b5 : Int) (wa0 : 0 ≤ a0 ∧ a0 < 18446744073709551616) (wa1 : 0 ≤ a1 ∧ a1 < 18446744073709551616) (wa2 : 0 ≤ a2 ∧ a2 < 18446744073709551616) (wa3 : 0 ≤ a3 ∧ a3 < 18446744073709551616) (wa4 : 0 ≤ a4 ∧ a4 < 18446744073709551616) (wa5 : 0 ≤ a5 ∧ a5 < 18446744073709551616) (wb0 : 0 ≤ b0 ∧ b0 < 18446744073709551616) (wb1 : 0 ≤ b1 ∧ b1 < 18446744073709551616) (wb2 : 0 ≤ b2 ∧ b2 < 18446744073709551616) (wb3 : 0 ≤ b3 ∧ b3 < 18446744073709551616) (wb4 : 0 ≤ b4 ∧ b4 < 18446744073709551616) (wb5 : 0 ≤ b5 ∧ b5 < 18446744073709551616) (w : World) :
    Calls Try.prog 13 #[.agg #[.int .u64 a0, .int .u64 a1, .int .u64 a2, .int .u64 a3, .int .u64 a4, .int .u64 a5], .agg #[.int .u64 b0, .int .u64 b1, .int .u64 b2, .int .u64 b3, .int .u64 b4, .int .u64 b5]] w fun e w' => e = .returned (.int .u64 (dif a0 b0 + dif a1 b1 + dif a2 b2 + dif a3 b3 + dif a4 b4 + dif a5 b5)) ∧ Below w.heap.size w w' := by
  have m0 := dif_lo a0 b0
  have m1 := dif_lo a1 b1
  have m2 := dif_lo a2 b2
  have m3 := dif_lo a3 b3
  have m4 := dif_lo a4 b4
  have m5 := dif_lo a5 b5
  have n0 := dif_hi a0 b0
  have n1 := dif_hi a1 b1
  have n2 := dif_hi a2 b2
  have n3 := dif_hi a3 b3
  have n4 := dif_hi a4 b4
  have n5 := dif_hi a5 b5
  go_enter Try.func13, Try.ntmps13
  go_wp2
  go_loopw [5, 6, 7] (fun s _ i wr => ∃ k : Nat, k ≤ 6 ∧ i = .int .i64 k ∧ s = .int .u64 (msum k a0 a1 a2 a3 a4 a5 b0 b1 b2 b3 b4 b5) ∧ ∃ n, wr = ((w.alloc (.cells #[.int .u64 a0, .int .u64 a1, .int .u64 a2, .int .u64 a3, .int .u64 a4, .int .u64 a5] 24)).alloc (.cells #[.int .u64 b0, .int .u64 b1, .int .u64 b2, .int .u64 b3, .int .u64 b4, .int .u64 b5] 24)).drewN n) (fun _ _ i _ => 6 - (intOf i).toNat)
  case atStart => exact ⟨0, by omega, rfl, rfl, 0, rfl⟩
  case round =>
    obtain ⟨k, hk, rfl, hs, n, rfl⟩ := hrel
    have hk' : k = 0 ∨ k = 1 ∨ k = 2 ∨ k = 3 ∨ k = 4 ∨ k = 5 ∨ k = 6 := by omega
    rcases hk' with rfl | rfl | rfl | rfl | rfl | rfl | rfl
    · clear hk
      change _ = Value.int .u64 (0) at hs
      subst hs
      by_cases hlt : a0 < b0
      · have e := dif_yes a0 b0 hlt
        have E := Lib.hid e
        clear e
        go_wp2
        go_region
        go_wp2
        go_region
        go_wp2
        go_roundw
        case rel => exact ⟨1, by omega, rfl, val_u64 (show _ = dif a0 b0 by have e := E.out; omega), _, rfl⟩
        case measure => simp [intOf]
      · have e := dif_no a0 b0 hlt
        have E := Lib.hid e
        clear e
        go_wp2
        go_region
        go_wp2
        go_roundw
        case rel => exact ⟨1, by omega, rfl, val_u64 (show _ = dif a0 b0 by have e := E.out; omega), _, rfl⟩
        case measure => simp [intOf]
    · clear hk
      have h0 : 0 ≤ dif a0 b0 := by omega
      have h1 : dif a0 b0 ≤ 1099511627776 := by omega
      change _ = Value.int .u64 (dif a0 b0) at hs
      subst hs
      by_cases hlt : a1 < b1
      · have e := dif_yes a1 b1 hlt
        have E := Lib.hid e
        clear e
        go_wp2
        go_region
        go_wp2
        go_region
        go_wp2
        go_roundw
        case rel => exact ⟨2, by omega, rfl, val_u64 (show _ = dif a0 b0 + dif a1 b1 by have e := E.out; omega), _, rfl⟩
        case measure => simp [intOf]
      · have e := dif_no a1 b1 hlt
        have E := Lib.hid e
        clear e
        go_wp2
        go_region
        go_wp2
        go_roundw
        case rel => exact ⟨2, by omega, rfl, val_u64 (show _ = dif a0 b0 + dif a1 b1 by have e := E.out; omega), _, rfl⟩
        case measure => simp [intOf]
    · clear hk
      have h0 : 0 ≤ dif a0 b0 + dif a1 b1 := by omega
      have h1 : dif a0 b0 + dif a1 b1 ≤ 2199023255552 := by omega
      change _ = Value.int .u64 (dif a0 b0 + dif a1 b1) at hs
      subst hs
      by_cases hlt : a2 < b2
      · have e := dif_yes a2 b2 hlt
        have E := Lib.hid e
        clear e
        go_wp2
        go_region
        go_wp2
        go_region
        go_wp2
        go_roundw
        case rel => exact ⟨3, by omega, rfl, val_u64 (show _ = dif a0 b0 + dif a1 b1 + dif a2 b2 by have e := E.out; omega), _, rfl⟩
        case measure => simp [intOf]
      · have e := dif_no a2 b2 hlt
        have E := Lib.hid e
        clear e
        go_wp2
        go_region
        go_wp2
        go_roundw
        case rel => exact ⟨3, by omega, rfl, val_u64 (show _ = dif a0 b0 + dif a1 b1 + dif a2 b2 by have e := E.out; omega), _, rfl⟩
        case measure => simp [intOf]
    · clear hk
      have h0 : 0 ≤ dif a0 b0 + dif a1 b1 + dif a2 b2 := by omega
      have h1 : dif a0 b0 + dif a1 b1 + dif a2 b2 ≤ 3298534883328 := by omega
      change _ = Value.int .u64 (dif a0 b0 + dif a1 b1 + dif a2 b2) at hs
      subst hs
      by_cases hlt : a3 < b3
      · have e := dif_yes a3 b3 hlt
        have E := Lib.hid e
        clear e
        go_wp2
        go_region
        go_wp2
        go_region
        go_wp2
        go_roundw
        case rel => exact ⟨4, by omega, rfl, val_u64 (show _ = dif a0 b0 + dif a1 b1 + dif a2 b2 + dif a3 b3 by have e := E.out; omega), _, rfl⟩
        case measure => simp [intOf]
      · have e := dif_no a3 b3 hlt
        have E := Lib.hid e
        clear e
        go_wp2
        go_region
        go_wp2
        go_roundw
        case rel => exact ⟨4, by omega, rfl, val_u64 (show _ = dif a0 b0 + dif a1 b1 + dif a2 b2 + dif a3 b3 by have e := E.out; omega), _, rfl⟩
        case measure => simp [intOf]
    · clear hk
      have h0 : 0 ≤ dif a0 b0 + dif a1 b1 + dif a2 b2 + dif a3 b3 := by omega
      have h1 : dif a0 b0 + dif a1 b1 + dif a2 b2 + dif a3 b3 ≤ 4398046511104 := by omega
      change _ = Value.int .u64 (dif a0 b0 + dif a1 b1 + dif a2 b2 + dif a3 b3) at hs
      subst hs
      by_cases hlt : a4 < b4
      · have e := dif_yes a4 b4 hlt
        have E := Lib.hid e
        clear e
        go_wp2
        go_region
        go_wp2
        go_region
        go_wp2
        go_roundw
        case rel => exact ⟨5, by omega, rfl, val_u64 (show _ = dif a0 b0 + dif a1 b1 + dif a2 b2 + dif a3 b3 + dif a4 b4 by have e := E.out; omega), _, rfl⟩
        case measure => simp [intOf]
      · have e := dif_no a4 b4 hlt
        have E := Lib.hid e
        clear e
        go_wp2
        go_region
        go_wp2
        go_roundw
        case rel => exact ⟨5, by omega, rfl, val_u64 (show _ = dif a0 b0 + dif a1 b1 + dif a2 b2 + dif a3 b3 + dif a4 b4 by have e := E.out; omega), _, rfl⟩
        case measure => simp [intOf]
    · clear hk
      have h0 : 0 ≤ dif a0 b0 + dif a1 b1 + dif a2 b2 + dif a3 b3 + dif a4 b4 := by omega
      have h1 : dif a0 b0 + dif a1 b1 + dif a2 b2 + dif a3 b3 + dif a4 b4 ≤ 5497558138880 := by omega
      change _ = Value.int .u64 (dif a0 b0 + dif a1 b1 + dif a2 b2 + dif a3 b3 + dif a4 b4) at hs
      subst hs
      by_cases hlt : a5 < b5
      · have e := dif_yes a5 b5 hlt
        have E := Lib.hid e
        clear e
        go_wp2
        go_region
        go_wp2
        go_region
        go_wp2
        go_roundw
        case rel => exact ⟨6, by omega, rfl, val_u64 (show _ = dif a0 b0 + dif a1 b1 + dif a2 b2 + dif a3 b3 + dif a4 b4 + dif a5 b5 by have e := E.out; omega), _, rfl⟩
        case measure => simp [intOf]
      · have e := dif_no a5 b5 hlt
        have E := Lib.hid e
        clear e
        go_wp2
        go_region
        go_wp2
        go_roundw
        case rel => exact ⟨6, by omega, rfl, val_u64 (show _ = dif a0 b0 + dif a1 b1 + dif a2 b2 + dif a3 b3 + dif a4 b4 + dif a5 b5 by have e := E.out; omega), _, rfl⟩
        case measure => simp [intOf]
    · subst hs
      go_wp2
      go_ret
      refine ⟨rfl, below_drewN (below_alloc (below_alloc (Below.refl _ _) (Nat.le_refl _) _) (Nat.le_refl _) _) _⟩
end Go.Proofs.Ythkhlkiemldbaaa
