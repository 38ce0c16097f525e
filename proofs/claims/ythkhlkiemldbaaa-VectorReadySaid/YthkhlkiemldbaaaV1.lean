import Derived.Test.YthkhlkiemldbaaaRows
import Derived.WalkKit
import Derived.WalkLawsBesides
import Derived.Deep.QuietTactic
import Derived.BigQuiet
import Derived.RegionTactic
import Derived.Deep.RegionHeld3
import Derived.Outline
import Derived.Lib.Hide
import Derived.Laws.StructEq
import Derived.Laws.Small
namespace Go.Proofs.Ythkhlkiemldbaaa
open Go.RowKit

theorem max_u64 (ats : Array TypeId) (ty : TypeId) (x y : Int) : Builtin.max_ ats ty #[.int .u64 x, .int .u64 y] = pure (.int .u64 (max x y)) := by
  unfold Builtin.max_
  have : (if x < y then y else x) = max x y := by omega
  simp [Builtin.max2, this]
theorem min_u64 (ats : Array TypeId) (ty : TypeId) (x y : Int) : Builtin.min_ ats ty #[.int .u64 x, .int .u64 y] = pure (.int .u64 (min x y)) := by
  unfold Builtin.min_
  have : (if y < x then y else x) = min x y := by omega
  simp [Builtin.min2, this]

theorem ret_bool {a b : Bool} (h : a = b) : Ending.returned (.bool a) = .returned (.bool b) := by rw [h]
theorem ret_int {k : IntKind} {a b : Int} (h : a = b) : Ending.returned (.int k a) = .returned (.int k b) := by rw [h]
theorem great_eq (a0 a1 a2 a3 a4 a5 b0 b1 b2 b3 b4 b5 : Int) : (max a0 b0 == a0 && (max a1 b1 == a1 && (max a2 b2 == a2 && (max a3 b3 == a3 && (max a4 b4 == a4 && max a5 b5 == a5))))) = decide (b0 ≤ a0 ∧ b1 ≤ a1 ∧ b2 ≤ a2 ∧ b3 ≤ a3 ∧ b4 ≤ a4 ∧ b5 ≤ a5) := by
  rw [Bool.eq_iff_iff]
  simp
  omega
theorem below_alloc {B : Nat} {a w : World} (h : Below B a w) (hB : B ≤ a.heap.size) (o : Obj) : Below B a (w.alloc o) := h.alloc (Nat.le_trans hB h.size) o
theorem bcell {W w1 : World} (hb : Below W.heap.size W w1) : (∀ b o, b < W.heap.size → w1.cell? ⟨b, o, none⟩ = W.cell? ⟨b, o, none⟩) ∧ (∀ b o, b < W.heap.size → w1.frozen? ⟨b, o, none⟩ = W.frozen? ⟨b, o, none⟩) :=
  ⟨fun b o h => hb.cell (p := ⟨b, o, none⟩) h, fun b o h => hb.frozen (p := ⟨b, o, none⟩) h⟩

@[go_sem] theorem eq24 (a0 a1 a2 a3 a4 a5 b0 b1 b2 b3 b4 b5 : Int) (w : World) : (Op.equalIn 10000 24 (.agg #[.int .u64 a0, .int .u64 a1, .int .u64 a2, .int .u64 a3, .int .u64 a4, .int .u64 a5]) (.agg #[.int .u64 b0, .int .u64 b1, .int .u64 b2, .int .u64 b3, .int .u64 b4, .int .u64 b5])).run Try.prog w = .ok (a0 == b0 && (a1 == b1 && (a2 == b2 && (a3 == b3 && (a4 == b4 && a5 == b5))))) w := by
  have u3 := Try.underlying22
  have ia3 := Try.isAgg22
  have z3 := Try.sizeOf22
  rw [show (10000 : Nat) = 9999 + 1 from rfl, Op.equalIn]
  simp only [Sem.run_bind, run_underlying Try.underlying24, Result.andThen_ok]
  simp only [Std.Legacy.Range.forIn_eq_forIn_range', Std.Legacy.Range.size, Nat.sub_zero, Nat.add_sub_cancel, Nat.div_one, List.range'_succ, List.range'_zero, List.forIn_cons, List.forIn_nil]
  go_simp
  by_cases h0 : a0 = b0 <;> by_cases h1 : a1 = b1 <;> by_cases h2 : a2 = b2 <;> by_cases h3 : a3 = b3 <;> by_cases h4 : a4 = b4 <;> by_cases h5 : a5 = b5 <;> simp [h0, h1, h2, h3, h4, h5]

attribute [local go_sem] max_u64 min_u64
theorem join_eq (a0 a1 a2 a3 a4 a5 b0 b1 b2 b3 b4 b5 : Int) (w : World) :
    Calls Try.prog 9 #[.agg #[.int .u64 a0, .int .u64 a1, .int .u64 a2, .int .u64 a3, .int .u64 a4, .int .u64 a5], .agg #[.int .u64 b0, .int .u64 b1, .int .u64 b2, .int .u64 b3, .int .u64 b4, .int .u64 b5]] w fun e w' => e = .returned (.agg #[.int .u64 (max a0 b0), .int .u64 (max a1 b1), .int .u64 (max a2 b2), .int .u64 (max a3 b3), .int .u64 (max a4 b4), .int .u64 (max a5 b5)]) ∧ w' = (((w.alloc (.cells #[.int .u64 (max a0 b0), .int .u64 (max a1 b1), .int .u64 (max a2 b2), .int .u64 (max a3 b3), .int .u64 (max a4 b4), .int .u64 (max a5 b5)] 24)).alloc (.cells #[.int .u64 b0, .int .u64 b1, .int .u64 b2, .int .u64 b3, .int .u64 b4, .int .u64 b5] 24)).alloc (.cells #[.int .u64 (max a0 b0), .int .u64 (max a1 b1), .int .u64 (max a2 b2), .int .u64 (max a3 b3), .int .u64 (max a4 b4), .int .u64 (max a5 b5)] 24)).drew.drew.drew.drew.drew.drew := by
  go_enter Try.func9, Try.ntmps9
  go_wp2
  refine wp_loop_rounds 7 ?_
  iterate 6 (rw [rounds_succ]; go_wp2; go_region; go_wp2)
  rw [rounds_succ]
  go_wp2
  exact bodyPost_ret (v := .agg #[.int .u64 (max a0 b0), .int .u64 (max a1 b1), .int .u64 (max a2 b2), .int .u64 (max a3 b3), .int .u64 (max a4 b4), .int .u64 (max a5 b5)]) (by simp [results, Try.results9, go_sem]) rfl ⟨rfl, rfl⟩

theorem join_any (a0 a1 a2 a3 a4 a5 b0 b1 b2 b3 b4 b5 : Int) (w : World) :
    Calls Try.prog 9 #[.agg #[.int .u64 a0, .int .u64 a1, .int .u64 a2, .int .u64 a3, .int .u64 a4, .int .u64 a5], .agg #[.int .u64 b0, .int .u64 b1, .int .u64 b2, .int .u64 b3, .int .u64 b4, .int .u64 b5]] w fun e w' => e = .returned (.agg #[.int .u64 (max a0 b0), .int .u64 (max a1 b1), .int .u64 (max a2 b2), .int .u64 (max a3 b3), .int .u64 (max a4 b4), .int .u64 (max a5 b5)]) ∧ Below w.heap.size w w' := by
  refine (join_eq a0 a1 a2 a3 a4 a5 b0 b1 b2 b3 b4 b5 w).mono ?_
  rintro e w' ⟨rfl, rfl⟩
  refine ⟨rfl, ?_⟩
  repeat (first | exact Below.refl _ _ | refine Below.drew ?_ | refine below_alloc ?_ (Nat.le_refl _) _)

theorem great_any (a0 a1 a2 a3 a4 a5 b0 b1 b2 b3 b4 b5 : Int) (w : World) :
    Calls Try.prog 11 #[.agg #[.int .u64 a0, .int .u64 a1, .int .u64 a2, .int .u64 a3, .int .u64 a4, .int .u64 a5], .agg #[.int .u64 b0, .int .u64 b1, .int .u64 b2, .int .u64 b3, .int .u64 b4, .int .u64 b5]] w fun e w' => e = .returned (.bool (decide (b0 ≤ a0 ∧ b1 ≤ a1 ∧ b2 ≤ a2 ∧ b3 ≤ a3 ∧ b4 ≤ a4 ∧ b5 ≤ a5))) ∧ Below w.heap.size w w' := by
  have hl2 : w.heap.size < w.heap.size + 1 + 1 := by omega
  go_enter Try.func11, Try.ntmps11
  go_wp2_with fail
  go_region_held3 (fun w' => w'.cell? ⟨w.heap.size, 0, none⟩ = some (.int .u64 a0) ∧ w'.cell? ⟨w.heap.size, 1, none⟩ = some (.int .u64 a1) ∧ w'.cell? ⟨w.heap.size, 2, none⟩ = some (.int .u64 a2) ∧ w'.cell? ⟨w.heap.size, 3, none⟩ = some (.int .u64 a3) ∧ w'.cell? ⟨w.heap.size, 4, none⟩ = some (.int .u64 a4) ∧ w'.cell? ⟨w.heap.size, 5, none⟩ = some (.int .u64 a5) ∧ w'.cell? ⟨w.heap.size + 1, 0, none⟩ = some (.int .u64 b0) ∧ w'.cell? ⟨w.heap.size + 1, 1, none⟩ = some (.int .u64 b1) ∧ w'.cell? ⟨w.heap.size + 1, 2, none⟩ = some (.int .u64 b2) ∧ w'.cell? ⟨w.heap.size + 1, 3, none⟩ = some (.int .u64 b3) ∧ w'.cell? ⟨w.heap.size + 1, 4, none⟩ = some (.int .u64 b4) ∧ w'.cell? ⟨w.heap.size + 1, 5, none⟩ = some (.int .u64 b5)) (go_keep) (first | (go_at_call 9; refine (join_any _ _ _ _ _ _ _ _ _ _ _ _ _).mono ?_; rintro e w' ⟨rfl, hb⟩; obtain ⟨hc, hf⟩ := bcell hb))
  go_wp2
  go_ret
  refine ⟨ret_bool (great_eq _ _ _ _ _ _ _ _ _ _ _ _), ?_⟩
  refine Below.trans ?_ (hb.mono (by simp; omega))
  repeat (first | exact Below.refl _ _ | refine Below.drew ?_ | refine below_alloc ?_ (Nat.le_refl _) _)

theorem meet_eq (a0 a1 a2 a3 a4 a5 b0 b1 b2 b3 b4 b5 : Int) (w : World) :
    Calls Try.prog 10 #[.agg #[.int .u64 a0, .int .u64 a1, .int .u64 a2, .int .u64 a3, .int .u64 a4, .int .u64 a5], .agg #[.int .u64 b0, .int .u64 b1, .int .u64 b2, .int .u64 b3, .int .u64 b4, .int .u64 b5]] w fun e w' => e = .returned (.agg #[.int .u64 (min a0 b0), .int .u64 (min a1 b1), .int .u64 (min a2 b2), .int .u64 (min a3 b3), .int .u64 (min a4 b4), .int .u64 (min a5 b5)]) ∧ w' = (((w.alloc (.cells #[.int .u64 (min a0 b0), .int .u64 (min a1 b1), .int .u64 (min a2 b2), .int .u64 (min a3 b3), .int .u64 (min a4 b4), .int .u64 (min a5 b5)] 24)).alloc (.cells #[.int .u64 b0, .int .u64 b1, .int .u64 b2, .int .u64 b3, .int .u64 b4, .int .u64 b5] 24)).alloc (.cells #[.int .u64 (min a0 b0), .int .u64 (min a1 b1), .int .u64 (min a2 b2), .int .u64 (min a3 b3), .int .u64 (min a4 b4), .int .u64 (min a5 b5)] 24)).drew.drew.drew.drew.drew.drew := by
  go_enter Try.func10, Try.ntmps10
  go_wp2
  refine wp_loop_rounds 7 ?_
  iterate 6 (rw [rounds_succ]; go_wp2; go_region; go_wp2)
  rw [rounds_succ]
  go_wp2
  exact bodyPost_ret (v := .agg #[.int .u64 (min a0 b0), .int .u64 (min a1 b1), .int .u64 (min a2 b2), .int .u64 (min a3 b3), .int .u64 (min a4 b4), .int .u64 (min a5 b5)]) (by simp [results, Try.results10, go_sem]) rfl ⟨rfl, rfl⟩

theorem meet_any (a0 a1 a2 a3 a4 a5 b0 b1 b2 b3 b4 b5 : Int) (w : World) :
    Calls Try.prog 10 #[.agg #[.int .u64 a0, .int .u64 a1, .int .u64 a2, .int .u64 a3, .int .u64 a4, .int .u64 a5], .agg #[.int .u64 b0, .int .u64 b1, .int .u64 b2, .int .u64 b3, .int .u64 b4, .int .u64 b5]] w fun e w' => e = .returned (.agg #[.int .u64 (min a0 b0), .int .u64 (min a1 b1), .int .u64 (min a2 b2), .int .u64 (min a3 b3), .int .u64 (min a4 b4), .int .u64 (min a5 b5)]) ∧ Below w.heap.size w w' := by
  refine (meet_eq a0 a1 a2 a3 a4 a5 b0 b1 b2 b3 b4 b5 w).mono ?_
  rintro e w' ⟨rfl, rfl⟩
  refine ⟨rfl, ?_⟩
  repeat (first | exact Below.refl _ _ | refine Below.drew ?_ | refine below_alloc ?_ (Nat.le_refl _) _)

theorem missing_zero (a0 a1 a2 a3 a4 a5 b0 b1 b2 b3 b4 b5 : Int) (h0 : b0 ≤ a0) (h1 : b1 ≤ a1) (h2 : b2 ≤ a2) (h3 : b3 ≤ a3) (h4 : b4 ≤ a4) (h5 : b5 ≤ a5) (w : World) :
    Calls Try.prog 13 #[.agg #[.int .u64 a0, .int .u64 a1, .int .u64 a2, .int .u64 a3, .int .u64 a4, .int .u64 a5], .agg #[.int .u64 b0, .int .u64 b1, .int .u64 b2, .int .u64 b3, .int .u64 b4, .int .u64 b5]] w fun e w' => e = .returned (.int .u64 0) ∧ Below w.heap.size w w' := by
  go_enter Try.func13, Try.ntmps13
  go_wp2
  refine wp_loop_rounds 7 ?_
  iterate 6 (rw [rounds_succ]; go_wp2; go_region; go_wp2)
  rw [rounds_succ]
  go_wp2
  go_ret
  refine ⟨rfl, ?_⟩
  repeat (first | exact Below.refl _ _ | refine Below.drew ?_ | refine below_alloc ?_ (Nat.le_refl _) _)

theorem missing_12 (w : World) :
    Calls Try.prog 13 #[.agg #[.int .u64 0, .int .u64 0, .int .u64 0, .int .u64 0, .int .u64 0, .int .u64 0], .agg #[.int .u64 1, .int .u64 2, .int .u64 0, .int .u64 0, .int .u64 0, .int .u64 0]] w fun e w' => e = .returned (.int .u64 3) ∧ Below w.heap.size w w' := by
  go_enter Try.func13, Try.ntmps13
  go_wp2
  refine wp_loop_rounds 7 ?_
  iterate 2 (rw [rounds_succ]; go_wp2; go_region; go_wp2; go_region; go_wp2)
  iterate 4 (rw [rounds_succ]; go_wp2; go_region; go_wp2)
  rw [rounds_succ]
  go_wp2
  go_ret
  refine ⟨rfl, ?_⟩
  repeat (first | exact Below.refl _ _ | refine Below.drew ?_ | refine below_alloc ?_ (Nat.le_refl _) _)

theorem great_true (a0 a1 a2 a3 a4 a5 b0 b1 b2 b3 b4 b5 : Int) (h0 : b0 ≤ a0) (h1 : b1 ≤ a1) (h2 : b2 ≤ a2) (h3 : b3 ≤ a3) (h4 : b4 ≤ a4) (h5 : b5 ≤ a5) (w : World) :
    Calls Try.prog 11 #[.agg #[.int .u64 a0, .int .u64 a1, .int .u64 a2, .int .u64 a3, .int .u64 a4, .int .u64 a5], .agg #[.int .u64 b0, .int .u64 b1, .int .u64 b2, .int .u64 b3, .int .u64 b4, .int .u64 b5]] w fun e w' => e = .returned (.bool true) ∧ Below w.heap.size w w' := by
  have h := great_any a0 a1 a2 a3 a4 a5 b0 b1 b2 b3 b4 b5 w
  rw [decide_eq_true (show b0 ≤ a0 ∧ b1 ≤ a1 ∧ b2 ≤ a2 ∧ b3 ≤ a3 ∧ b4 ≤ a4 ∧ b5 ≤ a5 from ⟨h0, h1, h2, h3, h4, h5⟩)] at h
  exact h

theorem awake14 (w : World) : Calls Try.prog 12 #[] w fun e w' => e = .returned (.bool true) ∧ Below w.heap.size w w' := by
  go_enter Try.func12, Try.ntmps12
  go_wp2_with fail
  refine (missing_12 _).mono ?_
  rintro e w1 ⟨rfl, h1⟩
  go_wp2_with fail
  refine (great_true _ _ _ _ _ _ _ _ _ _ _ _ (by omega) (by omega) (by omega) (by omega) (by omega) (by omega) _).mono ?_
  rintro e w2 ⟨rfl, h2⟩
  go_wp2
  go_ret
  exact ⟨rfl, h1.trans (h2.mono h1.size)⟩
end Go.Proofs.Ythkhlkiemldbaaa
