/- The reference: Place, Send. -/
import Derived.Test.YtoeojgdolanggaaP3
namespace Go.Proofs.Ytoeojgdolanggaa
open Go Go.RowKit
set_option maxRecDepth 100000
theorem op_skip {Pg : Program} {ops : Array Oper} {Q' : Exit → Act → World → Prop} {i : Nat} {o : Oper} {a : Act} {w : World} {K : Act → World → Prop} (w' : World) (ho : ops[i]? = some o) (hw : Region.wanted o (yielded ops a.tmps) = true) (hr : (execOp a.eval o).run Pg w = .ok .skip w') (hK : K (a.put o.dst undef) w') : wpOp Pg ops Q' i K a w := by
  unfold wpOp
  simp only [ho, hw, if_true, Oper.wp, hr, Oper.upon]
  exact .inl hK
/-- where the reference looks. -/
def plcR (i : Int) (n : Nat) : Int := if n = 0 then -1 else ((plc i n : Nat) : Int)
attribute [local irreducible] wpList
theorem place_ref (W0 w : World) (r : Nat) (i : Int) (tt : Value) (rs : List Ltr) (h : RefSt W0 w r tt rs) : Calls Try.prog 19 #[.pointer (some ⟨r, 0, none⟩), .int .i64 i] w fun e w' => e = .returned (.int .i64 (plcR i rs.length)) ∧ w = w' := by
  obtain ⟨ta, tc, rfl, _⟩ := h.2.2.1.slice
  have H := Lib.hid h
  clear h
  go_enter Try.func19, Try.ntmps19
  go_upto_region 0 with (fail)
  refine wp_region_lit ?_
  refine wpL_pure (.int .i64 0) rfl (by kernel_rfl) ?_
  simp only [Act.put, List.setIfInBounds_toArray, List.set_cons_zero, List.set_cons_succ]
  by_cases h0 : rs.length = 0
  · have H0 := Lib.hid h0
    clear h0
    go_upto_region 1 with (fail)
    refine wp_region_lit ?_
    refine wpL_pure (.pointer (some ⟨r, 0, none⟩)) rfl (by kernel_rfl) ?_
    simp only [Act.put, List.setIfInBounds_toArray, List.set_cons_zero, List.set_cons_succ]
    refine wpL_pure (.pointer (some ⟨r, 0, none⟩)) rfl (by kernel_rfl) ?_
    simp only [Act.put, List.setIfInBounds_toArray, List.set_cons_zero, List.set_cons_succ]
    refine wpL_pure (.pointer (some ⟨r, 0, none⟩)) rfl (by kernel_rfl) ?_
    simp only [Act.put, List.setIfInBounds_toArray, List.set_cons_zero, List.set_cons_succ]
    refine wpL_pure (.slice ta rs.length tc) rfl (run_load_one _ _ _ 39 _ _ rfl (r) (0) rfl (by rw [H.out.1.cell]; rfl) (by kernel_rfl)) ?_
    simp only [Act.put, List.setIfInBounds_toArray, List.set_cons_zero, List.set_cons_succ]
    refine wpL_pure (.int .i64 (rs.length : Int)) rfl (by kernel_rfl) ?_
    simp only [Act.put, List.setIfInBounds_toArray, List.set_cons_zero, List.set_cons_succ]
    refine wpL_pure (.bool true) rfl (run_eqi Try.underlying3 rfl rfl rfl (by have := H0.out; rw [decide_eq_true_eq]; omega)) ?_
    simp only [Act.put, List.setIfInBounds_toArray, List.set_cons_zero, List.set_cons_succ]
    go_upto_region 2 with (fail)
    refine wp_region_lit ?_
    refine wpL_pure (.int .i64 (-1)) rfl (by kernel_rfl) ?_
    simp only [Act.put, List.setIfInBounds_toArray, List.set_cons_zero, List.set_cons_succ]
    go_wp2_with fail
    go_ret
    exact ⟨congrArg Ending.returned (show Value.int .i64 (-1) = _ by rw [plcR, if_pos H0.out]), rfl⟩
  · have H0 := Lib.hid h0
    clear h0
    go_upto_region 1 with (fail)
    refine wp_region_lit ?_
    refine wpL_pure (.pointer (some ⟨r, 0, none⟩)) rfl (by kernel_rfl) ?_
    simp only [Act.put, List.setIfInBounds_toArray, List.set_cons_zero, List.set_cons_succ]
    refine wpL_pure (.pointer (some ⟨r, 0, none⟩)) rfl (by kernel_rfl) ?_
    simp only [Act.put, List.setIfInBounds_toArray, List.set_cons_zero, List.set_cons_succ]
    refine wpL_pure (.pointer (some ⟨r, 0, none⟩)) rfl (by kernel_rfl) ?_
    simp only [Act.put, List.setIfInBounds_toArray, List.set_cons_zero, List.set_cons_succ]
    refine wpL_pure (.slice ta rs.length tc) rfl (run_load_one _ _ _ 39 _ _ rfl (r) (0) rfl (by rw [H.out.1.cell]; rfl) (by kernel_rfl)) ?_
    simp only [Act.put, List.setIfInBounds_toArray, List.set_cons_zero, List.set_cons_succ]
    refine wpL_pure (.int .i64 (rs.length : Int)) rfl (by kernel_rfl) ?_
    simp only [Act.put, List.setIfInBounds_toArray, List.set_cons_zero, List.set_cons_succ]
    refine wpL_pure (.bool false) rfl (run_eqi Try.underlying3 rfl rfl rfl (by have := H0.out; rw [decide_eq_false_iff_not]; omega)) ?_
    simp only [Act.put, List.setIfInBounds_toArray, List.set_cons_zero, List.set_cons_succ]
    by_cases h1 : i < 0
    · have H1 := Lib.hid h1
      clear h1
      go_upto_region 3 with (fail)
      refine wp_region_lit ?_
      refine wpL_pure (.int .i64 i) rfl (by kernel_rfl) ?_
      simp only [Act.put, List.setIfInBounds_toArray, List.set_cons_zero, List.set_cons_succ]
      refine wpL_pure (.bool true) rfl (run_lti Try.underlying3 rfl rfl rfl (by have := H1.out; rw [decide_eq_true_eq]; omega)) ?_
      simp only [Act.put, List.setIfInBounds_toArray, List.set_cons_zero, List.set_cons_succ]
      go_upto_region 4 with (fail)
      refine wp_region_lit ?_
      refine wpL_pure (.int .i64 0) rfl (by kernel_rfl) ?_
      simp only [Act.put, List.setIfInBounds_toArray, List.set_cons_zero, List.set_cons_succ]
      go_wp2_with fail
      go_ret
      exact ⟨congrArg Ending.returned (show Value.int .i64 0 = _ by have := H1.out; rw [plcR, if_neg H0.out, plc, Int.toNat_of_nonpos (by omega), Nat.zero_mod]; rfl), rfl⟩
    · have H1 := Lib.hid h1
      clear h1
      go_upto_region 3 with (fail)
      refine wp_region_lit ?_
      refine wpL_pure (.int .i64 i) rfl (by kernel_rfl) ?_
      simp only [Act.put, List.setIfInBounds_toArray, List.set_cons_zero, List.set_cons_succ]
      refine wpL_pure (.bool false) rfl (run_lti Try.underlying3 rfl rfl rfl (by have := H1.out; rw [decide_eq_false_iff_not]; omega)) ?_
      simp only [Act.put, List.setIfInBounds_toArray, List.set_cons_zero, List.set_cons_succ]
      obtain ⟨k, rfl⟩ : ∃ k : Nat, i = (k : Int) := ⟨i.toNat, by have := H1.out; omega⟩
      go_upto_region 5 with (fail)
      refine wp_region_lit ?_
      refine wpL_pure (.int .i64 (k : Int)) rfl (by kernel_rfl) ?_
      simp only [Act.put, List.setIfInBounds_toArray, List.set_cons_zero, List.set_cons_succ]
      refine wpL_pure (.pointer (some ⟨r, 0, none⟩)) rfl (by kernel_rfl) ?_
      simp only [Act.put, List.setIfInBounds_toArray, List.set_cons_zero, List.set_cons_succ]
      refine wpL_pure (.pointer (some ⟨r, 0, none⟩)) rfl (by kernel_rfl) ?_
      simp only [Act.put, List.setIfInBounds_toArray, List.set_cons_zero, List.set_cons_succ]
      refine wpL_pure (.pointer (some ⟨r, 0, none⟩)) rfl (by kernel_rfl) ?_
      simp only [Act.put, List.setIfInBounds_toArray, List.set_cons_zero, List.set_cons_succ]
      refine wpL_pure (.slice ta rs.length tc) rfl (run_load_one _ _ _ 39 _ _ rfl (r) (0) rfl (by rw [H.out.1.cell]; rfl) (by kernel_rfl)) ?_
      simp only [Act.put, List.setIfInBounds_toArray, List.set_cons_zero, List.set_cons_succ]
      refine wpL_pure (.int .i64 (rs.length : Int)) rfl (by kernel_rfl) ?_
      simp only [Act.put, List.setIfInBounds_toArray, List.set_cons_zero, List.set_cons_succ]
      refine wpL_pure (.int .i64 ((k % rs.length : Nat) : Int)) rfl (run_remn _ _ _ _ _ k rs.length rfl rfl rfl (by have := H0.out; omega)) ?_
      simp only [Act.put, List.setIfInBounds_toArray, List.set_cons_zero, List.set_cons_succ]
      refine wpL_pure (.int .i64 ((k % rs.length : Nat) : Int)) rfl (by kernel_rfl) ?_
      simp only [Act.put, List.setIfInBounds_toArray, List.set_cons_zero, List.set_cons_succ]
      go_wp2_with fail
      go_ret
      exact ⟨congrArg Ending.returned (show Value.int .i64 ((k % rs.length : Nat) : Int) = _ by rw [plcR, if_neg H0.out, plc, Int.toNat_natCast]), rfl⟩

def RSend (W0 w : World) (r : Nat) (tt : Value) (rs : List Ltr) (f t : Int) (v : Value) (n : Nat) (xs : List Int) (e : Ending) (w' : World) : Prop :=
  ((rs.length < 200 ∧ n ≤ 16384) ∧ e = .returned (.bool true) ∧ ∃ t', RefSt W0 w' r t' (rs ++ [(⟨f, t, v, xs⟩ : Ltr)]) ∧ FrN w w' r tt t') ∨
  (¬ (rs.length < 200 ∧ n ≤ 16384) ∧ e = .returned (.bool false) ∧ RefSt W0 w' r tt rs ∧ Below w.heap.size w w')
set_option maxHeartbeats 4000000 in
theorem send_ref (W0 w : World) (r : Nat) (f t : Int) (a : Option Addr) (n c : Nat) (xs : List Int) (tt : Value) (rs : List Ltr) (h : RefSt W0 w r tt rs) (hr : Row W0 a n xs ∧ (a = none → c = 0)) :
    Calls Try.prog 21 #[.pointer (some ⟨r, 0, none⟩), .agg #[.int .i64 f, .int .i64 t, .slice a n c]] w (RSend W0 w r tt rs f t (.slice a n c) n xs) := by
  obtain ⟨ta, tc, rfl, _⟩ := h.2.2.1.slice
  obtain ⟨w1, hw1⟩ : ∃ V, V = w.alloc (.cells #[.int .i64 f, .int .i64 t, .slice a n c] 43) := ⟨_, rfl⟩
  obtain ⟨g1, hg1⟩ : ∃ q, w.heap.size = q := ⟨_, rfl⟩
  have F1 : Hid (RefSt W0 w1 r (.slice ta rs.length tc) rs ∧ Below w.heap.size w w1 ∧ Blk w1 g1 43 #[.int .i64 f, .int .i64 t, .slice a n c] ∧ ∀ g, Value.ownBlock (.slice ta rs.length tc) = some g → g ≠ g1) := Lib.hid (by
    have hb : Below w.heap.size w w1 := by rw [hw1]; exact (Below.refl _ _).alloc (Nat.le_refl _) _
    exact ⟨h.below hb, hb, by rw [hw1, ← hg1]; exact Blk.new _ _ _, fun g hg => by have := (h.2.2.1.lt g hg).2; omega⟩)
  have HR := Lib.hid hr
  clear h hr
  show Calls Try.prog 21 #[.pointer (some ⟨r, 0, none⟩), .agg #[.int .i64 f, .int .i64 t, .slice a n c]] w fun e w' => RSend W0 w r (.slice ta rs.length tc) rs f t (.slice a n c) n xs e w'
  go_enter Try.func21, Try.ntmps21
  go_upto_region 0 with (fail)
  refine wp_region_lit ?_
  refine wpL_value (.pointer (some ⟨g1, 0, none⟩)) (w1) rfl (by rw [hw1, ← hg1]; kernel_rfl) ?_
  simp only [Act.put, List.setIfInBounds_toArray, List.set_cons_zero, List.set_cons_succ]
  refine wpL_pure (.bool false) rfl (by kernel_rfl) ?_
  simp only [Act.put, List.setIfInBounds_toArray, List.set_cons_zero, List.set_cons_succ]
  clear hw1 hg1
  by_cases h0 : 200 ≤ rs.length
  · have H0 := Lib.hid h0
    clear h0
    go_upto_region 1 with (fail)
    refine wp_region_lit ?_
    refine wpL_pure (.pointer (some ⟨r, 0, none⟩)) rfl (by kernel_rfl) ?_
    simp only [Act.put, List.setIfInBounds_toArray, List.set_cons_zero, List.set_cons_succ]
    refine wpL_pure (.pointer (some ⟨r, 0, none⟩)) rfl (by kernel_rfl) ?_
    simp only [Act.put, List.setIfInBounds_toArray, List.set_cons_zero, List.set_cons_succ]
    refine wpL_pure (.pointer (some ⟨r, 0, none⟩)) rfl (by kernel_rfl) ?_
    simp only [Act.put, List.setIfInBounds_toArray, List.set_cons_zero, List.set_cons_succ]
    refine wpL_pure (.slice ta rs.length tc) rfl (run_load_one _ _ _ 39 _ _ rfl (r) (0) rfl (by rw [F1.out.1.1.cell]; rfl) (by kernel_rfl)) ?_
    simp only [Act.put, List.setIfInBounds_toArray, List.set_cons_zero, List.set_cons_succ]
    refine wpL_pure (.int .i64 (rs.length : Int)) rfl (by kernel_rfl) ?_
    simp only [Act.put, List.setIfInBounds_toArray, List.set_cons_zero, List.set_cons_succ]
    refine wpL_pure (.bool true) rfl (run_gei Try.underlying3 rfl rfl rfl (by have := H0.out; rw [decide_eq_true_eq]; omega)) ?_
    simp only [Act.put, List.setIfInBounds_toArray, List.set_cons_zero, List.set_cons_succ]
    refine wpL_pure (.bool true) rfl (by kernel_rfl) ?_
    simp only [Act.put, List.setIfInBounds_toArray, List.set_cons_zero, List.set_cons_succ]
    refine wpL_skip (by kernel_rfl) ?_
    simp only [Act.put, List.setIfInBounds_toArray, List.set_cons_zero, List.set_cons_succ]
    refine wpL_skip (by kernel_rfl) ?_
    simp only [Act.put, List.setIfInBounds_toArray, List.set_cons_zero, List.set_cons_succ]
    refine wpL_skip (by kernel_rfl) ?_
    simp only [Act.put, List.setIfInBounds_toArray, List.set_cons_zero, List.set_cons_succ]
    refine wpL_skip (by kernel_rfl) ?_
    simp only [Act.put, List.setIfInBounds_toArray, List.set_cons_zero, List.set_cons_succ]
    refine wpL_pure (.bool true) rfl (by kernel_rfl) ?_
    simp only [Act.put, List.setIfInBounds_toArray, List.set_cons_zero, List.set_cons_succ]
    go_upto_region 2 with (fail)
    refine wp_region_lit ?_
    refine wpL_pure (.bool false) rfl (by kernel_rfl) ?_
    simp only [Act.put, List.setIfInBounds_toArray, List.set_cons_zero, List.set_cons_succ]
    go_wp2_with fail
    go_ret
    exact .inr ⟨fun q => by have := H0.out; omega, rfl, F1.out.1, F1.out.2.1⟩
  · have H0 := Lib.hid h0
    clear h0
    by_cases h1 : 16384 < n
    · have H1 := Lib.hid h1
      clear h1
      go_upto_region 1 with (fail)
      refine wp_region_lit ?_
      refine wpL_pure (.pointer (some ⟨r, 0, none⟩)) rfl (by kernel_rfl) ?_
      simp only [Act.put, List.setIfInBounds_toArray, List.set_cons_zero, List.set_cons_succ]
      refine wpL_pure (.pointer (some ⟨r, 0, none⟩)) rfl (by kernel_rfl) ?_
      simp only [Act.put, List.setIfInBounds_toArray, List.set_cons_zero, List.set_cons_succ]
      refine wpL_pure (.pointer (some ⟨r, 0, none⟩)) rfl (by kernel_rfl) ?_
      simp only [Act.put, List.setIfInBounds_toArray, List.set_cons_zero, List.set_cons_succ]
      refine wpL_pure (.slice ta rs.length tc) rfl (run_load_one _ _ _ 39 _ _ rfl (r) (0) rfl (by rw [F1.out.1.1.cell]; rfl) (by kernel_rfl)) ?_
      simp only [Act.put, List.setIfInBounds_toArray, List.set_cons_zero, List.set_cons_succ]
      refine wpL_pure (.int .i64 (rs.length : Int)) rfl (by kernel_rfl) ?_
      simp only [Act.put, List.setIfInBounds_toArray, List.set_cons_zero, List.set_cons_succ]
      refine wpL_pure (.bool false) rfl (run_gei Try.underlying3 rfl rfl rfl (by have := H0.out; rw [decide_eq_false_iff_not]; omega)) ?_
      simp only [Act.put, List.setIfInBounds_toArray, List.set_cons_zero, List.set_cons_succ]
      refine wpL_pure (.bool false) rfl (by kernel_rfl) ?_
      simp only [Act.put, List.setIfInBounds_toArray, List.set_cons_zero, List.set_cons_succ]
      refine wpL_pure (.pointer (some ⟨g1, 2, none⟩)) rfl (by kernel_rfl) ?_
      simp only [Act.put, List.setIfInBounds_toArray, List.set_cons_zero, List.set_cons_succ]
      refine wpL_pure (.slice a n c) rfl (run_load_one _ _ _ 30 _ _ rfl (g1) (2) rfl (by rw [F1.out.2.2.1.cell]; rfl) (by kernel_rfl)) ?_
      simp only [Act.put, List.setIfInBounds_toArray, List.set_cons_zero, List.set_cons_succ]
      refine wpL_pure (.int .i64 (n : Int)) rfl (by kernel_rfl) ?_
      simp only [Act.put, List.setIfInBounds_toArray, List.set_cons_zero, List.set_cons_succ]
      refine wpL_pure (.bool true) rfl (run_gti Try.underlying3 rfl rfl rfl (by have := H1.out; rw [decide_eq_true_eq]; omega)) ?_
      simp only [Act.put, List.setIfInBounds_toArray, List.set_cons_zero, List.set_cons_succ]
      refine wpL_pure (.bool true) rfl (by kernel_rfl) ?_
      simp only [Act.put, List.setIfInBounds_toArray, List.set_cons_zero, List.set_cons_succ]
      go_upto_region 2 with (fail)
      refine wp_region_lit ?_
      refine wpL_pure (.bool false) rfl (by kernel_rfl) ?_
      simp only [Act.put, List.setIfInBounds_toArray, List.set_cons_zero, List.set_cons_succ]
      go_wp2_with fail
      go_ret
      exact .inr ⟨fun q => by have := H1.out; omega, rfl, F1.out.1, F1.out.2.1⟩
    · have H1 := Lib.hid h1
      clear h1
      go_upto_region 1 with (fail)
      refine wp_region_lit ?_
      refine wpL_pure (.pointer (some ⟨r, 0, none⟩)) rfl (by kernel_rfl) ?_
      simp only [Act.put, List.setIfInBounds_toArray, List.set_cons_zero, List.set_cons_succ]
      refine wpL_pure (.pointer (some ⟨r, 0, none⟩)) rfl (by kernel_rfl) ?_
      simp only [Act.put, List.setIfInBounds_toArray, List.set_cons_zero, List.set_cons_succ]
      refine wpL_pure (.pointer (some ⟨r, 0, none⟩)) rfl (by kernel_rfl) ?_
      simp only [Act.put, List.setIfInBounds_toArray, List.set_cons_zero, List.set_cons_succ]
      refine wpL_pure (.slice ta rs.length tc) rfl (run_load_one _ _ _ 39 _ _ rfl (r) (0) rfl (by rw [F1.out.1.1.cell]; rfl) (by kernel_rfl)) ?_
      simp only [Act.put, List.setIfInBounds_toArray, List.set_cons_zero, List.set_cons_succ]
      refine wpL_pure (.int .i64 (rs.length : Int)) rfl (by kernel_rfl) ?_
      simp only [Act.put, List.setIfInBounds_toArray, List.set_cons_zero, List.set_cons_succ]
      refine wpL_pure (.bool false) rfl (run_gei Try.underlying3 rfl rfl rfl (by have := H0.out; rw [decide_eq_false_iff_not]; omega)) ?_
      simp only [Act.put, List.setIfInBounds_toArray, List.set_cons_zero, List.set_cons_succ]
      refine wpL_pure (.bool false) rfl (by kernel_rfl) ?_
      simp only [Act.put, List.setIfInBounds_toArray, List.set_cons_zero, List.set_cons_succ]
      refine wpL_pure (.pointer (some ⟨g1, 2, none⟩)) rfl (by kernel_rfl) ?_
      simp only [Act.put, List.setIfInBounds_toArray, List.set_cons_zero, List.set_cons_succ]
      refine wpL_pure (.slice a n c) rfl (run_load_one _ _ _ 30 _ _ rfl (g1) (2) rfl (by rw [F1.out.2.2.1.cell]; rfl) (by kernel_rfl)) ?_
      simp only [Act.put, List.setIfInBounds_toArray, List.set_cons_zero, List.set_cons_succ]
      refine wpL_pure (.int .i64 (n : Int)) rfl (by kernel_rfl) ?_
      simp only [Act.put, List.setIfInBounds_toArray, List.set_cons_zero, List.set_cons_succ]
      refine wpL_pure (.bool false) rfl (run_gti Try.underlying3 rfl rfl rfl (by have := H1.out; rw [decide_eq_false_iff_not]; omega)) ?_
      simp only [Act.put, List.setIfInBounds_toArray, List.set_cons_zero, List.set_cons_succ]
      refine wpL_pure (.bool false) rfl (by kernel_rfl) ?_
      simp only [Act.put, List.setIfInBounds_toArray, List.set_cons_zero, List.set_cons_succ]
      go_upto_region 3 with (fail)
      refine region_anyT (fun X => X.cell? ⟨r, 0, none⟩ = some (.slice ta rs.length tc) ∧ Blk X g1 43 #[.int .i64 f, .int .i64 t, .slice a n c]) (by kernel_rfl) 8 11 rfl ?_
      refine wpAnyT_take (i := 0) (oi := ⟨some 17, _, _, _, _, _⟩) (v := .pointer (some ⟨r, 0, none⟩)) rfl (by kernel_rfl) (by kernel_rfl) (by kernel_rfl) (fun _ _ _ h => h) (by kernel_rfl) (Or.inl ⟨rfl, fun w h => by kernel_rfl⟩) (⟨(by rw [F1.out.1.1.cell]; rfl : w1.cell? ⟨r, 0, none⟩ = _), F1.out.2.2.1⟩) ?_
      simp only [Act.put, List.setIfInBounds_toArray, List.set_cons_zero, List.set_cons_succ]
      refine wpAnyT_take (i := 1) (oi := ⟨some 18, _, _, _, _, _⟩) (v := .pointer (some ⟨r, 0, none⟩)) rfl (by kernel_rfl) (by kernel_rfl) (by kernel_rfl) (fun _ _ _ h => h) (by kernel_rfl) (Or.inl ⟨rfl, fun w h => by kernel_rfl⟩) (⟨(by rw [F1.out.1.1.cell]; rfl : w1.cell? ⟨r, 0, none⟩ = _), F1.out.2.2.1⟩) ?_
      simp only [Act.put, List.setIfInBounds_toArray, List.set_cons_zero, List.set_cons_succ]
      refine wpAnyT_take (i := 2) (oi := ⟨some 19, _, _, _, _, _⟩) (v := .pointer (some ⟨r, 0, none⟩)) rfl (by kernel_rfl) (by kernel_rfl) (by kernel_rfl) (fun _ _ _ h => h) (by kernel_rfl) (Or.inl ⟨rfl, fun w h => by kernel_rfl⟩) (⟨(by rw [F1.out.1.1.cell]; rfl : w1.cell? ⟨r, 0, none⟩ = _), F1.out.2.2.1⟩) ?_
      simp only [Act.put, List.setIfInBounds_toArray, List.set_cons_zero, List.set_cons_succ]
      refine wpAnyT_take (i := 3) (oi := ⟨some 20, _, _, _, _, _⟩) (v := .pointer (some ⟨r, 0, none⟩)) rfl (by kernel_rfl) (by kernel_rfl) (by kernel_rfl) (fun _ _ _ h => h) (by kernel_rfl) (Or.inl ⟨rfl, fun w h => by kernel_rfl⟩) (⟨(by rw [F1.out.1.1.cell]; rfl : w1.cell? ⟨r, 0, none⟩ = _), F1.out.2.2.1⟩) ?_
      simp only [Act.put, List.setIfInBounds_toArray, List.set_cons_zero, List.set_cons_succ]
      refine wpAnyT_take (i := 4) (oi := ⟨some 21, _, _, _, _, _⟩) (v := .slice ta rs.length tc) rfl (by kernel_rfl) (by kernel_rfl) (by kernel_rfl) (fun _ _ _ h => h) (by kernel_rfl) (Or.inl ⟨rfl, fun w h => run_load_one _ _ _ 39 _ _ rfl (r) (0) rfl (h.1) (by kernel_rfl)⟩) (⟨(by rw [F1.out.1.1.cell]; rfl : w1.cell? ⟨r, 0, none⟩ = _), F1.out.2.2.1⟩) ?_
      simp only [Act.put, List.setIfInBounds_toArray, List.set_cons_zero, List.set_cons_succ]
      refine wpAnyT_take (i := 5) (oi := ⟨some 22, _, _, _, _, _⟩) (v := .agg #[.int .i64 f, .int .i64 t, .slice a n c]) rfl (by kernel_rfl) (by kernel_rfl) (by kernel_rfl) (fun _ _ _ h => h) (by kernel_rfl) (Or.inl ⟨rfl, fun w h => run_load_mid _ _ _ 43 _ rfl g1 0 rfl [.int .i64 f, .int .i64 t, .slice a n c] _ (range_blk (t := 43) h.2) Try.underlying43 rfl (by kernel_rfl)⟩) (⟨(by rw [F1.out.1.1.cell]; rfl : w1.cell? ⟨r, 0, none⟩ = _), F1.out.2.2.1⟩) ?_
      simp only [Act.put, List.setIfInBounds_toArray, List.set_cons_zero, List.set_cons_succ]
      refine wpAnyT_one (i := 6) (by kernel_rfl) ?_
      obtain ⟨W2, hW2⟩ : ∃ V, V = w1.drew.alloc (.cells #[.int .i64 f, .int .i64 t, .slice a n c] 43) := ⟨_, rfl⟩
      obtain ⟨g2, hg2⟩ : ∃ q, w1.drew.heap.size = q := ⟨_, rfl⟩
      have A0 : Below w1.heap.size w1 W2 := by rw [hW2]; exact ((Below.refl _ _).drew).alloc (Nat.le_refl _) _
      have F2 : Hid (RefSt W0 W2 r (.slice ta rs.length tc) rs ∧ Below w.heap.size w W2 ∧ Blk W2 g1 43 #[.int .i64 f, .int .i64 t, .slice a n c] ∧ Blk W2 g2 43 #[.int .i64 f, .int .i64 t, .slice a n c]) := Lib.hid ⟨F1.out.1.below A0, F1.out.2.1.trans (A0.mono F1.out.2.1.size), F1.out.2.2.1.below A0, by rw [hW2, ← hg2]; exact Blk.new _ _ _⟩
      clear A0
      refine op_valw (o := ⟨some 23, _, _, _, _, _⟩) (.slice (some ⟨g2, 0, none⟩) 1 1) W2 rfl rfl (by rw [hW2, ← hg2]; kernel_rfl) ?_
      refine ⟨fun _ => ⟨by rw [F2.out.1.1.cell]; rfl, F2.out.2.2.1⟩, ?_⟩
      simp only [Act.put, List.setIfInBounds_toArray, List.set_cons_zero, List.set_cons_succ]
      clear hW2 hg2
      refine wpAnyT_one (i := 7) (by kernel_rfl) ?_
      obtain ⟨v', W3, r1, r2, r3, r4, r5⟩ := append_ltr W2 W0.heap.size (.slice ta rs.length tc) rs.length (flat rs) ⟨g2, 0, none⟩ 1 1 [.int .i64 f, .int .i64 t, .slice a n c] F2.out.1.2.2.1 rfl (fun j u hu => by rw [Addr.add_lit, Nat.zero_add, F2.out.2.2.2.cell]; simpa using hu) (by intro v hv; simp at hv; rcases hv with rfl | rfl | rfl <;> rfl) (by have := H0.out; omega) (Nat.le_trans F2.out.1.2.1 (Nat.le_of_lt F2.out.1.1.lt))
      have R1 := Lib.hid r1
      have ONE : v'.oneCell' = true := by obtain ⟨a, c, e, _⟩ := r2.slice; rw [e]; rfl
      have F3 : Hid (Blk W3 r 41 #[.slice ta rs.length tc] ∧ LRow W3 W0.heap.size v' (rs ++ [(⟨f, t, .slice a n c, xs⟩ : Ltr)]).length (flat (rs ++ [(⟨f, t, .slice a n c, xs⟩ : Ltr)])) ∧ FrN w W3 r (.slice ta rs.length tc) v' ∧ Blk W3 g1 43 #[.int .i64 f, .int .i64 t, .slice a n c]) := Lib.hid ⟨F2.out.1.1.grown r3 (fun e => row_ne F2.out.1.2.2.1 F2.out.1.1 (by decide) e.symm), by rw [flat_append, List.length_append]; exact r2, FrN.grown F2.out.2.1 r3 r4, F2.out.2.2.1.grown r3 (fun e => F1.out.2.2.2 _ e.symm rfl)⟩
      clear r1 r2 r3 r4 r5
      refine op_valw (o := ⟨some 24, _, _, _, _, _⟩) (v') W3 rfl rfl (run_appl _ _ W2 W3 _ _ _ _ v' rfl rfl rfl rfl R1.out) ?_
      refine ⟨fun _ => ⟨by rw [F3.out.1.cell]; rfl, F3.out.2.2.2⟩, ?_⟩
      simp only [Act.put, List.setIfInBounds_toArray, List.set_cons_zero, List.set_cons_succ]
      refine wpAnyT_tail _ _ _ _ (headB_spec (by kernel_rfl)) ?_
      refine wpAny_of_idx [8, 9, 10] [⟨some 25, _, _, _, _, _⟩, ⟨some 26, _, _, _, _, _⟩, ⟨none, _, _, _, _, _⟩] _ _ _ (by rfl) (by kernel_rfl) ?_
      refine wpL_pure (.pointer (some ⟨r, 0, none⟩)) rfl (by kernel_rfl) ?_
      simp only [Act.put, List.setIfInBounds_toArray, List.set_cons_zero, List.set_cons_succ]
      refine wpL_pure (.pointer (some ⟨r, 0, none⟩)) rfl (by kernel_rfl) ?_
      simp only [Act.put, List.setIfInBounds_toArray, List.set_cons_zero, List.set_cons_succ]
      refine wpL_store_one rfl rfl (r) (0) rfl (v') rfl ONE size39 (by rw [F3.out.1.cell]; rfl) (F3.out.1.free _) ?_
      simp only [Act.put, List.setIfInBounds_toArray, List.set_cons_zero, List.set_cons_succ]
      unfold wpList
      go_upto_region 4 with (fail)
      refine wp_region_lit ?_
      refine wpL_pure (.bool true) rfl (by kernel_rfl) ?_
      simp only [Act.put, List.setIfInBounds_toArray, List.set_cons_zero, List.set_cons_succ]
      go_wp2_with fail
      go_ret
      exact .inl ⟨⟨by have := H0.out; omega, by have := H1.out; omega⟩, rfl, v', ⟨Blk.set (l := [.slice ta rs.length tc]) F3.out.1 0 v', F1.out.1.2.1, F3.out.2.1.other _ _ (row_ne F3.out.2.1 F3.out.1 (by decide)), fun l hl => (List.mem_append.1 hl).elim (F1.out.1.2.2.2 l) (fun hl => (by have e : l = (⟨f, t, .slice a n c, xs⟩ : Ltr) := (by simpa using hl); subst e; exact ⟨⟨a, n, c, rfl, HR.out⟩, by rw [HR.out.1.1]; have := H1.out; omega⟩))⟩, F3.out.2.2.1.set (o := 0) _⟩

end Go.Proofs.Ytoeojgdolanggaa
