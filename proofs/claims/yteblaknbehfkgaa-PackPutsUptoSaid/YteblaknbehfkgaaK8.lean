import Derived.Test.YteblaknbehfkgaaWalkPackNumbers
namespace Go.Proofs.Yteblaknbehfkgaa
open Go Go.RowKit

set_option maxHeartbeats 1000000 in
/-- (i *In) cut. -/
theorem cut_any (w : World) (b m : Nat) (xs : List Int) (h : InSt w b xs false) (hm : m ≤ xs.length) (hbig : m ≤ 140737488355328) :
    Calls Try.prog 32 #[.pointer (some ⟨b, 0, none⟩), .int .i64 (m : Int)] w fun e w' => ∃ v, e = .returned v ∧ Own w' w.heap.size v (xs.take m) ∧ InSt w' b (xs.drop m) false ∧ w.grownBy w' (some b) := by
  obtain ⟨a, n, c, hB, hL⟩ := h
  obtain rfl : xs.length = n := hL.1.1
  have HB := Lib.hid hB
  have HR := Lib.hid hL
  have HM := Lib.hid hm
  have BL := Lib.hid hB.lt
  have CL := Lib.hid (clone_any w a m c (xs.take m) (row_pre hL.1 m hm) hbig hL.2.2.2.1)
  clear hB hL hm hbig
  generalize hn : xs.length = n at *
  clear hn
  go_enter Try.func32, Try.ntmps32
  go_upto_region 1 with (fail)
  refine wp_region_lit ?_
  refine wpL_pure (.pointer (some ⟨b, 0, none⟩)) rfl (by kernel_rfl) ?_
  simp only [Act.put, List.setIfInBounds_toArray, List.set_cons_zero, List.set_cons_succ]
  refine wpL_pure (.pointer (some ⟨b, 0, none⟩)) rfl (by kernel_rfl) ?_
  simp only [Act.put, List.setIfInBounds_toArray, List.set_cons_zero, List.set_cons_succ]
  refine wpL_pure (.pointer (some ⟨b, 0, none⟩)) rfl (by kernel_rfl) ?_
  simp only [Act.put, List.setIfInBounds_toArray, List.set_cons_zero, List.set_cons_succ]
  refine wpL_pure (.slice a n c) rfl (run_load_one _ _ _ 25 _ _ rfl b 0 rfl (by rw [HB.out.cell]; rfl) (by kernel_rfl)) ?_
  simp only [Act.put, List.setIfInBounds_toArray, List.set_cons_zero, List.set_cons_succ]
  refine wpL_pure (.int .i64 (m : Int)) rfl (by kernel_rfl) ?_
  simp only [Act.put, List.setIfInBounds_toArray, List.set_cons_zero, List.set_cons_succ]
  refine wpL_pure (.slice a m c) rfl (run_sliceto _ _ _ _ _ a n c m rfl rfl rfl HM.out HR.out.2.1 (lt63 HR.out)) ?_
  simp only [Act.put, List.setIfInBounds_toArray, List.set_cons_zero, List.set_cons_succ]
  refine wpL_call 26 #[.slice a m c] rfl (by kernel_rfl) ((CL.out).mono fun e w1 ⟨v, he, q1, q2, q3⟩ => ⟨v, he, ?_⟩)
  simp only [Act.put, List.setIfInBounds_toArray, List.set_cons_zero, List.set_cons_succ]
  have HB1 : Hid (Blk w1 b 58 #[.slice a n c, .bool false] ∧ Lft w1 b xs a n c) := Lib.hid ⟨HB.out.below q2, HR.out.1.keep q2, HR.out.2⟩
  have Q := Lib.hid (And.intro q1 (And.intro q2 (Nat.lt_of_lt_of_le HB.out.lt q2.size)))
  have OB := Lib.hid (fun k hk => (q1.lt k hk).1)
  clear q1 q2 q3 CL HB HR
  refine wpL_pure (v) rfl (by kernel_rfl) ?_
  simp only [Act.put, List.setIfInBounds_toArray, List.set_cons_zero, List.set_cons_succ]
  go_upto_region 2 with (fail)
  refine wp_region_lit ?_
  refine wpL_pure (.pointer (some ⟨b, 0, none⟩)) rfl (by kernel_rfl) ?_
  simp only [Act.put, List.setIfInBounds_toArray, List.set_cons_zero, List.set_cons_succ]
  refine wpL_pure (.pointer (some ⟨b, 0, none⟩)) rfl (by kernel_rfl) ?_
  simp only [Act.put, List.setIfInBounds_toArray, List.set_cons_zero, List.set_cons_succ]
  refine wpL_pure (.pointer (some ⟨b, 0, none⟩)) rfl (by kernel_rfl) ?_
  simp only [Act.put, List.setIfInBounds_toArray, List.set_cons_zero, List.set_cons_succ]
  refine wpL_pure (.pointer (some ⟨b, 0, none⟩)) rfl (by kernel_rfl) ?_
  simp only [Act.put, List.setIfInBounds_toArray, List.set_cons_zero, List.set_cons_succ]
  refine wpL_pure (.slice a n c) rfl (run_load_one _ _ _ 25 _ _ rfl b 0 rfl (by rw [HB1.out.1.cell]; rfl) (by kernel_rfl)) ?_
  simp only [Act.put, List.setIfInBounds_toArray, List.set_cons_zero, List.set_cons_succ]
  refine wpL_pure (.int .i64 (m : Int)) rfl (by kernel_rfl) ?_
  simp only [Act.put, List.setIfInBounds_toArray, List.set_cons_zero, List.set_cons_succ]
  refine wpL_pure (.slice (dropA a c m) (n - m) (c - m)) rfl (run_slicep _ _ _ _ _ a n c m _ rfl rfl rfl HM.out HB1.out.2.2.1 (lt63 HB1.out.2) rfl) ?_
  simp only [Act.put, List.setIfInBounds_toArray, List.set_cons_zero, List.set_cons_succ]
  refine wpL_pure (.pointer (some ⟨b, 0, none⟩)) rfl (by kernel_rfl) ?_
  simp only [Act.put, List.setIfInBounds_toArray, List.set_cons_zero, List.set_cons_succ]
  refine wpL_pure (.pointer (some ⟨b, 0, none⟩)) rfl (by kernel_rfl) ?_
  simp only [Act.put, List.setIfInBounds_toArray, List.set_cons_zero, List.set_cons_succ]
  refine wpL_store_one rfl rfl (b) (0) rfl (.slice (dropA a c m) (n - m) (c - m)) rfl rfl size25 (by rw [HB1.out.1.cell]; rfl) (HB1.out.1.free _) ?_
  simp only [Act.put, List.setIfInBounds_toArray, List.set_cons_zero, List.set_cons_succ]
  have NE : Hid (v.ownBlock ≠ some b) := Lib.hid (fun e => by have := OB.out b e; have := BL.out; omega)
  go_wp2_with fail
  go_ret
  exact ⟨v, rfl, Q.out.1.other _ _ NE.out, in_drop HB1.out.1 HB1.out.2 m HM.out, gb_set (gb_of Q.out.2.1 _) _ _⟩
set_option maxHeartbeats 1000000 in
/-- (i *In) Raw, where there are as many bytes. -/
theorem iraw_any (w : World) (b m : Nat) (xs : List Int) (h : InSt w b xs false) (hm : m ≤ xs.length) (hbig : m ≤ 140737488355328) :
    Calls Try.prog 21 #[.pointer (some ⟨b, 0, none⟩), .int .i64 (m : Int)] w fun e w' => ∃ v, e = .returned v ∧ Own w' w.heap.size v (xs.take m) ∧ InSt w' b (xs.drop m) false ∧ w.grownBy w' (some b) := by
  have CU := Lib.hid (cut_any w b m xs h hm hbig)
  obtain ⟨a, n, c, hB, hL⟩ := h
  obtain rfl : xs.length = n := hL.1.1
  have HB := Lib.hid hB
  have HM := Lib.hid hm
  clear hB hL hm hbig
  generalize hn : xs.length = n at *
  clear hn
  go_enter Try.func21, Try.ntmps21
  go_upto_region 1 with (fail)
  refine wp_region_lit ?_
  refine wpL_pure (.pointer (some ⟨b, 0, none⟩)) rfl (by kernel_rfl) ?_
  simp only [Act.put, List.setIfInBounds_toArray, List.set_cons_zero, List.set_cons_succ]
  refine wpL_pure (.pointer (some ⟨b, 0, none⟩)) rfl (by kernel_rfl) ?_
  simp only [Act.put, List.setIfInBounds_toArray, List.set_cons_zero, List.set_cons_succ]
  refine wpL_pure (.pointer (some ⟨b, 1, none⟩)) rfl (by kernel_rfl) ?_
  simp only [Act.put, List.setIfInBounds_toArray, List.set_cons_zero, List.set_cons_succ]
  refine wpL_pure (.bool false) rfl (run_load_one _ _ _ 4 _ _ rfl b 1 rfl (by rw [HB.out.cell]; rfl) (by kernel_rfl)) ?_
  simp only [Act.put, List.setIfInBounds_toArray, List.set_cons_zero, List.set_cons_succ]
  refine wpL_pure (.bool false) rfl (by kernel_rfl) ?_
  simp only [Act.put, List.setIfInBounds_toArray, List.set_cons_zero, List.set_cons_succ]
  refine wpL_pure (.int .i64 (m : Int)) rfl (by kernel_rfl) ?_
  simp only [Act.put, List.setIfInBounds_toArray, List.set_cons_zero, List.set_cons_succ]
  refine wpL_pure (.bool false) rfl (run_lti Try.underlying3 rfl rfl rfl (by rw [decide_eq_false_iff_not]; omega)) ?_
  simp only [Act.put, List.setIfInBounds_toArray, List.set_cons_zero, List.set_cons_succ]
  refine wpL_pure (.bool false) rfl (by kernel_rfl) ?_
  simp only [Act.put, List.setIfInBounds_toArray, List.set_cons_zero, List.set_cons_succ]
  refine wpL_pure (.bool false) rfl (by kernel_rfl) ?_
  simp only [Act.put, List.setIfInBounds_toArray, List.set_cons_zero, List.set_cons_succ]
  refine wpL_pure (.int .i64 (m : Int)) rfl (by kernel_rfl) ?_
  simp only [Act.put, List.setIfInBounds_toArray, List.set_cons_zero, List.set_cons_succ]
  refine wpL_pure (.pointer (some ⟨b, 0, none⟩)) rfl (by kernel_rfl) ?_
  simp only [Act.put, List.setIfInBounds_toArray, List.set_cons_zero, List.set_cons_succ]
  refine wpL_pure (.pointer (some ⟨b, 0, none⟩)) rfl (by kernel_rfl) ?_
  simp only [Act.put, List.setIfInBounds_toArray, List.set_cons_zero, List.set_cons_succ]
  refine wpL_pure (.pointer (some ⟨b, 0, none⟩)) rfl (by kernel_rfl) ?_
  simp only [Act.put, List.setIfInBounds_toArray, List.set_cons_zero, List.set_cons_succ]
  refine wpL_pure (.slice a n c) rfl (run_load_one _ _ _ 25 _ _ rfl b 0 rfl (by rw [HB.out.cell]; rfl) (by kernel_rfl)) ?_
  simp only [Act.put, List.setIfInBounds_toArray, List.set_cons_zero, List.set_cons_succ]
  refine wpL_pure (.int .i64 (n : Int)) rfl (by kernel_rfl) ?_
  simp only [Act.put, List.setIfInBounds_toArray, List.set_cons_zero, List.set_cons_succ]
  refine wpL_pure (.bool false) rfl (run_gti Try.underlying3 rfl rfl rfl (by have := HM.out; rw [decide_eq_false_iff_not]; omega)) ?_
  simp only [Act.put, List.setIfInBounds_toArray, List.set_cons_zero, List.set_cons_succ]
  refine wpL_pure (.bool false) rfl (by kernel_rfl) ?_
  simp only [Act.put, List.setIfInBounds_toArray, List.set_cons_zero, List.set_cons_succ]
  go_upto_region 4 with (fail)
  refine wp_region_lit ?_
  refine wpL_pure (.pointer (some ⟨b, 0, none⟩)) rfl (by kernel_rfl) ?_
  simp only [Act.put, List.setIfInBounds_toArray, List.set_cons_zero, List.set_cons_succ]
  refine wpL_pure (.int .i64 (m : Int)) rfl (by kernel_rfl) ?_
  simp only [Act.put, List.setIfInBounds_toArray, List.set_cons_zero, List.set_cons_succ]
  refine wpL_call 32 #[.pointer (some ⟨b, 0, none⟩), .int .i64 (m : Int)] rfl (by kernel_rfl) ((CU.out).mono fun e w1 ⟨v, he, q⟩ => ⟨v, he, ?_⟩)
  simp only [Act.put, List.setIfInBounds_toArray, List.set_cons_zero, List.set_cons_succ]
  have Q := Lib.hid q
  clear q
  refine wpL_pure (v) rfl (by kernel_rfl) ?_
  simp only [Act.put, List.setIfInBounds_toArray, List.set_cons_zero, List.set_cons_succ]
  go_wp2_with fail
  go_ret
  exact ⟨v, rfl, Q.out⟩
end Go.Proofs.Yteblaknbehfkgaa
