import Derived.Test.YtbgmielhnklkgaaP8
namespace Go.Proofs.Ytbgmielhnklkgaa
open Go.RowKit

theorem run_gtr (a : Act) (o : Oper) (w : World) (x : Operand) (n : Nat) (b : Bool) (ho : o.op = .binOp .gtr 3 x (.const (.int .i64 500)) 3) (hx : a.eval x = .int .i64 (n : Int)) (hb : decide ((500 : Int) < (n : Int)) = b) : (execOp a.eval o).run Try.prog w = .ok (.value (.bool b)) w := by
  have hc : a.eval (.const (.int .i64 500)) = .int .i64 500 := rfl
  subst hb
  unfold execOp
  simp only [ho, hx, hc]
  go_simp
theorem own_none (w : World) : (w.alloc (.cells #[] 5)).ownsRow w.heap.size 5 1 (.slice (some ⟨w.heap.size, 0, none⟩) 0 0) 0 (([] : List Int).map (Value.int .u8)) :=
  ⟨by simp, .inr ⟨w.heap.size, 0, #[], rfl, Nat.le_refl _, Blk.new w 5 #[], by omega, by simp [maxLen], by simp, by simp⟩⟩
theorem own_alloc {w : World} {base n : Nat} {v : Value} {xs : List Value} (h : w.ownsRow base 5 1 v n xs) (o : Obj) : (w.alloc o).ownsRow base 5 1 v n xs := by
  refine ⟨h.1, ?_⟩
  rcases h.2 with h | ⟨g, cap, cur, h1, h2, h3, h4⟩
  · exact .inl h
  · exact .inr ⟨g, cap, cur, h1, h2, Blk.alloc (w := w) (g := g) (t := 5) (cs := cur) h3 o, h4⟩
theorem longer (xs : List Int) : decide (xs = xs ++ [0]) = false := by
  rw [decide_eq_false_iff_not]
  intro h
  have := congrArg List.length h
  simp at this
set_option maxHeartbeats 2000000 in
theorem walkPolyEqual (a0 : Option Addr) (n0 c0 : Nat) (z0 : List Int) (a1 : Option Addr) (n1 c1 : Nat) (z1 : List Int) (w : World) (h0 : IsRow .u8 w a0 n0 c0 z0) (h1 : IsRow .u8 w a1 n1 c1 z1) :
    Calls Try.prog 8 #[.slice a0 n0 c0, .slice a1 n1 c1] w fun e w' => e = .returned (.bool true) ∧ Below w.heap.size w w' := by
  have H0 := Lib.hid (row_of h0)
  have H1 := Lib.hid (row_of h1)
  clear h0 h1
  by_cases i0 : 500 < n0
  · have q0 : decide ((500 : Int) < (n0 : Int)) = true := by rw [decide_eq_true_eq]; omega
    go_enter Try.func8, Try.ntmps8
    go_upto_region 1 with (fail)
    refine wp_region_lit ?_
    refine wpL_call 9 #[] rfl (by kernel_rfl) ((awake9 w).mono fun e w1 ⟨he, hb⟩ => ⟨.bool true, he, ?_⟩)
    simp only [Act.put, List.setIfInBounds_toArray, List.set_cons_zero, List.set_cons_succ]
    have B1 := Lib.hid hb
    clear hb
    refine wpL_pure (.bool false) rfl (by kernel_rfl) ?_
    simp only [Act.put, List.setIfInBounds_toArray, List.set_cons_zero, List.set_cons_succ]
    refine wpL_pure (.bool false) rfl (by kernel_rfl) ?_
    simp only [Act.put, List.setIfInBounds_toArray, List.set_cons_zero, List.set_cons_succ]
    refine wpL_pure (.slice a0 n0 c0) rfl (by kernel_rfl) ?_
    simp only [Act.put, List.setIfInBounds_toArray, List.set_cons_zero, List.set_cons_succ]
    refine wpL_pure (.int .i64 (n0 : Int)) rfl (by kernel_rfl) ?_
    simp only [Act.put, List.setIfInBounds_toArray, List.set_cons_zero, List.set_cons_succ]
    refine wpL_pure (.bool true) rfl (run_gtr _ _ _ _ n0 _ rfl rfl q0) ?_
    simp only [Act.put, List.setIfInBounds_toArray, List.set_cons_zero, List.set_cons_succ]
    refine wpL_pure (.bool true) rfl (by kernel_rfl) ?_
    simp only [Act.put, List.setIfInBounds_toArray, List.set_cons_zero, List.set_cons_succ]
    refine wpL_pure (.bool true) rfl (by kernel_rfl) ?_
    simp only [Act.put, List.setIfInBounds_toArray, List.set_cons_zero, List.set_cons_succ]
    refine wpL_skip rfl ?_
    simp only [Act.put, List.setIfInBounds_toArray, List.set_cons_zero, List.set_cons_succ]
    refine wpL_skip rfl ?_
    simp only [Act.put, List.setIfInBounds_toArray, List.set_cons_zero, List.set_cons_succ]
    refine wpL_skip rfl ?_
    simp only [Act.put, List.setIfInBounds_toArray, List.set_cons_zero, List.set_cons_succ]
    refine wpL_pure (.bool true) rfl (by kernel_rfl) ?_
    simp only [Act.put, List.setIfInBounds_toArray, List.set_cons_zero, List.set_cons_succ]
    go_upto_region 2 with (fail)
    refine wp_region_lit ?_
    refine wpL_call 9 #[] rfl (by kernel_rfl) ((awake9 w1).mono fun e w2 ⟨he, hb⟩ => ⟨.bool true, he, ?_⟩)
    simp only [Act.put, List.setIfInBounds_toArray, List.set_cons_zero, List.set_cons_succ]
    refine wpL_pure (.bool true) rfl (by kernel_rfl) ?_
    simp only [Act.put, List.setIfInBounds_toArray, List.set_cons_zero, List.set_cons_succ]
    go_wp2_with fail
    go_ret
    exact ⟨rfl, B1.out.trans (hb.mono B1.out.size)⟩
  have q0 : decide ((500 : Int) < (n0 : Int)) = false := by rw [decide_eq_false_iff_not]; omega
  by_cases i1 : 500 < n1
  · have q1 : decide ((500 : Int) < (n1 : Int)) = true := by rw [decide_eq_true_eq]; omega
    go_enter Try.func8, Try.ntmps8
    go_upto_region 1 with (fail)
    refine wp_region_lit ?_
    refine wpL_call 9 #[] rfl (by kernel_rfl) ((awake9 w).mono fun e w1 ⟨he, hb⟩ => ⟨.bool true, he, ?_⟩)
    simp only [Act.put, List.setIfInBounds_toArray, List.set_cons_zero, List.set_cons_succ]
    have B1 := Lib.hid hb
    clear hb
    refine wpL_pure (.bool false) rfl (by kernel_rfl) ?_
    simp only [Act.put, List.setIfInBounds_toArray, List.set_cons_zero, List.set_cons_succ]
    refine wpL_pure (.bool false) rfl (by kernel_rfl) ?_
    simp only [Act.put, List.setIfInBounds_toArray, List.set_cons_zero, List.set_cons_succ]
    refine wpL_pure (.slice a0 n0 c0) rfl (by kernel_rfl) ?_
    simp only [Act.put, List.setIfInBounds_toArray, List.set_cons_zero, List.set_cons_succ]
    refine wpL_pure (.int .i64 (n0 : Int)) rfl (by kernel_rfl) ?_
    simp only [Act.put, List.setIfInBounds_toArray, List.set_cons_zero, List.set_cons_succ]
    refine wpL_pure (.bool false) rfl (run_gtr _ _ _ _ n0 _ rfl rfl q0) ?_
    simp only [Act.put, List.setIfInBounds_toArray, List.set_cons_zero, List.set_cons_succ]
    refine wpL_pure (.bool false) rfl (by kernel_rfl) ?_
    simp only [Act.put, List.setIfInBounds_toArray, List.set_cons_zero, List.set_cons_succ]
    refine wpL_pure (.bool false) rfl (by kernel_rfl) ?_
    simp only [Act.put, List.setIfInBounds_toArray, List.set_cons_zero, List.set_cons_succ]
    refine wpL_pure (.slice a1 n1 c1) rfl (by kernel_rfl) ?_
    simp only [Act.put, List.setIfInBounds_toArray, List.set_cons_zero, List.set_cons_succ]
    refine wpL_pure (.int .i64 (n1 : Int)) rfl (by kernel_rfl) ?_
    simp only [Act.put, List.setIfInBounds_toArray, List.set_cons_zero, List.set_cons_succ]
    refine wpL_pure (.bool true) rfl (run_gtr _ _ _ _ n1 _ rfl rfl q1) ?_
    simp only [Act.put, List.setIfInBounds_toArray, List.set_cons_zero, List.set_cons_succ]
    refine wpL_pure (.bool true) rfl (by kernel_rfl) ?_
    simp only [Act.put, List.setIfInBounds_toArray, List.set_cons_zero, List.set_cons_succ]
    go_upto_region 2 with (fail)
    refine wp_region_lit ?_
    refine wpL_call 9 #[] rfl (by kernel_rfl) ((awake9 w1).mono fun e w2 ⟨he, hb⟩ => ⟨.bool true, he, ?_⟩)
    simp only [Act.put, List.setIfInBounds_toArray, List.set_cons_zero, List.set_cons_succ]
    refine wpL_pure (.bool true) rfl (by kernel_rfl) ?_
    simp only [Act.put, List.setIfInBounds_toArray, List.set_cons_zero, List.set_cons_succ]
    go_wp2_with fail
    go_ret
    exact ⟨rfl, B1.out.trans (hb.mono B1.out.size)⟩
  · have q1 : decide ((500 : Int) < (n1 : Int)) = false := by rw [decide_eq_false_iff_not]; omega
    obtain ⟨d, hd⟩ : ∃ d, decide (z0.take n0 = z1.take n1) = d := ⟨_, rfl⟩
    go_enter Try.func8, Try.ntmps8
    go_upto_region 1 with (fail)
    refine wp_region_lit ?_
    refine wpL_call 9 #[] rfl (by kernel_rfl) ((awake9 w).mono fun e w1 ⟨he, hb⟩ => ⟨.bool true, he, ?_⟩)
    simp only [Act.put, List.setIfInBounds_toArray, List.set_cons_zero, List.set_cons_succ]
    have B1 := Lib.hid hb
    clear hb
    refine wpL_pure (.bool false) rfl (by kernel_rfl) ?_
    simp only [Act.put, List.setIfInBounds_toArray, List.set_cons_zero, List.set_cons_succ]
    refine wpL_pure (.bool false) rfl (by kernel_rfl) ?_
    simp only [Act.put, List.setIfInBounds_toArray, List.set_cons_zero, List.set_cons_succ]
    refine wpL_pure (.slice a0 n0 c0) rfl (by kernel_rfl) ?_
    simp only [Act.put, List.setIfInBounds_toArray, List.set_cons_zero, List.set_cons_succ]
    refine wpL_pure (.int .i64 (n0 : Int)) rfl (by kernel_rfl) ?_
    simp only [Act.put, List.setIfInBounds_toArray, List.set_cons_zero, List.set_cons_succ]
    refine wpL_pure (.bool false) rfl (run_gtr _ _ _ _ n0 _ rfl rfl q0) ?_
    simp only [Act.put, List.setIfInBounds_toArray, List.set_cons_zero, List.set_cons_succ]
    refine wpL_pure (.bool false) rfl (by kernel_rfl) ?_
    simp only [Act.put, List.setIfInBounds_toArray, List.set_cons_zero, List.set_cons_succ]
    refine wpL_pure (.bool false) rfl (by kernel_rfl) ?_
    simp only [Act.put, List.setIfInBounds_toArray, List.set_cons_zero, List.set_cons_succ]
    refine wpL_pure (.slice a1 n1 c1) rfl (by kernel_rfl) ?_
    simp only [Act.put, List.setIfInBounds_toArray, List.set_cons_zero, List.set_cons_succ]
    refine wpL_pure (.int .i64 (n1 : Int)) rfl (by kernel_rfl) ?_
    simp only [Act.put, List.setIfInBounds_toArray, List.set_cons_zero, List.set_cons_succ]
    refine wpL_pure (.bool false) rfl (run_gtr _ _ _ _ n1 _ rfl rfl q1) ?_
    simp only [Act.put, List.setIfInBounds_toArray, List.set_cons_zero, List.set_cons_succ]
    refine wpL_pure (.bool false) rfl (by kernel_rfl) ?_
    simp only [Act.put, List.setIfInBounds_toArray, List.set_cons_zero, List.set_cons_succ]
    go_upto_region 3 with (fail)
    refine wp_region_lit ?_
    refine wpL_pure (.slice a0 n0 c0) rfl (by kernel_rfl) ?_
    simp only [Act.put, List.setIfInBounds_toArray, List.set_cons_zero, List.set_cons_succ]
    refine wpL_pure (.slice a1 n1 c1) rfl (by kernel_rfl) ?_
    simp only [Act.put, List.setIfInBounds_toArray, List.set_cons_zero, List.set_cons_succ]
    refine wpL_call 12 #[.slice a0 n0 c0, .slice a1 n1 c1] rfl (by kernel_rfl) ((equal_rows w1 _ _ _ _ _ _ _ _ (H0.out.below _ B1.out (Nat.le_refl _)) (H1.out.below _ B1.out (Nat.le_refl _))).mono fun e w2 ⟨he, hb⟩ => ⟨.bool d, he.trans (ret_bool (hd)), ?_⟩)
    simp only [Act.put, List.setIfInBounds_toArray, List.set_cons_zero, List.set_cons_succ]
    have B2 : Hid (Below w.heap.size w w2) := Lib.hid (B1.out.trans (hb.mono B1.out.size))
    clear hb
    refine wpL_pure (.slice a0 n0 c0) rfl (by kernel_rfl) ?_
    simp only [Act.put, List.setIfInBounds_toArray, List.set_cons_zero, List.set_cons_succ]
    refine wpL_pure (.slice a1 n1 c1) rfl (by kernel_rfl) ?_
    simp only [Act.put, List.setIfInBounds_toArray, List.set_cons_zero, List.set_cons_succ]
    refine wpL_call 13 #[.slice a0 n0 c0, .slice a1 n1 c1] rfl (by kernel_rfl) ((same_rows w2 _ _ _ _ _ _ _ _ (H0.out.below _ B2.out (Nat.le_refl _)) (H1.out.below _ B2.out (Nat.le_refl _))).mono fun e w3 ⟨he, hx⟩ => ⟨.bool d, he.trans (ret_bool hd), ?_⟩)
    subst hx
    simp only [Act.put, List.setIfInBounds_toArray, List.set_cons_zero, List.set_cons_succ]
    refine wpL_pure (.bool true) rfl (by cases d <;> kernel_rfl) ?_
    simp only [Act.put, List.setIfInBounds_toArray, List.set_cons_zero, List.set_cons_succ]
    refine wpL_pure (.bool true) rfl (by kernel_rfl) ?_
    simp only [Act.put, List.setIfInBounds_toArray, List.set_cons_zero, List.set_cons_succ]
    refine wpL_pure (.slice a0 n0 c0) rfl (by kernel_rfl) ?_
    simp only [Act.put, List.setIfInBounds_toArray, List.set_cons_zero, List.set_cons_succ]
    refine wpL_pure (.slice a0 n0 c0) rfl (by kernel_rfl) ?_
    simp only [Act.put, List.setIfInBounds_toArray, List.set_cons_zero, List.set_cons_succ]
    refine wpL_call 12 #[.slice a0 n0 c0, .slice a0 n0 c0] rfl (by kernel_rfl) ((equal_rows w2 _ _ _ _ _ _ _ _ (H0.out.below _ B2.out (Nat.le_refl _)) (H0.out.below _ B2.out (Nat.le_refl _))).mono fun e w4 ⟨he, hb⟩ => ⟨.bool true, he.trans (ret_bool (by simp)), ?_⟩)
    simp only [Act.put, List.setIfInBounds_toArray, List.set_cons_zero, List.set_cons_succ]
    have B4 : Hid (Below w.heap.size w w4) := Lib.hid (B2.out.trans (hb.mono B2.out.size))
    clear hb
    refine wpL_pure (.bool true) rfl (by kernel_rfl) ?_
    simp only [Act.put, List.setIfInBounds_toArray, List.set_cons_zero, List.set_cons_succ]
    refine wpL_pure (.bool true) rfl (by kernel_rfl) ?_
    simp only [Act.put, List.setIfInBounds_toArray, List.set_cons_zero, List.set_cons_succ]
    refine wpL_pure (.slice a0 n0 c0) rfl (by kernel_rfl) ?_
    simp only [Act.put, List.setIfInBounds_toArray, List.set_cons_zero, List.set_cons_succ]
    refine wpL_value (.slice (some ⟨w4.heap.size, 0, none⟩) 0 0) (w4.alloc (.cells #[] 5)) rfl (by kernel_rfl) ?_
    simp only [Act.put, List.setIfInBounds_toArray, List.set_cons_zero, List.set_cons_succ]
    refine wpL_pure (.slice a0 n0 c0) rfl (by kernel_rfl) ?_
    simp only [Act.put, List.setIfInBounds_toArray, List.set_cons_zero, List.set_cons_succ]
    obtain ⟨g5, cap5, w5, r5, o5, b5⟩ := append_own (w4.alloc (.cells #[] 5)) w4.heap.size w4.heap.size 0 0 [] (z0.take n0) a0 n0 c0 (own_none w4) (H0.out.below w.heap.size (B4.out.alloc B4.out.size _) (Nat.le_refl _)) (by omega) (by simp)
    have B5 : Hid (Below w4.heap.size w4 w5) := Lib.hid (((Below.refl _ _).alloc (Nat.le_refl _) _).trans b5)
    have O5 := Lib.hid o5
    clear b5 o5
    rw [Nat.zero_add] at r5 O5
    refine wpL_value (.slice (some ⟨g5, 0, none⟩) n0 cap5) (w5) rfl (run_app _ _ _ _ _ _ _ _ _ rfl rfl rfl rfl r5) ?_
    simp only [Act.put, List.setIfInBounds_toArray, List.set_cons_zero, List.set_cons_succ]
    refine wpL_value (.slice (some ⟨w5.heap.size, 0, none⟩) 1 1) (w5.alloc (.cells #[.int .u8 0] 5)) rfl (by kernel_rfl) ?_
    simp only [Act.put, List.setIfInBounds_toArray, List.set_cons_zero, List.set_cons_succ]
    obtain ⟨g6, cap6, w6, r6, o6, b6⟩ := append_own (w5.alloc (.cells #[.int .u8 0] 5)) w4.heap.size g5 n0 cap5 (z0.take n0) [0] (some ⟨w5.heap.size, 0, none⟩) 1 1 (own_alloc O5.out _) (row_blk (xs := [0]) (Blk.new w5 5 #[.int .u8 0]) (by simp) (by simp [maxLen])) (by omega) (Nat.le_trans B5.out.size (by simp))
    have B6 : Hid (Below w.heap.size w w6) := Lib.hid (B4.out.trans (((B5.out.alloc B5.out.size _).trans b6).mono B4.out.size))
    have O6 := Lib.hid o6
    clear b6 o6 O5 B5 r5
    refine wpL_value (.slice (some ⟨g6, 0, none⟩) (n0 + 1) cap6) (w6) rfl (run_app _ _ _ _ _ _ _ _ _ rfl rfl rfl rfl r6) ?_
    simp only [Act.put, List.setIfInBounds_toArray, List.set_cons_zero, List.set_cons_succ]
    refine wpL_call 12 #[.slice a0 n0 c0, .slice (some ⟨g6, 0, none⟩) (n0 + 1) cap6] rfl (by kernel_rfl) ((equal_rows w6 _ _ _ _ _ _ _ _ (H0.out.below _ B6.out (Nat.le_refl _)) (row_own O6.out (by intro x hx; rcases List.mem_append.1 hx with h | h; exact H0.out.2.2.1 x h; simp at h; omega))).mono fun e w7 ⟨he, hb⟩ => ⟨.bool false, he.trans (ret_bool (longer _)), ?_⟩)
    simp only [Act.put, List.setIfInBounds_toArray, List.set_cons_zero, List.set_cons_succ]
    have B7 : Hid (Below w.heap.size w w7) := Lib.hid (B6.out.trans (hb.mono B6.out.size))
    clear hb
    refine wpL_pure (.bool true) rfl (by kernel_rfl) ?_
    simp only [Act.put, List.setIfInBounds_toArray, List.set_cons_zero, List.set_cons_succ]
    refine wpL_pure (.bool true) rfl (by kernel_rfl) ?_
    simp only [Act.put, List.setIfInBounds_toArray, List.set_cons_zero, List.set_cons_succ]
    refine wpL_pure (.bool true) rfl (by kernel_rfl) ?_
    simp only [Act.put, List.setIfInBounds_toArray, List.set_cons_zero, List.set_cons_succ]
    go_wp2_with fail
    go_ret
    exact ⟨rfl, B7.out⟩
end Go.Proofs.Ytbgmielhnklkgaa
