/- slices.Grow of nothing; slices.Concat of two. -/
import Derived.Test.YteabblmhcjpboaaC4
import Derived.Lib.AppendZeros
namespace Go.Proofs.Yteabblmhcjpboaa.D
open Go Go.RowKit
set_option maxRecDepth 100000
theorem run_appn (a : Act) (o : Oper) (w w' : World) (x y : Operand) (v u r : Value) (ho : o.op = .call { callee := .builtin .append, args := #[x, y], argTypes := #[26, 3] }) (ht : o.type = 26) (hx : a.eval x = v) (hy : a.eval y = u)
    (h : (Builtin.append_ #[26, 3] 26 #[v, u]).run Try.prog w = .ok r w') : (execOp a.eval o).run Try.prog w = .ok (.value r) w' := by
  unfold execOp
  simp only [ho, resolve, invoke, builtin, Sem.run_bind, Sem.run_pure, Result.andThen_ok, List.map_toArray, List.map_cons, List.map_nil, hx, hy, ht, h]
theorem grow_zeros (w : World) (n : Nat) (h0 : 0 < n) (hn : n ≤ 1000000) : ∃ (cs : Array Value) (cap : Nat) (W : World), (Builtin.append_ #[26, 3] 26 #[.slice none 0 0, .int .i64 ((n : Nat) : Int)]).run Try.prog w = .ok (.slice (some ⟨w.heap.size, 0, none⟩) n cap) W ∧
    W = w.drew.alloc (.cells cs 5) ∧ (n ≤ cap ∧ cap ≤ maxLen) ∧ cs.size = cap := by
  have hinfo : (Try.prog.info? 5).map (fun i => (i.zero, i.size, i.bytes)) = some (some (.int .u8 0), 1, 1) := by kernel_rfl
  obtain ⟨i, hi, hzz⟩ := Option.map_eq_some_iff.1 hinfo
  simp only [Prod.mk.injEq] at hzz
  obtain ⟨hz, hs, hb⟩ := hzz
  have r := Go.Lib.run_append_nil_zeros (P := Try.prog) w 26 3 26 5 i _ .i64 .i64 Try.underlying26 Try.underlying3 hi hz n h0 (by omega) (by omega) (by rw [hb]; omega)
  have g1 : n ≤ grownCap w n 0 5 := by simpa using grownCap_ge w n 0 5
  have g2 : grownCap w n 0 5 ≤ maxLen := by simpa using grownCap_le_maxLen w n 0 5 (by unfold maxLen; omega)
  refine ⟨_, _, _, r, rfl, ⟨g1, g2⟩, ?_⟩
  have z : ∀ k, (Builtin.zeroCells (Value.int .u8 0).cells k).size = k := fun k => by
    simp [Builtin.zeroCells, Value.cells]
  rw [Array.size_append, z, z]; omega
attribute [local irreducible] wpList
set_option maxHeartbeats 4000000
theorem grow_any (w : World) (n : Nat) (hn : 0 < n ∧ n ≤ 1000000) : Calls Try.prog 62 #[.slice none 0 0, .int .i64 ((n : Nat) : Int)] w fun e w' => ∃ v, e = .returned v ∧ Below w.heap.size w w' ∧ Own w' w.heap.size v [] := by
  have HN := Lib.hid hn
  clear hn
  go_enter Try.func62, Try.ntmps62
  go_upto_region 0 with (fail)
  refine wp_region_lit ?_
  refine wpL_pure (.slice none 0 0) rfl (by kernel_rfl) ?_
  simp only [Act.put, List.setIfInBounds_toArray, List.set_cons_zero, List.set_cons_succ]
  go_upto_region 1 with (fail)
  refine wp_region_lit ?_
  refine wpL_pure (.int .i64 ((n : Nat) : Int)) rfl (by kernel_rfl) ?_
  simp only [Act.put, List.setIfInBounds_toArray, List.set_cons_zero, List.set_cons_succ]
  refine wpL_pure (.bool false) rfl (run_lti Try.underlying3 rfl rfl rfl (by have := HN.out; rw [decide_eq_false_iff_not]; omega)) ?_
  simp only [Act.put, List.setIfInBounds_toArray, List.set_cons_zero, List.set_cons_succ]
  go_upto_region 3 with (fail)
  refine wp_region_lit ?_
  refine wpL_pure (.int .i64 ((n : Nat) : Int)) rfl (by kernel_rfl) ?_
  simp only [Act.put, List.setIfInBounds_toArray, List.set_cons_zero, List.set_cons_succ]
  refine wpL_pure (.slice none 0 0) rfl (by kernel_rfl) ?_
  simp only [Act.put, List.setIfInBounds_toArray, List.set_cons_zero, List.set_cons_succ]
  refine wpL_pure (.int .i64 0) rfl (by kernel_rfl) ?_
  simp only [Act.put, List.setIfInBounds_toArray, List.set_cons_zero, List.set_cons_succ]
  refine wpL_pure (.slice none 0 0) rfl (by kernel_rfl) ?_
  simp only [Act.put, List.setIfInBounds_toArray, List.set_cons_zero, List.set_cons_succ]
  refine wpL_pure (.int .i64 (0 : Int)) rfl (by kernel_rfl) ?_
  simp only [Act.put, List.setIfInBounds_toArray, List.set_cons_zero, List.set_cons_succ]
  refine wpL_pure (.int .i64 0) rfl (by kernel_rfl) ?_
  simp only [Act.put, List.setIfInBounds_toArray, List.set_cons_zero, List.set_cons_succ]
  refine wpL_pure (.int .i64 ((n : Nat) : Int)) rfl (run_subi Try.underlying3 rfl rfl rfl _ (by have := HN.out; rw [wrap_in _ (by omega) (by omega)]; omega)) ?_
  simp only [Act.put, List.setIfInBounds_toArray, List.set_cons_zero, List.set_cons_succ]
  refine wpL_pure (.int .i64 ((n : Nat) : Int)) rfl (by kernel_rfl) ?_
  simp only [Act.put, List.setIfInBounds_toArray, List.set_cons_zero, List.set_cons_succ]
  go_upto_region 4 with (fail)
  refine wp_region_lit ?_
  refine wpL_pure (.int .i64 ((n : Nat) : Int)) rfl (by kernel_rfl) ?_
  simp only [Act.put, List.setIfInBounds_toArray, List.set_cons_zero, List.set_cons_succ]
  refine wpL_pure (.bool true) rfl (run_gti Try.underlying3 rfl rfl rfl (by have := HN.out; rw [decide_eq_true_eq]; omega)) ?_
  simp only [Act.put, List.setIfInBounds_toArray, List.set_cons_zero, List.set_cons_succ]
  go_upto_region 5 with (fail)
  refine wp_region_lit ?_
  refine wpL_pure (.slice none 0 0) rfl (by kernel_rfl) ?_
  simp only [Act.put, List.setIfInBounds_toArray, List.set_cons_zero, List.set_cons_succ]
  refine wpL_pure (.slice none 0 0) rfl (by kernel_rfl) ?_
  simp only [Act.put, List.setIfInBounds_toArray, List.set_cons_zero, List.set_cons_succ]
  refine wpL_pure (.int .i64 0) rfl (by kernel_rfl) ?_
  simp only [Act.put, List.setIfInBounds_toArray, List.set_cons_zero, List.set_cons_succ]
  refine wpL_pure (.slice none 0 0) rfl (by kernel_rfl) ?_
  simp only [Act.put, List.setIfInBounds_toArray, List.set_cons_zero, List.set_cons_succ]
  refine wpL_pure (.int .i64 ((n : Nat) : Int)) rfl (by kernel_rfl) ?_
  simp only [Act.put, List.setIfInBounds_toArray, List.set_cons_zero, List.set_cons_succ]
  obtain ⟨cs, cap, W1, hr, hW1, hc, hcs⟩ := grow_zeros w n HN.out.1 HN.out.2
  have R1 := Lib.hid hr
  have F1 : Hid (Below w.heap.size w W1 ∧ Own W1 w.heap.size (.slice (some ⟨w.heap.size, 0, none⟩) 0 cap) [] ∧ n ≤ cap ∧ cap ≤ maxLen) := Lib.hid (by rw [hW1]; exact ⟨((Below.refl _ _).drew).alloc (Nat.le_refl _) _, ⟨World.ownsRow_made w.drew cs cap (Nat.le_refl _) hc.2 (by rw [hcs]; simp), by simp⟩, hc⟩)
  obtain ⟨g, hg⟩ : ∃ q, w.heap.size = q := ⟨_, rfl⟩
  have G := Lib.hid hg
  clear hr hW1 hc hcs
  refine wpL_value (.slice (some ⟨w.heap.size, 0, none⟩) n cap) W1 rfl (run_appn _ _ _ _ _ _ _ _ _ rfl rfl rfl rfl R1.out) ?_
  simp only [Act.put, List.setIfInBounds_toArray, List.set_cons_zero, List.set_cons_succ]
  clear R1
  rw [hg] at F1 ⊢
  clear hg
  refine wpL_pure (.slice none 0 0) rfl (by kernel_rfl) ?_
  simp only [Act.put, List.setIfInBounds_toArray, List.set_cons_zero, List.set_cons_succ]
  refine wpL_pure (.int .i64 (0 : Int)) rfl (by kernel_rfl) ?_
  simp only [Act.put, List.setIfInBounds_toArray, List.set_cons_zero, List.set_cons_succ]
  refine wpL_pure (.slice (some ⟨g, 0, none⟩) 0 cap) rfl (run_slto _ _ _ _ _ g 0 n cap 0 rfl rfl rfl F1.out.2.2.1 (by have := F1.out.2.2.2; unfold maxLen at this; omega) (by omega)) ?_
  simp only [Act.put, List.setIfInBounds_toArray, List.set_cons_zero, List.set_cons_succ]
  refine wpL_pure (.slice (some ⟨g, 0, none⟩) 0 cap) rfl (by kernel_rfl) ?_
  simp only [Act.put, List.setIfInBounds_toArray, List.set_cons_zero, List.set_cons_succ]
  go_upto_region 6 with (fail)
  refine wp_region_lit ?_
  refine wpL_pure (.slice (some ⟨g, 0, none⟩) 0 cap) rfl (by kernel_rfl) ?_
  simp only [Act.put, List.setIfInBounds_toArray, List.set_cons_zero, List.set_cons_succ]
  refine wpL_pure (.slice (some ⟨g, 0, none⟩) 0 cap) rfl (by kernel_rfl) ?_
  simp only [Act.put, List.setIfInBounds_toArray, List.set_cons_zero, List.set_cons_succ]
  go_wp2_with fail
  go_ret
  exact ⟨_, rfl, by rw [G.out]; exact F1.out.1, by rw [G.out]; exact F1.out.2.1⟩
theorem concat_any (w : World) (gp : Nat) (a1 a2 : Option Addr) (n1 n2 c1 c2 : Nat) (xs ys : List Int) (hb : Blk w gp 26 #[.slice a1 n1 c1, .slice a2 n2 c2]) (hx : Row w a1 n1 xs) (hy : Row w a2 n2 ys) (hn : 0 < n1 + n2 ∧ n1 ≤ 1000 ∧ n2 ≤ 1000) :
    Calls Try.prog 56 #[.slice (some ⟨gp, 0, none⟩) 2 2] w fun e w' => ∃ v, e = .returned v ∧ Below w.heap.size w w' ∧ Own w' w.heap.size v (xs ++ ys) := by
  have HN := Lib.hid hn
  have HB := Lib.hid hb
  have HX := Lib.hid hx
  have HY := Lib.hid hy
  clear hn hb hx hy
  go_enter Try.func56, Try.ntmps56
  go_upto_region 0 with (fail)
  refine wp_region_lit ?_
  refine wpL_pure (.slice none 0 0) rfl (by kernel_rfl) ?_
  simp only [Act.put, List.setIfInBounds_toArray, List.set_cons_zero, List.set_cons_succ]
  go_upto_region 1 with (fail)
  refine wp_region_lit ?_
  refine wpL_pure (.int .i64 0) rfl (by kernel_rfl) ?_
  simp only [Act.put, List.setIfInBounds_toArray, List.set_cons_zero, List.set_cons_succ]
  go_upto_region 2 with (fail)
  refine wp_region_lit ?_
  refine wpL_pure (.slice (some ⟨gp, 0, none⟩) 2 2) rfl (by kernel_rfl) ?_
  simp only [Act.put, List.setIfInBounds_toArray, List.set_cons_zero, List.set_cons_succ]
  refine wpL_pure (.int .i64 (2 : Int)) rfl (by kernel_rfl) ?_
  simp only [Act.put, List.setIfInBounds_toArray, List.set_cons_zero, List.set_cons_succ]
  refine wpL_pure (.int .i64 0) rfl (by kernel_rfl) ?_
  simp only [Act.put, List.setIfInBounds_toArray, List.set_cons_zero, List.set_cons_succ]
  unfold wpList
  go_wp2_with fail
  refine wp_loop_rounds 3 ?_
  rw [rounds_succ]
  go_upto_region 3 with (fail)
  refine wp_region_lit ?_
  refine wpL_pure (.bool true) rfl (by kernel_rfl) ?_
  simp only [Act.put, List.setIfInBounds_toArray, List.set_cons_zero, List.set_cons_succ]
  go_upto_region 4 with (fail)
  refine wp_region_lit ?_
  refine wpL_pure (.pointer (some ⟨gp, 0, none⟩)) rfl (by kernel_rfl) ?_
  simp only [Act.put, List.setIfInBounds_toArray, List.set_cons_zero, List.set_cons_succ]
  refine wpL_pure (.slice a1 n1 c1) rfl (run_load_one _ _ _ 26 _ _ rfl (gp) (0) rfl (by rw [HB.out.cell]; rfl) (by kernel_rfl)) ?_
  simp only [Act.put, List.setIfInBounds_toArray, List.set_cons_zero, List.set_cons_succ]
  refine wpL_pure (.slice a1 n1 c1) rfl (by kernel_rfl) ?_
  simp only [Act.put, List.setIfInBounds_toArray, List.set_cons_zero, List.set_cons_succ]
  go_upto_region 5 with (fail)
  refine wp_region_lit ?_
  refine wpL_pure (.int .i64 0) rfl (by kernel_rfl) ?_
  simp only [Act.put, List.setIfInBounds_toArray, List.set_cons_zero, List.set_cons_succ]
  refine wpL_pure (.slice a1 n1 c1) rfl (by kernel_rfl) ?_
  simp only [Act.put, List.setIfInBounds_toArray, List.set_cons_zero, List.set_cons_succ]
  refine wpL_pure (.int .i64 (n1 : Int)) rfl (by kernel_rfl) ?_
  simp only [Act.put, List.setIfInBounds_toArray, List.set_cons_zero, List.set_cons_succ]
  refine wpL_pure (.int .i64 ((n1 : Nat) : Int)) rfl (run_addi Try.underlying3 rfl rfl rfl _ (by have := HN.out; rw [wrap_in _ (by omega) (by omega)]; omega)) ?_
  simp only [Act.put, List.setIfInBounds_toArray, List.set_cons_zero, List.set_cons_succ]
  refine wpL_pure (.int .i64 ((n1 : Nat) : Int)) rfl (by kernel_rfl) ?_
  simp only [Act.put, List.setIfInBounds_toArray, List.set_cons_zero, List.set_cons_succ]
  go_upto_region 6 with (fail)
  refine wp_region_lit ?_
  refine wpL_pure (.int .i64 ((n1 : Nat) : Int)) rfl (by kernel_rfl) ?_
  simp only [Act.put, List.setIfInBounds_toArray, List.set_cons_zero, List.set_cons_succ]
  refine wpL_pure (.bool false) rfl (run_lti Try.underlying3 rfl rfl rfl (by have := HN.out; rw [decide_eq_false_iff_not]; omega)) ?_
  simp only [Act.put, List.setIfInBounds_toArray, List.set_cons_zero, List.set_cons_succ]
  go_upto_region 8 with (fail)
  refine wp_region_lit ?_
  refine wpL_pure (.int .i64 1) rfl (by kernel_rfl) ?_
  simp only [Act.put, List.setIfInBounds_toArray, List.set_cons_zero, List.set_cons_succ]
  refine wpL_pure (.int .i64 1) rfl (by kernel_rfl) ?_
  simp only [Act.put, List.setIfInBounds_toArray, List.set_cons_zero, List.set_cons_succ]
  unfold wpList
  go_wp2_with fail
  rw [rounds_succ]
  go_upto_region 3 with (fail)
  refine wp_region_lit ?_
  refine wpL_pure (.bool true) rfl (by kernel_rfl) ?_
  simp only [Act.put, List.setIfInBounds_toArray, List.set_cons_zero, List.set_cons_succ]
  go_upto_region 4 with (fail)
  refine wp_region_lit ?_
  refine wpL_pure (.pointer (some ⟨gp, 1, none⟩)) rfl (by kernel_rfl) ?_
  simp only [Act.put, List.setIfInBounds_toArray, List.set_cons_zero, List.set_cons_succ]
  refine wpL_pure (.slice a2 n2 c2) rfl (run_load_one _ _ _ 26 _ _ rfl (gp) (1) rfl (by rw [HB.out.cell]; rfl) (by kernel_rfl)) ?_
  simp only [Act.put, List.setIfInBounds_toArray, List.set_cons_zero, List.set_cons_succ]
  refine wpL_pure (.slice a2 n2 c2) rfl (by kernel_rfl) ?_
  simp only [Act.put, List.setIfInBounds_toArray, List.set_cons_zero, List.set_cons_succ]
  go_upto_region 5 with (fail)
  refine wp_region_lit ?_
  refine wpL_pure (.int .i64 ((n1 : Nat) : Int)) rfl (by kernel_rfl) ?_
  simp only [Act.put, List.setIfInBounds_toArray, List.set_cons_zero, List.set_cons_succ]
  refine wpL_pure (.slice a2 n2 c2) rfl (by kernel_rfl) ?_
  simp only [Act.put, List.setIfInBounds_toArray, List.set_cons_zero, List.set_cons_succ]
  refine wpL_pure (.int .i64 (n2 : Int)) rfl (by kernel_rfl) ?_
  simp only [Act.put, List.setIfInBounds_toArray, List.set_cons_zero, List.set_cons_succ]
  refine wpL_pure (.int .i64 ((n1 + n2 : Nat) : Int)) rfl (run_addi Try.underlying3 rfl rfl rfl _ (by have := HN.out; rw [wrap_in _ (by omega) (by omega)]; omega)) ?_
  simp only [Act.put, List.setIfInBounds_toArray, List.set_cons_zero, List.set_cons_succ]
  refine wpL_pure (.int .i64 ((n1 + n2 : Nat) : Int)) rfl (by kernel_rfl) ?_
  simp only [Act.put, List.setIfInBounds_toArray, List.set_cons_zero, List.set_cons_succ]
  go_upto_region 6 with (fail)
  refine wp_region_lit ?_
  refine wpL_pure (.int .i64 ((n1 + n2 : Nat) : Int)) rfl (by kernel_rfl) ?_
  simp only [Act.put, List.setIfInBounds_toArray, List.set_cons_zero, List.set_cons_succ]
  refine wpL_pure (.bool false) rfl (run_lti Try.underlying3 rfl rfl rfl (by have := HN.out; rw [decide_eq_false_iff_not]; omega)) ?_
  simp only [Act.put, List.setIfInBounds_toArray, List.set_cons_zero, List.set_cons_succ]
  go_upto_region 8 with (fail)
  refine wp_region_lit ?_
  refine wpL_pure (.int .i64 2) rfl (by kernel_rfl) ?_
  simp only [Act.put, List.setIfInBounds_toArray, List.set_cons_zero, List.set_cons_succ]
  refine wpL_pure (.int .i64 2) rfl (by kernel_rfl) ?_
  simp only [Act.put, List.setIfInBounds_toArray, List.set_cons_zero, List.set_cons_succ]
  unfold wpList
  go_wp2_with fail
  rw [rounds_succ]
  go_upto_region 3 with (fail)
  refine wp_region_lit ?_
  refine wpL_pure (.bool false) rfl (by kernel_rfl) ?_
  simp only [Act.put, List.setIfInBounds_toArray, List.set_cons_zero, List.set_cons_succ]
  go_upto_region 9 with (fail)
  refine wp_region_lit ?_
  refine wpL_pure (.int .i64 ((n1 + n2 : Nat) : Int)) rfl (by kernel_rfl) ?_
  simp only [Act.put, List.setIfInBounds_toArray, List.set_cons_zero, List.set_cons_succ]
  refine wpL_call 62 #[.slice none 0 0, .int .i64 ((n1 + n2 : Nat) : Int)] rfl (by kernel_rfl) ((grow_any w (n1 + n2) ⟨by have := HN.out; omega, by have := HN.out; omega⟩).mono fun e W1 ⟨v1, he, hb, ho⟩ => ⟨v1, he, ?_⟩)
  simp only [Act.put, List.setIfInBounds_toArray, List.set_cons_zero, List.set_cons_succ]
  have F1 : Hid (Below w.heap.size w W1 ∧ Own W1 w.heap.size v1 [] ∧ Blk W1 gp 26 #[.slice a1 n1 c1, .slice a2 n2 c2] ∧ Row W1 a1 n1 xs ∧ Row W1 a2 n2 ys) := Lib.hid ⟨hb, ho, HB.out.below hb, HX.out.keep hb, HY.out.keep hb⟩
  clear hb ho
  refine wpL_pure (v1) rfl (by kernel_rfl) ?_
  simp only [Act.put, List.setIfInBounds_toArray, List.set_cons_zero, List.set_cons_succ]
  go_upto_region 10 with (fail)
  refine wp_region_lit ?_
  refine wpL_pure (.slice (some ⟨gp, 0, none⟩) 2 2) rfl (by kernel_rfl) ?_
  simp only [Act.put, List.setIfInBounds_toArray, List.set_cons_zero, List.set_cons_succ]
  refine wpL_pure (.int .i64 (2 : Int)) rfl (by kernel_rfl) ?_
  simp only [Act.put, List.setIfInBounds_toArray, List.set_cons_zero, List.set_cons_succ]
  refine wpL_pure (.int .i64 0) rfl (by kernel_rfl) ?_
  simp only [Act.put, List.setIfInBounds_toArray, List.set_cons_zero, List.set_cons_succ]
  unfold wpList
  go_wp2_with fail
  refine wp_loop_rounds 3 ?_
  rw [rounds_succ]
  go_upto_region 11 with (fail)
  refine wp_region_lit ?_
  refine wpL_pure (.bool true) rfl (by kernel_rfl) ?_
  simp only [Act.put, List.setIfInBounds_toArray, List.set_cons_zero, List.set_cons_succ]
  go_upto_region 12 with (fail)
  refine wp_region_lit ?_
  refine wpL_pure (.pointer (some ⟨gp, 0, none⟩)) rfl (by kernel_rfl) ?_
  simp only [Act.put, List.setIfInBounds_toArray, List.set_cons_zero, List.set_cons_succ]
  refine wpL_pure (.slice a1 n1 c1) rfl (run_load_one _ _ _ 26 _ _ rfl (gp) (0) rfl (by rw [F1.out.2.2.1.cell]; rfl) (by kernel_rfl)) ?_
  simp only [Act.put, List.setIfInBounds_toArray, List.set_cons_zero, List.set_cons_succ]
  refine wpL_pure (.slice a1 n1 c1) rfl (by kernel_rfl) ?_
  simp only [Act.put, List.setIfInBounds_toArray, List.set_cons_zero, List.set_cons_succ]
  go_upto_region 13 with (fail)
  refine wp_region_lit ?_
  refine wpL_pure (v1) rfl (by kernel_rfl) ?_
  simp only [Act.put, List.setIfInBounds_toArray, List.set_cons_zero, List.set_cons_succ]
  refine wpL_pure (.slice a1 n1 c1) rfl (by kernel_rfl) ?_
  simp only [Act.put, List.setIfInBounds_toArray, List.set_cons_zero, List.set_cons_succ]
  obtain ⟨v2, W2, r1, r2, r3, r4, r5⟩ := append_own W1 (w.heap.size) (v1) ([]) (xs) (a1) n1 c1 (F1.out.2.1) (F1.out.2.2.2.1) (by simp only [List.length_nil]; have := HN.out; omega) (F1.out.1.size)
  have R1 := Lib.hid r1
  have b0 : Below w.heap.size w W2 := F1.out.1.grown r3 F1.out.1.size (fun j hj => (F1.out.2.1.lt j hj).1)
  have F2 : Hid (Below w.heap.size w W2 ∧ Own W2 w.heap.size v2 ([] ++ xs) ∧ Blk W2 gp 26 #[.slice a1 n1 c1, .slice a2 n2 c2] ∧ Row W2 a1 n1 xs ∧ Row W2 a2 n2 ys) := Lib.hid ⟨b0, r2, HB.out.below b0, HX.out.keep b0, HY.out.keep b0⟩
  clear b0 F1
  clear r1 r2 r3 r4 r5
  refine wpL_value v2 W2 rfl (run_app _ _ _ _ _ _ _ _ _ rfl rfl rfl rfl R1.out) ?_
  simp only [Act.put, List.setIfInBounds_toArray, List.set_cons_zero, List.set_cons_succ]
  clear R1
  refine wpL_pure (v2) rfl (by kernel_rfl) ?_
  simp only [Act.put, List.setIfInBounds_toArray, List.set_cons_zero, List.set_cons_succ]
  go_upto_region 14 with (fail)
  refine wp_region_lit ?_
  refine wpL_pure (.int .i64 1) rfl (by kernel_rfl) ?_
  simp only [Act.put, List.setIfInBounds_toArray, List.set_cons_zero, List.set_cons_succ]
  refine wpL_pure (.int .i64 1) rfl (by kernel_rfl) ?_
  simp only [Act.put, List.setIfInBounds_toArray, List.set_cons_zero, List.set_cons_succ]
  unfold wpList
  go_wp2_with fail
  rw [rounds_succ]
  go_upto_region 11 with (fail)
  refine wp_region_lit ?_
  refine wpL_pure (.bool true) rfl (by kernel_rfl) ?_
  simp only [Act.put, List.setIfInBounds_toArray, List.set_cons_zero, List.set_cons_succ]
  go_upto_region 12 with (fail)
  refine wp_region_lit ?_
  refine wpL_pure (.pointer (some ⟨gp, 1, none⟩)) rfl (by kernel_rfl) ?_
  simp only [Act.put, List.setIfInBounds_toArray, List.set_cons_zero, List.set_cons_succ]
  refine wpL_pure (.slice a2 n2 c2) rfl (run_load_one _ _ _ 26 _ _ rfl (gp) (1) rfl (by rw [F2.out.2.2.1.cell]; rfl) (by kernel_rfl)) ?_
  simp only [Act.put, List.setIfInBounds_toArray, List.set_cons_zero, List.set_cons_succ]
  refine wpL_pure (.slice a2 n2 c2) rfl (by kernel_rfl) ?_
  simp only [Act.put, List.setIfInBounds_toArray, List.set_cons_zero, List.set_cons_succ]
  go_upto_region 13 with (fail)
  refine wp_region_lit ?_
  refine wpL_pure (v2) rfl (by kernel_rfl) ?_
  simp only [Act.put, List.setIfInBounds_toArray, List.set_cons_zero, List.set_cons_succ]
  refine wpL_pure (.slice a2 n2 c2) rfl (by kernel_rfl) ?_
  simp only [Act.put, List.setIfInBounds_toArray, List.set_cons_zero, List.set_cons_succ]
  obtain ⟨v3, W3, r1, r2, r3, r4, r5⟩ := append_own W2 (w.heap.size) (v2) (([] ++ xs)) (ys) (a2) n2 c2 (F2.out.2.1) (F2.out.2.2.2.2) (by simp only [List.length_append, List.length_nil]; have := HN.out; have := HX.out.1; omega) (F2.out.1.size)
  have R1 := Lib.hid r1
  have b1 : Below w.heap.size w W3 := F2.out.1.grown r3 F2.out.1.size (fun j hj => (F2.out.2.1.lt j hj).1)
  have F3 : Hid (Below w.heap.size w W3 ∧ Own W3 w.heap.size v3 (([] ++ xs) ++ ys) ∧ Blk W3 gp 26 #[.slice a1 n1 c1, .slice a2 n2 c2] ∧ Row W3 a1 n1 xs ∧ Row W3 a2 n2 ys) := Lib.hid ⟨b1, r2, HB.out.below b1, HX.out.keep b1, HY.out.keep b1⟩
  clear b1 F2
  clear r1 r2 r3 r4 r5
  refine wpL_value v3 W3 rfl (run_app _ _ _ _ _ _ _ _ _ rfl rfl rfl rfl R1.out) ?_
  simp only [Act.put, List.setIfInBounds_toArray, List.set_cons_zero, List.set_cons_succ]
  clear R1
  refine wpL_pure (v3) rfl (by kernel_rfl) ?_
  simp only [Act.put, List.setIfInBounds_toArray, List.set_cons_zero, List.set_cons_succ]
  go_upto_region 14 with (fail)
  refine wp_region_lit ?_
  refine wpL_pure (.int .i64 2) rfl (by kernel_rfl) ?_
  simp only [Act.put, List.setIfInBounds_toArray, List.set_cons_zero, List.set_cons_succ]
  refine wpL_pure (.int .i64 2) rfl (by kernel_rfl) ?_
  simp only [Act.put, List.setIfInBounds_toArray, List.set_cons_zero, List.set_cons_succ]
  unfold wpList
  go_wp2_with fail
  rw [rounds_succ]
  go_upto_region 11 with (fail)
  refine wp_region_lit ?_
  refine wpL_pure (.bool false) rfl (by kernel_rfl) ?_
  simp only [Act.put, List.setIfInBounds_toArray, List.set_cons_zero, List.set_cons_succ]
  go_upto_region 15 with (fail)
  refine wp_region_lit ?_
  refine wpL_pure (v3) rfl (by kernel_rfl) ?_
  simp only [Act.put, List.setIfInBounds_toArray, List.set_cons_zero, List.set_cons_succ]
  refine wpL_pure (v3) rfl (by kernel_rfl) ?_
  simp only [Act.put, List.setIfInBounds_toArray, List.set_cons_zero, List.set_cons_succ]
  go_wp2_with fail
  go_ret
  exact ⟨_, rfl, F3.out.1, by have q := F3.out.2.1; rw [List.nil_append] at q; exact q⟩
end Go.Proofs.Yteabblmhcjpboaa.D
