/- 'SealNonces'. -/
import Derived.Test.YtlbfohpkngmaoaaS5n
import Derived.Test.YtlbfohpkngmaoaaChHeld
import Derived.OpenShut
namespace Go.Proofs.Ytlbfohpkngmaoaa.Ch.B.Se
open Go Go.RowKit
attribute [local irreducible] wpList wpAny
set_option maxHeartbeats 1500000 in
set_option maxRecDepth 100000 in
theorem nonces_any (a b s t : Nat) (hb : a < 4294967296 ∧ b < 4294967296 ∧ s < 18446744073709551616 ∧ t < 18446744073709551616) (w : World) :
    Calls Try.prog 3 #[.agg #[.int .u32 ((a : Nat) : Int), .int .u32 ((b : Nat) : Int)], .agg #[.int .u64 ((s : Nat) : Int), .int .u64 ((t : Nat) : Int)]] w fun e w' => e = .returned (.bool true) ∧ Below w.heap.size w w' := by
  have HB := Lib.hid hb
  clear hb
  go_enter Try.func3, Try.ntmps3
  go_upto_region 1 with (fail)
  obtain ⟨W1, hW1⟩ : ∃ V, V = (w.alloc (.cells #[.int .u32 ((a : Nat) : Int), .int .u32 ((b : Nat) : Int)] 23)).alloc (.cells #[.int .u64 ((s : Nat) : Int), .int .u64 ((t : Nat) : Int)] 25) := ⟨_, rfl⟩
  rw [← hW1]
  have F1 : Hid (Below w.heap.size w W1.drew ∧ Blk W1.drew w.heap.size 23 #[.int .u32 ((a : Nat) : Int), .int .u32 ((b : Nat) : Int)] ∧ Blk W1.drew (w.heap.size + 1) 25 #[.int .u64 ((s : Nat) : Int), .int .u64 ((t : Nat) : Int)]) := Lib.hid (by
    rw [hW1]
    exact ⟨(((Below.refl _ _).alloc (Nat.le_refl _) _).alloc (by simp) _).drew, (Blk.new _ _ _).alloc _, Blk.new' _ _ _ _ (by simp)⟩)
  clear hW1
  generalize w.heap.size + 1 = g3 at *
  obtain ⟨g2, hg2⟩ : ∃ q, w.heap.size = q := ⟨_, rfl⟩
  have G2 : Hid (w.heap.size = g2) := Lib.hid hg2
  rw [hg2] at F1
  rw [hg2]
  clear hg2
  go_upto_region 1 with (fail)
  refine region_held_all (fun X => Below g2 w X ∧ Blk X g2 23 #[.int .u32 ((a : Nat) : Int), .int .u32 ((b : Nat) : Int)] ∧ Blk X g3 25 #[.int .u64 ((s : Nat) : Int), .int .u64 ((t : Nat) : Int)]) (by kernel_rfl) (by kernel_rfl) (F1.out) ?_
  refine wpHeld_cons (.pointer (some ⟨g2, 0, none⟩)) rfl (fun w h => heldRun_value (by kernel_rfl) h) ?_
  simp only [Act.put, List.setIfInBounds_toArray, List.set_cons_zero, List.set_cons_succ]
  refine wpHeld_cons (.int .u32 ((a : Nat) : Int)) rfl (fun w h => heldRun_value (run_load_one _ _ _ 22 _ _ rfl (g2) (0) rfl (by rw [h.2.1.cell]; rfl) (by kernel_rfl)) h) ?_
  simp only [Act.put, List.setIfInBounds_toArray, List.set_cons_zero, List.set_cons_succ]
  refine wpHeld_cons (.pointer (some ⟨g2, 1, none⟩)) rfl (fun w h => heldRun_value (by kernel_rfl) h) ?_
  simp only [Act.put, List.setIfInBounds_toArray, List.set_cons_zero, List.set_cons_succ]
  refine wpHeld_cons (.int .u32 ((b : Nat) : Int)) rfl (fun w h => heldRun_value (run_load_one _ _ _ 22 _ _ rfl (g2) (1) rfl (by rw [h.2.1.cell]; rfl) (by kernel_rfl)) h) ?_
  simp only [Act.put, List.setIfInBounds_toArray, List.set_cons_zero, List.set_cons_succ]
  refine wpHeld_cons (.pointer (some ⟨g3, 0, none⟩)) rfl (fun w h => heldRun_value (by kernel_rfl) h) ?_
  simp only [Act.put, List.setIfInBounds_toArray, List.set_cons_zero, List.set_cons_succ]
  refine wpHeld_cons (.int .u64 ((s : Nat) : Int)) rfl (fun w h => heldRun_value (run_load_one _ _ _ 24 _ _ rfl (g3) (0) rfl (by rw [h.2.2.cell]; rfl) (by kernel_rfl)) h) ?_
  simp only [Act.put, List.setIfInBounds_toArray, List.set_cons_zero, List.set_cons_succ]
  refine wpHeld_cons (.pointer (some ⟨g3, 1, none⟩)) rfl (fun w h => heldRun_value (by kernel_rfl) h) ?_
  simp only [Act.put, List.setIfInBounds_toArray, List.set_cons_zero, List.set_cons_succ]
  refine wpHeld_cons (.int .u64 ((t : Nat) : Int)) rfl (fun w h => heldRun_value (run_load_one _ _ _ 24 _ _ rfl (g3) (1) rfl (by rw [h.2.2.cell]; rfl) (by kernel_rfl)) h) ?_
  simp only [Act.put, List.setIfInBounds_toArray, List.set_cons_zero, List.set_cons_succ]
  refine wpHeld_cons (.int .u32 ((a : Nat) : Int)) rfl (fun w h => heldRun_value (by kernel_rfl) h) ?_
  simp only [Act.put, List.setIfInBounds_toArray, List.set_cons_zero, List.set_cons_succ]
  refine wpHeld_cons (.int .u32 ((b : Nat) : Int)) rfl (fun w h => heldRun_value (by kernel_rfl) h) ?_
  simp only [Act.put, List.setIfInBounds_toArray, List.set_cons_zero, List.set_cons_succ]
  refine wpHeld_cons (.int .u64 ((s : Nat) : Int)) rfl (fun w h => heldRun_value (by kernel_rfl) h) ?_
  simp only [Act.put, List.setIfInBounds_toArray, List.set_cons_zero, List.set_cons_succ]
  refine wpHeld_cons (.int .u64 ((t : Nat) : Int)) rfl (fun w h => heldRun_value (by kernel_rfl) h) ?_
  simp only [Act.put, List.setIfInBounds_toArray, List.set_cons_zero, List.set_cons_succ]
  refine wpHeld_nil ?_
  intro W2 h1
  have F2 : Hid (Below g2 w W2) := Lib.hid h1.1
  clear h1 F1
  unfold wpList
  go_upto_region 2 with (fail)
  refine wp_region_lit ?_
  refine wpL_pure (.int .u32 ((a : Nat) : Int)) rfl (by kernel_rfl) ?_
  simp only [Act.put, List.setIfInBounds_toArray, List.set_cons_zero, List.set_cons_succ]
  refine wpL_pure (.int .i64 ((a : Nat) : Int)) rfl (run_convi Try.underlying22 Try.underlying3 rfl rfl _ (by have := HB.out; rw [wrap_in _ (by omega) (by omega)])) ?_
  simp only [Act.put, List.setIfInBounds_toArray, List.set_cons_zero, List.set_cons_succ]
  refine wpL_pure (.int .u64 ((s : Nat) : Int)) rfl (by kernel_rfl) ?_
  simp only [Act.put, List.setIfInBounds_toArray, List.set_cons_zero, List.set_cons_succ]
  refine wpL_call 5 #[.int .i64 ((a : Nat) : Int), .int .u64 ((s : Nat) : Int)] rfl (by kernel_rfl) (((nonce_any ((a : Nat) : Int) a s (by have := HB.out; omega) (by have := HB.out; omega) W2)).mono fun e W3 ⟨he, b7⟩ => ⟨.agg (ub (nonceL a s)).toArray, he, ?_⟩)
  simp only [Act.put, List.setIfInBounds_toArray, List.set_cons_zero, List.set_cons_succ]
  have F3 : Hid (Below g2 w W3) := Lib.hid (F2.out.trans (b7.mono (by have := F2.out.size; have := G2.out; omega)))
  clear b7
  refine wpL_pure (.int .u32 ((b : Nat) : Int)) rfl (by kernel_rfl) ?_
  simp only [Act.put, List.setIfInBounds_toArray, List.set_cons_zero, List.set_cons_succ]
  refine wpL_pure (.int .i64 ((b : Nat) : Int)) rfl (run_convi Try.underlying22 Try.underlying3 rfl rfl _ (by have := HB.out; rw [wrap_in _ (by omega) (by omega)])) ?_
  simp only [Act.put, List.setIfInBounds_toArray, List.set_cons_zero, List.set_cons_succ]
  refine wpL_pure (.int .u64 ((t : Nat) : Int)) rfl (by kernel_rfl) ?_
  simp only [Act.put, List.setIfInBounds_toArray, List.set_cons_zero, List.set_cons_succ]
  refine wpL_call 5 #[.int .i64 ((b : Nat) : Int), .int .u64 ((t : Nat) : Int)] rfl (by kernel_rfl) (((nonce_any ((b : Nat) : Int) b t (by have := HB.out; omega) (by have := HB.out; omega) W3)).mono fun e W4 ⟨he, b7⟩ => ⟨.agg (ub (nonceL b t)).toArray, he, ?_⟩)
  simp only [Act.put, List.setIfInBounds_toArray, List.set_cons_zero, List.set_cons_succ]
  have F4 : Hid (Below g2 w W4) := Lib.hid (F3.out.trans (b7.mono (by have := F3.out.size; have := G2.out; omega)))
  clear b7
  obtain ⟨W5, hW5⟩ : ∃ V, V = W4.alloc (.cells (ub (List.replicate 12 0)).toArray 26) := ⟨_, rfl⟩
  refine wpL_value (.pointer (some ⟨W4.heap.size, 0, none⟩)) W5 rfl (by rw [hW5]; kernel_rfl) ?_
  simp only [Act.put, List.setIfInBounds_toArray, List.set_cons_zero, List.set_cons_succ]
  have F5 : Hid (Below g2 w W5 ∧ Blk W5 W4.heap.size 26 (ub (List.replicate 12 0)).toArray ∧ g2 ≤ W4.heap.size) := Lib.hid (by rw [hW5]; exact ⟨F4.out.alloc (by have := F4.out.size; have := G2.out; omega) _, Blk.new _ _ _, (by have := F4.out.size; have := G2.out; omega)⟩)
  clear hW5 F4
  generalize W4.heap.size = g9 at *
  obtain ⟨W6, hW6⟩ : ∃ V, V = W5.alloc (.cells (ub (List.replicate 12 0)).toArray 26) := ⟨_, rfl⟩
  refine wpL_value (.pointer (some ⟨W5.heap.size, 0, none⟩)) W6 rfl (by rw [hW6]; kernel_rfl) ?_
  simp only [Act.put, List.setIfInBounds_toArray, List.set_cons_zero, List.set_cons_succ]
  have F6 : Hid (Below g2 w W6 ∧ Blk W6 g9 26 (ub (List.replicate 12 0)).toArray ∧ Blk W6 W5.heap.size 26 (ub (List.replicate 12 0)).toArray ∧ g2 ≤ g9 ∧ g9 < W5.heap.size) := Lib.hid (by rw [hW6]; exact ⟨F5.out.1.alloc (by have := F5.out.1.size; have := G2.out; omega) _, F5.out.2.1.alloc _, Blk.new _ _ _, F5.out.2.2, F5.out.2.1.lt⟩)
  clear hW6 F5
  generalize W5.heap.size = ga at *
  refine wpList_store_rowTo rfl 26 _ _ rfl rfl g9 (ub (nonceL a s)).toArray rfl rfl 26 _ (F6.out.2.1) (by simp only [List.size_toArray, ub_len, nonceL_len]; kernel_rfl) (by simp only [List.size_toArray, ub_len, nonceL_len, List.length_replicate]) (ub_one _) ?_
  obtain ⟨W7, hW7⟩ : ∃ V, V = W6.setRow g9 (ub (nonceL a s)).toArray := ⟨_, rfl⟩
  rw [← hW7]
  have F7 : Hid (Below g2 w W7 ∧ Blk W7 g9 26 (ub (nonceL a s)).toArray ∧ Blk W7 ga 26 (ub (List.replicate 12 0)).toArray ∧ g2 ≤ g9 ∧ g9 < ga) := Lib.hid (by rw [hW7]; exact ⟨below_setRow F6.out.1 F6.out.2.2.2.1 _, setRow_heap _ _ _ _ _ _ F6.out.2.1, (setRow_other _ _ _ _ (Nat.ne_of_gt F6.out.2.2.2.2)).trans F6.out.2.2.1, F6.out.2.2.2⟩)
  clear hW7 F6
  refine wpList_store_rowTo rfl 26 _ _ rfl rfl ga (ub (nonceL b t)).toArray rfl rfl 26 _ (F7.out.2.2.1) (by simp only [List.size_toArray, ub_len, nonceL_len]; kernel_rfl) (by simp only [List.size_toArray, ub_len, nonceL_len, List.length_replicate]) (ub_one _) ?_
  obtain ⟨W8, hW8⟩ : ∃ V, V = W7.setRow ga (ub (nonceL b t)).toArray := ⟨_, rfl⟩
  rw [← hW8]
  have F8 : Hid (Below g2 w W8.drew ∧ Blk W8.drew g9 26 (ub (nonceL a s)).toArray ∧ Blk W8.drew ga 26 (ub (nonceL b t)).toArray) := Lib.hid (by rw [hW8]; exact ⟨(below_setRow F7.out.1 (Nat.le_trans F7.out.2.2.2.1 (Nat.le_of_lt F7.out.2.2.2.2)) _).drew, (setRow_other _ _ _ _ (Nat.ne_of_lt F7.out.2.2.2.2)).trans F7.out.2.1, setRow_heap _ _ _ _ _ _ F7.out.2.2.1⟩)
  clear hW8 F7
  by_cases hab : a = b
  · have EAB := Lib.hid hab
    by_cases hst : s = t
    · have EST := Lib.hid hst
      clear hab hst
      go_upto_region 3 with (fail)
      refine region_any (by kernel_rfl) 23 rfl ?_
      refine wpAny_all (rs := [0]) (by kernel_rfl) (by simp) ?_
      intro i hi
      simp only [List.mem_cons, List.not_mem_nil, or_false] at hi
      subst hi
      refine op_call (o := ⟨some 27, _, _, _, _, _⟩) 6 #[] rfl rfl (by kernel_rfl) (((awake_any W8.drew)).mono fun e z1 ⟨he, qz1⟩ => ⟨.bool true, he, ?_⟩)
      simp only [Act.put, List.setIfInBounds_toArray, List.set_cons_zero, List.set_cons_succ]
      have Fz1 := Lib.hid (show Below g2 w z1 ∧ Blk z1 g9 26 (ub (nonceL a s)).toArray ∧ Blk z1 ga 26 (ub (nonceL b t)).toArray from ⟨F8.out.1.trans (qz1.mono (by have h1 := F8.out.1.size; have h2 := G2.out; omega)), F8.out.2.1.below qz1, F8.out.2.2.below qz1⟩)
      clear qz1
      refine wpAny_take (i := 1) (oi := ⟨some 28, _, _, _, _, _⟩) (v := (.bool true)) rfl (by kernel_rfl) (by kernel_rfl) (by kernel_rfl) (fun _ _ _ h => h) (Or.inl ⟨rfl, fun w => by kernel_rfl⟩) ?_
      simp only [Act.put, List.setIfInBounds_toArray, List.set_cons_zero, List.set_cons_succ]
      refine wpAny_take (i := 5) (oi := ⟨some 32, _, _, _, _, _⟩) (v := (.int .u32 ((a : Nat) : Int))) rfl (by kernel_rfl) (by kernel_rfl) (by kernel_rfl) (fun _ _ _ h => h) (Or.inl ⟨rfl, fun w => by kernel_rfl⟩) ?_
      simp only [Act.put, List.setIfInBounds_toArray, List.set_cons_zero, List.set_cons_succ]
      refine wpAny_take (i := 6) (oi := ⟨some 33, _, _, _, _, _⟩) (v := (.int .u32 ((b : Nat) : Int))) rfl (by kernel_rfl) (by kernel_rfl) (by kernel_rfl) (fun _ _ _ h => h) (Or.inl ⟨rfl, fun w => by kernel_rfl⟩) ?_
      simp only [Act.put, List.setIfInBounds_toArray, List.set_cons_zero, List.set_cons_succ]
      refine wpAny_take (i := 7) (oi := ⟨some 34, _, _, _, _, _⟩) (v := (.bool true)) rfl (by kernel_rfl) (by kernel_rfl) (by kernel_rfl) (fun _ _ _ h => h) (Or.inl ⟨rfl, fun w => run_eqi Try.underlying22 rfl rfl rfl (by have := EAB.out; rw [decide_eq_true_eq]; omega)⟩) ?_
      simp only [Act.put, List.setIfInBounds_toArray, List.set_cons_zero, List.set_cons_succ]
      refine wpAny_take (i := 8) (oi := ⟨some 35, _, _, _, _, _⟩) (v := (.bool true)) rfl (by kernel_rfl) (by kernel_rfl) (by kernel_rfl) (fun _ _ _ h => h) (Or.inl ⟨rfl, fun w => by kernel_rfl⟩) ?_
      simp only [Act.put, List.setIfInBounds_toArray, List.set_cons_zero, List.set_cons_succ]
      refine wpAny_take (i := 9) (oi := ⟨some 36, _, _, _, _, _⟩) (v := (.int .u64 ((s : Nat) : Int))) rfl (by kernel_rfl) (by kernel_rfl) (by kernel_rfl) (fun _ _ _ h => h) (Or.inl ⟨rfl, fun w => by kernel_rfl⟩) ?_
      simp only [Act.put, List.setIfInBounds_toArray, List.set_cons_zero, List.set_cons_succ]
      refine wpAny_take (i := 10) (oi := ⟨some 37, _, _, _, _, _⟩) (v := (.int .u64 ((t : Nat) : Int))) rfl (by kernel_rfl) (by kernel_rfl) (by kernel_rfl) (fun _ _ _ h => h) (Or.inl ⟨rfl, fun w => by kernel_rfl⟩) ?_
      simp only [Act.put, List.setIfInBounds_toArray, List.set_cons_zero, List.set_cons_succ]
      refine wpAny_take (i := 11) (oi := ⟨some 38, _, _, _, _, _⟩) (v := (.bool true)) rfl (by kernel_rfl) (by kernel_rfl) (by kernel_rfl) (fun _ _ _ h => h) (Or.inl ⟨rfl, fun w => run_eqi Try.underlying24 rfl rfl rfl (by have := EST.out; rw [decide_eq_true_eq]; omega)⟩) ?_
      simp only [Act.put, List.setIfInBounds_toArray, List.set_cons_zero, List.set_cons_succ]
      refine wpAny_take (i := 12) (oi := ⟨some 39, _, _, _, _, _⟩) (v := (.bool true)) rfl (by kernel_rfl) (by kernel_rfl) (by kernel_rfl) (fun _ _ _ h => h) (Or.inl ⟨rfl, fun w => by kernel_rfl⟩) ?_
      simp only [Act.put, List.setIfInBounds_toArray, List.set_cons_zero, List.set_cons_succ]
      refine wpAny_all (rs := [2, 3]) (by kernel_rfl) (by simp) ?_
      intro i hi
      simp only [List.mem_cons, List.not_mem_nil, or_false] at hi
      rcases hi with rfl | rfl
      · refine op_val (o := ⟨some 29, _, _, _, _, _⟩) (.agg (ub (nonceL a s)).toArray) rfl rfl (run_load_mid _ _ _ 26 _ rfl g9 0 rfl (ub (nonceL a s)) _ (blk_rangeC (Fz1.out.2.1)) Try.underlying26 rfl (by rw [ub_len, nonceL_len]; kernel_rfl)) ?_
        simp only [Act.put, List.setIfInBounds_toArray, List.set_cons_zero, List.set_cons_succ]
        refine wpAny_all (rs := [3]) (by kernel_rfl) (by simp) ?_
        intro i hi
        simp only [List.mem_cons, List.not_mem_nil, or_false] at hi
        subst hi
        refine op_val (o := ⟨some 30, _, _, _, _, _⟩) (.agg (ub (nonceL b t)).toArray) rfl rfl (run_load_mid _ _ _ 26 _ rfl ga 0 rfl (ub (nonceL b t)) _ (blk_rangeC (Fz1.out.2.2)) Try.underlying26 rfl (by rw [ub_len, nonceL_len]; kernel_rfl)) ?_
        simp only [Act.put, List.setIfInBounds_toArray, List.set_cons_zero, List.set_cons_succ]
        refine wpAny_take (i := 4) (oi := ⟨some 31, _, _, _, _, _⟩) (v := (.bool true)) rfl (by kernel_rfl) (by kernel_rfl) (by kernel_rfl) (fun _ _ _ h => h) (Or.inl ⟨rfl, fun w => run_eq12 _ _ _ _ _ (nonceL a s) (nonceL b t) true (nonceL_len _ _) (nonceL_len _ _) rfl rfl rfl (by rw [EAB.out, EST.out]; simp)⟩) ?_
        simp only [Act.put, List.setIfInBounds_toArray, List.set_cons_zero, List.set_cons_succ]
        refine wpAny_take (i := 13) (oi := ⟨some 40, _, _, _, _, _⟩) (v := (.bool true)) rfl (by kernel_rfl) (by kernel_rfl) (by kernel_rfl) (fun _ _ _ h => h) (Or.inl ⟨rfl, fun w => by kernel_rfl⟩) ?_
        simp only [Act.put, List.setIfInBounds_toArray, List.set_cons_zero, List.set_cons_succ]
        refine wpAny_take (i := 14) (oi := ⟨some 41, _, _, _, _, _⟩) (v := (.bool true)) rfl (by kernel_rfl) (by kernel_rfl) (by kernel_rfl) (fun _ _ _ h => h) (Or.inl ⟨rfl, fun w => by kernel_rfl⟩) ?_
        simp only [Act.put, List.setIfInBounds_toArray, List.set_cons_zero, List.set_cons_succ]
        refine wpAny_take (i := 15) (oi := ⟨some 42, _, _, _, _, _⟩) (v := (.bool true)) rfl (by kernel_rfl) (by kernel_rfl) (by kernel_rfl) (fun _ _ _ h => h) (Or.inl ⟨rfl, fun w => by kernel_rfl⟩) ?_
        simp only [Act.put, List.setIfInBounds_toArray, List.set_cons_zero, List.set_cons_succ]
        refine wpAny_take (i := 17) (oi := ⟨some 44, _, _, _, _, _⟩) (v := (.int .u32 ((a : Nat) : Int))) rfl (by kernel_rfl) (by kernel_rfl) (by kernel_rfl) (fun _ _ _ h => h) (Or.inl ⟨rfl, fun w => by kernel_rfl⟩) ?_
        simp only [Act.put, List.setIfInBounds_toArray, List.set_cons_zero, List.set_cons_succ]
        refine wpAny_take (i := 18) (oi := ⟨some 45, _, _, _, _, _⟩) (v := (.int .u64 ((s : Nat) : Int))) rfl (by kernel_rfl) (by kernel_rfl) (by kernel_rfl) (fun _ _ _ h => h) (Or.inl ⟨rfl, fun w => by kernel_rfl⟩) ?_
        simp only [Act.put, List.setIfInBounds_toArray, List.set_cons_zero, List.set_cons_succ]
        refine wpAny_all (rs := [16, 19]) (by kernel_rfl) (by simp) ?_
        intro i hi
        simp only [List.mem_cons, List.not_mem_nil, or_false] at hi
        rcases hi with rfl | rfl
        · refine op_val (o := ⟨some 43, _, _, _, _, _⟩) (.agg (ub (nonceL a s)).toArray) rfl rfl (run_load_mid _ _ _ 26 _ rfl g9 0 rfl (ub (nonceL a s)) _ (blk_rangeC (Fz1.out.2.1)) Try.underlying26 rfl (by rw [ub_len, nonceL_len]; kernel_rfl)) ?_
          simp only [Act.put, List.setIfInBounds_toArray, List.set_cons_zero, List.set_cons_succ]
          refine wpAny_all (rs := [19]) (by kernel_rfl) (by simp) ?_
          intro i hi
          simp only [List.mem_cons, List.not_mem_nil, or_false] at hi
          subst hi
          refine op_call (o := ⟨some 46, _, _, _, _, _⟩) 7 #[.int .u32 ((a : Nat) : Int), .int .u64 ((s : Nat) : Int)] rfl rfl (by kernel_rfl) (((refnonce_any a s (by have := HB.out; omega) (by have := HB.out; omega) z1)).mono fun e z5 ⟨he, qz5⟩ => ⟨.agg (ub (nonceL a s)).toArray, he, ?_⟩)
          simp only [Act.put, List.setIfInBounds_toArray, List.set_cons_zero, List.set_cons_succ]
          have Fz5 := Lib.hid (show Below g2 w z5 ∧ Blk z5 g9 26 (ub (nonceL a s)).toArray ∧ Blk z5 ga 26 (ub (nonceL b t)).toArray from ⟨Fz1.out.1.trans (qz5.mono (by have h1 := Fz1.out.1.size; have h2 := G2.out; omega)), Fz1.out.2.1.below qz5, Fz1.out.2.2.below qz5⟩)
          clear qz5
          refine wpAny_take (i := 20) (oi := ⟨some 47, _, _, _, _, _⟩) (v := (.bool true)) rfl (by kernel_rfl) (by kernel_rfl) (by kernel_rfl) (fun _ _ _ h => h) (Or.inl ⟨rfl, fun w => run_eq12 _ _ _ _ _ (nonceL a s) (nonceL a s) true (nonceL_len _ _) (nonceL_len _ _) rfl rfl rfl (by simp)⟩) ?_
          simp only [Act.put, List.setIfInBounds_toArray, List.set_cons_zero, List.set_cons_succ]
          refine wpAny_take (i := 21) (oi := ⟨some 48, _, _, _, _, _⟩) (v := (.bool true)) rfl (by kernel_rfl) (by kernel_rfl) (by kernel_rfl) (fun _ _ _ h => h) (Or.inl ⟨rfl, fun w => by kernel_rfl⟩) ?_
          simp only [Act.put, List.setIfInBounds_toArray, List.set_cons_zero, List.set_cons_succ]
          refine wpAny_take (i := 22) (oi := ⟨some 4, _, _, _, _, _⟩) (v := (.bool true)) rfl (by kernel_rfl) (by kernel_rfl) (by kernel_rfl) (fun _ _ _ h => h) (Or.inl ⟨rfl, fun w => by kernel_rfl⟩) ?_
          simp only [Act.put, List.setIfInBounds_toArray, List.set_cons_zero, List.set_cons_succ]
          refine wpAny_done (by kernel_rfl) ?_ _
          go_wp2_with fail
          go_ret
          exact ⟨rfl, by rw [G2.out]; exact Fz5.out.1⟩
        · refine op_call (o := ⟨some 46, _, _, _, _, _⟩) 7 #[.int .u32 ((a : Nat) : Int), .int .u64 ((s : Nat) : Int)] rfl rfl (by kernel_rfl) (((refnonce_any a s (by have := HB.out; omega) (by have := HB.out; omega) z1)).mono fun e z6 ⟨he, qz6⟩ => ⟨.agg (ub (nonceL a s)).toArray, he, ?_⟩)
          simp only [Act.put, List.setIfInBounds_toArray, List.set_cons_zero, List.set_cons_succ]
          have Fz6 := Lib.hid (show Below g2 w z6 ∧ Blk z6 g9 26 (ub (nonceL a s)).toArray ∧ Blk z6 ga 26 (ub (nonceL b t)).toArray from ⟨Fz1.out.1.trans (qz6.mono (by have h1 := Fz1.out.1.size; have h2 := G2.out; omega)), Fz1.out.2.1.below qz6, Fz1.out.2.2.below qz6⟩)
          clear qz6
          refine wpAny_all (rs := [16]) (by kernel_rfl) (by simp) ?_
          intro i hi
          simp only [List.mem_cons, List.not_mem_nil, or_false] at hi
          subst hi
          refine op_val (o := ⟨some 43, _, _, _, _, _⟩) (.agg (ub (nonceL a s)).toArray) rfl rfl (run_load_mid _ _ _ 26 _ rfl g9 0 rfl (ub (nonceL a s)) _ (blk_rangeC (Fz6.out.2.1)) Try.underlying26 rfl (by rw [ub_len, nonceL_len]; kernel_rfl)) ?_
          simp only [Act.put, List.setIfInBounds_toArray, List.set_cons_zero, List.set_cons_succ]
          refine wpAny_take (i := 20) (oi := ⟨some 47, _, _, _, _, _⟩) (v := (.bool true)) rfl (by kernel_rfl) (by kernel_rfl) (by kernel_rfl) (fun _ _ _ h => h) (Or.inl ⟨rfl, fun w => run_eq12 _ _ _ _ _ (nonceL a s) (nonceL a s) true (nonceL_len _ _) (nonceL_len _ _) rfl rfl rfl (by simp)⟩) ?_
          simp only [Act.put, List.setIfInBounds_toArray, List.set_cons_zero, List.set_cons_succ]
          refine wpAny_take (i := 21) (oi := ⟨some 48, _, _, _, _, _⟩) (v := (.bool true)) rfl (by kernel_rfl) (by kernel_rfl) (by kernel_rfl) (fun _ _ _ h => h) (Or.inl ⟨rfl, fun w => by kernel_rfl⟩) ?_
          simp only [Act.put, List.setIfInBounds_toArray, List.set_cons_zero, List.set_cons_succ]
          refine wpAny_take (i := 22) (oi := ⟨some 4, _, _, _, _, _⟩) (v := (.bool true)) rfl (by kernel_rfl) (by kernel_rfl) (by kernel_rfl) (fun _ _ _ h => h) (Or.inl ⟨rfl, fun w => by kernel_rfl⟩) ?_
          simp only [Act.put, List.setIfInBounds_toArray, List.set_cons_zero, List.set_cons_succ]
          refine wpAny_done (by kernel_rfl) ?_ _
          go_wp2_with fail
          go_ret
          exact ⟨rfl, by rw [G2.out]; exact Fz6.out.1⟩
      · refine op_val (o := ⟨some 30, _, _, _, _, _⟩) (.agg (ub (nonceL b t)).toArray) rfl rfl (run_load_mid _ _ _ 26 _ rfl ga 0 rfl (ub (nonceL b t)) _ (blk_rangeC (Fz1.out.2.2)) Try.underlying26 rfl (by rw [ub_len, nonceL_len]; kernel_rfl)) ?_
        simp only [Act.put, List.setIfInBounds_toArray, List.set_cons_zero, List.set_cons_succ]
        refine wpAny_all (rs := [2]) (by kernel_rfl) (by simp) ?_
        intro i hi
        simp only [List.mem_cons, List.not_mem_nil, or_false] at hi
        subst hi
        refine op_val (o := ⟨some 29, _, _, _, _, _⟩) (.agg (ub (nonceL a s)).toArray) rfl rfl (run_load_mid _ _ _ 26 _ rfl g9 0 rfl (ub (nonceL a s)) _ (blk_rangeC (Fz1.out.2.1)) Try.underlying26 rfl (by rw [ub_len, nonceL_len]; kernel_rfl)) ?_
        simp only [Act.put, List.setIfInBounds_toArray, List.set_cons_zero, List.set_cons_succ]
        refine wpAny_take (i := 4) (oi := ⟨some 31, _, _, _, _, _⟩) (v := (.bool true)) rfl (by kernel_rfl) (by kernel_rfl) (by kernel_rfl) (fun _ _ _ h => h) (Or.inl ⟨rfl, fun w => run_eq12 _ _ _ _ _ (nonceL a s) (nonceL b t) true (nonceL_len _ _) (nonceL_len _ _) rfl rfl rfl (by rw [EAB.out, EST.out]; simp)⟩) ?_
        simp only [Act.put, List.setIfInBounds_toArray, List.set_cons_zero, List.set_cons_succ]
        refine wpAny_take (i := 13) (oi := ⟨some 40, _, _, _, _, _⟩) (v := (.bool true)) rfl (by kernel_rfl) (by kernel_rfl) (by kernel_rfl) (fun _ _ _ h => h) (Or.inl ⟨rfl, fun w => by kernel_rfl⟩) ?_
        simp only [Act.put, List.setIfInBounds_toArray, List.set_cons_zero, List.set_cons_succ]
        refine wpAny_take (i := 14) (oi := ⟨some 41, _, _, _, _, _⟩) (v := (.bool true)) rfl (by kernel_rfl) (by kernel_rfl) (by kernel_rfl) (fun _ _ _ h => h) (Or.inl ⟨rfl, fun w => by kernel_rfl⟩) ?_
        simp only [Act.put, List.setIfInBounds_toArray, List.set_cons_zero, List.set_cons_succ]
        refine wpAny_take (i := 15) (oi := ⟨some 42, _, _, _, _, _⟩) (v := (.bool true)) rfl (by kernel_rfl) (by kernel_rfl) (by kernel_rfl) (fun _ _ _ h => h) (Or.inl ⟨rfl, fun w => by kernel_rfl⟩) ?_
        simp only [Act.put, List.setIfInBounds_toArray, List.set_cons_zero, List.set_cons_succ]
        refine wpAny_take (i := 17) (oi := ⟨some 44, _, _, _, _, _⟩) (v := (.int .u32 ((a : Nat) : Int))) rfl (by kernel_rfl) (by kernel_rfl) (by kernel_rfl) (fun _ _ _ h => h) (Or.inl ⟨rfl, fun w => by kernel_rfl⟩) ?_
        simp only [Act.put, List.setIfInBounds_toArray, List.set_cons_zero, List.set_cons_succ]
        refine wpAny_take (i := 18) (oi := ⟨some 45, _, _, _, _, _⟩) (v := (.int .u64 ((s : Nat) : Int))) rfl (by kernel_rfl) (by kernel_rfl) (by kernel_rfl) (fun _ _ _ h => h) (Or.inl ⟨rfl, fun w => by kernel_rfl⟩) ?_
        simp only [Act.put, List.setIfInBounds_toArray, List.set_cons_zero, List.set_cons_succ]
        refine wpAny_all (rs := [16, 19]) (by kernel_rfl) (by simp) ?_
        intro i hi
        simp only [List.mem_cons, List.not_mem_nil, or_false] at hi
        rcases hi with rfl | rfl
        · refine op_val (o := ⟨some 43, _, _, _, _, _⟩) (.agg (ub (nonceL a s)).toArray) rfl rfl (run_load_mid _ _ _ 26 _ rfl g9 0 rfl (ub (nonceL a s)) _ (blk_rangeC (Fz1.out.2.1)) Try.underlying26 rfl (by rw [ub_len, nonceL_len]; kernel_rfl)) ?_
          simp only [Act.put, List.setIfInBounds_toArray, List.set_cons_zero, List.set_cons_succ]
          refine wpAny_all (rs := [19]) (by kernel_rfl) (by simp) ?_
          intro i hi
          simp only [List.mem_cons, List.not_mem_nil, or_false] at hi
          subst hi
          refine op_call (o := ⟨some 46, _, _, _, _, _⟩) 7 #[.int .u32 ((a : Nat) : Int), .int .u64 ((s : Nat) : Int)] rfl rfl (by kernel_rfl) (((refnonce_any a s (by have := HB.out; omega) (by have := HB.out; omega) z1)).mono fun e z11 ⟨he, qz11⟩ => ⟨.agg (ub (nonceL a s)).toArray, he, ?_⟩)
          simp only [Act.put, List.setIfInBounds_toArray, List.set_cons_zero, List.set_cons_succ]
          have Fz11 := Lib.hid (show Below g2 w z11 ∧ Blk z11 g9 26 (ub (nonceL a s)).toArray ∧ Blk z11 ga 26 (ub (nonceL b t)).toArray from ⟨Fz1.out.1.trans (qz11.mono (by have h1 := Fz1.out.1.size; have h2 := G2.out; omega)), Fz1.out.2.1.below qz11, Fz1.out.2.2.below qz11⟩)
          clear qz11
          refine wpAny_take (i := 20) (oi := ⟨some 47, _, _, _, _, _⟩) (v := (.bool true)) rfl (by kernel_rfl) (by kernel_rfl) (by kernel_rfl) (fun _ _ _ h => h) (Or.inl ⟨rfl, fun w => run_eq12 _ _ _ _ _ (nonceL a s) (nonceL a s) true (nonceL_len _ _) (nonceL_len _ _) rfl rfl rfl (by simp)⟩) ?_
          simp only [Act.put, List.setIfInBounds_toArray, List.set_cons_zero, List.set_cons_succ]
          refine wpAny_take (i := 21) (oi := ⟨some 48, _, _, _, _, _⟩) (v := (.bool true)) rfl (by kernel_rfl) (by kernel_rfl) (by kernel_rfl) (fun _ _ _ h => h) (Or.inl ⟨rfl, fun w => by kernel_rfl⟩) ?_
          simp only [Act.put, List.setIfInBounds_toArray, List.set_cons_zero, List.set_cons_succ]
          refine wpAny_take (i := 22) (oi := ⟨some 4, _, _, _, _, _⟩) (v := (.bool true)) rfl (by kernel_rfl) (by kernel_rfl) (by kernel_rfl) (fun _ _ _ h => h) (Or.inl ⟨rfl, fun w => by kernel_rfl⟩) ?_
          simp only [Act.put, List.setIfInBounds_toArray, List.set_cons_zero, List.set_cons_succ]
          refine wpAny_done (by kernel_rfl) ?_ _
          go_wp2_with fail
          go_ret
          exact ⟨rfl, by rw [G2.out]; exact Fz11.out.1⟩
        · refine op_call (o := ⟨some 46, _, _, _, _, _⟩) 7 #[.int .u32 ((a : Nat) : Int), .int .u64 ((s : Nat) : Int)] rfl rfl (by kernel_rfl) (((refnonce_any a s (by have := HB.out; omega) (by have := HB.out; omega) z1)).mono fun e z12 ⟨he, qz12⟩ => ⟨.agg (ub (nonceL a s)).toArray, he, ?_⟩)
          simp only [Act.put, List.setIfInBounds_toArray, List.set_cons_zero, List.set_cons_succ]
          have Fz12 := Lib.hid (show Below g2 w z12 ∧ Blk z12 g9 26 (ub (nonceL a s)).toArray ∧ Blk z12 ga 26 (ub (nonceL b t)).toArray from ⟨Fz1.out.1.trans (qz12.mono (by have h1 := Fz1.out.1.size; have h2 := G2.out; omega)), Fz1.out.2.1.below qz12, Fz1.out.2.2.below qz12⟩)
          clear qz12
          refine wpAny_all (rs := [16]) (by kernel_rfl) (by simp) ?_
          intro i hi
          simp only [List.mem_cons, List.not_mem_nil, or_false] at hi
          subst hi
          refine op_val (o := ⟨some 43, _, _, _, _, _⟩) (.agg (ub (nonceL a s)).toArray) rfl rfl (run_load_mid _ _ _ 26 _ rfl g9 0 rfl (ub (nonceL a s)) _ (blk_rangeC (Fz12.out.2.1)) Try.underlying26 rfl (by rw [ub_len, nonceL_len]; kernel_rfl)) ?_
          simp only [Act.put, List.setIfInBounds_toArray, List.set_cons_zero, List.set_cons_succ]
          refine wpAny_take (i := 20) (oi := ⟨some 47, _, _, _, _, _⟩) (v := (.bool true)) rfl (by kernel_rfl) (by kernel_rfl) (by kernel_rfl) (fun _ _ _ h => h) (Or.inl ⟨rfl, fun w => run_eq12 _ _ _ _ _ (nonceL a s) (nonceL a s) true (nonceL_len _ _) (nonceL_len _ _) rfl rfl rfl (by simp)⟩) ?_
          simp only [Act.put, List.setIfInBounds_toArray, List.set_cons_zero, List.set_cons_succ]
          refine wpAny_take (i := 21) (oi := ⟨some 48, _, _, _, _, _⟩) (v := (.bool true)) rfl (by kernel_rfl) (by kernel_rfl) (by kernel_rfl) (fun _ _ _ h => h) (Or.inl ⟨rfl, fun w => by kernel_rfl⟩) ?_
          simp only [Act.put, List.setIfInBounds_toArray, List.set_cons_zero, List.set_cons_succ]
          refine wpAny_take (i := 22) (oi := ⟨some 4, _, _, _, _, _⟩) (v := (.bool true)) rfl (by kernel_rfl) (by kernel_rfl) (by kernel_rfl) (fun _ _ _ h => h) (Or.inl ⟨rfl, fun w => by kernel_rfl⟩) ?_
          simp only [Act.put, List.setIfInBounds_toArray, List.set_cons_zero, List.set_cons_succ]
          refine wpAny_done (by kernel_rfl) ?_ _
          go_wp2_with fail
          go_ret
          exact ⟨rfl, by rw [G2.out]; exact Fz12.out.1⟩
    · have EST := Lib.hid hst
      clear hab hst
      go_upto_region 3 with (fail)
      refine region_any (by kernel_rfl) 23 rfl ?_
      refine wpAny_all (rs := [0]) (by kernel_rfl) (by simp) ?_
      intro i hi
      simp only [List.mem_cons, List.not_mem_nil, or_false] at hi
      subst hi
      refine op_call (o := ⟨some 27, _, _, _, _, _⟩) 6 #[] rfl rfl (by kernel_rfl) (((awake_any W8.drew)).mono fun e z1 ⟨he, qz1⟩ => ⟨.bool true, he, ?_⟩)
      simp only [Act.put, List.setIfInBounds_toArray, List.set_cons_zero, List.set_cons_succ]
      have Fz1 := Lib.hid (show Below g2 w z1 ∧ Blk z1 g9 26 (ub (nonceL a s)).toArray ∧ Blk z1 ga 26 (ub (nonceL b t)).toArray from ⟨F8.out.1.trans (qz1.mono (by have h1 := F8.out.1.size; have h2 := G2.out; omega)), F8.out.2.1.below qz1, F8.out.2.2.below qz1⟩)
      clear qz1
      refine wpAny_take (i := 1) (oi := ⟨some 28, _, _, _, _, _⟩) (v := (.bool true)) rfl (by kernel_rfl) (by kernel_rfl) (by kernel_rfl) (fun _ _ _ h => h) (Or.inl ⟨rfl, fun w => by kernel_rfl⟩) ?_
      simp only [Act.put, List.setIfInBounds_toArray, List.set_cons_zero, List.set_cons_succ]
      refine wpAny_take (i := 5) (oi := ⟨some 32, _, _, _, _, _⟩) (v := (.int .u32 ((a : Nat) : Int))) rfl (by kernel_rfl) (by kernel_rfl) (by kernel_rfl) (fun _ _ _ h => h) (Or.inl ⟨rfl, fun w => by kernel_rfl⟩) ?_
      simp only [Act.put, List.setIfInBounds_toArray, List.set_cons_zero, List.set_cons_succ]
      refine wpAny_take (i := 6) (oi := ⟨some 33, _, _, _, _, _⟩) (v := (.int .u32 ((b : Nat) : Int))) rfl (by kernel_rfl) (by kernel_rfl) (by kernel_rfl) (fun _ _ _ h => h) (Or.inl ⟨rfl, fun w => by kernel_rfl⟩) ?_
      simp only [Act.put, List.setIfInBounds_toArray, List.set_cons_zero, List.set_cons_succ]
      refine wpAny_take (i := 7) (oi := ⟨some 34, _, _, _, _, _⟩) (v := (.bool true)) rfl (by kernel_rfl) (by kernel_rfl) (by kernel_rfl) (fun _ _ _ h => h) (Or.inl ⟨rfl, fun w => run_eqi Try.underlying22 rfl rfl rfl (by have := EAB.out; rw [decide_eq_true_eq]; omega)⟩) ?_
      simp only [Act.put, List.setIfInBounds_toArray, List.set_cons_zero, List.set_cons_succ]
      refine wpAny_take (i := 8) (oi := ⟨some 35, _, _, _, _, _⟩) (v := (.bool true)) rfl (by kernel_rfl) (by kernel_rfl) (by kernel_rfl) (fun _ _ _ h => h) (Or.inl ⟨rfl, fun w => by kernel_rfl⟩) ?_
      simp only [Act.put, List.setIfInBounds_toArray, List.set_cons_zero, List.set_cons_succ]
      refine wpAny_take (i := 9) (oi := ⟨some 36, _, _, _, _, _⟩) (v := (.int .u64 ((s : Nat) : Int))) rfl (by kernel_rfl) (by kernel_rfl) (by kernel_rfl) (fun _ _ _ h => h) (Or.inl ⟨rfl, fun w => by kernel_rfl⟩) ?_
      simp only [Act.put, List.setIfInBounds_toArray, List.set_cons_zero, List.set_cons_succ]
      refine wpAny_take (i := 10) (oi := ⟨some 37, _, _, _, _, _⟩) (v := (.int .u64 ((t : Nat) : Int))) rfl (by kernel_rfl) (by kernel_rfl) (by kernel_rfl) (fun _ _ _ h => h) (Or.inl ⟨rfl, fun w => by kernel_rfl⟩) ?_
      simp only [Act.put, List.setIfInBounds_toArray, List.set_cons_zero, List.set_cons_succ]
      refine wpAny_take (i := 11) (oi := ⟨some 38, _, _, _, _, _⟩) (v := (.bool false)) rfl (by kernel_rfl) (by kernel_rfl) (by kernel_rfl) (fun _ _ _ h => h) (Or.inl ⟨rfl, fun w => run_eqi Try.underlying24 rfl rfl rfl (by have := EST.out; rw [decide_eq_false_iff_not]; omega)⟩) ?_
      simp only [Act.put, List.setIfInBounds_toArray, List.set_cons_zero, List.set_cons_succ]
      refine wpAny_take (i := 12) (oi := ⟨some 39, _, _, _, _, _⟩) (v := (.bool false)) rfl (by kernel_rfl) (by kernel_rfl) (by kernel_rfl) (fun _ _ _ h => h) (Or.inl ⟨rfl, fun w => by kernel_rfl⟩) ?_
      simp only [Act.put, List.setIfInBounds_toArray, List.set_cons_zero, List.set_cons_succ]
      refine wpAny_all (rs := [2, 3]) (by kernel_rfl) (by simp) ?_
      intro i hi
      simp only [List.mem_cons, List.not_mem_nil, or_false] at hi
      rcases hi with rfl | rfl
      · refine op_val (o := ⟨some 29, _, _, _, _, _⟩) (.agg (ub (nonceL a s)).toArray) rfl rfl (run_load_mid _ _ _ 26 _ rfl g9 0 rfl (ub (nonceL a s)) _ (blk_rangeC (Fz1.out.2.1)) Try.underlying26 rfl (by rw [ub_len, nonceL_len]; kernel_rfl)) ?_
        simp only [Act.put, List.setIfInBounds_toArray, List.set_cons_zero, List.set_cons_succ]
        refine wpAny_all (rs := [3]) (by kernel_rfl) (by simp) ?_
        intro i hi
        simp only [List.mem_cons, List.not_mem_nil, or_false] at hi
        subst hi
        refine op_val (o := ⟨some 30, _, _, _, _, _⟩) (.agg (ub (nonceL b t)).toArray) rfl rfl (run_load_mid _ _ _ 26 _ rfl ga 0 rfl (ub (nonceL b t)) _ (blk_rangeC (Fz1.out.2.2)) Try.underlying26 rfl (by rw [ub_len, nonceL_len]; kernel_rfl)) ?_
        simp only [Act.put, List.setIfInBounds_toArray, List.set_cons_zero, List.set_cons_succ]
        refine wpAny_take (i := 4) (oi := ⟨some 31, _, _, _, _, _⟩) (v := (.bool false)) rfl (by kernel_rfl) (by kernel_rfl) (by kernel_rfl) (fun _ _ _ h => h) (Or.inl ⟨rfl, fun w => run_eq12 _ _ _ _ _ (nonceL a s) (nonceL b t) false (nonceL_len _ _) (nonceL_len _ _) rfl rfl rfl ((decide_eq_false (fun h => EST.out (nonce_inj (by have := HB.out; omega) (by have := HB.out; omega) (by have := HB.out; omega) (by have := HB.out; omega) h).2)).symm)⟩) ?_
        simp only [Act.put, List.setIfInBounds_toArray, List.set_cons_zero, List.set_cons_succ]
        refine wpAny_take (i := 13) (oi := ⟨some 40, _, _, _, _, _⟩) (v := (.bool true)) rfl (by kernel_rfl) (by kernel_rfl) (by kernel_rfl) (fun _ _ _ h => h) (Or.inl ⟨rfl, fun w => by kernel_rfl⟩) ?_
        simp only [Act.put, List.setIfInBounds_toArray, List.set_cons_zero, List.set_cons_succ]
        refine wpAny_take (i := 14) (oi := ⟨some 41, _, _, _, _, _⟩) (v := (.bool true)) rfl (by kernel_rfl) (by kernel_rfl) (by kernel_rfl) (fun _ _ _ h => h) (Or.inl ⟨rfl, fun w => by kernel_rfl⟩) ?_
        simp only [Act.put, List.setIfInBounds_toArray, List.set_cons_zero, List.set_cons_succ]
        refine wpAny_take (i := 15) (oi := ⟨some 42, _, _, _, _, _⟩) (v := (.bool true)) rfl (by kernel_rfl) (by kernel_rfl) (by kernel_rfl) (fun _ _ _ h => h) (Or.inl ⟨rfl, fun w => by kernel_rfl⟩) ?_
        simp only [Act.put, List.setIfInBounds_toArray, List.set_cons_zero, List.set_cons_succ]
        refine wpAny_take (i := 17) (oi := ⟨some 44, _, _, _, _, _⟩) (v := (.int .u32 ((a : Nat) : Int))) rfl (by kernel_rfl) (by kernel_rfl) (by kernel_rfl) (fun _ _ _ h => h) (Or.inl ⟨rfl, fun w => by kernel_rfl⟩) ?_
        simp only [Act.put, List.setIfInBounds_toArray, List.set_cons_zero, List.set_cons_succ]
        refine wpAny_take (i := 18) (oi := ⟨some 45, _, _, _, _, _⟩) (v := (.int .u64 ((s : Nat) : Int))) rfl (by kernel_rfl) (by kernel_rfl) (by kernel_rfl) (fun _ _ _ h => h) (Or.inl ⟨rfl, fun w => by kernel_rfl⟩) ?_
        simp only [Act.put, List.setIfInBounds_toArray, List.set_cons_zero, List.set_cons_succ]
        refine wpAny_all (rs := [16, 19]) (by kernel_rfl) (by simp) ?_
        intro i hi
        simp only [List.mem_cons, List.not_mem_nil, or_false] at hi
        rcases hi with rfl | rfl
        · refine op_val (o := ⟨some 43, _, _, _, _, _⟩) (.agg (ub (nonceL a s)).toArray) rfl rfl (run_load_mid _ _ _ 26 _ rfl g9 0 rfl (ub (nonceL a s)) _ (blk_rangeC (Fz1.out.2.1)) Try.underlying26 rfl (by rw [ub_len, nonceL_len]; kernel_rfl)) ?_
          simp only [Act.put, List.setIfInBounds_toArray, List.set_cons_zero, List.set_cons_succ]
          refine wpAny_all (rs := [19]) (by kernel_rfl) (by simp) ?_
          intro i hi
          simp only [List.mem_cons, List.not_mem_nil, or_false] at hi
          subst hi
          refine op_call (o := ⟨some 46, _, _, _, _, _⟩) 7 #[.int .u32 ((a : Nat) : Int), .int .u64 ((s : Nat) : Int)] rfl rfl (by kernel_rfl) (((refnonce_any a s (by have := HB.out; omega) (by have := HB.out; omega) z1)).mono fun e z5 ⟨he, qz5⟩ => ⟨.agg (ub (nonceL a s)).toArray, he, ?_⟩)
          simp only [Act.put, List.setIfInBounds_toArray, List.set_cons_zero, List.set_cons_succ]
          have Fz5 := Lib.hid (show Below g2 w z5 ∧ Blk z5 g9 26 (ub (nonceL a s)).toArray ∧ Blk z5 ga 26 (ub (nonceL b t)).toArray from ⟨Fz1.out.1.trans (qz5.mono (by have h1 := Fz1.out.1.size; have h2 := G2.out; omega)), Fz1.out.2.1.below qz5, Fz1.out.2.2.below qz5⟩)
          clear qz5
          refine wpAny_take (i := 20) (oi := ⟨some 47, _, _, _, _, _⟩) (v := (.bool true)) rfl (by kernel_rfl) (by kernel_rfl) (by kernel_rfl) (fun _ _ _ h => h) (Or.inl ⟨rfl, fun w => run_eq12 _ _ _ _ _ (nonceL a s) (nonceL a s) true (nonceL_len _ _) (nonceL_len _ _) rfl rfl rfl (by simp)⟩) ?_
          simp only [Act.put, List.setIfInBounds_toArray, List.set_cons_zero, List.set_cons_succ]
          refine wpAny_take (i := 21) (oi := ⟨some 48, _, _, _, _, _⟩) (v := (.bool true)) rfl (by kernel_rfl) (by kernel_rfl) (by kernel_rfl) (fun _ _ _ h => h) (Or.inl ⟨rfl, fun w => by kernel_rfl⟩) ?_
          simp only [Act.put, List.setIfInBounds_toArray, List.set_cons_zero, List.set_cons_succ]
          refine wpAny_take (i := 22) (oi := ⟨some 4, _, _, _, _, _⟩) (v := (.bool true)) rfl (by kernel_rfl) (by kernel_rfl) (by kernel_rfl) (fun _ _ _ h => h) (Or.inl ⟨rfl, fun w => by kernel_rfl⟩) ?_
          simp only [Act.put, List.setIfInBounds_toArray, List.set_cons_zero, List.set_cons_succ]
          refine wpAny_done (by kernel_rfl) ?_ _
          go_wp2_with fail
          go_ret
          exact ⟨rfl, by rw [G2.out]; exact Fz5.out.1⟩
        · refine op_call (o := ⟨some 46, _, _, _, _, _⟩) 7 #[.int .u32 ((a : Nat) : Int), .int .u64 ((s : Nat) : Int)] rfl rfl (by kernel_rfl) (((refnonce_any a s (by have := HB.out; omega) (by have := HB.out; omega) z1)).mono fun e z6 ⟨he, qz6⟩ => ⟨.agg (ub (nonceL a s)).toArray, he, ?_⟩)
          simp only [Act.put, List.setIfInBounds_toArray, List.set_cons_zero, List.set_cons_succ]
          have Fz6 := Lib.hid (show Below g2 w z6 ∧ Blk z6 g9 26 (ub (nonceL a s)).toArray ∧ Blk z6 ga 26 (ub (nonceL b t)).toArray from ⟨Fz1.out.1.trans (qz6.mono (by have h1 := Fz1.out.1.size; have h2 := G2.out; omega)), Fz1.out.2.1.below qz6, Fz1.out.2.2.below qz6⟩)
          clear qz6
          refine wpAny_all (rs := [16]) (by kernel_rfl) (by simp) ?_
          intro i hi
          simp only [List.mem_cons, List.not_mem_nil, or_false] at hi
          subst hi
          refine op_val (o := ⟨some 43, _, _, _, _, _⟩) (.agg (ub (nonceL a s)).toArray) rfl rfl (run_load_mid _ _ _ 26 _ rfl g9 0 rfl (ub (nonceL a s)) _ (blk_rangeC (Fz6.out.2.1)) Try.underlying26 rfl (by rw [ub_len, nonceL_len]; kernel_rfl)) ?_
          simp only [Act.put, List.setIfInBounds_toArray, List.set_cons_zero, List.set_cons_succ]
          refine wpAny_take (i := 20) (oi := ⟨some 47, _, _, _, _, _⟩) (v := (.bool true)) rfl (by kernel_rfl) (by kernel_rfl) (by kernel_rfl) (fun _ _ _ h => h) (Or.inl ⟨rfl, fun w => run_eq12 _ _ _ _ _ (nonceL a s) (nonceL a s) true (nonceL_len _ _) (nonceL_len _ _) rfl rfl rfl (by simp)⟩) ?_
          simp only [Act.put, List.setIfInBounds_toArray, List.set_cons_zero, List.set_cons_succ]
          refine wpAny_take (i := 21) (oi := ⟨some 48, _, _, _, _, _⟩) (v := (.bool true)) rfl (by kernel_rfl) (by kernel_rfl) (by kernel_rfl) (fun _ _ _ h => h) (Or.inl ⟨rfl, fun w => by kernel_rfl⟩) ?_
          simp only [Act.put, List.setIfInBounds_toArray, List.set_cons_zero, List.set_cons_succ]
          refine wpAny_take (i := 22) (oi := ⟨some 4, _, _, _, _, _⟩) (v := (.bool true)) rfl (by kernel_rfl) (by kernel_rfl) (by kernel_rfl) (fun _ _ _ h => h) (Or.inl ⟨rfl, fun w => by kernel_rfl⟩) ?_
          simp only [Act.put, List.setIfInBounds_toArray, List.set_cons_zero, List.set_cons_succ]
          refine wpAny_done (by kernel_rfl) ?_ _
          go_wp2_with fail
          go_ret
          exact ⟨rfl, by rw [G2.out]; exact Fz6.out.1⟩
      · refine op_val (o := ⟨some 30, _, _, _, _, _⟩) (.agg (ub (nonceL b t)).toArray) rfl rfl (run_load_mid _ _ _ 26 _ rfl ga 0 rfl (ub (nonceL b t)) _ (blk_rangeC (Fz1.out.2.2)) Try.underlying26 rfl (by rw [ub_len, nonceL_len]; kernel_rfl)) ?_
        simp only [Act.put, List.setIfInBounds_toArray, List.set_cons_zero, List.set_cons_succ]
        refine wpAny_all (rs := [2]) (by kernel_rfl) (by simp) ?_
        intro i hi
        simp only [List.mem_cons, List.not_mem_nil, or_false] at hi
        subst hi
        refine op_val (o := ⟨some 29, _, _, _, _, _⟩) (.agg (ub (nonceL a s)).toArray) rfl rfl (run_load_mid _ _ _ 26 _ rfl g9 0 rfl (ub (nonceL a s)) _ (blk_rangeC (Fz1.out.2.1)) Try.underlying26 rfl (by rw [ub_len, nonceL_len]; kernel_rfl)) ?_
        simp only [Act.put, List.setIfInBounds_toArray, List.set_cons_zero, List.set_cons_succ]
        refine wpAny_take (i := 4) (oi := ⟨some 31, _, _, _, _, _⟩) (v := (.bool false)) rfl (by kernel_rfl) (by kernel_rfl) (by kernel_rfl) (fun _ _ _ h => h) (Or.inl ⟨rfl, fun w => run_eq12 _ _ _ _ _ (nonceL a s) (nonceL b t) false (nonceL_len _ _) (nonceL_len _ _) rfl rfl rfl ((decide_eq_false (fun h => EST.out (nonce_inj (by have := HB.out; omega) (by have := HB.out; omega) (by have := HB.out; omega) (by have := HB.out; omega) h).2)).symm)⟩) ?_
        simp only [Act.put, List.setIfInBounds_toArray, List.set_cons_zero, List.set_cons_succ]
        refine wpAny_take (i := 13) (oi := ⟨some 40, _, _, _, _, _⟩) (v := (.bool true)) rfl (by kernel_rfl) (by kernel_rfl) (by kernel_rfl) (fun _ _ _ h => h) (Or.inl ⟨rfl, fun w => by kernel_rfl⟩) ?_
        simp only [Act.put, List.setIfInBounds_toArray, List.set_cons_zero, List.set_cons_succ]
        refine wpAny_take (i := 14) (oi := ⟨some 41, _, _, _, _, _⟩) (v := (.bool true)) rfl (by kernel_rfl) (by kernel_rfl) (by kernel_rfl) (fun _ _ _ h => h) (Or.inl ⟨rfl, fun w => by kernel_rfl⟩) ?_
        simp only [Act.put, List.setIfInBounds_toArray, List.set_cons_zero, List.set_cons_succ]
        refine wpAny_take (i := 15) (oi := ⟨some 42, _, _, _, _, _⟩) (v := (.bool true)) rfl (by kernel_rfl) (by kernel_rfl) (by kernel_rfl) (fun _ _ _ h => h) (Or.inl ⟨rfl, fun w => by kernel_rfl⟩) ?_
        simp only [Act.put, List.setIfInBounds_toArray, List.set_cons_zero, List.set_cons_succ]
        refine wpAny_take (i := 17) (oi := ⟨some 44, _, _, _, _, _⟩) (v := (.int .u32 ((a : Nat) : Int))) rfl (by kernel_rfl) (by kernel_rfl) (by kernel_rfl) (fun _ _ _ h => h) (Or.inl ⟨rfl, fun w => by kernel_rfl⟩) ?_
        simp only [Act.put, List.setIfInBounds_toArray, List.set_cons_zero, List.set_cons_succ]
        refine wpAny_take (i := 18) (oi := ⟨some 45, _, _, _, _, _⟩) (v := (.int .u64 ((s : Nat) : Int))) rfl (by kernel_rfl) (by kernel_rfl) (by kernel_rfl) (fun _ _ _ h => h) (Or.inl ⟨rfl, fun w => by kernel_rfl⟩) ?_
        simp only [Act.put, List.setIfInBounds_toArray, List.set_cons_zero, List.set_cons_succ]
        refine wpAny_all (rs := [16, 19]) (by kernel_rfl) (by simp) ?_
        intro i hi
        simp only [List.mem_cons, List.not_mem_nil, or_false] at hi
        rcases hi with rfl | rfl
        · refine op_val (o := ⟨some 43, _, _, _, _, _⟩) (.agg (ub (nonceL a s)).toArray) rfl rfl (run_load_mid _ _ _ 26 _ rfl g9 0 rfl (ub (nonceL a s)) _ (blk_rangeC (Fz1.out.2.1)) Try.underlying26 rfl (by rw [ub_len, nonceL_len]; kernel_rfl)) ?_
          simp only [Act.put, List.setIfInBounds_toArray, List.set_cons_zero, List.set_cons_succ]
          refine wpAny_all (rs := [19]) (by kernel_rfl) (by simp) ?_
          intro i hi
          simp only [List.mem_cons, List.not_mem_nil, or_false] at hi
          subst hi
          refine op_call (o := ⟨some 46, _, _, _, _, _⟩) 7 #[.int .u32 ((a : Nat) : Int), .int .u64 ((s : Nat) : Int)] rfl rfl (by kernel_rfl) (((refnonce_any a s (by have := HB.out; omega) (by have := HB.out; omega) z1)).mono fun e z11 ⟨he, qz11⟩ => ⟨.agg (ub (nonceL a s)).toArray, he, ?_⟩)
          simp only [Act.put, List.setIfInBounds_toArray, List.set_cons_zero, List.set_cons_succ]
          have Fz11 := Lib.hid (show Below g2 w z11 ∧ Blk z11 g9 26 (ub (nonceL a s)).toArray ∧ Blk z11 ga 26 (ub (nonceL b t)).toArray from ⟨Fz1.out.1.trans (qz11.mono (by have h1 := Fz1.out.1.size; have h2 := G2.out; omega)), Fz1.out.2.1.below qz11, Fz1.out.2.2.below qz11⟩)
          clear qz11
          refine wpAny_take (i := 20) (oi := ⟨some 47, _, _, _, _, _⟩) (v := (.bool true)) rfl (by kernel_rfl) (by kernel_rfl) (by kernel_rfl) (fun _ _ _ h => h) (Or.inl ⟨rfl, fun w => run_eq12 _ _ _ _ _ (nonceL a s) (nonceL a s) true (nonceL_len _ _) (nonceL_len _ _) rfl rfl rfl (by simp)⟩) ?_
          simp only [Act.put, List.setIfInBounds_toArray, List.set_cons_zero, List.set_cons_succ]
          refine wpAny_take (i := 21) (oi := ⟨some 48, _, _, _, _, _⟩) (v := (.bool true)) rfl (by kernel_rfl) (by kernel_rfl) (by kernel_rfl) (fun _ _ _ h => h) (Or.inl ⟨rfl, fun w => by kernel_rfl⟩) ?_
          simp only [Act.put, List.setIfInBounds_toArray, List.set_cons_zero, List.set_cons_succ]
          refine wpAny_take (i := 22) (oi := ⟨some 4, _, _, _, _, _⟩) (v := (.bool true)) rfl (by kernel_rfl) (by kernel_rfl) (by kernel_rfl) (fun _ _ _ h => h) (Or.inl ⟨rfl, fun w => by kernel_rfl⟩) ?_
          simp only [Act.put, List.setIfInBounds_toArray, List.set_cons_zero, List.set_cons_succ]
          refine wpAny_done (by kernel_rfl) ?_ _
          go_wp2_with fail
          go_ret
          exact ⟨rfl, by rw [G2.out]; exact Fz11.out.1⟩
        · refine op_call (o := ⟨some 46, _, _, _, _, _⟩) 7 #[.int .u32 ((a : Nat) : Int), .int .u64 ((s : Nat) : Int)] rfl rfl (by kernel_rfl) (((refnonce_any a s (by have := HB.out; omega) (by have := HB.out; omega) z1)).mono fun e z12 ⟨he, qz12⟩ => ⟨.agg (ub (nonceL a s)).toArray, he, ?_⟩)
          simp only [Act.put, List.setIfInBounds_toArray, List.set_cons_zero, List.set_cons_succ]
          have Fz12 := Lib.hid (show Below g2 w z12 ∧ Blk z12 g9 26 (ub (nonceL a s)).toArray ∧ Blk z12 ga 26 (ub (nonceL b t)).toArray from ⟨Fz1.out.1.trans (qz12.mono (by have h1 := Fz1.out.1.size; have h2 := G2.out; omega)), Fz1.out.2.1.below qz12, Fz1.out.2.2.below qz12⟩)
          clear qz12
          refine wpAny_all (rs := [16]) (by kernel_rfl) (by simp) ?_
          intro i hi
          simp only [List.mem_cons, List.not_mem_nil, or_false] at hi
          subst hi
          refine op_val (o := ⟨some 43, _, _, _, _, _⟩) (.agg (ub (nonceL a s)).toArray) rfl rfl (run_load_mid _ _ _ 26 _ rfl g9 0 rfl (ub (nonceL a s)) _ (blk_rangeC (Fz12.out.2.1)) Try.underlying26 rfl (by rw [ub_len, nonceL_len]; kernel_rfl)) ?_
          simp only [Act.put, List.setIfInBounds_toArray, List.set_cons_zero, List.set_cons_succ]
          refine wpAny_take (i := 20) (oi := ⟨some 47, _, _, _, _, _⟩) (v := (.bool true)) rfl (by kernel_rfl) (by kernel_rfl) (by kernel_rfl) (fun _ _ _ h => h) (Or.inl ⟨rfl, fun w => run_eq12 _ _ _ _ _ (nonceL a s) (nonceL a s) true (nonceL_len _ _) (nonceL_len _ _) rfl rfl rfl (by simp)⟩) ?_
          simp only [Act.put, List.setIfInBounds_toArray, List.set_cons_zero, List.set_cons_succ]
          refine wpAny_take (i := 21) (oi := ⟨some 48, _, _, _, _, _⟩) (v := (.bool true)) rfl (by kernel_rfl) (by kernel_rfl) (by kernel_rfl) (fun _ _ _ h => h) (Or.inl ⟨rfl, fun w => by kernel_rfl⟩) ?_
          simp only [Act.put, List.setIfInBounds_toArray, List.set_cons_zero, List.set_cons_succ]
          refine wpAny_take (i := 22) (oi := ⟨some 4, _, _, _, _, _⟩) (v := (.bool true)) rfl (by kernel_rfl) (by kernel_rfl) (by kernel_rfl) (fun _ _ _ h => h) (Or.inl ⟨rfl, fun w => by kernel_rfl⟩) ?_
          simp only [Act.put, List.setIfInBounds_toArray, List.set_cons_zero, List.set_cons_succ]
          refine wpAny_done (by kernel_rfl) ?_ _
          go_wp2_with fail
          go_ret
          exact ⟨rfl, by rw [G2.out]; exact Fz12.out.1⟩
  · have EAB := Lib.hid hab
    clear hab
    go_upto_region 3 with (fail)
    refine region_any (by kernel_rfl) 23 rfl ?_
    refine wpAny_all (rs := [0]) (by kernel_rfl) (by simp) ?_
    intro i hi
    simp only [List.mem_cons, List.not_mem_nil, or_false] at hi
    subst hi
    refine op_call (o := ⟨some 27, _, _, _, _, _⟩) 6 #[] rfl rfl (by kernel_rfl) (((awake_any W8.drew)).mono fun e z1 ⟨he, qz1⟩ => ⟨.bool true, he, ?_⟩)
    simp only [Act.put, List.setIfInBounds_toArray, List.set_cons_zero, List.set_cons_succ]
    have Fz1 := Lib.hid (show Below g2 w z1 ∧ Blk z1 g9 26 (ub (nonceL a s)).toArray ∧ Blk z1 ga 26 (ub (nonceL b t)).toArray from ⟨F8.out.1.trans (qz1.mono (by have h1 := F8.out.1.size; have h2 := G2.out; omega)), F8.out.2.1.below qz1, F8.out.2.2.below qz1⟩)
    clear qz1
    refine wpAny_take (i := 1) (oi := ⟨some 28, _, _, _, _, _⟩) (v := (.bool true)) rfl (by kernel_rfl) (by kernel_rfl) (by kernel_rfl) (fun _ _ _ h => h) (Or.inl ⟨rfl, fun w => by kernel_rfl⟩) ?_
    simp only [Act.put, List.setIfInBounds_toArray, List.set_cons_zero, List.set_cons_succ]
    refine wpAny_take (i := 5) (oi := ⟨some 32, _, _, _, _, _⟩) (v := (.int .u32 ((a : Nat) : Int))) rfl (by kernel_rfl) (by kernel_rfl) (by kernel_rfl) (fun _ _ _ h => h) (Or.inl ⟨rfl, fun w => by kernel_rfl⟩) ?_
    simp only [Act.put, List.setIfInBounds_toArray, List.set_cons_zero, List.set_cons_succ]
    refine wpAny_take (i := 6) (oi := ⟨some 33, _, _, _, _, _⟩) (v := (.int .u32 ((b : Nat) : Int))) rfl (by kernel_rfl) (by kernel_rfl) (by kernel_rfl) (fun _ _ _ h => h) (Or.inl ⟨rfl, fun w => by kernel_rfl⟩) ?_
    simp only [Act.put, List.setIfInBounds_toArray, List.set_cons_zero, List.set_cons_succ]
    refine wpAny_take (i := 7) (oi := ⟨some 34, _, _, _, _, _⟩) (v := (.bool false)) rfl (by kernel_rfl) (by kernel_rfl) (by kernel_rfl) (fun _ _ _ h => h) (Or.inl ⟨rfl, fun w => run_eqi Try.underlying22 rfl rfl rfl (by have := EAB.out; rw [decide_eq_false_iff_not]; omega)⟩) ?_
    simp only [Act.put, List.setIfInBounds_toArray, List.set_cons_zero, List.set_cons_succ]
    refine wpAny_take (i := 8) (oi := ⟨some 35, _, _, _, _, _⟩) (v := (.bool false)) rfl (by kernel_rfl) (by kernel_rfl) (by kernel_rfl) (fun _ _ _ h => h) (Or.inl ⟨rfl, fun w => by kernel_rfl⟩) ?_
    simp only [Act.put, List.setIfInBounds_toArray, List.set_cons_zero, List.set_cons_succ]
    refine wpAny_take (i := 9) (oi := ⟨some 36, _, _, _, _, _⟩) (v := undef) rfl (by kernel_rfl) (by kernel_rfl) (by kernel_rfl) (fun _ _ _ h => h) (Or.inr ⟨rfl, rfl⟩) ?_
    simp only [Act.put, List.setIfInBounds_toArray, List.set_cons_zero, List.set_cons_succ]
    refine wpAny_take (i := 10) (oi := ⟨some 37, _, _, _, _, _⟩) (v := undef) rfl (by kernel_rfl) (by kernel_rfl) (by kernel_rfl) (fun _ _ _ h => h) (Or.inr ⟨rfl, rfl⟩) ?_
    simp only [Act.put, List.setIfInBounds_toArray, List.set_cons_zero, List.set_cons_succ]
    refine wpAny_take (i := 11) (oi := ⟨some 38, _, _, _, _, _⟩) (v := undef) rfl (by kernel_rfl) (by kernel_rfl) (by kernel_rfl) (fun _ _ _ h => h) (Or.inr ⟨rfl, rfl⟩) ?_
    simp only [Act.put, List.setIfInBounds_toArray, List.set_cons_zero, List.set_cons_succ]
    refine wpAny_take (i := 12) (oi := ⟨some 39, _, _, _, _, _⟩) (v := (.bool false)) rfl (by kernel_rfl) (by kernel_rfl) (by kernel_rfl) (fun _ _ _ h => h) (Or.inl ⟨rfl, fun w => by kernel_rfl⟩) ?_
    simp only [Act.put, List.setIfInBounds_toArray, List.set_cons_zero, List.set_cons_succ]
    refine wpAny_all (rs := [2, 3]) (by kernel_rfl) (by simp) ?_
    intro i hi
    simp only [List.mem_cons, List.not_mem_nil, or_false] at hi
    rcases hi with rfl | rfl
    · refine op_val (o := ⟨some 29, _, _, _, _, _⟩) (.agg (ub (nonceL a s)).toArray) rfl rfl (run_load_mid _ _ _ 26 _ rfl g9 0 rfl (ub (nonceL a s)) _ (blk_rangeC (Fz1.out.2.1)) Try.underlying26 rfl (by rw [ub_len, nonceL_len]; kernel_rfl)) ?_
      simp only [Act.put, List.setIfInBounds_toArray, List.set_cons_zero, List.set_cons_succ]
      refine wpAny_all (rs := [3]) (by kernel_rfl) (by simp) ?_
      intro i hi
      simp only [List.mem_cons, List.not_mem_nil, or_false] at hi
      subst hi
      refine op_val (o := ⟨some 30, _, _, _, _, _⟩) (.agg (ub (nonceL b t)).toArray) rfl rfl (run_load_mid _ _ _ 26 _ rfl ga 0 rfl (ub (nonceL b t)) _ (blk_rangeC (Fz1.out.2.2)) Try.underlying26 rfl (by rw [ub_len, nonceL_len]; kernel_rfl)) ?_
      simp only [Act.put, List.setIfInBounds_toArray, List.set_cons_zero, List.set_cons_succ]
      refine wpAny_take (i := 4) (oi := ⟨some 31, _, _, _, _, _⟩) (v := (.bool false)) rfl (by kernel_rfl) (by kernel_rfl) (by kernel_rfl) (fun _ _ _ h => h) (Or.inl ⟨rfl, fun w => run_eq12 _ _ _ _ _ (nonceL a s) (nonceL b t) false (nonceL_len _ _) (nonceL_len _ _) rfl rfl rfl ((decide_eq_false (fun h => EAB.out (nonce_inj (by have := HB.out; omega) (by have := HB.out; omega) (by have := HB.out; omega) (by have := HB.out; omega) h).1)).symm)⟩) ?_
      simp only [Act.put, List.setIfInBounds_toArray, List.set_cons_zero, List.set_cons_succ]
      refine wpAny_take (i := 13) (oi := ⟨some 40, _, _, _, _, _⟩) (v := (.bool true)) rfl (by kernel_rfl) (by kernel_rfl) (by kernel_rfl) (fun _ _ _ h => h) (Or.inl ⟨rfl, fun w => by kernel_rfl⟩) ?_
      simp only [Act.put, List.setIfInBounds_toArray, List.set_cons_zero, List.set_cons_succ]
      refine wpAny_take (i := 14) (oi := ⟨some 41, _, _, _, _, _⟩) (v := (.bool true)) rfl (by kernel_rfl) (by kernel_rfl) (by kernel_rfl) (fun _ _ _ h => h) (Or.inl ⟨rfl, fun w => by kernel_rfl⟩) ?_
      simp only [Act.put, List.setIfInBounds_toArray, List.set_cons_zero, List.set_cons_succ]
      refine wpAny_take (i := 15) (oi := ⟨some 42, _, _, _, _, _⟩) (v := (.bool true)) rfl (by kernel_rfl) (by kernel_rfl) (by kernel_rfl) (fun _ _ _ h => h) (Or.inl ⟨rfl, fun w => by kernel_rfl⟩) ?_
      simp only [Act.put, List.setIfInBounds_toArray, List.set_cons_zero, List.set_cons_succ]
      refine wpAny_take (i := 17) (oi := ⟨some 44, _, _, _, _, _⟩) (v := (.int .u32 ((a : Nat) : Int))) rfl (by kernel_rfl) (by kernel_rfl) (by kernel_rfl) (fun _ _ _ h => h) (Or.inl ⟨rfl, fun w => by kernel_rfl⟩) ?_
      simp only [Act.put, List.setIfInBounds_toArray, List.set_cons_zero, List.set_cons_succ]
      refine wpAny_take (i := 18) (oi := ⟨some 45, _, _, _, _, _⟩) (v := (.int .u64 ((s : Nat) : Int))) rfl (by kernel_rfl) (by kernel_rfl) (by kernel_rfl) (fun _ _ _ h => h) (Or.inl ⟨rfl, fun w => by kernel_rfl⟩) ?_
      simp only [Act.put, List.setIfInBounds_toArray, List.set_cons_zero, List.set_cons_succ]
      refine wpAny_all (rs := [16, 19]) (by kernel_rfl) (by simp) ?_
      intro i hi
      simp only [List.mem_cons, List.not_mem_nil, or_false] at hi
      rcases hi with rfl | rfl
      · refine op_val (o := ⟨some 43, _, _, _, _, _⟩) (.agg (ub (nonceL a s)).toArray) rfl rfl (run_load_mid _ _ _ 26 _ rfl g9 0 rfl (ub (nonceL a s)) _ (blk_rangeC (Fz1.out.2.1)) Try.underlying26 rfl (by rw [ub_len, nonceL_len]; kernel_rfl)) ?_
        simp only [Act.put, List.setIfInBounds_toArray, List.set_cons_zero, List.set_cons_succ]
        refine wpAny_all (rs := [19]) (by kernel_rfl) (by simp) ?_
        intro i hi
        simp only [List.mem_cons, List.not_mem_nil, or_false] at hi
        subst hi
        refine op_call (o := ⟨some 46, _, _, _, _, _⟩) 7 #[.int .u32 ((a : Nat) : Int), .int .u64 ((s : Nat) : Int)] rfl rfl (by kernel_rfl) (((refnonce_any a s (by have := HB.out; omega) (by have := HB.out; omega) z1)).mono fun e z5 ⟨he, qz5⟩ => ⟨.agg (ub (nonceL a s)).toArray, he, ?_⟩)
        simp only [Act.put, List.setIfInBounds_toArray, List.set_cons_zero, List.set_cons_succ]
        have Fz5 := Lib.hid (show Below g2 w z5 ∧ Blk z5 g9 26 (ub (nonceL a s)).toArray ∧ Blk z5 ga 26 (ub (nonceL b t)).toArray from ⟨Fz1.out.1.trans (qz5.mono (by have h1 := Fz1.out.1.size; have h2 := G2.out; omega)), Fz1.out.2.1.below qz5, Fz1.out.2.2.below qz5⟩)
        clear qz5
        refine wpAny_take (i := 20) (oi := ⟨some 47, _, _, _, _, _⟩) (v := (.bool true)) rfl (by kernel_rfl) (by kernel_rfl) (by kernel_rfl) (fun _ _ _ h => h) (Or.inl ⟨rfl, fun w => run_eq12 _ _ _ _ _ (nonceL a s) (nonceL a s) true (nonceL_len _ _) (nonceL_len _ _) rfl rfl rfl (by simp)⟩) ?_
        simp only [Act.put, List.setIfInBounds_toArray, List.set_cons_zero, List.set_cons_succ]
        refine wpAny_take (i := 21) (oi := ⟨some 48, _, _, _, _, _⟩) (v := (.bool true)) rfl (by kernel_rfl) (by kernel_rfl) (by kernel_rfl) (fun _ _ _ h => h) (Or.inl ⟨rfl, fun w => by kernel_rfl⟩) ?_
        simp only [Act.put, List.setIfInBounds_toArray, List.set_cons_zero, List.set_cons_succ]
        refine wpAny_take (i := 22) (oi := ⟨some 4, _, _, _, _, _⟩) (v := (.bool true)) rfl (by kernel_rfl) (by kernel_rfl) (by kernel_rfl) (fun _ _ _ h => h) (Or.inl ⟨rfl, fun w => by kernel_rfl⟩) ?_
        simp only [Act.put, List.setIfInBounds_toArray, List.set_cons_zero, List.set_cons_succ]
        refine wpAny_done (by kernel_rfl) ?_ _
        go_wp2_with fail
        go_ret
        exact ⟨rfl, by rw [G2.out]; exact Fz5.out.1⟩
      · refine op_call (o := ⟨some 46, _, _, _, _, _⟩) 7 #[.int .u32 ((a : Nat) : Int), .int .u64 ((s : Nat) : Int)] rfl rfl (by kernel_rfl) (((refnonce_any a s (by have := HB.out; omega) (by have := HB.out; omega) z1)).mono fun e z6 ⟨he, qz6⟩ => ⟨.agg (ub (nonceL a s)).toArray, he, ?_⟩)
        simp only [Act.put, List.setIfInBounds_toArray, List.set_cons_zero, List.set_cons_succ]
        have Fz6 := Lib.hid (show Below g2 w z6 ∧ Blk z6 g9 26 (ub (nonceL a s)).toArray ∧ Blk z6 ga 26 (ub (nonceL b t)).toArray from ⟨Fz1.out.1.trans (qz6.mono (by have h1 := Fz1.out.1.size; have h2 := G2.out; omega)), Fz1.out.2.1.below qz6, Fz1.out.2.2.below qz6⟩)
        clear qz6
        refine wpAny_all (rs := [16]) (by kernel_rfl) (by simp) ?_
        intro i hi
        simp only [List.mem_cons, List.not_mem_nil, or_false] at hi
        subst hi
        refine op_val (o := ⟨some 43, _, _, _, _, _⟩) (.agg (ub (nonceL a s)).toArray) rfl rfl (run_load_mid _ _ _ 26 _ rfl g9 0 rfl (ub (nonceL a s)) _ (blk_rangeC (Fz6.out.2.1)) Try.underlying26 rfl (by rw [ub_len, nonceL_len]; kernel_rfl)) ?_
        simp only [Act.put, List.setIfInBounds_toArray, List.set_cons_zero, List.set_cons_succ]
        refine wpAny_take (i := 20) (oi := ⟨some 47, _, _, _, _, _⟩) (v := (.bool true)) rfl (by kernel_rfl) (by kernel_rfl) (by kernel_rfl) (fun _ _ _ h => h) (Or.inl ⟨rfl, fun w => run_eq12 _ _ _ _ _ (nonceL a s) (nonceL a s) true (nonceL_len _ _) (nonceL_len _ _) rfl rfl rfl (by simp)⟩) ?_
        simp only [Act.put, List.setIfInBounds_toArray, List.set_cons_zero, List.set_cons_succ]
        refine wpAny_take (i := 21) (oi := ⟨some 48, _, _, _, _, _⟩) (v := (.bool true)) rfl (by kernel_rfl) (by kernel_rfl) (by kernel_rfl) (fun _ _ _ h => h) (Or.inl ⟨rfl, fun w => by kernel_rfl⟩) ?_
        simp only [Act.put, List.setIfInBounds_toArray, List.set_cons_zero, List.set_cons_succ]
        refine wpAny_take (i := 22) (oi := ⟨some 4, _, _, _, _, _⟩) (v := (.bool true)) rfl (by kernel_rfl) (by kernel_rfl) (by kernel_rfl) (fun _ _ _ h => h) (Or.inl ⟨rfl, fun w => by kernel_rfl⟩) ?_
        simp only [Act.put, List.setIfInBounds_toArray, List.set_cons_zero, List.set_cons_succ]
        refine wpAny_done (by kernel_rfl) ?_ _
        go_wp2_with fail
        go_ret
        exact ⟨rfl, by rw [G2.out]; exact Fz6.out.1⟩
    · refine op_val (o := ⟨some 30, _, _, _, _, _⟩) (.agg (ub (nonceL b t)).toArray) rfl rfl (run_load_mid _ _ _ 26 _ rfl ga 0 rfl (ub (nonceL b t)) _ (blk_rangeC (Fz1.out.2.2)) Try.underlying26 rfl (by rw [ub_len, nonceL_len]; kernel_rfl)) ?_
      simp only [Act.put, List.setIfInBounds_toArray, List.set_cons_zero, List.set_cons_succ]
      refine wpAny_all (rs := [2]) (by kernel_rfl) (by simp) ?_
      intro i hi
      simp only [List.mem_cons, List.not_mem_nil, or_false] at hi
      subst hi
      refine op_val (o := ⟨some 29, _, _, _, _, _⟩) (.agg (ub (nonceL a s)).toArray) rfl rfl (run_load_mid _ _ _ 26 _ rfl g9 0 rfl (ub (nonceL a s)) _ (blk_rangeC (Fz1.out.2.1)) Try.underlying26 rfl (by rw [ub_len, nonceL_len]; kernel_rfl)) ?_
      simp only [Act.put, List.setIfInBounds_toArray, List.set_cons_zero, List.set_cons_succ]
      refine wpAny_take (i := 4) (oi := ⟨some 31, _, _, _, _, _⟩) (v := (.bool false)) rfl (by kernel_rfl) (by kernel_rfl) (by kernel_rfl) (fun _ _ _ h => h) (Or.inl ⟨rfl, fun w => run_eq12 _ _ _ _ _ (nonceL a s) (nonceL b t) false (nonceL_len _ _) (nonceL_len _ _) rfl rfl rfl ((decide_eq_false (fun h => EAB.out (nonce_inj (by have := HB.out; omega) (by have := HB.out; omega) (by have := HB.out; omega) (by have := HB.out; omega) h).1)).symm)⟩) ?_
      simp only [Act.put, List.setIfInBounds_toArray, List.set_cons_zero, List.set_cons_succ]
      refine wpAny_take (i := 13) (oi := ⟨some 40, _, _, _, _, _⟩) (v := (.bool true)) rfl (by kernel_rfl) (by kernel_rfl) (by kernel_rfl) (fun _ _ _ h => h) (Or.inl ⟨rfl, fun w => by kernel_rfl⟩) ?_
      simp only [Act.put, List.setIfInBounds_toArray, List.set_cons_zero, List.set_cons_succ]
      refine wpAny_take (i := 14) (oi := ⟨some 41, _, _, _, _, _⟩) (v := (.bool true)) rfl (by kernel_rfl) (by kernel_rfl) (by kernel_rfl) (fun _ _ _ h => h) (Or.inl ⟨rfl, fun w => by kernel_rfl⟩) ?_
      simp only [Act.put, List.setIfInBounds_toArray, List.set_cons_zero, List.set_cons_succ]
      refine wpAny_take (i := 15) (oi := ⟨some 42, _, _, _, _, _⟩) (v := (.bool true)) rfl (by kernel_rfl) (by kernel_rfl) (by kernel_rfl) (fun _ _ _ h => h) (Or.inl ⟨rfl, fun w => by kernel_rfl⟩) ?_
      simp only [Act.put, List.setIfInBounds_toArray, List.set_cons_zero, List.set_cons_succ]
      refine wpAny_take (i := 17) (oi := ⟨some 44, _, _, _, _, _⟩) (v := (.int .u32 ((a : Nat) : Int))) rfl (by kernel_rfl) (by kernel_rfl) (by kernel_rfl) (fun _ _ _ h => h) (Or.inl ⟨rfl, fun w => by kernel_rfl⟩) ?_
      simp only [Act.put, List.setIfInBounds_toArray, List.set_cons_zero, List.set_cons_succ]
      refine wpAny_take (i := 18) (oi := ⟨some 45, _, _, _, _, _⟩) (v := (.int .u64 ((s : Nat) : Int))) rfl (by kernel_rfl) (by kernel_rfl) (by kernel_rfl) (fun _ _ _ h => h) (Or.inl ⟨rfl, fun w => by kernel_rfl⟩) ?_
      simp only [Act.put, List.setIfInBounds_toArray, List.set_cons_zero, List.set_cons_succ]
      refine wpAny_all (rs := [16, 19]) (by kernel_rfl) (by simp) ?_
      intro i hi
      simp only [List.mem_cons, List.not_mem_nil, or_false] at hi
      rcases hi with rfl | rfl
      · refine op_val (o := ⟨some 43, _, _, _, _, _⟩) (.agg (ub (nonceL a s)).toArray) rfl rfl (run_load_mid _ _ _ 26 _ rfl g9 0 rfl (ub (nonceL a s)) _ (blk_rangeC (Fz1.out.2.1)) Try.underlying26 rfl (by rw [ub_len, nonceL_len]; kernel_rfl)) ?_
        simp only [Act.put, List.setIfInBounds_toArray, List.set_cons_zero, List.set_cons_succ]
        refine wpAny_all (rs := [19]) (by kernel_rfl) (by simp) ?_
        intro i hi
        simp only [List.mem_cons, List.not_mem_nil, or_false] at hi
        subst hi
        refine op_call (o := ⟨some 46, _, _, _, _, _⟩) 7 #[.int .u32 ((a : Nat) : Int), .int .u64 ((s : Nat) : Int)] rfl rfl (by kernel_rfl) (((refnonce_any a s (by have := HB.out; omega) (by have := HB.out; omega) z1)).mono fun e z11 ⟨he, qz11⟩ => ⟨.agg (ub (nonceL a s)).toArray, he, ?_⟩)
        simp only [Act.put, List.setIfInBounds_toArray, List.set_cons_zero, List.set_cons_succ]
        have Fz11 := Lib.hid (show Below g2 w z11 ∧ Blk z11 g9 26 (ub (nonceL a s)).toArray ∧ Blk z11 ga 26 (ub (nonceL b t)).toArray from ⟨Fz1.out.1.trans (qz11.mono (by have h1 := Fz1.out.1.size; have h2 := G2.out; omega)), Fz1.out.2.1.below qz11, Fz1.out.2.2.below qz11⟩)
        clear qz11
        refine wpAny_take (i := 20) (oi := ⟨some 47, _, _, _, _, _⟩) (v := (.bool true)) rfl (by kernel_rfl) (by kernel_rfl) (by kernel_rfl) (fun _ _ _ h => h) (Or.inl ⟨rfl, fun w => run_eq12 _ _ _ _ _ (nonceL a s) (nonceL a s) true (nonceL_len _ _) (nonceL_len _ _) rfl rfl rfl (by simp)⟩) ?_
        simp only [Act.put, List.setIfInBounds_toArray, List.set_cons_zero, List.set_cons_succ]
        refine wpAny_take (i := 21) (oi := ⟨some 48, _, _, _, _, _⟩) (v := (.bool true)) rfl (by kernel_rfl) (by kernel_rfl) (by kernel_rfl) (fun _ _ _ h => h) (Or.inl ⟨rfl, fun w => by kernel_rfl⟩) ?_
        simp only [Act.put, List.setIfInBounds_toArray, List.set_cons_zero, List.set_cons_succ]
        refine wpAny_take (i := 22) (oi := ⟨some 4, _, _, _, _, _⟩) (v := (.bool true)) rfl (by kernel_rfl) (by kernel_rfl) (by kernel_rfl) (fun _ _ _ h => h) (Or.inl ⟨rfl, fun w => by kernel_rfl⟩) ?_
        simp only [Act.put, List.setIfInBounds_toArray, List.set_cons_zero, List.set_cons_succ]
        refine wpAny_done (by kernel_rfl) ?_ _
        go_wp2_with fail
        go_ret
        exact ⟨rfl, by rw [G2.out]; exact Fz11.out.1⟩
      · refine op_call (o := ⟨some 46, _, _, _, _, _⟩) 7 #[.int .u32 ((a : Nat) : Int), .int .u64 ((s : Nat) : Int)] rfl rfl (by kernel_rfl) (((refnonce_any a s (by have := HB.out; omega) (by have := HB.out; omega) z1)).mono fun e z12 ⟨he, qz12⟩ => ⟨.agg (ub (nonceL a s)).toArray, he, ?_⟩)
        simp only [Act.put, List.setIfInBounds_toArray, List.set_cons_zero, List.set_cons_succ]
        have Fz12 := Lib.hid (show Below g2 w z12 ∧ Blk z12 g9 26 (ub (nonceL a s)).toArray ∧ Blk z12 ga 26 (ub (nonceL b t)).toArray from ⟨Fz1.out.1.trans (qz12.mono (by have h1 := Fz1.out.1.size; have h2 := G2.out; omega)), Fz1.out.2.1.below qz12, Fz1.out.2.2.below qz12⟩)
        clear qz12
        refine wpAny_all (rs := [16]) (by kernel_rfl) (by simp) ?_
        intro i hi
        simp only [List.mem_cons, List.not_mem_nil, or_false] at hi
        subst hi
        refine op_val (o := ⟨some 43, _, _, _, _, _⟩) (.agg (ub (nonceL a s)).toArray) rfl rfl (run_load_mid _ _ _ 26 _ rfl g9 0 rfl (ub (nonceL a s)) _ (blk_rangeC (Fz12.out.2.1)) Try.underlying26 rfl (by rw [ub_len, nonceL_len]; kernel_rfl)) ?_
        simp only [Act.put, List.setIfInBounds_toArray, List.set_cons_zero, List.set_cons_succ]
        refine wpAny_take (i := 20) (oi := ⟨some 47, _, _, _, _, _⟩) (v := (.bool true)) rfl (by kernel_rfl) (by kernel_rfl) (by kernel_rfl) (fun _ _ _ h => h) (Or.inl ⟨rfl, fun w => run_eq12 _ _ _ _ _ (nonceL a s) (nonceL a s) true (nonceL_len _ _) (nonceL_len _ _) rfl rfl rfl (by simp)⟩) ?_
        simp only [Act.put, List.setIfInBounds_toArray, List.set_cons_zero, List.set_cons_succ]
        refine wpAny_take (i := 21) (oi := ⟨some 48, _, _, _, _, _⟩) (v := (.bool true)) rfl (by kernel_rfl) (by kernel_rfl) (by kernel_rfl) (fun _ _ _ h => h) (Or.inl ⟨rfl, fun w => by kernel_rfl⟩) ?_
        simp only [Act.put, List.setIfInBounds_toArray, List.set_cons_zero, List.set_cons_succ]
        refine wpAny_take (i := 22) (oi := ⟨some 4, _, _, _, _, _⟩) (v := (.bool true)) rfl (by kernel_rfl) (by kernel_rfl) (by kernel_rfl) (fun _ _ _ h => h) (Or.inl ⟨rfl, fun w => by kernel_rfl⟩) ?_
        simp only [Act.put, List.setIfInBounds_toArray, List.set_cons_zero, List.set_cons_succ]
        refine wpAny_done (by kernel_rfl) ?_ _
        go_wp2_with fail
        go_ret
        exact ⟨rfl, by rw [G2.out]; exact Fz12.out.1⟩
end Go.Proofs.Ytlbfohpkngmaoaa.Ch.B.Se
namespace Go.Proofs.Ytlbfohpkngmaoaa
open Go Go.RowKit
theorem list2 (xs : List Int) (h : xs.length = 2) : ∃ a b, xs = [a, b] := by
  match xs, h with
  | [a, b], _ => exact ⟨a, b, rfl⟩
theorem walkSealNonces (xs ys : List Int) (lx : xs.length = 2) (wx : ∀ x ∈ xs, (Lit.int .u32 x).wf = true) (ly : ys.length = 2) (wy : ∀ x ∈ ys, (Lit.int .u64 x).wf = true) (w : World) :
    Calls Try.prog 3 #[.agg (xs.map (Value.int .u32)).toArray, .agg (ys.map (Value.int .u64)).toArray] w fun e w' => e = .returned (.bool true) ∧ Below w.heap.size w w' := by
  obtain ⟨a, b, rfl⟩ := list2 xs lx
  obtain ⟨s, t, rfl⟩ := list2 ys ly
  have ha := bounds_u32 (wx a (by simp))
  have hb := bounds_u32 (wx b (by simp))
  have hs := bounds_u64 (wy s (by simp))
  have ht := bounds_u64 (wy t (by simp))
  obtain ⟨a, rfl⟩ : ∃ n : Nat, a = (n : Int) := ⟨a.toNat, by omega⟩
  obtain ⟨b, rfl⟩ : ∃ n : Nat, b = (n : Int) := ⟨b.toNat, by omega⟩
  obtain ⟨s, rfl⟩ : ∃ n : Nat, s = (n : Int) := ⟨s.toNat, by omega⟩
  obtain ⟨t, rfl⟩ : ∃ n : Nat, t = (n : Int) := ⟨t.toNat, by omega⟩
  exact Ch.B.Se.nonces_any a b s t ⟨by omega, by omega, by omega, by omega⟩ w
end Go.Proofs.Ytlbfohpkngmaoaa
