import Derived.Test.YtbgmielhnklkgaaP14
namespace Go.Proofs.Ytbgmielhnklkgaa
open Go.RowKit

theorem size5 (w : World) : (sizeOf 5).run Try.prog w = .ok 1 w := by kernel_rfl
theorem run_clr (a : Act) (o : Oper) (w w' : World) (x : Operand) (v r : Value) (ho : o.op = .call { callee := .builtin .clear, args := #[x], argTypes := #[24] }) (ht : o.type = 0) (hx : a.eval x = v)
    (h : (Builtin.clear_ #[24] 0 #[v]).run Try.prog w = .ok r w') : (execOp a.eval o).run Try.prog w = .ok (.value r) w' := by
  unfold execOp
  simp only [ho, resolve, invoke, builtin, Sem.run_bind, Sem.run_pure, Result.andThen_ok, List.map_toArray, List.map_cons, List.map_nil, hx, ht, h]
set_option maxRecDepth 100000 in
set_option maxHeartbeats 2000000 in
theorem take_part (w : World) (b r : Nat) (K0 : Nat → Nat) (hr : r < 16) (hK : ∀ j, K0 j < 256) (hb : Blk w b 40 (sumc 0 0 0 (rest16 K0) (r : Int)).toArray) :
    Calls Try.prog 16 #[.pointer (some ⟨b, 0, none⟩)] w fun e w' => e = .returned (.tuple #[]) ∧ w.grownBy w' (some b) ∧ ∃ K, (∀ j, K j < 256) ∧ Blk w' b 40 (sumc 0 0 0 (rest16 K) 0).toArray := by
  have HB := Lib.hid hb
  have HK := Lib.hid hK
  have HR := Lib.hid hr
  clear hb hK hr
  go_enter Try.func16, Try.ntmps16
  go_upto_region 0 with (fail)
  refine wp_region_lit ?_
  refine wpL_pure (.int .u64 1) rfl (by kernel_rfl) ?_
  simp only [Act.put, List.setIfInBounds_toArray, List.set_cons_zero, List.set_cons_succ]
  go_upto_region 1 with (fail)
  refine wp_region_lit ?_
  refine wpL_pure (.pointer (some ⟨b, 0, none⟩)) rfl (by kernel_rfl) ?_
  simp only [Act.put, List.setIfInBounds_toArray, List.set_cons_zero, List.set_cons_succ]
  refine wpL_pure (.pointer (some ⟨b, 0, none⟩)) rfl (by kernel_rfl) ?_
  simp only [Act.put, List.setIfInBounds_toArray, List.set_cons_zero, List.set_cons_succ]
  refine wpL_pure (.pointer (some ⟨b, 21, none⟩)) rfl (by kernel_rfl) ?_
  simp only [Act.put, List.setIfInBounds_toArray, List.set_cons_zero, List.set_cons_succ]
  refine wpL_pure (.int .i64 (r : Int)) rfl (run_load_one _ _ _ 3 _ _ rfl b 21 rfl (sum_c21 (by simp [rest16]) HB.out) (by kernel_rfl)) ?_
  simp only [Act.put, List.setIfInBounds_toArray, List.set_cons_zero, List.set_cons_succ]
  refine wpL_pure (.bool true) rfl (run_lss16 _ _ _ _ r rfl rfl HR.out) ?_
  simp only [Act.put, List.setIfInBounds_toArray, List.set_cons_zero, List.set_cons_succ]
  refine wpL_pure (.bool true) rfl (by kernel_rfl) ?_
  simp only [Act.put, List.setIfInBounds_toArray, List.set_cons_zero, List.set_cons_succ]
  go_upto_region 2 with (fail)
  refine wp_region_lit ?_
  refine wpL_pure (.int .u64 0) rfl (by kernel_rfl) ?_
  simp only [Act.put, List.setIfInBounds_toArray, List.set_cons_zero, List.set_cons_succ]
  go_upto_region 3 with (fail)
  refine region_held (S23 b w 0 0 0 (rest16 K0) (r : Int)) 8 (by kernel_rfl) (by kernel_rfl) (by exact ⟨gb_drew (gb_refl _ _), HB.out⟩) ?_
  simp only [List.take_succ_cons, List.take_zero, List.drop_succ_cons, List.drop_zero]
  refine wpHeld_cons (.pointer (some ⟨b, 0, none⟩)) rfl (fun w h => heldRun_value (by kernel_rfl) h) ?_
  simp only [Act.put, List.setIfInBounds_toArray, List.set_cons_zero, List.set_cons_succ]
  refine wpHeld_cons (.pointer (some ⟨b, 0, none⟩)) rfl (fun w h => heldRun_value (by kernel_rfl) h) ?_
  simp only [Act.put, List.setIfInBounds_toArray, List.set_cons_zero, List.set_cons_succ]
  refine wpHeld_cons (.pointer (some ⟨b, 0, none⟩)) rfl (fun w h => heldRun_value (by kernel_rfl) h) ?_
  simp only [Act.put, List.setIfInBounds_toArray, List.set_cons_zero, List.set_cons_succ]
  refine wpHeld_cons (.pointer (some ⟨b, 21, none⟩)) rfl (fun w h => heldRun_value (by kernel_rfl) h) ?_
  simp only [Act.put, List.setIfInBounds_toArray, List.set_cons_zero, List.set_cons_succ]
  refine wpHeld_cons (.int .i64 (r : Int)) rfl (fun w h => heldRun_value (run_load_one _ _ _ 3 _ _ rfl b 21 rfl (sum_c21 (by simp [rest16]) h.2) (by kernel_rfl)) h) ?_
  simp only [Act.put, List.setIfInBounds_toArray, List.set_cons_zero, List.set_cons_succ]
  refine wpHeld_cons (.pointer (some ⟨b, 0, none⟩)) rfl (fun w h => heldRun_value (by kernel_rfl) h) ?_
  simp only [Act.put, List.setIfInBounds_toArray, List.set_cons_zero, List.set_cons_succ]
  refine wpHeld_cons (.pointer (some ⟨b, 5, none⟩)) rfl (fun w h => heldRun_value (by kernel_rfl) h) ?_
  simp only [Act.put, List.setIfInBounds_toArray, List.set_cons_zero, List.set_cons_succ]
  refine wpHeld_cons (.pointer (some ⟨b, 5 + r, none⟩)) rfl (fun w h => heldRun_value (run_idxa _ _ _ _ _ b 5 r rfl rfl rfl HR.out) h) ?_
  simp only [Act.put, List.setIfInBounds_toArray, List.set_cons_zero, List.set_cons_succ]
  refine wpHeld_nil ?_
  intro X h
  refine wpL_store_one rfl rfl b (5 + r) rfl .u8 1 rfl size5 (by rw [sum_rest h.2 r HR.out]; rfl) (h.2.free _) ?_
  simp only [Act.put, List.setIfInBounds_toArray, List.set_cons_zero, List.set_cons_succ]
  obtain ⟨Y, hY⟩ : ∃ Y, Y = X.setCell ⟨b, 5 + r, none⟩ (.int .u8 1) := ⟨_, rfl⟩
  rw [← hY]
  have HY : Hid (S23 b w 0 0 0 (rest16 (upd K0 r 1)) (r : Int) Y) := Lib.hid (by rw [hY]; exact ⟨gb_set h.1 _ _, sum_r h.2 r 1 HR.out⟩)
  clear h hY HB
  go_upto_region 4 with (fail)
  refine region_held (S23 b w 0 0 0 (rest16 (upd K0 r 1)) (r : Int)) 9 (by kernel_rfl) (by kernel_rfl) (by exact ⟨gb_drew HY.out.1, HY.out.2⟩) ?_
  simp only [List.take_succ_cons, List.take_zero, List.drop_succ_cons, List.drop_zero]
  refine wpHeld_cons (.pointer (some ⟨b, 0, none⟩)) rfl (fun w h => heldRun_value (by kernel_rfl) h) ?_
  simp only [Act.put, List.setIfInBounds_toArray, List.set_cons_zero, List.set_cons_succ]
  refine wpHeld_cons (.pointer (some ⟨b, 0, none⟩)) rfl (fun w h => heldRun_value (by kernel_rfl) h) ?_
  simp only [Act.put, List.setIfInBounds_toArray, List.set_cons_zero, List.set_cons_succ]
  refine wpHeld_cons (.pointer (some ⟨b, 5, none⟩)) rfl (fun w h => heldRun_value (by kernel_rfl) h) ?_
  simp only [Act.put, List.setIfInBounds_toArray, List.set_cons_zero, List.set_cons_succ]
  refine wpHeld_cons (.pointer (some ⟨b, 0, none⟩)) rfl (fun w h => heldRun_value (by kernel_rfl) h) ?_
  simp only [Act.put, List.setIfInBounds_toArray, List.set_cons_zero, List.set_cons_succ]
  refine wpHeld_cons (.pointer (some ⟨b, 0, none⟩)) rfl (fun w h => heldRun_value (by kernel_rfl) h) ?_
  simp only [Act.put, List.setIfInBounds_toArray, List.set_cons_zero, List.set_cons_succ]
  refine wpHeld_cons (.pointer (some ⟨b, 21, none⟩)) rfl (fun w h => heldRun_value (by kernel_rfl) h) ?_
  simp only [Act.put, List.setIfInBounds_toArray, List.set_cons_zero, List.set_cons_succ]
  refine wpHeld_cons (.int .i64 (r : Int)) rfl (fun w h => heldRun_value (run_load_one _ _ _ 3 _ _ rfl b 21 rfl (sum_c21 (by simp [rest16]) h.2) (by kernel_rfl)) h) ?_
  simp only [Act.put, List.setIfInBounds_toArray, List.set_cons_zero, List.set_cons_succ]
  refine wpHeld_cons (.int .i64 ((r + 1 : Nat) : Int)) rfl (fun w h => heldRun_value (run_add1 _ _ _ _ r rfl rfl (by have := HR.out; omega)) h) ?_
  simp only [Act.put, List.setIfInBounds_toArray, List.set_cons_zero, List.set_cons_succ]
  refine wpHeld_cons (.slice (some ⟨b, 5 + (if r + 1 < 16 then r + 1 else 0), none⟩) (16 - (r + 1)) (16 - (r + 1))) rfl (fun w h => heldRun_value (run_slice16 _ _ _ _ _ b (r + 1) rfl rfl rfl HR.out) h) ?_
  simp only [Act.put, List.setIfInBounds_toArray, List.set_cons_zero, List.set_cons_succ]
  refine wpHeld_nil ?_
  intro X h
  obtain ⟨K, HK0, hg5, hb5⟩ := sum_cells (List.replicate (16 - (r + 1)) 0) (r + 1) X (upd K0 r 1) (upd_lt HK.out r (by omega)) (by intro v hv; simp at hv; omega) (by simp; have := HR.out; omega) h.1 h.2
  have HC4 := Lib.hid (run_clear X b (r + 1) HR.out h.2)
  obtain ⟨Y5, hY5⟩ : ∃ Y, Y = X.setCells b (5 + (r + 1)) ((List.replicate (16 - (r + 1)) (0 : Nat)).map fun (v : Nat) => Value.int .u8 (v : Int)) := ⟨_, rfl⟩
  rw [← hY5] at hg5 hb5 HC4
  refine wpL_value (.tuple #[]) Y5 rfl (run_clr _ _ _ _ _ _ _ rfl rfl rfl HC4.out) ?_
  simp only [Act.put, List.setIfInBounds_toArray, List.set_cons_zero, List.set_cons_succ]
  have HKK := Lib.hid HK0
  have HB5 : Hid (w.grownBy Y5 (some b) ∧ Blk Y5 b 40 (sumc 0 0 0 (rest16 K) (r : Int)).toArray) := Lib.hid ⟨hg5, hb5⟩
  clear HK0 hg5 hb5 HC4 hY5 h HY HK
  generalize (if r + 1 < 16 then r + 1 else 0) = z
  go_upto_region 5 with (fail)
  refine wp_region_lit ?_
  refine wpL_pure (.int .u64 0) rfl (by kernel_rfl) ?_
  simp only [Act.put, List.setIfInBounds_toArray, List.set_cons_zero, List.set_cons_succ]
  go_upto_region 6 with (fail)
  obtain ⟨n0, hn0⟩ : ∃ n, le K 8 = n := ⟨_, rfl⟩
  have N0 : n0 < 18446744073709551616 := by rw [← hn0]; exact le_64 K HKK.out 8 (by omega)
  have A6 : ∀ W, (callFunc 22 #[.int .u64 0, .int .u64 (n0 : Int), .int .u64 0]).run Try.prog W = .ok (.value (.tuple #[.int .u64 (n0 : Int), .int .u64 0])) W := add64_0 n0 N0
  have C14 : Hid (∀ W, Blk W b 40 (sumc 0 0 0 (rest16 K) (r : Int)).toArray → Calls Try.prog 14 #[.slice (some ⟨b, 5, none⟩) 16 16] W fun e w' => e = .returned (.int .u64 (n0 : Int)) ∧ W = w') := Lib.hid (fun W h => by rw [← hn0]; exact number_any W b 5 16 16 K HKK.out (by omega) (by unfold maxLen; omega) (fun j hj => sum_rest h j (by omega)))
  have c0 : Y5.cell? ⟨b, 0, none⟩ = some (.int .u64 0) := sum_c0 HB5.out.2
  have f0 : Y5.frozen? ⟨b, 0, none⟩ = false := HB5.out.2.free _
  obtain ⟨n1, hn1⟩ : ∃ n, le (fun j => K (8 + j)) 8 = n := ⟨_, rfl⟩
  have N1 : n1 < 18446744073709551616 := by rw [← hn1]; exact le_64 _ (fun j => HKK.out _) 8 (by omega)
  have D14 : Hid (∀ W x, Blk W b 40 (sumc x 0 0 (rest16 K) (r : Int)).toArray → Calls Try.prog 14 #[.slice (some ⟨b, 13, none⟩) 8 8] W fun e w' => e = .returned (.int .u64 (n1 : Int)) ∧ W = w') := Lib.hid (fun W x h => by rw [← hn1]; exact number_any W b 13 8 8 (fun j => K (8 + j)) (fun j => HKK.out _) (by omega) (by unfold maxLen; omega) (fun j hj => by have q := sum_rest h (8 + j) (by omega); rw [show 5 + (8 + j) = 13 + j by omega] at q; exact q))
  have E14 : Hid (∀ W, Blk W b 40 (sumc (n0 : Int) 0 0 (rest16 K) (r : Int)).toArray → Calls Try.prog 14 #[.slice (some ⟨b, 13, none⟩) 8 8] W fun e w' => e = .returned (.int .u64 (n1 : Int)) ∧ W = w') := Lib.hid (fun W h => D14.out W _ h)
  have A7 := Lib.hid (add64_0 n1 N1)
  have M0 := Lib.hid N0
  have M1 := Lib.hid N1
  clear hn0 N0 hn1 N1 D14
  go_cut [3] (fun s3 wr => s3 = .int .u64 0 ∧ Hid (w.grownBy wr (some b) ∧ Blk wr b 40 (sumc (n0 : Int) 0 0 (rest16 K) (r : Int)).toArray))
  case first =>
    clear A7 E14
    go_region_with (refine (C14.out _ (by first | exact HB5.out.2 | exact sum_s0 HB5.out.2 _)).mono ?_; rintro e w' ⟨rfl, rfl⟩)
    all_goals
      go_wp2
      go_meet
      case rel => exact ⟨rfl, Lib.hid ⟨gb_set (gb_drew HB5.out.1) _ _, sum_s0 (Blk.drew HB5.out.2) _⟩⟩
  case rest =>
    obtain ⟨rfl, HC⟩ := hcut
    have A7' := A7.out
    clear c0 f0 A6 C14 HB5 A7
    go_upto_region 7 with (fail)
    have c1 : wc.cell? ⟨b, 1, none⟩ = some (.int .u64 0) := sum_c1 HC.out.2
    have f1 : wc.frozen? ⟨b, 1, none⟩ = false := HC.out.2.free _
    go_cut [3] (fun s3 wr => s3 = .int .u64 0 ∧ Hid (w.grownBy wr (some b) ∧ Blk wr b 40 (sumc (n0 : Int) (n1 : Int) 0 (rest16 K) (r : Int)).toArray))
    case first =>
      go_region_with (refine (E14.out _ (by first | exact HC.out.2 | exact sum_s1 HC.out.2 _)).mono ?_; rintro e w' ⟨rfl, rfl⟩)
      all_goals
        go_wp2
        go_meet
        case rel => exact ⟨rfl, Lib.hid ⟨gb_set (gb_drew HC.out.1) _ _, sum_s1 (Blk.drew HC.out.2) _⟩⟩
    case rest =>
      obtain ⟨rfl, HD⟩ := hcut
      clear c1 f1 A7' E14 HC
      go_upto_region 8 with (fail)
      refine region_held (S23 b w (n0 : Int) (n1 : Int) 0 (rest16 K) (r : Int)) 12 (by kernel_rfl) (by kernel_rfl) (by exact ⟨gb_drew HD.out.1, HD.out.2⟩) ?_
      simp only [List.take_succ_cons, List.take_zero, List.drop_succ_cons, List.drop_zero]
      refine wpHeld_cons (.pointer (some ⟨b, 0, none⟩)) rfl (fun w h => heldRun_value (by kernel_rfl) h) ?_
      simp only [Act.put, List.setIfInBounds_toArray, List.set_cons_zero, List.set_cons_succ]
      refine wpHeld_cons (.pointer (some ⟨b, 0, none⟩)) rfl (fun w h => heldRun_value (by kernel_rfl) h) ?_
      simp only [Act.put, List.setIfInBounds_toArray, List.set_cons_zero, List.set_cons_succ]
      refine wpHeld_cons (.pointer (some ⟨b, 0, none⟩)) rfl (fun w h => heldRun_value (by kernel_rfl) h) ?_
      simp only [Act.put, List.setIfInBounds_toArray, List.set_cons_zero, List.set_cons_succ]
      refine wpHeld_cons (.pointer (some ⟨b, 2, none⟩)) rfl (fun w h => heldRun_value (by kernel_rfl) h) ?_
      simp only [Act.put, List.setIfInBounds_toArray, List.set_cons_zero, List.set_cons_succ]
      refine wpHeld_cons (.int .u64 0) rfl (fun w h => heldRun_value (run_load_one _ _ _ 35 _ _ rfl b 2 rfl (sum_c2 h.2) (by kernel_rfl)) h) ?_
      simp only [Act.put, List.setIfInBounds_toArray, List.set_cons_zero, List.set_cons_succ]
      refine wpHeld_cons (.int .u64 0) rfl (fun w h => heldRun_value (by kernel_rfl) h) ?_
      simp only [Act.put, List.setIfInBounds_toArray, List.set_cons_zero, List.set_cons_succ]
      refine wpHeld_cons (.int .u64 0) rfl (fun w h => heldRun_value (by kernel_rfl) h) ?_
      simp only [Act.put, List.setIfInBounds_toArray, List.set_cons_zero, List.set_cons_succ]
      refine wpHeld_cons (.int .u64 0) rfl (fun w h => heldRun_value (by kernel_rfl) h) ?_
      simp only [Act.put, List.setIfInBounds_toArray, List.set_cons_zero, List.set_cons_succ]
      refine wpHeld_cons (.int .u64 0) rfl (fun w h => heldRun_value (by kernel_rfl) h) ?_
      simp only [Act.put, List.setIfInBounds_toArray, List.set_cons_zero, List.set_cons_succ]
      refine wpHeld_cons (.pointer (some ⟨b, 0, none⟩)) rfl (fun w h => heldRun_value (by kernel_rfl) h) ?_
      simp only [Act.put, List.setIfInBounds_toArray, List.set_cons_zero, List.set_cons_succ]
      refine wpHeld_cons (.pointer (some ⟨b, 0, none⟩)) rfl (fun w h => heldRun_value (by kernel_rfl) h) ?_
      simp only [Act.put, List.setIfInBounds_toArray, List.set_cons_zero, List.set_cons_succ]
      refine wpHeld_cons (.pointer (some ⟨b, 2, none⟩)) rfl (fun w h => heldRun_value (by kernel_rfl) h) ?_
      simp only [Act.put, List.setIfInBounds_toArray, List.set_cons_zero, List.set_cons_succ]
      refine wpHeld_nil ?_
      intro X h
      refine wpL_store_one rfl rfl b 2 rfl .u64 0 rfl size35 (by rw [sum_c2 h.2]; rfl) (h.2.free _) ?_
      simp only [Act.put, List.setIfInBounds_toArray, List.set_cons_zero, List.set_cons_succ]
      obtain ⟨Y, hY⟩ : ∃ Y, Y = X.setCell ⟨b, 2, none⟩ (.int .u64 0) := ⟨_, rfl⟩
      rw [← hY]
      have HY : Hid (S23 b w (n0 : Int) (n1 : Int) 0 (rest16 K) (r : Int) Y) := Lib.hid (by rw [hY]; exact ⟨gb_set h.1 _ _, sum_s2 h.2 0⟩)
      clear h hY HD
      go_upto_region 9 with (fail)
      refine wp_region_lit ?_
      refine wpL_pure (.pointer (some ⟨b, 0, none⟩)) rfl (by kernel_rfl) ?_
      simp only [Act.put, List.setIfInBounds_toArray, List.set_cons_zero, List.set_cons_succ]
      refine wpL_call 23 #[.pointer (some ⟨b, 0, none⟩)] rfl (by kernel_rfl) ((multiply_zero Y b n0 n1 0 (rest16 K) (r : Int) M0.out M1.out HY.out.2).mono fun e V ⟨he, hq⟩ => ⟨_, he, ?_⟩)
      simp only [Act.put, List.setIfInBounds_toArray, List.set_cons_zero, List.set_cons_succ]
      have HV : Hid (S23 b w 0 0 0 (rest16 K) (r : Int) V) := Lib.hid ⟨gb_trans HY.out.1 hq.1, hq.2⟩
      clear hq HY
      go_upto_region 10 with (fail)
      refine wp_region_lit ?_
      refine wpL_pure (.pointer (some ⟨b, 0, none⟩)) rfl (by kernel_rfl) ?_
      simp only [Act.put, List.setIfInBounds_toArray, List.set_cons_zero, List.set_cons_succ]
      refine wpL_pure (.pointer (some ⟨b, 0, none⟩)) rfl (by kernel_rfl) ?_
      simp only [Act.put, List.setIfInBounds_toArray, List.set_cons_zero, List.set_cons_succ]
      refine wpL_pure (.pointer (some ⟨b, 21, none⟩)) rfl (by kernel_rfl) ?_
      simp only [Act.put, List.setIfInBounds_toArray, List.set_cons_zero, List.set_cons_succ]
      refine wpL_store_one rfl rfl b 21 rfl .i64 0 rfl size3 (by rw [sum_c21 (by simp [rest16]) HV.out.2]; rfl) (HV.out.2.free _) ?_
      simp only [Act.put, List.setIfInBounds_toArray, List.set_cons_zero, List.set_cons_succ]
      go_upto_region 11 with (fail)
      go_end0
      exact ⟨rfl, gb_set HV.out.1 _ _, K, HKK.out, sum_s21 (by simp [rest16]) HV.out.2 0⟩
end Go.Proofs.Ytbgmielhnklkgaa
