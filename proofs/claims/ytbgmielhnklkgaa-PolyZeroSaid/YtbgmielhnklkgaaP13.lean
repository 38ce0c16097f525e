import Derived.Test.YtbgmielhnklkgaaP12
namespace Go.Proofs.Ytbgmielhnklkgaa
open Go.RowKit

def rest16 (K : Nat → Nat) : List Value := (List.range 16).map fun (j : Nat) => Value.int .u8 (K j : Int)
theorem sum_c21 {w : World} {b : Nat} {h0 h1 h2 : Int} {rs : List Value} {hl : Int} (hr : rs.length = 16) (h : Blk w b 40 (sumc h0 h1 h2 rs hl).toArray) : w.cell? ⟨b, 21, none⟩ = some (.int .i64 hl) := by
  rw [h.cell]
  simp [sumc, List.getElem?_append, hr]
theorem sum_rest {w : World} {b : Nat} {h0 h1 h2 : Int} {K : Nat → Nat} {hl : Int} (h : Blk w b 40 (sumc h0 h1 h2 (rest16 K) hl).toArray) (j : Nat) (hj : j < 16) : w.cell? ⟨b, 5 + j, none⟩ = some (.int .u8 (K j : Nat)) := by
  rw [h.cell]
  have e : 5 + j = j + 5 := by omega
  simp [sumc, rest16, e, List.getElem?_append, hj, List.getElem?_range hj]
theorem Blk.drew {w : World} {g t : Nat} {cs : Array Value} (h : Blk w g t cs) : Blk w.drew g t cs := h
theorem size3 (w : World) : (sizeOf 3).run Try.prog w = .ok 1 w := by kernel_rfl
theorem sum_s21 {w : World} {b : Nat} {h0 h1 h2 : Int} {rs : List Value} {hl : Int} (hr : rs.length = 16) (h : Blk w b 40 (sumc h0 h1 h2 rs hl).toArray) (x : Int) : Blk (w.setCell ⟨b, 21, none⟩ (.int .i64 x)) b 40 (sumc h0 h1 h2 rs x).toArray := by
  have q := h.set 21 (.int .i64 x)
  have e : (sumc h0 h1 h2 rs hl).set 21 (.int .i64 x) = sumc h0 h1 h2 rs x := by
    unfold sumc
    rw [List.set_append_right _ _ (by simp [hr])]
    simp [hr]
  rwa [e] at q
set_option maxRecDepth 100000 in
set_option maxHeartbeats 2000000 in
theorem take_full (w : World) (b : Nat) (K : Nat → Nat) (hK : ∀ j, K j < 256) (hb : Blk w b 40 (sumc 0 0 0 (rest16 K) 16).toArray) :
    Calls Try.prog 16 #[.pointer (some ⟨b, 0, none⟩)] w fun e w' => e = .returned (.tuple #[]) ∧ w.grownBy w' (some b) ∧ Blk w' b 40 (sumc 0 0 0 (rest16 K) 0).toArray := by
  have HB := Lib.hid hb
  have HK := Lib.hid hK
  clear hb hK
  go_enter Try.func16, Try.ntmps16
  go_upto_region 0 with (fail)
  refine wp_region_lit ?_
  refine wpL_pure (.int .u64 1) rfl (by kernel_rfl) ?_
  simp only [Act.put, List.setIfInBounds_toArray, List.set_cons_zero, List.set_cons_succ]
  go_upto_region 1 with (fail)
  refine wp_region_lit ?_
  refine wpL_pure (.pointer (some ⟨b, 0, none⟩)) rfl (by kernel_rfl) ?_
  simp only [Act.put, List.setIfInBounds_toArray, List.set_cons_zero, List.set_cons_succ]
  refine wpL_pure (.pointer (some ⟨b, 0, none⟩)) rfl (by kernel_rfl) ?_
  simp only [Act.put, List.setIfInBounds_toArray, List.set_cons_zero, List.set_cons_succ]
  refine wpL_pure (.pointer (some ⟨b, 21, none⟩)) rfl (by kernel_rfl) ?_
  simp only [Act.put, List.setIfInBounds_toArray, List.set_cons_zero, List.set_cons_succ]
  refine wpL_pure (.int .i64 16) rfl (run_load_one _ _ _ 3 _ _ rfl b 21 rfl (sum_c21 (by simp [rest16]) HB.out) (by kernel_rfl)) ?_
  simp only [Act.put, List.setIfInBounds_toArray, List.set_cons_zero, List.set_cons_succ]
  refine wpL_pure (.bool false) rfl (by kernel_rfl) ?_
  simp only [Act.put, List.setIfInBounds_toArray, List.set_cons_zero, List.set_cons_succ]
  refine wpL_pure (.bool false) rfl (by kernel_rfl) ?_
  simp only [Act.put, List.setIfInBounds_toArray, List.set_cons_zero, List.set_cons_succ]
  go_upto_region 5 with (fail)
  refine wp_region_lit ?_
  refine wpL_pure (.int .u64 0) rfl (by kernel_rfl) ?_
  simp only [Act.put, List.setIfInBounds_toArray, List.set_cons_zero, List.set_cons_succ]
  go_upto_region 6 with (fail)
  obtain ⟨n0, hn0⟩ : ∃ n, le K 8 = n := ⟨_, rfl⟩
  have N0 : n0 < 18446744073709551616 := by rw [← hn0]; exact le_64 K HK.out 8 (by omega)
  have A6 : ∀ W, (callFunc 22 #[.int .u64 0, .int .u64 (n0 : Int), .int .u64 0]).run Try.prog W = .ok (.value (.tuple #[.int .u64 (n0 : Int), .int .u64 0])) W := add64_0 n0 N0
  have C14 : Hid (∀ W, Blk W b 40 (sumc 0 0 0 (rest16 K) 16).toArray → Calls Try.prog 14 #[.slice (some ⟨b, 5, none⟩) 16 16] W fun e w' => e = .returned (.int .u64 (n0 : Int)) ∧ W = w') := Lib.hid (fun W h => by rw [← hn0]; exact number_any W b 5 16 16 K HK.out (by omega) (by unfold maxLen; omega) (fun j hj => sum_rest h j (by omega)))
  have c0 : w.cell? ⟨b, 0, none⟩ = some (.int .u64 0) := sum_c0 HB.out
  have f0 : w.frozen? ⟨b, 0, none⟩ = false := HB.out.free _
  obtain ⟨n1, hn1⟩ : ∃ n, le (fun j => K (8 + j)) 8 = n := ⟨_, rfl⟩
  have N1 : n1 < 18446744073709551616 := by rw [← hn1]; exact le_64 _ (fun j => HK.out _) 8 (by omega)
  have D14 : Hid (∀ W x, Blk W b 40 (sumc x 0 0 (rest16 K) 16).toArray → Calls Try.prog 14 #[.slice (some ⟨b, 13, none⟩) 8 8] W fun e w' => e = .returned (.int .u64 (n1 : Int)) ∧ W = w') := Lib.hid (fun W x h => by rw [← hn1]; exact number_any W b 13 8 8 (fun j => K (8 + j)) (fun j => HK.out _) (by omega) (by unfold maxLen; omega) (fun j hj => by have q := sum_rest h (8 + j) (by omega); rw [show 5 + (8 + j) = 13 + j by omega] at q; exact q))
  have E14 : Hid (∀ W, Blk W b 40 (sumc (n0 : Int) 0 0 (rest16 K) 16).toArray → Calls Try.prog 14 #[.slice (some ⟨b, 13, none⟩) 8 8] W fun e w' => e = .returned (.int .u64 (n1 : Int)) ∧ W = w') := Lib.hid (fun W h => D14.out W _ h)
  have A7 := Lib.hid (add64_0 n1 N1)
  have M0 := Lib.hid N0
  have M1 := Lib.hid N1
  clear hn0 N0 hn1 N1 D14
  go_cut [3] (fun s3 wr => s3 = .int .u64 0 ∧ Hid (w.grownBy wr (some b) ∧ Blk wr b 40 (sumc (n0 : Int) 0 0 (rest16 K) 16).toArray))
  case first =>
    clear A7 E14
    go_region_with (refine (C14.out _ (by first | exact HB.out | exact sum_s0 HB.out _)).mono ?_; rintro e w' ⟨rfl, rfl⟩)
    all_goals
      go_wp2
      go_meet
      case rel => exact ⟨rfl, Lib.hid ⟨gb_set (gb_drew (gb_refl _ _)) _ _, sum_s0 (Blk.drew HB.out) _⟩⟩
  case rest =>
    obtain ⟨rfl, HC⟩ := hcut
    have A7' := A7.out
    clear c0 f0 A6 C14 HB A7
    go_upto_region 7 with (fail)
    have c1 : wc.cell? ⟨b, 1, none⟩ = some (.int .u64 0) := sum_c1 HC.out.2
    have f1 : wc.frozen? ⟨b, 1, none⟩ = false := HC.out.2.free _
    go_cut [3] (fun s3 wr => s3 = .int .u64 0 ∧ Hid (w.grownBy wr (some b) ∧ Blk wr b 40 (sumc (n0 : Int) (n1 : Int) 0 (rest16 K) 16).toArray))
    case first =>
      go_region_with (refine (E14.out _ (by first | exact HC.out.2 | exact sum_s1 HC.out.2 _)).mono ?_; rintro e w' ⟨rfl, rfl⟩)
      all_goals
        go_wp2
        go_meet
        case rel => exact ⟨rfl, Lib.hid ⟨gb_set (gb_drew HC.out.1) _ _, sum_s1 (Blk.drew HC.out.2) _⟩⟩
    case rest =>
      obtain ⟨rfl, HD⟩ := hcut
      clear c1 f1 A7' E14 HC
      go_upto_region 8 with (fail)
      refine region_held (S23 b w (n0 : Int) (n1 : Int) 0 (rest16 K) 16) 12 (by kernel_rfl) (by kernel_rfl) (by exact ⟨gb_drew HD.out.1, HD.out.2⟩) ?_
      simp only [List.take_succ_cons, List.take_zero, List.drop_succ_cons, List.drop_zero]
      refine wpHeld_cons (.pointer (some ⟨b, 0, none⟩)) rfl (fun w h => heldRun_value (by kernel_rfl) h) ?_
      simp only [Act.put, List.setIfInBounds_toArray, List.set_cons_zero, List.set_cons_succ]
      refine wpHeld_cons (.pointer (some ⟨b, 0, none⟩)) rfl (fun w h => heldRun_value (by kernel_rfl) h) ?_
      simp only [Act.put, List.setIfInBounds_toArray, List.set_cons_zero, List.set_cons_succ]
      refine wpHeld_cons (.pointer (some ⟨b, 0, none⟩)) rfl (fun w h => heldRun_value (by kernel_rfl) h) ?_
      simp only [Act.put, List.setIfInBounds_toArray, List.set_cons_zero, List.set_cons_succ]
      refine wpHeld_cons (.pointer (some ⟨b, 2, none⟩)) rfl (fun w h => heldRun_value (by kernel_rfl) h) ?_
      simp only [Act.put, List.setIfInBounds_toArray, List.set_cons_zero, List.set_cons_succ]
      refine wpHeld_cons (.int .u64 0) rfl (fun w h => heldRun_value (run_load_one _ _ _ 35 _ _ rfl b 2 rfl (sum_c2 h.2) (by kernel_rfl)) h) ?_
      simp only [Act.put, List.setIfInBounds_toArray, List.set_cons_zero, List.set_cons_succ]
      refine wpHeld_cons (.int .u64 1) rfl (fun w h => heldRun_value (by kernel_rfl) h) ?_
      simp only [Act.put, List.setIfInBounds_toArray, List.set_cons_zero, List.set_cons_succ]
      refine wpHeld_cons (.int .u64 0) rfl (fun w h => heldRun_value (by kernel_rfl) h) ?_
      simp only [Act.put, List.setIfInBounds_toArray, List.set_cons_zero, List.set_cons_succ]
      refine wpHeld_cons (.int .u64 1) rfl (fun w h => heldRun_value (by kernel_rfl) h) ?_
      simp only [Act.put, List.setIfInBounds_toArray, List.set_cons_zero, List.set_cons_succ]
      refine wpHeld_cons (.int .u64 1) rfl (fun w h => heldRun_value (by kernel_rfl) h) ?_
      simp only [Act.put, List.setIfInBounds_toArray, List.set_cons_zero, List.set_cons_succ]
      refine wpHeld_cons (.pointer (some ⟨b, 0, none⟩)) rfl (fun w h => heldRun_value (by kernel_rfl) h) ?_
      simp only [Act.put, List.setIfInBounds_toArray, List.set_cons_zero, List.set_cons_succ]
      refine wpHeld_cons (.pointer (some ⟨b, 0, none⟩)) rfl (fun w h => heldRun_value (by kernel_rfl) h) ?_
      simp only [Act.put, List.setIfInBounds_toArray, List.set_cons_zero, List.set_cons_succ]
      refine wpHeld_cons (.pointer (some ⟨b, 2, none⟩)) rfl (fun w h => heldRun_value (by kernel_rfl) h) ?_
      simp only [Act.put, List.setIfInBounds_toArray, List.set_cons_zero, List.set_cons_succ]
      refine wpHeld_nil ?_
      intro X h
      refine wpL_store_one rfl rfl b 2 rfl .u64 1 rfl size35 (by rw [sum_c2 h.2]; rfl) (h.2.free _) ?_
      simp only [Act.put, List.setIfInBounds_toArray, List.set_cons_zero, List.set_cons_succ]
      obtain ⟨Y, hY⟩ : ∃ Y, Y = X.setCell ⟨b, 2, none⟩ (.int .u64 1) := ⟨_, rfl⟩
      rw [← hY]
      have HY : Hid (S23 b w (n0 : Int) (n1 : Int) 1 (rest16 K) 16 Y) := Lib.hid (by rw [hY]; exact ⟨gb_set h.1 _ _, sum_s2 h.2 1⟩)
      clear h hY HD
      go_upto_region 9 with (fail)
      refine wp_region_lit ?_
      refine wpL_pure (.pointer (some ⟨b, 0, none⟩)) rfl (by kernel_rfl) ?_
      simp only [Act.put, List.setIfInBounds_toArray, List.set_cons_zero, List.set_cons_succ]
      refine wpL_call 23 #[.pointer (some ⟨b, 0, none⟩)] rfl (by kernel_rfl) ((multiply_zero Y b n0 n1 1 (rest16 K) 16 M0.out M1.out HY.out.2).mono fun e V ⟨he, hq⟩ => ⟨_, he, ?_⟩)
      simp only [Act.put, List.setIfInBounds_toArray, List.set_cons_zero, List.set_cons_succ]
      have HV : Hid (S23 b w 0 0 0 (rest16 K) 16 V) := Lib.hid ⟨gb_trans HY.out.1 hq.1, hq.2⟩
      clear hq HY
      go_upto_region 10 with (fail)
      refine wp_region_lit ?_
      refine wpL_pure (.pointer (some ⟨b, 0, none⟩)) rfl (by kernel_rfl) ?_
      simp only [Act.put, List.setIfInBounds_toArray, List.set_cons_zero, List.set_cons_succ]
      refine wpL_pure (.pointer (some ⟨b, 0, none⟩)) rfl (by kernel_rfl) ?_
      simp only [Act.put, List.setIfInBounds_toArray, List.set_cons_zero, List.set_cons_succ]
      refine wpL_pure (.pointer (some ⟨b, 21, none⟩)) rfl (by kernel_rfl) ?_
      simp only [Act.put, List.setIfInBounds_toArray, List.set_cons_zero, List.set_cons_succ]
      refine wpL_store_one rfl rfl b 21 rfl .i64 0 rfl size3 (by rw [sum_c21 (by simp [rest16]) HV.out.2]; rfl) (HV.out.2.free _) ?_
      simp only [Act.put, List.setIfInBounds_toArray, List.set_cons_zero, List.set_cons_succ]
      go_upto_region 11 with (fail)
      go_end0
      exact ⟨rfl, gb_set HV.out.1 _ _, sum_s21 (by simp [rest16]) HV.out.2 0⟩
end Go.Proofs.Ytbgmielhnklkgaa
