/- The reference's Derive. -/
import Derived.Test.YtfhjfpgfbeiacaaDoorHaH20
namespace Go.Proofs.YtfhjfpgfbeiacaaDoor.Ha
open Go Go.RowKit
set_option maxRecDepth 100000
theorem exp32 {ks bs : List Int} : expS ks bs 32 = macS ks (bs ++ [1]) := by
  have h : expN ks bs 1 = ([] ++ macS ks ([] ++ bs ++ [1]), macS ks ([] ++ bs ++ [1])) := rfl
  unfold expS
  rw [show (32 + 31) / 32 = 1 from rfl, h, List.nil_append, List.nil_append, List.take_of_length_le (by rw [macS_len]; omega)]
theorem outE_some {E : List Int} {k : Nat} (hE : E.length = 32) (hk : k < 32) : ((u8l (E.take k ++ List.replicate (32 - k) 0)).toArray[k]?).isSome = true := by
  simp [u8l, hE]
  omega
theorem outE_set {w : World} {g k : Nat} {E : List Int} (hE : E.length = 32) (hk : k < 32) (h : Blk w g 23 (u8l (E.take k ++ List.replicate (32 - k) 0)).toArray) : Blk (w.setCell ⟨g, k, none⟩ (.int .u8 (E.getD k 0))) g 23 (u8l (E.take (k + 1) ++ List.replicate (32 - (k + 1)) 0)).toArray := by
  have hl : (E.take k).length = k := by rw [List.length_take, hE]; omega
  have e : (u8l (E.take k ++ List.replicate (32 - k) 0)).set k (.int .u8 (E.getD k 0)) = u8l (E.take (k + 1) ++ List.replicate (32 - (k + 1)) 0) := by
    have e1 : E.take (k + 1) = E.take k ++ [E.getD k 0] := by
      rw [List.take_add_one]
      congr 1
      rw [List.getD_eq_getElem?_getD, List.getElem?_eq_getElem (by omega)]
      rfl
    have e2 : List.replicate (32 - k) (0 : Int) = 0 :: List.replicate (32 - (k + 1)) 0 := by
      rw [show 32 - k = (32 - (k + 1)) + 1 by omega]; rfl
    rw [e1, e2]
    unfold u8l
    rw [List.map_append, List.map_append, List.map_append, List.set_append]
    rw [if_neg (by rw [List.length_map, hl]; omega), List.length_map, hl, Nat.sub_self, List.append_assoc]
    rfl
  rw [← e]
  have := h.set k (.int .u8 (E.getD k 0))
  simpa using this
theorem run_idxh (a : Act) (o : Oper) (w : World) (x i : Operand) (g k : Nat) (ho : o.op = .indexAddr 23 x i) (hx : a.eval x = .pointer (some ⟨g, 0, none⟩)) (hi : a.eval i = .int .i64 (k : Int)) (hk : k < 32) : (execOp a.eval o).run Tryd.prog w = .ok (.value (.pointer (some ⟨g, k, none⟩))) w := by
  have j0 : (0 : Int) ≤ (k : Int) := by omega
  have j6 : (k : Int) < 32 := by omega
  unfold execOp
  simp only [ho, hx, hi]
  go_simp
attribute [local irreducible] wpList
set_option maxHeartbeats 8000000 in
theorem refderive_any (w : World) (ks bs : List Int) (hk : ks.length = 32) (hkb : ∀ x ∈ ks, 0 ≤ x ∧ x ≤ 255) (hb : ∀ x ∈ bs, 0 ≤ x ∧ x ≤ 255) (hn : bs.length ≤ 10000) (hT : TabW w) :
    Calls Tryd.prog 25 #[.agg (u8l ks).toArray, .string (strOfNums bs)] w fun e w' => e = .returned (.agg (u8l (macS ks (bs ++ [1]))).toArray) ∧ Below w.heap.size w w' := by
  have HKL := Lib.hid hk
  have HKB := Lib.hid hkb
  have HB := Lib.hid hb
  have HBL : Hid (bs.length ≤ 100000) := Lib.hid (by omega)
  have HBS := Lib.hid hn
  have HTW := Lib.hid hT
  clear hk hkb hb hn hT
  go_enter Tryd.func25, Tryd.ntmps25
  obtain ⟨w1, hw1⟩ : ∃ V, V = w.alloc (.cells (u8l ks).toArray 23) := ⟨_, rfl⟩
  obtain ⟨w2, hw2⟩ : ∃ V, V = w1.alloc (.cells (u8l (List.replicate 32 0)).toArray 23) := ⟨_, rfl⟩
  have B2 : Hid (Blk w2 w.heap.size 23 (u8l ks).toArray ∧ Blk w2 w1.heap.size 23 (u8l (List.replicate 32 0)).toArray ∧ Below w.heap.size w w2 ∧ w.heap.size < w1.heap.size ∧ w1.heap.size < w2.heap.size) := Lib.hid (by
    have q1 : Below w.heap.size w w1 := by rw [hw1]; exact (Below.refl _ _).alloc (Nat.le_refl _) _
    have q2 : Below w1.heap.size w1 w2 := by rw [hw2]; exact (Below.refl _ _).alloc (Nat.le_refl _) _
    have b1 : Blk w1 w.heap.size 23 (u8l ks).toArray := by rw [hw1]; exact Blk.new _ _ _
    exact ⟨b1.below q2, by rw [hw2]; exact Blk.new _ _ _, q1.trans (q2.mono q1.size), b1.lt, by rw [hw2]; simp⟩)
  go_upto_region 0 with (fail)
  refine wp_region_lit ?_
  refine wpL_value (.pointer (some ⟨w.heap.size, 0, none⟩)) (w1) rfl (run_box26 _ _ _ _ _ ks rfl rfl HKL.out hw1) ?_
  simp only [Act.put, List.setIfInBounds_toArray, List.set_cons_zero, List.set_cons_succ]
  refine wpL_value (.pointer (some ⟨w1.heap.size, 0, none⟩)) (w2) rfl (by rw [hw2]; kernel_rfl) ?_
  simp only [Act.put, List.setIfInBounds_toArray, List.set_cons_zero, List.set_cons_succ]
  clear hw1 hw2
  obtain ⟨g2, h2⟩ : ∃ q, w.heap.size = q := ⟨_, rfl⟩
  have G2 : Hid (w.heap.size = g2) := Lib.hid h2
  rw [h2] at B2
  try rw [h2]
  clear h2
  generalize w1.heap.size = g4 at B2 ⊢
  obtain ⟨w3, hw3⟩ : ∃ V, V = w2.alloc (.cells (u8l (List.replicate 32 0)).toArray 23) := ⟨_, rfl⟩
  have B3 : Hid (Blk w3 g2 23 (u8l ks).toArray ∧ Blk w3 g4 23 (u8l (List.replicate 32 0)).toArray ∧ Below g2 w w3 ∧ Blk w3 w2.heap.size 23 (u8l (List.replicate 32 0)).toArray ∧ g4 < w2.heap.size ∧ w2.heap.size < w3.heap.size) := Lib.hid (by
    have q : Below w2.heap.size w2 w3 := by rw [hw3]; exact (Below.refl _ _).alloc (Nat.le_refl _) _
    exact ⟨B2.out.1.below q, B2.out.2.1.below q, B2.out.2.2.1.trans (q.mono (by have := B2.out.1.lt; omega)), by rw [hw3]; exact Blk.new _ _ _, B2.out.2.2.2.2, by rw [hw3]; simp⟩)
  go_upto_region 1 with (fail)
  refine wp_region_lit ?_
  refine wpL_value (.pointer (some ⟨w2.heap.size, 0, none⟩)) (w3) rfl (by rw [hw3]; kernel_rfl) ?_
  simp only [Act.put, List.setIfInBounds_toArray, List.set_cons_zero, List.set_cons_succ]
  clear hw3
  obtain ⟨g5, h5⟩ : ∃ q, w2.heap.size = q := ⟨_, rfl⟩
  rw [h5] at B3
  try rw [h5]
  clear h5
  obtain ⟨sa, sc, w4, r1, r2, r3⟩ := conv_bytes w3 bs HB.out HBL.out
  have CV := Lib.hid r1
  have B4 : Hid (Blk w4 g2 23 (u8l ks).toArray ∧ Blk w4 g4 23 (u8l (List.replicate 32 0)).toArray ∧ Below g2 w w4 ∧ Blk w4 g5 23 (u8l (List.replicate 32 0)).toArray ∧ Sl w4 sa bs.length sc bs) := Lib.hid ⟨B3.out.1.below r3, B3.out.2.1.below r3, B3.out.2.2.1.trans (r3.mono (by have := B3.out.1.lt; omega)), B3.out.2.2.2.1.below r3, r2⟩
  clear r1 r2 r3
  go_upto_region 2 with (fail)
  refine wp_region_lit ?_
  refine wpL_pure (.agg (u8l ks).toArray) rfl (run_load_mid _ _ _ 23 _ rfl g2 0 rfl (u8l ks) _ (blk_range B3.out.1) Tryd.underlying23 rfl (by simp only [u8l_len, HKL.out]; kernel_rfl)) ?_
  simp only [Act.put, List.setIfInBounds_toArray, List.set_cons_zero, List.set_cons_succ]
  refine wpL_pure (.string (strOfNums bs)) rfl (by kernel_rfl) ?_
  simp only [Act.put, List.setIfInBounds_toArray, List.set_cons_zero, List.set_cons_succ]
  refine wpL_value (.slice sa bs.length sc) (w4) rfl (run_cvb _ _ _ _ _ _ _ rfl rfl CV.out) ?_
  simp only [Act.put, List.setIfInBounds_toArray, List.set_cons_zero, List.set_cons_succ]
  refine wpL_call 39 #[.agg (u8l ks).toArray, .slice sa bs.length sc, .int .i64 32] rfl (by kernel_rfl) (((refexpand_any w4 ks HKL.out HKB.out sa bs.length sc bs B4.out.2.2.2.2 HBS.out 32 (by omega) (HTW.out.below (by rw [G2.out]; exact B4.out.2.2.1)))).mono fun e w5 ⟨va, vc, he, hs, hb, hv⟩ => ⟨.slice va 32 vc, he, ?_⟩)
  simp only [Act.put, List.setIfInBounds_toArray, List.set_cons_zero, List.set_cons_succ]
  have B5 : Hid (Blk w5 g4 23 (u8l (List.replicate 32 0)).toArray ∧ Below g2 w w5 ∧ Blk w5 g5 23 (u8l ((expS ks bs 32).take 0 ++ List.replicate (32 - 0) 0)).toArray ∧ Sl w5 va 32 vc (expS ks bs 32) ∧ (∀ p, va = some p → p.block ≠ g5)) := Lib.hid ⟨B4.out.2.1.below hb, B4.out.2.2.1.trans (hb.mono (by have := B4.out.1.lt; omega)), by simpa using B4.out.2.2.2.1.below hb, hs, fun p hp => by have := hv p hp; have := B4.out.2.2.2.1.lt; omega⟩
  have LT := Lib.hid B3.out.2.2.2.2.1
  clear hb hs hv
  refine wpL_pure (.slice va 32 vc) rfl (by kernel_rfl) ?_
  simp only [Act.put, List.setIfInBounds_toArray, List.set_cons_zero, List.set_cons_succ]
  go_upto_region 3 with (fail)
  refine wp_region_lit ?_
  refine wpL_pure (.int .i64 0) rfl (by kernel_rfl) ?_
  simp only [Act.put, List.setIfInBounds_toArray, List.set_cons_zero, List.set_cons_succ]
  go_wp2_with fail
  go_loopw [7] (fun s7 wr => ∃ k : Nat, s7 = .int .i64 (k : Int) ∧ Hid (k ≤ 32 ∧ Blk wr g5 23 (u8l ((expS ks bs 32).take k ++ List.replicate (32 - k) 0)).toArray ∧ w5.grownBy wr (some g5) ∧ Below g2 w wr)) (fun s7 _ => 32 - (intOf s7).toNat)
  case atStart => exact ⟨0, rfl, Lib.hid ⟨by omega, B5.out.2.2.1, gb_refl _ _, B5.out.2.1⟩⟩
  case round =>
    obtain ⟨k, rfl, RJ⟩ := hrel
    by_cases hlt : k < 32
    · have HK := Lib.hid hlt
      clear hlt
      go_upto_region 4 with (fail)
      refine wp_region_lit ?_
      refine wpL_pure (.int .i64 (k : Int)) rfl (by kernel_rfl) ?_
      simp only [Act.put, List.setIfInBounds_toArray, List.set_cons_zero, List.set_cons_succ]
      refine wpL_pure (.bool true) rfl (run_lti Tryd.underlying3 rfl rfl rfl (by have := HK.out; rw [decide_eq_true_eq]; omega)) ?_
      simp only [Act.put, List.setIfInBounds_toArray, List.set_cons_zero, List.set_cons_succ]
      obtain ⟨z, hz⟩ : ∃ z, (expS ks bs 32).getD k 0 = z := ⟨_, rfl⟩
      have HZ := Lib.hid hz
      obtain ⟨gr, ro, ea, hc⟩ := B5.out.2.2.2.1.1.2.2.2 k HK.out
      have EA := Lib.hid ea
      have NE : Hid (some gr ≠ some g5) := Lib.hid (by have := B5.out.2.2.2.2 _ ea; intro h; apply this; cases h; rfl)
      have HC : Hid (wr.cell? ⟨gr, ro + k, none⟩ = some (.int .u8 z)) := Lib.hid (by rw [← hz]; exact RJ.out.2.2.1.cell hc NE.out)
      clear hz ea hc
      go_upto_region 6 with (fail)
      refine wp_region_lit ?_
      refine wpL_pure (.int .i64 (k : Int)) rfl (by kernel_rfl) ?_
      simp only [Act.put, List.setIfInBounds_toArray, List.set_cons_zero, List.set_cons_succ]
      refine wpL_pure (.slice va 32 vc) rfl (by kernel_rfl) ?_
      simp only [Act.put, List.setIfInBounds_toArray, List.set_cons_zero, List.set_cons_succ]
      refine wpL_pure (.int .i64 (k : Int)) rfl (by kernel_rfl) ?_
      simp only [Act.put, List.setIfInBounds_toArray, List.set_cons_zero, List.set_cons_succ]
      refine wpL_pure (.pointer (some ⟨gr, ro + k, none⟩)) rfl (run_idx _ _ _ _ _ gr ro 32 vc k rfl (by rw [EA.out]; rfl) rfl HK.out (by decide)) ?_
      simp only [Act.put, List.setIfInBounds_toArray, List.set_cons_zero, List.set_cons_succ]
      refine wpL_pure (.int .u8 z) rfl (run_load_one _ _ _ 5 _ _ rfl (gr) (ro + k) rfl (HC.out) (by kernel_rfl)) ?_
      simp only [Act.put, List.setIfInBounds_toArray, List.set_cons_zero, List.set_cons_succ]
      refine wpL_pure (.pointer (some ⟨g5, k, none⟩)) rfl (run_idxh _ _ _ _ _ g5 k rfl rfl rfl HK.out) ?_
      simp only [Act.put, List.setIfInBounds_toArray, List.set_cons_zero, List.set_cons_succ]
      refine wpL_store_one rfl rfl (g5) (k) rfl (.int .u8 z) rfl rfl size5 (by rw [RJ.out.2.1.cell]; exact outE_some expS_len HK.out) (RJ.out.2.1.free _) ?_
      simp only [Act.put, List.setIfInBounds_toArray, List.set_cons_zero, List.set_cons_succ]
      obtain ⟨X1, hX1⟩ : ∃ V, V = wr.setCell ⟨g5, k, none⟩ (.int .u8 z) := ⟨_, rfl⟩
      rw [← hX1]
      have NX : Hid (k + 1 ≤ 32 ∧ Blk X1 g5 23 (u8l ((expS ks bs 32).take (k + 1) ++ List.replicate (32 - (k + 1)) 0)).toArray ∧ w5.grownBy X1 (some g5) ∧ Below g2 w X1) := Lib.hid (by rw [hX1, ← HZ.out]; exact ⟨HK.out, outE_set expS_len HK.out RJ.out.2.1, gb_set RJ.out.2.2.1 _ _, RJ.out.2.2.2.setCell (p := ⟨g5, k, none⟩) (by have := LT.out; have := B2.out.2.2.2; show g2 ≤ g5; omega) _⟩)
      clear hX1
      go_upto_region 5 with (fail)
      refine wp_region_lit ?_
      refine wpL_pure (.int .i64 (k : Int)) rfl (by kernel_rfl) ?_
      simp only [Act.put, List.setIfInBounds_toArray, List.set_cons_zero, List.set_cons_succ]
      refine wpL_pure (.int .i64 ((k + 1 : Nat) : Int)) rfl (run_addi Tryd.underlying3 rfl rfl rfl _ (by have := HK.out; rw [wrap_in _ (by omega) (by omega)]; omega)) ?_
      simp only [Act.put, List.setIfInBounds_toArray, List.set_cons_zero, List.set_cons_succ]
      refine wpL_pure (.int .i64 ((k + 1 : Nat) : Int)) rfl (by kernel_rfl) ?_
      simp only [Act.put, List.setIfInBounds_toArray, List.set_cons_zero, List.set_cons_succ]
      unfold wpList
      go_roundw
      case rel => first | exact ⟨k + 1, rfl, NX⟩ | ((repeat apply Exists.intro); exact ⟨⟨k + 1, rfl, NX⟩, rfl⟩)
      case measure => simp [intOf]; have := HK.out; omega
    · have HK := Lib.hid hlt
      have EK : Hid (k = 32) := Lib.hid (by have := RJ.out.1; omega)
      clear hlt
      go_upto_region 4 with (fail)
      refine wp_region_lit ?_
      refine wpL_pure (.int .i64 (k : Int)) rfl (by kernel_rfl) ?_
      simp only [Act.put, List.setIfInBounds_toArray, List.set_cons_zero, List.set_cons_succ]
      refine wpL_pure (.bool false) rfl (run_lti Tryd.underlying3 rfl rfl rfl (by have := HK.out; rw [decide_eq_false_iff_not]; omega)) ?_
      simp only [Act.put, List.setIfInBounds_toArray, List.set_cons_zero, List.set_cons_succ]
      have D2 : Hid (Blk wr g4 23 (u8l (List.replicate 32 0)).toArray ∧ Below g2 w wr ∧ Blk wr g5 23 (u8l (expS ks bs 32)).toArray) := Lib.hid ⟨B5.out.1.grown RJ.out.2.2.1 (by have := LT.out; simp; omega), RJ.out.2.2.2, by have h := RJ.out.2.1; rw [EK.out, List.take_of_length_le (by rw [expS_len]; omega)] at h; simpa using h⟩
      go_upto_region 7 with (fail)
      refine wp_region_lit ?_
      refine wpL_load 23 _ rfl rfl g5 0 rfl (u8l (expS ks bs 32)) _ (blk_range D2.out.2.2) Tryd.underlying23 rfl (by rw [u8l_len, expS_len]; kernel_rfl) ?_
      simp only [Act.put, List.setIfInBounds_toArray, List.set_cons_zero, List.set_cons_succ]
      refine wpList_store_rowTo rfl 23 _ _ rfl rfl g4 (u8l (expS ks bs 32)).toArray rfl rfl 23 _ D2.out.1 (by simp only [List.size_toArray, u8l_len, expS_len]; kernel_rfl) (by simp [u8l_len, expS_len]) (u8l_one _) ?_
      go_wp2_with fail
      refine bodyPost_ret (results_cell_row rfl _ _ g4 23 _ (0, 0) _ rfl (setRow_heap _ _ _ _ _ _ D2.out.1) Tryd.underlying23 rfl (by simp only [List.size_toArray, u8l_len, expS_len]; kernel_rfl)) rfl ?_
      exact ⟨by rw [exp32], by rw [G2.out]; exact below_setRow D2.out.2.1 (by have := B2.out.2.2.2; omega) _⟩
end Go.Proofs.YtfhjfpgfbeiacaaDoor.Ha
