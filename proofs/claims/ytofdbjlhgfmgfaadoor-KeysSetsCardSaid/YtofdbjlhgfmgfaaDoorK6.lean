/- KeysSets. -/
import Derived.Test.YtofdbjlhgfmgfaaDoorK3
import Derived.Test.YtofdbjlhgfmgfaaDoorK4
import Derived.Test.YtofdbjlhgfmgfaaDoorK5
namespace Go.Proofs.YtofdbjlhgfmgfaaDoor.Ha
open Go Go.RowKit
set_option maxRecDepth 100000
theorem range_app {w : World} {g o n : Nat} {xs ys : List Value} (h : w.rangeAt g o (xs ++ ys)) (hn : xs.length = n) : w.rangeAt g o xs ∧ w.rangeAt g (o + n) ys := by
  refine ⟨fun j v hj => h j v ?_, fun j v hj => ?_⟩
  · rw [List.getElem?_append_left ((List.getElem?_eq_some_iff.1 hj).1)]; exact hj
  · have q := h (n + j) v (by rw [List.getElem?_append_right (by omega), hn, Nat.add_sub_cancel_left]; exact hj)
    rw [Nat.add_assoc]; exact q
theorem set_range {w : World} {g : Nat} {ks : List Int} (h : Blk w g 30 (setL ks).toArray) : w.rangeAt g 0 (u8l (macS ks (labB ++ [1]))) ∧ w.rangeAt g 32 (u8l (macS ks (labC ++ [1]))) ∧ w.rangeAt g 64 (u8l (macS ks (labT ++ [1]))) ∧ w.rangeAt g 96 (u8l (macS ks (labI ++ [1]))) := by
  have h0 := range_app (n := 32) (blk_range h) (by rw [u8l_len, macS_len])
  have h1 := range_app (n := 32) h0.2 (by rw [u8l_len, macS_len])
  have h2 := range_app (n := 32) h1.2 (by rw [u8l_len, macS_len])
  exact ⟨h0.1, h1.1, h2.1, h2.2⟩
theorem set_range0 {w : World} {g : Nat} {ks : List Int} (h : Blk w g 30 (setL ks).toArray) : w.rangeAt g 0 (u8l (macS ks (labB ++ [1]))) := (set_range h).1
theorem set_range1 {w : World} {g : Nat} {ks : List Int} (h : Blk w g 30 (setL ks).toArray) : w.rangeAt g 32 (u8l (macS ks (labC ++ [1]))) := (set_range h).2.1
theorem set_range2 {w : World} {g : Nat} {ks : List Int} (h : Blk w g 30 (setL ks).toArray) : w.rangeAt g 64 (u8l (macS ks (labT ++ [1]))) := (set_range h).2.2.1
theorem set_range3 {w : World} {g : Nat} {ks : List Int} (h : Blk w g 30 (setL ks).toArray) : w.rangeAt g 96 (u8l (macS ks (labI ++ [1]))) := (set_range h).2.2.2
theorem refderive_s (w : World) (ks bs : List Int) (s : ByteArray) (hs : s = strOfNums bs) (hk : ks.length = 32) (hkb : ∀ x ∈ ks, 0 ≤ x ∧ x ≤ 255) (hb : ∀ x ∈ bs, 0 ≤ x ∧ x ≤ 255) (hn : bs.length ≤ 10000) (hT : TabW w) :
    Calls Tryd.prog 15 #[.agg (u8l ks).toArray, .string s] w fun e w' => e = .returned (.agg (u8l (macS ks (bs ++ [1]))).toArray) ∧ Below w.heap.size w w' := by
  rw [hs]
  exact refderive_any w ks bs hk hkb hb hn hT
attribute [local irreducible] wpList
set_option maxHeartbeats 8000000 in
set_option maxRecDepth 100000 in
theorem sets_any (w : World) (ks ss : List Int) (x y : Int) (hk : ks.length = 32) (hkb : ∀ v ∈ ks, 0 ≤ v ∧ v ≤ 255) (hs : ss.length = 32) (hsb : ∀ v ∈ ss, 0 ≤ v ∧ v ≤ 255) (hT : TabK w) (hH : TabH w) (hW : TabW w) :
    Calls Tryd.prog 4 #[.agg (u8l ks).toArray, .agg (u8l ss).toArray, .agg #[.int .i64 x, .int .i64 y]] w fun e w' => e = .returned (.bool true) ∧ Below w.heap.size w w' := by
  have HKL := Lib.hid hk
  have HKB := Lib.hid hkb
  have HSL := Lib.hid hs
  have HSB := Lib.hid hsb
  have HT := Lib.hid hT
  have HH := Lib.hid hH
  have HTW := Lib.hid hW
  clear hk hkb hs hsb hT hH hW
  go_enter Tryd.func4, Tryd.ntmps4
  obtain ⟨w1, hw1⟩ : ∃ V, V = w.alloc (.cells (u8l ks).toArray 23) := ⟨_, rfl⟩
  obtain ⟨w2, hw2⟩ : ∃ V, V = w1.alloc (.cells (u8l ss).toArray 23) := ⟨_, rfl⟩
  obtain ⟨w3, hw3⟩ : ∃ V, V = w2.alloc (.cells #[.int .i64 x, .int .i64 y] 38) := ⟨_, rfl⟩
  have B3 : Hid (Below w.heap.size w w3 ∧ Blk w3 w.heap.size 23 (u8l ks).toArray ∧ Blk w3 w1.heap.size 23 (u8l ss).toArray ∧ Blk w3 w2.heap.size 38 #[.int .i64 x, .int .i64 y]) := Lib.hid (by
    have q1 : Below w.heap.size w w1 := by rw [hw1]; exact (Below.refl _ _).alloc (Nat.le_refl _) _
    have q2 : Below w1.heap.size w1 w2 := by rw [hw2]; exact (Below.refl _ _).alloc (Nat.le_refl _) _
    have q3 : Below w2.heap.size w2 w3 := by rw [hw3]; exact (Below.refl _ _).alloc (Nat.le_refl _) _
    have b1 : Blk w1 w.heap.size 23 (u8l ks).toArray := by rw [hw1]; exact Blk.new _ _ _
    have b2 : Blk w2 w1.heap.size 23 (u8l ss).toArray := by rw [hw2]; exact Blk.new _ _ _
    have q12 := q1.trans (q2.mono q1.size)
    exact ⟨q12.trans (q3.mono q12.size), (b1.below q2).below q3, b2.below q3, by rw [hw3]; exact Blk.new _ _ _⟩)
  go_upto_region 0 with (fail)
  refine wp_region_lit ?_
  refine wpL_value (.pointer (some ⟨w.heap.size, 0, none⟩)) (w1) rfl (run_box26 _ _ _ _ _ ks rfl rfl HKL.out hw1) ?_
  simp only [Act.put, List.setIfInBounds_toArray, List.set_cons_zero, List.set_cons_succ]
  refine wpL_value (.pointer (some ⟨w1.heap.size, 0, none⟩)) (w2) rfl (run_box26 _ _ _ _ _ ss rfl rfl HSL.out hw2) ?_
  simp only [Act.put, List.setIfInBounds_toArray, List.set_cons_zero, List.set_cons_succ]
  refine wpL_value (.pointer (some ⟨w2.heap.size, 0, none⟩)) (w3) rfl (by rw [hw3]; kernel_rfl) ?_
  simp only [Act.put, List.setIfInBounds_toArray, List.set_cons_zero, List.set_cons_succ]
  refine wpL_pure (.bool false) rfl (by kernel_rfl) ?_
  simp only [Act.put, List.setIfInBounds_toArray, List.set_cons_zero, List.set_cons_succ]
  clear hw1 hw2 hw3
  obtain ⟨g3, h3⟩ : ∃ q, w.heap.size = q := ⟨_, rfl⟩
  have G3 : Hid (w.heap.size = g3) := Lib.hid h3
  rw [h3] at B3
  try rw [h3]
  clear h3
  generalize w1.heap.size = g4 at B3 ⊢
  generalize w2.heap.size = g5 at B3 ⊢
  have T3 : Hid (TabK w3 ∧ TabH w3 ∧ TabW w3) := Lib.hid ⟨HT.out.below (by rw [G3.out]; exact B3.out.1), HH.out.below (by rw [G3.out]; exact B3.out.1), HTW.out.below (by rw [G3.out]; exact B3.out.1)⟩
  go_upto_region 1 with (fail)
  refine wp_region_lit ?_
  refine wpL_pure (.agg (u8l ks).toArray) rfl (run_load_mid _ _ _ 23 _ rfl g3 0 rfl (u8l ks) _ (blk_range B3.out.2.1) Tryd.underlying23 rfl (by simp only [u8l_len, HKL.out]; kernel_rfl)) ?_
  simp only [Act.put, List.setIfInBounds_toArray, List.set_cons_zero, List.set_cons_succ]
  refine wpL_call 12 #[.agg (u8l ks).toArray] rfl (by kernel_rfl) (((of_any w3 ks HKL.out HKB.out T3.out.1 T3.out.2.1)).mono fun e w4 ⟨he, hb⟩ => ⟨.agg (setL ks).toArray, he, ?_⟩)
  simp only [Act.put, List.setIfInBounds_toArray, List.set_cons_zero, List.set_cons_succ]
  have B4 : Hid (Below g3 w w4 ∧ Blk w4 g3 23 (u8l ks).toArray ∧ Blk w4 g4 23 (u8l ss).toArray ∧ Blk w4 g5 38 #[.int .i64 x, .int .i64 y] ∧ TabK w4 ∧ TabH w4 ∧ TabW w4) := Lib.hid ⟨B3.out.1.trans (hb.mono (by have := B3.out.2.1.lt; omega)), B3.out.2.1.below hb, B3.out.2.2.1.below hb, B3.out.2.2.2.below hb, T3.out.1.below hb, T3.out.2.1.below hb, T3.out.2.2.below hb⟩
  clear hb
  obtain ⟨w5, hw5⟩ : ∃ V, V = w4.alloc (.cells (u8l (List.replicate 128 0)).toArray 30) := ⟨_, rfl⟩
  obtain ⟨w6, hw6⟩ : ∃ V, V = w5.setRow w4.heap.size (setL ks).toArray := ⟨_, rfl⟩
  have B6 : Hid (Below g3 w w6 ∧ Blk w6 g3 23 (u8l ks).toArray ∧ Blk w6 g4 23 (u8l ss).toArray ∧ Blk w6 g5 38 #[.int .i64 x, .int .i64 y] ∧ Blk w6 w4.heap.size 30 (setL ks).toArray ∧ TabK w6 ∧ TabH w6 ∧ TabW w6) := Lib.hid (by
    have q : Below w4.heap.size w4 w6 := by rw [hw6, hw5]; exact below_setRow ((Below.refl _ _).alloc (Nat.le_refl _) _) (Nat.le_refl _) _
    exact ⟨B4.out.1.trans (q.mono (by have := B4.out.2.1.lt; omega)), B4.out.2.1.below q, B4.out.2.2.1.below q, B4.out.2.2.2.1.below q, by rw [hw6, hw5]; exact setRow_heap _ _ _ _ _ _ (Blk.new _ _ _), B4.out.2.2.2.2.1.below q, B4.out.2.2.2.2.2.1.below q, B4.out.2.2.2.2.2.2.below q⟩)
  refine wpL_value (.pointer (some ⟨w4.heap.size, 0, none⟩)) (w5) rfl (by rw [hw5]; kernel_rfl) ?_
  simp only [Act.put, List.setIfInBounds_toArray, List.set_cons_zero, List.set_cons_succ]
  refine wpList_store_rowTo rfl 30 _ _ rfl rfl w4.heap.size (setL ks).toArray rfl rfl 30 _ (by rw [hw5]; exact Blk.new w4 30 (u8l (List.replicate 128 0)).toArray) (by simp only [List.size_toArray, setL_len]; kernel_rfl) (by simp [setL_len, u8l_len]) setL_one ?_
  rw [← hw6]
  clear hw5 hw6
  generalize w4.heap.size = g7 at B6 ⊢
  have A0 : Hid (Below g3 w w6.drew ∧ Blk w6.drew g3 23 (u8l ks).toArray ∧ Blk w6.drew g4 23 (u8l ss).toArray ∧ Blk w6.drew g5 38 #[.int .i64 x, .int .i64 y] ∧ Blk w6.drew g7 30 (setL ks).toArray ∧ TabK w6.drew ∧ TabH w6.drew ∧ TabW w6.drew) := Lib.hid ⟨B6.out.1.drew, B6.out.2.1.drew, B6.out.2.2.1.drew, B6.out.2.2.2.1.drew, B6.out.2.2.2.2.1.drew, by exact B6.out.2.2.2.2.2.1.below (Below.refl _ _).drew, by exact B6.out.2.2.2.2.2.2.1.below (Below.refl _ _).drew, by exact B6.out.2.2.2.2.2.2.2.below (Below.refl _ _).drew⟩
  go_upto_region 2 with (fail)
  refine region_anyT (fun X => Below g3 w X ∧ Blk X g3 23 (u8l ks).toArray ∧ Blk X g4 23 (u8l ss).toArray ∧ Blk X g5 38 #[.int .i64 x, .int .i64 y] ∧ Blk X g7 30 (setL ks).toArray ∧ TabK X ∧ TabH X ∧ TabW X) (by kernel_rfl) 45 45 rfl ?_
  refine wpAnyT_one (i := 0) (by kernel_rfl) ?_
  refine op_call (o := ⟨some 10, _, _, _, _, _⟩) 9 #[] rfl rfl (by kernel_rfl) (((awake_any w6.drew (A0.out.2.2.2.2.2.1) (A0.out.2.2.2.2.2.2.1))).mono fun e s1 ⟨he, qs1⟩ => ⟨.bool true, he, ?_, ?_⟩)
  · exact fun _ => ⟨A0.out.1.trans (qs1.mono (by have := (A0.out.2.1).lt; omega)), A0.out.2.1.below qs1, A0.out.2.2.1.below qs1, A0.out.2.2.2.1.below qs1, A0.out.2.2.2.2.1.below qs1, A0.out.2.2.2.2.2.1.below qs1, A0.out.2.2.2.2.2.2.1.below qs1, A0.out.2.2.2.2.2.2.2.below qs1⟩
  simp only [Act.put, List.setIfInBounds_toArray, List.set_cons_zero, List.set_cons_succ]
  have Fs1 := Lib.hid (show Below g3 w s1 ∧ Blk s1 g3 23 (u8l ks).toArray ∧ Blk s1 g4 23 (u8l ss).toArray ∧ Blk s1 g5 38 #[.int .i64 x, .int .i64 y] ∧ Blk s1 g7 30 (setL ks).toArray ∧ TabK s1 ∧ TabH s1 ∧ TabW s1 from ⟨A0.out.1.trans (qs1.mono (by have := (A0.out.2.1).lt; omega)), A0.out.2.1.below qs1, A0.out.2.2.1.below qs1, A0.out.2.2.2.1.below qs1, A0.out.2.2.2.2.1.below qs1, A0.out.2.2.2.2.2.1.below qs1, A0.out.2.2.2.2.2.2.1.below qs1, A0.out.2.2.2.2.2.2.2.below qs1⟩)
  clear qs1
  refine wpAnyT_take (i := 1) (oi := ⟨some 11, _, _, _, _, _⟩) (v := .bool true) rfl (by kernel_rfl) (by kernel_rfl) (by kernel_rfl) (fun _ _ _ h => h) (by kernel_rfl) (Or.inl ⟨rfl, fun w h => by kernel_rfl⟩) Fs1.out ?_
  simp only [Act.put, List.setIfInBounds_toArray, List.set_cons_zero, List.set_cons_succ]
  refine wpAnyT_take (i := 2) (oi := ⟨some 12, _, _, _, _, _⟩) (v := .pointer (some ⟨g7, 0, none⟩)) rfl (by kernel_rfl) (by kernel_rfl) (by kernel_rfl) (fun _ _ _ h => h) (by kernel_rfl) (Or.inl ⟨rfl, fun w h => by kernel_rfl⟩) Fs1.out ?_
  simp only [Act.put, List.setIfInBounds_toArray, List.set_cons_zero, List.set_cons_succ]
  refine wpAnyT_take (i := 3) (oi := ⟨some 13, _, _, _, _, _⟩) (v := .agg (u8l (macS ks (labB ++ [1]))).toArray) rfl (by kernel_rfl) (by kernel_rfl) (by kernel_rfl) (fun _ _ _ h => h) (by kernel_rfl) (Or.inl ⟨rfl, fun w h => run_load_mid _ _ _ 23 _ rfl g7 0 rfl (u8l (macS ks (labB ++ [1]))) _ (set_range0 (h.2.2.2.2.1)) Tryd.underlying23 rfl (by simp only [u8l_len, macS_len]; kernel_rfl)⟩) Fs1.out ?_
  simp only [Act.put, List.setIfInBounds_toArray, List.set_cons_zero, List.set_cons_succ]
  refine wpAnyT_take (i := 4) (oi := ⟨some 14, _, _, _, _, _⟩) (v := .agg (u8l ks).toArray) rfl (by kernel_rfl) (by kernel_rfl) (by kernel_rfl) (fun _ _ _ h => h) (by kernel_rfl) (Or.inl ⟨rfl, fun w h => run_load_mid _ _ _ 23 _ rfl g3 0 rfl (u8l ks) _ (blk_range (h.2.1)) Tryd.underlying23 rfl (by simp only [u8l_len, HKL.out]; kernel_rfl)⟩) Fs1.out ?_
  simp only [Act.put, List.setIfInBounds_toArray, List.set_cons_zero, List.set_cons_succ]
  refine wpAnyT_one (i := 5) (by kernel_rfl) ?_
  refine op_call (o := ⟨some 15, _, _, _, _, _⟩) 15 #[.agg (u8l ks).toArray, .string { data := #[106, 97, 108, 111, 117, 115, 105, 101, 32, 98, 111, 100, 121] }] rfl rfl (by kernel_rfl) (((refderive_s s1 ks labB _ (by kernel_rfl) HKL.out HKB.out (by decide) (by decide) (Fs1.out.2.2.2.2.2.2.2))).mono fun e s2 ⟨he, qs2⟩ => ⟨.agg (u8l (macS ks (labB ++ [1]))).toArray, he, ?_, ?_⟩)
  · exact fun _ => ⟨Fs1.out.1.trans (qs2.mono (by have := (Fs1.out.2.1).lt; omega)), Fs1.out.2.1.below qs2, Fs1.out.2.2.1.below qs2, Fs1.out.2.2.2.1.below qs2, Fs1.out.2.2.2.2.1.below qs2, Fs1.out.2.2.2.2.2.1.below qs2, Fs1.out.2.2.2.2.2.2.1.below qs2, Fs1.out.2.2.2.2.2.2.2.below qs2⟩
  simp only [Act.put, List.setIfInBounds_toArray, List.set_cons_zero, List.set_cons_succ]
  have Fs2 := Lib.hid (show Below g3 w s2 ∧ Blk s2 g3 23 (u8l ks).toArray ∧ Blk s2 g4 23 (u8l ss).toArray ∧ Blk s2 g5 38 #[.int .i64 x, .int .i64 y] ∧ Blk s2 g7 30 (setL ks).toArray ∧ TabK s2 ∧ TabH s2 ∧ TabW s2 from ⟨Fs1.out.1.trans (qs2.mono (by have := (Fs1.out.2.1).lt; omega)), Fs1.out.2.1.below qs2, Fs1.out.2.2.1.below qs2, Fs1.out.2.2.2.1.below qs2, Fs1.out.2.2.2.2.1.below qs2, Fs1.out.2.2.2.2.2.1.below qs2, Fs1.out.2.2.2.2.2.2.1.below qs2, Fs1.out.2.2.2.2.2.2.2.below qs2⟩)
  clear qs2
  refine wpAnyT_take (i := 6) (oi := ⟨some 16, _, _, _, _, _⟩) (v := .bool true) rfl (by kernel_rfl) (by kernel_rfl) (by kernel_rfl) (fun _ _ _ h => h) (by kernel_rfl) (Or.inl ⟨rfl, fun w h => run_eq26 _ _ _ _ _ (macS ks (labB ++ [1])) (macS_len _ _) rfl rfl rfl⟩) Fs2.out ?_
  simp only [Act.put, List.setIfInBounds_toArray, List.set_cons_zero, List.set_cons_succ]
  refine wpAnyT_take (i := 7) (oi := ⟨some 17, _, _, _, _, _⟩) (v := .bool true) rfl (by kernel_rfl) (by kernel_rfl) (by kernel_rfl) (fun _ _ _ h => h) (by kernel_rfl) (Or.inl ⟨rfl, fun w h => by kernel_rfl⟩) Fs2.out ?_
  simp only [Act.put, List.setIfInBounds_toArray, List.set_cons_zero, List.set_cons_succ]
  refine wpAnyT_take (i := 8) (oi := ⟨some 18, _, _, _, _, _⟩) (v := .bool true) rfl (by kernel_rfl) (by kernel_rfl) (by kernel_rfl) (fun _ _ _ h => h) (by kernel_rfl) (Or.inl ⟨rfl, fun w h => by kernel_rfl⟩) Fs2.out ?_
  simp only [Act.put, List.setIfInBounds_toArray, List.set_cons_zero, List.set_cons_succ]
  refine wpAnyT_take (i := 9) (oi := ⟨some 19, _, _, _, _, _⟩) (v := .pointer (some ⟨g7, 32, none⟩)) rfl (by kernel_rfl) (by kernel_rfl) (by kernel_rfl) (fun _ _ _ h => h) (by kernel_rfl) (Or.inl ⟨rfl, fun w h => by kernel_rfl⟩) Fs2.out ?_
  simp only [Act.put, List.setIfInBounds_toArray, List.set_cons_zero, List.set_cons_succ]
  refine wpAnyT_take (i := 10) (oi := ⟨some 20, _, _, _, _, _⟩) (v := .agg (u8l (macS ks (labC ++ [1]))).toArray) rfl (by kernel_rfl) (by kernel_rfl) (by kernel_rfl) (fun _ _ _ h => h) (by kernel_rfl) (Or.inl ⟨rfl, fun w h => run_load_mid _ _ _ 23 _ rfl g7 32 rfl (u8l (macS ks (labC ++ [1]))) _ (set_range1 (h.2.2.2.2.1)) Tryd.underlying23 rfl (by simp only [u8l_len, macS_len]; kernel_rfl)⟩) Fs2.out ?_
  simp only [Act.put, List.setIfInBounds_toArray, List.set_cons_zero, List.set_cons_succ]
  refine wpAnyT_take (i := 11) (oi := ⟨some 21, _, _, _, _, _⟩) (v := .agg (u8l ks).toArray) rfl (by kernel_rfl) (by kernel_rfl) (by kernel_rfl) (fun _ _ _ h => h) (by kernel_rfl) (Or.inl ⟨rfl, fun w h => run_load_mid _ _ _ 23 _ rfl g3 0 rfl (u8l ks) _ (blk_range (h.2.1)) Tryd.underlying23 rfl (by simp only [u8l_len, HKL.out]; kernel_rfl)⟩) Fs2.out ?_
  simp only [Act.put, List.setIfInBounds_toArray, List.set_cons_zero, List.set_cons_succ]
  refine wpAnyT_one (i := 12) (by kernel_rfl) ?_
  refine op_call (o := ⟨some 22, _, _, _, _, _⟩) 15 #[.agg (u8l ks).toArray, .string { data := #[106, 97, 108, 111, 117, 115, 105, 101, 32, 99, 111, 100, 101] }] rfl rfl (by kernel_rfl) (((refderive_s s2 ks labC _ (by kernel_rfl) HKL.out HKB.out (by decide) (by decide) (Fs2.out.2.2.2.2.2.2.2))).mono fun e s3 ⟨he, qs3⟩ => ⟨.agg (u8l (macS ks (labC ++ [1]))).toArray, he, ?_, ?_⟩)
  · exact fun _ => ⟨Fs2.out.1.trans (qs3.mono (by have := (Fs2.out.2.1).lt; omega)), Fs2.out.2.1.below qs3, Fs2.out.2.2.1.below qs3, Fs2.out.2.2.2.1.below qs3, Fs2.out.2.2.2.2.1.below qs3, Fs2.out.2.2.2.2.2.1.below qs3, Fs2.out.2.2.2.2.2.2.1.below qs3, Fs2.out.2.2.2.2.2.2.2.below qs3⟩
  simp only [Act.put, List.setIfInBounds_toArray, List.set_cons_zero, List.set_cons_succ]
  have Fs3 := Lib.hid (show Below g3 w s3 ∧ Blk s3 g3 23 (u8l ks).toArray ∧ Blk s3 g4 23 (u8l ss).toArray ∧ Blk s3 g5 38 #[.int .i64 x, .int .i64 y] ∧ Blk s3 g7 30 (setL ks).toArray ∧ TabK s3 ∧ TabH s3 ∧ TabW s3 from ⟨Fs2.out.1.trans (qs3.mono (by have := (Fs2.out.2.1).lt; omega)), Fs2.out.2.1.below qs3, Fs2.out.2.2.1.below qs3, Fs2.out.2.2.2.1.below qs3, Fs2.out.2.2.2.2.1.below qs3, Fs2.out.2.2.2.2.2.1.below qs3, Fs2.out.2.2.2.2.2.2.1.below qs3, Fs2.out.2.2.2.2.2.2.2.below qs3⟩)
  clear qs3
  refine wpAnyT_take (i := 13) (oi := ⟨some 23, _, _, _, _, _⟩) (v := .bool true) rfl (by kernel_rfl) (by kernel_rfl) (by kernel_rfl) (fun _ _ _ h => h) (by kernel_rfl) (Or.inl ⟨rfl, fun w h => run_eq26 _ _ _ _ _ (macS ks (labC ++ [1])) (macS_len _ _) rfl rfl rfl⟩) Fs3.out ?_
  simp only [Act.put, List.setIfInBounds_toArray, List.set_cons_zero, List.set_cons_succ]
  refine wpAnyT_take (i := 14) (oi := ⟨some 24, _, _, _, _, _⟩) (v := .bool true) rfl (by kernel_rfl) (by kernel_rfl) (by kernel_rfl) (fun _ _ _ h => h) (by kernel_rfl) (Or.inl ⟨rfl, fun w h => by kernel_rfl⟩) Fs3.out ?_
  simp only [Act.put, List.setIfInBounds_toArray, List.set_cons_zero, List.set_cons_succ]
  refine wpAnyT_take (i := 15) (oi := ⟨some 25, _, _, _, _, _⟩) (v := .bool true) rfl (by kernel_rfl) (by kernel_rfl) (by kernel_rfl) (fun _ _ _ h => h) (by kernel_rfl) (Or.inl ⟨rfl, fun w h => by kernel_rfl⟩) Fs3.out ?_
  simp only [Act.put, List.setIfInBounds_toArray, List.set_cons_zero, List.set_cons_succ]
  refine wpAnyT_take (i := 16) (oi := ⟨some 26, _, _, _, _, _⟩) (v := .pointer (some ⟨g7, 64, none⟩)) rfl (by kernel_rfl) (by kernel_rfl) (by kernel_rfl) (fun _ _ _ h => h) (by kernel_rfl) (Or.inl ⟨rfl, fun w h => by kernel_rfl⟩) Fs3.out ?_
  simp only [Act.put, List.setIfInBounds_toArray, List.set_cons_zero, List.set_cons_succ]
  refine wpAnyT_take (i := 17) (oi := ⟨some 27, _, _, _, _, _⟩) (v := .agg (u8l (macS ks (labT ++ [1]))).toArray) rfl (by kernel_rfl) (by kernel_rfl) (by kernel_rfl) (fun _ _ _ h => h) (by kernel_rfl) (Or.inl ⟨rfl, fun w h => run_load_mid _ _ _ 23 _ rfl g7 64 rfl (u8l (macS ks (labT ++ [1]))) _ (set_range2 (h.2.2.2.2.1)) Tryd.underlying23 rfl (by simp only [u8l_len, macS_len]; kernel_rfl)⟩) Fs3.out ?_
  simp only [Act.put, List.setIfInBounds_toArray, List.set_cons_zero, List.set_cons_succ]
  refine wpAnyT_take (i := 18) (oi := ⟨some 28, _, _, _, _, _⟩) (v := .agg (u8l ks).toArray) rfl (by kernel_rfl) (by kernel_rfl) (by kernel_rfl) (fun _ _ _ h => h) (by kernel_rfl) (Or.inl ⟨rfl, fun w h => run_load_mid _ _ _ 23 _ rfl g3 0 rfl (u8l ks) _ (blk_range (h.2.1)) Tryd.underlying23 rfl (by simp only [u8l_len, HKL.out]; kernel_rfl)⟩) Fs3.out ?_
  simp only [Act.put, List.setIfInBounds_toArray, List.set_cons_zero, List.set_cons_succ]
  refine wpAnyT_one (i := 19) (by kernel_rfl) ?_
  refine op_call (o := ⟨some 29, _, _, _, _, _⟩) 15 #[.agg (u8l ks).toArray, .string { data := #[106, 97, 108, 111, 117, 115, 105, 101, 32, 116, 97, 103] }] rfl rfl (by kernel_rfl) (((refderive_s s3 ks labT _ (by kernel_rfl) HKL.out HKB.out (by decide) (by decide) (Fs3.out.2.2.2.2.2.2.2))).mono fun e s4 ⟨he, qs4⟩ => ⟨.agg (u8l (macS ks (labT ++ [1]))).toArray, he, ?_, ?_⟩)
  · exact fun _ => ⟨Fs3.out.1.trans (qs4.mono (by have := (Fs3.out.2.1).lt; omega)), Fs3.out.2.1.below qs4, Fs3.out.2.2.1.below qs4, Fs3.out.2.2.2.1.below qs4, Fs3.out.2.2.2.2.1.below qs4, Fs3.out.2.2.2.2.2.1.below qs4, Fs3.out.2.2.2.2.2.2.1.below qs4, Fs3.out.2.2.2.2.2.2.2.below qs4⟩
  simp only [Act.put, List.setIfInBounds_toArray, List.set_cons_zero, List.set_cons_succ]
  have Fs4 := Lib.hid (show Below g3 w s4 ∧ Blk s4 g3 23 (u8l ks).toArray ∧ Blk s4 g4 23 (u8l ss).toArray ∧ Blk s4 g5 38 #[.int .i64 x, .int .i64 y] ∧ Blk s4 g7 30 (setL ks).toArray ∧ TabK s4 ∧ TabH s4 ∧ TabW s4 from ⟨Fs3.out.1.trans (qs4.mono (by have := (Fs3.out.2.1).lt; omega)), Fs3.out.2.1.below qs4, Fs3.out.2.2.1.below qs4, Fs3.out.2.2.2.1.below qs4, Fs3.out.2.2.2.2.1.below qs4, Fs3.out.2.2.2.2.2.1.below qs4, Fs3.out.2.2.2.2.2.2.1.below qs4, Fs3.out.2.2.2.2.2.2.2.below qs4⟩)
  clear qs4
  refine wpAnyT_take (i := 20) (oi := ⟨some 30, _, _, _, _, _⟩) (v := .bool true) rfl (by kernel_rfl) (by kernel_rfl) (by kernel_rfl) (fun _ _ _ h => h) (by kernel_rfl) (Or.inl ⟨rfl, fun w h => run_eq26 _ _ _ _ _ (macS ks (labT ++ [1])) (macS_len _ _) rfl rfl rfl⟩) Fs4.out ?_
  simp only [Act.put, List.setIfInBounds_toArray, List.set_cons_zero, List.set_cons_succ]
  refine wpAnyT_take (i := 21) (oi := ⟨some 31, _, _, _, _, _⟩) (v := .bool true) rfl (by kernel_rfl) (by kernel_rfl) (by kernel_rfl) (fun _ _ _ h => h) (by kernel_rfl) (Or.inl ⟨rfl, fun w h => by kernel_rfl⟩) Fs4.out ?_
  simp only [Act.put, List.setIfInBounds_toArray, List.set_cons_zero, List.set_cons_succ]
  refine wpAnyT_take (i := 22) (oi := ⟨some 32, _, _, _, _, _⟩) (v := .bool true) rfl (by kernel_rfl) (by kernel_rfl) (by kernel_rfl) (fun _ _ _ h => h) (by kernel_rfl) (Or.inl ⟨rfl, fun w h => by kernel_rfl⟩) Fs4.out ?_
  simp only [Act.put, List.setIfInBounds_toArray, List.set_cons_zero, List.set_cons_succ]
  refine wpAnyT_take (i := 23) (oi := ⟨some 33, _, _, _, _, _⟩) (v := .pointer (some ⟨g7, 96, none⟩)) rfl (by kernel_rfl) (by kernel_rfl) (by kernel_rfl) (fun _ _ _ h => h) (by kernel_rfl) (Or.inl ⟨rfl, fun w h => by kernel_rfl⟩) Fs4.out ?_
  simp only [Act.put, List.setIfInBounds_toArray, List.set_cons_zero, List.set_cons_succ]
  refine wpAnyT_take (i := 24) (oi := ⟨some 34, _, _, _, _, _⟩) (v := .agg (u8l (macS ks (labI ++ [1]))).toArray) rfl (by kernel_rfl) (by kernel_rfl) (by kernel_rfl) (fun _ _ _ h => h) (by kernel_rfl) (Or.inl ⟨rfl, fun w h => run_load_mid _ _ _ 23 _ rfl g7 96 rfl (u8l (macS ks (labI ++ [1]))) _ (set_range3 (h.2.2.2.2.1)) Tryd.underlying23 rfl (by simp only [u8l_len, macS_len]; kernel_rfl)⟩) Fs4.out ?_
  simp only [Act.put, List.setIfInBounds_toArray, List.set_cons_zero, List.set_cons_succ]
  refine wpAnyT_take (i := 25) (oi := ⟨some 35, _, _, _, _, _⟩) (v := .agg (u8l ks).toArray) rfl (by kernel_rfl) (by kernel_rfl) (by kernel_rfl) (fun _ _ _ h => h) (by kernel_rfl) (Or.inl ⟨rfl, fun w h => run_load_mid _ _ _ 23 _ rfl g3 0 rfl (u8l ks) _ (blk_range (h.2.1)) Tryd.underlying23 rfl (by simp only [u8l_len, HKL.out]; kernel_rfl)⟩) Fs4.out ?_
  simp only [Act.put, List.setIfInBounds_toArray, List.set_cons_zero, List.set_cons_succ]
  refine wpAnyT_one (i := 26) (by kernel_rfl) ?_
  refine op_call (o := ⟨some 36, _, _, _, _, _⟩) 15 #[.agg (u8l ks).toArray, .string { data := #[106, 97, 108, 111, 117, 115, 105, 101, 32, 105, 116, 101, 109] }] rfl rfl (by kernel_rfl) (((refderive_s s4 ks labI _ (by kernel_rfl) HKL.out HKB.out (by decide) (by decide) (Fs4.out.2.2.2.2.2.2.2))).mono fun e s5 ⟨he, qs5⟩ => ⟨.agg (u8l (macS ks (labI ++ [1]))).toArray, he, ?_, ?_⟩)
  · exact fun _ => ⟨Fs4.out.1.trans (qs5.mono (by have := (Fs4.out.2.1).lt; omega)), Fs4.out.2.1.below qs5, Fs4.out.2.2.1.below qs5, Fs4.out.2.2.2.1.below qs5, Fs4.out.2.2.2.2.1.below qs5, Fs4.out.2.2.2.2.2.1.below qs5, Fs4.out.2.2.2.2.2.2.1.below qs5, Fs4.out.2.2.2.2.2.2.2.below qs5⟩
  simp only [Act.put, List.setIfInBounds_toArray, List.set_cons_zero, List.set_cons_succ]
  have Fs5 := Lib.hid (show Below g3 w s5 ∧ Blk s5 g3 23 (u8l ks).toArray ∧ Blk s5 g4 23 (u8l ss).toArray ∧ Blk s5 g5 38 #[.int .i64 x, .int .i64 y] ∧ Blk s5 g7 30 (setL ks).toArray ∧ TabK s5 ∧ TabH s5 ∧ TabW s5 from ⟨Fs4.out.1.trans (qs5.mono (by have := (Fs4.out.2.1).lt; omega)), Fs4.out.2.1.below qs5, Fs4.out.2.2.1.below qs5, Fs4.out.2.2.2.1.below qs5, Fs4.out.2.2.2.2.1.below qs5, Fs4.out.2.2.2.2.2.1.below qs5, Fs4.out.2.2.2.2.2.2.1.below qs5, Fs4.out.2.2.2.2.2.2.2.below qs5⟩)
  clear qs5
  refine wpAnyT_take (i := 27) (oi := ⟨some 37, _, _, _, _, _⟩) (v := .bool true) rfl (by kernel_rfl) (by kernel_rfl) (by kernel_rfl) (fun _ _ _ h => h) (by kernel_rfl) (Or.inl ⟨rfl, fun w h => run_eq26 _ _ _ _ _ (macS ks (labI ++ [1])) (macS_len _ _) rfl rfl rfl⟩) Fs5.out ?_
  simp only [Act.put, List.setIfInBounds_toArray, List.set_cons_zero, List.set_cons_succ]
  refine wpAnyT_take (i := 28) (oi := ⟨some 38, _, _, _, _, _⟩) (v := .bool true) rfl (by kernel_rfl) (by kernel_rfl) (by kernel_rfl) (fun _ _ _ h => h) (by kernel_rfl) (Or.inl ⟨rfl, fun w h => by kernel_rfl⟩) Fs5.out ?_
  simp only [Act.put, List.setIfInBounds_toArray, List.set_cons_zero, List.set_cons_succ]
  refine wpAnyT_take (i := 29) (oi := ⟨some 39, _, _, _, _, _⟩) (v := .bool true) rfl (by kernel_rfl) (by kernel_rfl) (by kernel_rfl) (fun _ _ _ h => h) (by kernel_rfl) (Or.inl ⟨rfl, fun w h => by kernel_rfl⟩) Fs5.out ?_
  simp only [Act.put, List.setIfInBounds_toArray, List.set_cons_zero, List.set_cons_succ]
  refine wpAnyT_take (i := 30) (oi := ⟨some 40, _, _, _, _, _⟩) (v := .agg (u8l ss).toArray) rfl (by kernel_rfl) (by kernel_rfl) (by kernel_rfl) (fun _ _ _ h => h) (by kernel_rfl) (Or.inl ⟨rfl, fun w h => run_load_mid _ _ _ 23 _ rfl g4 0 rfl (u8l ss) _ (blk_range (h.2.2.1)) Tryd.underlying23 rfl (by simp only [u8l_len, HSL.out]; kernel_rfl)⟩) Fs5.out ?_
  simp only [Act.put, List.setIfInBounds_toArray, List.set_cons_zero, List.set_cons_succ]
  refine wpAnyT_take (i := 31) (oi := ⟨some 41, _, _, _, _, _⟩) (v := .pointer (some ⟨g5, 0, none⟩)) rfl (by kernel_rfl) (by kernel_rfl) (by kernel_rfl) (fun _ _ _ h => h) (by kernel_rfl) (Or.inl ⟨rfl, fun w h => by kernel_rfl⟩) Fs5.out ?_
  simp only [Act.put, List.setIfInBounds_toArray, List.set_cons_zero, List.set_cons_succ]
  refine wpAnyT_take (i := 32) (oi := ⟨some 42, _, _, _, _, _⟩) (v := .int .i64 x) rfl (by kernel_rfl) (by kernel_rfl) (by kernel_rfl) (fun _ _ _ h => h) (by kernel_rfl) (Or.inl ⟨rfl, fun w h => run_load_one _ _ _ 3 _ _ rfl g5 0 rfl (by rw [(h.2.2.2.1).cell]; rfl) (by kernel_rfl)⟩) Fs5.out ?_
  simp only [Act.put, List.setIfInBounds_toArray, List.set_cons_zero, List.set_cons_succ]
  refine wpAnyT_take (i := 33) (oi := ⟨some 43, _, _, _, _, _⟩) (v := .pointer (some ⟨g5, 1, none⟩)) rfl (by kernel_rfl) (by kernel_rfl) (by kernel_rfl) (fun _ _ _ h => h) (by kernel_rfl) (Or.inl ⟨rfl, fun w h => by kernel_rfl⟩) Fs5.out ?_
  simp only [Act.put, List.setIfInBounds_toArray, List.set_cons_zero, List.set_cons_succ]
  refine wpAnyT_take (i := 34) (oi := ⟨some 44, _, _, _, _, _⟩) (v := .int .i64 y) rfl (by kernel_rfl) (by kernel_rfl) (by kernel_rfl) (fun _ _ _ h => h) (by kernel_rfl) (Or.inl ⟨rfl, fun w h => run_load_one _ _ _ 3 _ _ rfl g5 1 rfl (by rw [(h.2.2.2.1).cell]; rfl) (by kernel_rfl)⟩) Fs5.out ?_
  simp only [Act.put, List.setIfInBounds_toArray, List.set_cons_zero, List.set_cons_succ]
  refine wpAnyT_take (i := 36) (oi := ⟨some 46, _, _, _, _, _⟩) (v := .agg (u8l ss).toArray) rfl (by kernel_rfl) (by kernel_rfl) (by kernel_rfl) (fun _ _ _ h => h) (by kernel_rfl) (Or.inl ⟨rfl, fun w h => run_load_mid _ _ _ 23 _ rfl g4 0 rfl (u8l ss) _ (blk_range (h.2.2.1)) Tryd.underlying23 rfl (by simp only [u8l_len, HSL.out]; kernel_rfl)⟩) Fs5.out ?_
  simp only [Act.put, List.setIfInBounds_toArray, List.set_cons_zero, List.set_cons_succ]
  refine wpAnyT_take (i := 37) (oi := ⟨some 47, _, _, _, _, _⟩) (v := .pointer (some ⟨g5, 0, none⟩)) rfl (by kernel_rfl) (by kernel_rfl) (by kernel_rfl) (fun _ _ _ h => h) (by kernel_rfl) (Or.inl ⟨rfl, fun w h => by kernel_rfl⟩) Fs5.out ?_
  simp only [Act.put, List.setIfInBounds_toArray, List.set_cons_zero, List.set_cons_succ]
  refine wpAnyT_take (i := 38) (oi := ⟨some 48, _, _, _, _, _⟩) (v := .int .i64 x) rfl (by kernel_rfl) (by kernel_rfl) (by kernel_rfl) (fun _ _ _ h => h) (by kernel_rfl) (Or.inl ⟨rfl, fun w h => run_load_one _ _ _ 3 _ _ rfl g5 0 rfl (by rw [(h.2.2.2.1).cell]; rfl) (by kernel_rfl)⟩) Fs5.out ?_
  simp only [Act.put, List.setIfInBounds_toArray, List.set_cons_zero, List.set_cons_succ]
  refine wpAnyT_take (i := 39) (oi := ⟨some 49, _, _, _, _, _⟩) (v := .pointer (some ⟨g5, 1, none⟩)) rfl (by kernel_rfl) (by kernel_rfl) (by kernel_rfl) (fun _ _ _ h => h) (by kernel_rfl) (Or.inl ⟨rfl, fun w h => by kernel_rfl⟩) Fs5.out ?_
  simp only [Act.put, List.setIfInBounds_toArray, List.set_cons_zero, List.set_cons_succ]
  refine wpAnyT_take (i := 40) (oi := ⟨some 50, _, _, _, _, _⟩) (v := .int .i64 y) rfl (by kernel_rfl) (by kernel_rfl) (by kernel_rfl) (fun _ _ _ h => h) (by kernel_rfl) (Or.inl ⟨rfl, fun w h => run_load_one _ _ _ 3 _ _ rfl g5 1 rfl (by rw [(h.2.2.2.1).cell]; rfl) (by kernel_rfl)⟩) Fs5.out ?_
  simp only [Act.put, List.setIfInBounds_toArray, List.set_cons_zero, List.set_cons_succ]
  refine wpAnyT_one (i := 35) (by kernel_rfl) ?_
  refine op_call (o := ⟨some 45, _, _, _, _, _⟩) 16 #[.agg (u8l ss).toArray, .int .i64 x, .int .i64 y] rfl rfl (by kernel_rfl) (((pair_any s5 ss x y HSL.out HSB.out (Fs5.out.2.2.2.2.2.1) (Fs5.out.2.2.2.2.2.2.1))).mono fun e s6 ⟨he, qs6⟩ => ⟨.agg (u8l (macS ss [IntKind.u8.wrap (mnI x y), IntKind.u8.wrap (mxI x y)])).toArray, he, ?_, ?_⟩)
  · exact fun _ => ⟨Fs5.out.1.trans (qs6.mono (by have := (Fs5.out.2.1).lt; omega)), Fs5.out.2.1.below qs6, Fs5.out.2.2.1.below qs6, Fs5.out.2.2.2.1.below qs6, Fs5.out.2.2.2.2.1.below qs6, Fs5.out.2.2.2.2.2.1.below qs6, Fs5.out.2.2.2.2.2.2.1.below qs6, Fs5.out.2.2.2.2.2.2.2.below qs6⟩
  simp only [Act.put, List.setIfInBounds_toArray, List.set_cons_zero, List.set_cons_succ]
  have Fs6 := Lib.hid (show Below g3 w s6 ∧ Blk s6 g3 23 (u8l ks).toArray ∧ Blk s6 g4 23 (u8l ss).toArray ∧ Blk s6 g5 38 #[.int .i64 x, .int .i64 y] ∧ Blk s6 g7 30 (setL ks).toArray ∧ TabK s6 ∧ TabH s6 ∧ TabW s6 from ⟨Fs5.out.1.trans (qs6.mono (by have := (Fs5.out.2.1).lt; omega)), Fs5.out.2.1.below qs6, Fs5.out.2.2.1.below qs6, Fs5.out.2.2.2.1.below qs6, Fs5.out.2.2.2.2.1.below qs6, Fs5.out.2.2.2.2.2.1.below qs6, Fs5.out.2.2.2.2.2.2.1.below qs6, Fs5.out.2.2.2.2.2.2.2.below qs6⟩)
  clear qs6
  refine wpAnyT_one (i := 41) (by kernel_rfl) ?_
  refine op_call (o := ⟨some 51, _, _, _, _, _⟩) 17 #[.agg (u8l ss).toArray, .int .i64 x, .int .i64 y] rfl rfl (by kernel_rfl) (((refpair_any s6 ss x y HSL.out HSB.out (Fs6.out.2.2.2.2.2.2.2))).mono fun e s7 ⟨he, qs7⟩ => ⟨.agg (u8l (macS ss [IntKind.u8.wrap (mnI x y), IntKind.u8.wrap (mxI x y)])).toArray, he, ?_, ?_⟩)
  · exact fun _ => ⟨Fs6.out.1.trans (qs7.mono (by have := (Fs6.out.2.1).lt; omega)), Fs6.out.2.1.below qs7, Fs6.out.2.2.1.below qs7, Fs6.out.2.2.2.1.below qs7, Fs6.out.2.2.2.2.1.below qs7, Fs6.out.2.2.2.2.2.1.below qs7, Fs6.out.2.2.2.2.2.2.1.below qs7, Fs6.out.2.2.2.2.2.2.2.below qs7⟩
  simp only [Act.put, List.setIfInBounds_toArray, List.set_cons_zero, List.set_cons_succ]
  have Fs7 := Lib.hid (show Below g3 w s7 ∧ Blk s7 g3 23 (u8l ks).toArray ∧ Blk s7 g4 23 (u8l ss).toArray ∧ Blk s7 g5 38 #[.int .i64 x, .int .i64 y] ∧ Blk s7 g7 30 (setL ks).toArray ∧ TabK s7 ∧ TabH s7 ∧ TabW s7 from ⟨Fs6.out.1.trans (qs7.mono (by have := (Fs6.out.2.1).lt; omega)), Fs6.out.2.1.below qs7, Fs6.out.2.2.1.below qs7, Fs6.out.2.2.2.1.below qs7, Fs6.out.2.2.2.2.1.below qs7, Fs6.out.2.2.2.2.2.1.below qs7, Fs6.out.2.2.2.2.2.2.1.below qs7, Fs6.out.2.2.2.2.2.2.2.below qs7⟩)
  clear qs7
  refine wpAnyT_take (i := 42) (oi := ⟨some 52, _, _, _, _, _⟩) (v := .bool true) rfl (by kernel_rfl) (by kernel_rfl) (by kernel_rfl) (fun _ _ _ h => h) (by kernel_rfl) (Or.inl ⟨rfl, fun w h => run_eq26 _ _ _ _ _ (macS ss [IntKind.u8.wrap (mnI x y), IntKind.u8.wrap (mxI x y)]) (macS_len _ _) rfl rfl rfl⟩) Fs7.out ?_
  simp only [Act.put, List.setIfInBounds_toArray, List.set_cons_zero, List.set_cons_succ]
  refine wpAnyT_take (i := 43) (oi := ⟨some 53, _, _, _, _, _⟩) (v := .bool true) rfl (by kernel_rfl) (by kernel_rfl) (by kernel_rfl) (fun _ _ _ h => h) (by kernel_rfl) (Or.inl ⟨rfl, fun w h => by kernel_rfl⟩) Fs7.out ?_
  simp only [Act.put, List.setIfInBounds_toArray, List.set_cons_zero, List.set_cons_succ]
  refine wpAnyT_take (i := 44) (oi := ⟨some 6, _, _, _, _, _⟩) (v := .bool true) rfl (by kernel_rfl) (by kernel_rfl) (by kernel_rfl) (fun _ _ _ h => h) (by kernel_rfl) (Or.inl ⟨rfl, fun w h => by kernel_rfl⟩) Fs7.out ?_
  simp only [Act.put, List.setIfInBounds_toArray, List.set_cons_zero, List.set_cons_succ]
  refine wpAnyT_done (by kernel_rfl) ?_ _
  go_wp2_with fail
  go_ret
  exact ⟨rfl, by rw [G3.out]; exact Fs7.out.1⟩
end Go.Proofs.YtofdbjlhgfmgfaaDoor.Ha
