/- What a sector tells; whether a head can be a log's. -/
import Derived.Test.YteabblmhcjpboaaC0
namespace Go.Proofs.Yteabblmhcjpboaa.D
open Go Go.RowKit
set_option maxRecDepth 100000
theorem blk_range' {w : World} {g t : Nat} {l : List Value} (h : Blk w g t l.toArray) : w.rangeAt g 0 l := by
  intro j v hj
  rw [h.cell, Nat.zero_add, List.getElem?_toArray, hj]
theorem blk_range {w : World} {g t : Nat} {l : List Int} (h : Blk w g t (u8l l).toArray) : w.rangeAt g 0 (u8l l) := blk_range' h
/-- a head can be a log's. -/
def fitB (rm s1 c1 pl : Nat) : Bool := decide (s1 % 2 = pl) && decide (c1 ≤ rm * 64)
attribute [local irreducible] wpList
set_option maxHeartbeats 4000000
theorem parse_any (w : World) (g o cx : Nat) (xs : List Int) (h : Row w (some ⟨g, o, none⟩) 64 xs) (hc : 64 ≤ cx ∧ cx < 9223372036854775808) : Calls Try.prog 31 #[.slice (some ⟨g, o, none⟩) 64 cx] w fun e w' => e = .returned (.tuple #[.agg (prV xs (whole xs)).toArray, .bool (whole xs)]) ∧ Below w.heap.size w w' := by
  have HS := Lib.hid h
  have CX := Lib.hid hc
  have L32 : Hid ((xs.take 32).length = 32) := Lib.hid (by rw [List.length_take, h.1]; rfl)
  have R32 : Hid ((xs.drop 32).length = 32) := Lib.hid (by rw [List.length_drop, h.1])
  have XO : Hid (32 ≤ 64 ∧ ∀ x ∈ xs.take 32, 0 ≤ x ∧ x ≤ 255) := Lib.hid ⟨by omega, fun x hx => h.2.2.1 x (List.mem_of_mem_take hx)⟩
  clear h hc
  go_enter Try.func31, Try.ntmps31
  go_upto_region 0 with (fail)
  refine wp_region_lit ?_
  obtain ⟨W0, hW0⟩ : ∃ V, V = w.alloc (.cells (hdV 0 0 (List.replicate 16 0)).toArray 64) := ⟨_, rfl⟩
  refine wpL_value (.pointer (some ⟨w.heap.size, 0, none⟩)) W0 rfl (by rw [hW0]; kernel_rfl) ?_
  simp only [Act.put, List.setIfInBounds_toArray, List.set_cons_zero, List.set_cons_succ]
  obtain ⟨g2, hg2⟩ : ∃ q, w.heap.size = q := ⟨_, rfl⟩
  have F0 : Hid (Below w.heap.size w W0 ∧ Blk W0 g2 64 (hdV 0 0 (List.replicate 16 0)).toArray ∧ Row W0 (some ⟨g, o, none⟩) 64 xs ∧ w.heap.size = g2) := Lib.hid (by rw [hW0, ← hg2]; exact ⟨(Below.refl _ _).alloc (Nat.le_refl _) _, Blk.new _ _ _, HS.out.keep ((Below.refl _ _).alloc (Nat.le_refl _) _), rfl⟩)
  rw [hg2]
  clear hW0 hg2
  refine wpL_pure (.bool false) rfl (by kernel_rfl) ?_
  simp only [Act.put, List.setIfInBounds_toArray, List.set_cons_zero, List.set_cons_succ]
  go_upto_region 1 with (fail)
  refine region_anyT (fun X => Row X (some ⟨g, o, none⟩) 64 xs) (by kernel_rfl) 12 12 rfl ?_
  refine wpAnyT_take (i := 0) (oi := ⟨some 6, _, _, _, _, _⟩) (v := .slice (some ⟨g, o, none⟩) 64 cx) rfl (by kernel_rfl) (by kernel_rfl) (by kernel_rfl) (fun _ _ _ h => h) (by kernel_rfl) (Or.inl ⟨rfl, fun w h => by kernel_rfl⟩) (F0.out.2.2.1) ?_
  simp only [Act.put, List.setIfInBounds_toArray, List.set_cons_zero, List.set_cons_succ]
  refine wpAnyT_take (i := 1) (oi := ⟨some 7, _, _, _, _, _⟩) (v := .slice (some ⟨g, o, none⟩) 32 cx) rfl (by kernel_rfl) (by kernel_rfl) (by kernel_rfl) (fun _ _ _ h => h) (by kernel_rfl) (Or.inl ⟨rfl, fun w h => run_slto _ _ _ _ _ g o 64 cx 32 rfl rfl rfl CX.out.1 CX.out.2⟩) (F0.out.2.2.1) ?_
  simp only [Act.put, List.setIfInBounds_toArray, List.set_cons_zero, List.set_cons_succ]
  refine wpAnyT_take (i := 2) (oi := ⟨some 8, _, _, _, _, _⟩) (v := .pointer (some ⟨g, o, none⟩)) rfl (by kernel_rfl) (by kernel_rfl) (by kernel_rfl) (fun _ _ _ h => h) (by kernel_rfl) (Or.inl ⟨rfl, fun w h => run_s2a32 _ _ _ _ g o 32 cx rfl rfl (Nat.le_refl _)⟩) (F0.out.2.2.1) ?_
  simp only [Act.put, List.setIfInBounds_toArray, List.set_cons_zero, List.set_cons_succ]
  refine wpAnyT_take (i := 3) (oi := ⟨some 9, _, _, _, _, _⟩) (v := .agg (u8l (xs.take 32)).toArray) rfl (by kernel_rfl) (by kernel_rfl) (by kernel_rfl) (fun _ _ _ h => h) (by kernel_rfl) (Or.inl ⟨rfl, fun w h => run_load_mid _ _ _ 87 _ rfl g o rfl (u8l (xs.take 32)) _ (row_range (Row.take h 32 (by omega))) Try.underlying87 rfl (by simp only [List.size_toArray, u8l_len, L32.out]; kernel_rfl)⟩) (F0.out.2.2.1) ?_
  simp only [Act.put, List.setIfInBounds_toArray, List.set_cons_zero, List.set_cons_succ]
  refine wpAnyT_take (i := 4) (oi := ⟨some 10, _, _, _, _, _⟩) (v := .slice (some ⟨g, o, none⟩) 64 cx) rfl (by kernel_rfl) (by kernel_rfl) (by kernel_rfl) (fun _ _ _ h => h) (by kernel_rfl) (Or.inl ⟨rfl, fun w h => by kernel_rfl⟩) (F0.out.2.2.1) ?_
  simp only [Act.put, List.setIfInBounds_toArray, List.set_cons_zero, List.set_cons_succ]
  refine wpAnyT_take (i := 5) (oi := ⟨some 11, _, _, _, _, _⟩) (v := .slice (some ⟨g, o + 32, none⟩) 32 (cx - 32)) rfl (by kernel_rfl) (by kernel_rfl) (by kernel_rfl) (fun _ _ _ h => h) (by kernel_rfl) (Or.inl ⟨rfl, fun w h => run_slfr _ _ _ _ _ g o 64 cx 32 rfl rfl rfl (by omega) CX.out.1 CX.out.2⟩) (F0.out.2.2.1) ?_
  simp only [Act.put, List.setIfInBounds_toArray, List.set_cons_zero, List.set_cons_succ]
  refine wpAnyT_take (i := 6) (oi := ⟨some 12, _, _, _, _, _⟩) (v := .pointer (some ⟨g, o + 32, none⟩)) rfl (by kernel_rfl) (by kernel_rfl) (by kernel_rfl) (fun _ _ _ h => h) (by kernel_rfl) (Or.inl ⟨rfl, fun w h => run_s2a32 _ _ _ _ g (o + 32) 32 (cx - 32) rfl rfl (Nat.le_refl _)⟩) (F0.out.2.2.1) ?_
  simp only [Act.put, List.setIfInBounds_toArray, List.set_cons_zero, List.set_cons_succ]
  refine wpAnyT_take (i := 7) (oi := ⟨some 13, _, _, _, _, _⟩) (v := .agg (u8l (xs.drop 32)).toArray) rfl (by kernel_rfl) (by kernel_rfl) (by kernel_rfl) (fun _ _ _ h => h) (by kernel_rfl) (Or.inl ⟨rfl, fun w h => run_load_mid _ _ _ 87 _ rfl g (o + 32) rfl (u8l (xs.drop 32)) _ (row_range (row_half h)) Try.underlying87 rfl (by simp only [List.size_toArray, u8l_len, R32.out]; kernel_rfl)⟩) (F0.out.2.2.1) ?_
  simp only [Act.put, List.setIfInBounds_toArray, List.set_cons_zero, List.set_cons_succ]
  refine wpAnyT_allocs (i := 8) (j := 9) (di := 4) (dj := 5) 87 87 #[.int .u8 0, .int .u8 0, .int .u8 0, .int .u8 0, .int .u8 0, .int .u8 0, .int .u8 0, .int .u8 0, .int .u8 0, .int .u8 0, .int .u8 0, .int .u8 0, .int .u8 0, .int .u8 0, .int .u8 0, .int .u8 0, .int .u8 0, .int .u8 0, .int .u8 0, .int .u8 0, .int .u8 0, .int .u8 0, .int .u8 0, .int .u8 0, .int .u8 0, .int .u8 0, .int .u8 0, .int .u8 0, .int .u8 0, .int .u8 0, .int .u8 0, .int .u8 0] #[.int .u8 0, .int .u8 0, .int .u8 0, .int .u8 0, .int .u8 0, .int .u8 0, .int .u8 0, .int .u8 0, .int .u8 0, .int .u8 0, .int .u8 0, .int .u8 0, .int .u8 0, .int .u8 0, .int .u8 0, .int .u8 0, .int .u8 0, .int .u8 0, .int .u8 0, .int .u8 0, .int .u8 0, .int .u8 0, .int .u8 0, .int .u8 0, .int .u8 0, .int .u8 0, .int .u8 0, .int .u8 0, .int .u8 0, .int .u8 0, .int .u8 0, .int .u8 0] rfl rfl rfl rfl (by decide) (by kernel_rfl) (by kernel_rfl) (by kernel_rfl) (fun _ => rfl) (fun _ => rfl) (fun _ _ => by kernel_rfl) (fun _ _ => by kernel_rfl) (fun V hV => F0.out.2.2.1.keep (show Below W0.heap.size W0 V from (Below.refl _ W0).drew.trans hV)) ?_
  intro b4 b5 W1 ne hW1 k4 k5 l4 l5
  simp only [Act.put, List.setIfInBounds_toArray, List.set_cons_zero, List.set_cons_succ]
  have F1 : Hid (Below w.heap.size w W1 ∧ Blk W1 g2 64 (hdV 0 0 (List.replicate 16 0)).toArray ∧ Blk W1 b4 87 #[.int .u8 0, .int .u8 0, .int .u8 0, .int .u8 0, .int .u8 0, .int .u8 0, .int .u8 0, .int .u8 0, .int .u8 0, .int .u8 0, .int .u8 0, .int .u8 0, .int .u8 0, .int .u8 0, .int .u8 0, .int .u8 0, .int .u8 0, .int .u8 0, .int .u8 0, .int .u8 0, .int .u8 0, .int .u8 0, .int .u8 0, .int .u8 0, .int .u8 0, .int .u8 0, .int .u8 0, .int .u8 0, .int .u8 0, .int .u8 0, .int .u8 0, .int .u8 0] ∧ Blk W1 b5 87 #[.int .u8 0, .int .u8 0, .int .u8 0, .int .u8 0, .int .u8 0, .int .u8 0, .int .u8 0, .int .u8 0, .int .u8 0, .int .u8 0, .int .u8 0, .int .u8 0, .int .u8 0, .int .u8 0, .int .u8 0, .int .u8 0, .int .u8 0, .int .u8 0, .int .u8 0, .int .u8 0, .int .u8 0, .int .u8 0, .int .u8 0, .int .u8 0, .int .u8 0, .int .u8 0, .int .u8 0, .int .u8 0, .int .u8 0, .int .u8 0, .int .u8 0, .int .u8 0] ∧ w.heap.size ≤ b4 ∧ w.heap.size ≤ b5) := Lib.hid ⟨F0.out.1.trans ((show Below W0.heap.size W0 W1 from (Below.refl _ W0).drew.trans hW1).mono F0.out.1.size), F0.out.2.1.below (show Below W0.heap.size W0 W1 from (Below.refl _ W0).drew.trans hW1), k4, k5, Nat.le_trans F0.out.1.size l4, Nat.le_trans F0.out.1.size l5⟩
  have NB : Hid (b4 ≠ b5 ∧ b4 ≠ g2 ∧ b5 ≠ g2) := Lib.hid ⟨ne, by have q := F0.out.2.1.lt; have l4' : W0.heap.size ≤ b4 := l4; omega, by have q := F0.out.2.1.lt; have l5' : W0.heap.size ≤ b5 := l5; omega⟩
  have QG : Hid (w.heap.size = g2) := Lib.hid F0.out.2.2.2
  clear ne hW1 k4 k5 l4 l5 F0
  refine wpAnyT_one (i := 10) (by kernel_rfl) ?_
  obtain ⟨Y1, hY1⟩ : ∃ V, V = W1.setRow b4 (u8l (xs.take 32)).toArray := ⟨_, rfl⟩
  have E2 : Hid (Below w.heap.size w Y1 ∧ Blk Y1 g2 64 (hdV 0 0 (List.replicate 16 0)).toArray ∧ Blk Y1 b4 87 (u8l (xs.take 32)).toArray ∧ Blk Y1 b5 87 #[.int .u8 0, .int .u8 0, .int .u8 0, .int .u8 0, .int .u8 0, .int .u8 0, .int .u8 0, .int .u8 0, .int .u8 0, .int .u8 0, .int .u8 0, .int .u8 0, .int .u8 0, .int .u8 0, .int .u8 0, .int .u8 0, .int .u8 0, .int .u8 0, .int .u8 0, .int .u8 0, .int .u8 0, .int .u8 0, .int .u8 0, .int .u8 0, .int .u8 0, .int .u8 0, .int .u8 0, .int .u8 0, .int .u8 0, .int .u8 0, .int .u8 0, .int .u8 0]) := Lib.hid (by rw [hY1]; exact ⟨below_setRow F1.out.1 F1.out.2.2.2.2.1 _, (setRow_other _ _ _ _ NB.out.2.1.symm).trans F1.out.2.1, setRow_heap _ _ _ _ _ _ F1.out.2.2.1, (setRow_other _ _ _ _ NB.out.1.symm).trans F1.out.2.2.2.1⟩)
  refine op_skip (o := ⟨none, _, _, _, _, _⟩) Y1 rfl rfl (by rw [hY1]; exact run_store_row _ _ _ 87 _ _ rfl b4 (u8l (xs.take 32)).toArray rfl rfl 87 _ (F1.out.2.2.1) (by simp only [List.size_toArray, u8l_len, L32.out] <;> kernel_rfl) (by simp only [List.size_toArray, u8l_len, L32.out] <;> rfl) (u8l_one _)) ?_
  refine ⟨fun _ => HS.out.keep E2.out.1, ?_⟩
  simp only [Act.put, List.setIfInBounds_toArray, List.set_cons_zero, List.set_cons_succ]
  clear hY1
  refine wpAnyT_one (i := 11) (by kernel_rfl) ?_
  obtain ⟨Y2, hY2⟩ : ∃ V, V = Y1.setRow b5 (u8l (xs.drop 32)).toArray := ⟨_, rfl⟩
  have E3 : Hid (Below w.heap.size w Y2 ∧ Blk Y2 g2 64 (hdV 0 0 (List.replicate 16 0)).toArray ∧ Blk Y2 b4 87 (u8l (xs.take 32)).toArray ∧ Blk Y2 b5 87 (u8l (xs.drop 32)).toArray) := Lib.hid (by rw [hY2]; exact ⟨below_setRow E2.out.1 F1.out.2.2.2.2.2 _, (setRow_other _ _ _ _ NB.out.2.2.symm).trans E2.out.2.1, (setRow_other _ _ _ _ NB.out.1).trans E2.out.2.2.1, setRow_heap _ _ _ _ _ _ E2.out.2.2.2⟩)
  refine op_skip (o := ⟨none, _, _, _, _, _⟩) Y2 rfl rfl (by rw [hY2]; exact run_store_row _ _ _ 87 _ _ rfl b5 (u8l (xs.drop 32)).toArray rfl rfl 87 _ (E2.out.2.2.2) (by simp only [List.size_toArray, u8l_len, R32.out] <;> kernel_rfl) (by simp only [List.size_toArray, u8l_len, R32.out] <;> rfl) (u8l_one _)) ?_
  refine ⟨fun _ => HS.out.keep E3.out.1, ?_⟩
  simp only [Act.put, List.setIfInBounds_toArray, List.set_cons_zero, List.set_cons_succ]
  clear hY2
  clear E2 F1
  refine wpAnyT_done (by kernel_rfl) ?_ _
  go_upto_region 2 with (fail)
  refine wp_region_lit ?_
  refine wpL_pure (.agg (u8l (xs.take 32)).toArray) rfl (run_load_mid _ _ _ 87 _ rfl b4 0 rfl (u8l (xs.take 32)) _ (blk_range E3.out.2.2.1) Try.underlying87 rfl (by simp only [List.size_toArray, u8l_len, L32.out]; kernel_rfl)) ?_
  simp only [Act.put, List.setIfInBounds_toArray, List.set_cons_zero, List.set_cons_succ]
  refine wpL_pure (.agg (u8l (xs.drop 32)).toArray) rfl (run_load_mid _ _ _ 87 _ rfl b5 0 rfl (u8l (xs.drop 32)) _ (blk_range E3.out.2.2.2) Try.underlying87 rfl (by simp only [List.size_toArray, u8l_len, R32.out]; kernel_rfl)) ?_
  simp only [Act.put, List.setIfInBounds_toArray, List.set_cons_zero, List.set_cons_succ]
  refine wpL_pure (.bool (!whole xs)) rfl (run_ne32 _ _ _ _ _ (xs.take 32) (xs.drop 32) _ L32.out R32.out rfl rfl rfl rfl) ?_
  simp only [Act.put, List.setIfInBounds_toArray, List.set_cons_zero, List.set_cons_succ]
  obtain ⟨wb, hwb⟩ : ∃ q, whole xs = q := ⟨_, rfl⟩
  have HW := Lib.hid hwb
  rw [hwb]
  clear hwb
  cases wb
  · go_upto_region 3 with (fail)
    refine wp_region_lit ?_
    refine wpL_pure (.agg (hdV 0 0 (List.replicate 16 0)).toArray) rfl (by kernel_rfl) ?_
    simp only [Act.put, List.setIfInBounds_toArray, List.set_cons_zero, List.set_cons_succ]
    refine wpList_store_row rfl 64 _ _ rfl g2 (hdV 0 0 (List.replicate 16 0)).toArray rfl rfl 64 _ (E3.out.2.1) (by simp only [List.size_toArray, hdV, List.length_cons, List.length_map, List.length_replicate] <;> kernel_rfl) (by simp only [List.size_toArray, hdV, List.length_cons, List.length_map, List.length_replicate] <;> rfl) (hd_one _ _ _) ?_
    simp only [Act.put, List.setIfInBounds_toArray, List.set_cons_zero, List.set_cons_succ]
    obtain ⟨Y3, hY3⟩ : ∃ V, V = Y2.setRow g2 (hdV 0 0 (List.replicate 16 0)).toArray := ⟨_, rfl⟩
    rw [← hY3]
    refine wpL_pure (.bool false) rfl (by kernel_rfl) ?_
    simp only [Act.put, List.setIfInBounds_toArray, List.set_cons_zero, List.set_cons_succ]
    have E4 : Hid (Below w.heap.size w Y3 ∧ Blk Y3 g2 64 (hdV 0 0 (List.replicate 16 0)).toArray) := Lib.hid (by rw [hY3]; exact ⟨below_setRow E3.out.1 (Nat.le_of_eq QG.out) _, setRow_heap _ _ _ _ _ _ E3.out.2.1⟩)
    clear hY3
    go_wp2_with fail
    exact bodyPost_ret (results_ct rfl _ _ g2 64 _ (0, 0) _ rfl E4.out.2 Try.underlying64 rfl (by kernel_rfl)) rfl ⟨by rw [HW.out]; rfl, E4.out.1⟩
  · have H16 : Hid ((((xs.take 32).drop 16).take 16).length = 16) := Lib.hid (by rw [List.length_take, List.length_drop, L32.out]; rfl)
    go_upto_region 4 with (fail)
    refine region_anyT (fun X => Below w.heap.size w X ∧ Blk X g2 64 (hdV 0 0 (List.replicate 16 0)).toArray ∧ Blk X b4 87 (u8l (xs.take 32)).toArray) (by kernel_rfl) 8 10 rfl ?_
    refine wpAnyT_take (i := 0) (oi := ⟨some 18, _, _, _, _, _⟩) (v := .slice (some ⟨b4, 0, none⟩) 8 32) rfl (by kernel_rfl) (by kernel_rfl) (by kernel_rfl) (fun _ _ _ h => h) (by kernel_rfl) (Or.inl ⟨rfl, fun w h => by kernel_rfl⟩) (⟨E3.out.1.drew, E3.out.2.1, E3.out.2.2.1⟩) ?_
    simp only [Act.put, List.setIfInBounds_toArray, List.set_cons_zero, List.set_cons_succ]
    refine wpAnyT_take (i := 2) (oi := ⟨some 20, _, _, _, _, _⟩) (v := .slice (some ⟨b4, 8, none⟩) 8 24) rfl (by kernel_rfl) (by kernel_rfl) (by kernel_rfl) (fun _ _ _ h => h) (by kernel_rfl) (Or.inl ⟨rfl, fun w h => by kernel_rfl⟩) (⟨E3.out.1.drew, E3.out.2.1, E3.out.2.2.1⟩) ?_
    simp only [Act.put, List.setIfInBounds_toArray, List.set_cons_zero, List.set_cons_succ]
    refine wpAnyT_take (i := 4) (oi := ⟨some 22, _, _, _, _, _⟩) (v := .slice (some ⟨b4, 16, none⟩) 16 16) rfl (by kernel_rfl) (by kernel_rfl) (by kernel_rfl) (fun _ _ _ h => h) (by kernel_rfl) (Or.inl ⟨rfl, fun w h => by kernel_rfl⟩) (⟨E3.out.1.drew, E3.out.2.1, E3.out.2.2.1⟩) ?_
    simp only [Act.put, List.setIfInBounds_toArray, List.set_cons_zero, List.set_cons_succ]
    refine wpAnyT_take (i := 5) (oi := ⟨some 23, _, _, _, _, _⟩) (v := .pointer (some ⟨b4, 16, none⟩)) rfl (by kernel_rfl) (by kernel_rfl) (by kernel_rfl) (fun _ _ _ h => h) (by kernel_rfl) (Or.inl ⟨rfl, fun w h => by kernel_rfl⟩) (⟨E3.out.1.drew, E3.out.2.1, E3.out.2.2.1⟩) ?_
    simp only [Act.put, List.setIfInBounds_toArray, List.set_cons_zero, List.set_cons_succ]
    refine wpAnyT_take (i := 6) (oi := ⟨some 24, _, _, _, _, _⟩) (v := .agg (u8l (((xs.take 32).drop 16).take 16)).toArray) rfl (by kernel_rfl) (by kernel_rfl) (by kernel_rfl) (fun _ _ _ h => h) (by kernel_rfl) (Or.inl ⟨rfl, fun w h => run_load_mid _ _ _ 32 _ rfl b4 16 rfl (u8l (((xs.take 32).drop 16).take 16)) _ (row_range (half_row L32.out XO.out h.2.2 16 16 (by omega))) Try.underlying32 rfl (by simp only [List.size_toArray, u8l_len, H16.out]; kernel_rfl)⟩) (⟨E3.out.1.drew, E3.out.2.1, E3.out.2.2.1⟩) ?_
    simp only [Act.put, List.setIfInBounds_toArray, List.set_cons_zero, List.set_cons_succ]
    refine wpAnyT_one (i := 1) (by kernel_rfl) ?_
    refine op_call (o := ⟨some 19, _, _, _, _, _⟩) 44 #[.slice (some ⟨b4, 0, none⟩) 8 32] rfl rfl (by kernel_rfl) ((number_any _ (some ⟨b4, 0, none⟩) 8 32 (((xs.take 32).drop 0).take 8) (half_row (Y := Y2.drew) L32.out XO.out E3.out.2.2.1 0 8 (by omega)) (by omega)).mono fun e X h => ⟨.int .u64 ((numA (((xs.take 32).drop 0).take 8) : Nat) : Int), h.1, ?_, ?_⟩)
    · exact fun _ => by rw [← h.2]; exact ⟨E3.out.1.drew, E3.out.2.1, E3.out.2.2.1⟩
    simp only [Act.put, List.setIfInBounds_toArray, List.set_cons_zero, List.set_cons_succ]
    obtain ⟨-, rfl⟩ := h
    refine wpAnyT_one (i := 3) (by kernel_rfl) ?_
    refine op_call (o := ⟨some 21, _, _, _, _, _⟩) 44 #[.slice (some ⟨b4, 8, none⟩) 8 24] rfl rfl (by kernel_rfl) ((number_any _ (some ⟨b4, 8, none⟩) 8 24 (((xs.take 32).drop 8).take 8) (half_row (Y := Y2.drew) L32.out XO.out E3.out.2.2.1 8 8 (by omega)) (by omega)).mono fun e X h => ⟨.int .u64 ((numA (((xs.take 32).drop 8).take 8) : Nat) : Int), h.1, ?_, ?_⟩)
    · exact fun _ => by rw [← h.2]; exact ⟨E3.out.1.drew, E3.out.2.1, E3.out.2.2.1⟩
    simp only [Act.put, List.setIfInBounds_toArray, List.set_cons_zero, List.set_cons_succ]
    obtain ⟨-, rfl⟩ := h
    refine wpAnyT_take (i := 7) (oi := ⟨some 25, _, _, _, _, _⟩) (v := .agg (hdV (numA (((xs.take 32).drop 0).take 8)) (numA (((xs.take 32).drop 8).take 8)) (((xs.take 32).drop 16).take 16)).toArray) rfl (by kernel_rfl) (by kernel_rfl) (by kernel_rfl) (fun _ _ _ h => h) (by kernel_rfl) (Or.inl ⟨rfl, fun w h => run_build64 _ _ _ _ _ _ _ _ _ H16.out rfl rfl rfl rfl⟩) (⟨E3.out.1.drew, E3.out.2.1, E3.out.2.2.1⟩) ?_
    simp only [Act.put, List.setIfInBounds_toArray, List.set_cons_zero, List.set_cons_succ]
    refine wpAnyT_tail _ _ _ _ (headB_spec (by kernel_rfl)) ?_
    refine wpAny_of_idx [8, 9] [⟨none, _, _, _, _, _⟩, ⟨some 3, _, _, _, _, _⟩] _ _ _ (by rfl) (by kernel_rfl) ?_
    refine wpList_store_row rfl 64 _ _ rfl g2 (hdV (numA (((xs.take 32).drop 0).take 8)) (numA (((xs.take 32).drop 8).take 8)) (((xs.take 32).drop 16).take 16)).toArray rfl rfl 64 _ (E3.out.2.1) (by simp only [List.size_toArray, hdV, List.length_cons, List.length_map, List.length_replicate, H16.out] <;> kernel_rfl) (by simp only [List.size_toArray, hdV, List.length_cons, List.length_map, List.length_replicate, H16.out] <;> rfl) (hd_one _ _ _) ?_
    simp only [Act.put, List.setIfInBounds_toArray, List.set_cons_zero, List.set_cons_succ]
    obtain ⟨Y3, hY3⟩ : ∃ V, V = Y2.drew.setRow g2 (hdV (numA (((xs.take 32).drop 0).take 8)) (numA (((xs.take 32).drop 8).take 8)) (((xs.take 32).drop 16).take 16)).toArray := ⟨_, rfl⟩
    rw [← hY3]
    refine wpL_pure (.bool true) rfl (by kernel_rfl) ?_
    simp only [Act.put, List.setIfInBounds_toArray, List.set_cons_zero, List.set_cons_succ]
    have E4 : Hid (Below w.heap.size w Y3 ∧ Blk Y3 g2 64 (hdV (numA (((xs.take 32).drop 0).take 8)) (numA (((xs.take 32).drop 8).take 8)) (((xs.take 32).drop 16).take 16)).toArray) := Lib.hid (by rw [hY3]; exact ⟨below_setRow E3.out.1.drew (Nat.le_of_eq QG.out) _, setRow_heap _ _ _ _ _ _ E3.out.2.1⟩)
    clear hY3
    unfold wpList
    go_wp2_with fail
    exact bodyPost_ret (results_ct rfl _ _ g2 64 _ (0, 0) _ rfl E4.out.2 Try.underlying64 rfl (by simp only [List.size_toArray, hdV, List.length_cons, List.length_map, H16.out]; kernel_rfl)) rfl ⟨by rw [HW.out, prV, if_pos rfl, sl_take 0 8 xs (by omega), sl_take 8 8 xs (by omega), sl_take 16 16 xs (by omega)]; rfl, E4.out.1⟩
theorem fits_any {w : World} {lb b fr rm : Nat} {s c : Nat} {nt : List Int} {v : Value} {ov : Bool} (h : LS w lb b fr rm s c nt v ov) (s1 c1 pl : Nat) (nt1 : List Int) (hn : NtOk nt1) (hs : U64 s1) (hc : U64 c1) : Calls Try.prog 32 #[.pointer (some ⟨lb, 0, none⟩), .agg (hdV s1 c1 nt1).toArray, .int .i64 ((pl : Nat) : Int)] w fun e w' => e = .returned (.bool (fitB rm s1 c1 pl)) ∧ Below w.heap.size w w' := by
  have H := Lib.hid h
  have HN1 := Lib.hid (And.intro hn (And.intro hs hc))
  clear h hn hs hc
  go_enter Try.func32, Try.ntmps32
  go_upto_region 0 with (fail)
  refine wp_region_lit ?_
  obtain ⟨W1, hW1⟩ : ∃ V, V = w.alloc (.cells (hdV s1 c1 nt1).toArray 64) := ⟨_, rfl⟩
  refine wpL_value (.pointer (some ⟨w.heap.size, 0, none⟩)) W1 rfl (by rw [hW1]; kernel_rfl) ?_
  simp only [Act.put, List.setIfInBounds_toArray, List.set_cons_zero, List.set_cons_succ]
  obtain ⟨g4, hg4⟩ : ∃ q, w.heap.size = q := ⟨_, rfl⟩
  have F1 : Hid (Below w.heap.size w W1 ∧ Blk W1 g4 64 (hdV s1 c1 nt1).toArray ∧ LS W1 lb b fr rm s c nt v ov) := Lib.hid (by rw [hW1, ← hg4]; exact ⟨(Below.refl _ _).alloc (Nat.le_refl _) _, Blk.new _ _ _, H.out.below ((Below.refl _ _).alloc (Nat.le_refl _) _)⟩)
  rw [hg4]
  clear hW1 hg4
  refine wpL_pure (.bool false) rfl (by kernel_rfl) ?_
  simp only [Act.put, List.setIfInBounds_toArray, List.set_cons_zero, List.set_cons_succ]
  by_cases hp : s1 % 2 = pl
  · have HP := Lib.hid hp
    clear hp
    go_upto_region 1 with (fail)
    refine region_anyT (fun X => Below w.heap.size w X ∧ Blk X g4 64 (hdV s1 c1 nt1).toArray ∧ X.cell? ⟨lb, 2, none⟩ = some (.int .i64 (rm : Int))) (by kernel_rfl) 16 16 rfl ?_
    refine wpAnyT_take (i := 0) (oi := ⟨some 7, _, _, _, _, _⟩) (v := .agg (hdV s1 c1 nt1).toArray) rfl (by kernel_rfl) (by kernel_rfl) (by kernel_rfl) (fun _ _ _ h => h) (by kernel_rfl) (Or.inl ⟨rfl, fun w h => run_load_mid _ _ _ 64 _ rfl g4 0 rfl (hdV s1 c1 nt1) _ (blk_range' h.2.1) Try.underlying64 rfl (by simp only [List.size_toArray, hd_len HN1.out.1]; kernel_rfl)⟩) (⟨F1.out.1.drew, F1.out.2.1, F1.out.2.2.c2⟩) ?_
    simp only [Act.put, List.setIfInBounds_toArray, List.set_cons_zero, List.set_cons_succ]
    refine wpAnyT_take (i := 2) (oi := ⟨some 9, _, _, _, _, _⟩) (v := .int .i64 ((pl : Nat) : Int)) rfl (by kernel_rfl) (by kernel_rfl) (by kernel_rfl) (fun _ _ _ h => h) (by kernel_rfl) (Or.inl ⟨rfl, fun w h => by kernel_rfl⟩) (⟨F1.out.1.drew, F1.out.2.1, F1.out.2.2.c2⟩) ?_
    simp only [Act.put, List.setIfInBounds_toArray, List.set_cons_zero, List.set_cons_succ]
    refine wpAnyT_one (i := 1) (by kernel_rfl) ?_
    refine op_call (o := ⟨some 8, _, _, _, _, _⟩) 45 #[.agg (hdV s1 c1 nt1).toArray] rfl rfl (by kernel_rfl) ((place_any _ s1 c1 nt1 HN1.out.2.1).mono fun e X h => ⟨.int .i64 ((s1 % 2 : Nat) : Int), h.1, ?_, ?_⟩)
    · exact fun _ => ⟨F1.out.1.drew.trans (h.2.mono F1.out.1.drew.size), F1.out.2.1.below (show Below W1.heap.size W1 X from (Below.refl _ W1).drew.trans h.2), (F1.out.2.2.below (show Below W1.heap.size W1 X from (Below.refl _ W1).drew.trans h.2)).c2⟩
    simp only [Act.put, List.setIfInBounds_toArray, List.set_cons_zero, List.set_cons_succ]
    obtain ⟨-, hX⟩ := h
    have F2 : Hid (Below w.heap.size w X ∧ Blk X g4 64 (hdV s1 c1 nt1).toArray ∧ X.cell? ⟨lb, 2, none⟩ = some (.int .i64 (rm : Int))) := Lib.hid ⟨F1.out.1.drew.trans (hX.mono F1.out.1.drew.size), F1.out.2.1.below (show Below W1.heap.size W1 X from (Below.refl _ W1).drew.trans hX), (F1.out.2.2.below (show Below W1.heap.size W1 X from (Below.refl _ W1).drew.trans hX)).c2⟩
    clear hX
    refine wpAnyT_take (i := 3) (oi := ⟨some 10, _, _, _, _, _⟩) (v := .bool true) rfl (by kernel_rfl) (by kernel_rfl) (by kernel_rfl) (fun _ _ _ h => h) (by kernel_rfl) (Or.inl ⟨rfl, fun w h => run_eqi Try.underlying3 rfl rfl rfl (by have := HP.out; rw [decide_eq_true_eq]; omega)⟩) (F2.out) ?_
    simp only [Act.put, List.setIfInBounds_toArray, List.set_cons_zero, List.set_cons_succ]
    refine wpAnyT_take (i := 4) (oi := ⟨some 11, _, _, _, _, _⟩) (v := .bool true) rfl (by kernel_rfl) (by kernel_rfl) (by kernel_rfl) (fun _ _ _ h => h) (by kernel_rfl) (Or.inl ⟨rfl, fun w h => by kernel_rfl⟩) (F2.out) ?_
    simp only [Act.put, List.setIfInBounds_toArray, List.set_cons_zero, List.set_cons_succ]
    refine wpAnyT_take (i := 5) (oi := ⟨some 12, _, _, _, _, _⟩) (v := .pointer (some ⟨g4, 1, none⟩)) rfl (by kernel_rfl) (by kernel_rfl) (by kernel_rfl) (fun _ _ _ h => h) (by kernel_rfl) (Or.inl ⟨rfl, fun w h => by kernel_rfl⟩) (F2.out) ?_
    simp only [Act.put, List.setIfInBounds_toArray, List.set_cons_zero, List.set_cons_succ]
    refine wpAnyT_take (i := 6) (oi := ⟨some 13, _, _, _, _, _⟩) (v := .int .u64 ((c1 : Nat) : Int)) rfl (by kernel_rfl) (by kernel_rfl) (by kernel_rfl) (fun _ _ _ h => h) (by kernel_rfl) (Or.inl ⟨rfl, fun w h => run_load_one _ _ _ 35 _ _ rfl (g4) (1) rfl (by rw [h.2.1.cell]; rfl) (by kernel_rfl)⟩) (F2.out) ?_
    simp only [Act.put, List.setIfInBounds_toArray, List.set_cons_zero, List.set_cons_succ]
    refine wpAnyT_take (i := 7) (oi := ⟨some 14, _, _, _, _, _⟩) (v := .pointer (some ⟨lb, 0, none⟩)) rfl (by kernel_rfl) (by kernel_rfl) (by kernel_rfl) (fun _ _ _ h => h) (by kernel_rfl) (Or.inl ⟨rfl, fun w h => by kernel_rfl⟩) (F2.out) ?_
    simp only [Act.put, List.setIfInBounds_toArray, List.set_cons_zero, List.set_cons_succ]
    refine wpAnyT_take (i := 8) (oi := ⟨some 15, _, _, _, _, _⟩) (v := .pointer (some ⟨lb, 0, none⟩)) rfl (by kernel_rfl) (by kernel_rfl) (by kernel_rfl) (fun _ _ _ h => h) (by kernel_rfl) (Or.inl ⟨rfl, fun w h => by kernel_rfl⟩) (F2.out) ?_
    simp only [Act.put, List.setIfInBounds_toArray, List.set_cons_zero, List.set_cons_succ]
    refine wpAnyT_take (i := 9) (oi := ⟨some 16, _, _, _, _, _⟩) (v := .pointer (some ⟨lb, 2, none⟩)) rfl (by kernel_rfl) (by kernel_rfl) (by kernel_rfl) (fun _ _ _ h => h) (by kernel_rfl) (Or.inl ⟨rfl, fun w h => by kernel_rfl⟩) (F2.out) ?_
    simp only [Act.put, List.setIfInBounds_toArray, List.set_cons_zero, List.set_cons_succ]
    refine wpAnyT_take (i := 10) (oi := ⟨some 17, _, _, _, _, _⟩) (v := .int .i64 (rm : Int)) rfl (by kernel_rfl) (by kernel_rfl) (by kernel_rfl) (fun _ _ _ h => h) (by kernel_rfl) (Or.inl ⟨rfl, fun w h => run_load_one _ _ _ 3 _ _ rfl (lb) (2) rfl (h.2.2) (by kernel_rfl)⟩) (F2.out) ?_
    simp only [Act.put, List.setIfInBounds_toArray, List.set_cons_zero, List.set_cons_succ]
    refine wpAnyT_take (i := 11) (oi := ⟨some 18, _, _, _, _, _⟩) (v := .int .i64 ((rm * 64 : Nat) : Int)) rfl (by kernel_rfl) (by kernel_rfl) (by kernel_rfl) (fun _ _ _ h => h) (by kernel_rfl) (Or.inl ⟨rfl, fun w h => run_muli Try.underlying3 rfl rfl rfl _ (by have := H.out.2.2.2.2.2; rw [wrap_in _ (by omega) (by omega)]; omega)⟩) (F2.out) ?_
    simp only [Act.put, List.setIfInBounds_toArray, List.set_cons_zero, List.set_cons_succ]
    refine wpAnyT_take (i := 12) (oi := ⟨some 19, _, _, _, _, _⟩) (v := .int .u64 ((rm * 64 : Nat) : Int)) rfl (by kernel_rfl) (by kernel_rfl) (by kernel_rfl) (fun _ _ _ h => h) (by kernel_rfl) (Or.inl ⟨rfl, fun w h => run_convi Try.underlying3 Try.underlying35 rfl rfl _ (by have := H.out.2.2.2.2.2; rw [IntKind.wrap_u64]; omega)⟩) (F2.out) ?_
    simp only [Act.put, List.setIfInBounds_toArray, List.set_cons_zero, List.set_cons_succ]
    refine wpAnyT_take (i := 13) (oi := ⟨some 20, _, _, _, _, _⟩) (v := .bool (decide (c1 ≤ rm * 64))) rfl (by kernel_rfl) (by kernel_rfl) (by kernel_rfl) (fun _ _ _ h => h) (by kernel_rfl) (Or.inl ⟨rfl, fun w h => run_lei Try.underlying35 rfl rfl rfl (by simp only [Int.ofNat_le])⟩) (F2.out) ?_
    simp only [Act.put, List.setIfInBounds_toArray, List.set_cons_zero, List.set_cons_succ]
    refine wpAnyT_take (i := 14) (oi := ⟨some 21, _, _, _, _, _⟩) (v := .bool (decide (c1 ≤ rm * 64))) rfl (by kernel_rfl) (by kernel_rfl) (by kernel_rfl) (fun _ _ _ h => h) (by kernel_rfl) (Or.inl ⟨rfl, fun w h => by kernel_rfl⟩) (F2.out) ?_
    simp only [Act.put, List.setIfInBounds_toArray, List.set_cons_zero, List.set_cons_succ]
    refine wpAnyT_take (i := 15) (oi := ⟨some 6, _, _, _, _, _⟩) (v := .bool (decide (c1 ≤ rm * 64))) rfl (by kernel_rfl) (by kernel_rfl) (by kernel_rfl) (fun _ _ _ h => h) (by kernel_rfl) (Or.inl ⟨rfl, fun w h => by kernel_rfl⟩) (F2.out) ?_
    simp only [Act.put, List.setIfInBounds_toArray, List.set_cons_zero, List.set_cons_succ]
    refine wpAnyT_done (by kernel_rfl) ?_ _
    go_wp2_with fail
    go_ret
    exact ⟨by rw [fitB, decide_eq_true HP.out, Bool.true_and]; rfl, F2.out.1⟩
  · have HP := Lib.hid hp
    clear hp
    go_upto_region 1 with (fail)
    refine region_anyT (fun X => Below w.heap.size w X ∧ Blk X g4 64 (hdV s1 c1 nt1).toArray ∧ X.cell? ⟨lb, 2, none⟩ = some (.int .i64 (rm : Int))) (by kernel_rfl) 16 16 rfl ?_
    refine wpAnyT_take (i := 0) (oi := ⟨some 7, _, _, _, _, _⟩) (v := .agg (hdV s1 c1 nt1).toArray) rfl (by kernel_rfl) (by kernel_rfl) (by kernel_rfl) (fun _ _ _ h => h) (by kernel_rfl) (Or.inl ⟨rfl, fun w h => run_load_mid _ _ _ 64 _ rfl g4 0 rfl (hdV s1 c1 nt1) _ (blk_range' h.2.1) Try.underlying64 rfl (by simp only [List.size_toArray, hd_len HN1.out.1]; kernel_rfl)⟩) (⟨F1.out.1.drew, F1.out.2.1, F1.out.2.2.c2⟩) ?_
    simp only [Act.put, List.setIfInBounds_toArray, List.set_cons_zero, List.set_cons_succ]
    refine wpAnyT_take (i := 2) (oi := ⟨some 9, _, _, _, _, _⟩) (v := .int .i64 ((pl : Nat) : Int)) rfl (by kernel_rfl) (by kernel_rfl) (by kernel_rfl) (fun _ _ _ h => h) (by kernel_rfl) (Or.inl ⟨rfl, fun w h => by kernel_rfl⟩) (⟨F1.out.1.drew, F1.out.2.1, F1.out.2.2.c2⟩) ?_
    simp only [Act.put, List.setIfInBounds_toArray, List.set_cons_zero, List.set_cons_succ]
    refine wpAnyT_one (i := 1) (by kernel_rfl) ?_
    refine op_call (o := ⟨some 8, _, _, _, _, _⟩) 45 #[.agg (hdV s1 c1 nt1).toArray] rfl rfl (by kernel_rfl) ((place_any _ s1 c1 nt1 HN1.out.2.1).mono fun e X h => ⟨.int .i64 ((s1 % 2 : Nat) : Int), h.1, ?_, ?_⟩)
    · exact fun _ => ⟨F1.out.1.drew.trans (h.2.mono F1.out.1.drew.size), F1.out.2.1.below (show Below W1.heap.size W1 X from (Below.refl _ W1).drew.trans h.2), (F1.out.2.2.below (show Below W1.heap.size W1 X from (Below.refl _ W1).drew.trans h.2)).c2⟩
    simp only [Act.put, List.setIfInBounds_toArray, List.set_cons_zero, List.set_cons_succ]
    obtain ⟨-, hX⟩ := h
    have F2 : Hid (Below w.heap.size w X ∧ Blk X g4 64 (hdV s1 c1 nt1).toArray ∧ X.cell? ⟨lb, 2, none⟩ = some (.int .i64 (rm : Int))) := Lib.hid ⟨F1.out.1.drew.trans (hX.mono F1.out.1.drew.size), F1.out.2.1.below (show Below W1.heap.size W1 X from (Below.refl _ W1).drew.trans hX), (F1.out.2.2.below (show Below W1.heap.size W1 X from (Below.refl _ W1).drew.trans hX)).c2⟩
    clear hX
    refine wpAnyT_take (i := 3) (oi := ⟨some 10, _, _, _, _, _⟩) (v := .bool false) rfl (by kernel_rfl) (by kernel_rfl) (by kernel_rfl) (fun _ _ _ h => h) (by kernel_rfl) (Or.inl ⟨rfl, fun w h => run_eqi Try.underlying3 rfl rfl rfl (by have := HP.out; rw [decide_eq_false_iff_not]; omega)⟩) (F2.out) ?_
    simp only [Act.put, List.setIfInBounds_toArray, List.set_cons_zero, List.set_cons_succ]
    refine wpAnyT_take (i := 4) (oi := ⟨some 11, _, _, _, _, _⟩) (v := .bool false) rfl (by kernel_rfl) (by kernel_rfl) (by kernel_rfl) (fun _ _ _ h => h) (by kernel_rfl) (Or.inl ⟨rfl, fun w h => by kernel_rfl⟩) (F2.out) ?_
    simp only [Act.put, List.setIfInBounds_toArray, List.set_cons_zero, List.set_cons_succ]
    refine wpAnyT_take (i := 5) (oi := ⟨some 12, _, _, _, _, _⟩) (v := undef) rfl (by kernel_rfl) (by kernel_rfl) (by kernel_rfl) (fun _ _ _ h => h) (by kernel_rfl) (Or.inr ⟨rfl, rfl⟩) (F2.out) ?_
    simp only [Act.put, List.setIfInBounds_toArray, List.set_cons_zero, List.set_cons_succ]
    refine wpAnyT_take (i := 6) (oi := ⟨some 13, _, _, _, _, _⟩) (v := undef) rfl (by kernel_rfl) (by kernel_rfl) (by kernel_rfl) (fun _ _ _ h => h) (by kernel_rfl) (Or.inr ⟨rfl, rfl⟩) (F2.out) ?_
    simp only [Act.put, List.setIfInBounds_toArray, List.set_cons_zero, List.set_cons_succ]
    refine wpAnyT_take (i := 7) (oi := ⟨some 14, _, _, _, _, _⟩) (v := undef) rfl (by kernel_rfl) (by kernel_rfl) (by kernel_rfl) (fun _ _ _ h => h) (by kernel_rfl) (Or.inr ⟨rfl, rfl⟩) (F2.out) ?_
    simp only [Act.put, List.setIfInBounds_toArray, List.set_cons_zero, List.set_cons_succ]
    refine wpAnyT_take (i := 8) (oi := ⟨some 15, _, _, _, _, _⟩) (v := undef) rfl (by kernel_rfl) (by kernel_rfl) (by kernel_rfl) (fun _ _ _ h => h) (by kernel_rfl) (Or.inr ⟨rfl, rfl⟩) (F2.out) ?_
    simp only [Act.put, List.setIfInBounds_toArray, List.set_cons_zero, List.set_cons_succ]
    refine wpAnyT_take (i := 9) (oi := ⟨some 16, _, _, _, _, _⟩) (v := undef) rfl (by kernel_rfl) (by kernel_rfl) (by kernel_rfl) (fun _ _ _ h => h) (by kernel_rfl) (Or.inr ⟨rfl, rfl⟩) (F2.out) ?_
    simp only [Act.put, List.setIfInBounds_toArray, List.set_cons_zero, List.set_cons_succ]
    refine wpAnyT_take (i := 10) (oi := ⟨some 17, _, _, _, _, _⟩) (v := undef) rfl (by kernel_rfl) (by kernel_rfl) (by kernel_rfl) (fun _ _ _ h => h) (by kernel_rfl) (Or.inr ⟨rfl, rfl⟩) (F2.out) ?_
    simp only [Act.put, List.setIfInBounds_toArray, List.set_cons_zero, List.set_cons_succ]
    refine wpAnyT_take (i := 11) (oi := ⟨some 18, _, _, _, _, _⟩) (v := undef) rfl (by kernel_rfl) (by kernel_rfl) (by kernel_rfl) (fun _ _ _ h => h) (by kernel_rfl) (Or.inr ⟨rfl, rfl⟩) (F2.out) ?_
    simp only [Act.put, List.setIfInBounds_toArray, List.set_cons_zero, List.set_cons_succ]
    refine wpAnyT_take (i := 12) (oi := ⟨some 19, _, _, _, _, _⟩) (v := undef) rfl (by kernel_rfl) (by kernel_rfl) (by kernel_rfl) (fun _ _ _ h => h) (by kernel_rfl) (Or.inr ⟨rfl, rfl⟩) (F2.out) ?_
    simp only [Act.put, List.setIfInBounds_toArray, List.set_cons_zero, List.set_cons_succ]
    refine wpAnyT_take (i := 13) (oi := ⟨some 20, _, _, _, _, _⟩) (v := undef) rfl (by kernel_rfl) (by kernel_rfl) (by kernel_rfl) (fun _ _ _ h => h) (by kernel_rfl) (Or.inr ⟨rfl, rfl⟩) (F2.out) ?_
    simp only [Act.put, List.setIfInBounds_toArray, List.set_cons_zero, List.set_cons_succ]
    refine wpAnyT_take (i := 14) (oi := ⟨some 21, _, _, _, _, _⟩) (v := .bool false) rfl (by kernel_rfl) (by kernel_rfl) (by kernel_rfl) (fun _ _ _ h => h) (by kernel_rfl) (Or.inl ⟨rfl, fun w h => by kernel_rfl⟩) (F2.out) ?_
    simp only [Act.put, List.setIfInBounds_toArray, List.set_cons_zero, List.set_cons_succ]
    refine wpAnyT_take (i := 15) (oi := ⟨some 6, _, _, _, _, _⟩) (v := .bool false) rfl (by kernel_rfl) (by kernel_rfl) (by kernel_rfl) (fun _ _ _ h => h) (by kernel_rfl) (Or.inl ⟨rfl, fun w h => by kernel_rfl⟩) (F2.out) ?_
    simp only [Act.put, List.setIfInBounds_toArray, List.set_cons_zero, List.set_cons_succ]
    refine wpAnyT_done (by kernel_rfl) ?_ _
    go_wp2_with fail
    go_ret
    exact ⟨by rw [fitB, decide_eq_false HP.out, Bool.false_and]; rfl, F2.out.1⟩
end Go.Proofs.Yteabblmhcjpboaa.D
