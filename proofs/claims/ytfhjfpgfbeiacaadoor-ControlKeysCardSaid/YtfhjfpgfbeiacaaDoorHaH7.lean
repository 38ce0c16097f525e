import Derived.Test.YtfhjfpgfbeiacaaDoorHaH6
import Derived.Lib.SmallJoins
namespace Go.Proofs.YtfhjfpgfbeiacaaDoor.Ha
open Go Go.RowKit
set_option maxRecDepth 100000

theorem Sl.below {w w' : World} {a : Option Addr} {n c : Nat} {xs : List Int} (h : Sl w a n c xs) (hb : Below w.heap.size w w') : Sl w' a n c xs := ⟨h.1.keep hb, h.2⟩
theorem PSl.below {w w' : World} {a : Option Addr} {ln : Nat} {L : List (List Int)} (h : PSl w a ln L) (hb : Below w.heap.size w w') : PSl w' a ln L :=
  ⟨h.1, h.2.1, fun k hk => by
    obtain ⟨g, o, a', n', c', h1, h2, h3, h4⟩ := h.2.2 k hk
    exact ⟨g, o, a', n', c', h1, (hb.cell (p := ⟨g, o + k, none⟩) (World.block_lt_of_cell? w _ h2)).trans h2, h3.below hb, h4⟩⟩
theorem psl_one {w : World} {g : Nat} {a : Option Addr} {n c : Nat} {xs : List Int} (h : Blk w g 32 #[.slice a n c]) (hs : Sl w a n c xs) (hn : n ≤ 4611686018427387904) : PSl w (some ⟨g, 0, none⟩) 1 [xs] :=
  ⟨rfl, by unfold maxLen; omega, fun k hk => by
    obtain rfl : k = 0 := by omega
    exact ⟨g, 0, a, n, c, rfl, by rw [h.cell]; rfl, hs, hn⟩⟩
theorem sl_abc (w : World) : Sl (w.alloc (.cells #[.int .u8 97, .int .u8 98, .int .u8 99] 5 (3, 4))) (some ⟨w.heap.size, 0, none⟩) 3 3 [97, 98, 99] := by
  refine ⟨⟨rfl, by unfold maxLen; omega, by simp, fun j hj => ⟨_, _, rfl, ?_⟩⟩, by omega, by omega, fun _ p hp => by cases hp; rfl⟩
  rw [cell_of_row _ _ _ _ _ _ (heap_alloc_new w _)]
  have : j = 0 ∨ j = 1 ∨ j = 2 := by omega
  rcases this with rfl | rfl | rfl <;> rfl
theorem run_conv_abc (a : Act) (o : Oper) (w w1 w2 : World) (x : Operand) (ho : o.op = .convert 32 32 x) (hx : a.eval x = .slice (some ⟨w.heap.size, 0, none⟩) 3 3) (h1 : w1 = w.alloc (.cells #[.int .u8 97, .int .u8 98, .int .u8 99] 5)) (h2 : w2 = w.alloc (.cells #[.int .u8 97, .int .u8 98, .int .u8 99] 5 (3, 4))) :
    (execOp a.eval o).run Tryd.prog w1 = .ok (.value (.slice (some ⟨w.heap.size, 0, none⟩) 3 3)) w2 := by
  have h := Go.Joins.run_convert_bytes_const_at (P := Tryd.prog) w 32 5 #[.int .u8 97, .int .u8 98, .int .u8 99] 3 3 w.heap.size rfl Tryd.underlying32 Tryd.underlying5
  rw [← h1] at h
  unfold execOp
  simp only [ho, hx, Sem.run_bind, h, Result.andThen_ok, Sem.run_pure]
  rw [h2]
  rfl
theorem u8_cell {t : List Int} (h : ∀ x ∈ t, 0 ≤ x ∧ x ≤ 255) {j : Nat} (hj : j < t.length) : (u8l t).toArray[j]? = some (.int .u8 (byte t j : Nat)) := by
  rw [List.getElem?_toArray]
  unfold u8l byte
  rw [List.getElem?_map, List.getElem?_eq_getElem hj, List.getD, List.getElem?_eq_getElem hj]
  have := h _ (List.getElem_mem hj)
  simp
  omega
theorem cell_sha {w : World} {g j v : Nat} {t : List Int} (h : Blk w g 23 (u8l (shaS t)).toArray) (hj : j < 32) (hv : byte (shaS t) j = v) : w.cell? ⟨g, j, none⟩ = some (.int .u8 (v : Nat)) := by
  rw [h.cell, u8_cell (shaS_byte t) (by rw [shaS_len]; exact hj), hv]
attribute [local irreducible] wpList
set_option maxHeartbeats 4000000 in
set_option maxRecDepth 100000 in
theorem begin_any (w : World) (hH : TabH w) : Calls Tryd.prog 48 #[] w fun e w' => e = .returned (.agg (digL hh0 (List.replicate 64 0) 0 0).toArray) ∧ Below w.heap.size w w' := by
  go_enter Tryd.func48, Tryd.ntmps48
  obtain ⟨w1, hw1⟩ : ∃ V, V = w.alloc (.cells (digL (List.replicate 8 0) (List.replicate 64 0) 0 0).toArray 97) := ⟨_, rfl⟩
  have B1 : Hid (Blk w1 w.heap.size 97 (digL (List.replicate 8 0) (List.replicate 64 0) 0 0).toArray ∧ Below w.heap.size w w1 ∧ TabH w1) := Lib.hid (by rw [hw1]; exact ⟨Blk.new _ _ _, (Below.refl _ _).alloc (Nat.le_refl _) _, hH.below ((Below.refl _ _).alloc (Nat.le_refl _) _)⟩)
  go_upto_region 0 with (fail)
  refine wp_region_lit ?_
  refine wpL_value (.pointer (some ⟨w.heap.size, 0, none⟩)) (w1) rfl (by rw [hw1]; kernel_rfl) ?_
  simp only [Act.put, List.setIfInBounds_toArray, List.set_cons_zero, List.set_cons_succ]
  clear hw1
  obtain ⟨g0, hg0⟩ : ∃ q, w.heap.size = q := ⟨_, rfl⟩
  have G0 : Hid (w.heap.size = g0) := Lib.hid hg0
  rw [hg0] at B1
  try rw [hg0]
  clear hg0
  go_upto_region 1 with (fail)
  refine wp_region_lit ?_
  refine wpL_load 95 _ rfl rfl 0 0 rfl (u32l hh0) _ B1.out.2.2.range Tryd.underlying95 rfl (by kernel_rfl) ?_
  simp only [Act.put, List.setIfInBounds_toArray, List.set_cons_zero, List.set_cons_succ]
  refine wpL_pure (.agg (digL hh0 (List.replicate 64 0) 0 0).toArray) rfl (by kernel_rfl) ?_
  simp only [Act.put, List.setIfInBounds_toArray, List.set_cons_zero, List.set_cons_succ]
  refine wpList_store_rowTo rfl 97 _ _ rfl rfl g0 (digL hh0 (List.replicate 64 0) 0 0).toArray rfl rfl 97 _ B1.out.1 (by kernel_rfl) (by kernel_rfl) (by kernel_rfl) ?_
  go_wp2_with fail
  refine bodyPost_ret (results_cell_row rfl _ _ g0 97 _ (0, 0) _ rfl (setRow_heap _ _ _ _ _ _ B1.out.1) Tryd.underlying97 rfl (by kernel_rfl)) rfl ?_
  exact ⟨rfl, by rw [G0.out]; exact below_setRow B1.out.2.1 (Nat.le_refl _) _⟩
set_option maxHeartbeats 4000000 in
set_option maxRecDepth 100000 in
/-- hash.Sum. -/
theorem sum_any (w : World) (a : Option Addr) (ln lc : Nat) (L : List (List Int)) (h : PSl w a ln L) (hln : ln ≤ 4611686018427387904) (hT : TabK w) (hH : TabH w) :
    Calls Tryd.prog 47 #[.slice a ln lc] w fun e w' => e = .returned (.agg (u8l (shaS L.flatten)).toArray) ∧ Below w.heap.size w w' := by
  have HS := Lib.hid h
  have HLN := Lib.hid hln
  have HT := Lib.hid hT
  have HH := Lib.hid hH
  clear h hln hT hH
  go_enter Tryd.func47, Tryd.ntmps47
  go_upto_region 1 with (fail)
  obtain ⟨w1, hw1⟩ : ∃ V, V = w.alloc (.cells (u8l (List.replicate 32 0)).toArray 23) := ⟨_, rfl⟩
  have B1 : Hid (Blk w1 w.heap.size 23 (u8l (List.replicate 32 0)).toArray ∧ Below w.heap.size w w1 ∧ w.heap.size < w1.heap.size) := Lib.hid (by rw [hw1]; exact ⟨Blk.new _ _ _, (Below.refl _ _).alloc (Nat.le_refl _) _, by simp⟩)
  try rw [show w.alloc (.cells #[.int .u8 0, .int .u8 0, .int .u8 0, .int .u8 0, .int .u8 0, .int .u8 0, .int .u8 0, .int .u8 0, .int .u8 0, .int .u8 0, .int .u8 0, .int .u8 0, .int .u8 0, .int .u8 0, .int .u8 0, .int .u8 0, .int .u8 0, .int .u8 0, .int .u8 0, .int .u8 0, .int .u8 0, .int .u8 0, .int .u8 0, .int .u8 0, .int .u8 0, .int .u8 0, .int .u8 0, .int .u8 0, .int .u8 0, .int .u8 0, .int .u8 0, .int .u8 0] 23) = w1 from hw1.symm]
  clear hw1
  obtain ⟨g2, hg2⟩ : ∃ q, w.heap.size = q := ⟨_, rfl⟩
  have G2 : Hid (w.heap.size = g2) := Lib.hid hg2
  rw [hg2] at B1
  try rw [hg2]
  clear hg2
  refine wp_region_lit ?_
  refine wpL_call 48 #[] rfl (by kernel_rfl) (((begin_any w1 (HH.out.below (by rw [G2.out]; exact B1.out.2.1)))).mono fun e w2 ⟨he, hb⟩ => ⟨.agg (digL hh0 (List.replicate 64 0) 0 0).toArray, he, ?_⟩)
  simp only [Act.put, List.setIfInBounds_toArray, List.set_cons_zero, List.set_cons_succ]
  obtain ⟨w3, hw3⟩ : ∃ V, V = (w2.alloc (.cells (digL (List.replicate 8 0) (List.replicate 64 0) 0 0).toArray 97)).setRow w2.heap.size (digL hh0 (List.replicate 64 0) 0 0).toArray := ⟨_, rfl⟩
  have B3 : Hid (Dig w3 w2.heap.size [] ∧ Blk w3 g2 23 (u8l (List.replicate 32 0)).toArray ∧ Below g2 w w3 ∧ g2 < w2.heap.size) := Lib.hid (qq (show Below w2.heap.size w2 w3 by rw [hw3]; exact below_setRow ((Below.refl _ _).alloc (Nat.le_refl _) _) (Nat.le_refl _) _) fun q => ⟨⟨List.replicate 64 0, ⟨by rw [hw3]; exact setRow_heap _ _ _ _ _ _ (Blk.new w2 97 _), h0_ok, by simp, by simp⟩, rfl, by simp⟩, (B1.out.1.below hb).below q, B1.out.2.1.trans ((hb.mono (by have := B1.out.2.2; omega)).trans (q.mono (by have := B1.out.2.2; have := hb.size; omega))), by have := B1.out.2.2; have := hb.size; omega⟩)
  refine wpL_value (.pointer (some ⟨w2.heap.size, 0, none⟩)) (w2.alloc (.cells (digL (List.replicate 8 0) (List.replicate 64 0) 0 0).toArray 97)) rfl (by kernel_rfl) ?_
  simp only [Act.put, List.setIfInBounds_toArray, List.set_cons_zero, List.set_cons_succ]
  refine wpList_store_rowTo rfl 97 _ _ rfl rfl w2.heap.size (digL hh0 (List.replicate 64 0) 0 0).toArray rfl rfl 97 _ (Blk.new w2 97 _) (by kernel_rfl) (by kernel_rfl) (by kernel_rfl) ?_
  rw [← hw3]
  clear hw3 hb B1
  generalize w2.heap.size = gd at B3 ⊢
  go_upto_region 2 with (fail)
  refine wp_region_lit ?_
  refine wpL_pure (.slice a ln lc) rfl (by kernel_rfl) ?_
  simp only [Act.put, List.setIfInBounds_toArray, List.set_cons_zero, List.set_cons_succ]
  refine wpL_call 49 #[.pointer (some ⟨gd, 0, none⟩), .slice a ln lc] rfl (by kernel_rfl) (((write_any w3 gd [] a ln lc L B3.out.1 (fun X hX => HS.out.below (by rw [G2.out]; exact B3.out.2.2.1.trans (gb_below hX (by have := B3.out.2.2.2; omega) (by have := B3.out.2.1.lt; omega)))) (fun h0 p hp => by obtain ⟨g, o, _, _, _, e, hc, _⟩ := HS.out.2.2 0 h0; rw [hp] at e; cases e; have h1 := World.block_lt_of_cell? w _ hc; have := B3.out.2.2.2; have := G2.out; simp at h1; show g ≠ gd; omega) HLN.out (HT.out.below (by rw [G2.out]; exact B3.out.2.2.1)) (by have := HT.out.lt; have := G2.out; have := B3.out.2.2.2; omega))).mono fun e w4 ⟨he, q1, q2⟩ => ⟨.tuple #[], he, ?_⟩)
  simp only [Act.put, List.setIfInBounds_toArray, List.set_cons_zero, List.set_cons_succ]
  have B4 : Hid (Dig w4 gd L.flatten ∧ Blk w4 g2 23 (u8l (List.replicate 32 0)).toArray ∧ Below g2 w w4) := Lib.hid ⟨by simpa using q1, B3.out.2.1.grown q2 (by have := B3.out.2.2.2; simp; omega), B3.out.2.2.1.trans (gb_below q2 (by have := B3.out.2.2.2; omega) (by have := B3.out.2.1.lt; omega))⟩
  clear q1 q2
  go_upto_region 3 with (fail)
  refine wp_region_lit ?_
  refine wpL_call 50 #[.pointer (some ⟨gd, 0, none⟩)] rfl (by kernel_rfl) (((dend_any w4 gd L.flatten B4.out.1 (HT.out.below (by rw [G2.out]; exact B4.out.2.2)) (by have := HT.out.lt; have := G2.out; have := B3.out.2.2.2; omega))).mono fun e w5 ⟨he, q2⟩ => ⟨.agg (u8l (shaS L.flatten)).toArray, he, ?_⟩)
  simp only [Act.put, List.setIfInBounds_toArray, List.set_cons_zero, List.set_cons_succ]
  have B5 : Hid (Blk w5 g2 23 (u8l (List.replicate 32 0)).toArray ∧ Below g2 w w5) := Lib.hid ⟨B4.out.2.1.grown q2 (by have := B3.out.2.2.2; simp; omega), B4.out.2.2.trans (gb_below q2 (by have := B3.out.2.2.2; omega) (by have := B4.out.2.1.lt; omega))⟩
  clear q2
  refine wpList_store_rowTo rfl 23 _ _ rfl rfl g2 (u8l (shaS L.flatten)).toArray rfl rfl 23 _ B5.out.1 (by simp only [List.size_toArray, u8l_len, shaS_len]; kernel_rfl) (by simp [u8l_len, shaS_len]) (u8l_one _) ?_
  go_wp2_with fail
  refine bodyPost_ret (results_cell_row rfl _ _ g2 23 _ (0, 0) _ rfl (setRow_heap _ _ _ _ _ _ B5.out.1) Tryd.underlying23 rfl (by simp only [List.size_toArray, u8l_len, shaS_len]; kernel_rfl)) rfl ?_
  exact ⟨rfl, by rw [G2.out]; exact below_setRow B5.out.2 (Nat.le_refl _) _⟩
end Go.Proofs.YtfhjfpgfbeiacaaDoor.Ha
