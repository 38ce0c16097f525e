import Derived.Test.YtggbmajajpafnaaDoorH6
import Derived.Lib.SmallJoins
namespace Go.Proofs.YtggbmajajpafnaaDoor
open Go Go.RowKit

theorem Sl.below {w w' : World} {a : Option Addr} {n c : Nat} {xs : List Int} (h : Sl w a n c xs) (hb : Below w.heap.size w w') : Sl w' a n c xs := ⟨h.1.keep hb, h.2⟩
theorem PSl.below {w w' : World} {a : Option Addr} {ln : Nat} {L : List (List Int)} (h : PSl w a ln L) (hb : Below w.heap.size w w') : PSl w' a ln L :=
  ⟨h.1, h.2.1, fun k hk => by
    obtain ⟨g, o, a', n', c', h1, h2, h3, h4⟩ := h.2.2 k hk
    exact ⟨g, o, a', n', c', h1, (hb.cell (p := ⟨g, o + k, none⟩) (World.block_lt_of_cell? w _ h2)).trans h2, h3.below hb, h4⟩⟩
theorem psl_one {w : World} {g : Nat} {a : Option Addr} {n c : Nat} {xs : List Int} (h : Blk w g 22 #[.slice a n c]) (hs : Sl w a n c xs) (hn : n ≤ 4611686018427387904) : PSl w (some ⟨g, 0, none⟩) 1 [xs] :=
  ⟨rfl, by unfold maxLen; omega, fun k hk => by
    obtain rfl : k = 0 := by omega
    exact ⟨g, 0, a, n, c, rfl, by rw [h.cell]; rfl, hs, hn⟩⟩
theorem sl_abc (w : World) : Sl (w.alloc (.cells #[.int .u8 97, .int .u8 98, .int .u8 99] 5 (3, 4))) (some ⟨w.heap.size, 0, none⟩) 3 3 [97, 98, 99] := by
  refine ⟨⟨rfl, by unfold maxLen; omega, by simp, fun j hj => ⟨_, _, rfl, ?_⟩⟩, by omega, by omega, fun _ p hp => by cases hp; rfl⟩
  rw [cell_of_row _ _ _ _ _ _ (heap_alloc_new w _)]
  have : j = 0 ∨ j = 1 ∨ j = 2 := by omega
  rcases this with rfl | rfl | rfl <;> rfl
theorem run_conv_abc (a : Act) (o : Oper) (w w1 w2 : World) (x : Operand) (ho : o.op = .convert 22 22 x) (hx : a.eval x = .slice (some ⟨w.heap.size, 0, none⟩) 3 3) (h1 : w1 = w.alloc (.cells #[.int .u8 97, .int .u8 98, .int .u8 99] 5)) (h2 : w2 = w.alloc (.cells #[.int .u8 97, .int .u8 98, .int .u8 99] 5 (3, 4))) :
    (execOp a.eval o).run Tryd.prog w1 = .ok (.value (.slice (some ⟨w.heap.size, 0, none⟩) 3 3)) w2 := by
  have h := Go.Joins.run_convert_bytes_const_at (P := Tryd.prog) w 22 5 #[.int .u8 97, .int .u8 98, .int .u8 99] 3 3 w.heap.size rfl Tryd.underlying22 Tryd.underlying5
  rw [← h1] at h
  unfold execOp
  simp only [ho, hx, Sem.run_bind, h, Result.andThen_ok, Sem.run_pure]
  rw [h2]
  rfl
theorem u8_cell {t : List Int} (h : ∀ x ∈ t, 0 ≤ x ∧ x ≤ 255) {j : Nat} (hj : j < t.length) : (u8l t).toArray[j]? = some (.int .u8 (byte t j : Nat)) := by
  rw [List.getElem?_toArray]
  unfold u8l byte
  rw [List.getElem?_map, List.getElem?_eq_getElem hj, List.getD, List.getElem?_eq_getElem hj]
  have := h _ (List.getElem_mem hj)
  simp
  omega
theorem cell_sha {w : World} {g j v : Nat} {t : List Int} (h : Blk w g 26 (u8l (shaS t)).toArray) (hj : j < 32) (hv : byte (shaS t) j = v) : w.cell? ⟨g, j, none⟩ = some (.int .u8 (v : Nat)) := by
  rw [h.cell, u8_cell (shaS_byte t) (by rw [shaS_len]; exact hj), hv]
attribute [local irreducible] wpList
set_option maxHeartbeats 4000000 in
set_option maxRecDepth 100000 in
theorem begin_any (w : World) (hH : TabH w) : Calls Tryd.prog 22 #[] w fun e w' => e = .returned (.agg (digL hh0 (List.replicate 64 0) 0 0).toArray) ∧ Below w.heap.size w w' := by
  go_enter Tryd.func22, Tryd.ntmps22
  obtain ⟨w1, hw1⟩ : ∃ V, V = w.alloc (.cells (digL (List.replicate 8 0) (List.replicate 64 0) 0 0).toArray 54) := ⟨_, rfl⟩
  have B1 : Hid (Blk w1 w.heap.size 54 (digL (List.replicate 8 0) (List.replicate 64 0) 0 0).toArray ∧ Below w.heap.size w w1 ∧ TabH w1) := Lib.hid (by rw [hw1]; exact ⟨Blk.new _ _ _, (Below.refl _ _).alloc (Nat.le_refl _) _, hH.below ((Below.refl _ _).alloc (Nat.le_refl _) _)⟩)
  go_upto_region 0 with (fail)
  refine wp_region_lit ?_
  refine wpL_value (.pointer (some ⟨w.heap.size, 0, none⟩)) (w1) rfl (by rw [hw1]; kernel_rfl) ?_
  simp only [Act.put, List.setIfInBounds_toArray, List.set_cons_zero, List.set_cons_succ]
  clear hw1
  obtain ⟨g0, hg0⟩ : ∃ q, w.heap.size = q := ⟨_, rfl⟩
  have G0 : Hid (w.heap.size = g0) := Lib.hid hg0
  rw [hg0] at B1
  try rw [hg0]
  clear hg0
  go_upto_region 1 with (fail)
  refine wp_region_lit ?_
  refine wpL_load 49 _ rfl rfl 1 0 rfl (u32l hh0) _ B1.out.2.2.range Tryd.underlying49 rfl (by kernel_rfl) ?_
  simp only [Act.put, List.setIfInBounds_toArray, List.set_cons_zero, List.set_cons_succ]
  refine wpL_pure (.agg (digL hh0 (List.replicate 64 0) 0 0).toArray) rfl (by kernel_rfl) ?_
  simp only [Act.put, List.setIfInBounds_toArray, List.set_cons_zero, List.set_cons_succ]
  refine wpList_store_rowTo rfl 54 _ _ rfl rfl g0 (digL hh0 (List.replicate 64 0) 0 0).toArray rfl rfl 54 _ B1.out.1 (by kernel_rfl) (by kernel_rfl) (by kernel_rfl) ?_
  go_wp2_with fail
  refine bodyPost_ret (results_cell_row rfl _ _ g0 54 _ (0, 0) _ rfl (setRow_heap _ _ _ _ _ _ B1.out.1) Tryd.underlying54 rfl (by kernel_rfl)) rfl ?_
  exact ⟨rfl, by rw [G0.out]; exact below_setRow B1.out.2.1 (Nat.le_refl _) _⟩
set_option maxHeartbeats 4000000 in
set_option maxRecDepth 100000 in
/-- hash.Sum. -/
theorem sum_any (w : World) (a : Option Addr) (ln lc : Nat) (L : List (List Int)) (h : PSl w a ln L) (hln : ln ≤ 4611686018427387904) (hT : TabK w) (hH : TabH w) :
    Calls Tryd.prog 15 #[.slice a ln lc] w fun e w' => e = .returned (.agg (u8l (shaS L.flatten)).toArray) ∧ Below w.heap.size w w' := by
  have HS := Lib.hid h
  have HLN := Lib.hid hln
  have HT := Lib.hid hT
  have HH := Lib.hid hH
  clear h hln hT hH
  go_enter Tryd.func15, Tryd.ntmps15
  go_upto_region 1 with (fail)
  obtain ⟨w1, hw1⟩ : ∃ V, V = w.alloc (.cells (u8l (List.replicate 32 0)).toArray 26) := ⟨_, rfl⟩
  have B1 : Hid (Blk w1 w.heap.size 26 (u8l (List.replicate 32 0)).toArray ∧ Below w.heap.size w w1 ∧ w.heap.size < w1.heap.size) := Lib.hid (by rw [hw1]; exact ⟨Blk.new _ _ _, (Below.refl _ _).alloc (Nat.le_refl _) _, by simp⟩)
  try rw [show w.alloc (.cells #[.int .u8 0, .int .u8 0, .int .u8 0, .int .u8 0, .int .u8 0, .int .u8 0, .int .u8 0, .int .u8 0, .int .u8 0, .int .u8 0, .int .u8 0, .int .u8 0, .int .u8 0, .int .u8 0, .int .u8 0, .int .u8 0, .int .u8 0, .int .u8 0, .int .u8 0, .int .u8 0, .int .u8 0, .int .u8 0, .int .u8 0, .int .u8 0, .int .u8 0, .int .u8 0, .int .u8 0, .int .u8 0, .int .u8 0, .int .u8 0, .int .u8 0, .int .u8 0] 26) = w1 from hw1.symm]
  clear hw1
  obtain ⟨g2, hg2⟩ : ∃ q, w.heap.size = q := ⟨_, rfl⟩
  have G2 : Hid (w.heap.size = g2) := Lib.hid hg2
  rw [hg2] at B1
  try rw [hg2]
  clear hg2
  refine wp_region_lit ?_
  refine wpL_call 22 #[] rfl (by kernel_rfl) (((begin_any w1 (HH.out.below (by rw [G2.out]; exact B1.out.2.1)))).mono fun e w2 ⟨he, hb⟩ => ⟨.agg (digL hh0 (List.replicate 64 0) 0 0).toArray, he, ?_⟩)
  simp only [Act.put, List.setIfInBounds_toArray, List.set_cons_zero, List.set_cons_succ]
  obtain ⟨w3, hw3⟩ : ∃ V, V = (w2.alloc (.cells (digL (List.replicate 8 0) (List.replicate 64 0) 0 0).toArray 54)).setRow w2.heap.size (digL hh0 (List.replicate 64 0) 0 0).toArray := ⟨_, rfl⟩
  have B3 : Hid (Dig w3 w2.heap.size [] ∧ Blk w3 g2 26 (u8l (List.replicate 32 0)).toArray ∧ Below g2 w w3 ∧ g2 < w2.heap.size) := Lib.hid (qq (show Below w2.heap.size w2 w3 by rw [hw3]; exact below_setRow ((Below.refl _ _).alloc (Nat.le_refl _) _) (Nat.le_refl _) _) fun q => ⟨⟨List.replicate 64 0, ⟨by rw [hw3]; exact setRow_heap _ _ _ _ _ _ (Blk.new w2 54 _), h0_ok, by simp, by simp⟩, rfl, by simp⟩, (B1.out.1.below hb).below q, B1.out.2.1.trans ((hb.mono (by have := B1.out.2.2; omega)).trans (q.mono (by have := B1.out.2.2; have := hb.size; omega))), by have := B1.out.2.2; have := hb.size; omega⟩)
  refine wpL_value (.pointer (some ⟨w2.heap.size, 0, none⟩)) (w2.alloc (.cells (digL (List.replicate 8 0) (List.replicate 64 0) 0 0).toArray 54)) rfl (by kernel_rfl) ?_
  simp only [Act.put, List.setIfInBounds_toArray, List.set_cons_zero, List.set_cons_succ]
  refine wpList_store_rowTo rfl 54 _ _ rfl rfl w2.heap.size (digL hh0 (List.replicate 64 0) 0 0).toArray rfl rfl 54 _ (Blk.new w2 54 _) (by kernel_rfl) (by kernel_rfl) (by kernel_rfl) ?_
  rw [← hw3]
  clear hw3 hb B1
  generalize w2.heap.size = gd at B3 ⊢
  go_upto_region 2 with (fail)
  refine wp_region_lit ?_
  refine wpL_pure (.slice a ln lc) rfl (by kernel_rfl) ?_
  simp only [Act.put, List.setIfInBounds_toArray, List.set_cons_zero, List.set_cons_succ]
  refine wpL_call 23 #[.pointer (some ⟨gd, 0, none⟩), .slice a ln lc] rfl (by kernel_rfl) (((write_any w3 gd [] a ln lc L B3.out.1 (fun X hX => HS.out.below (by rw [G2.out]; exact B3.out.2.2.1.trans (gb_below hX (by have := B3.out.2.2.2; omega) (by have := B3.out.2.1.lt; omega)))) (fun h0 p hp => by obtain ⟨g, o, _, _, _, e, hc, _⟩ := HS.out.2.2 0 h0; rw [hp] at e; cases e; have h1 := World.block_lt_of_cell? w _ hc; have := B3.out.2.2.2; have := G2.out; simp at h1; show g ≠ gd; omega) HLN.out (HT.out.below (by rw [G2.out]; exact B3.out.2.2.1)) (by have := HT.out.lt; have := G2.out; have := B3.out.2.2.2; omega))).mono fun e w4 ⟨he, q1, q2⟩ => ⟨.tuple #[], he, ?_⟩)
  simp only [Act.put, List.setIfInBounds_toArray, List.set_cons_zero, List.set_cons_succ]
  have B4 : Hid (Dig w4 gd L.flatten ∧ Blk w4 g2 26 (u8l (List.replicate 32 0)).toArray ∧ Below g2 w w4) := Lib.hid ⟨by simpa using q1, B3.out.2.1.grown q2 (by have := B3.out.2.2.2; simp; omega), B3.out.2.2.1.trans (gb_below q2 (by have := B3.out.2.2.2; omega) (by have := B3.out.2.1.lt; omega))⟩
  clear q1 q2
  go_upto_region 3 with (fail)
  refine wp_region_lit ?_
  refine wpL_call 24 #[.pointer (some ⟨gd, 0, none⟩)] rfl (by kernel_rfl) (((dend_any w4 gd L.flatten B4.out.1 (HT.out.below (by rw [G2.out]; exact B4.out.2.2)) (by have := HT.out.lt; have := G2.out; have := B3.out.2.2.2; omega))).mono fun e w5 ⟨he, q2⟩ => ⟨.agg (u8l (shaS L.flatten)).toArray, he, ?_⟩)
  simp only [Act.put, List.setIfInBounds_toArray, List.set_cons_zero, List.set_cons_succ]
  have B5 : Hid (Blk w5 g2 26 (u8l (List.replicate 32 0)).toArray ∧ Below g2 w w5) := Lib.hid ⟨B4.out.2.1.grown q2 (by have := B3.out.2.2.2; simp; omega), B4.out.2.2.trans (gb_below q2 (by have := B3.out.2.2.2; omega) (by have := B4.out.2.1.lt; omega))⟩
  clear q2
  refine wpList_store_rowTo rfl 26 _ _ rfl rfl g2 (u8l (shaS L.flatten)).toArray rfl rfl 26 _ B5.out.1 (by simp only [List.size_toArray, u8l_len, shaS_len]; kernel_rfl) (by simp [u8l_len, shaS_len]) (u8l_one _) ?_
  go_wp2_with fail
  refine bodyPost_ret (results_cell_row rfl _ _ g2 26 _ (0, 0) _ rfl (setRow_heap _ _ _ _ _ _ B5.out.1) Tryd.underlying26 rfl (by simp only [List.size_toArray, u8l_len, shaS_len]; kernel_rfl)) rfl ?_
  exact ⟨rfl, by rw [G2.out]; exact below_setRow B5.out.2 (Nat.le_refl _) _⟩
set_option maxHeartbeats 4000000 in
set_option maxRecDepth 100000 in
theorem awake_any (w : World) (hT : TabK w) (hH : TabH w) : Calls Tryd.prog 10 #[] w fun e w' => e = .returned (.bool true) ∧ Below w.heap.size w w' := by
  have HT := Lib.hid hT
  have HH := Lib.hid hH
  clear hT hH
  go_enter Tryd.func10, Tryd.ntmps10
  obtain ⟨w0, hw0⟩ : ∃ V, V = w.alloc (.cells #[.int .u8 97, .int .u8 98, .int .u8 99] 5) := ⟨_, rfl⟩
  obtain ⟨w1, hw1⟩ : ∃ V, V = w.alloc (.cells #[.int .u8 97, .int .u8 98, .int .u8 99] 5 (3, 4)) := ⟨_, rfl⟩
  obtain ⟨w2, hw2⟩ : ∃ V, V = w1.alloc (.cells #[.slice (some ⟨w.heap.size, 0, none⟩) 3 3] 22) := ⟨_, rfl⟩
  have B2 : Hid (PSl w2 (some ⟨w1.heap.size, 0, none⟩) 1 [[97, 98, 99]] ∧ Below w.heap.size w w2) := Lib.hid (qq (show Below w1.heap.size w1 w2 by rw [hw2]; exact (Below.refl _ _).alloc (Nat.le_refl _) _) fun q => ⟨psl_one (by rw [hw2]; exact Blk.new _ _ _) (Sl.below (by rw [hw1]; exact sl_abc w) q) (by omega), by rw [hw2]; exact (by rw [hw1]; exact (Below.refl _ _).alloc (Nat.le_refl _) _ : Below w.heap.size w w1).alloc (by rw [hw1]; simp) _⟩)
  go_upto_region 1 with (fail)
  refine wp_region_lit ?_
  refine wpL_value (.slice (some ⟨w.heap.size, 0, none⟩) 3 3) (w0) rfl (by rw [hw0]; kernel_rfl) ?_
  simp only [Act.put, List.setIfInBounds_toArray, List.set_cons_zero, List.set_cons_succ]
  refine wpL_value (.slice (some ⟨w.heap.size, 0, none⟩) 3 3) (w1) rfl (run_conv_abc _ _ _ _ _ _ rfl rfl hw0 hw1) ?_
  simp only [Act.put, List.setIfInBounds_toArray, List.set_cons_zero, List.set_cons_succ]
  refine wpL_value (.slice (some ⟨w1.heap.size, 0, none⟩) 1 1) (w2) rfl (by rw [hw2]; kernel_rfl) ?_
  simp only [Act.put, List.setIfInBounds_toArray, List.set_cons_zero, List.set_cons_succ]
  refine wpL_call 15 #[.slice (some ⟨w1.heap.size, 0, none⟩) 1 1] rfl (by kernel_rfl) (((sum_any w2 (some ⟨w1.heap.size, 0, none⟩) 1 1 [[97, 98, 99]] B2.out.1 (by omega) (HT.out.below B2.out.2) (HH.out.below B2.out.2))).mono fun e w3 ⟨he, hb⟩ => ⟨.agg (u8l (shaS [97, 98, 99])).toArray, he, ?_⟩)
  simp only [Act.put, List.setIfInBounds_toArray, List.set_cons_zero, List.set_cons_succ]
  have B3 : Hid (Below w.heap.size w w3) := Lib.hid (B2.out.2.trans (hb.mono B2.out.2.size))
  clear hb hw0 hw1 hw2 B2
  obtain ⟨w4, hw4⟩ : ∃ V, V = (w3.alloc (.cells (u8l (List.replicate 32 0)).toArray 26)).setRow w3.heap.size (u8l (shaS [97, 98, 99])).toArray := ⟨_, rfl⟩
  have B4 : Hid (Blk w4 w3.heap.size 26 (u8l (shaS [97, 98, 99])).toArray ∧ Below w.heap.size w w4) := Lib.hid (by rw [hw4]; exact ⟨setRow_heap _ _ _ _ _ _ (Blk.new w3 26 _), below_setRow (B3.out.alloc B3.out.size _) B3.out.size _⟩)
  refine wpL_value (.pointer (some ⟨w3.heap.size, 0, none⟩)) (w3.alloc (.cells (u8l (List.replicate 32 0)).toArray 26)) rfl (by kernel_rfl) ?_
  simp only [Act.put, List.setIfInBounds_toArray, List.set_cons_zero, List.set_cons_succ]
  refine wpList_store_rowTo rfl 26 _ _ rfl rfl w3.heap.size (u8l (shaS [97, 98, 99])).toArray rfl rfl 26 _ (Blk.new w3 26 _) (by simp only [List.size_toArray, u8l_len, shaS_len]; kernel_rfl) (by simp [u8l_len, shaS_len]) (u8l_one _) ?_
  rw [← hw4]
  clear hw4 B3
  generalize w3.heap.size = g1 at B4 ⊢
  go_upto_region 2 with (fail)
  refine wp_region_lit ?_
  refine wpL_pure (.pointer (some ⟨g1, 0, none⟩)) rfl (by kernel_rfl) ?_
  simp only [Act.put, List.setIfInBounds_toArray, List.set_cons_zero, List.set_cons_succ]
  refine wpL_pure (.int .u8 186) rfl (run_load_one _ _ _ 5 _ _ rfl (g1) (0) rfl (cell_sha B4.out.1 (by omega) sha_abc.1) (by kernel_rfl)) ?_
  simp only [Act.put, List.setIfInBounds_toArray, List.set_cons_zero, List.set_cons_succ]
  refine wpL_pure (.bool true) rfl (by kernel_rfl) ?_
  simp only [Act.put, List.setIfInBounds_toArray, List.set_cons_zero, List.set_cons_succ]
  refine wpL_pure (.bool true) rfl (by kernel_rfl) ?_
  simp only [Act.put, List.setIfInBounds_toArray, List.set_cons_zero, List.set_cons_succ]
  refine wpL_pure (.pointer (some ⟨g1, 31, none⟩)) rfl (by kernel_rfl) ?_
  simp only [Act.put, List.setIfInBounds_toArray, List.set_cons_zero, List.set_cons_succ]
  refine wpL_pure (.int .u8 173) rfl (run_load_one _ _ _ 5 _ _ rfl (g1) (31) rfl (cell_sha B4.out.1 (by omega) sha_abc.2) (by kernel_rfl)) ?_
  simp only [Act.put, List.setIfInBounds_toArray, List.set_cons_zero, List.set_cons_succ]
  refine wpL_pure (.bool true) rfl (by kernel_rfl) ?_
  simp only [Act.put, List.setIfInBounds_toArray, List.set_cons_zero, List.set_cons_succ]
  refine wpL_pure (.bool true) rfl (by kernel_rfl) ?_
  simp only [Act.put, List.setIfInBounds_toArray, List.set_cons_zero, List.set_cons_succ]
  refine wpL_pure (.bool true) rfl (by kernel_rfl) ?_
  simp only [Act.put, List.setIfInBounds_toArray, List.set_cons_zero, List.set_cons_succ]
  go_wp2_with fail
  go_ret
  exact ⟨rfl, B4.out.2⟩
end Go.Proofs.YtggbmajajpafnaaDoor
