import Derived.Test.YtoeojgdolanggaaDoorP2
namespace Go.Proofs.YtoeojgdolanggaaDoor
open Go Go.RowKit

theorem bk_le (n : Nat) : bk n ≤ 2048 ∧ (bk n = 0 ∨ n < bk n) := by unfold bk; (repeat' split) <;> omega
theorem er_pos {b : Nat} (h : b ≠ 0) : er b = 0 := by unfold er; rw [if_neg h]
/-- a text, its mark, and noughts. -/
def padL (t : List Int) : List Int := t ++ 128 :: List.replicate (bk t.length - t.length - 1) 0
theorem padL_len {t : List Int} {n B : Nat} (hl : t.length = n) (hB : bk n = B) (hn : n < B) : (padL t).length = B := by
  unfold padL
  rw [List.length_append, List.length_cons, List.length_replicate, hl, hB]
  omega
theorem padL_byte {t : List Int} (h : ∀ x ∈ t, 0 ≤ x ∧ x ≤ 255) : ∀ x ∈ padL t, 0 ≤ x ∧ x ≤ 255 := by
  intro x hx
  unfold padL at hx
  simp only [List.mem_append, List.mem_cons, List.mem_replicate] at hx
  rcases hx with hx | rfl | ⟨_, rfl⟩
  · exact h x hx
  · omega
  · omega
theorem pad_mid {t : List Int} {n B : Nat} (hl : t.length = n) (hn : n ≤ B) : (u8l (List.replicate B 0)).take 0 ++ u8l (t.take n) ++ (u8l (List.replicate B 0)).drop (0 + n) = u8l (t ++ List.replicate (B - n) 0) := by
  rw [List.take_zero, List.nil_append, List.take_of_length_le (by omega)]
  unfold u8l
  rw [List.map_append, List.map_replicate, List.map_replicate, List.drop_replicate, Nat.zero_add]
theorem pad_set {t : List Int} {n B : Nat} (hl : t.length = n) (hB : bk n = B) (hn : n < B) : (u8l (t ++ List.replicate (B - n) 0)).set n (.int .u8 128) = u8l (padL t) := by
  unfold padL u8l
  rw [hl, hB, show B - n = (B - n - 1) + 1 by omega, List.replicate_succ, List.map_append, List.set_append_right _ _ (by simp [hl]), List.length_map, hl, Nat.sub_self, List.map_cons, List.set_cons_zero, List.map_append]
  rfl
theorem pad_some {t : List Int} {n B : Nat} (hl : t.length = n) (hn : n < B) : ((u8l (t ++ List.replicate (B - n) 0)).toArray[n]?).isSome = true := by
  simp [u8l, hl]
  omega
theorem run_mkB (a : Act) (o : Oper) (w w1 : World) (x : Operand) (B : Nat) (ho : o.op = .makeSlice 22 x x) (hx : a.eval x = .int .i64 (B : Int)) (hB : B ≤ 100000) (h1 : w1 = w.alloc (.cells (u8l (List.replicate B 0)).toArray 5)) :
    (execOp a.eval o).run Tryd.prog w = .ok (.value (.slice (some ⟨w.heap.size, 0, none⟩) B B)) w1 := by
  have r := run_make_row' (P := Tryd.prog) 22 5 (.int .u8 0) 1 Tryd.underlying22 (by kernel_rfl) rfl .i64 .i64 B (by omega) (by omega) w
  have e : madeCells #[Value.int .u8 0] B = (u8l (List.replicate B 0)).toArray := by
    apply Array.ext_getElem?
    intro i
    unfold madeCells u8l
    rw [List.map_replicate]
    simp only [List.getElem?_toArray, List.getElem?_replicate, Array.getElem?_map, Array.getElem?_range]
    split <;> simp [Nat.mod_one]
  rw [e] at r
  subst h1
  unfold execOp
  simp only [ho, hx, Sem.run_bind, r, Result.andThen_ok, Sem.run_pure]
def PSt (w W : World) (v : Value) (xs : List Int) : Prop := Own W w.heap.size v xs ∧ Below w.heap.size w W
theorem PSt.push {w W : World} {v : Value} {xs : List Int} (h : PSt w W v xs) (x : Int) (hx : 0 ≤ x ∧ x ≤ 255) (hn : xs.length ≤ 2000000) (W1 : World) (hW : W1 = W.alloc (.cells #[.int .u8 x] 5)) :
    ∃ g cap W', (Builtin.append_ #[22, 22] 22 #[v, .slice (some ⟨W.heap.size, 0, none⟩) 1 1]).run Tryd.prog W1 = .ok (.slice (some ⟨g, 0, none⟩) (xs.length + 1) cap) W' ∧ PSt w W' (.slice (some ⟨g, 0, none⟩) (xs.length + 1) cap) (xs ++ [x]) := by
  subst hW
  have hs := h.2.size
  have hsz : (W.alloc (.cells #[.int .u8 x] 5)).heap.size = W.heap.size + 1 := by simp
  have o1 := h.1.alloc (.cells #[.int .u8 x] 5)
  obtain ⟨v2, W', r1, r2, r3, r4, r5⟩ := append_own (W.alloc (.cells #[.int .u8 x] 5)) w.heap.size v xs [x] (some ⟨W.heap.size, 0, none⟩) 1 1 o1 (sl_one W hx).1 (by omega) (by rw [hsz]; omega)
  obtain ⟨g, cap, e⟩ := own_some r2 (fun e => by have := (r5.1 e).2; omega)
  rw [List.length_append] at e
  subst e
  exact ⟨g, cap, W', r1, r2, (h.2.alloc hs _).trans (gb_own o1 r3 (by rw [hsz]; omega))⟩
attribute [local irreducible] wpList
set_option maxHeartbeats 4000000 in
set_option maxRecDepth 100000 in
theorem pad_no (w : World) (a : Option Addr) (n c : Nat) (t : List Int) (h : Sl w a n c t) (hb : bk n = 0) :
    Calls Tryd.prog 6 #[.slice a n c] w fun e w' => e = .returned (.tuple #[.slice none 0 0, .int .i64 3]) ∧ w' = w := by
  have HS := Lib.hid h
  have BZ := Lib.hid hb
  clear h hb
  go_enter Tryd.func6, Tryd.ntmps6
  go_upto_region 0 with (fail)
  refine wp_region_lit ?_
  refine wpL_pure (.slice none 0 0) rfl (by kernel_rfl) ?_
  simp only [Act.put, List.setIfInBounds_toArray, List.set_cons_zero, List.set_cons_succ]
  refine wpL_pure (.int .i64 0) rfl (by kernel_rfl) ?_
  simp only [Act.put, List.setIfInBounds_toArray, List.set_cons_zero, List.set_cons_succ]
  go_upto_region 1 with (fail)
  refine wp_region_lit ?_
  refine wpL_pure (.slice a n c) rfl (by kernel_rfl) ?_
  simp only [Act.put, List.setIfInBounds_toArray, List.set_cons_zero, List.set_cons_succ]
  refine wpL_pure (.int .i64 (n : Int)) rfl (by kernel_rfl) ?_
  simp only [Act.put, List.setIfInBounds_toArray, List.set_cons_zero, List.set_cons_succ]
  refine wpL_call 11 #[.int .i64 (n : Int)] rfl (by kernel_rfl) (((bucket_any n w)).mono fun e w1 ⟨he, hw⟩ => ⟨.tuple #[.int .i64 0, .int .i64 3], (he.trans (by rw [BZ.out]; rfl)), ?_⟩)
  simp only [Act.put, List.setIfInBounds_toArray, List.set_cons_zero, List.set_cons_succ]
  rw [hw]
  clear hw
  refine wpL_pure (.tuple #[.int .i64 0, .int .i64 3]) rfl (by kernel_rfl) ?_
  simp only [Act.put, List.setIfInBounds_toArray, List.set_cons_zero, List.set_cons_succ]
  refine wpL_pure (.int .i64 0) rfl (by kernel_rfl) ?_
  simp only [Act.put, List.setIfInBounds_toArray, List.set_cons_zero, List.set_cons_succ]
  refine wpL_pure (.int .i64 3) rfl (by kernel_rfl) ?_
  simp only [Act.put, List.setIfInBounds_toArray, List.set_cons_zero, List.set_cons_succ]
  refine wpL_pure (.int .i64 0) rfl (by kernel_rfl) ?_
  simp only [Act.put, List.setIfInBounds_toArray, List.set_cons_zero, List.set_cons_succ]
  refine wpL_pure (.int .i64 3) rfl (by kernel_rfl) ?_
  simp only [Act.put, List.setIfInBounds_toArray, List.set_cons_zero, List.set_cons_succ]
  go_upto_region 2 with (fail)
  refine wp_region_lit ?_
  refine wpL_pure (.int .i64 3) rfl (by kernel_rfl) ?_
  simp only [Act.put, List.setIfInBounds_toArray, List.set_cons_zero, List.set_cons_succ]
  refine wpL_pure (.bool true) rfl (by kernel_rfl) ?_
  simp only [Act.put, List.setIfInBounds_toArray, List.set_cons_zero, List.set_cons_succ]
  go_upto_region 3 with (fail)
  refine wp_region_lit ?_
  refine wpL_pure (.int .i64 3) rfl (by kernel_rfl) ?_
  simp only [Act.put, List.setIfInBounds_toArray, List.set_cons_zero, List.set_cons_succ]
  refine wpL_pure (.slice none 0 0) rfl (by kernel_rfl) ?_
  simp only [Act.put, List.setIfInBounds_toArray, List.set_cons_zero, List.set_cons_succ]
  refine wpL_pure (.int .i64 3) rfl (by kernel_rfl) ?_
  simp only [Act.put, List.setIfInBounds_toArray, List.set_cons_zero, List.set_cons_succ]
  go_wp2_with fail
  refine bodyPost_ret (v := .tuple #[.slice none 0 0, .int .i64 3]) (by kernel_rfl) rfl ?_
  exact ⟨rfl, rfl⟩
set_option maxHeartbeats 4000000 in
set_option maxRecDepth 100000 in
theorem pad_yes (w : World) (a : Option Addr) (n c : Nat) (t : List Int) (B : Nat) (h : Sl w a n c t) (hb : bk n = B) (h0 : B ≠ 0) :
    Calls Tryd.prog 6 #[.slice a n c] w fun e w' => ∃ g, e = .returned (.tuple #[.slice (some ⟨g, 0, none⟩) B B, .int .i64 0]) ∧ Sl w' (some ⟨g, 0, none⟩) B B (padL t) ∧ Below w.heap.size w w' := by
  have HS := Lib.hid h
  have HB : Hid (bk n = B ∧ n < B ∧ B ≤ 2048) := Lib.hid (by have := bk_le n; omega)
  clear h hb h0
  go_enter Tryd.func6, Tryd.ntmps6
  go_upto_region 1 with (fail)
  refine wp_region_lit ?_
  refine wpL_pure (.slice a n c) rfl (by kernel_rfl) ?_
  simp only [Act.put, List.setIfInBounds_toArray, List.set_cons_zero, List.set_cons_succ]
  refine wpL_pure (.int .i64 (n : Int)) rfl (by kernel_rfl) ?_
  simp only [Act.put, List.setIfInBounds_toArray, List.set_cons_zero, List.set_cons_succ]
  refine wpL_call 11 #[.int .i64 (n : Int)] rfl (by kernel_rfl) (((bucket_any n w)).mono fun e w1 ⟨he, hw⟩ => ⟨.tuple #[.int .i64 (B : Nat), .int .i64 0], (he.trans (by rw [HB.out.1, er_pos (by have := HB.out.2.1; omega)])), ?_⟩)
  simp only [Act.put, List.setIfInBounds_toArray, List.set_cons_zero, List.set_cons_succ]
  rw [hw]
  clear hw
  refine wpL_pure (.tuple #[.int .i64 (B : Nat), .int .i64 0]) rfl (by kernel_rfl) ?_
  simp only [Act.put, List.setIfInBounds_toArray, List.set_cons_zero, List.set_cons_succ]
  refine wpL_pure (.int .i64 (B : Nat)) rfl (by kernel_rfl) ?_
  simp only [Act.put, List.setIfInBounds_toArray, List.set_cons_zero, List.set_cons_succ]
  refine wpL_pure (.int .i64 0) rfl (by kernel_rfl) ?_
  simp only [Act.put, List.setIfInBounds_toArray, List.set_cons_zero, List.set_cons_succ]
  refine wpL_pure (.int .i64 (B : Nat)) rfl (by kernel_rfl) ?_
  simp only [Act.put, List.setIfInBounds_toArray, List.set_cons_zero, List.set_cons_succ]
  refine wpL_pure (.int .i64 0) rfl (by kernel_rfl) ?_
  simp only [Act.put, List.setIfInBounds_toArray, List.set_cons_zero, List.set_cons_succ]
  go_upto_region 2 with (fail)
  refine wp_region_lit ?_
  refine wpL_pure (.int .i64 0) rfl (by kernel_rfl) ?_
  simp only [Act.put, List.setIfInBounds_toArray, List.set_cons_zero, List.set_cons_succ]
  refine wpL_pure (.bool false) rfl (by kernel_rfl) ?_
  simp only [Act.put, List.setIfInBounds_toArray, List.set_cons_zero, List.set_cons_succ]
  obtain ⟨w1, hw1⟩ : ∃ V, V = w.alloc (.cells (u8l (List.replicate B 0)).toArray 5) := ⟨_, rfl⟩
  have B1 : Hid (Blk w1 w.heap.size 5 (u8l (List.replicate B 0)).toArray ∧ Below w.heap.size w w1) := Lib.hid (by rw [hw1]; exact ⟨Blk.new _ _ _, (Below.refl _ _).alloc (Nat.le_refl _) _⟩)
  go_upto_region 4 with (fail)
  refine wp_region_lit ?_
  refine wpL_pure (.int .i64 (B : Nat)) rfl (by kernel_rfl) ?_
  simp only [Act.put, List.setIfInBounds_toArray, List.set_cons_zero, List.set_cons_succ]
  refine wpL_value (.slice (some ⟨w.heap.size, 0, none⟩) B B) (w1) rfl (run_mkB _ _ _ _ _ B rfl rfl (by have := HB.out.2.2; omega) hw1) ?_
  simp only [Act.put, List.setIfInBounds_toArray, List.set_cons_zero, List.set_cons_succ]
  refine wpL_pure (.slice (some ⟨w.heap.size, 0, none⟩) B B) rfl (by kernel_rfl) ?_
  simp only [Act.put, List.setIfInBounds_toArray, List.set_cons_zero, List.set_cons_succ]
  clear hw1
  obtain ⟨x1, r1, r2, r3⟩ := copy_blk w1 w.heap.size 5 0 B B (u8l (List.replicate B 0)) a n c t B1.out.1 (HS.out.1.keep B1.out.2) (by simp [u8l]) n (Nat.min_eq_left (by have := HB.out.2.1; omega)).symm
  have CP := Lib.hid r1
  have X1 : Hid (Blk x1 w.heap.size 5 (u8l (t ++ List.replicate (B - n) 0)).toArray ∧ Below w.heap.size w x1) := Lib.hid ⟨by rw [← pad_mid HS.out.1.1 (by have := HB.out.2.1; omega)]; exact r2, B1.out.2.trans (gb_below r3 (Nat.le_refl _) B1.out.2.size)⟩
  clear r1 r2 r3
  go_upto_region 5 with (fail)
  refine wp_region_lit ?_
  refine wpL_pure (.slice (some ⟨w.heap.size, 0, none⟩) B B) rfl (by kernel_rfl) ?_
  simp only [Act.put, List.setIfInBounds_toArray, List.set_cons_zero, List.set_cons_succ]
  refine wpL_pure (.slice a n c) rfl (by kernel_rfl) ?_
  simp only [Act.put, List.setIfInBounds_toArray, List.set_cons_zero, List.set_cons_succ]
  refine wpL_value (.int .i64 (n : Int)) (x1) rfl (run_cpy _ _ _ _ _ _ _ _ _ rfl rfl rfl rfl CP.out) ?_
  simp only [Act.put, List.setIfInBounds_toArray, List.set_cons_zero, List.set_cons_succ]
  clear CP B1
  obtain ⟨x2, hx2⟩ : ∃ V, V = x1.setCell ⟨w.heap.size, n, none⟩ (.int .u8 128) := ⟨_, rfl⟩
  have X2 : Hid (Blk x2 w.heap.size 5 (u8l (padL t)).toArray ∧ Below w.heap.size w x2) := Lib.hid (by rw [hx2]; exact ⟨by rw [← pad_set HS.out.1.1 HB.out.1 HB.out.2.1]; exact Blk.set X1.out.1 _ _, X1.out.2.setCell (p := ⟨w.heap.size, n, none⟩) (Nat.le_refl _) _⟩)
  go_upto_region 6 with (fail)
  refine wp_region_lit ?_
  refine wpL_pure (.slice (some ⟨w.heap.size, 0, none⟩) B B) rfl (by kernel_rfl) ?_
  simp only [Act.put, List.setIfInBounds_toArray, List.set_cons_zero, List.set_cons_succ]
  refine wpL_pure (.slice a n c) rfl (by kernel_rfl) ?_
  simp only [Act.put, List.setIfInBounds_toArray, List.set_cons_zero, List.set_cons_succ]
  refine wpL_pure (.int .i64 (n : Int)) rfl (by kernel_rfl) ?_
  simp only [Act.put, List.setIfInBounds_toArray, List.set_cons_zero, List.set_cons_succ]
  refine wpL_pure (.pointer (some ⟨w.heap.size, n, none⟩)) rfl (run_idxr _ _ _ _ _ w.heap.size 0 B B n rfl rfl rfl HB.out.2.1 (by unfold maxLen; have := HB.out.2.2; omega) (Nat.zero_add _)) ?_
  simp only [Act.put, List.setIfInBounds_toArray, List.set_cons_zero, List.set_cons_succ]
  refine wpL_store_one rfl rfl (w.heap.size) (n) rfl (.int .u8 128) rfl rfl size5 (by rw [X1.out.1.cell]; exact pad_some HS.out.1.1 HB.out.2.1) (X1.out.1.free _) ?_
  simp only [Act.put, List.setIfInBounds_toArray, List.set_cons_zero, List.set_cons_succ]
  rw [← hx2]
  clear hx2
  go_upto_region 7 with (fail)
  refine wp_region_lit ?_
  refine wpL_pure (.slice (some ⟨w.heap.size, 0, none⟩) B B) rfl (by kernel_rfl) ?_
  simp only [Act.put, List.setIfInBounds_toArray, List.set_cons_zero, List.set_cons_succ]
  refine wpL_pure (.slice (some ⟨w.heap.size, 0, none⟩) B B) rfl (by kernel_rfl) ?_
  simp only [Act.put, List.setIfInBounds_toArray, List.set_cons_zero, List.set_cons_succ]
  refine wpL_pure (.int .i64 0) rfl (by kernel_rfl) ?_
  simp only [Act.put, List.setIfInBounds_toArray, List.set_cons_zero, List.set_cons_succ]
  go_wp2_with fail
  refine bodyPost_ret (v := .tuple #[.slice (some ⟨w.heap.size, 0, none⟩) B B, .int .i64 0]) (by kernel_rfl) rfl ?_
  exact ⟨_, rfl, sl_blk X2.out.1 (padL_len HS.out.1.1 HB.out.1 HB.out.2.1) (padL_byte HS.out.1.2.2.1) (by have := HB.out.2.2; omega), X2.out.2⟩
set_option maxHeartbeats 4000000 in
set_option maxRecDepth 100000 in
theorem refpad_any (w : World) (a : Option Addr) (n c : Nat) (t : List Int) (h : Sl w a n c t) (hn : n ≤ 100000) :
    Calls Tryd.prog 9 #[.slice a n c] w fun e w' => ∃ va m vc, e = .returned (.slice va m vc) ∧ Sl w' va m vc (padL t) ∧ Below w.heap.size w w' := by
  have HS := Lib.hid h
  have HN := Lib.hid hn
  clear h hn
  go_enter Tryd.func9, Tryd.ntmps9
  go_upto_region 0 with (fail)
  refine wp_region_lit ?_
  refine wpL_pure (.slice none 0 0) rfl (by kernel_rfl) ?_
  simp only [Act.put, List.setIfInBounds_toArray, List.set_cons_zero, List.set_cons_succ]
  go_upto_region 1 with (fail)
  refine wp_region_lit ?_
  refine wpL_pure (.slice none 0 0) rfl (by kernel_rfl) ?_
  simp only [Act.put, List.setIfInBounds_toArray, List.set_cons_zero, List.set_cons_succ]
  obtain ⟨v1, w2, r1, r2, r3, r4, r5⟩ := append_own w w.heap.size (.slice none 0 0) [] t a n c (Own.nil _ _) HS.out.1 (by simp; have := HN.out; omega) (Nat.le_refl _)
  have AP := Lib.hid r1
  have B2 : Hid (PSt w w2 v1 t) := Lib.hid ⟨by simpa using r2, gb_own (Own.nil w w.heap.size) r3 (Nat.le_refl _)⟩
  clear r1 r2 r3 r4 r5
  go_upto_region 2 with (fail)
  refine wp_region_lit ?_
  refine wpL_pure (.slice none 0 0) rfl (by kernel_rfl) ?_
  simp only [Act.put, List.setIfInBounds_toArray, List.set_cons_zero, List.set_cons_succ]
  refine wpL_pure (.slice a n c) rfl (by kernel_rfl) ?_
  simp only [Act.put, List.setIfInBounds_toArray, List.set_cons_zero, List.set_cons_succ]
  refine wpL_value (v1) (w2) rfl (run_app _ _ _ _ _ _ _ _ _ rfl rfl rfl rfl AP.out) ?_
  simp only [Act.put, List.setIfInBounds_toArray, List.set_cons_zero, List.set_cons_succ]
  refine wpL_pure (v1) rfl (by kernel_rfl) ?_
  simp only [Act.put, List.setIfInBounds_toArray, List.set_cons_zero, List.set_cons_succ]
  clear AP
  have EL0 : t.length + 1 = n + 1 := by rw [HS.out.1.1]
  obtain ⟨w2b, hw2b⟩ : ∃ V, V = w2.alloc (.cells #[.int .u8 (128)] 5) := ⟨_, rfl⟩
  obtain ⟨g3, c3, w3, r1, r2⟩ := B2.out.push (128) (by omega) (by have := HS.out.1.1; have := HN.out; omega) w2b hw2b
  rw [EL0] at r1 r2
  have AP := Lib.hid r1
  have B3 := Lib.hid r2
  clear r1 r2
  go_upto_region 3 with (fail)
  refine wp_region_lit ?_
  refine wpL_pure (v1) rfl (by kernel_rfl) ?_
  simp only [Act.put, List.setIfInBounds_toArray, List.set_cons_zero, List.set_cons_succ]
  refine wpL_value (.slice (some ⟨w2.heap.size, 0, none⟩) 1 1) (w2b) rfl (by rw [hw2b]; kernel_rfl) ?_
  simp only [Act.put, List.setIfInBounds_toArray, List.set_cons_zero, List.set_cons_succ]
  refine wpL_value (.slice (some ⟨g3, 0, none⟩) (n + 1) c3) (w3) rfl (run_app _ _ _ _ _ _ _ _ _ rfl rfl rfl rfl AP.out) ?_
  simp only [Act.put, List.setIfInBounds_toArray, List.set_cons_zero, List.set_cons_succ]
  refine wpL_pure (.slice (some ⟨g3, 0, none⟩) (n + 1) c3) rfl (by kernel_rfl) ?_
  simp only [Act.put, List.setIfInBounds_toArray, List.set_cons_zero, List.set_cons_succ]
  clear AP B2 EL0 hw2b
  obtain ⟨D, hD⟩ : ∃ D, bk n - n - 1 = D := ⟨_, rfl⟩
  have HD := Lib.hid hD
  clear hD
  go_wp2_with fail
  go_loopw [3] (fun s3 wr => ∃ (k g len cp : Nat), s3 = .slice (some ⟨g, 0, none⟩) len cp ∧ Hid (k ≤ D ∧ len = n + 1 + k ∧ PSt w wr (.slice (some ⟨g, 0, none⟩) len cp) (t ++ 128 :: List.replicate k 0))) (fun s3 _ => n + 1 + D - lenOf s3)
  case atStart => exact ⟨0, g3, n + 1, c3, rfl, Lib.hid ⟨by omega, rfl, by simpa using B3.out⟩⟩
  case round =>
    obtain ⟨k, g, len, cp, rfl, RI⟩ := hrel
    have BB := Lib.hid (bk_le n)
    by_cases hlt : k < D
    · have HK := Lib.hid hlt
      clear hlt
      go_upto_region 4 with (fail)
      refine wp_region_lit ?_
      refine wpL_pure (.slice (some ⟨g, 0, none⟩) len cp) rfl (by kernel_rfl) ?_
      simp only [Act.put, List.setIfInBounds_toArray, List.set_cons_zero, List.set_cons_succ]
      refine wpL_pure (.int .i64 (len : Int)) rfl (by kernel_rfl) ?_
      simp only [Act.put, List.setIfInBounds_toArray, List.set_cons_zero, List.set_cons_succ]
      refine wpL_pure (.slice a n c) rfl (by kernel_rfl) ?_
      simp only [Act.put, List.setIfInBounds_toArray, List.set_cons_zero, List.set_cons_succ]
      refine wpL_pure (.int .i64 (n : Int)) rfl (by kernel_rfl) ?_
      simp only [Act.put, List.setIfInBounds_toArray, List.set_cons_zero, List.set_cons_succ]
      refine wpL_call 7 #[.int .i64 (n : Int)] rfl (by kernel_rfl) (((refbucket_any n wr)).mono fun e x1 ⟨he, hb⟩ => ⟨.int .i64 (bk n : Nat), he, ?_⟩)
      simp only [Act.put, List.setIfInBounds_toArray, List.set_cons_zero, List.set_cons_succ]
      have X1 : Hid (PSt w x1 (.slice (some ⟨g, 0, none⟩) len cp) (t ++ 128 :: List.replicate k 0)) := Lib.hid ⟨RI.out.2.2.1.below hb, RI.out.2.2.2.trans (hb.mono RI.out.2.2.2.size)⟩
      clear hb
      refine wpL_pure (.bool true) rfl (run_lti Tryd.underlying3 rfl rfl rfl (by have h1 := HK.out; have h2 := HD.out; have h3 := RI.out.2.1; have h4 := RI.out.1; rw [decide_eq_true_eq]; omega)) ?_
      simp only [Act.put, List.setIfInBounds_toArray, List.set_cons_zero, List.set_cons_succ]
      have EL : (t ++ 128 :: List.replicate k 0).length + 1 = len + 1 := by have := RI.out.2.1; have := HS.out.1.1; simp; omega
      obtain ⟨x1b, hx1b⟩ : ∃ V, V = x1.alloc (.cells #[.int .u8 (0)] 5) := ⟨_, rfl⟩
      obtain ⟨g4, c4, w4, r1, r2⟩ := X1.out.push (0) (by omega) (by have := RI.out.2.1; have h2 := HD.out; have := BB.out; have := RI.out.1; have := HN.out; have := HS.out.1.1; simp; omega) x1b hx1b
      rw [EL] at r1 r2
      have AP := Lib.hid r1
      have B4 := Lib.hid r2
      clear r1 r2
      go_upto_region 5 with (fail)
      refine wp_region_lit ?_
      refine wpL_pure (.slice (some ⟨g, 0, none⟩) len cp) rfl (by kernel_rfl) ?_
      simp only [Act.put, List.setIfInBounds_toArray, List.set_cons_zero, List.set_cons_succ]
      refine wpL_value (.slice (some ⟨x1.heap.size, 0, none⟩) 1 1) (x1b) rfl (by rw [hx1b]; kernel_rfl) ?_
      simp only [Act.put, List.setIfInBounds_toArray, List.set_cons_zero, List.set_cons_succ]
      refine wpL_value (.slice (some ⟨g4, 0, none⟩) (len + 1) c4) (w4) rfl (run_app _ _ _ _ _ _ _ _ _ rfl rfl rfl rfl AP.out) ?_
      simp only [Act.put, List.setIfInBounds_toArray, List.set_cons_zero, List.set_cons_succ]
      refine wpL_pure (.slice (some ⟨g4, 0, none⟩) (len + 1) c4) rfl (by kernel_rfl) ?_
      simp only [Act.put, List.setIfInBounds_toArray, List.set_cons_zero, List.set_cons_succ]
      have NX : Hid (k + 1 ≤ D ∧ len + 1 = n + 1 + (k + 1) ∧ PSt w w4 (.slice (some ⟨g4, 0, none⟩) (len + 1) c4) (t ++ 128 :: List.replicate (k + 1) 0)) := Lib.hid ⟨HK.out, by have := RI.out.2.1; omega, by have h := B4.out; rw [List.replicate_succ', ← List.cons_append, ← List.append_assoc]; exact h⟩
      unfold wpList
      go_roundw
      case rel => first | exact ⟨k + 1, _, _, _, rfl, NX⟩ | ((repeat apply Exists.intro); exact ⟨⟨k + 1, _, _, _, rfl, NX⟩, rfl⟩)
      case measure => simp [lenOf]; have := HK.out; have := RI.out.2.1; omega
    · have HK := Lib.hid hlt
      have EK : Hid (k = D) := Lib.hid (by have := RI.out.1; omega)
      clear hlt
      go_upto_region 4 with (fail)
      refine wp_region_lit ?_
      refine wpL_pure (.slice (some ⟨g, 0, none⟩) len cp) rfl (by kernel_rfl) ?_
      simp only [Act.put, List.setIfInBounds_toArray, List.set_cons_zero, List.set_cons_succ]
      refine wpL_pure (.int .i64 (len : Int)) rfl (by kernel_rfl) ?_
      simp only [Act.put, List.setIfInBounds_toArray, List.set_cons_zero, List.set_cons_succ]
      refine wpL_pure (.slice a n c) rfl (by kernel_rfl) ?_
      simp only [Act.put, List.setIfInBounds_toArray, List.set_cons_zero, List.set_cons_succ]
      refine wpL_pure (.int .i64 (n : Int)) rfl (by kernel_rfl) ?_
      simp only [Act.put, List.setIfInBounds_toArray, List.set_cons_zero, List.set_cons_succ]
      refine wpL_call 7 #[.int .i64 (n : Int)] rfl (by kernel_rfl) (((refbucket_any n wr)).mono fun e x1 ⟨he, hb⟩ => ⟨.int .i64 (bk n : Nat), he, ?_⟩)
      simp only [Act.put, List.setIfInBounds_toArray, List.set_cons_zero, List.set_cons_succ]
      have X1 : Hid (PSt w x1 (.slice (some ⟨g, 0, none⟩) len cp) (t ++ 128 :: List.replicate k 0)) := Lib.hid ⟨RI.out.2.2.1.below hb, RI.out.2.2.2.trans (hb.mono RI.out.2.2.2.size)⟩
      clear hb
      refine wpL_pure (.bool false) rfl (run_lti Tryd.underlying3 rfl rfl rfl (by have h1 := HK.out; have h2 := HD.out; have h3 := RI.out.2.1; have h4 := RI.out.1; rw [decide_eq_false_iff_not]; omega)) ?_
      simp only [Act.put, List.setIfInBounds_toArray, List.set_cons_zero, List.set_cons_succ]
      go_upto_region 6 with (fail)
      refine wp_region_lit ?_
      refine wpL_pure (.slice (some ⟨g, 0, none⟩) len cp) rfl (by kernel_rfl) ?_
      simp only [Act.put, List.setIfInBounds_toArray, List.set_cons_zero, List.set_cons_succ]
      refine wpL_pure (.slice (some ⟨g, 0, none⟩) len cp) rfl (by kernel_rfl) ?_
      simp only [Act.put, List.setIfInBounds_toArray, List.set_cons_zero, List.set_cons_succ]
      go_wp2_with fail
      go_ret
      exact ⟨_, _, _, rfl, by have h := own_sl' X1.out.1; rw [EK.out, ← HD.out] at h; unfold padL; rw [HS.out.1.1]; exact h, X1.out.2⟩
end Go.Proofs.YtoeojgdolanggaaDoor
