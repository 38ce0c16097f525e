/- awake. -/
import Derived.Test.YtofdbjlhgfmgfaaDoorK1
import Derived.Test.YtofdbjlhgfmgfaaDoorK2
namespace Go.Proofs.YtofdbjlhgfmgfaaDoor.Ha
open Go Go.RowKit
set_option maxRecDepth 100000
def K0 : List Int := List.replicate 32 0
def K1 : List Int := 1 :: List.replicate 31 0
theorem lit0 : macS K0 (labB ++ [1]) = [241, 150, 166, 9, 138, 188, 251, 18, 222, 41, 88, 38, 122, 252, 94, 131, 74, 102, 255, 142, 192, 151, 237, 104, 38, 144, 163, 159, 231, 68, 162, 105] := by decide +kernel
theorem lit1 : macS K1 (labB ++ [1]) = [17, 149, 179, 162, 137, 36, 247, 85, 160, 160, 99, 59, 53, 152, 140, 104, 10, 221, 69, 147, 193, 158, 180, 209, 161, 30, 152, 102, 117, 204, 250, 152] := by decide +kernel
theorem fld0 (m0 m1 m2 m3 : List Int) (h0 : m0.length = 32) (h1 : m1.length = 32) (h2 : m2.length = 32) (h3 : m3.length = 32) (w : World) :
    (Instr.field 30 (.agg (u8l m0 ++ (u8l m1 ++ (u8l m2 ++ u8l m3))).toArray) 0).run Tryd.prog w = .ok (.agg (u8l m0).toArray) w := by
  obtain ⟨a0, a1, a2, a3, a4, a5, a6, a7, a8, a9, a10, a11, a12, a13, a14, a15, a16, a17, a18, a19, a20, a21, a22, a23, a24, a25, a26, a27, a28, a29, a30, a31, rfl⟩ := list32 h0
  obtain ⟨b0, b1, b2, b3, b4, b5, b6, b7, b8, b9, b10, b11, b12, b13, b14, b15, b16, b17, b18, b19, b20, b21, b22, b23, b24, b25, b26, b27, b28, b29, b30, b31, rfl⟩ := list32 h1
  obtain ⟨c0, c1, c2, c3, c4, c5, c6, c7, c8, c9, c10, c11, c12, c13, c14, c15, c16, c17, c18, c19, c20, c21, c22, c23, c24, c25, c26, c27, c28, c29, c30, c31, rfl⟩ := list32 h2
  obtain ⟨d0, d1, d2, d3, d4, d5, d6, d7, d8, d9, d10, d11, d12, d13, d14, d15, d16, d17, d18, d19, d20, d21, d22, d23, d24, d25, d26, d27, d28, d29, d30, d31, rfl⟩ := list32 h3
  kernel_rfl
theorem run_fld0 (a : Act) (o : Oper) (w : World) (x : Operand) (ks : List Int) (ho : o.op = .field 30 x 0) (hx : a.eval x = .agg (setL ks).toArray) : (execOp a.eval o).run Tryd.prog w = .ok (.value (.agg (u8l (macS ks (labB ++ [1]))).toArray)) w := by
  have r := fld0 (macS ks (labB ++ [1])) (macS ks (labC ++ [1])) (macS ks (labT ++ [1])) (macS ks (labI ++ [1])) (macS_len _ _) (macS_len _ _) (macS_len _ _) (macS_len _ _) w
  unfold execOp
  simp only [ho, hx]
  unfold setL
  simp only [Sem.run_bind, r, Result.andThen_ok, Sem.run_pure]
theorem run_neqK (a : Act) (o : Oper) (w : World) (x y : Operand) (ho : o.op = .binOp .neq 23 x y 23) (hx : a.eval x = .agg (u8l (macS K0 (labB ++ [1]))).toArray) (hy : a.eval y = .agg (u8l (macS K1 (labB ++ [1]))).toArray) : (execOp a.eval o).run Tryd.prog w = .ok (.value (.bool true)) w := by
  rw [lit0] at hx
  rw [lit1] at hy
  unfold execOp
  simp only [ho, hx, hy]
  kernel_rfl
theorem tok_lt : ∀ j, 1 ≤ j → j < 2 → cmpT (([[1, 0, 0, 0, 0, 0, 0, 0, 0, 0, 0, 0, 0, 0, 0, 0], [2, 0, 0, 0, 0, 0, 0, 0, 0, 0, 0, 0, 0, 0, 0, 0]] : List (List Int)).getD (j - 1) []) (([[1, 0, 0, 0, 0, 0, 0, 0, 0, 0, 0, 0, 0, 0, 0, 0], [2, 0, 0, 0, 0, 0, 0, 0, 0, 0, 0, 0, 0, 0, 0, 0]] : List (List Int)).getD j []) < 0 := by
  intro j h1 h2
  obtain rfl : j = 1 := by omega
  decide +kernel
theorem toks_two {w : World} {g : Nat} (h : Blk w g 35 (u8l ([1, 0, 0, 0, 0, 0, 0, 0, 0, 0, 0, 0, 0, 0, 0, 0] ++ [2, 0, 0, 0, 0, 0, 0, 0, 0, 0, 0, 0, 0, 0, 0, 0])).toArray) : Toks w (some ⟨g, 0, none⟩) 2 [[1, 0, 0, 0, 0, 0, 0, 0, 0, 0, 0, 0, 0, 0, 0, 0], [2, 0, 0, 0, 0, 0, 0, 0, 0, 0, 0, 0, 0, 0, 0, 0]] := by
  refine ⟨rfl, fun _ => ⟨g, 0, rfl, by decide, fun k hk => ?_⟩⟩
  have hr := blk_range h
  have hc : k = 0 ∨ k = 1 := by omega
  rcases hc with rfl | rfl
  · refine ⟨rfl, by decide, fun j v hj => hr j v ?_⟩
    have hl : j < 16 := (List.getElem?_eq_some_iff.1 hj).1
    rw [← hj]
    unfold u8l
    rw [List.map_append, List.getElem?_append_left (by simpa using hl)]
    rfl
  · refine ⟨rfl, by decide, fun j v hj => ?_⟩
    have hl : j < 16 := (List.getElem?_eq_some_iff.1 hj).1
    have q := hr (16 + j) v (by
      rw [← hj]
      unfold u8l
      rw [List.map_append, List.getElem?_append_right (by simp)]
      simp)
    simpa using q
attribute [local irreducible] wpList
set_option maxHeartbeats 8000000 in
set_option maxRecDepth 100000 in
theorem awake_any (w : World) (hT : TabK w) (hH : TabH w) : Calls Tryd.prog 9 #[] w fun e w' => e = .returned (.bool true) ∧ Below w.heap.size w w' := by
  have HT := Lib.hid hT
  have HH := Lib.hid hH
  clear hT hH
  go_enter Tryd.func9, Tryd.ntmps9
  go_upto_region 0 with (fail)
  refine wp_region_lit ?_
  refine wpL_pure (.bool false) rfl (by kernel_rfl) ?_
  simp only [Act.put, List.setIfInBounds_toArray, List.set_cons_zero, List.set_cons_succ]
  go_upto_region 1 with (fail)
  refine wp_region_lit ?_
  refine wpL_pure (.agg (u8l K0).toArray) rfl (by kernel_rfl) ?_
  simp only [Act.put, List.setIfInBounds_toArray, List.set_cons_zero, List.set_cons_succ]
  refine wpL_call 12 #[.agg (u8l K0).toArray] rfl (by kernel_rfl) (((of_any w K0 (by decide) (by decide) HT.out HH.out)).mono fun e w1 ⟨he, hb⟩ => ⟨.agg (setL K0).toArray, he, ?_⟩)
  simp only [Act.put, List.setIfInBounds_toArray, List.set_cons_zero, List.set_cons_succ]
  have B1 : Hid (Below w.heap.size w w1) := Lib.hid hb
  clear hb
  refine wpL_pure (.agg (u8l (macS K0 (labB ++ [1]))).toArray) rfl (run_fld0 _ _ _ _ K0 rfl rfl) ?_
  simp only [Act.put, List.setIfInBounds_toArray, List.set_cons_zero, List.set_cons_succ]
  refine wpL_pure (.agg (u8l K1).toArray) rfl (by kernel_rfl) ?_
  simp only [Act.put, List.setIfInBounds_toArray, List.set_cons_zero, List.set_cons_succ]
  refine wpL_call 12 #[.agg (u8l K1).toArray] rfl (by kernel_rfl) (((of_any w1 K1 (by decide) (by decide) (HT.out.below B1.out) (HH.out.below B1.out))).mono fun e w2 ⟨he, hb⟩ => ⟨.agg (setL K1).toArray, he, ?_⟩)
  simp only [Act.put, List.setIfInBounds_toArray, List.set_cons_zero, List.set_cons_succ]
  have B2 : Hid (Below w.heap.size w w2) := Lib.hid (B1.out.trans (hb.mono B1.out.size))
  clear hb
  refine wpL_pure (.agg (u8l (macS K1 (labB ++ [1]))).toArray) rfl (run_fld0 _ _ _ _ K1 rfl rfl) ?_
  simp only [Act.put, List.setIfInBounds_toArray, List.set_cons_zero, List.set_cons_succ]
  refine wpL_pure (.bool true) rfl (run_neqK _ _ _ _ _ rfl rfl rfl) ?_
  simp only [Act.put, List.setIfInBounds_toArray, List.set_cons_zero, List.set_cons_succ]
  refine wpL_pure (.bool true) rfl (by kernel_rfl) ?_
  simp only [Act.put, List.setIfInBounds_toArray, List.set_cons_zero, List.set_cons_succ]
  refine wpL_pure (.agg (u8l [1, 0, 0, 0, 0, 0, 0, 0, 0, 0, 0, 0, 0, 0, 0, 0]).toArray) rfl (by kernel_rfl) ?_
  simp only [Act.put, List.setIfInBounds_toArray, List.set_cons_zero, List.set_cons_succ]
  refine wpL_pure (.agg (u8l [2, 0, 0, 0, 0, 0, 0, 0, 0, 0, 0, 0, 0, 0, 0, 0]).toArray) rfl (by kernel_rfl) ?_
  simp only [Act.put, List.setIfInBounds_toArray, List.set_cons_zero, List.set_cons_succ]
  obtain ⟨w3, hw3⟩ : ∃ V, V = w2.alloc (.cells (u8l ([1, 0, 0, 0, 0, 0, 0, 0, 0, 0, 0, 0, 0, 0, 0, 0] ++ [2, 0, 0, 0, 0, 0, 0, 0, 0, 0, 0, 0, 0, 0, 0, 0])).toArray 35) := ⟨_, rfl⟩
  have B3 : Hid (Below w.heap.size w w3 ∧ Toks w3 (some ⟨w2.heap.size, 0, none⟩) 2 [[1, 0, 0, 0, 0, 0, 0, 0, 0, 0, 0, 0, 0, 0, 0, 0], [2, 0, 0, 0, 0, 0, 0, 0, 0, 0, 0, 0, 0, 0, 0, 0]]) := Lib.hid ⟨by rw [hw3]; exact B2.out.alloc B2.out.size _, toks_two (by rw [hw3]; exact Blk.new _ _ _)⟩
  refine wpL_value (.slice (some ⟨w2.heap.size, 0, none⟩) 2 2) (w3) rfl (by rw [hw3]; kernel_rfl) ?_
  simp only [Act.put, List.setIfInBounds_toArray, List.set_cons_zero, List.set_cons_succ]
  refine wpL_call 21 #[.slice (some ⟨w2.heap.size, 0, none⟩) 2 2] rfl (by kernel_rfl) (((sorted_any w3 (some ⟨w2.heap.size, 0, none⟩) 2 2 [[1, 0, 0, 0, 0, 0, 0, 0, 0, 0, 0, 0, 0, 0, 0, 0], [2, 0, 0, 0, 0, 0, 0, 0, 0, 0, 0, 0, 0, 0, 0, 0]] B3.out.2)).mono fun e w4 ⟨z, he, hz, hb⟩ => ⟨.bool true, (he.trans (by rw [hz.2 tok_lt])), ?_⟩)
  simp only [Act.put, List.setIfInBounds_toArray, List.set_cons_zero, List.set_cons_succ]
  have B4 : Hid (Below w.heap.size w w4) := Lib.hid (B3.out.1.trans (hb.mono B3.out.1.size))
  clear hb
  refine wpL_pure (.bool true) rfl (by kernel_rfl) ?_
  simp only [Act.put, List.setIfInBounds_toArray, List.set_cons_zero, List.set_cons_succ]
  refine wpL_pure (.bool true) rfl (by kernel_rfl) ?_
  simp only [Act.put, List.setIfInBounds_toArray, List.set_cons_zero, List.set_cons_succ]
  go_wp2_with fail
  go_ret
  exact ⟨rfl, B4.out⟩
end Go.Proofs.YtofdbjlhgfmgfaaDoor.Ha
