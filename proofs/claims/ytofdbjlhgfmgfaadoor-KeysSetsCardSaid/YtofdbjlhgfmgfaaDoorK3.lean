/- A pair's key: the program's and the reference's. -/
import Derived.Test.YtofdbjlhgfmgfaaDoorHaH20
namespace Go.Proofs.YtofdbjlhgfmgfaaDoor.Ha
open Go Go.RowKit
set_option maxRecDepth 100000
def mnI (x y : Int) : Int := if y < x then y else x
def mxI (x y : Int) : Int := if x < y then y else x
theorem wrap_u8 (x : Int) : 0 ≤ IntKind.u8.wrap x ∧ IntKind.u8.wrap x ≤ 255 := by
  simp [IntKind.wrap, IntKind.bits, IntKind.signed]; omega
theorem run_minI (a : Act) (o : Oper) (w : World) (u v : Operand) (x y : Int) (ts : Array TypeId) (ho : o.op = .call { callee := .builtin .min, args := #[u, v], argTypes := ts }) (hx : a.eval u = .int .i64 x) (hy : a.eval v = .int .i64 y) :
    (execOp a.eval o).run Tryd.prog w = .ok (.value (.int .i64 (mnI x y))) w := by
  generalize a.eval = ev at hx hy ⊢
  unfold execOp
  simp only [ho]
  go_simp
  unfold mnI
  by_cases h : y < x
  · simp [hx, hy, h]; try omega
  · simp [hx, hy, h]; try omega
theorem run_maxI (a : Act) (o : Oper) (w : World) (u v : Operand) (x y : Int) (ts : Array TypeId) (ho : o.op = .call { callee := .builtin .max, args := #[u, v], argTypes := ts }) (hx : a.eval u = .int .i64 x) (hy : a.eval v = .int .i64 y) :
    (execOp a.eval o).run Tryd.prog w = .ok (.value (.int .i64 (mxI x y))) w := by
  generalize a.eval = ev at hx hy ⊢
  unfold execOp
  simp only [ho]
  go_simp
  unfold mxI
  by_cases h : x < y
  · simp [hx, hy, h]; try omega
  · simp [hx, hy, h]; try omega
theorem run_cvu8 (a : Act) (o : Oper) (w : World) (u : Operand) (x : Int) (ho : o.op = .convert 3 5 u) (hx : a.eval u = .int .i64 x) : (execOp a.eval o).run Tryd.prog w = .ok (.value (.int .u8 (IntKind.u8.wrap x))) w := by
  have e3 := run_underlying Tryd.underlying3 w
  have e5 := run_underlying Tryd.underlying5 w
  unfold execOp
  simp only [ho, hx]
  go_simp
attribute [local irreducible] wpList
set_option maxHeartbeats 8000000 in
set_option maxRecDepth 100000 in
theorem pair_any (w : World) (ks : List Int) (x y : Int) (hk : ks.length = 32) (hkb : ∀ v ∈ ks, 0 ≤ v ∧ v ≤ 255) (hT : TabK w) (hH : TabH w) :
    Calls Tryd.prog 16 #[.agg (u8l ks).toArray, .int .i64 x, .int .i64 y] w fun e w' => e = .returned (.agg (u8l (macS ks [IntKind.u8.wrap (mnI x y), IntKind.u8.wrap (mxI x y)])).toArray) ∧ Below w.heap.size w w' := by
  have HKL := Lib.hid hk
  have HKB := Lib.hid hkb
  have HT := Lib.hid hT
  have HH := Lib.hid hH
  clear hk hkb hT hH
  go_enter Tryd.func16, Tryd.ntmps16
  obtain ⟨w1, hw1⟩ : ∃ V, V = w.alloc (.cells (u8l ks).toArray 23) := ⟨_, rfl⟩
  obtain ⟨w2, hw2⟩ : ∃ V, V = w1.alloc (.cells (u8l (List.replicate 32 0)).toArray 23) := ⟨_, rfl⟩
  have B2 : Hid (Blk w2 w.heap.size 23 (u8l ks).toArray ∧ Blk w2 w1.heap.size 23 (u8l (List.replicate 32 0)).toArray ∧ Below w.heap.size w w2 ∧ w.heap.size < w1.heap.size ∧ w1.heap.size < w2.heap.size) := Lib.hid (by
    have q1 : Below w.heap.size w w1 := by rw [hw1]; exact (Below.refl _ _).alloc (Nat.le_refl _) _
    have q2 : Below w1.heap.size w1 w2 := by rw [hw2]; exact (Below.refl _ _).alloc (Nat.le_refl _) _
    have b1 : Blk w1 w.heap.size 23 (u8l ks).toArray := by rw [hw1]; exact Blk.new _ _ _
    exact ⟨b1.below q2, by rw [hw2]; exact Blk.new _ _ _, q1.trans (q2.mono q1.size), b1.lt, by rw [hw2]; simp⟩)
  go_upto_region 0 with (fail)
  refine wp_region_lit ?_
  refine wpL_value (.pointer (some ⟨w.heap.size, 0, none⟩)) (w1) rfl (run_box26 _ _ _ _ _ ks rfl rfl HKL.out hw1) ?_
  simp only [Act.put, List.setIfInBounds_toArray, List.set_cons_zero, List.set_cons_succ]
  refine wpL_value (.pointer (some ⟨w1.heap.size, 0, none⟩)) (w2) rfl (by rw [hw2]; kernel_rfl) ?_
  simp only [Act.put, List.setIfInBounds_toArray, List.set_cons_zero, List.set_cons_succ]
  clear hw1 hw2
  obtain ⟨g2, h2⟩ : ∃ q, w.heap.size = q := ⟨_, rfl⟩
  have G2 : Hid (w.heap.size = g2) := Lib.hid h2
  rw [h2] at B2
  try rw [h2]
  clear h2
  generalize w1.heap.size = g4 at B2 ⊢
  obtain ⟨w3, hwo⟩ : ∃ V, V = w2.alloc (.cells #[.int .u8 (IntKind.u8.wrap (mnI x y)), .int .u8 (IntKind.u8.wrap (mxI x y))] 5) := ⟨_, rfl⟩
  have B3 : Hid (Blk w3 g2 23 (u8l ks).toArray ∧ Blk w3 g4 23 (u8l (List.replicate 32 0)).toArray ∧ Below g2 w w3 ∧ Sl w3 (some ⟨w2.heap.size, 0, none⟩) 2 2 [(IntKind.u8.wrap (mnI x y)), (IntKind.u8.wrap (mxI x y))]) := Lib.hid (by
    have q : Below w2.heap.size w2 w3 := by rw [hwo]; exact (Below.refl _ _).alloc (Nat.le_refl _) _
    exact ⟨B2.out.1.below q, B2.out.2.1.below q, B2.out.2.2.1.trans (q.mono (by have := B2.out.1.lt; omega)), sl_blk (t := 5) (xs := [(IntKind.u8.wrap (mnI x y)), (IntKind.u8.wrap (mxI x y))]) (by rw [hwo]; exact Blk.new _ _ _) rfl (by have := wrap_u8 x; have := wrap_u8 y; simp; first | exact ⟨wrap_u8 _, wrap_u8 _⟩ | omega) (by omega)⟩)
  obtain ⟨w4, hw4⟩ : ∃ V, V = w3.alloc (.cells #[.slice (some ⟨w2.heap.size, 0, none⟩) 2 2] 44) := ⟨_, rfl⟩
  have B4 : Hid (Blk w4 g2 23 (u8l ks).toArray ∧ Blk w4 g4 23 (u8l (List.replicate 32 0)).toArray ∧ Below g2 w w4 ∧ PSl w4 (some ⟨w3.heap.size, 0, none⟩) 1 [[(IntKind.u8.wrap (mnI x y)), (IntKind.u8.wrap (mxI x y))]]) := Lib.hid (by
    have q : Below w3.heap.size w3 w4 := by rw [hw4]; exact (Below.refl _ _).alloc (Nat.le_refl _) _
    exact ⟨B3.out.1.below q, B3.out.2.1.below q, B3.out.2.2.1.trans (q.mono (by have := B3.out.1.lt; omega)), psl_one (by rw [hw4]; exact Blk.new _ _ _) (B3.out.2.2.2.below q) (by omega)⟩)
  go_upto_region 1 with (fail)
  refine wp_region_lit ?_
  refine wpL_pure (.slice (some ⟨g2, 0, none⟩) 32 32) rfl (by kernel_rfl) ?_
  simp only [Act.put, List.setIfInBounds_toArray, List.set_cons_zero, List.set_cons_succ]
  refine wpL_pure (.int .i64 x) rfl (by kernel_rfl) ?_
  simp only [Act.put, List.setIfInBounds_toArray, List.set_cons_zero, List.set_cons_succ]
  refine wpL_pure (.int .i64 y) rfl (by kernel_rfl) ?_
  simp only [Act.put, List.setIfInBounds_toArray, List.set_cons_zero, List.set_cons_succ]
  refine wpL_pure (.int .i64 (mnI x y)) rfl (run_minI _ _ _ _ _ x y _ rfl rfl rfl) ?_
  simp only [Act.put, List.setIfInBounds_toArray, List.set_cons_zero, List.set_cons_succ]
  refine wpL_pure (.int .u8 (IntKind.u8.wrap (mnI x y))) rfl (run_cvu8 _ _ _ _ _ rfl rfl) ?_
  simp only [Act.put, List.setIfInBounds_toArray, List.set_cons_zero, List.set_cons_succ]
  refine wpL_pure (.int .i64 x) rfl (by kernel_rfl) ?_
  simp only [Act.put, List.setIfInBounds_toArray, List.set_cons_zero, List.set_cons_succ]
  refine wpL_pure (.int .i64 y) rfl (by kernel_rfl) ?_
  simp only [Act.put, List.setIfInBounds_toArray, List.set_cons_zero, List.set_cons_succ]
  refine wpL_pure (.int .i64 (mxI x y)) rfl (run_maxI _ _ _ _ _ x y _ rfl rfl rfl) ?_
  simp only [Act.put, List.setIfInBounds_toArray, List.set_cons_zero, List.set_cons_succ]
  refine wpL_pure (.int .u8 (IntKind.u8.wrap (mxI x y))) rfl (run_cvu8 _ _ _ _ _ rfl rfl) ?_
  simp only [Act.put, List.setIfInBounds_toArray, List.set_cons_zero, List.set_cons_succ]
  refine wpL_value (.slice (some ⟨w2.heap.size, 0, none⟩) 2 2) (w3) rfl (by rw [hwo]; kernel_rfl) ?_
  simp only [Act.put, List.setIfInBounds_toArray, List.set_cons_zero, List.set_cons_succ]
  refine wpL_value (.slice (some ⟨w3.heap.size, 0, none⟩) 1 1) (w4) rfl (by rw [hw4]; kernel_rfl) ?_
  simp only [Act.put, List.setIfInBounds_toArray, List.set_cons_zero, List.set_cons_succ]
  refine wpL_call 33 #[.slice (some ⟨g2, 0, none⟩) 32 32, .slice (some ⟨w3.heap.size, 0, none⟩) 1 1] rfl (by kernel_rfl) (((mac_any w4 (some ⟨g2, 0, none⟩) 32 32 ks (some ⟨w3.heap.size, 0, none⟩) 1 1 [[(IntKind.u8.wrap (mnI x y)), (IntKind.u8.wrap (mxI x y))]] (sl_blk B4.out.1 HKL.out HKB.out (by omega)) (by omega) B4.out.2.2.2 (by omega) (HT.out.below (by rw [G2.out]; exact B4.out.2.2.1)) (HH.out.below (by rw [G2.out]; exact B4.out.2.2.1)))).mono fun e w5 ⟨he, hb⟩ => ⟨.agg (u8l (macS ks [(IntKind.u8.wrap (mnI x y)), (IntKind.u8.wrap (mxI x y))])).toArray, (he.trans (by simp)), ?_⟩)
  simp only [Act.put, List.setIfInBounds_toArray, List.set_cons_zero, List.set_cons_succ]
  have B5 : Hid (Blk w5 g4 23 (u8l (List.replicate 32 0)).toArray ∧ Below g2 w w5) := Lib.hid ⟨B4.out.2.1.below hb, B4.out.2.2.1.trans (hb.mono (by have := B4.out.1.lt; omega))⟩
  clear hb
  refine wpList_store_rowTo rfl 23 _ _ rfl rfl g4 (u8l (macS ks [(IntKind.u8.wrap (mnI x y)), (IntKind.u8.wrap (mxI x y))])).toArray rfl rfl 23 _ B5.out.1 (by simp only [List.size_toArray, u8l_len, macS_len]; kernel_rfl) (by simp [u8l_len, macS_len]) (u8l_one _) ?_
  go_wp2_with fail
  refine bodyPost_ret (results_cell_row rfl _ _ g4 23 _ (0, 0) _ rfl (setRow_heap _ _ _ _ _ _ B5.out.1) Tryd.underlying23 rfl (by simp only [List.size_toArray, u8l_len, macS_len]; kernel_rfl)) rfl ?_
  exact ⟨rfl, by rw [G2.out]; exact below_setRow B5.out.2 (by have := B2.out.2.2.2; omega) _⟩
set_option maxHeartbeats 8000000 in
set_option maxRecDepth 100000 in
theorem refpair_le (w : World) (ks : List Int) (x y : Int) (hk : ks.length = 32) (hkb : ∀ v ∈ ks, 0 ≤ v ∧ v ≤ 255) (hle : ¬ y < x) (hT : TabW w) :
    Calls Tryd.prog 17 #[.agg (u8l ks).toArray, .int .i64 x, .int .i64 y] w fun e w' => e = .returned (.agg (u8l (macS ks [IntKind.u8.wrap x, IntKind.u8.wrap y])).toArray) ∧ Below w.heap.size w w' := by
  have HKL := Lib.hid hk
  have HKB := Lib.hid hkb
  have HTW := Lib.hid hT
  have HLE := Lib.hid hle
  clear hk hkb hT hle
  go_enter Tryd.func17, Tryd.ntmps17
  obtain ⟨w1, hw1⟩ : ∃ V, V = w.alloc (.cells (u8l ks).toArray 23) := ⟨_, rfl⟩
  obtain ⟨w2, hw2⟩ : ∃ V, V = w1.alloc (.cells (u8l (List.replicate 32 0)).toArray 23) := ⟨_, rfl⟩
  have B2 : Hid (Blk w2 w.heap.size 23 (u8l ks).toArray ∧ Blk w2 w1.heap.size 23 (u8l (List.replicate 32 0)).toArray ∧ Below w.heap.size w w2 ∧ w.heap.size < w1.heap.size ∧ w1.heap.size < w2.heap.size) := Lib.hid (by
    have q1 : Below w.heap.size w w1 := by rw [hw1]; exact (Below.refl _ _).alloc (Nat.le_refl _) _
    have q2 : Below w1.heap.size w1 w2 := by rw [hw2]; exact (Below.refl _ _).alloc (Nat.le_refl _) _
    have b1 : Blk w1 w.heap.size 23 (u8l ks).toArray := by rw [hw1]; exact Blk.new _ _ _
    exact ⟨b1.below q2, by rw [hw2]; exact Blk.new _ _ _, q1.trans (q2.mono q1.size), b1.lt, by rw [hw2]; simp⟩)
  go_upto_region 0 with (fail)
  refine wp_region_lit ?_
  refine wpL_value (.pointer (some ⟨w.heap.size, 0, none⟩)) (w1) rfl (run_box26 _ _ _ _ _ ks rfl rfl HKL.out hw1) ?_
  simp only [Act.put, List.setIfInBounds_toArray, List.set_cons_zero, List.set_cons_succ]
  refine wpL_value (.pointer (some ⟨w1.heap.size, 0, none⟩)) (w2) rfl (by rw [hw2]; kernel_rfl) ?_
  simp only [Act.put, List.setIfInBounds_toArray, List.set_cons_zero, List.set_cons_succ]
  clear hw1 hw2
  obtain ⟨g2, h2⟩ : ∃ q, w.heap.size = q := ⟨_, rfl⟩
  have G2 : Hid (w.heap.size = g2) := Lib.hid h2
  rw [h2] at B2
  try rw [h2]
  clear h2
  generalize w1.heap.size = g4 at B2 ⊢
  go_upto_region 1 with (fail)
  refine wp_region_lit ?_
  refine wpL_pure (.int .i64 x) rfl (by kernel_rfl) ?_
  simp only [Act.put, List.setIfInBounds_toArray, List.set_cons_zero, List.set_cons_succ]
  refine wpL_pure (.int .i64 y) rfl (by kernel_rfl) ?_
  simp only [Act.put, List.setIfInBounds_toArray, List.set_cons_zero, List.set_cons_succ]
  refine wpL_pure (.bool false) rfl (run_gti Tryd.underlying3 rfl rfl rfl (by have := HLE.out; rw [decide_eq_false_iff_not]; omega)) ?_
  simp only [Act.put, List.setIfInBounds_toArray, List.set_cons_zero, List.set_cons_succ]
  obtain ⟨w3, hwo⟩ : ∃ V, V = w2.alloc (.cells #[.int .u8 (IntKind.u8.wrap x), .int .u8 (IntKind.u8.wrap y)] 5) := ⟨_, rfl⟩
  have B3 : Hid (Blk w3 g2 23 (u8l ks).toArray ∧ Blk w3 g4 23 (u8l (List.replicate 32 0)).toArray ∧ Below g2 w w3 ∧ Sl w3 (some ⟨w2.heap.size, 0, none⟩) 2 2 [(IntKind.u8.wrap x), (IntKind.u8.wrap y)]) := Lib.hid (by
    have q : Below w2.heap.size w2 w3 := by rw [hwo]; exact (Below.refl _ _).alloc (Nat.le_refl _) _
    exact ⟨B2.out.1.below q, B2.out.2.1.below q, B2.out.2.2.1.trans (q.mono (by have := B2.out.1.lt; omega)), sl_blk (t := 5) (xs := [(IntKind.u8.wrap x), (IntKind.u8.wrap y)]) (by rw [hwo]; exact Blk.new _ _ _) rfl (by have := wrap_u8 x; have := wrap_u8 y; simp; first | exact ⟨wrap_u8 _, wrap_u8 _⟩ | omega) (by omega)⟩)
  go_upto_region 3 with (fail)
  refine wp_region_lit ?_
  refine wpL_pure (.slice (some ⟨g2, 0, none⟩) 32 32) rfl (by kernel_rfl) ?_
  simp only [Act.put, List.setIfInBounds_toArray, List.set_cons_zero, List.set_cons_succ]
  refine wpL_pure (.int .i64 x) rfl (by kernel_rfl) ?_
  simp only [Act.put, List.setIfInBounds_toArray, List.set_cons_zero, List.set_cons_succ]
  refine wpL_pure (.int .u8 (IntKind.u8.wrap x)) rfl (run_cvu8 _ _ _ _ _ rfl rfl) ?_
  simp only [Act.put, List.setIfInBounds_toArray, List.set_cons_zero, List.set_cons_succ]
  refine wpL_pure (.int .i64 y) rfl (by kernel_rfl) ?_
  simp only [Act.put, List.setIfInBounds_toArray, List.set_cons_zero, List.set_cons_succ]
  refine wpL_pure (.int .u8 (IntKind.u8.wrap y)) rfl (run_cvu8 _ _ _ _ _ rfl rfl) ?_
  simp only [Act.put, List.setIfInBounds_toArray, List.set_cons_zero, List.set_cons_succ]
  refine wpL_value (.slice (some ⟨w2.heap.size, 0, none⟩) 2 2) (w3) rfl (by rw [hwo]; kernel_rfl) ?_
  simp only [Act.put, List.setIfInBounds_toArray, List.set_cons_zero, List.set_cons_succ]
  refine wpL_call 19 #[.slice (some ⟨g2, 0, none⟩) 32 32, .slice (some ⟨w2.heap.size, 0, none⟩) 2 2] rfl (by kernel_rfl) (((refmac_any w3 (some ⟨g2, 0, none⟩) 32 32 ks (some ⟨w2.heap.size, 0, none⟩) 2 2 [(IntKind.u8.wrap x), (IntKind.u8.wrap y)] (sl_blk B3.out.1 HKL.out HKB.out (by omega)) (by omega) B3.out.2.2.2 (by omega) (HTW.out.below (by rw [G2.out]; exact B3.out.2.2.1)))).mono fun e w5 ⟨he, hb⟩ => ⟨.agg (u8l (macS ks [(IntKind.u8.wrap x), (IntKind.u8.wrap y)])).toArray, he, ?_⟩)
  simp only [Act.put, List.setIfInBounds_toArray, List.set_cons_zero, List.set_cons_succ]
  have B5 : Hid (Blk w5 g4 23 (u8l (List.replicate 32 0)).toArray ∧ Below g2 w w5) := Lib.hid ⟨B3.out.2.1.below hb, B3.out.2.2.1.trans (hb.mono (by have := B3.out.1.lt; omega))⟩
  clear hb
  refine wpList_store_rowTo rfl 23 _ _ rfl rfl g4 (u8l (macS ks [(IntKind.u8.wrap x), (IntKind.u8.wrap y)])).toArray rfl rfl 23 _ B5.out.1 (by simp only [List.size_toArray, u8l_len, macS_len]; kernel_rfl) (by simp [u8l_len, macS_len]) (u8l_one _) ?_
  go_wp2_with fail
  refine bodyPost_ret (results_cell_row rfl _ _ g4 23 _ (0, 0) _ rfl (setRow_heap _ _ _ _ _ _ B5.out.1) Tryd.underlying23 rfl (by simp only [List.size_toArray, u8l_len, macS_len]; kernel_rfl)) rfl ?_
  exact ⟨rfl, by rw [G2.out]; exact below_setRow B5.out.2 (by have := B2.out.2.2.2; omega) _⟩
set_option maxHeartbeats 8000000 in
set_option maxRecDepth 100000 in
theorem refpair_any (w : World) (ks : List Int) (x y : Int) (hk : ks.length = 32) (hkb : ∀ v ∈ ks, 0 ≤ v ∧ v ≤ 255) (hT : TabW w) :
    Calls Tryd.prog 17 #[.agg (u8l ks).toArray, .int .i64 x, .int .i64 y] w fun e w' => e = .returned (.agg (u8l (macS ks [IntKind.u8.wrap (mnI x y), IntKind.u8.wrap (mxI x y)])).toArray) ∧ Below w.heap.size w w' := by
  by_cases hgt : y < x
  rotate_left
  · have e1 : mnI x y = x := by simp [mnI, hgt]
    have e2 : mxI x y = y := by unfold mxI; split <;> omega
    rw [e1, e2]
    exact refpair_le w ks x y hk hkb hgt hT
  have HKL := Lib.hid hk
  have HKB := Lib.hid hkb
  have HTW := Lib.hid hT
  have HGT := Lib.hid hgt
  clear hk hkb hT hgt
  go_enter Tryd.func17, Tryd.ntmps17
  obtain ⟨w1, hw1⟩ : ∃ V, V = w.alloc (.cells (u8l ks).toArray 23) := ⟨_, rfl⟩
  obtain ⟨w2, hw2⟩ : ∃ V, V = w1.alloc (.cells (u8l (List.replicate 32 0)).toArray 23) := ⟨_, rfl⟩
  have B2 : Hid (Blk w2 w.heap.size 23 (u8l ks).toArray ∧ Blk w2 w1.heap.size 23 (u8l (List.replicate 32 0)).toArray ∧ Below w.heap.size w w2 ∧ w.heap.size < w1.heap.size ∧ w1.heap.size < w2.heap.size) := Lib.hid (by
    have q1 : Below w.heap.size w w1 := by rw [hw1]; exact (Below.refl _ _).alloc (Nat.le_refl _) _
    have q2 : Below w1.heap.size w1 w2 := by rw [hw2]; exact (Below.refl _ _).alloc (Nat.le_refl _) _
    have b1 : Blk w1 w.heap.size 23 (u8l ks).toArray := by rw [hw1]; exact Blk.new _ _ _
    exact ⟨b1.below q2, by rw [hw2]; exact Blk.new _ _ _, q1.trans (q2.mono q1.size), b1.lt, by rw [hw2]; simp⟩)
  go_upto_region 0 with (fail)
  refine wp_region_lit ?_
  refine wpL_value (.pointer (some ⟨w.heap.size, 0, none⟩)) (w1) rfl (run_box26 _ _ _ _ _ ks rfl rfl HKL.out hw1) ?_
  simp only [Act.put, List.setIfInBounds_toArray, List.set_cons_zero, List.set_cons_succ]
  refine wpL_value (.pointer (some ⟨w1.heap.size, 0, none⟩)) (w2) rfl (by rw [hw2]; kernel_rfl) ?_
  simp only [Act.put, List.setIfInBounds_toArray, List.set_cons_zero, List.set_cons_succ]
  clear hw1 hw2
  obtain ⟨g2, h2⟩ : ∃ q, w.heap.size = q := ⟨_, rfl⟩
  have G2 : Hid (w.heap.size = g2) := Lib.hid h2
  rw [h2] at B2
  try rw [h2]
  clear h2
  generalize w1.heap.size = g4 at B2 ⊢
  go_upto_region 1 with (fail)
  refine wp_region_lit ?_
  refine wpL_pure (.int .i64 x) rfl (by kernel_rfl) ?_
  simp only [Act.put, List.setIfInBounds_toArray, List.set_cons_zero, List.set_cons_succ]
  refine wpL_pure (.int .i64 y) rfl (by kernel_rfl) ?_
  simp only [Act.put, List.setIfInBounds_toArray, List.set_cons_zero, List.set_cons_succ]
  refine wpL_pure (.bool true) rfl (run_gti Tryd.underlying3 rfl rfl rfl (by have := HGT.out; rw [decide_eq_true_eq]; omega)) ?_
  simp only [Act.put, List.setIfInBounds_toArray, List.set_cons_zero, List.set_cons_succ]
  go_upto_region 2 with (fail)
  refine wp_region_lit ?_
  refine wpL_pure (.agg (u8l ks).toArray) rfl (run_load_mid _ _ _ 23 _ rfl g2 0 rfl (u8l ks) _ (blk_range B2.out.1) Tryd.underlying23 rfl (by simp only [u8l_len, HKL.out]; kernel_rfl)) ?_
  simp only [Act.put, List.setIfInBounds_toArray, List.set_cons_zero, List.set_cons_succ]
  refine wpL_pure (.int .i64 y) rfl (by kernel_rfl) ?_
  simp only [Act.put, List.setIfInBounds_toArray, List.set_cons_zero, List.set_cons_succ]
  refine wpL_pure (.int .i64 x) rfl (by kernel_rfl) ?_
  simp only [Act.put, List.setIfInBounds_toArray, List.set_cons_zero, List.set_cons_succ]
  refine wpL_call 17 #[.agg (u8l ks).toArray, .int .i64 y, .int .i64 x] rfl (by kernel_rfl) (((refpair_le w2 ks y x HKL.out HKB.out (by have := HGT.out; omega) (HTW.out.below (by rw [G2.out]; exact B2.out.2.2.1)))).mono fun e w5 ⟨he, hb⟩ => ⟨.agg (u8l (macS ks [IntKind.u8.wrap y, IntKind.u8.wrap x])).toArray, he, ?_⟩)
  simp only [Act.put, List.setIfInBounds_toArray, List.set_cons_zero, List.set_cons_succ]
  have B5 : Hid (Blk w5 g4 23 (u8l (List.replicate 32 0)).toArray ∧ Below g2 w w5) := Lib.hid ⟨B2.out.2.1.below hb, B2.out.2.2.1.trans (hb.mono (by have := B2.out.1.lt; omega))⟩
  clear hb
  refine wpList_store_rowTo rfl 23 _ _ rfl rfl g4 (u8l (macS ks [IntKind.u8.wrap y, IntKind.u8.wrap x])).toArray rfl rfl 23 _ B5.out.1 (by simp only [List.size_toArray, u8l_len, macS_len]; kernel_rfl) (by simp [u8l_len, macS_len]) (u8l_one _) ?_
  go_wp2_with fail
  refine bodyPost_ret (results_cell_row rfl _ _ g4 23 _ (0, 0) _ rfl (setRow_heap _ _ _ _ _ _ B5.out.1) Tryd.underlying23 rfl (by simp only [List.size_toArray, u8l_len, macS_len]; kernel_rfl)) rfl ?_
  exact ⟨by simp [mnI, mxI, show y < x by have := HGT.out; omega, show ¬ x < y by have := HGT.out; omega], by rw [G2.out]; exact below_setRow B5.out.2 (by have := B2.out.2.2.2; omega) _⟩
end Go.Proofs.YtofdbjlhgfmgfaaDoor.Ha
