import Derived.Test.YtggbmajajpafnaaDoorH10
import Derived.Test.YtggbmajajpafnaaDoorHeldAll
namespace Go.Proofs.YtggbmajajpafnaaDoor
open Go Go.RowKit

theorem pre_take {cur : List Value} {ks info : List Int} {m M : Nat} (h : cur.take M = u8l (expS ks info M)) (hm : m ≤ M) : cur.take m = u8l (expS ks info m) := by
  have q : cur.take m = (cur.take M).take m := by rw [List.take_take, Nat.min_eq_left hm]
  rw [q, h, ← expS_take hm]
  unfold u8l
  rw [List.map_take]
theorem nat_u16 {p : Int} (h : (Lit.int .u16 p).wf = true) : ∃ P : Nat, p = (P : Int) ∧ P < 65536 := by
  have h1 := bounds_u16 h
  exact ⟨p.toNat, by omega, by omega⟩
attribute [local irreducible] wpList
set_option maxHeartbeats 8000000 in
set_option maxRecDepth 100000 in
theorem walkHashGoes (ks : List Int) (a : Option Addr) (n c : Nat) (zs : List Int) (p q : Int) (hkl : ks.length = 32) (hkw : ∀ x ∈ ks, (Lit.int .u8 x).wf = true) (hp : (Lit.int .u16 p).wf = true) (hq : (Lit.int .u16 q).wf = true) (w : World) (h : IsRow .u8 w a n c zs) (tabs : TabK w ∧ TabH w) :
    Calls Tryd.prog 4 #[.agg (ks.map (Value.int .u8)).toArray, .slice a n c, .agg #[.int .u16 p, .int .u16 q]] w fun e w' => e = .returned (.bool true) ∧ Below w.heap.size w w' := by
  obtain ⟨p, rfl, hp'⟩ := nat_u16 hp
  obtain ⟨q, rfl, hq'⟩ := nat_u16 hq
  show Calls Tryd.prog 4 #[.agg (u8l ks).toArray, .slice a n c, .agg #[.int .u16 (p : Int), .int .u16 (q : Int)]] w fun e w' => e = .returned (.bool true) ∧ Below w.heap.size w w'
  have HKL := Lib.hid hkl
  have HKB := Lib.hid (u8_bounds hkw)
  obtain ⟨bs, hbs⟩ : ∃ q, zs.take n = q := ⟨_, rfl⟩
  have hs := sl_of h
  rw [hbs] at hs
  have HS := Lib.hid hs
  have HPL := Lib.hid hp'
  have HQL := Lib.hid hq'
  have HT := Lib.hid tabs.1
  have HH := Lib.hid tabs.2
  clear hkl hkw hbs hs h tabs hp hq hp' hq'
  go_enter Tryd.func4, Tryd.ntmps4
  obtain ⟨w1, hw1⟩ : ∃ V, V = w.alloc (.cells (u8l ks).toArray 26) := ⟨_, rfl⟩
  obtain ⟨w2, hw2⟩ : ∃ V, V = w1.alloc (.cells #[.int .u16 (p : Int), .int .u16 (q : Int)] 30) := ⟨_, rfl⟩
  have B1 : Hid (Blk w2 w.heap.size 26 (u8l ks).toArray ∧ Below w.heap.size w w2 ∧ Blk w2 w1.heap.size 30 #[.int .u16 (p : Int), .int .u16 (q : Int)] ∧ w.heap.size < w1.heap.size) := Lib.hid (by
    have q1 : Below w.heap.size w w1 := by rw [hw1]; exact (Below.refl _ _).alloc (Nat.le_refl _) _
    have q2 : Below w1.heap.size w1 w2 := by rw [hw2]; exact (Below.refl _ _).alloc (Nat.le_refl _) _
    have b1 : Blk w1 w.heap.size 26 (u8l ks).toArray := by rw [hw1]; exact Blk.new _ _ _
    exact ⟨b1.below q2, q1.trans (q2.mono q1.size), by rw [hw2]; exact Blk.new _ _ _, b1.lt⟩)
  go_upto_region 0 with (fail)
  refine wp_region_lit ?_
  refine wpL_value (.pointer (some ⟨w.heap.size, 0, none⟩)) (w1) rfl (run_box26 _ _ _ _ _ ks rfl rfl HKL.out hw1) ?_
  simp only [Act.put, List.setIfInBounds_toArray, List.set_cons_zero, List.set_cons_succ]
  refine wpL_value (.pointer (some ⟨w1.heap.size, 0, none⟩)) (w2) rfl (by rw [hw2]; kernel_rfl) ?_
  simp only [Act.put, List.setIfInBounds_toArray, List.set_cons_zero, List.set_cons_succ]
  refine wpL_pure (.bool false) rfl (by kernel_rfl) ?_
  simp only [Act.put, List.setIfInBounds_toArray, List.set_cons_zero, List.set_cons_succ]
  clear hw1 hw2
  obtain ⟨g2, h3⟩ : ∃ q, w.heap.size = q := ⟨_, rfl⟩
  have G2 : Hid (w.heap.size = g2) := Lib.hid h3
  rw [h3] at B1
  try rw [h3]
  clear h3
  generalize w1.heap.size = g5 at B1 ⊢
  go_upto_region 1 with (fail)
  refine region_held_all (fun X => Blk X g2 26 (u8l ks).toArray ∧ Below g2 w X ∧ Blk X g5 30 #[.int .u16 (p : Int), .int .u16 (q : Int)]) (by kernel_rfl) (by kernel_rfl) (by exact ⟨B1.out.1, B1.out.2.1.drew, B1.out.2.2.1⟩) ?_
  refine wpHeld_cons (.pointer (some ⟨g5, 0, none⟩)) rfl (fun w h => heldRun_value (by kernel_rfl) h) ?_
  simp only [Act.put, List.setIfInBounds_toArray, List.set_cons_zero, List.set_cons_succ]
  refine wpHeld_cons (.int .u16 (p : Int)) rfl (fun w h => heldRun_value (run_load_one _ _ _ 29 _ _ rfl (g5) (0) rfl (by rw [h.2.2.cell]; rfl) (by kernel_rfl)) h) ?_
  simp only [Act.put, List.setIfInBounds_toArray, List.set_cons_zero, List.set_cons_succ]
  refine wpHeld_cons (.pointer (some ⟨g5, 1, none⟩)) rfl (fun w h => heldRun_value (by kernel_rfl) h) ?_
  simp only [Act.put, List.setIfInBounds_toArray, List.set_cons_zero, List.set_cons_succ]
  refine wpHeld_cons (.int .u16 (q : Int)) rfl (fun w h => heldRun_value (run_load_one _ _ _ 29 _ _ rfl (g5) (1) rfl (by rw [h.2.2.cell]; rfl) (by kernel_rfl)) h) ?_
  simp only [Act.put, List.setIfInBounds_toArray, List.set_cons_zero, List.set_cons_succ]
  refine wpHeld_cons (.int .u16 (p : Int)) rfl (fun w h => heldRun_value (by kernel_rfl) h) ?_
  simp only [Act.put, List.setIfInBounds_toArray, List.set_cons_zero, List.set_cons_succ]
  refine wpHeld_cons (.int .u16 (q : Int)) rfl (fun w h => heldRun_value (by kernel_rfl) h) ?_
  simp only [Act.put, List.setIfInBounds_toArray, List.set_cons_zero, List.set_cons_succ]
  refine wpHeld_nil ?_
  intro x0 h
  have B2 := Lib.hid h
  clear h B1
  go_upto_region 2 with (fail)
  refine wp_region_lit ?_
  refine wpL_call 10 #[] rfl (by kernel_rfl) (((awake_any x0 (HT.out.below (by rw [G2.out]; exact B2.out.2.1)) (HH.out.below (by rw [G2.out]; exact B2.out.2.1)))).mono fun e x1 ⟨he, hb⟩ => ⟨.bool true, he, ?_⟩)
  simp only [Act.put, List.setIfInBounds_toArray, List.set_cons_zero, List.set_cons_succ]
  have B3 : Hid (Blk x1 g2 26 (u8l ks).toArray ∧ Below g2 w x1) := Lib.hid ⟨B2.out.1.below hb, B2.out.2.1.trans (hb.mono (by have := B2.out.1.lt; omega))⟩
  clear hb
  refine wpL_pure (.bool false) rfl (by kernel_rfl) ?_
  simp only [Act.put, List.setIfInBounds_toArray, List.set_cons_zero, List.set_cons_succ]
  refine wpL_pure (.bool false) rfl (by kernel_rfl) ?_
  simp only [Act.put, List.setIfInBounds_toArray, List.set_cons_zero, List.set_cons_succ]
  refine wpL_pure (.slice a n c) rfl (by kernel_rfl) ?_
  simp only [Act.put, List.setIfInBounds_toArray, List.set_cons_zero, List.set_cons_succ]
  refine wpL_pure (.int .i64 (n : Int)) rfl (by kernel_rfl) ?_
  simp only [Act.put, List.setIfInBounds_toArray, List.set_cons_zero, List.set_cons_succ]
  by_cases hl : n ≤ 100
  · have HL := Lib.hid hl
    clear hl
    refine wpL_pure (.bool false) rfl (run_gti Tryd.underlying3 rfl rfl rfl (by have := HL.out; rw [decide_eq_false_iff_not]; omega)) ?_
    simp only [Act.put, List.setIfInBounds_toArray, List.set_cons_zero, List.set_cons_succ]
    refine wpL_pure (.bool false) rfl (by kernel_rfl) ?_
    simp only [Act.put, List.setIfInBounds_toArray, List.set_cons_zero, List.set_cons_succ]
    obtain ⟨x, hx⟩ : ∃ v, p % 500 = v := ⟨_, rfl⟩
    obtain ⟨y, hy⟩ : ∃ v, q % 500 = v := ⟨_, rfl⟩
    obtain ⟨m, hm⟩ : ∃ v, min2n x y = v := ⟨_, rfl⟩
    obtain ⟨M, hM⟩ : ∃ v, max2n x y = v := ⟨_, rfl⟩
    have XL : Hid (x < 500 ∧ y < 500) := Lib.hid (by omega)
    have HX := Lib.hid hx
    have HY := Lib.hid hy
    have HMI := Lib.hid hm
    have HMA := Lib.hid hM
    have ML : Hid (m ≤ M ∧ M < 500) := Lib.hid (by have := XL.out; rw [← hm, ← hM]; unfold min2n max2n; split <;> split <;> omega)
    clear hx hy hm hM
    go_upto_region 4 with (fail)
    refine wp_region_lit ?_
    refine wpL_pure (.int .u16 (p : Int)) rfl (by kernel_rfl) ?_
    simp only [Act.put, List.setIfInBounds_toArray, List.set_cons_zero, List.set_cons_succ]
    refine wpL_pure (.int .u16 (x : Int)) rfl (by rw [← HX.out]; exact run_rem500 _ _ _ _ p rfl rfl HPL.out) ?_
    simp only [Act.put, List.setIfInBounds_toArray, List.set_cons_zero, List.set_cons_succ]
    refine wpL_pure (.int .i64 (x : Int)) rfl (run_convi Tryd.underlying29 Tryd.underlying3 rfl rfl _ (by have := XL.out; rw [wrap_in _ (by omega) (by omega)])) ?_
    simp only [Act.put, List.setIfInBounds_toArray, List.set_cons_zero, List.set_cons_succ]
    refine wpL_pure (.int .u16 (q : Int)) rfl (by kernel_rfl) ?_
    simp only [Act.put, List.setIfInBounds_toArray, List.set_cons_zero, List.set_cons_succ]
    refine wpL_pure (.int .u16 (y : Int)) rfl (by rw [← HY.out]; exact run_rem500 _ _ _ _ q rfl rfl HQL.out) ?_
    simp only [Act.put, List.setIfInBounds_toArray, List.set_cons_zero, List.set_cons_succ]
    refine wpL_pure (.int .i64 (y : Int)) rfl (run_convi Tryd.underlying29 Tryd.underlying3 rfl rfl _ (by have := XL.out; rw [wrap_in _ (by omega) (by omega)])) ?_
    simp only [Act.put, List.setIfInBounds_toArray, List.set_cons_zero, List.set_cons_succ]
    refine wpL_pure (.int .i64 (x : Int)) rfl (by kernel_rfl) ?_
    simp only [Act.put, List.setIfInBounds_toArray, List.set_cons_zero, List.set_cons_succ]
    refine wpL_pure (.int .i64 (y : Int)) rfl (by kernel_rfl) ?_
    simp only [Act.put, List.setIfInBounds_toArray, List.set_cons_zero, List.set_cons_succ]
    go_upto_region 5 with (fail)
    refine wp_region_lit ?_
    refine wpL_load 26 _ rfl rfl g2 0 rfl (u8l ks) _ (blk_range B3.out.1) Tryd.underlying26 rfl (by rw [u8l_len, HKL.out]; kernel_rfl) ?_
    simp only [Act.put, List.setIfInBounds_toArray, List.set_cons_zero, List.set_cons_succ]
    refine wpL_pure (.slice a n c) rfl (by kernel_rfl) ?_
    simp only [Act.put, List.setIfInBounds_toArray, List.set_cons_zero, List.set_cons_succ]
    refine wpL_pure (.int .i64 (x : Int)) rfl (by kernel_rfl) ?_
    simp only [Act.put, List.setIfInBounds_toArray, List.set_cons_zero, List.set_cons_succ]
    refine wpL_pure (.int .i64 (y : Int)) rfl (by kernel_rfl) ?_
    simp only [Act.put, List.setIfInBounds_toArray, List.set_cons_zero, List.set_cons_succ]
    refine wpL_pure (.int .i64 (m : Int)) rfl (by rw [← HMI.out]; exact run_min2n _ _ _ _ _ x y _ rfl rfl rfl) ?_
    simp only [Act.put, List.setIfInBounds_toArray, List.set_cons_zero, List.set_cons_succ]
    refine wpL_call 13 #[.agg (u8l ks).toArray, .slice a n c, .int .i64 (m : Int)] rfl (by kernel_rfl) (((expand_any x1 ks HKL.out HKB.out a n c bs (HS.out.below (by rw [G2.out]; exact B3.out.2)) (by have := HL.out; omega) m (by have := ML.out; omega) (HT.out.below (by rw [G2.out]; exact B3.out.2)) (HH.out.below (by rw [G2.out]; exact B3.out.2)))).mono fun e x2 ⟨gx, cx, he, p1, p2, p3, p4, p5⟩ => ⟨.tuple #[.slice (some ⟨gx, 0, none⟩) m m, .int .i64 0], he, ?_⟩)
    simp only [Act.put, List.setIfInBounds_toArray, List.set_cons_zero, List.set_cons_succ]
    have X4 : Hid (Blk x2 g2 26 (u8l ks).toArray ∧ Below g2 w x2 ∧ Row x2 (some ⟨gx, 0, none⟩) m (expS ks bs m)) := Lib.hid ⟨B3.out.1.below p5, B3.out.2.trans (p5.mono (by have := B3.out.1.lt; omega)), (sl_pre p2 p4 expS_len expS_byte (by have := ML.out; omega)).1⟩
    clear p1 p2 p3 p4 p5
    refine wpL_pure (.tuple #[.slice (some ⟨gx, 0, none⟩) m m, .int .i64 0]) rfl (by kernel_rfl) ?_
    simp only [Act.put, List.setIfInBounds_toArray, List.set_cons_zero, List.set_cons_succ]
    refine wpL_pure (.slice (some ⟨gx, 0, none⟩) m m) rfl (by kernel_rfl) ?_
    simp only [Act.put, List.setIfInBounds_toArray, List.set_cons_zero, List.set_cons_succ]
    refine wpL_pure (.int .i64 0) rfl (by kernel_rfl) ?_
    simp only [Act.put, List.setIfInBounds_toArray, List.set_cons_zero, List.set_cons_succ]
    refine wpL_pure (.slice (some ⟨gx, 0, none⟩) m m) rfl (by kernel_rfl) ?_
    simp only [Act.put, List.setIfInBounds_toArray, List.set_cons_zero, List.set_cons_succ]
    refine wpL_pure (.int .i64 0) rfl (by kernel_rfl) ?_
    simp only [Act.put, List.setIfInBounds_toArray, List.set_cons_zero, List.set_cons_succ]
    go_upto_region 6 with (fail)
    refine wp_region_lit ?_
    refine wpL_load 26 _ rfl rfl g2 0 rfl (u8l ks) _ (blk_range X4.out.1) Tryd.underlying26 rfl (by rw [u8l_len, HKL.out]; kernel_rfl) ?_
    simp only [Act.put, List.setIfInBounds_toArray, List.set_cons_zero, List.set_cons_succ]
    refine wpL_pure (.slice a n c) rfl (by kernel_rfl) ?_
    simp only [Act.put, List.setIfInBounds_toArray, List.set_cons_zero, List.set_cons_succ]
    refine wpL_pure (.int .i64 (x : Int)) rfl (by kernel_rfl) ?_
    simp only [Act.put, List.setIfInBounds_toArray, List.set_cons_zero, List.set_cons_succ]
    refine wpL_pure (.int .i64 (y : Int)) rfl (by kernel_rfl) ?_
    simp only [Act.put, List.setIfInBounds_toArray, List.set_cons_zero, List.set_cons_succ]
    refine wpL_pure (.int .i64 (M : Int)) rfl (by rw [← HMA.out]; exact run_max2n _ _ _ _ _ x y _ rfl rfl rfl) ?_
    simp only [Act.put, List.setIfInBounds_toArray, List.set_cons_zero, List.set_cons_succ]
    refine wpL_call 13 #[.agg (u8l ks).toArray, .slice a n c, .int .i64 (M : Int)] rfl (by kernel_rfl) (((expand_any x2 ks HKL.out HKB.out a n c bs (HS.out.below (by rw [G2.out]; exact X4.out.2.1)) (by have := HL.out; omega) M (by have := ML.out; omega) (HT.out.below (by rw [G2.out]; exact X4.out.2.1)) (HH.out.below (by rw [G2.out]; exact X4.out.2.1)))).mono fun e x3 ⟨gy, cy, he, p1, p2, p3, p4, p5⟩ => ⟨.tuple #[.slice (some ⟨gy, 0, none⟩) M M, .int .i64 0], he, ?_⟩)
    simp only [Act.put, List.setIfInBounds_toArray, List.set_cons_zero, List.set_cons_succ]
    have X5 : Hid (Below g2 w x3 ∧ Row x3 (some ⟨gx, 0, none⟩) m (expS ks bs m) ∧ Row x3 (some ⟨gy, 0, none⟩) m (expS ks bs m)) := Lib.hid ⟨X4.out.2.1.trans (p5.mono (by have := X4.out.1.lt; omega)), X4.out.2.2.keep p5, (sl_pre p2 (pre_take p4 ML.out.1) expS_len expS_byte (by have := ML.out; omega)).1⟩
    clear p1 p2 p3 p4 p5
    refine wpL_pure (.tuple #[.slice (some ⟨gy, 0, none⟩) M M, .int .i64 0]) rfl (by kernel_rfl) ?_
    simp only [Act.put, List.setIfInBounds_toArray, List.set_cons_zero, List.set_cons_succ]
    refine wpL_pure (.slice (some ⟨gy, 0, none⟩) M M) rfl (by kernel_rfl) ?_
    simp only [Act.put, List.setIfInBounds_toArray, List.set_cons_zero, List.set_cons_succ]
    refine wpL_pure (.int .i64 0) rfl (by kernel_rfl) ?_
    simp only [Act.put, List.setIfInBounds_toArray, List.set_cons_zero, List.set_cons_succ]
    refine wpL_pure (.slice (some ⟨gy, 0, none⟩) M M) rfl (by kernel_rfl) ?_
    simp only [Act.put, List.setIfInBounds_toArray, List.set_cons_zero, List.set_cons_succ]
    refine wpL_pure (.int .i64 0) rfl (by kernel_rfl) ?_
    simp only [Act.put, List.setIfInBounds_toArray, List.set_cons_zero, List.set_cons_succ]
    go_upto_region 7 with (fail)
    refine region_held_all (fun X => Below g2 w X ∧ Row X (some ⟨gx, 0, none⟩) m (expS ks bs m) ∧ Row X (some ⟨gy, 0, none⟩) m (expS ks bs m)) (by kernel_rfl) (by kernel_rfl) (by exact ⟨X5.out.1.drew, X5.out.2⟩) ?_
    refine wpHeld_cons (.int .i64 0) rfl (fun w h => heldRun_value (by kernel_rfl) h) ?_
    simp only [Act.put, List.setIfInBounds_toArray, List.set_cons_zero, List.set_cons_succ]
    refine wpHeld_cons (.bool true) rfl (fun w h => heldRun_value (by kernel_rfl) h) ?_
    simp only [Act.put, List.setIfInBounds_toArray, List.set_cons_zero, List.set_cons_succ]
    refine wpHeld_cons (.bool true) rfl (fun w h => heldRun_value (by kernel_rfl) h) ?_
    simp only [Act.put, List.setIfInBounds_toArray, List.set_cons_zero, List.set_cons_succ]
    refine wpHeld_cons (.int .i64 0) rfl (fun w h => heldRun_value (by kernel_rfl) h) ?_
    simp only [Act.put, List.setIfInBounds_toArray, List.set_cons_zero, List.set_cons_succ]
    refine wpHeld_cons (.bool true) rfl (fun w h => heldRun_value (by kernel_rfl) h) ?_
    simp only [Act.put, List.setIfInBounds_toArray, List.set_cons_zero, List.set_cons_succ]
    refine wpHeld_cons (.bool true) rfl (fun w h => heldRun_value (by kernel_rfl) h) ?_
    simp only [Act.put, List.setIfInBounds_toArray, List.set_cons_zero, List.set_cons_succ]
    refine wpHeld_cons (.bool true) rfl (fun w h => heldRun_value (by kernel_rfl) h) ?_
    simp only [Act.put, List.setIfInBounds_toArray, List.set_cons_zero, List.set_cons_succ]
    refine wpHeld_cons (.slice (some ⟨gy, 0, none⟩) M M) rfl (fun w h => heldRun_value (by kernel_rfl) h) ?_
    simp only [Act.put, List.setIfInBounds_toArray, List.set_cons_zero, List.set_cons_succ]
    refine wpHeld_cons (.int .i64 (M : Int)) rfl (fun w h => heldRun_value (by kernel_rfl) h) ?_
    simp only [Act.put, List.setIfInBounds_toArray, List.set_cons_zero, List.set_cons_succ]
    refine wpHeld_cons (.int .i64 (x : Int)) rfl (fun w h => heldRun_value (by kernel_rfl) h) ?_
    simp only [Act.put, List.setIfInBounds_toArray, List.set_cons_zero, List.set_cons_succ]
    refine wpHeld_cons (.int .i64 (y : Int)) rfl (fun w h => heldRun_value (by kernel_rfl) h) ?_
    simp only [Act.put, List.setIfInBounds_toArray, List.set_cons_zero, List.set_cons_succ]
    refine wpHeld_cons (.int .i64 (M : Int)) rfl (fun w h => heldRun_value (by rw [← HMA.out]; exact run_max2n _ _ _ _ _ x y _ rfl rfl rfl) h) ?_
    simp only [Act.put, List.setIfInBounds_toArray, List.set_cons_zero, List.set_cons_succ]
    refine wpHeld_cons (.bool true) rfl (fun w h => heldRun_value (run_eqi Tryd.underlying3 rfl rfl rfl (by simp)) h) ?_
    simp only [Act.put, List.setIfInBounds_toArray, List.set_cons_zero, List.set_cons_succ]
    refine wpHeld_cons (.bool true) rfl (fun w h => heldRun_value (by kernel_rfl) h) ?_
    simp only [Act.put, List.setIfInBounds_toArray, List.set_cons_zero, List.set_cons_succ]
    refine wpHeld_cons (.bool true) rfl (fun w h => heldRun_value (by kernel_rfl) h) ?_
    simp only [Act.put, List.setIfInBounds_toArray, List.set_cons_zero, List.set_cons_succ]
    refine wpHeld_cons (.slice (some ⟨gy, 0, none⟩) M M) rfl (fun w h => heldRun_value (by kernel_rfl) h) ?_
    simp only [Act.put, List.setIfInBounds_toArray, List.set_cons_zero, List.set_cons_succ]
    refine wpHeld_cons (.int .i64 (x : Int)) rfl (fun w h => heldRun_value (by kernel_rfl) h) ?_
    simp only [Act.put, List.setIfInBounds_toArray, List.set_cons_zero, List.set_cons_succ]
    refine wpHeld_cons (.int .i64 (y : Int)) rfl (fun w h => heldRun_value (by kernel_rfl) h) ?_
    simp only [Act.put, List.setIfInBounds_toArray, List.set_cons_zero, List.set_cons_succ]
    refine wpHeld_cons (.int .i64 (m : Int)) rfl (fun w h => heldRun_value (by rw [← HMI.out]; exact run_min2n _ _ _ _ _ x y _ rfl rfl rfl) h) ?_
    simp only [Act.put, List.setIfInBounds_toArray, List.set_cons_zero, List.set_cons_succ]
    refine wpHeld_cons (.slice (some ⟨gy, 0, none⟩) m M) rfl (fun w h => heldRun_value (run_slto _ _ _ _ _ _ _ _ m rfl rfl rfl ML.out.1 (by have := ML.out; omega) (fun _ p hp => by cases hp; rfl)) h) ?_
    simp only [Act.put, List.setIfInBounds_toArray, List.set_cons_zero, List.set_cons_succ]
    refine wpHeld_cons (.string (strOfNums (expS ks bs m))) rfl (fun w h => heldRun_value (run_conv_str _ _ _ _ _ _ _ (expS ks bs m) rfl rfl h.2.2) h) ?_
    simp only [Act.put, List.setIfInBounds_toArray, List.set_cons_zero, List.set_cons_succ]
    refine wpHeld_cons (.slice (some ⟨gx, 0, none⟩) m m) rfl (fun w h => heldRun_value (by kernel_rfl) h) ?_
    simp only [Act.put, List.setIfInBounds_toArray, List.set_cons_zero, List.set_cons_succ]
    refine wpHeld_cons (.string (strOfNums (expS ks bs m))) rfl (fun w h => heldRun_value (run_conv_str _ _ _ _ _ _ _ (expS ks bs m) rfl rfl h.2.1) h) ?_
    simp only [Act.put, List.setIfInBounds_toArray, List.set_cons_zero, List.set_cons_succ]
    refine wpHeld_cons (.bool true) rfl (fun w h => heldRun_value (run_str_eql _ _ _ _ _ (expS ks bs m) (expS ks bs m) true rfl rfl rfl (by simp) expS_byte expS_byte) h) ?_
    simp only [Act.put, List.setIfInBounds_toArray, List.set_cons_zero, List.set_cons_succ]
    refine wpHeld_cons (.bool true) rfl (fun w h => heldRun_value (by kernel_rfl) h) ?_
    simp only [Act.put, List.setIfInBounds_toArray, List.set_cons_zero, List.set_cons_succ]
    refine wpHeld_cons (.bool true) rfl (fun w h => heldRun_value (by kernel_rfl) h) ?_
    simp only [Act.put, List.setIfInBounds_toArray, List.set_cons_zero, List.set_cons_succ]
    refine wpHeld_nil ?_
    intro X h
    have XF := Lib.hid h.1
    clear h
    go_wp2_with fail
    go_ret
    exact ⟨rfl, by rw [G2.out]; exact XF.out⟩
  · have HL := Lib.hid hl
    clear hl
    refine wpL_pure (.bool true) rfl (run_gti Tryd.underlying3 rfl rfl rfl (by have := HL.out; rw [decide_eq_true_eq]; omega)) ?_
    simp only [Act.put, List.setIfInBounds_toArray, List.set_cons_zero, List.set_cons_succ]
    refine wpL_pure (.bool true) rfl (by kernel_rfl) ?_
    simp only [Act.put, List.setIfInBounds_toArray, List.set_cons_zero, List.set_cons_succ]
    go_upto_region 3 with (fail)
    refine wp_region_lit ?_
    refine wpL_call 10 #[] rfl (by kernel_rfl) (((awake_any x1 (HT.out.below (by rw [G2.out]; exact B3.out.2)) (HH.out.below (by rw [G2.out]; exact B3.out.2)))).mono fun e x2 ⟨he, hb⟩ => ⟨.bool true, he, ?_⟩)
    simp only [Act.put, List.setIfInBounds_toArray, List.set_cons_zero, List.set_cons_succ]
    have B4 : Hid (Below g2 w x2) := Lib.hid (B3.out.2.trans (hb.mono (by have := B3.out.1.lt; omega)))
    clear hb
    refine wpL_pure (.bool true) rfl (by kernel_rfl) ?_
    simp only [Act.put, List.setIfInBounds_toArray, List.set_cons_zero, List.set_cons_succ]
    go_wp2_with fail
    go_ret
    exact ⟨rfl, by rw [G2.out]; exact B4.out⟩
end Go.Proofs.YtggbmajajpafnaaDoor
