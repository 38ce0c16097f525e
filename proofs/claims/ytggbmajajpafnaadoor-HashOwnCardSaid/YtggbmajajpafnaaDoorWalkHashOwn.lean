import Derived.Test.YtggbmajajpafnaaDoorH10
import Derived.Test.YtggbmajajpafnaaDoorHeldAll
namespace Go.Proofs.YtggbmajajpafnaaDoor
open Go Go.RowKit

theorem byte_take {t : List Int} {m j : Nat} (h : j < m) : byte (t.take m) j = byte t j := by
  unfold byte
  rw [List.getD, List.getD, List.getElem?_take, if_pos h]
attribute [local irreducible] wpList
set_option maxHeartbeats 8000000 in
set_option maxRecDepth 100000 in
theorem walkHashOwn (ks : List Int) (a : Option Addr) (n c : Nat) (zs : List Int) (hkl : ks.length = 32) (hkw : ∀ x ∈ ks, (Lit.int .u8 x).wf = true) (w : World) (h : IsRow .u8 w a n c zs) (tabs : TabK w ∧ TabH w) :
    Calls Tryd.prog 9 #[.agg (ks.map (Value.int .u8)).toArray, .slice a n c] w fun e w' => e = .returned (.bool true) ∧ Below w.heap.size w w' := by
  show Calls Tryd.prog 9 #[.agg (u8l ks).toArray, .slice a n c] w fun e w' => e = .returned (.bool true) ∧ Below w.heap.size w w'
  have HKL := Lib.hid hkl
  have HKB := Lib.hid (u8_bounds hkw)
  obtain ⟨bs, hbs⟩ : ∃ q, zs.take n = q := ⟨_, rfl⟩
  have hs := sl_of h
  rw [hbs] at hs
  have HS := Lib.hid hs
  have HSB : Hid (∀ x ∈ bs, 0 ≤ x ∧ x ≤ 255) := Lib.hid hs.1.2.2.1
  have HT := Lib.hid tabs.1
  have HH := Lib.hid tabs.2
  clear hkl hkw hbs hs h tabs
  go_enter Tryd.func9, Tryd.ntmps9
  obtain ⟨w1, hw1⟩ : ∃ V, V = w.alloc (.cells (u8l ks).toArray 26) := ⟨_, rfl⟩
  have B1 : Hid (Blk w1 w.heap.size 26 (u8l ks).toArray ∧ Below w.heap.size w w1 ∧ w.heap.size < w1.heap.size) := Lib.hid (by rw [hw1]; exact ⟨Blk.new _ _ _, (Below.refl _ _).alloc (Nat.le_refl _) _, by simp⟩)
  go_upto_region 0 with (fail)
  refine wp_region_lit ?_
  refine wpL_value (.pointer (some ⟨w.heap.size, 0, none⟩)) (w1) rfl (run_box26 _ _ _ _ _ ks rfl rfl HKL.out hw1) ?_
  simp only [Act.put, List.setIfInBounds_toArray, List.set_cons_zero, List.set_cons_succ]
  refine wpL_pure (.bool false) rfl (by kernel_rfl) ?_
  simp only [Act.put, List.setIfInBounds_toArray, List.set_cons_zero, List.set_cons_succ]
  clear hw1
  obtain ⟨g2, h3⟩ : ∃ q, w.heap.size = q := ⟨_, rfl⟩
  have G2 : Hid (w.heap.size = g2) := Lib.hid h3
  rw [h3] at B1
  try rw [h3]
  clear h3
  go_upto_region 1 with (fail)
  refine wp_region_lit ?_
  refine wpL_call 10 #[] rfl (by kernel_rfl) (((awake_any w1 (HT.out.below (by rw [G2.out]; exact B1.out.2.1)) (HH.out.below (by rw [G2.out]; exact B1.out.2.1)))).mono fun e w2 ⟨he, hb⟩ => ⟨.bool true, he, ?_⟩)
  simp only [Act.put, List.setIfInBounds_toArray, List.set_cons_zero, List.set_cons_succ]
  have B2 : Hid (Blk w2 g2 26 (u8l ks).toArray ∧ Below g2 w w2) := Lib.hid ⟨B1.out.1.below hb, B1.out.2.1.trans (hb.mono (by have := B1.out.2.2; omega))⟩
  clear hb
  refine wpL_pure (.bool false) rfl (by kernel_rfl) ?_
  simp only [Act.put, List.setIfInBounds_toArray, List.set_cons_zero, List.set_cons_succ]
  refine wpL_pure (.bool false) rfl (by kernel_rfl) ?_
  simp only [Act.put, List.setIfInBounds_toArray, List.set_cons_zero, List.set_cons_succ]
  refine wpL_pure (.slice a n c) rfl (by kernel_rfl) ?_
  simp only [Act.put, List.setIfInBounds_toArray, List.set_cons_zero, List.set_cons_succ]
  refine wpL_pure (.int .i64 (n : Int)) rfl (by kernel_rfl) ?_
  simp only [Act.put, List.setIfInBounds_toArray, List.set_cons_zero, List.set_cons_succ]
  by_cases hl : n ≤ 500
  · have HL := Lib.hid hl
    clear hl
    refine wpL_pure (.bool false) rfl (run_gti Tryd.underlying3 rfl rfl rfl (by have := HL.out; rw [decide_eq_false_iff_not]; omega)) ?_
    simp only [Act.put, List.setIfInBounds_toArray, List.set_cons_zero, List.set_cons_succ]
    refine wpL_pure (.bool false) rfl (by kernel_rfl) ?_
    simp only [Act.put, List.setIfInBounds_toArray, List.set_cons_zero, List.set_cons_succ]
    go_upto_region 3 with (fail)
    refine wp_region_lit ?_
    refine wpL_pure (.slice a n c) rfl (by kernel_rfl) ?_
    simp only [Act.put, List.setIfInBounds_toArray, List.set_cons_zero, List.set_cons_succ]
    refine wpL_pure (.string (strOfNums bs)) rfl (run_conv_str _ _ _ _ _ _ _ bs rfl rfl (HS.out.below (by rw [G2.out]; exact B2.out.2)).1) ?_
    simp only [Act.put, List.setIfInBounds_toArray, List.set_cons_zero, List.set_cons_succ]
    refine wpL_pure (.string (strOfNums bs)) rfl (by kernel_rfl) ?_
    simp only [Act.put, List.setIfInBounds_toArray, List.set_cons_zero, List.set_cons_succ]
    go_upto_region 4 with (fail)
    refine wp_region_lit ?_
    refine wpL_load 26 _ rfl rfl g2 0 rfl (u8l ks) _ (blk_range B2.out.1) Tryd.underlying26 rfl (by rw [u8l_len, HKL.out]; kernel_rfl) ?_
    simp only [Act.put, List.setIfInBounds_toArray, List.set_cons_zero, List.set_cons_succ]
    refine wpL_pure (.slice a n c) rfl (by kernel_rfl) ?_
    simp only [Act.put, List.setIfInBounds_toArray, List.set_cons_zero, List.set_cons_succ]
    refine wpL_call 13 #[.agg (u8l ks).toArray, .slice a n c, .int .i64 64] rfl (by kernel_rfl) (((expand_any w2 ks HKL.out HKB.out a n c bs (HS.out.below (by rw [G2.out]; exact B2.out.2)) (by have := HL.out; omega) 64 (by omega) (HT.out.below (by rw [G2.out]; exact B2.out.2)) (HH.out.below (by rw [G2.out]; exact B2.out.2)))).mono fun e w3 ⟨gx, cx, he, p1, p2, p3, p4, p5⟩ => ⟨.tuple #[.slice (some ⟨gx, 0, none⟩) 64 64, .int .i64 0], he, ?_⟩)
    simp only [Act.put, List.setIfInBounds_toArray, List.set_cons_zero, List.set_cons_succ]
    have X3 : Hid (Blk w3 g2 26 (u8l ks).toArray ∧ Below g2 w w3 ∧ IncAt w3 gx 0 (byte (expS ks bs 64) 0) ∧ g2 < gx) := Lib.hid ⟨B2.out.1.below p5, B2.out.2.trans (p5.mono (by have := B2.out.1.lt; omega)), IncAt.start p2 p4 expS_len expS_byte, by have := B2.out.1.lt; omega⟩
    clear p1 p2 p3 p4 p5
    generalize he0 : byte (expS ks bs 64) 0 = e0 at X3
    have HE0 := Lib.hid he0
    clear he0
    refine wpL_pure (.tuple #[.slice (some ⟨gx, 0, none⟩) 64 64, .int .i64 0]) rfl (by kernel_rfl) ?_
    simp only [Act.put, List.setIfInBounds_toArray, List.set_cons_zero, List.set_cons_succ]
    refine wpL_pure (.slice (some ⟨gx, 0, none⟩) 64 64) rfl (by kernel_rfl) ?_
    simp only [Act.put, List.setIfInBounds_toArray, List.set_cons_zero, List.set_cons_succ]
    refine wpL_pure (.int .i64 0) rfl (by kernel_rfl) ?_
    simp only [Act.put, List.setIfInBounds_toArray, List.set_cons_zero, List.set_cons_succ]
    refine wpL_pure (.slice (some ⟨gx, 0, none⟩) 64 64) rfl (by kernel_rfl) ?_
    simp only [Act.put, List.setIfInBounds_toArray, List.set_cons_zero, List.set_cons_succ]
    refine wpL_pure (.int .i64 0) rfl (by kernel_rfl) ?_
    simp only [Act.put, List.setIfInBounds_toArray, List.set_cons_zero, List.set_cons_succ]
    go_upto_region 5 with (fail)
    refine wp_region_lit ?_
    refine wpL_pure (.int .i64 0) rfl (by kernel_rfl) ?_
    simp only [Act.put, List.setIfInBounds_toArray, List.set_cons_zero, List.set_cons_succ]
    go_wp2_with fail
    go_loopw [8] (fun s8 wr => ∃ k : Nat, s8 = .int .i64 (k : Int) ∧ Hid (k ≤ 64 ∧ Blk wr g2 26 (u8l ks).toArray ∧ Below g2 w wr ∧ IncAt wr gx k e0)) (fun s8 _ => 64 - (intOf s8).toNat)
    case atStart => exact ⟨0, rfl, Lib.hid ⟨by omega, X3.out.1, X3.out.2.1, X3.out.2.2.1⟩⟩
    case round =>
      obtain ⟨k, rfl, RI⟩ := hrel
      by_cases hlt : k < 64
      · have HK := Lib.hid hlt
        clear hlt
        go_upto_region 6 with (fail)
        refine wp_region_lit ?_
        refine wpL_pure (.int .i64 (k : Int)) rfl (by kernel_rfl) ?_
        simp only [Act.put, List.setIfInBounds_toArray, List.set_cons_zero, List.set_cons_succ]
        refine wpL_pure (.slice (some ⟨gx, 0, none⟩) 64 64) rfl (by kernel_rfl) ?_
        simp only [Act.put, List.setIfInBounds_toArray, List.set_cons_zero, List.set_cons_succ]
        refine wpL_pure (.int .i64 (64 : Int)) rfl (by kernel_rfl) ?_
        simp only [Act.put, List.setIfInBounds_toArray, List.set_cons_zero, List.set_cons_succ]
        refine wpL_pure (.bool true) rfl (run_lti Tryd.underlying3 rfl rfl rfl (by have := HK.out; rw [decide_eq_true_eq]; omega)) ?_
        simp only [Act.put, List.setIfInBounds_toArray, List.set_cons_zero, List.set_cons_succ]
        obtain ⟨v, hv, hc, hf, hi⟩ := RI.out.2.2.2.at HK.out
        have VL := Lib.hid hv
        have VC := Lib.hid hc
        have VF := Lib.hid hf
        obtain ⟨x1, hx1⟩ : ∃ V, V = wr.setCell ⟨gx, k, none⟩ (.int .u8 (((v + 1) % 256 : Nat) : Int)) := ⟨_, rfl⟩
        have NX : Hid (k + 1 ≤ 64 ∧ Blk x1 g2 26 (u8l ks).toArray ∧ Below g2 w x1 ∧ IncAt x1 gx (k + 1) e0) := Lib.hid (by rw [hx1]; exact ⟨HK.out, RI.out.2.1.other _ _ (by have := X3.out.2.2.2; simp; omega), RI.out.2.2.1.setCell (p := ⟨gx, k, none⟩) (by have := X3.out.2.2.2; simp; omega) _, hi⟩)
        clear hv hc hf hi
        go_upto_region 8 with (fail)
        refine wp_region_lit ?_
        refine wpL_pure (.slice (some ⟨gx, 0, none⟩) 64 64) rfl (by kernel_rfl) ?_
        simp only [Act.put, List.setIfInBounds_toArray, List.set_cons_zero, List.set_cons_succ]
        refine wpL_pure (.int .i64 (k : Int)) rfl (by kernel_rfl) ?_
        simp only [Act.put, List.setIfInBounds_toArray, List.set_cons_zero, List.set_cons_succ]
        refine wpL_pure (.pointer (some ⟨gx, k, none⟩)) rfl (run_idxr _ _ _ _ _ gx 0 64 64 k rfl rfl rfl HK.out (by unfold maxLen; omega) (Nat.zero_add k)) ?_
        simp only [Act.put, List.setIfInBounds_toArray, List.set_cons_zero, List.set_cons_succ]
        refine wpL_pure (.int .u8 (v : Int)) rfl (run_load_one _ _ _ 5 _ _ rfl (gx) (k) rfl (VC.out) (by kernel_rfl)) ?_
        simp only [Act.put, List.setIfInBounds_toArray, List.set_cons_zero, List.set_cons_succ]
        refine wpL_pure (.int .u8 (((v + 1) % 256 : Nat) : Int)) rfl (run_addi Tryd.underlying5 rfl rfl rfl _ (by have := VL.out; rw [IntKind.wrap_u8]; omega)) ?_
        simp only [Act.put, List.setIfInBounds_toArray, List.set_cons_zero, List.set_cons_succ]
        refine wpL_pure (.pointer (some ⟨gx, k, none⟩)) rfl (run_idxr _ _ _ _ _ gx 0 64 64 k rfl rfl rfl HK.out (by unfold maxLen; omega) (Nat.zero_add k)) ?_
        simp only [Act.put, List.setIfInBounds_toArray, List.set_cons_zero, List.set_cons_succ]
        refine wpL_store_one rfl rfl (gx) (k) rfl (.int .u8 (((v + 1) % 256 : Nat) : Int)) rfl rfl size5 (by rw [VC.out]; rfl) (VF.out) ?_
        simp only [Act.put, List.setIfInBounds_toArray, List.set_cons_zero, List.set_cons_succ]
        rw [← hx1]
        clear hx1
        go_upto_region 7 with (fail)
        refine wp_region_lit ?_
        refine wpL_pure (.int .i64 (k : Int)) rfl (by kernel_rfl) ?_
        simp only [Act.put, List.setIfInBounds_toArray, List.set_cons_zero, List.set_cons_succ]
        refine wpL_pure (.int .i64 ((k + 1 : Nat) : Int)) rfl (run_addi Tryd.underlying3 rfl rfl rfl _ (by have := HK.out; rw [wrap_in _ (by omega) (by omega)]; omega)) ?_
        simp only [Act.put, List.setIfInBounds_toArray, List.set_cons_zero, List.set_cons_succ]
        refine wpL_pure (.int .i64 ((k + 1 : Nat) : Int)) rfl (by kernel_rfl) ?_
        simp only [Act.put, List.setIfInBounds_toArray, List.set_cons_zero, List.set_cons_succ]
        unfold wpList
        go_roundw
        case rel => first | exact ⟨_, rfl, NX⟩ | ((repeat apply Exists.intro); exact ⟨⟨_, rfl, NX⟩, rfl⟩)
        case measure => simp [intOf]; have := HK.out; omega
      · have HK := Lib.hid hlt
        have EK : Hid (k = 64) := Lib.hid (by have := RI.out.1; omega)
        clear hlt
        go_upto_region 6 with (fail)
        refine wp_region_lit ?_
        refine wpL_pure (.int .i64 (k : Int)) rfl (by kernel_rfl) ?_
        simp only [Act.put, List.setIfInBounds_toArray, List.set_cons_zero, List.set_cons_succ]
        refine wpL_pure (.slice (some ⟨gx, 0, none⟩) 64 64) rfl (by kernel_rfl) ?_
        simp only [Act.put, List.setIfInBounds_toArray, List.set_cons_zero, List.set_cons_succ]
        refine wpL_pure (.int .i64 (64 : Int)) rfl (by kernel_rfl) ?_
        simp only [Act.put, List.setIfInBounds_toArray, List.set_cons_zero, List.set_cons_succ]
        refine wpL_pure (.bool false) rfl (run_lti Tryd.underlying3 rfl rfl rfl (by have := HK.out; rw [decide_eq_false_iff_not]; omega)) ?_
        simp only [Act.put, List.setIfInBounds_toArray, List.set_cons_zero, List.set_cons_succ]
        go_upto_region 9 with (fail)
        refine wp_region_lit ?_
        refine wpL_load 26 _ rfl rfl g2 0 rfl (u8l ks) _ (blk_range RI.out.2.1) Tryd.underlying26 rfl (by rw [u8l_len, HKL.out]; kernel_rfl) ?_
        simp only [Act.put, List.setIfInBounds_toArray, List.set_cons_zero, List.set_cons_succ]
        refine wpL_pure (.slice a n c) rfl (by kernel_rfl) ?_
        simp only [Act.put, List.setIfInBounds_toArray, List.set_cons_zero, List.set_cons_succ]
        refine wpL_call 13 #[.agg (u8l ks).toArray, .slice a n c, .int .i64 40] rfl (by kernel_rfl) (((expand_any wr ks HKL.out HKB.out a n c bs (HS.out.below (by rw [G2.out]; exact RI.out.2.2.1)) (by have := HL.out; omega) 40 (by omega) (HT.out.below (by rw [G2.out]; exact RI.out.2.2.1)) (HH.out.below (by rw [G2.out]; exact RI.out.2.2.1)))).mono fun e x1 ⟨gy, cy, he, p1, p2, p3, p4, p5⟩ => ⟨.tuple #[.slice (some ⟨gy, 0, none⟩) 40 40, .int .i64 0], he, ?_⟩)
        simp only [Act.put, List.setIfInBounds_toArray, List.set_cons_zero, List.set_cons_succ]
        have X4 : Hid (Below g2 w x1 ∧ g2 < x1.heap.size ∧ x1.cell? ⟨gx, 0, none⟩ = some (.int .u8 (((e0 + 1) % 256 : Nat) : Int)) ∧ x1.cell? ⟨gy, 0, none⟩ = some (.int .u8 (e0 : Int)) ∧ gx < x1.heap.size ∧ gy < x1.heap.size) := Lib.hid ⟨RI.out.2.2.1.trans (p5.mono (by have := RI.out.2.1.lt; omega)), (RI.out.2.1.below p5).lt, (RI.out.2.2.2.below p5).zero (by have := EK.out; omega), by rw [byte_pre p2 p4 expS_len expS_byte (by omega), ← expS_take (q := 64) (by omega), byte_take (by omega), HE0.out], (RI.out.2.2.2.below p5).lt, p2.lt⟩
        clear p1 p2 p3 p4 p5
        refine wpL_pure (.tuple #[.slice (some ⟨gy, 0, none⟩) 40 40, .int .i64 0]) rfl (by kernel_rfl) ?_
        simp only [Act.put, List.setIfInBounds_toArray, List.set_cons_zero, List.set_cons_succ]
        refine wpL_pure (.slice (some ⟨gy, 0, none⟩) 40 40) rfl (by kernel_rfl) ?_
        simp only [Act.put, List.setIfInBounds_toArray, List.set_cons_zero, List.set_cons_succ]
        refine wpL_pure (.int .i64 0) rfl (by kernel_rfl) ?_
        simp only [Act.put, List.setIfInBounds_toArray, List.set_cons_zero, List.set_cons_succ]
        refine wpL_pure (.slice (some ⟨gy, 0, none⟩) 40 40) rfl (by kernel_rfl) ?_
        simp only [Act.put, List.setIfInBounds_toArray, List.set_cons_zero, List.set_cons_succ]
        refine wpL_pure (.int .i64 0) rfl (by kernel_rfl) ?_
        simp only [Act.put, List.setIfInBounds_toArray, List.set_cons_zero, List.set_cons_succ]
        obtain ⟨x2, hx2⟩ : ∃ V, V = x1.alloc (.cells #[.slice a n c, .slice a n c] 22) := ⟨_, rfl⟩
        have q1 : Below x1.heap.size x1 x2 := by rw [hx2]; exact (Below.refl _ _).alloc (Nat.le_refl _) _
        have X5 : Hid (Below x1.heap.size x1 x2 ∧ Below g2 w x2 ∧ PSl x2 (some ⟨x1.heap.size, 0, none⟩) 2 [bs, bs]) := Lib.hid ⟨q1, X4.out.1.trans (q1.mono (by have := X4.out.2.1; omega)), psl_two (by rw [hx2]; exact Blk.new _ _ _) (HS.out.below (by rw [G2.out]; exact X4.out.1.trans (q1.mono (by have := X4.out.2.1; omega)))) (HS.out.below (by rw [G2.out]; exact X4.out.1.trans (q1.mono (by have := X4.out.2.1; omega)))) (by have := HL.out; omega) (by have := HL.out; omega)⟩
        clear q1
        go_upto_region 10 with (fail)
        refine wp_region_lit ?_
        refine wpL_pure (.slice a n c) rfl (by kernel_rfl) ?_
        simp only [Act.put, List.setIfInBounds_toArray, List.set_cons_zero, List.set_cons_succ]
        refine wpL_pure (.slice a n c) rfl (by kernel_rfl) ?_
        simp only [Act.put, List.setIfInBounds_toArray, List.set_cons_zero, List.set_cons_succ]
        refine wpL_value (.slice (some ⟨x1.heap.size, 0, none⟩) 2 2) (x2) rfl (by rw [hx2]; kernel_rfl) ?_
        simp only [Act.put, List.setIfInBounds_toArray, List.set_cons_zero, List.set_cons_succ]
        refine wpL_call 15 #[.slice (some ⟨x1.heap.size, 0, none⟩) 2 2] rfl (by kernel_rfl) (((sum_any x2 (some ⟨x1.heap.size, 0, none⟩) 2 2 [bs, bs] X5.out.2.2 (by omega) (HT.out.below (by rw [G2.out]; exact X5.out.2.1)) (HH.out.below (by rw [G2.out]; exact X5.out.2.1)))).mono fun e x3 ⟨he, hb⟩ => ⟨.agg (u8l (shaS (List.flatten [bs, bs]))).toArray, he, ?_⟩)
        simp only [Act.put, List.setIfInBounds_toArray, List.set_cons_zero, List.set_cons_succ]
        have X6 : Hid (Below g2 w x3 ∧ Below x1.heap.size x1 x3) := Lib.hid ⟨X5.out.2.1.trans (hb.mono (by have := X5.out.1.size; have := X4.out.2.1; omega)), X5.out.1.trans (hb.mono X5.out.1.size)⟩
        clear hb
        obtain ⟨x4, hx4⟩ : ∃ V, V = x3.alloc (.cells #[.slice a n c] 22) := ⟨_, rfl⟩
        have q1 : Below x3.heap.size x3 x4 := by rw [hx4]; exact (Below.refl _ _).alloc (Nat.le_refl _) _
        have z : Below g2 w x4 := X6.out.1.trans (q1.mono (by have := X6.out.2.size; have := X4.out.2.1; omega))
        have X7 : Hid (Below x1.heap.size x1 x4 ∧ Below g2 w x4 ∧ PSl x4 (some ⟨x3.heap.size, 0, none⟩) 1 [bs]) := Lib.hid ⟨X6.out.2.trans (q1.mono X6.out.2.size), z, psl_one (by rw [hx4]; exact Blk.new _ _ _) (HS.out.below (by rw [G2.out]; exact z)) (by have := HL.out; omega)⟩
        clear q1 z
        go_upto_region 11 with (fail)
        refine wp_region_lit ?_
        refine wpL_pure (.slice a n c) rfl (by kernel_rfl) ?_
        simp only [Act.put, List.setIfInBounds_toArray, List.set_cons_zero, List.set_cons_succ]
        refine wpL_pure (.slice a n c) rfl (by kernel_rfl) ?_
        simp only [Act.put, List.setIfInBounds_toArray, List.set_cons_zero, List.set_cons_succ]
        refine wpL_value (.slice (some ⟨x3.heap.size, 0, none⟩) 1 1) (x4) rfl (by rw [hx4]; kernel_rfl) ?_
        simp only [Act.put, List.setIfInBounds_toArray, List.set_cons_zero, List.set_cons_succ]
        refine wpL_call 12 #[.slice a n c, .slice (some ⟨x3.heap.size, 0, none⟩) 1 1] rfl (by kernel_rfl) (((mac_any x4 a n c bs (some ⟨x3.heap.size, 0, none⟩) 1 1 [bs] (HS.out.below (by rw [G2.out]; exact X7.out.2.1)) (by have := HL.out; omega) X7.out.2.2 (by omega) (HT.out.below (by rw [G2.out]; exact X7.out.2.1)) (HH.out.below (by rw [G2.out]; exact X7.out.2.1)))).mono fun e x5 ⟨he, hb⟩ => ⟨.agg (u8l (macS bs (List.flatten [bs]))).toArray, he, ?_⟩)
        simp only [Act.put, List.setIfInBounds_toArray, List.set_cons_zero, List.set_cons_succ]
        have X8 : Hid (Below g2 w x5 ∧ Row x5 a n bs ∧ x5.cell? ⟨gx, 0, none⟩ = some (.int .u8 (((e0 + 1) % 256 : Nat) : Int)) ∧ x5.cell? ⟨gy, 0, none⟩ = some (.int .u8 (e0 : Int))) := Lib.hid (by
          have q1 : Below x1.heap.size x1 x5 := X7.out.1.trans (hb.mono X7.out.1.size)
          have z : Below g2 w x5 := X4.out.1.trans (q1.mono (by have := X4.out.2.1; omega))
          exact ⟨z, (HS.out.below (by rw [G2.out]; exact z)).1, (gb_of q1 none).cell X4.out.2.2.1 (by simp), (gb_of q1 none).cell X4.out.2.2.2.1 (by simp)⟩)
        clear hb
        have E0L : Hid (e0 < 256) := Lib.hid (by rw [← HE0.out]; exact byte_lt expS_byte _)
        go_upto_region 12 with (fail)
        refine region_held_all (fun X => Below g2 w X ∧ Row X a n bs ∧ X.cell? ⟨gx, 0, none⟩ = some (.int .u8 (((e0 + 1) % 256 : Nat) : Int)) ∧ X.cell? ⟨gy, 0, none⟩ = some (.int .u8 (e0 : Int))) (by kernel_rfl) (by kernel_rfl) (by exact ⟨X8.out.1.drew, X8.out.2⟩) ?_
        refine wpHeld_cons (.slice a n c) rfl (fun w h => heldRun_value (by kernel_rfl) h) ?_
        simp only [Act.put, List.setIfInBounds_toArray, List.set_cons_zero, List.set_cons_succ]
        refine wpHeld_cons (.string (strOfNums bs)) rfl (fun w h => heldRun_value (run_conv_str _ _ _ _ _ _ _ bs rfl rfl h.2.1) h) ?_
        simp only [Act.put, List.setIfInBounds_toArray, List.set_cons_zero, List.set_cons_succ]
        refine wpHeld_cons (.string (strOfNums bs)) rfl (fun w h => heldRun_value (by kernel_rfl) h) ?_
        simp only [Act.put, List.setIfInBounds_toArray, List.set_cons_zero, List.set_cons_succ]
        refine wpHeld_cons (.bool true) rfl (fun w h => heldRun_value (run_str_eql _ _ _ _ _ bs bs true rfl rfl rfl (by simp) HSB.out HSB.out) h) ?_
        simp only [Act.put, List.setIfInBounds_toArray, List.set_cons_zero, List.set_cons_succ]
        refine wpHeld_cons (.bool true) rfl (fun w h => heldRun_value (by kernel_rfl) h) ?_
        simp only [Act.put, List.setIfInBounds_toArray, List.set_cons_zero, List.set_cons_succ]
        refine wpHeld_cons (.slice (some ⟨gx, 0, none⟩) 64 64) rfl (fun w h => heldRun_value (by kernel_rfl) h) ?_
        simp only [Act.put, List.setIfInBounds_toArray, List.set_cons_zero, List.set_cons_succ]
        refine wpHeld_cons (.int .i64 (64 : Int)) rfl (fun w h => heldRun_value (by kernel_rfl) h) ?_
        simp only [Act.put, List.setIfInBounds_toArray, List.set_cons_zero, List.set_cons_succ]
        refine wpHeld_cons (.bool true) rfl (fun w h => heldRun_value (run_eqi Tryd.underlying3 rfl rfl rfl (by simp)) h) ?_
        simp only [Act.put, List.setIfInBounds_toArray, List.set_cons_zero, List.set_cons_succ]
        refine wpHeld_cons (.bool true) rfl (fun w h => heldRun_value (by kernel_rfl) h) ?_
        simp only [Act.put, List.setIfInBounds_toArray, List.set_cons_zero, List.set_cons_succ]
        refine wpHeld_cons (.bool true) rfl (fun w h => heldRun_value (by kernel_rfl) h) ?_
        simp only [Act.put, List.setIfInBounds_toArray, List.set_cons_zero, List.set_cons_succ]
        refine wpHeld_cons (.slice (some ⟨gy, 0, none⟩) 40 40) rfl (fun w h => heldRun_value (by kernel_rfl) h) ?_
        simp only [Act.put, List.setIfInBounds_toArray, List.set_cons_zero, List.set_cons_succ]
        refine wpHeld_cons (.int .i64 (40 : Int)) rfl (fun w h => heldRun_value (by kernel_rfl) h) ?_
        simp only [Act.put, List.setIfInBounds_toArray, List.set_cons_zero, List.set_cons_succ]
        refine wpHeld_cons (.bool true) rfl (fun w h => heldRun_value (run_eqi Tryd.underlying3 rfl rfl rfl (by simp)) h) ?_
        simp only [Act.put, List.setIfInBounds_toArray, List.set_cons_zero, List.set_cons_succ]
        refine wpHeld_cons (.bool true) rfl (fun w h => heldRun_value (by kernel_rfl) h) ?_
        simp only [Act.put, List.setIfInBounds_toArray, List.set_cons_zero, List.set_cons_succ]
        refine wpHeld_cons (.bool true) rfl (fun w h => heldRun_value (by kernel_rfl) h) ?_
        simp only [Act.put, List.setIfInBounds_toArray, List.set_cons_zero, List.set_cons_succ]
        refine wpHeld_cons (.slice (some ⟨gx, 0, none⟩) 64 64) rfl (fun w h => heldRun_value (by kernel_rfl) h) ?_
        simp only [Act.put, List.setIfInBounds_toArray, List.set_cons_zero, List.set_cons_succ]
        refine wpHeld_cons (.pointer (some ⟨gx, 0, none⟩)) rfl (fun w h => heldRun_value (run_idxr _ _ _ _ _ gx 0 64 64 0 rfl rfl rfl (by omega) (by unfold maxLen; omega) rfl) h) ?_
        simp only [Act.put, List.setIfInBounds_toArray, List.set_cons_zero, List.set_cons_succ]
        refine wpHeld_cons (.int .u8 (((e0 + 1) % 256 : Nat) : Int)) rfl (fun w h => heldRun_value (run_load_one _ _ _ 5 _ _ rfl (gx) (0) rfl (h.2.2.1) (by kernel_rfl)) h) ?_
        simp only [Act.put, List.setIfInBounds_toArray, List.set_cons_zero, List.set_cons_succ]
        refine wpHeld_cons (.slice (some ⟨gy, 0, none⟩) 40 40) rfl (fun w h => heldRun_value (by kernel_rfl) h) ?_
        simp only [Act.put, List.setIfInBounds_toArray, List.set_cons_zero, List.set_cons_succ]
        refine wpHeld_cons (.pointer (some ⟨gy, 0, none⟩)) rfl (fun w h => heldRun_value (run_idxr _ _ _ _ _ gy 0 40 40 0 rfl rfl rfl (by omega) (by unfold maxLen; omega) rfl) h) ?_
        simp only [Act.put, List.setIfInBounds_toArray, List.set_cons_zero, List.set_cons_succ]
        refine wpHeld_cons (.int .u8 (e0 : Int)) rfl (fun w h => heldRun_value (run_load_one _ _ _ 5 _ _ rfl (gy) (0) rfl (h.2.2.2) (by kernel_rfl)) h) ?_
        simp only [Act.put, List.setIfInBounds_toArray, List.set_cons_zero, List.set_cons_succ]
        refine wpHeld_cons (.int .u8 (((e0 + 1) % 256 : Nat) : Int)) rfl (fun w h => heldRun_value (run_addi Tryd.underlying5 rfl rfl rfl _ (by have := E0L.out; rw [IntKind.wrap_u8]; omega)) h) ?_
        simp only [Act.put, List.setIfInBounds_toArray, List.set_cons_zero, List.set_cons_succ]
        refine wpHeld_cons (.bool true) rfl (fun w h => heldRun_value (run_eqi Tryd.underlying5 rfl rfl rfl (by simp)) h) ?_
        simp only [Act.put, List.setIfInBounds_toArray, List.set_cons_zero, List.set_cons_succ]
        refine wpHeld_cons (.bool true) rfl (fun w h => heldRun_value (by kernel_rfl) h) ?_
        simp only [Act.put, List.setIfInBounds_toArray, List.set_cons_zero, List.set_cons_succ]
        refine wpHeld_cons (.bool true) rfl (fun w h => heldRun_value (by kernel_rfl) h) ?_
        simp only [Act.put, List.setIfInBounds_toArray, List.set_cons_zero, List.set_cons_succ]
        refine wpHeld_nil ?_
        intro X h
        have XF := Lib.hid h.1
        clear h
        go_wp2_with fail
        go_ret
        exact ⟨rfl, by rw [G2.out]; exact XF.out⟩
  · have HL := Lib.hid hl
    clear hl
    refine wpL_pure (.bool true) rfl (run_gti Tryd.underlying3 rfl rfl rfl (by have := HL.out; rw [decide_eq_true_eq]; omega)) ?_
    simp only [Act.put, List.setIfInBounds_toArray, List.set_cons_zero, List.set_cons_succ]
    refine wpL_pure (.bool true) rfl (by kernel_rfl) ?_
    simp only [Act.put, List.setIfInBounds_toArray, List.set_cons_zero, List.set_cons_succ]
    go_upto_region 2 with (fail)
    refine wp_region_lit ?_
    refine wpL_call 10 #[] rfl (by kernel_rfl) (((awake_any w2 (HT.out.below (by rw [G2.out]; exact B2.out.2)) (HH.out.below (by rw [G2.out]; exact B2.out.2)))).mono fun e w3 ⟨he, hb⟩ => ⟨.bool true, he, ?_⟩)
    simp only [Act.put, List.setIfInBounds_toArray, List.set_cons_zero, List.set_cons_succ]
    have B3 : Hid (Below g2 w w3) := Lib.hid (B2.out.2.trans (hb.mono (by have := B2.out.1.lt; omega)))
    clear hb
    refine wpL_pure (.bool true) rfl (by kernel_rfl) ?_
    simp only [Act.put, List.setIfInBounds_toArray, List.set_cons_zero, List.set_cons_succ]
    go_wp2_with fail
    go_ret
    exact ⟨rfl, by rw [G2.out]; exact B3.out⟩
end Go.Proofs.YtggbmajajpafnaaDoor
