/- 'SealSeals'. -/
import Derived.Test.YtlbfohpkngmaoaaS5
import Derived.Test.YtlbfohpkngmaoaaChBT
import Derived.Test.YtlbfohpkngmaoaaChHeld
import Derived.Test.YtlbfohpkngmaoaaOpen
import Derived.OpenShut
namespace Go.Proofs.Ytlbfohpkngmaoaa.Ch.B.Se
open Go Go.RowKit
theorem sealV_byte {KV NV : List Value} {ks : Nat → List Int} (hT : Two KV NV ks) (xs zs : List Int) (n an : Nat) (hx : ∀ x ∈ xs, 0 ≤ x ∧ x ≤ 255) : ∀ x ∈ sealV ks xs zs n an, 0 ≤ x ∧ x ≤ 255 := by
 intro x h
 rcases List.mem_append.1 h with h | h
 ·exact xorV_byte hT _ _ _ hx x h
 ·exact codeV_byte _ _ _ _ _ x h
attribute [local irreducible] wpList wpAny wpAnyT
set_option maxHeartbeats 1500000 in
set_option maxRecDepth 100000 in
theorem seals_any (kx : List Int) (x s : Nat) (a0 a1 : Option Addr) (n0 c0 n1 c1 : Nat) (xs zs : List Int) (lx : kx.length = 32) (wx : ∀ x ∈ kx, 0 ≤ x ∧ x ≤ 255) (hb : x < 18446744073709551616 ∧ s < 18446744073709551616) (hFA : Fit a1 n1 c1) (w : World) (hX : Row w a0 n0 xs) (hZ : Row w a1 n1 zs) :
  Calls Try.prog 4 #[.agg (ub kx).toArray, .agg #[.int .u64 ((x : Nat) : Int), .int .u64 ((s : Nat) : Int)], .agg #[.slice a0 n0 c0, .slice a1 n1 c1]] w fun e w' => e = .returned (.bool true) ∧ Below w.heap.size w w' := by
 obtain ⟨u, hu⟩ : ∃ u, IntKind.i64.wrap ((x : Nat) : Int) = u := ⟨_, rfl⟩
 obtain ⟨p, hp⟩ : ∃ p : Nat, u % 4294967296 = (p : Int) := ⟨(u % 4294967296).toNat, by omega⟩
 obtain ⟨ks, hT⟩ := two_of kx (nonceL p s) lx wx (nonceL_len _ _) (nonceL_byte _ _)
 have HU : Hid (IntKind.i64.wrap ((x : Nat) : Int) = u ∧ u % 4294967296 = (p : Int) ∧ p < 4294967296) := Lib.hid ⟨hu, hp, by omega⟩
 have HT := Lib.hid hT
 have HB := Lib.hid hb
 have HFA := Lib.hid hFA
 have HSB := Lib.hid (sealV_byte hT xs zs n0 n1 hX.2.2.1)
 have HX := Lib.hid hX
 have HZ := Lib.hid hZ
 clear hu hp hT hb hFA hX hZ lx wx
 go_enter Try.func4, Try.ntmps4
 go_upto_region 1 with (fail)
 obtain ⟨W1, hW1⟩ : ∃ V, V = ((w.alloc (.cells (ub kx).toArray 32)).alloc (.cells #[.int .u64 ((x : Nat) : Int), .int .u64 ((s : Nat) : Int)] 25)).alloc (.cells #[.slice a0 n0 c0, .slice a1 n1 c1] 34) := ⟨_, rfl⟩
 rw [← hW1]
 have b1 : Below w.heap.size w W1.drew := by rw [hW1]; exact ((((Below.refl _ _).alloc (Nat.le_refl _) _).alloc (by simp) _).alloc (by simp; omega) _).drew
 have F1 : Hid (Below w.heap.size w W1.drew ∧ Blk W1.drew w.heap.size 32 (ub kx).toArray ∧ Blk W1.drew (w.heap.size + 1) 25 #[.int .u64 ((x : Nat) : Int), .int .u64 ((s : Nat) : Int)] ∧ Blk W1.drew (w.heap.size + 1 + 1) 34 #[.slice a0 n0 c0, .slice a1 n1 c1] ∧ Row W1.drew a0 n0 xs ∧ Row W1.drew a1 n1 zs) := Lib.hid (by
  refine ⟨b1, ?_, ?_, ?_, HX.out.keep b1, HZ.out.keep b1⟩
  ·rw [hW1]; exact ((Blk.new _ _ _).alloc _).alloc _
  ·rw [hW1]; exact (Blk.new' _ _ _ _ (by simp)).alloc _
  ·rw [hW1]; exact Blk.new' _ _ _ _ (by simp))
 clear hW1 b1
 generalize w.heap.size + 1 + 1 = g5 at *
 generalize w.heap.size + 1 = g4 at *
 obtain ⟨g3, hg3⟩ : ∃ q, w.heap.size = q := ⟨_, rfl⟩
 have G3 : Hid (w.heap.size = g3) := Lib.hid hg3
 rw [hg3] at F1
 rw [hg3]
 clear hg3
 go_upto_region 1 with (fail)
 refine region_held_all (fun X => Below g3 w X ∧ Blk X g3 32 (ub kx).toArray ∧ Blk X g4 25 #[.int .u64 ((x : Nat) : Int), .int .u64 ((s : Nat) : Int)] ∧ Blk X g5 34 #[.slice a0 n0 c0, .slice a1 n1 c1] ∧ Row X a0 n0 xs ∧ Row X a1 n1 zs) (by kernel_rfl) (by kernel_rfl) (F1.out) ?_
 refine zH (.pointer (some ⟨g4, 0, none⟩)) (fun w h => heldRun_value (by kernel_rfl) h) ?_
 refine zH (.int .u64 ((x : Nat) : Int)) (fun w h => heldRun_value (run_load_one _ _ _ 24 _ _ rfl (g4) (0) rfl (by rw [h.2.2.1.cell]; rfl) (by kernel_rfl)) h) ?_
 refine zH (.int .i64 u) (fun w h => heldRun_value (run_convi Try.underlying24 Try.underlying3 rfl rfl _ (HU.out.1)) h) ?_
 refine zH (.pointer (some ⟨g4, 1, none⟩)) (fun w h => heldRun_value (by kernel_rfl) h) ?_
 refine zH (.int .u64 ((s : Nat) : Int)) (fun w h => heldRun_value (run_load_one _ _ _ 24 _ _ rfl (g4) (1) rfl (by rw [h.2.2.1.cell]; rfl) (by kernel_rfl)) h) ?_
 refine zH (.int .i64 u) (fun w h => heldRun_value (by kernel_rfl) h) ?_
 refine zH (.int .u64 ((s : Nat) : Int)) (fun w h => heldRun_value (by kernel_rfl) h) ?_
 refine wpHeld_nil ?_
 intro W2 h1
 have F2 := Lib.hid h1
 clear h1 F1
 unfold wpList
 go_upto_region 2 with (fail)
 refine wp_region_lit ?_
 refine wpL_call 6 #[] rfl (by kernel_rfl) (((awake_any W2)).mono fun e W3 ⟨he, ba⟩ => ⟨.bool true, he, ?_⟩)
 simp only [Act.put, List.setIfInBounds_toArray, List.set_cons_zero, List.set_cons_succ]
 have F3 : Hid (Below g3 w W3 ∧ Blk W3 g3 32 (ub kx).toArray ∧ Blk W3 g4 25 #[.int .u64 ((x : Nat) : Int), .int .u64 ((s : Nat) : Int)] ∧ Blk W3 g5 34 #[.slice a0 n0 c0, .slice a1 n1 c1] ∧ Row W3 a0 n0 xs ∧ Row W3 a1 n1 zs) := Lib.hid ⟨F2.out.1.trans (ba.mono (by have := F2.out.1.size; have := G3.out; omega)), F2.out.2.1.below ba, F2.out.2.2.1.below ba, F2.out.2.2.2.1.below ba, F2.out.2.2.2.2.1.keep ba, F2.out.2.2.2.2.2.keep ba⟩
 clear ba
 refine zP (.bool false) ?_
 refine zP (.bool false) ?_
 refine zP (.pointer (some ⟨g5, 0, none⟩)) ?_
 refine zQ (.slice a0 n0 c0) (run_load_one _ _ _ 33 _ _ rfl (g5) (0) rfl (by rw [F3.out.2.2.2.1.cell]; rfl) (by kernel_rfl)) ?_
 refine zP (.int .i64 (n0 : Int)) ?_
 by_cases h6 : 600 < n0
 ·have H6 := Lib.hid h6
  clear h6
  refine zQ (.bool true) (run_gti Try.underlying3 rfl rfl rfl (by have := H6.out; rw [decide_eq_true_eq]; omega)) ?_
  refine zP (.bool true) ?_
  refine zP (.bool true) ?_
  refine wpL_skip (by kernel_rfl) ?_
  simp only [Act.put, List.setIfInBounds_toArray, List.set_cons_zero, List.set_cons_succ]
  refine wpL_skip (by kernel_rfl) ?_
  simp only [Act.put, List.setIfInBounds_toArray, List.set_cons_zero, List.set_cons_succ]
  refine wpL_skip (by kernel_rfl) ?_
  simp only [Act.put, List.setIfInBounds_toArray, List.set_cons_zero, List.set_cons_succ]
  refine wpL_skip (by kernel_rfl) ?_
  simp only [Act.put, List.setIfInBounds_toArray, List.set_cons_zero, List.set_cons_succ]
  refine zP (.bool true) ?_
  unfold wpList
  go_upto_region 3 with (fail)
  refine wp_region_lit ?_
  refine wpL_call 6 #[] rfl (by kernel_rfl) (((awake_any W3)).mono fun e W4 ⟨he, ba⟩ => ⟨.bool true, he, ?_⟩)
  simp only [Act.put, List.setIfInBounds_toArray, List.set_cons_zero, List.set_cons_succ]
  have F4 : Hid (Below g3 w W4 ∧ Blk W4 g3 32 (ub kx).toArray ∧ Blk W4 g4 25 #[.int .u64 ((x : Nat) : Int), .int .u64 ((s : Nat) : Int)] ∧ Blk W4 g5 34 #[.slice a0 n0 c0, .slice a1 n1 c1] ∧ Row W4 a0 n0 xs ∧ Row W4 a1 n1 zs) := Lib.hid ⟨F3.out.1.trans (ba.mono (by have := F3.out.1.size; have := G3.out; omega)), F3.out.2.1.below ba, F3.out.2.2.1.below ba, F3.out.2.2.2.1.below ba, F3.out.2.2.2.2.1.keep ba, F3.out.2.2.2.2.2.keep ba⟩
  clear ba
  refine zP (.bool true) ?_
  go_wp2_with fail
  go_ret
  exact ⟨rfl, by rw [G3.out]; exact F4.out.1⟩
 ·have H6 : Hid (n0 ≤ 600) := Lib.hid (by omega)
  clear h6
  refine zQ (.bool false) (run_gti Try.underlying3 rfl rfl rfl (by have := H6.out; rw [decide_eq_false_iff_not]; omega)) ?_
  refine zP (.bool false) ?_
  refine zP (.bool false) ?_
  refine zP (.pointer (some ⟨g5, 1, none⟩)) ?_
  refine zQ (.slice a1 n1 c1) (run_load_one _ _ _ 33 _ _ rfl (g5) (1) rfl (by rw [F3.out.2.2.2.1.cell]; rfl) (by kernel_rfl)) ?_
  refine zP (.int .i64 (n1 : Int)) ?_
  by_cases h2 : 200 < n1
  ·have H2 := Lib.hid h2
   clear h2
   refine zQ (.bool true) (run_gti Try.underlying3 rfl rfl rfl (by have := H2.out; rw [decide_eq_true_eq]; omega)) ?_
   refine zP (.bool true) ?_
   unfold wpList
   go_upto_region 3 with (fail)
   refine wp_region_lit ?_
   refine wpL_call 6 #[] rfl (by kernel_rfl) (((awake_any W3)).mono fun e W4 ⟨he, ba⟩ => ⟨.bool true, he, ?_⟩)
   simp only [Act.put, List.setIfInBounds_toArray, List.set_cons_zero, List.set_cons_succ]
   have F4 : Hid (Below g3 w W4 ∧ Blk W4 g3 32 (ub kx).toArray ∧ Blk W4 g4 25 #[.int .u64 ((x : Nat) : Int), .int .u64 ((s : Nat) : Int)] ∧ Blk W4 g5 34 #[.slice a0 n0 c0, .slice a1 n1 c1] ∧ Row W4 a0 n0 xs ∧ Row W4 a1 n1 zs) := Lib.hid ⟨F3.out.1.trans (ba.mono (by have := F3.out.1.size; have := G3.out; omega)), F3.out.2.1.below ba, F3.out.2.2.1.below ba, F3.out.2.2.2.1.below ba, F3.out.2.2.2.2.1.keep ba, F3.out.2.2.2.2.2.keep ba⟩
   clear ba
   refine zP (.bool true) ?_
   go_wp2_with fail
   go_ret
   exact ⟨rfl, by rw [G3.out]; exact F4.out.1⟩
  ·have H2 : Hid (n1 ≤ 200) := Lib.hid (by omega)
   clear h2
   refine zQ (.bool false) (run_gti Try.underlying3 rfl rfl rfl (by have := H2.out; rw [decide_eq_false_iff_not]; omega)) ?_
   refine zP (.bool false) ?_
   unfold wpList
   go_upto_region 4 with (fail)
   refine wp_region_lit ?_
   refine zP (.int .i64 u) ?_
   refine zP (.int .u64 ((s : Nat) : Int)) ?_
   refine wpL_call 5 #[.int .i64 u, .int .u64 ((s : Nat) : Int)] rfl (by kernel_rfl) (((nonce_any u p s HU.out.2.1 HB.out.2 W3)).mono fun e W4 ⟨he, b7⟩ => ⟨.agg (ub (nonceL p s)).toArray, he, ?_⟩)
   simp only [Act.put, List.setIfInBounds_toArray, List.set_cons_zero, List.set_cons_succ]
   have F4 : Hid (Below g3 w W4 ∧ Blk W4 g3 32 (ub kx).toArray ∧ Blk W4 g4 25 #[.int .u64 ((x : Nat) : Int), .int .u64 ((s : Nat) : Int)] ∧ Blk W4 g5 34 #[.slice a0 n0 c0, .slice a1 n1 c1] ∧ Row W4 a0 n0 xs ∧ Row W4 a1 n1 zs) := Lib.hid ⟨F3.out.1.trans (b7.mono (by have := F3.out.1.size; have := G3.out; omega)), F3.out.2.1.below b7, F3.out.2.2.1.below b7, F3.out.2.2.2.1.below b7, F3.out.2.2.2.2.1.keep b7, F3.out.2.2.2.2.2.keep b7⟩
   clear b7 F3
   obtain ⟨W5, hW5⟩ : ∃ V, V = (W4.alloc (.cells (ub (List.replicate 12 0)).toArray 26)).setRow W4.heap.size (ub (nonceL p s)).toArray := ⟨_, rfl⟩
   refine zV (.pointer (some ⟨W4.heap.size, 0, none⟩)) (W4.alloc (.cells (ub (List.replicate 12 0)).toArray 26)) (by kernel_rfl) ?_
   refine wpList_store_rowTo rfl 26 _ _ rfl rfl W4.heap.size (ub (nonceL p s)).toArray rfl rfl 26 _ (Blk.new _ _ _) (by simp only [List.size_toArray, ub_len, nonceL_len]; kernel_rfl) (by simp only [List.size_toArray, ub_len, nonceL_len, List.length_replicate]) (ub_one _) ?_
   rw [← hW5]
   have b9 : Below W4.heap.size W4 W5.drew := by rw [hW5]; exact (below_setRow ((Below.refl _ _).alloc (Nat.le_refl _) _) (Nat.le_refl _) _).drew
   have n9 : Blk W5.drew W4.heap.size 26 (ub (nonceL p s)).toArray := by rw [hW5]; exact setRow_heap _ _ _ _ _ _ (Blk.new _ _ _)
   have F5 : Hid (Below g3 w W5.drew ∧ Blk W5.drew g3 32 (ub kx).toArray ∧ Blk W5.drew g5 34 #[.slice a0 n0 c0, .slice a1 n1 c1] ∧ Row W5.drew a0 n0 xs ∧ Row W5.drew a1 n1 zs ∧ Blk W5.drew W4.heap.size 26 (ub (nonceL p s)).toArray) := Lib.hid ⟨F4.out.1.trans (b9.mono (by have := F4.out.1.size; have := G3.out; omega)), F4.out.2.1.below b9, F4.out.2.2.2.1.below b9, F4.out.2.2.2.2.1.keep b9, F4.out.2.2.2.2.2.keep b9, n9⟩
   clear b9 n9 hW5 F4
   generalize W4.heap.size = g9 at *
   go_upto_region 5 with (fail)
   refine region_anyT (fun X => Below g3 w X ∧ Blk X g3 32 (ub kx).toArray ∧ Blk X g5 34 #[.slice a0 n0 c0, .slice a1 n1 c1] ∧ Row X a0 n0 xs ∧ Row X a1 n1 zs ∧ Blk X g9 26 (ub (nonceL p s)).toArray) (by kernel_rfl) 26 26 rfl ?_
   refine wpAnyT_take (i := 0) (oi := ⟨some 33, _, _, _, _, _⟩) (v := .agg (ub (nonceL p s)).toArray) rfl (by kernel_rfl) (by kernel_rfl) (by kernel_rfl) (fun _ _ _ h => h) (by kernel_rfl) (Or.inl ⟨rfl, fun w h => run_load_mid _ _ _ 26 _ rfl g9 0 rfl (ub (nonceL p s)) _ (blk_rangeC (h.2.2.2.2.2)) Try.underlying26 rfl (by rw [HT.out.2.2.2.2]; kernel_rfl)⟩) F5.out ?_
   simp only [Act.put, List.setIfInBounds_toArray, List.set_cons_zero, List.set_cons_succ]
   refine wpAnyT_take (i := 1) (oi := ⟨some 34, _, _, _, _, _⟩) (v := .int .i64 u) rfl (by kernel_rfl) (by kernel_rfl) (by kernel_rfl) (fun _ _ _ h => h) (by kernel_rfl) (Or.inl ⟨rfl, fun w h => by kernel_rfl⟩) F5.out ?_
   simp only [Act.put, List.setIfInBounds_toArray, List.set_cons_zero, List.set_cons_succ]
   refine wpAnyT_take (i := 2) (oi := ⟨some 35, _, _, _, _, _⟩) (v := .int .u32 ((p : Nat) : Int)) rfl (by kernel_rfl) (by kernel_rfl) (by kernel_rfl) (fun _ _ _ h => h) (by kernel_rfl) (Or.inl ⟨rfl, fun w h => run_convi Try.underlying3 Try.underlying22 rfl rfl _ (by rw [IntKind.wrap_u32]; exact HU.out.2.1)⟩) F5.out ?_
   simp only [Act.put, List.setIfInBounds_toArray, List.set_cons_zero, List.set_cons_succ]
   refine wpAnyT_take (i := 3) (oi := ⟨some 36, _, _, _, _, _⟩) (v := .int .u64 ((s : Nat) : Int)) rfl (by kernel_rfl) (by kernel_rfl) (by kernel_rfl) (fun _ _ _ h => h) (by kernel_rfl) (Or.inl ⟨rfl, fun w h => by kernel_rfl⟩) F5.out ?_
   simp only [Act.put, List.setIfInBounds_toArray, List.set_cons_zero, List.set_cons_succ]
   refine wpAnyT_one (i := 4) (by kernel_rfl) ?_
   refine op_call (o := ⟨some 37, _, _, _, _, _⟩) 7 #[.int .u32 ((p : Nat) : Int), .int .u64 ((s : Nat) : Int)] rfl rfl (by kernel_rfl) (((refnonce_any p s HU.out.2.2 HB.out.2 W5.drew)).mono fun e s1 ⟨he, qs1⟩ => ⟨.agg (ub (nonceL p s)).toArray, he, ?_, ?_⟩)
   ·exact fun _ => ⟨F5.out.1.trans (qs1.mono (by have h1 := F5.out.1.size; have h2 := G3.out; omega)), F5.out.2.1.below qs1, F5.out.2.2.1.below qs1, F5.out.2.2.2.1.keep qs1, F5.out.2.2.2.2.1.keep qs1, F5.out.2.2.2.2.2.below qs1⟩
   simp only [Act.put, List.setIfInBounds_toArray, List.set_cons_zero, List.set_cons_succ]
   have Fs1 := Lib.hid (show Below g3 w s1 ∧ Blk s1 g3 32 (ub kx).toArray ∧ Blk s1 g5 34 #[.slice a0 n0 c0, .slice a1 n1 c1] ∧ Row s1 a0 n0 xs ∧ Row s1 a1 n1 zs ∧ Blk s1 g9 26 (ub (nonceL p s)).toArray from ⟨F5.out.1.trans (qs1.mono (by have h1 := F5.out.1.size; have h2 := G3.out; omega)), F5.out.2.1.below qs1, F5.out.2.2.1.below qs1, F5.out.2.2.2.1.keep qs1, F5.out.2.2.2.2.1.keep qs1, F5.out.2.2.2.2.2.below qs1⟩)
   clear qs1
   refine wpAnyT_take (i := 5) (oi := ⟨some 38, _, _, _, _, _⟩) (v := .bool true) rfl (by kernel_rfl) (by kernel_rfl) (by kernel_rfl) (fun _ _ _ h => h) (by kernel_rfl) (Or.inl ⟨rfl, fun w h => run_eq12 _ _ _ _ _ (nonceL p s) (nonceL p s) true (nonceL_len _ _) (nonceL_len _ _) rfl rfl rfl (by simp)⟩) Fs1.out ?_
   simp only [Act.put, List.setIfInBounds_toArray, List.set_cons_zero, List.set_cons_succ]
   refine wpAnyT_take (i := 6) (oi := ⟨some 39, _, _, _, _, _⟩) (v := .bool true) rfl (by kernel_rfl) (by kernel_rfl) (by kernel_rfl) (fun _ _ _ h => h) (by kernel_rfl) (Or.inl ⟨rfl, fun w h => by kernel_rfl⟩) Fs1.out ?_
   simp only [Act.put, List.setIfInBounds_toArray, List.set_cons_zero, List.set_cons_succ]
   refine wpAnyT_take (i := 7) (oi := ⟨some 40, _, _, _, _, _⟩) (v := .agg (ub kx).toArray) rfl (by kernel_rfl) (by kernel_rfl) (by kernel_rfl) (fun _ _ _ h => h) (by kernel_rfl) (Or.inl ⟨rfl, fun w h => run_load_mid _ _ _ 32 _ rfl g3 0 rfl (ub kx) _ (blk_rangeC (h.2.1)) Try.underlying32 rfl (by rw [HT.out.2.2.2.1]; kernel_rfl)⟩) Fs1.out ?_
   simp only [Act.put, List.setIfInBounds_toArray, List.set_cons_zero, List.set_cons_succ]
   refine wpAnyT_take (i := 8) (oi := ⟨some 41, _, _, _, _, _⟩) (v := .agg (ub (nonceL p s)).toArray) rfl (by kernel_rfl) (by kernel_rfl) (by kernel_rfl) (fun _ _ _ h => h) (by kernel_rfl) (Or.inl ⟨rfl, fun w h => run_load_mid _ _ _ 26 _ rfl g9 0 rfl (ub (nonceL p s)) _ (blk_rangeC (h.2.2.2.2.2)) Try.underlying26 rfl (by rw [HT.out.2.2.2.2]; kernel_rfl)⟩) Fs1.out ?_
   simp only [Act.put, List.setIfInBounds_toArray, List.set_cons_zero, List.set_cons_succ]
   refine wpAnyT_take (i := 9) (oi := ⟨some 42, _, _, _, _, _⟩) (v := .pointer (some ⟨g5, 0, none⟩)) rfl (by kernel_rfl) (by kernel_rfl) (by kernel_rfl) (fun _ _ _ h => h) (by kernel_rfl) (Or.inl ⟨rfl, fun w h => by kernel_rfl⟩) Fs1.out ?_
   simp only [Act.put, List.setIfInBounds_toArray, List.set_cons_zero, List.set_cons_succ]
   refine wpAnyT_take (i := 10) (oi := ⟨some 43, _, _, _, _, _⟩) (v := .slice a0 n0 c0) rfl (by kernel_rfl) (by kernel_rfl) (by kernel_rfl) (fun _ _ _ h => h) (by kernel_rfl) (Or.inl ⟨rfl, fun w h => run_load_one _ _ _ 33 _ _ rfl g5 0 rfl (by rw [(h.2.2.1).cell]; rfl) (by kernel_rfl)⟩) Fs1.out ?_
   simp only [Act.put, List.setIfInBounds_toArray, List.set_cons_zero, List.set_cons_succ]
   refine wpAnyT_take (i := 11) (oi := ⟨some 44, _, _, _, _, _⟩) (v := .pointer (some ⟨g5, 1, none⟩)) rfl (by kernel_rfl) (by kernel_rfl) (by kernel_rfl) (fun _ _ _ h => h) (by kernel_rfl) (Or.inl ⟨rfl, fun w h => by kernel_rfl⟩) Fs1.out ?_
   simp only [Act.put, List.setIfInBounds_toArray, List.set_cons_zero, List.set_cons_succ]
   refine wpAnyT_take (i := 12) (oi := ⟨some 45, _, _, _, _, _⟩) (v := .slice a1 n1 c1) rfl (by kernel_rfl) (by kernel_rfl) (by kernel_rfl) (fun _ _ _ h => h) (by kernel_rfl) (Or.inl ⟨rfl, fun w h => run_load_one _ _ _ 33 _ _ rfl g5 1 rfl (by rw [(h.2.2.1).cell]; rfl) (by kernel_rfl)⟩) Fs1.out ?_
   simp only [Act.put, List.setIfInBounds_toArray, List.set_cons_zero, List.set_cons_succ]
   refine wpAnyT_take (i := 15) (oi := ⟨some 48, _, _, _, _, _⟩) (v := .agg (ub kx).toArray) rfl (by kernel_rfl) (by kernel_rfl) (by kernel_rfl) (fun _ _ _ h => h) (by kernel_rfl) (Or.inl ⟨rfl, fun w h => run_load_mid _ _ _ 32 _ rfl g3 0 rfl (ub kx) _ (blk_rangeC (h.2.1)) Try.underlying32 rfl (by rw [HT.out.2.2.2.1]; kernel_rfl)⟩) Fs1.out ?_
   simp only [Act.put, List.setIfInBounds_toArray, List.set_cons_zero, List.set_cons_succ]
   refine wpAnyT_take (i := 16) (oi := ⟨some 49, _, _, _, _, _⟩) (v := .agg (ub (nonceL p s)).toArray) rfl (by kernel_rfl) (by kernel_rfl) (by kernel_rfl) (fun _ _ _ h => h) (by kernel_rfl) (Or.inl ⟨rfl, fun w h => run_load_mid _ _ _ 26 _ rfl g9 0 rfl (ub (nonceL p s)) _ (blk_rangeC (h.2.2.2.2.2)) Try.underlying26 rfl (by rw [HT.out.2.2.2.2]; kernel_rfl)⟩) Fs1.out ?_
   simp only [Act.put, List.setIfInBounds_toArray, List.set_cons_zero, List.set_cons_succ]
   refine wpAnyT_take (i := 17) (oi := ⟨some 50, _, _, _, _, _⟩) (v := .pointer (some ⟨g5, 0, none⟩)) rfl (by kernel_rfl) (by kernel_rfl) (by kernel_rfl) (fun _ _ _ h => h) (by kernel_rfl) (Or.inl ⟨rfl, fun w h => by kernel_rfl⟩) Fs1.out ?_
   simp only [Act.put, List.setIfInBounds_toArray, List.set_cons_zero, List.set_cons_succ]
   refine wpAnyT_take (i := 18) (oi := ⟨some 51, _, _, _, _, _⟩) (v := .slice a0 n0 c0) rfl (by kernel_rfl) (by kernel_rfl) (by kernel_rfl) (fun _ _ _ h => h) (by kernel_rfl) (Or.inl ⟨rfl, fun w h => run_load_one _ _ _ 33 _ _ rfl g5 0 rfl (by rw [(h.2.2.1).cell]; rfl) (by kernel_rfl)⟩) Fs1.out ?_
   simp only [Act.put, List.setIfInBounds_toArray, List.set_cons_zero, List.set_cons_succ]
   refine wpAnyT_take (i := 19) (oi := ⟨some 52, _, _, _, _, _⟩) (v := .pointer (some ⟨g5, 1, none⟩)) rfl (by kernel_rfl) (by kernel_rfl) (by kernel_rfl) (fun _ _ _ h => h) (by kernel_rfl) (Or.inl ⟨rfl, fun w h => by kernel_rfl⟩) Fs1.out ?_
   simp only [Act.put, List.setIfInBounds_toArray, List.set_cons_zero, List.set_cons_succ]
   refine wpAnyT_take (i := 20) (oi := ⟨some 53, _, _, _, _, _⟩) (v := .slice a1 n1 c1) rfl (by kernel_rfl) (by kernel_rfl) (by kernel_rfl) (fun _ _ _ h => h) (by kernel_rfl) (Or.inl ⟨rfl, fun w h => run_load_one _ _ _ 33 _ _ rfl g5 1 rfl (by rw [(h.2.2.1).cell]; rfl) (by kernel_rfl)⟩) Fs1.out ?_
   simp only [Act.put, List.setIfInBounds_toArray, List.set_cons_zero, List.set_cons_succ]
   refine wpAnyT_one (i := 13) (by kernel_rfl) ?_
   refine op_call (o := ⟨some 46, _, _, _, _, _⟩) 8 #[.agg (ub kx).toArray, .agg (ub (nonceL p s)).toArray, .slice a0 n0 c0, .slice a1 n1 c1] rfl rfl (by kernel_rfl) (((seal_two HT.out a0 a1 n0 c0 n1 c1 xs zs (by have := H6.out; omega) (by have := H2.out; omega) HFA.out s1 (Fs1.out.2.2.2.1) (Fs1.out.2.2.2.2.1))).mono fun e s2 ⟨as2, cs2, he, qs2, os2⟩ => ⟨.slice as2 (n0 + 16) cs2, he, ?_, ?_⟩)
   ·exact fun _ => ⟨Fs1.out.1.trans (qs2.mono (by have h1 := Fs1.out.1.size; have h2 := G3.out; omega)), Fs1.out.2.1.below qs2, Fs1.out.2.2.1.below qs2, Fs1.out.2.2.2.1.keep qs2, Fs1.out.2.2.2.2.1.keep qs2, Fs1.out.2.2.2.2.2.below qs2⟩
   simp only [Act.put, List.setIfInBounds_toArray, List.set_cons_zero, List.set_cons_succ]
   have Fs2 := Lib.hid (show Below g3 w s2 ∧ Blk s2 g3 32 (ub kx).toArray ∧ Blk s2 g5 34 #[.slice a0 n0 c0, .slice a1 n1 c1] ∧ Row s2 a0 n0 xs ∧ Row s2 a1 n1 zs ∧ Blk s2 g9 26 (ub (nonceL p s)).toArray ∧ Row s2 as2 (n0 + 16) (sealV ks xs zs n0 n1) from ⟨Fs1.out.1.trans (qs2.mono (by have h1 := Fs1.out.1.size; have h2 := G3.out; omega)), Fs1.out.2.1.below qs2, Fs1.out.2.2.1.below qs2, Fs1.out.2.2.2.1.keep qs2, Fs1.out.2.2.2.2.1.keep qs2, Fs1.out.2.2.2.2.2.below qs2, (Own.row os2).1⟩)
   clear qs2
   refine wpAnyT_more (S' := fun X => Below g3 w X ∧ Blk X g3 32 (ub kx).toArray ∧ Blk X g5 34 #[.slice a0 n0 c0, .slice a1 n1 c1] ∧ Row X a0 n0 xs ∧ Row X a1 n1 zs ∧ Blk X g9 26 (ub (nonceL p s)).toArray ∧ Row X as2 (n0 + 16) (sealV ks xs zs n0 n1)) (fun w h => ⟨h.1, h.2.1, h.2.2.1, h.2.2.2.1, h.2.2.2.2.1, h.2.2.2.2.2.1⟩) _ _ _ _ ?_
   refine wpAnyT_take (i := 14) (oi := ⟨some 47, _, _, _, _, _⟩) (v := .string (strOfNums (sealV ks xs zs n0 n1))) rfl (by kernel_rfl) (by kernel_rfl) (by kernel_rfl) (fun _ _ _ h => h) (by kernel_rfl) (Or.inl ⟨rfl, fun w h => run_conv_str _ _ _ _ as2 (n0 + 16) cs2 (sealV ks xs zs n0 n1) rfl rfl (h.2.2.2.2.2.2)⟩) Fs2.out ?_
   simp only [Act.put, List.setIfInBounds_toArray, List.set_cons_zero, List.set_cons_succ]
   refine wpAnyT_one (i := 21) (by kernel_rfl) ?_
   refine op_call (o := ⟨some 54, _, _, _, _, _⟩) 9 #[.agg (ub kx).toArray, .agg (ub (nonceL p s)).toArray, .slice a0 n0 c0, .slice a1 n1 c1] rfl rfl (by kernel_rfl) (((refseal_two HT.out a0 a1 n0 c0 n1 c1 xs zs (by have := H6.out; omega) (by have := H2.out; omega) HFA.out s2 (Fs2.out.2.2.2.1) (Fs2.out.2.2.2.2.1))).mono fun e s3 ⟨as3, cs3, he, qs3, os3⟩ => ⟨.slice as3 (n0 + 16) cs3, he, ?_, ?_⟩)
   ·exact fun _ => ⟨Fs2.out.1.trans (qs3.mono (by have h1 := Fs2.out.1.size; have h2 := G3.out; omega)), Fs2.out.2.1.below qs3, Fs2.out.2.2.1.below qs3, Fs2.out.2.2.2.1.keep qs3, Fs2.out.2.2.2.2.1.keep qs3, Fs2.out.2.2.2.2.2.1.below qs3, Fs2.out.2.2.2.2.2.2.keep qs3⟩
   simp only [Act.put, List.setIfInBounds_toArray, List.set_cons_zero, List.set_cons_succ]
   have Fs3 := Lib.hid (show Below g3 w s3 ∧ Blk s3 g3 32 (ub kx).toArray ∧ Blk s3 g5 34 #[.slice a0 n0 c0, .slice a1 n1 c1] ∧ Row s3 a0 n0 xs ∧ Row s3 a1 n1 zs ∧ Blk s3 g9 26 (ub (nonceL p s)).toArray ∧ Row s3 as2 (n0 + 16) (sealV ks xs zs n0 n1) ∧ Row s3 as3 (n0 + 16) (sealV ks xs zs n0 n1) from ⟨Fs2.out.1.trans (qs3.mono (by have h1 := Fs2.out.1.size; have h2 := G3.out; omega)), Fs2.out.2.1.below qs3, Fs2.out.2.2.1.below qs3, Fs2.out.2.2.2.1.keep qs3, Fs2.out.2.2.2.2.1.keep qs3, Fs2.out.2.2.2.2.2.1.below qs3, Fs2.out.2.2.2.2.2.2.keep qs3, (Own.row os3).1⟩)
   clear qs3
   refine wpAnyT_more (S' := fun X => Below g3 w X ∧ Blk X g3 32 (ub kx).toArray ∧ Blk X g5 34 #[.slice a0 n0 c0, .slice a1 n1 c1] ∧ Row X a0 n0 xs ∧ Row X a1 n1 zs ∧ Blk X g9 26 (ub (nonceL p s)).toArray ∧ Row X as2 (n0 + 16) (sealV ks xs zs n0 n1) ∧ Row X as3 (n0 + 16) (sealV ks xs zs n0 n1)) (fun w h => ⟨h.1, h.2.1, h.2.2.1, h.2.2.2.1, h.2.2.2.2.1, h.2.2.2.2.2.1, h.2.2.2.2.2.2.1⟩) _ _ _ _ ?_
   refine wpAnyT_take (i := 22) (oi := ⟨some 55, _, _, _, _, _⟩) (v := .string (strOfNums (sealV ks xs zs n0 n1))) rfl (by kernel_rfl) (by kernel_rfl) (by kernel_rfl) (fun _ _ _ h => h) (by kernel_rfl) (Or.inl ⟨rfl, fun w h => run_conv_str _ _ _ _ as3 (n0 + 16) cs3 (sealV ks xs zs n0 n1) rfl rfl (h.2.2.2.2.2.2.2)⟩) Fs3.out ?_
   simp only [Act.put, List.setIfInBounds_toArray, List.set_cons_zero, List.set_cons_succ]
   refine wpAnyT_take (i := 23) (oi := ⟨some 56, _, _, _, _, _⟩) (v := .bool true) rfl (by kernel_rfl) (by kernel_rfl) (by kernel_rfl) (fun _ _ _ h => h) (by kernel_rfl) (Or.inl ⟨rfl, fun w h => run_str_eql _ _ _ _ _ (sealV ks xs zs n0 n1) (sealV ks xs zs n0 n1) true rfl rfl rfl (by simp) HSB.out HSB.out⟩) Fs3.out ?_
   simp only [Act.put, List.setIfInBounds_toArray, List.set_cons_zero, List.set_cons_succ]
   refine wpAnyT_take (i := 24) (oi := ⟨some 57, _, _, _, _, _⟩) (v := .bool true) rfl (by kernel_rfl) (by kernel_rfl) (by kernel_rfl) (fun _ _ _ h => h) (by kernel_rfl) (Or.inl ⟨rfl, fun w h => by kernel_rfl⟩) Fs3.out ?_
   simp only [Act.put, List.setIfInBounds_toArray, List.set_cons_zero, List.set_cons_succ]
   refine wpAnyT_take (i := 25) (oi := ⟨some 6, _, _, _, _, _⟩) (v := .bool true) rfl (by kernel_rfl) (by kernel_rfl) (by kernel_rfl) (fun _ _ _ h => h) (by kernel_rfl) (Or.inl ⟨rfl, fun w h => by kernel_rfl⟩) Fs3.out ?_
   simp only [Act.put, List.setIfInBounds_toArray, List.set_cons_zero, List.set_cons_succ]
   refine wpAnyT_done (by kernel_rfl) ?_ _
   go_wp2_with fail
   go_ret
   exact ⟨rfl, by rw [G3.out]; exact Fs3.out.1⟩
theorem fit_of {w : World} {a : Option Addr} {n c : Nat} {zs : List Int} (h : IsRow .u8 w a n c zs) : Fit a n c := by
 rcases h with ⟨rfl, rfl, rfl, rfl⟩ | ⟨x, rfl, h1, h2, h3, h4, h5⟩
 ·exact ⟨Nat.le_refl _, by omega, fun h => by omega⟩
 ·have hm : c < 9223372036854775808 := by unfold maxLen at h2; omega
  refine ⟨h1, hm, fun hc p hp => ?_⟩
  cases hp
  have h := h4 0 (by omega)
  obtain ⟨g, o, s⟩ := x
  cases s with
  | none => rfl
  | some s =>
   simp [World.cell?, Addr.add] at h
   split at h <;> simp at h
end Go.Proofs.Ytlbfohpkngmaoaa.Ch.B.Se
namespace Go.Proofs.Ytlbfohpkngmaoaa
open Go Go.RowKit Go.ChangeShapes Go.WideShapes Go.ChangeAt
theorem list2s (xs : List Int) (h : xs.length = 2) : ∃ a b, xs = [a, b] := by
 match xs, h with
 | [a, b], _ => exact ⟨a, b, rfl⟩
theorem open_two {H : Type} {enc : TypeId × Value → H} {W : World} {held : Bool} {b0 : Nat} {r : Reach} {v : Value} {d : DataW H} {ps : List MemPlace} (hval : Value.okWide Try.prog W r b0 34 v)
  (hd : DataW.Trod enc Try.prog W 0 (fun _ => true) held 34 v d ps) : ∃ a n c z b m e y, v = .agg #[.slice a n c, .slice b m e] ∧ IsRow .u8 W a n c z ∧ IsRow .u8 W b m e y := by
 simp only [Value.okWide, Try.underlying34] at hval
 obtain ⟨cs, rfl, hsz, _⟩ := hval
 obtain ⟨fuel, hf⟩ := hd
 simp only [Value.cells] at hf
 obtain ⟨xs, m, _, _, hlen, hl, hel⟩ := DataW.trod_array Try.underlying34 hf
 have c33 : Try.prog.cellsOf 33 = 1 := by kernel_rfl
 have c34 : Try.prog.cellsOf 34 = 2 := by kernel_rfl
 rw [c34] at hlen
 obtain ⟨v0, v1, hcs⟩ : ∃ v0 v1, cs.toList = [v0, v1] := by
  match cs.toList, hlen with
  | [v0, v1], _ => exact ⟨v0, v1, rfl⟩
 have one : ∀ (u : Value) (i : Nat), i < 2 → (cs.toList.drop (i * 1)).take 1 = [u] → ∃ a n c z, u = .slice a n c ∧ IsRow .u8 W a n c z := by
  intro u i hi hu
  have h := hel i hi
  rw [c33, hu, List.getElem?_eq_getElem (by omega)] at h
  rcases open_ints Try.underlying33 Try.underlying5 (by kernel_rfl) h with ⟨h1, _⟩ | ⟨y, l, c, zs, h1, _, hl', hm', hz, _, hcell, hwz⟩
  ·exact ⟨none, 0, 0, [], by simpa using h1, .inl ⟨rfl, rfl, rfl, rfl⟩⟩
  ·exact ⟨some y, l, c, zs, by simpa using h1, .inr ⟨y, rfl, hl', hm', by simpa using hz, hcell, hwz⟩⟩
 obtain ⟨a, n, c, z, rfl, h0⟩ := one v0 0 (by omega) (by rw [hcs]; rfl)
 obtain ⟨b, m', e, y, rfl, h1⟩ := one v1 1 (by omega) (by rw [hcs]; rfl)
 exact ⟨a, n, c, z, b, m', e, y, by rw [← Array.toArray_toList (xs := cs), hcs], h0, h1⟩
theorem walkSealSeals (xs ys : List Int) (a : Option Addr) (n c : Nat) (z : List Int) (b : Option Addr) (m e : Nat) (y : List Int) (lx : xs.length = 32) (wx : ∀ x ∈ xs, (Lit.int .u8 x).wf = true) (ly : ys.length = 2) (wy : ∀ x ∈ ys, (Lit.int .u64 x).wf = true) (w : World) (hm : IsRow .u8 w a n c z ∧ IsRow .u8 w b m e y) :
  Calls Try.prog 4 #[.agg (xs.map (Value.int .u8)).toArray, .agg (ys.map (Value.int .u64)).toArray, .agg #[.slice a n c, .slice b m e]] w fun e w' => e = .returned (.bool true) ∧ Below w.heap.size w w' := by
 obtain ⟨s, t, rfl⟩ := list2s ys ly
 have hs := bounds_u64 (wy s (by simp))
 have ht := bounds_u64 (wy t (by simp))
 obtain ⟨s, rfl⟩ : ∃ n : Nat, s = (n : Int) := ⟨s.toNat, by omega⟩
 obtain ⟨t, rfl⟩ : ∃ n : Nat, t = (n : Int) := ⟨t.toNat, by omega⟩
 have h0 : Ch.B.IsRow .u8 w a n c z := hm.1
 have h1 : Ch.B.IsRow .u8 w b m e y := hm.2
 exact Ch.B.Se.seals_any xs s t a b n c m e _ _ lx (fun x hx => by have := bounds_u8 (wx x hx); omega) ⟨by omega, by omega⟩ (Ch.B.Se.fit_of h1) w (Ch.B.row_of h0) (Ch.B.row_of h1)
end Go.Proofs.Ytlbfohpkngmaoaa
