/- The code of a sealed text. -/
import Derived.Test.YtlbfohpkngmaoaaDoorS2
import Derived.Test.YtlbfohpkngmaoaaDoorChX
import Derived.Test.YtlbfohpkngmaoaaDoorPoQ6
namespace Go.Proofs.YtlbfohpkngmaoaaDoor.Ch.B.Se
open Go Go.RowKit
theorem own_of_blk {w : World} {g n B : Nat} {l : List Int} (h : Blk w g 5 (ub l).toArray) (hl : l.length = n) (hn : n ≤ 100000) (hb : ∀ x ∈ l, 0 ≤ x ∧ x ≤ 255) (hB : B ≤ g) : Own w B (.slice (some ⟨g, 0, none⟩) n n) l := by
 subst hl
 exact ⟨⟨by simp, .inr ⟨g, l.length, (ub l).toArray, rfl, hB, h, Nat.le_refl _, by unfold maxLen; omega, by simp [ub], by show (ub l).take (l.length * 1) = ub l; exact List.take_of_length_le (by rw [ub_len]; omega)⟩⟩, hb⟩
theorem fit_some {g n : Nat} (h : n ≤ 100000) : Fit (some ⟨g, 0, none⟩) n n := ⟨Nat.le_refl _, by omega, fun _ p hp => by cases hp; rfl⟩
theorem range_take {w : World} {g t : Nat} {l : List Int} (h : Blk w g t (ub l).toArray) (k : Nat) : w.rangeAt g 0 (ub (l.take k)) := by
 intro j v hj
 rw [h.cell, Nat.zero_add, List.getElem?_toArray]
 unfold ub at hj ⊢
 rw [List.getElem?_map, List.getElem?_take] at hj
 split at hj
 ·rw [List.getElem?_map]; exact hj
 ·simp at hj
theorem block0 {KV NV : List Value} {ks : Nat → List Int} (hT : Two KV NV ks) (W : World) : Calls Tryd.prog 17 #[.agg KV.toArray, .agg NV.toArray, .int .u32 0] W fun e w' => e = .returned (.agg (ub (ks 0)).toArray) ∧ Below W.heap.size W w' := hT.1 0 (by decide) W
theorem key_ok {KV NV : List Value} {ks : Nat → List Int} (hT : Two KV NV ks) : ((ks 0).take 32).length = 32 ∧ ∀ x ∈ (ks 0).take 32, 0 ≤ x ∧ x ≤ 255 :=
 ⟨by rw [List.length_take, (hT.2.2.1 0).1]; rfl, fun x hx => (hT.2.2.1 0).2 x (List.mem_of_mem_take hx)⟩
def codeT (zs ys : List Int) (an tn : Nat) : List Int := [zs, List.replicate (pd an) 0, ys, List.replicate (pd tn) 0, len8 an ++ len8 tn].flatten
def codeV (ks : Nat → List Int) (zs ys : List Int) (an tn : Nat) : List Int := Po.codeS ((ks 0).take 32) (codeT zs ys an tn)
theorem codeV_len (ks : Nat → List Int) (zs ys : List Int) (an tn : Nat) : (codeV ks zs ys an tn).length = 16 := Po.codeS_len _ _
theorem codeV_byte (ks : Nat → List Int) (zs ys : List Int) (an tn : Nat) : ∀ x ∈ codeV ks zs ys an tn, 0 ≤ x ∧ x ≤ 255 := Po.le16_byte _
theorem psl_five {W : World} {g n0 n1 n2 n3 n4 c0 c1 c2 c3 c4 : Nat} {a0 a1 a2 a3 a4 : Option Addr} {x0 x1 x2 x3 x4 : List Int} (h : Blk W g 24 #[.slice a0 n0 c0, .slice a1 n1 c1, .slice a2 n2 c2, .slice a3 n3 c3, .slice a4 n4 c4])
  (h0 : Row W a0 n0 x0 ∧ Fit a0 n0 c0) (h1 : Row W a1 n1 x1 ∧ Fit a1 n1 c1) (h2 : Row W a2 n2 x2 ∧ Fit a2 n2 c2) (h3 : Row W a3 n3 x3 ∧ Fit a3 n3 c3) (h4 : Row W a4 n4 x4 ∧ Fit a4 n4 c4)
  (hn : n0 < 2000000 ∧ n1 < 2000000 ∧ n2 < 2000000 ∧ n3 < 2000000 ∧ n4 < 2000000) : Po.PSl W (some ⟨g, 0, none⟩) 5 [x0, x1, x2, x3, x4] :=
 ⟨rfl, by unfold maxLen; omega, fun k hk => by
  rcases (show k = 0 ∨ k = 1 ∨ k = 2 ∨ k = 3 ∨ k = 4 by omega) with rfl | rfl | rfl | rfl | rfl
  ·exact ⟨g, 0, a0, n0, c0, rfl, by rw [h.cell]; rfl, h0, by omega⟩
  ·exact ⟨g, 0, a1, n1, c1, rfl, by rw [h.cell]; rfl, h1, by omega⟩
  ·exact ⟨g, 0, a2, n2, c2, rfl, by rw [h.cell]; rfl, h2, by omega⟩
  ·exact ⟨g, 0, a3, n3, c3, rfl, by rw [h.cell]; rfl, h3, by omega⟩
  ·exact ⟨g, 0, a4, n4, c4, rfl, by rw [h.cell]; rfl, h4, by omega⟩⟩
attribute [local irreducible] wpList wpAny
set_option maxHeartbeats 8000000 in
set_option maxRecDepth 100000 in
theorem code_two {KV NV : List Value} {ks : Nat → List Int} (hT : Two KV NV ks) (ta aa : Option Addr) (tn tc an ac : Nat) (ys zs : List Int) (htn : tn < 1000000) (han : an < 1000000) (hFT : Fit ta tn tc) (hFA : Fit aa an ac) (w : World) (hY : Row w ta tn ys) (hZ : Row w aa an zs) :
  Calls Tryd.prog 12 #[.agg KV.toArray, .agg NV.toArray, .slice ta tn tc, .slice aa an ac] w fun e w' => e = .returned (.agg (ub (codeV ks zs ys an tn)).toArray) ∧ Below w.heap.size w w' := by
 have HT := Lib.hid hT
 have HTN := Lib.hid htn
 have HAN := Lib.hid han
 have HFT := Lib.hid hFT
 have HFA := Lib.hid hFA
 have HY := Lib.hid hY
 have HZ := Lib.hid hZ
 clear hT htn han hFT hFA hY hZ
 go_enter Tryd.func12, Tryd.ntmps12
 go_upto_region 1 with (fail)
 obtain ⟨W1, hW1⟩ : ∃ V, V = ((w.alloc (.cells KV.toArray 23)).alloc (.cells NV.toArray 27)).alloc (.cells (ub (List.replicate 16 0)).toArray 39) := ⟨_, rfl⟩
 rw [show ((w.alloc (.cells KV.toArray 23)).alloc (.cells NV.toArray 27)).alloc (.cells #[.int .u8 0, .int .u8 0, .int .u8 0, .int .u8 0, .int .u8 0, .int .u8 0, .int .u8 0, .int .u8 0, .int .u8 0, .int .u8 0, .int .u8 0, .int .u8 0, .int .u8 0, .int .u8 0, .int .u8 0, .int .u8 0] 39) = W1 from hW1.symm]
 have b1 : Below w.heap.size w W1 := by rw [hW1]; exact (((Below.refl _ _).alloc (Nat.le_refl _) _).alloc (by simp) _).alloc (by simp; omega) _
 have F1 : Hid (Below w.heap.size w W1 ∧ Blk W1 w.heap.size 23 KV.toArray ∧ Blk W1 (w.heap.size + 1) 27 NV.toArray ∧ Blk W1 (w.heap.size + 1 + 1) 39 (ub (List.replicate 16 0)).toArray ∧ Row W1 ta tn ys ∧ Row W1 aa an zs) := Lib.hid (by
  refine ⟨b1, ?_, ?_, ?_, HY.out.keep b1, HZ.out.keep b1⟩
  ·rw [hW1]; exact ((Blk.new _ _ _).alloc _).alloc _
  ·rw [hW1]; exact (Blk.new' _ _ _ _ (by simp)).alloc _
  ·rw [hW1]; exact Blk.new' _ _ _ _ (by simp))
 clear hW1 b1
 have L1 : Hid (w.heap.size < w.heap.size + 1 ∧ w.heap.size + 1 < w.heap.size + 1 + 1) := Lib.hid ⟨by omega, by omega⟩
 generalize w.heap.size + 1 + 1 = g8 at *
 generalize w.heap.size + 1 = g5 at *
 obtain ⟨g4, hg4⟩ : ∃ q, w.heap.size = q := ⟨_, rfl⟩
 have G4 : Hid (w.heap.size = g4) := Lib.hid hg4
 rw [hg4] at F1 L1
 rw [hg4]
 clear hg4
 refine wp_region_lit ?_
 refine wpL_load 23 _ rfl rfl g4 0 rfl KV _ (blk_rangeC (F1.out.2.1)) Tryd.underlying23 rfl (by rw [HT.out.2.2.2.1]; kernel_rfl) ?_
 simp only [Act.put, List.setIfInBounds_toArray, List.set_cons_zero, List.set_cons_succ]
 refine wpL_load 27 _ rfl rfl g5 0 rfl NV _ (blk_rangeC (F1.out.2.2.1)) Tryd.underlying27 rfl (by rw [HT.out.2.2.2.2]; kernel_rfl) ?_
 simp only [Act.put, List.setIfInBounds_toArray, List.set_cons_zero, List.set_cons_succ]
 refine wpL_call 17 #[.agg KV.toArray, .agg NV.toArray, .int .u32 0] rfl (by kernel_rfl) (((block0 HT.out W1)).mono fun e W2 ⟨he, b2⟩ => ⟨.agg (ub (ks 0)).toArray, he, ?_⟩)
 simp only [Act.put, List.setIfInBounds_toArray, List.set_cons_zero, List.set_cons_succ]
 have F2 : Hid (Below g4 w W2 ∧ Blk W2 g4 23 KV.toArray ∧ Blk W2 g5 27 NV.toArray ∧ Blk W2 g8 39 (ub (List.replicate 16 0)).toArray ∧ Row W2 ta tn ys ∧ Row W2 aa an zs) := Lib.hid ⟨F1.out.1.trans (b2.mono (by have := F1.out.1.size; have := G4.out; omega)), F1.out.2.1.below b2, F1.out.2.2.1.below b2, F1.out.2.2.2.1.below b2, F1.out.2.2.2.2.1.keep b2, F1.out.2.2.2.2.2.keep b2⟩
 clear b2 F1
 obtain ⟨W3, hW3⟩ : ∃ V, V = (W2.alloc (.cells (ub (List.replicate 64 0)).toArray 53)).setRow W2.heap.size (ub (ks 0)).toArray := ⟨_, rfl⟩
 refine zV (.pointer (some ⟨W2.heap.size, 0, none⟩)) (W2.alloc (.cells (ub (List.replicate 64 0)).toArray 53)) (by kernel_rfl) ?_
 refine wpList_store_rowTo rfl 53 _ _ rfl rfl W2.heap.size (ub (ks 0)).toArray rfl rfl 53 _ (Blk.new _ _ _) (by simp only [List.size_toArray, ub_len, (HT.out.2.2.1 0).1]; kernel_rfl) (by simp only [List.size_toArray, ub_len, (HT.out.2.2.1 0).1, ub_len, List.length_replicate]) (ub_one _) ?_
 rw [← hW3]
 have b9 : Below W2.heap.size W2 W3 := by rw [hW3]; exact below_setRow ((Below.refl _ _).alloc (Nat.le_refl _) _) (Nat.le_refl _) _
 have F3 : Hid ((Below g4 w W3 ∧ Blk W3 g4 23 KV.toArray ∧ Blk W3 g5 27 NV.toArray ∧ Blk W3 g8 39 (ub (List.replicate 16 0)).toArray ∧ Row W3 ta tn ys ∧ Row W3 aa an zs) ∧ Blk W3 W2.heap.size 53 (ub (ks 0)).toArray) := Lib.hid ⟨⟨F2.out.1.trans (b9.mono (by have := F2.out.1.size; have := G4.out; omega)), F2.out.2.1.below b9, F2.out.2.2.1.below b9, F2.out.2.2.2.1.below b9, F2.out.2.2.2.2.1.keep b9, F2.out.2.2.2.2.2.keep b9⟩, by rw [hW3]; exact setRow_heap _ _ _ _ _ _ (Blk.new _ _ _)⟩
 clear b9 hW3 F2
 generalize W2.heap.size = g9 at *
 go_upto_region 2 with (fail)
 refine wp_region_lit ?_
 refine zP (.slice aa an ac) ?_
 refine wpL_call 18 #[.slice aa an ac] rfl (by kernel_rfl) (((length_any aa an ac HAN.out W3)).mono fun e W4 ⟨ga, he, b4, l4, r4⟩ => ⟨.slice (some ⟨ga, 0, none⟩) 8 8, he, ?_⟩)
 simp only [Act.put, List.setIfInBounds_toArray, List.set_cons_zero, List.set_cons_succ]
 obtain ⟨B, hB⟩ : ∃ q, W3.heap.size = q := ⟨_, rfl⟩
 have F4 : Hid (((Below g4 w W4 ∧ Blk W4 g4 23 KV.toArray ∧ Blk W4 g5 27 NV.toArray ∧ Blk W4 g8 39 (ub (List.replicate 16 0)).toArray ∧ Row W4 ta tn ys ∧ Row W4 aa an zs) ∧ Blk W4 g9 53 (ub (ks 0)).toArray) ∧ Blk W4 ga 5 (ub (len8 an)).toArray ∧ B ≤ ga ∧ B ≤ W4.heap.size) := Lib.hid ⟨⟨⟨F3.out.1.1.trans (b4.mono (by have := F3.out.1.1.size; have := G4.out; omega)), F3.out.1.2.1.below b4, F3.out.1.2.2.1.below b4, F3.out.1.2.2.2.1.below b4, F3.out.1.2.2.2.2.1.keep b4, F3.out.1.2.2.2.2.2.keep b4⟩, F3.out.2.below b4⟩, r4, hB ▸ l4, hB ▸ b4.size⟩
 have LB : Hid (g4 < B ∧ g8 < B ∧ g9 < B) := Lib.hid ⟨hB ▸ F3.out.1.2.1.lt, hB ▸ F3.out.1.2.2.2.1.lt, hB ▸ F3.out.2.lt⟩
 clear b4 l4 r4 F3 hB
 refine zP (.slice ta tn tc) ?_
 refine wpL_call 18 #[.slice ta tn tc] rfl (by kernel_rfl) (((length_any ta tn tc HTN.out W4)).mono fun e W5 ⟨gb, he, b5, l5, r5⟩ => ⟨.slice (some ⟨gb, 0, none⟩) 8 8, he, ?_⟩)
 simp only [Act.put, List.setIfInBounds_toArray, List.set_cons_zero, List.set_cons_succ]
 have F5 : Hid (((Below g4 w W5 ∧ Blk W5 g4 23 KV.toArray ∧ Blk W5 g5 27 NV.toArray ∧ Blk W5 g8 39 (ub (List.replicate 16 0)).toArray ∧ Row W5 ta tn ys ∧ Row W5 aa an zs) ∧ Blk W5 g9 53 (ub (ks 0)).toArray) ∧ Own W5 B (.slice (some ⟨ga, 0, none⟩) 8 8) (len8 an) ∧ Row W5 (some ⟨gb, 0, none⟩) 8 (len8 tn) ∧ B ≤ W5.heap.size) := Lib.hid ⟨⟨⟨F4.out.1.1.1.trans (b5.mono (by have := F4.out.1.1.1.size; have := G4.out; omega)), F4.out.1.1.2.1.below b5, F4.out.1.1.2.2.1.below b5, F4.out.1.1.2.2.2.1.below b5, F4.out.1.1.2.2.2.2.1.keep b5, F4.out.1.1.2.2.2.2.2.keep b5⟩, F4.out.1.2.below b5⟩, own_of_blk (F4.out.2.1.below b5) (len8_len _) (by decide) (len8_byte _) F4.out.2.2.1, row_of_blk r5 (len8_len _) (by decide) (len8_byte _), Nat.le_trans F4.out.2.2.2 b5.size⟩
 clear b5 l5 r5 F4
 obtain ⟨v5, w5, q1, q2, q3, q4, _⟩ := append_own W5 B (.slice (some ⟨ga, 0, none⟩) 8 8) (len8 an) (len8 tn) (some ⟨gb, 0, none⟩) 8 8 F5.out.2.1 F5.out.2.2.1 (by rw [len8_len]; omega) F5.out.2.2.2
 have Q1 := Lib.hid q1
 have ol := F5.out.2.1.lt
 obtain ⟨a5, c5, hv⟩ := Own.slice q2
 rw [List.length_append, len8_len, len8_len] at hv
 subst hv
 have F6 : Hid (Below g4 w w5.drew ∧ Row w5.drew ta tn ys ∧ Row w5.drew aa an zs ∧ Blk w5.drew g9 53 (ub (ks 0)).toArray ∧ Blk w5.drew g8 39 (ub (List.replicate 16 0)).toArray ∧ Row w5.drew a5 16 (len8 an ++ len8 tn)) := Lib.hid (by
  have g := F5.out.1
  have gg := G4.out
  have hb := LB.out
  have hob : ∀ k, (Value.slice (some ⟨ga, 0, none⟩) 8 8).ownBlock = some k → B ≤ k := fun k e => (ol k e).1
  refine ⟨(g.1.1.grown q3 (by have := g.1.1.size; omega) (fun k e => by have := hob k e; omega)).drew, ?_, ?_, (g.2.grown (gb_drew q3) (fun e => by have := hob _ e.symm; omega)), (g.1.2.2.2.1.grown (gb_drew q3) (fun e => by have := hob _ e.symm; omega)), (Own.row q2).1⟩
  ·exact Row.below (w := w) HY.out g4 (g.1.1.grown q3 (by have := g.1.1.size; omega) (fun k e => by have := hob k e; omega)).drew (Nat.le_of_eq gg)
  ·exact Row.below (w := w) HZ.out g4 (g.1.1.grown q3 (by have := g.1.1.size; omega) (fun k e => by have := hob k e; omega)).drew (Nat.le_of_eq gg))
 have FI := Lib.hid (fit_own q2)
 clear q1 q2 q3 q4 ol
 refine zV (.slice a5 (8 + 8) c5) w5 (run_app _ _ _ _ _ _ _ _ _ rfl rfl rfl rfl Q1.out) ?_
 clear Q1
 refine zP (.slice a5 (8 + 8) c5) ?_
 go_upto_region 3 with (fail)
 refine region_any (by kernel_rfl) 13 rfl ?_
 refine zA 0 19 (.slice (some ⟨g9, 0, none⟩) 32 64) ?_
 refine zA 1 20 (.pointer (some ⟨g9, 0, none⟩)) ?_
 refine zA 3 22 (.slice aa an ac) ?_
 refine zA 4 23 (.slice aa an ac) ?_
 refine zA 6 25 (.slice ta tn tc) ?_
 refine zA 7 26 (.slice ta tn tc) ?_
 refine zA 9 28 (.slice a5 (8 + 8) c5) ?_
 refine wpAny_all (rs := [2, 5]) (by kernel_rfl) (by simp) ?_
 intro i hi
 simp only [List.mem_cons, List.not_mem_nil, or_false] at hi
 rcases hi with rfl | rfl
 ·refine op_val (o := ⟨some 21, _, _, _, _, _⟩) (.agg (ub ((ks 0).take 32)).toArray) rfl rfl (run_load_mid _ _ _ 23 _ rfl g9 0 rfl (ub ((ks 0).take 32)) _ (range_take (F6.out.2.2.2.1) 32) Tryd.underlying23 rfl (by rw [ub_len, (key_ok HT.out).1]; kernel_rfl)) ?_
  simp only [Act.put, List.setIfInBounds_toArray, List.set_cons_zero, List.set_cons_succ]
  refine wpAny_all (rs := [5]) (by kernel_rfl) (by simp) ?_
  intro i hi
  simp only [List.mem_cons, List.not_mem_nil, or_false] at hi
  subst hi
  refine op_call (o := ⟨some 24, _, _, _, _, _⟩) 20 #[.slice aa an ac] rfl rfl (by kernel_rfl) (((filling_any aa an ac w5.drew)).mono fun e z2 ⟨goz2, he, qz2, lz2, rz2⟩ => ⟨.slice (some ⟨goz2, 0, none⟩) (pd an) (pd an), he, ?_⟩)
  simp only [Act.put, List.setIfInBounds_toArray, List.set_cons_zero, List.set_cons_succ]
  have Fz2 := Lib.hid (show Below g4 w z2 ∧ Row z2 ta tn ys ∧ Row z2 aa an zs ∧ Blk z2 g9 53 (ub (ks 0)).toArray ∧ Blk z2 g8 39 (ub (List.replicate 16 0)).toArray ∧ Row z2 a5 16 (len8 an ++ len8 tn) ∧ Row z2 (some ⟨goz2, 0, none⟩) (pd an) (List.replicate (pd an) 0) from ⟨F6.out.1.trans (qz2.mono (by have h1 := F6.out.1.size; have h2 := G4.out; omega)), F6.out.2.1.keep qz2, F6.out.2.2.1.keep qz2, F6.out.2.2.2.1.below qz2, F6.out.2.2.2.2.1.below qz2, F6.out.2.2.2.2.2.keep qz2, row_of_blk rz2 (by simp) (by unfold pd; omega) (by simp)⟩)
  clear qz2
  refine wpAny_all (rs := [8]) (by kernel_rfl) (by simp) ?_
  intro i hi
  simp only [List.mem_cons, List.not_mem_nil, or_false] at hi
  subst hi
  refine op_call (o := ⟨some 27, _, _, _, _, _⟩) 20 #[.slice ta tn tc] rfl rfl (by kernel_rfl) (((filling_any ta tn tc z2)).mono fun e z3 ⟨goz3, he, qz3, lz3, rz3⟩ => ⟨.slice (some ⟨goz3, 0, none⟩) (pd tn) (pd tn), he, ?_⟩)
  simp only [Act.put, List.setIfInBounds_toArray, List.set_cons_zero, List.set_cons_succ]
  have Fz3 := Lib.hid (show Below g4 w z3 ∧ Row z3 ta tn ys ∧ Row z3 aa an zs ∧ Blk z3 g9 53 (ub (ks 0)).toArray ∧ Blk z3 g8 39 (ub (List.replicate 16 0)).toArray ∧ Row z3 a5 16 (len8 an ++ len8 tn) ∧ Row z3 (some ⟨goz2, 0, none⟩) (pd an) (List.replicate (pd an) 0) ∧ Row z3 (some ⟨goz3, 0, none⟩) (pd tn) (List.replicate (pd tn) 0) from ⟨Fz2.out.1.trans (qz3.mono (by have h1 := Fz2.out.1.size; have h2 := G4.out; omega)), Fz2.out.2.1.keep qz3, Fz2.out.2.2.1.keep qz3, Fz2.out.2.2.2.1.below qz3, Fz2.out.2.2.2.2.1.below qz3, Fz2.out.2.2.2.2.2.1.keep qz3, Fz2.out.2.2.2.2.2.2.keep qz3, row_of_blk rz3 (by simp) (by unfold pd; omega) (by simp)⟩)
  clear qz3
  refine wpAny_all (rs := [10]) (by kernel_rfl) (by simp) ?_
  intro i hi
  simp only [List.mem_cons, List.not_mem_nil, or_false] at hi
  subst hi
  obtain ⟨z4, hz4⟩ : ∃ V, V = z3.alloc (.cells #[.slice aa an ac, .slice (some ⟨goz2, 0, none⟩) (pd an) (pd an), .slice ta tn tc, .slice (some ⟨goz3, 0, none⟩) (pd tn) (pd tn), .slice a5 (8 + 8) c5] 24) := ⟨_, rfl⟩
  obtain ⟨gz4, kz4⟩ : ∃ q, z3.heap.size = q := ⟨_, rfl⟩
  have qz4 : Below z3.heap.size z3 z4 := by rw [hz4]; exact (Below.refl _ _).alloc (Nat.le_refl _) _
  have bz4 : Blk z4 gz4 24 #[.slice aa an ac, .slice (some ⟨goz2, 0, none⟩) (pd an) (pd an), .slice ta tn tc, .slice (some ⟨goz3, 0, none⟩) (pd tn) (pd tn), .slice a5 (8 + 8) c5] := by rw [hz4, ← kz4]; exact Blk.new _ _ _
  have Fz40 := Lib.hid (show Below g4 w z4 ∧ Row z4 ta tn ys ∧ Row z4 aa an zs ∧ Blk z4 g9 53 (ub (ks 0)).toArray ∧ Blk z4 g8 39 (ub (List.replicate 16 0)).toArray ∧ Row z4 a5 16 (len8 an ++ len8 tn) ∧ Row z4 (some ⟨goz2, 0, none⟩) (pd an) (List.replicate (pd an) 0) ∧ Row z4 (some ⟨goz3, 0, none⟩) (pd tn) (List.replicate (pd tn) 0) from ⟨Fz3.out.1.trans (qz4.mono (by have h1 := Fz3.out.1.size; have h2 := G4.out; omega)), Fz3.out.2.1.keep qz4, Fz3.out.2.2.1.keep qz4, Fz3.out.2.2.2.1.below qz4, Fz3.out.2.2.2.2.1.below qz4, Fz3.out.2.2.2.2.2.1.keep qz4, Fz3.out.2.2.2.2.2.2.1.keep qz4, Fz3.out.2.2.2.2.2.2.2.keep qz4⟩)
  have Fz4 := Lib.hid (show Below g4 w z4 ∧ Row z4 ta tn ys ∧ Row z4 aa an zs ∧ Blk z4 g9 53 (ub (ks 0)).toArray ∧ Blk z4 g8 39 (ub (List.replicate 16 0)).toArray ∧ Row z4 a5 16 (len8 an ++ len8 tn) ∧ Row z4 (some ⟨goz2, 0, none⟩) (pd an) (List.replicate (pd an) 0) ∧ Row z4 (some ⟨goz3, 0, none⟩) (pd tn) (List.replicate (pd tn) 0) ∧ Po.PSl z4 (some ⟨gz4, 0, none⟩) 5 [zs, List.replicate (pd an) 0, ys, List.replicate (pd tn) 0, (len8 an ++ len8 tn)] from ⟨Fz40.out.1, Fz40.out.2.1, Fz40.out.2.2.1, Fz40.out.2.2.2.1, Fz40.out.2.2.2.2.1, Fz40.out.2.2.2.2.2.1, Fz40.out.2.2.2.2.2.2.1, Fz40.out.2.2.2.2.2.2.2, psl_five bz4 ⟨Fz40.out.2.2.1, HFA.out⟩ ⟨Fz40.out.2.2.2.2.2.2.1, fit_some (by unfold pd; omega)⟩ ⟨Fz40.out.2.1, HFT.out⟩ ⟨Fz40.out.2.2.2.2.2.2.2, fit_some (by unfold pd; omega)⟩ ⟨Fz40.out.2.2.2.2.2.1, FI.out⟩ (by have := HAN.out; have := HTN.out; have : pd an < 16 := Nat.mod_lt _ (by decide); have : pd tn < 16 := Nat.mod_lt _ (by decide); omega)⟩)
  clear qz4 bz4 Fz40
  refine op_valw (o := ⟨some 29, _, _, _, _, _⟩) (.slice (some ⟨gz4, 0, none⟩) 5 5) z4 rfl rfl (by rw [hz4, ← kz4]; kernel_rfl) ?_
  simp only [Act.put, List.setIfInBounds_toArray, List.set_cons_zero, List.set_cons_succ]
  clear hz4 kz4
  refine wpAny_all (rs := [11]) (by kernel_rfl) (by simp) ?_
  intro i hi
  simp only [List.mem_cons, List.not_mem_nil, or_false] at hi
  subst hi
  refine op_call (o := ⟨some 30, _, _, _, _, _⟩) 19 #[.agg (ub ((ks 0).take 32)).toArray, .slice (some ⟨gz4, 0, none⟩) 5 5] rfl rfl (by kernel_rfl) (((Po.code_any z4 ((ks 0).take 32) (some ⟨gz4, 0, none⟩) 5 5 [zs, List.replicate (pd an) 0, ys, List.replicate (pd tn) 0, (len8 an ++ len8 tn)] (key_ok HT.out) (Fz4.out.2.2.2.2.2.2.2.2) (by decide))).mono fun e z5 ⟨he, qz5⟩ => ⟨.agg (ub (codeV ks zs ys an tn)).toArray, he, ?_⟩)
  simp only [Act.put, List.setIfInBounds_toArray, List.set_cons_zero, List.set_cons_succ]
  have Fz5 := Lib.hid (show Below g4 w z5 ∧ Row z5 ta tn ys ∧ Row z5 aa an zs ∧ Blk z5 g9 53 (ub (ks 0)).toArray ∧ Blk z5 g8 39 (ub (List.replicate 16 0)).toArray ∧ Row z5 a5 16 (len8 an ++ len8 tn) ∧ Row z5 (some ⟨goz2, 0, none⟩) (pd an) (List.replicate (pd an) 0) ∧ Row z5 (some ⟨goz3, 0, none⟩) (pd tn) (List.replicate (pd tn) 0) ∧ Po.PSl z5 (some ⟨gz4, 0, none⟩) 5 [zs, List.replicate (pd an) 0, ys, List.replicate (pd tn) 0, (len8 an ++ len8 tn)] from ⟨Fz4.out.1.trans (qz5.mono (by have h1 := Fz4.out.1.size; have h2 := G4.out; omega)), Fz4.out.2.1.keep qz5, Fz4.out.2.2.1.keep qz5, Fz4.out.2.2.2.1.below qz5, Fz4.out.2.2.2.2.1.below qz5, Fz4.out.2.2.2.2.2.1.keep qz5, Fz4.out.2.2.2.2.2.2.1.keep qz5, Fz4.out.2.2.2.2.2.2.2.1.keep qz5, Po.PSl.below Fz4.out.2.2.2.2.2.2.2.2 qz5⟩)
  clear qz5
  refine wpAny_of_idx [12] [⟨none, _, _, _, _, _⟩] _ _ _ (by rfl) (by kernel_rfl) ?_
  refine wpList_store_rowTo rfl 39 _ _ rfl rfl g8 (ub (codeV ks zs ys an tn)).toArray rfl rfl 39 _ (Fz5.out.2.2.2.2.1) (by simp only [List.size_toArray, ub_len, codeV_len]; kernel_rfl) (by simp only [List.size_toArray, ub_len, codeV_len, List.length_replicate]) (ub_one _) ?_
  go_wp2_with fail
  refine bodyPost_ret (results_cell_row rfl _ _ g8 39 _ (0, 0) _ rfl (setRow_heap _ _ _ _ _ _ (Fz5.out.2.2.2.2.1)) Tryd.underlying39 rfl (by simp only [List.size_toArray, ub_len, codeV_len]; kernel_rfl)) rfl ?_
  exact ⟨rfl, by rw [G4.out]; exact below_setRow (Fz5.out.1) (by have := L1.out; omega) _⟩
 ·refine op_call (o := ⟨some 24, _, _, _, _, _⟩) 20 #[.slice aa an ac] rfl rfl (by kernel_rfl) (((filling_any aa an ac w5.drew)).mono fun e z6 ⟨goz6, he, qz6, lz6, rz6⟩ => ⟨.slice (some ⟨goz6, 0, none⟩) (pd an) (pd an), he, ?_⟩)
  simp only [Act.put, List.setIfInBounds_toArray, List.set_cons_zero, List.set_cons_succ]
  have Fz6 := Lib.hid (show Below g4 w z6 ∧ Row z6 ta tn ys ∧ Row z6 aa an zs ∧ Blk z6 g9 53 (ub (ks 0)).toArray ∧ Blk z6 g8 39 (ub (List.replicate 16 0)).toArray ∧ Row z6 a5 16 (len8 an ++ len8 tn) ∧ Row z6 (some ⟨goz6, 0, none⟩) (pd an) (List.replicate (pd an) 0) from ⟨F6.out.1.trans (qz6.mono (by have h1 := F6.out.1.size; have h2 := G4.out; omega)), F6.out.2.1.keep qz6, F6.out.2.2.1.keep qz6, F6.out.2.2.2.1.below qz6, F6.out.2.2.2.2.1.below qz6, F6.out.2.2.2.2.2.keep qz6, row_of_blk rz6 (by simp) (by unfold pd; omega) (by simp)⟩)
  clear qz6
  refine wpAny_all (rs := [2, 8]) (by kernel_rfl) (by simp) ?_
  intro i hi
  simp only [List.mem_cons, List.not_mem_nil, or_false] at hi
  rcases hi with rfl | rfl
  ·refine op_val (o := ⟨some 21, _, _, _, _, _⟩) (.agg (ub ((ks 0).take 32)).toArray) rfl rfl (run_load_mid _ _ _ 23 _ rfl g9 0 rfl (ub ((ks 0).take 32)) _ (range_take (Fz6.out.2.2.2.1) 32) Tryd.underlying23 rfl (by rw [ub_len, (key_ok HT.out).1]; kernel_rfl)) ?_
   simp only [Act.put, List.setIfInBounds_toArray, List.set_cons_zero, List.set_cons_succ]
   refine wpAny_all (rs := [8]) (by kernel_rfl) (by simp) ?_
   intro i hi
   simp only [List.mem_cons, List.not_mem_nil, or_false] at hi
   subst hi
   refine op_call (o := ⟨some 27, _, _, _, _, _⟩) 20 #[.slice ta tn tc] rfl rfl (by kernel_rfl) (((filling_any ta tn tc z6)).mono fun e z8 ⟨goz8, he, qz8, lz8, rz8⟩ => ⟨.slice (some ⟨goz8, 0, none⟩) (pd tn) (pd tn), he, ?_⟩)
   simp only [Act.put, List.setIfInBounds_toArray, List.set_cons_zero, List.set_cons_succ]
   have Fz8 := Lib.hid (show Below g4 w z8 ∧ Row z8 ta tn ys ∧ Row z8 aa an zs ∧ Blk z8 g9 53 (ub (ks 0)).toArray ∧ Blk z8 g8 39 (ub (List.replicate 16 0)).toArray ∧ Row z8 a5 16 (len8 an ++ len8 tn) ∧ Row z8 (some ⟨goz6, 0, none⟩) (pd an) (List.replicate (pd an) 0) ∧ Row z8 (some ⟨goz8, 0, none⟩) (pd tn) (List.replicate (pd tn) 0) from ⟨Fz6.out.1.trans (qz8.mono (by have h1 := Fz6.out.1.size; have h2 := G4.out; omega)), Fz6.out.2.1.keep qz8, Fz6.out.2.2.1.keep qz8, Fz6.out.2.2.2.1.below qz8, Fz6.out.2.2.2.2.1.below qz8, Fz6.out.2.2.2.2.2.1.keep qz8, Fz6.out.2.2.2.2.2.2.keep qz8, row_of_blk rz8 (by simp) (by unfold pd; omega) (by simp)⟩)
   clear qz8
   refine wpAny_all (rs := [10]) (by kernel_rfl) (by simp) ?_
   intro i hi
   simp only [List.mem_cons, List.not_mem_nil, or_false] at hi
   subst hi
   obtain ⟨z9, hz9⟩ : ∃ V, V = z8.alloc (.cells #[.slice aa an ac, .slice (some ⟨goz6, 0, none⟩) (pd an) (pd an), .slice ta tn tc, .slice (some ⟨goz8, 0, none⟩) (pd tn) (pd tn), .slice a5 (8 + 8) c5] 24) := ⟨_, rfl⟩
   obtain ⟨gz9, kz9⟩ : ∃ q, z8.heap.size = q := ⟨_, rfl⟩
   have qz9 : Below z8.heap.size z8 z9 := by rw [hz9]; exact (Below.refl _ _).alloc (Nat.le_refl _) _
   have bz9 : Blk z9 gz9 24 #[.slice aa an ac, .slice (some ⟨goz6, 0, none⟩) (pd an) (pd an), .slice ta tn tc, .slice (some ⟨goz8, 0, none⟩) (pd tn) (pd tn), .slice a5 (8 + 8) c5] := by rw [hz9, ← kz9]; exact Blk.new _ _ _
   have Fz90 := Lib.hid (show Below g4 w z9 ∧ Row z9 ta tn ys ∧ Row z9 aa an zs ∧ Blk z9 g9 53 (ub (ks 0)).toArray ∧ Blk z9 g8 39 (ub (List.replicate 16 0)).toArray ∧ Row z9 a5 16 (len8 an ++ len8 tn) ∧ Row z9 (some ⟨goz6, 0, none⟩) (pd an) (List.replicate (pd an) 0) ∧ Row z9 (some ⟨goz8, 0, none⟩) (pd tn) (List.replicate (pd tn) 0) from ⟨Fz8.out.1.trans (qz9.mono (by have h1 := Fz8.out.1.size; have h2 := G4.out; omega)), Fz8.out.2.1.keep qz9, Fz8.out.2.2.1.keep qz9, Fz8.out.2.2.2.1.below qz9, Fz8.out.2.2.2.2.1.below qz9, Fz8.out.2.2.2.2.2.1.keep qz9, Fz8.out.2.2.2.2.2.2.1.keep qz9, Fz8.out.2.2.2.2.2.2.2.keep qz9⟩)
   have Fz9 := Lib.hid (show Below g4 w z9 ∧ Row z9 ta tn ys ∧ Row z9 aa an zs ∧ Blk z9 g9 53 (ub (ks 0)).toArray ∧ Blk z9 g8 39 (ub (List.replicate 16 0)).toArray ∧ Row z9 a5 16 (len8 an ++ len8 tn) ∧ Row z9 (some ⟨goz6, 0, none⟩) (pd an) (List.replicate (pd an) 0) ∧ Row z9 (some ⟨goz8, 0, none⟩) (pd tn) (List.replicate (pd tn) 0) ∧ Po.PSl z9 (some ⟨gz9, 0, none⟩) 5 [zs, List.replicate (pd an) 0, ys, List.replicate (pd tn) 0, (len8 an ++ len8 tn)] from ⟨Fz90.out.1, Fz90.out.2.1, Fz90.out.2.2.1, Fz90.out.2.2.2.1, Fz90.out.2.2.2.2.1, Fz90.out.2.2.2.2.2.1, Fz90.out.2.2.2.2.2.2.1, Fz90.out.2.2.2.2.2.2.2, psl_five bz9 ⟨Fz90.out.2.2.1, HFA.out⟩ ⟨Fz90.out.2.2.2.2.2.2.1, fit_some (by unfold pd; omega)⟩ ⟨Fz90.out.2.1, HFT.out⟩ ⟨Fz90.out.2.2.2.2.2.2.2, fit_some (by unfold pd; omega)⟩ ⟨Fz90.out.2.2.2.2.2.1, FI.out⟩ (by have := HAN.out; have := HTN.out; have : pd an < 16 := Nat.mod_lt _ (by decide); have : pd tn < 16 := Nat.mod_lt _ (by decide); omega)⟩)
   clear qz9 bz9 Fz90
   refine op_valw (o := ⟨some 29, _, _, _, _, _⟩) (.slice (some ⟨gz9, 0, none⟩) 5 5) z9 rfl rfl (by rw [hz9, ← kz9]; kernel_rfl) ?_
   simp only [Act.put, List.setIfInBounds_toArray, List.set_cons_zero, List.set_cons_succ]
   clear hz9 kz9
   refine wpAny_all (rs := [11]) (by kernel_rfl) (by simp) ?_
   intro i hi
   simp only [List.mem_cons, List.not_mem_nil, or_false] at hi
   subst hi
   refine op_call (o := ⟨some 30, _, _, _, _, _⟩) 19 #[.agg (ub ((ks 0).take 32)).toArray, .slice (some ⟨gz9, 0, none⟩) 5 5] rfl rfl (by kernel_rfl) (((Po.code_any z9 ((ks 0).take 32) (some ⟨gz9, 0, none⟩) 5 5 [zs, List.replicate (pd an) 0, ys, List.replicate (pd tn) 0, (len8 an ++ len8 tn)] (key_ok HT.out) (Fz9.out.2.2.2.2.2.2.2.2) (by decide))).mono fun e z10 ⟨he, qz10⟩ => ⟨.agg (ub (codeV ks zs ys an tn)).toArray, he, ?_⟩)
   simp only [Act.put, List.setIfInBounds_toArray, List.set_cons_zero, List.set_cons_succ]
   have Fz10 := Lib.hid (show Below g4 w z10 ∧ Row z10 ta tn ys ∧ Row z10 aa an zs ∧ Blk z10 g9 53 (ub (ks 0)).toArray ∧ Blk z10 g8 39 (ub (List.replicate 16 0)).toArray ∧ Row z10 a5 16 (len8 an ++ len8 tn) ∧ Row z10 (some ⟨goz6, 0, none⟩) (pd an) (List.replicate (pd an) 0) ∧ Row z10 (some ⟨goz8, 0, none⟩) (pd tn) (List.replicate (pd tn) 0) ∧ Po.PSl z10 (some ⟨gz9, 0, none⟩) 5 [zs, List.replicate (pd an) 0, ys, List.replicate (pd tn) 0, (len8 an ++ len8 tn)] from ⟨Fz9.out.1.trans (qz10.mono (by have h1 := Fz9.out.1.size; have h2 := G4.out; omega)), Fz9.out.2.1.keep qz10, Fz9.out.2.2.1.keep qz10, Fz9.out.2.2.2.1.below qz10, Fz9.out.2.2.2.2.1.below qz10, Fz9.out.2.2.2.2.2.1.keep qz10, Fz9.out.2.2.2.2.2.2.1.keep qz10, Fz9.out.2.2.2.2.2.2.2.1.keep qz10, Po.PSl.below Fz9.out.2.2.2.2.2.2.2.2 qz10⟩)
   clear qz10
   refine wpAny_of_idx [12] [⟨none, _, _, _, _, _⟩] _ _ _ (by rfl) (by kernel_rfl) ?_
   refine wpList_store_rowTo rfl 39 _ _ rfl rfl g8 (ub (codeV ks zs ys an tn)).toArray rfl rfl 39 _ (Fz10.out.2.2.2.2.1) (by simp only [List.size_toArray, ub_len, codeV_len]; kernel_rfl) (by simp only [List.size_toArray, ub_len, codeV_len, List.length_replicate]) (ub_one _) ?_
   go_wp2_with fail
   refine bodyPost_ret (results_cell_row rfl _ _ g8 39 _ (0, 0) _ rfl (setRow_heap _ _ _ _ _ _ (Fz10.out.2.2.2.2.1)) Tryd.underlying39 rfl (by simp only [List.size_toArray, ub_len, codeV_len]; kernel_rfl)) rfl ?_
   exact ⟨rfl, by rw [G4.out]; exact below_setRow (Fz10.out.1) (by have := L1.out; omega) _⟩
  ·refine op_call (o := ⟨some 27, _, _, _, _, _⟩) 20 #[.slice ta tn tc] rfl rfl (by kernel_rfl) (((filling_any ta tn tc z6)).mono fun e z11 ⟨goz11, he, qz11, lz11, rz11⟩ => ⟨.slice (some ⟨goz11, 0, none⟩) (pd tn) (pd tn), he, ?_⟩)
   simp only [Act.put, List.setIfInBounds_toArray, List.set_cons_zero, List.set_cons_succ]
   have Fz11 := Lib.hid (show Below g4 w z11 ∧ Row z11 ta tn ys ∧ Row z11 aa an zs ∧ Blk z11 g9 53 (ub (ks 0)).toArray ∧ Blk z11 g8 39 (ub (List.replicate 16 0)).toArray ∧ Row z11 a5 16 (len8 an ++ len8 tn) ∧ Row z11 (some ⟨goz6, 0, none⟩) (pd an) (List.replicate (pd an) 0) ∧ Row z11 (some ⟨goz11, 0, none⟩) (pd tn) (List.replicate (pd tn) 0) from ⟨Fz6.out.1.trans (qz11.mono (by have h1 := Fz6.out.1.size; have h2 := G4.out; omega)), Fz6.out.2.1.keep qz11, Fz6.out.2.2.1.keep qz11, Fz6.out.2.2.2.1.below qz11, Fz6.out.2.2.2.2.1.below qz11, Fz6.out.2.2.2.2.2.1.keep qz11, Fz6.out.2.2.2.2.2.2.keep qz11, row_of_blk rz11 (by simp) (by unfold pd; omega) (by simp)⟩)
   clear qz11
   refine wpAny_all (rs := [2, 10]) (by kernel_rfl) (by simp) ?_
   intro i hi
   simp only [List.mem_cons, List.not_mem_nil, or_false] at hi
   rcases hi with rfl | rfl
   ·refine op_val (o := ⟨some 21, _, _, _, _, _⟩) (.agg (ub ((ks 0).take 32)).toArray) rfl rfl (run_load_mid _ _ _ 23 _ rfl g9 0 rfl (ub ((ks 0).take 32)) _ (range_take (Fz11.out.2.2.2.1) 32) Tryd.underlying23 rfl (by rw [ub_len, (key_ok HT.out).1]; kernel_rfl)) ?_
    simp only [Act.put, List.setIfInBounds_toArray, List.set_cons_zero, List.set_cons_succ]
    refine wpAny_all (rs := [10]) (by kernel_rfl) (by simp) ?_
    intro i hi
    simp only [List.mem_cons, List.not_mem_nil, or_false] at hi
    subst hi
    obtain ⟨z13, hz13⟩ : ∃ V, V = z11.alloc (.cells #[.slice aa an ac, .slice (some ⟨goz6, 0, none⟩) (pd an) (pd an), .slice ta tn tc, .slice (some ⟨goz11, 0, none⟩) (pd tn) (pd tn), .slice a5 (8 + 8) c5] 24) := ⟨_, rfl⟩
    obtain ⟨gz13, kz13⟩ : ∃ q, z11.heap.size = q := ⟨_, rfl⟩
    have qz13 : Below z11.heap.size z11 z13 := by rw [hz13]; exact (Below.refl _ _).alloc (Nat.le_refl _) _
    have bz13 : Blk z13 gz13 24 #[.slice aa an ac, .slice (some ⟨goz6, 0, none⟩) (pd an) (pd an), .slice ta tn tc, .slice (some ⟨goz11, 0, none⟩) (pd tn) (pd tn), .slice a5 (8 + 8) c5] := by rw [hz13, ← kz13]; exact Blk.new _ _ _
    have Fz130 := Lib.hid (show Below g4 w z13 ∧ Row z13 ta tn ys ∧ Row z13 aa an zs ∧ Blk z13 g9 53 (ub (ks 0)).toArray ∧ Blk z13 g8 39 (ub (List.replicate 16 0)).toArray ∧ Row z13 a5 16 (len8 an ++ len8 tn) ∧ Row z13 (some ⟨goz6, 0, none⟩) (pd an) (List.replicate (pd an) 0) ∧ Row z13 (some ⟨goz11, 0, none⟩) (pd tn) (List.replicate (pd tn) 0) from ⟨Fz11.out.1.trans (qz13.mono (by have h1 := Fz11.out.1.size; have h2 := G4.out; omega)), Fz11.out.2.1.keep qz13, Fz11.out.2.2.1.keep qz13, Fz11.out.2.2.2.1.below qz13, Fz11.out.2.2.2.2.1.below qz13, Fz11.out.2.2.2.2.2.1.keep qz13, Fz11.out.2.2.2.2.2.2.1.keep qz13, Fz11.out.2.2.2.2.2.2.2.keep qz13⟩)
    have Fz13 := Lib.hid (show Below g4 w z13 ∧ Row z13 ta tn ys ∧ Row z13 aa an zs ∧ Blk z13 g9 53 (ub (ks 0)).toArray ∧ Blk z13 g8 39 (ub (List.replicate 16 0)).toArray ∧ Row z13 a5 16 (len8 an ++ len8 tn) ∧ Row z13 (some ⟨goz6, 0, none⟩) (pd an) (List.replicate (pd an) 0) ∧ Row z13 (some ⟨goz11, 0, none⟩) (pd tn) (List.replicate (pd tn) 0) ∧ Po.PSl z13 (some ⟨gz13, 0, none⟩) 5 [zs, List.replicate (pd an) 0, ys, List.replicate (pd tn) 0, (len8 an ++ len8 tn)] from ⟨Fz130.out.1, Fz130.out.2.1, Fz130.out.2.2.1, Fz130.out.2.2.2.1, Fz130.out.2.2.2.2.1, Fz130.out.2.2.2.2.2.1, Fz130.out.2.2.2.2.2.2.1, Fz130.out.2.2.2.2.2.2.2, psl_five bz13 ⟨Fz130.out.2.2.1, HFA.out⟩ ⟨Fz130.out.2.2.2.2.2.2.1, fit_some (by unfold pd; omega)⟩ ⟨Fz130.out.2.1, HFT.out⟩ ⟨Fz130.out.2.2.2.2.2.2.2, fit_some (by unfold pd; omega)⟩ ⟨Fz130.out.2.2.2.2.2.1, FI.out⟩ (by have := HAN.out; have := HTN.out; have : pd an < 16 := Nat.mod_lt _ (by decide); have : pd tn < 16 := Nat.mod_lt _ (by decide); omega)⟩)
    clear qz13 bz13 Fz130
    refine op_valw (o := ⟨some 29, _, _, _, _, _⟩) (.slice (some ⟨gz13, 0, none⟩) 5 5) z13 rfl rfl (by rw [hz13, ← kz13]; kernel_rfl) ?_
    simp only [Act.put, List.setIfInBounds_toArray, List.set_cons_zero, List.set_cons_succ]
    clear hz13 kz13
    refine wpAny_all (rs := [11]) (by kernel_rfl) (by simp) ?_
    intro i hi
    simp only [List.mem_cons, List.not_mem_nil, or_false] at hi
    subst hi
    refine op_call (o := ⟨some 30, _, _, _, _, _⟩) 19 #[.agg (ub ((ks 0).take 32)).toArray, .slice (some ⟨gz13, 0, none⟩) 5 5] rfl rfl (by kernel_rfl) (((Po.code_any z13 ((ks 0).take 32) (some ⟨gz13, 0, none⟩) 5 5 [zs, List.replicate (pd an) 0, ys, List.replicate (pd tn) 0, (len8 an ++ len8 tn)] (key_ok HT.out) (Fz13.out.2.2.2.2.2.2.2.2) (by decide))).mono fun e z14 ⟨he, qz14⟩ => ⟨.agg (ub (codeV ks zs ys an tn)).toArray, he, ?_⟩)
    simp only [Act.put, List.setIfInBounds_toArray, List.set_cons_zero, List.set_cons_succ]
    have Fz14 := Lib.hid (show Below g4 w z14 ∧ Row z14 ta tn ys ∧ Row z14 aa an zs ∧ Blk z14 g9 53 (ub (ks 0)).toArray ∧ Blk z14 g8 39 (ub (List.replicate 16 0)).toArray ∧ Row z14 a5 16 (len8 an ++ len8 tn) ∧ Row z14 (some ⟨goz6, 0, none⟩) (pd an) (List.replicate (pd an) 0) ∧ Row z14 (some ⟨goz11, 0, none⟩) (pd tn) (List.replicate (pd tn) 0) ∧ Po.PSl z14 (some ⟨gz13, 0, none⟩) 5 [zs, List.replicate (pd an) 0, ys, List.replicate (pd tn) 0, (len8 an ++ len8 tn)] from ⟨Fz13.out.1.trans (qz14.mono (by have h1 := Fz13.out.1.size; have h2 := G4.out; omega)), Fz13.out.2.1.keep qz14, Fz13.out.2.2.1.keep qz14, Fz13.out.2.2.2.1.below qz14, Fz13.out.2.2.2.2.1.below qz14, Fz13.out.2.2.2.2.2.1.keep qz14, Fz13.out.2.2.2.2.2.2.1.keep qz14, Fz13.out.2.2.2.2.2.2.2.1.keep qz14, Po.PSl.below Fz13.out.2.2.2.2.2.2.2.2 qz14⟩)
    clear qz14
    refine wpAny_of_idx [12] [⟨none, _, _, _, _, _⟩] _ _ _ (by rfl) (by kernel_rfl) ?_
    refine wpList_store_rowTo rfl 39 _ _ rfl rfl g8 (ub (codeV ks zs ys an tn)).toArray rfl rfl 39 _ (Fz14.out.2.2.2.2.1) (by simp only [List.size_toArray, ub_len, codeV_len]; kernel_rfl) (by simp only [List.size_toArray, ub_len, codeV_len, List.length_replicate]) (ub_one _) ?_
    go_wp2_with fail
    refine bodyPost_ret (results_cell_row rfl _ _ g8 39 _ (0, 0) _ rfl (setRow_heap _ _ _ _ _ _ (Fz14.out.2.2.2.2.1)) Tryd.underlying39 rfl (by simp only [List.size_toArray, ub_len, codeV_len]; kernel_rfl)) rfl ?_
    exact ⟨rfl, by rw [G4.out]; exact below_setRow (Fz14.out.1) (by have := L1.out; omega) _⟩
   ·obtain ⟨z15, hz15⟩ : ∃ V, V = z11.alloc (.cells #[.slice aa an ac, .slice (some ⟨goz6, 0, none⟩) (pd an) (pd an), .slice ta tn tc, .slice (some ⟨goz11, 0, none⟩) (pd tn) (pd tn), .slice a5 (8 + 8) c5] 24) := ⟨_, rfl⟩
    obtain ⟨gz15, kz15⟩ : ∃ q, z11.heap.size = q := ⟨_, rfl⟩
    have qz15 : Below z11.heap.size z11 z15 := by rw [hz15]; exact (Below.refl _ _).alloc (Nat.le_refl _) _
    have bz15 : Blk z15 gz15 24 #[.slice aa an ac, .slice (some ⟨goz6, 0, none⟩) (pd an) (pd an), .slice ta tn tc, .slice (some ⟨goz11, 0, none⟩) (pd tn) (pd tn), .slice a5 (8 + 8) c5] := by rw [hz15, ← kz15]; exact Blk.new _ _ _
    have Fz150 := Lib.hid (show Below g4 w z15 ∧ Row z15 ta tn ys ∧ Row z15 aa an zs ∧ Blk z15 g9 53 (ub (ks 0)).toArray ∧ Blk z15 g8 39 (ub (List.replicate 16 0)).toArray ∧ Row z15 a5 16 (len8 an ++ len8 tn) ∧ Row z15 (some ⟨goz6, 0, none⟩) (pd an) (List.replicate (pd an) 0) ∧ Row z15 (some ⟨goz11, 0, none⟩) (pd tn) (List.replicate (pd tn) 0) from ⟨Fz11.out.1.trans (qz15.mono (by have h1 := Fz11.out.1.size; have h2 := G4.out; omega)), Fz11.out.2.1.keep qz15, Fz11.out.2.2.1.keep qz15, Fz11.out.2.2.2.1.below qz15, Fz11.out.2.2.2.2.1.below qz15, Fz11.out.2.2.2.2.2.1.keep qz15, Fz11.out.2.2.2.2.2.2.1.keep qz15, Fz11.out.2.2.2.2.2.2.2.keep qz15⟩)
    have Fz15 := Lib.hid (show Below g4 w z15 ∧ Row z15 ta tn ys ∧ Row z15 aa an zs ∧ Blk z15 g9 53 (ub (ks 0)).toArray ∧ Blk z15 g8 39 (ub (List.replicate 16 0)).toArray ∧ Row z15 a5 16 (len8 an ++ len8 tn) ∧ Row z15 (some ⟨goz6, 0, none⟩) (pd an) (List.replicate (pd an) 0) ∧ Row z15 (some ⟨goz11, 0, none⟩) (pd tn) (List.replicate (pd tn) 0) ∧ Po.PSl z15 (some ⟨gz15, 0, none⟩) 5 [zs, List.replicate (pd an) 0, ys, List.replicate (pd tn) 0, (len8 an ++ len8 tn)] from ⟨Fz150.out.1, Fz150.out.2.1, Fz150.out.2.2.1, Fz150.out.2.2.2.1, Fz150.out.2.2.2.2.1, Fz150.out.2.2.2.2.2.1, Fz150.out.2.2.2.2.2.2.1, Fz150.out.2.2.2.2.2.2.2, psl_five bz15 ⟨Fz150.out.2.2.1, HFA.out⟩ ⟨Fz150.out.2.2.2.2.2.2.1, fit_some (by unfold pd; omega)⟩ ⟨Fz150.out.2.1, HFT.out⟩ ⟨Fz150.out.2.2.2.2.2.2.2, fit_some (by unfold pd; omega)⟩ ⟨Fz150.out.2.2.2.2.2.1, FI.out⟩ (by have := HAN.out; have := HTN.out; have : pd an < 16 := Nat.mod_lt _ (by decide); have : pd tn < 16 := Nat.mod_lt _ (by decide); omega)⟩)
    clear qz15 bz15 Fz150
    refine op_valw (o := ⟨some 29, _, _, _, _, _⟩) (.slice (some ⟨gz15, 0, none⟩) 5 5) z15 rfl rfl (by rw [hz15, ← kz15]; kernel_rfl) ?_
    simp only [Act.put, List.setIfInBounds_toArray, List.set_cons_zero, List.set_cons_succ]
    clear hz15 kz15
    refine wpAny_all (rs := [2]) (by kernel_rfl) (by simp) ?_
    intro i hi
    simp only [List.mem_cons, List.not_mem_nil, or_false] at hi
    subst hi
    refine op_val (o := ⟨some 21, _, _, _, _, _⟩) (.agg (ub ((ks 0).take 32)).toArray) rfl rfl (run_load_mid _ _ _ 23 _ rfl g9 0 rfl (ub ((ks 0).take 32)) _ (range_take (Fz15.out.2.2.2.1) 32) Tryd.underlying23 rfl (by rw [ub_len, (key_ok HT.out).1]; kernel_rfl)) ?_
    simp only [Act.put, List.setIfInBounds_toArray, List.set_cons_zero, List.set_cons_succ]
    refine wpAny_all (rs := [11]) (by kernel_rfl) (by simp) ?_
    intro i hi
    simp only [List.mem_cons, List.not_mem_nil, or_false] at hi
    subst hi
    refine op_call (o := ⟨some 30, _, _, _, _, _⟩) 19 #[.agg (ub ((ks 0).take 32)).toArray, .slice (some ⟨gz15, 0, none⟩) 5 5] rfl rfl (by kernel_rfl) (((Po.code_any z15 ((ks 0).take 32) (some ⟨gz15, 0, none⟩) 5 5 [zs, List.replicate (pd an) 0, ys, List.replicate (pd tn) 0, (len8 an ++ len8 tn)] (key_ok HT.out) (Fz15.out.2.2.2.2.2.2.2.2) (by decide))).mono fun e z17 ⟨he, qz17⟩ => ⟨.agg (ub (codeV ks zs ys an tn)).toArray, he, ?_⟩)
    simp only [Act.put, List.setIfInBounds_toArray, List.set_cons_zero, List.set_cons_succ]
    have Fz17 := Lib.hid (show Below g4 w z17 ∧ Row z17 ta tn ys ∧ Row z17 aa an zs ∧ Blk z17 g9 53 (ub (ks 0)).toArray ∧ Blk z17 g8 39 (ub (List.replicate 16 0)).toArray ∧ Row z17 a5 16 (len8 an ++ len8 tn) ∧ Row z17 (some ⟨goz6, 0, none⟩) (pd an) (List.replicate (pd an) 0) ∧ Row z17 (some ⟨goz11, 0, none⟩) (pd tn) (List.replicate (pd tn) 0) ∧ Po.PSl z17 (some ⟨gz15, 0, none⟩) 5 [zs, List.replicate (pd an) 0, ys, List.replicate (pd tn) 0, (len8 an ++ len8 tn)] from ⟨Fz15.out.1.trans (qz17.mono (by have h1 := Fz15.out.1.size; have h2 := G4.out; omega)), Fz15.out.2.1.keep qz17, Fz15.out.2.2.1.keep qz17, Fz15.out.2.2.2.1.below qz17, Fz15.out.2.2.2.2.1.below qz17, Fz15.out.2.2.2.2.2.1.keep qz17, Fz15.out.2.2.2.2.2.2.1.keep qz17, Fz15.out.2.2.2.2.2.2.2.1.keep qz17, Po.PSl.below Fz15.out.2.2.2.2.2.2.2.2 qz17⟩)
    clear qz17
    refine wpAny_of_idx [12] [⟨none, _, _, _, _, _⟩] _ _ _ (by rfl) (by kernel_rfl) ?_
    refine wpList_store_rowTo rfl 39 _ _ rfl rfl g8 (ub (codeV ks zs ys an tn)).toArray rfl rfl 39 _ (Fz17.out.2.2.2.2.1) (by simp only [List.size_toArray, ub_len, codeV_len]; kernel_rfl) (by simp only [List.size_toArray, ub_len, codeV_len, List.length_replicate]) (ub_one _) ?_
    go_wp2_with fail
    refine bodyPost_ret (results_cell_row rfl _ _ g8 39 _ (0, 0) _ rfl (setRow_heap _ _ _ _ _ _ (Fz17.out.2.2.2.2.1)) Tryd.underlying39 rfl (by simp only [List.size_toArray, ub_len, codeV_len]; kernel_rfl)) rfl ?_
    exact ⟨rfl, by rw [G4.out]; exact below_setRow (Fz17.out.1) (by have := L1.out; omega) _⟩
end Go.Proofs.YtlbfohpkngmaoaaDoor.Ch.B.Se
