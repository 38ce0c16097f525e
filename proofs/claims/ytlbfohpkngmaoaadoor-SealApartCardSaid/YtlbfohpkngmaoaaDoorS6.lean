/- open: what is sealed, tried and turned back. -/
import Derived.Test.YtlbfohpkngmaoaaDoorS4
import Derived.Test.YtlbfohpkngmaoaaDoorPoQ7
import Derived.Test.YtlbfohpkngmaoaaDoorChB
namespace Go.Proofs.YtlbfohpkngmaoaaDoor.Ch.B.Se
open Go Go.RowKit
theorem equal16 {W : World} {gc n m c : Nat} {a : Option Addr} {L M : List Int} {q : Bool} (hm : m + 16 = n) (h : Row W (some ⟨gc, 0, none⟩) 16 L) (h' : Po.Sl W a (n - m) c M) (hq : decide (L = M) = q) :
  Calls Tryd.prog 21 #[.slice (some ⟨gc, 0, none⟩) 16 16, .slice a (n - m) c] W fun e w' => e = .returned (.bool q) ∧ Below W.heap.size W w' := by
 have e : n - m = 16 := by omega
 rw [e] at h' ⊢
 subst hq
 exact Po.equal_any W _ a 16 16 c L M h h'.1
def opensTo (ks : Nat → List Int) (xs zs : List Int) (n an : Nat) (w : World) (e : Ending) (w' : World) : Prop :=
 (n < 16 ∧ e = .returned (.tuple #[.slice none 0 0, .iface 58 (.agg #[.iface 46 (.agg #[.int .i64 2])])])) ∨
 (∃ m, m + 16 = n ∧ ¬ codeV ks zs (xs.take m) an m = xs.drop m ∧ e = .returned (.tuple #[.slice none 0 0, .iface 58 (.agg #[.iface 46 (.agg #[.int .i64 6])])])) ∨
 (∃ m, m + 16 = n ∧ codeV ks zs (xs.take m) an m = xs.drop m ∧ ∃ g, e = .returned (.tuple #[.slice (some ⟨g, 0, none⟩) m m, .nilIface]) ∧ w.heap.size ≤ g ∧ Blk w' g 5 (ub (xorV ks 1 (xs.take m) m)).toArray)
attribute [local irreducible] wpList wpAny
set_option maxHeartbeats 1500000 in
set_option maxRecDepth 100000 in
theorem open_any {KV NV : List Value} {ks : Nat → List Int} (hT : Two KV NV ks) (sp aa : Option Addr) (n cp an ac : Nat) (xs zs : List Int) (hn : n ≤ 5000) (han : an ≤ 5000) (hFX : Fit sp n cp) (hFA : Fit aa an ac) (w : World) (hX : Row w sp n xs) (hZ : Row w aa an zs) :
  Calls Tryd.prog 13 #[.agg KV.toArray, .agg NV.toArray, .slice sp n cp, .slice aa an ac] w fun e w' => Below w.heap.size w w' ∧ opensTo ks xs zs n an w e w' := by
 have HT := Lib.hid hT
 have HN := Lib.hid hn
 have HAN := Lib.hid han
 have HFX := Lib.hid hFX
 have HFA := Lib.hid hFA
 have HX := Lib.hid hX
 have HZ := Lib.hid hZ
 clear hT hn han hFX hFA hX hZ
 go_enter Tryd.func13, Tryd.ntmps13
 go_upto_region 1 with (fail)
 obtain ⟨W1, hW1⟩ : ∃ V, V = (w.alloc (.cells KV.toArray 23)).alloc (.cells NV.toArray 27) := ⟨_, rfl⟩
 rw [← hW1]
 have b1 : Below w.heap.size w W1 := by rw [hW1]; exact ((Below.refl _ _).alloc (Nat.le_refl _) _).alloc (by simp) _
 have F1 : Hid (Below w.heap.size w W1 ∧ Blk W1 w.heap.size 23 KV.toArray ∧ Blk W1 (w.heap.size + 1) 27 NV.toArray ∧ Row W1 sp n xs ∧ Row W1 aa an zs) := Lib.hid (by
  refine ⟨b1, ?_, ?_, HX.out.keep b1, HZ.out.keep b1⟩
  ·rw [hW1]; exact (Blk.new _ _ _).alloc _
  ·rw [hW1]; exact Blk.new' _ _ _ _ (by simp))
 clear hW1 b1
 generalize w.heap.size + 1 = g5 at *
 obtain ⟨g4, hg4⟩ : ∃ q, w.heap.size = q := ⟨_, rfl⟩
 have G4 : Hid (w.heap.size = g4) := Lib.hid hg4
 rw [hg4] at F1
 rw [hg4]
 clear hg4
 refine wp_region_lit ?_
 by_cases h16 : n < 16
 ·have H16 := Lib.hid h16
  refine zP (.slice sp n cp) ?_
  refine zP (.int .i64 (n : Int)) ?_
  refine zQ (.bool true) (run_lti Tryd.underlying3 rfl rfl rfl (by have := H16.out; rw [decide_eq_true_eq]; omega)) ?_
  go_upto_region 2 with (fail)
  refine wp_region_lit ?_
  refine zP (.agg #[.int .i64 2]) ?_
  refine zP (.iface 46 (.agg #[.int .i64 2])) ?_
  refine zP (.agg #[.iface 46 (.agg #[.int .i64 2])]) ?_
  refine zP (.iface 58 (.agg #[.iface 46 (.agg #[.int .i64 2])])) ?_
  refine zP (.slice none 0 0) ?_
  refine zP (.iface 58 (.agg #[.iface 46 (.agg #[.int .i64 2])])) ?_
  go_wp2_with fail
  go_ret2
  exact ⟨by rw [G4.out]; exact F1.out.1, .inl ⟨h16, rfl⟩⟩
 ·obtain ⟨m, hm⟩ : ∃ m, n - 16 = m := ⟨_, rfl⟩
  have HM : Hid (n - 16 = m ∧ m + 16 = n) := Lib.hid ⟨hm, by omega⟩
  clear hm
  refine zP (.slice sp n cp) ?_
  refine zP (.int .i64 (n : Int)) ?_
  refine zQ (.bool false) (run_lti Tryd.underlying3 rfl rfl rfl (by have := HM.out; rw [decide_eq_false_iff_not]; omega)) ?_
  go_upto_region 3 with (fail)
  refine region_held_all (fun X => Below g4 w X ∧ Blk X g4 23 KV.toArray ∧ Blk X g5 27 NV.toArray ∧ Row X sp n xs ∧ Row X aa an zs) (by kernel_rfl) (by kernel_rfl) (⟨F1.out.1.drew, F1.out.2⟩) ?_
  refine zH (.slice sp n cp) (fun w h => heldRun_value (by kernel_rfl) h) ?_
  refine zH (.slice sp n cp) (fun w h => heldRun_value (by kernel_rfl) h) ?_
  refine zH (.int .i64 (n : Int)) (fun w h => heldRun_value (by kernel_rfl) h) ?_
  refine zH (.int .i64 ((m : Nat) : Int)) (fun w h => heldRun_value (run_subi Tryd.underlying3 rfl rfl rfl _ (by have := HM.out; have := HN.out; rw [wrap_in _ (by omega) (by omega)]; omega)) h) ?_
  refine zH (.slice sp m cp) (fun w h => heldRun_value (run_sliceto _ _ _ _ _ sp n cp m rfl rfl rfl (by have := HM.out; omega) HFX.out) h) ?_
  refine zH (.slice sp n cp) (fun w h => heldRun_value (by kernel_rfl) h) ?_
  refine zH (.slice sp n cp) (fun w h => heldRun_value (by kernel_rfl) h) ?_
  refine zH (.int .i64 (n : Int)) (fun w h => heldRun_value (by kernel_rfl) h) ?_
  refine zH (.int .i64 ((m : Nat) : Int)) (fun w h => heldRun_value (run_subi Tryd.underlying3 rfl rfl rfl _ (by have := HM.out; have := HN.out; rw [wrap_in _ (by omega) (by omega)]; omega)) h) ?_
  refine zH (.slice (Po.dropA sp cp m) (n - m) (cp - m)) (fun w h => heldRun_value (Po.run_slicep' _ _ _ _ _ sp n cp m (n - m) rfl rfl rfl (by have := HM.out; omega) HFX.out.1 HFX.out.2 rfl) h) ?_
  refine zH (.slice sp m cp) (fun w h => heldRun_value (by kernel_rfl) h) ?_
  refine zH (.slice (Po.dropA sp cp m) (n - m) (cp - m)) (fun w h => heldRun_value (by kernel_rfl) h) ?_
  refine wpHeld_nil ?_
  intro W2 h1
  have F2 := Lib.hid h1
  clear h1 F1
  unfold wpList
  have YR : Hid (∀ V, Row V sp n xs → Row V sp m (xs.take m) ∧ Po.Sl V (Po.dropA sp cp m) (n - m) (cp - m) (xs.drop m)) := Lib.hid (fun V hV => ⟨hV.take m (by have := HM.out; omega), Po.Sl.drop ⟨hV, HFX.out⟩ m (by have := HM.out; omega)⟩)
  have HFY : Hid (Fit sp m cp) := Lib.hid ⟨by have := HFX.out.1; have := HM.out; omega, HFX.out.2⟩
  go_upto_region 4 with (fail)
  refine wp_region_lit ?_
  refine wpL_load 23 _ rfl rfl g4 0 rfl KV _ (blk_rangeC (F2.out.2.1)) Tryd.underlying23 rfl (by rw [HT.out.2.2.2.1]; kernel_rfl) ?_
  simp only [Act.put, List.setIfInBounds_toArray, List.set_cons_zero, List.set_cons_succ]
  refine wpL_load 27 _ rfl rfl g5 0 rfl NV _ (blk_rangeC (F2.out.2.2.1)) Tryd.underlying27 rfl (by rw [HT.out.2.2.2.2]; kernel_rfl) ?_
  simp only [Act.put, List.setIfInBounds_toArray, List.set_cons_zero, List.set_cons_succ]
  refine zP (.slice sp m cp) ?_
  refine zP (.slice aa an ac) ?_
  refine wpL_call 12 #[.agg KV.toArray, .agg NV.toArray, .slice sp m cp, .slice aa an ac] rfl (by kernel_rfl) (((code_two HT.out sp aa m cp an ac (xs.take m) zs (by have := HM.out; have := HN.out; omega) (by have := HAN.out; omega) HFY.out HFA.out W2 (YR.out _ F2.out.2.2.2.1).1 F2.out.2.2.2.2)).mono fun e W3 ⟨he, b3⟩ => ⟨.agg (ub (codeV ks zs (xs.take m) an m)).toArray, he, ?_⟩)
  simp only [Act.put, List.setIfInBounds_toArray, List.set_cons_zero, List.set_cons_succ]
  have F3 : Hid (Below g4 w W3 ∧ Blk W3 g4 23 KV.toArray ∧ Blk W3 g5 27 NV.toArray ∧ Row W3 sp n xs ∧ Row W3 aa an zs) := Lib.hid ⟨F2.out.1.trans (b3.mono (by have := F2.out.1.size; have := G4.out; omega)), F2.out.2.1.below b3, F2.out.2.2.1.below b3, F2.out.2.2.2.1.keep b3, F2.out.2.2.2.2.keep b3⟩
  clear b3 F2
  obtain ⟨W4, hW4⟩ : ∃ V, V = (W3.alloc (.cells (ub (List.replicate 16 0)).toArray 39)).setRow W3.heap.size (ub (codeV ks zs (xs.take m) an m)).toArray := ⟨_, rfl⟩
  refine zV (.pointer (some ⟨W3.heap.size, 0, none⟩)) (W3.alloc (.cells (ub (List.replicate 16 0)).toArray 39)) (by kernel_rfl) ?_
  refine wpList_store_rowTo rfl 39 _ _ rfl rfl W3.heap.size (ub (codeV ks zs (xs.take m) an m)).toArray rfl rfl 39 _ (Blk.new _ _ _) (by simp only [List.size_toArray, ub_len, codeV_len]; kernel_rfl) (by simp only [List.size_toArray, ub_len, codeV_len, List.length_replicate]) (ub_one _) ?_
  rw [← hW4]
  have b9 : Below W3.heap.size W3 W4 := by rw [hW4]; exact below_setRow ((Below.refl _ _).alloc (Nat.le_refl _) _) (Nat.le_refl _) _
  have n9 : Blk W4 W3.heap.size 39 (ub (codeV ks zs (xs.take m) an m)).toArray := by rw [hW4]; exact setRow_heap _ _ _ _ _ _ (Blk.new _ _ _)
  have F4 : Hid ((Below g4 w W4 ∧ Blk W4 g4 23 KV.toArray ∧ Blk W4 g5 27 NV.toArray ∧ Row W4 sp n xs ∧ Row W4 aa an zs) ∧ Row W4 (some ⟨W3.heap.size, 0, none⟩) 16 (codeV ks zs (xs.take m) an m)) := Lib.hid ⟨⟨F3.out.1.trans (b9.mono (by have := F3.out.1.size; have := G4.out; omega)), F3.out.2.1.below b9, F3.out.2.2.1.below b9, F3.out.2.2.2.1.keep b9, F3.out.2.2.2.2.keep b9⟩, row_of_blk2 n9 (codeV_len _ _ _ _ _) (by decide) (codeV_byte _ _ _ _ _)⟩
  clear b9 n9 hW4 F3
  generalize W3.heap.size = gc at *
  obtain ⟨q, hq⟩ : ∃ q, decide ((codeV ks zs (xs.take m) an m) = xs.drop m) = q := ⟨_, rfl⟩
  have HQ := Lib.hid hq
  clear hq
  go_upto_region 5 with (fail)
  refine wp_region_lit ?_
  refine zP (.slice (some ⟨gc, 0, none⟩) 16 16) ?_
  refine zP (.slice (Po.dropA sp cp m) (n - m) (cp - m)) ?_
  refine wpL_call 21 #[.slice (some ⟨gc, 0, none⟩) 16 16, .slice (Po.dropA sp cp m) (n - m) (cp - m)] rfl (by kernel_rfl) (((equal16 HM.out.2 F4.out.2 (YR.out _ F4.out.1.2.2.2.1).2 HQ.out)).mono fun e W5 ⟨he, b5⟩ => ⟨.bool q, he, ?_⟩)
  simp only [Act.put, List.setIfInBounds_toArray, List.set_cons_zero, List.set_cons_succ]
  have F5 : Hid (Below g4 w W5 ∧ Blk W5 g4 23 KV.toArray ∧ Blk W5 g5 27 NV.toArray ∧ Row W5 sp n xs ∧ Row W5 aa an zs) := Lib.hid ⟨F4.out.1.1.trans (b5.mono (by have := F4.out.1.1.size; have := G4.out; omega)), F4.out.1.2.1.below b5, F4.out.1.2.2.1.below b5, F4.out.1.2.2.2.1.keep b5, F4.out.1.2.2.2.2.keep b5⟩
  clear b5 F4
  refine zQ (.bool (!q)) (by cases q <;> kernel_rfl) ?_
  cases q
  ·go_upto_region 6 with (fail)
   refine wp_region_lit ?_
   refine zP (.agg #[.int .i64 6]) ?_
   refine zP (.iface 46 (.agg #[.int .i64 6])) ?_
   refine zP (.agg #[.iface 46 (.agg #[.int .i64 6])]) ?_
   refine zP (.iface 58 (.agg #[.iface 46 (.agg #[.int .i64 6])])) ?_
   refine zP (.slice none 0 0) ?_
   refine zP (.iface 58 (.agg #[.iface 46 (.agg #[.int .i64 6])])) ?_
   go_wp2_with fail
   go_ret2
   exact ⟨by rw [G4.out]; exact F5.out.1, .inr (.inl ⟨m, HM.out.2, of_decide_eq_false HQ.out, rfl⟩)⟩
  ·go_upto_region 7 with (fail)
   refine wp_region_lit ?_
   refine wpL_load 23 _ rfl rfl g4 0 rfl KV _ (blk_rangeC (F5.out.2.1)) Tryd.underlying23 rfl (by rw [HT.out.2.2.2.1]; kernel_rfl) ?_
   simp only [Act.put, List.setIfInBounds_toArray, List.set_cons_zero, List.set_cons_succ]
   refine wpL_load 27 _ rfl rfl g5 0 rfl NV _ (blk_rangeC (F5.out.2.2.1)) Tryd.underlying27 rfl (by rw [HT.out.2.2.2.2]; kernel_rfl) ?_
   simp only [Act.put, List.setIfInBounds_toArray, List.set_cons_zero, List.set_cons_succ]
   refine zP (.slice sp m cp) ?_
   refine wpL_call 11 #[.agg KV.toArray, .agg NV.toArray, .int .u32 1, .slice sp m cp] rfl (by kernel_rfl) (((xor1 HT.out m cp sp (xs.take m) (by have := HM.out; have := HN.out; omega) W5 (YR.out _ F5.out.2.2.2.1).1)).mono fun e W6 ⟨go, he, b6, l6, r6⟩ => ⟨.slice (some ⟨go, 0, none⟩) m m, he, ?_⟩)
   simp only [Act.put, List.setIfInBounds_toArray, List.set_cons_zero, List.set_cons_succ]
   have F6 : Hid (Below g4 w W6 ∧ g4 ≤ go ∧ Blk W6 go 5 (ub (xorV ks 1 (xs.take m) m)).toArray) := Lib.hid ⟨F5.out.1.trans (b6.mono (by have := F5.out.1.size; have := G4.out; omega)), Nat.le_trans (by have := F5.out.1.size; have := G4.out; omega) l6, r6⟩
   clear b6 l6 r6
   refine zP (.slice (some ⟨go, 0, none⟩) m m) ?_
   refine zP (.nilIface) ?_
   go_wp2_with fail
   go_ret2
   exact ⟨by rw [G4.out]; exact F6.out.1, .inr (.inr ⟨m, HM.out.2, of_decide_eq_true HQ.out, go, rfl, by rw [G4.out]; exact F6.out.2.1, F6.out.2.2⟩)⟩
end Go.Proofs.YtlbfohpkngmaoaaDoor.Ch.B.Se
