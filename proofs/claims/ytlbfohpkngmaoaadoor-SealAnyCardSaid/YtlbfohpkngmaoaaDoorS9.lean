/- 'SealAny'. -/
import Derived.Test.YtlbfohpkngmaoaaDoorSO
import Derived.Test.YtlbfohpkngmaoaaDoorS5
import Derived.Test.YtlbfohpkngmaoaaDoorChHeld
namespace Go.Proofs.YtlbfohpkngmaoaaDoor.Ch.B.Se
open Go Go.RowKit
attribute [local irreducible] wpList wpAny wpAnyT
set_option maxHeartbeats 1500000 in
set_option maxRecDepth 100000 in
theorem any_any (kx : List Int) (lx : kx.length = 32) (wx : ∀ x ∈ kx, 0 ≤ x ∧ x ≤ 255) (sp aa : Option Addr) (n cp an ac : Nat) (xs zs : List Int) (hFX : Fit sp n cp) (hFA : Fit aa an ac) (w : World) (hX : Row w sp n xs) (hZ : Row w aa an zs) (hG : w.cell? ⟨0, 0, none⟩ = some (.iface 92 (.agg #[.pointer (some ⟨1, 42, none⟩)]))) :
  Calls Tryd.prog 5 #[.agg (ub kx).toArray, .slice sp n cp, .slice aa an ac] w fun e w' => e = .returned (.bool true) ∧ Below w.heap.size w w' := by
 obtain ⟨ks, hT⟩ := two_of kx N1 lx wx rfl (by decide)
 have HT := Lib.hid hT
 have HFX := Lib.hid hFX
 have HFA := Lib.hid hFA
 have HX := Lib.hid hX
 have HZ := Lib.hid hZ
 have HG := Lib.hid hG
 clear hT hFX hFA hX hZ hG
 go_enter Tryd.func5, Tryd.ntmps5
 go_upto_region 1 with (fail)
 obtain ⟨W1, hW1⟩ : ∃ V, V = (w.alloc (.cells (ub kx).toArray 23)) := ⟨_, rfl⟩
 rw [← hW1]
 have b1 : Below w.heap.size w W1 := by rw [hW1]; exact (Below.refl _ _).alloc (Nat.le_refl _) _
 have F1 : Hid (Below w.heap.size w W1 ∧ Blk W1 w.heap.size 23 (ub kx).toArray ∧ Row W1 sp n xs ∧ Row W1 aa an zs ∧ W1.cell? ⟨0, 0, none⟩ = some (.iface 92 (.agg #[.pointer (some ⟨1, 42, none⟩)]))) := Lib.hid ⟨b1, (by rw [hW1]; exact Blk.new _ _ _), HX.out.keep b1, HZ.out.keep b1, (by rw [b1.cell (by have := pos_of HG.out; simp; omega)]; exact HG.out)⟩
 clear hW1 b1
 obtain ⟨g3, hg3⟩ : ∃ q, w.heap.size = q := ⟨_, rfl⟩
 have G3 : Hid (w.heap.size = g3) := Lib.hid hg3
 rw [hg3] at F1
 rw [hg3]
 clear hg3
 refine wp_region_lit ?_
 refine wpL_call 7 #[] rfl (by kernel_rfl) (((awake_any W1)).mono fun e W2 ⟨he, ba⟩ => ⟨.bool true, he, ?_⟩)
 simp only [Act.put, List.setIfInBounds_toArray, List.set_cons_zero, List.set_cons_succ]
 have F2 : Hid (Below g3 w W2 ∧ Blk W2 g3 23 (ub kx).toArray ∧ Row W2 sp n xs ∧ Row W2 aa an zs ∧ W2.cell? ⟨0, 0, none⟩ = some (.iface 92 (.agg #[.pointer (some ⟨1, 42, none⟩)]))) := Lib.hid ⟨F1.out.1.trans (ba.mono (by have := F1.out.1.size; have := G3.out; omega)), F1.out.2.1.below ba, F1.out.2.2.1.keep ba, F1.out.2.2.2.1.keep ba, (by rw [ba.cell (by have := pos_of F1.out.2.2.2.2; simp; omega)]; exact F1.out.2.2.2.2)⟩
 clear ba
 refine zP (.bool true) ?_
 refine zP (.slice sp n cp) ?_
 refine zP (.int .i64 (n : Int)) ?_
 by_cases h4 : 400 < n
 ·have H4 := Lib.hid h4
  clear h4
  refine zQ (.bool true) (run_gti Tryd.underlying3 rfl rfl rfl (by have := H4.out; rw [decide_eq_true_eq]; omega)) ?_
  refine zP (.bool true) ?_
  refine wpL_skip (by kernel_rfl) ?_
  simp only [Act.put, List.setIfInBounds_toArray, List.set_cons_zero, List.set_cons_succ]
  refine wpL_skip (by kernel_rfl) ?_
  simp only [Act.put, List.setIfInBounds_toArray, List.set_cons_zero, List.set_cons_succ]
  refine wpL_skip (by kernel_rfl) ?_
  simp only [Act.put, List.setIfInBounds_toArray, List.set_cons_zero, List.set_cons_succ]
  refine zP (.bool true) ?_
  refine zP (.bool true) ?_
  refine wpL_skip (by kernel_rfl) ?_
  simp only [Act.put, List.setIfInBounds_toArray, List.set_cons_zero, List.set_cons_succ]
  refine wpL_skip (by kernel_rfl) ?_
  simp only [Act.put, List.setIfInBounds_toArray, List.set_cons_zero, List.set_cons_succ]
  refine wpL_skip (by kernel_rfl) ?_
  simp only [Act.put, List.setIfInBounds_toArray, List.set_cons_zero, List.set_cons_succ]
  refine wpL_skip (by kernel_rfl) ?_
  simp only [Act.put, List.setIfInBounds_toArray, List.set_cons_zero, List.set_cons_succ]
  refine zP (.bool true) ?_
  refine zP (.bool true) ?_
  refine zP (.bool true) ?_
  unfold wpList
  go_wp2_with fail
  go_ret
  exact ⟨rfl, by rw [G3.out]; exact F2.out.1⟩
 ·have H4 : Hid (n ≤ 400) := Lib.hid (by omega)
  clear h4
  refine zQ (.bool false) (run_gti Tryd.underlying3 rfl rfl rfl (by have := H4.out; rw [decide_eq_false_iff_not]; omega)) ?_
  refine zP (.bool false) ?_
  refine zP (.slice aa an ac) ?_
  refine zP (.int .i64 (an : Int)) ?_
  by_cases h2 : 200 < an
  ·have H2 := Lib.hid h2
   clear h2
   refine zQ (.bool true) (run_gti Tryd.underlying3 rfl rfl rfl (by have := H2.out; rw [decide_eq_true_eq]; omega)) ?_
   refine zP (.bool true) ?_
   refine zP (.bool true) ?_
   refine wpL_skip (by kernel_rfl) ?_
   simp only [Act.put, List.setIfInBounds_toArray, List.set_cons_zero, List.set_cons_succ]
   refine wpL_skip (by kernel_rfl) ?_
   simp only [Act.put, List.setIfInBounds_toArray, List.set_cons_zero, List.set_cons_succ]
   refine wpL_skip (by kernel_rfl) ?_
   simp only [Act.put, List.setIfInBounds_toArray, List.set_cons_zero, List.set_cons_succ]
   refine wpL_skip (by kernel_rfl) ?_
   simp only [Act.put, List.setIfInBounds_toArray, List.set_cons_zero, List.set_cons_succ]
   refine zP (.bool true) ?_
   refine zP (.bool true) ?_
   refine zP (.bool true) ?_
   unfold wpList
   go_wp2_with fail
   go_ret
   exact ⟨rfl, by rw [G3.out]; exact F2.out.1⟩
  ·have H2 : Hid (an ≤ 200) := Lib.hid (by omega)
   clear h2
   refine zQ (.bool false) (run_gti Tryd.underlying3 rfl rfl rfl (by have := H2.out; rw [decide_eq_false_iff_not]; omega)) ?_
   refine zP (.bool false) ?_
   refine zP (.bool false) ?_
   refine wpL_load 23 _ rfl rfl g3 0 rfl (ub kx) _ (blk_rangeC (F2.out.2.1)) Tryd.underlying23 rfl (by rw [HT.out.2.2.2.1]; kernel_rfl) ?_
   simp only [Act.put, List.setIfInBounds_toArray, List.set_cons_zero, List.set_cons_succ]
   refine zP (.slice sp n cp) ?_
   refine zP (.slice aa an ac) ?_
   refine wpL_call 10 #[.agg (ub kx).toArray, .slice sp n cp, .slice aa an ac] rfl (by kernel_rfl) (((opened_any kx HT.out sp aa n cp an ac xs zs (by have := H4.out; omega) (by have := H2.out; omega) HFX.out HFA.out W2 F2.out.2.2.1 F2.out.2.2.2.1 F2.out.2.2.2.2)).mono fun e W3 ⟨he, b3⟩ => ⟨.bool true, he, ?_⟩)
   simp only [Act.put, List.setIfInBounds_toArray, List.set_cons_zero, List.set_cons_succ]
   have F3 : Hid (Below g3 w W3 ∧ Blk W3 g3 23 (ub kx).toArray ∧ Row W3 sp n xs ∧ Row W3 aa an zs ∧ W3.cell? ⟨0, 0, none⟩ = some (.iface 92 (.agg #[.pointer (some ⟨1, 42, none⟩)]))) := Lib.hid ⟨F2.out.1.trans (b3.mono (by have := F2.out.1.size; have := G3.out; omega)), F2.out.2.1.below b3, F2.out.2.2.1.keep b3, F2.out.2.2.2.1.keep b3, (by rw [b3.cell (by have := pos_of F2.out.2.2.2.2; simp; omega)]; exact F2.out.2.2.2.2)⟩
   clear b3
   refine zP (.bool true) ?_
   refine zP (.bool true) ?_
   refine zP (.bool true) ?_
   unfold wpList
   go_wp2_with fail
   go_ret
   exact ⟨rfl, by rw [G3.out]; exact F3.out.1⟩
end Go.Proofs.YtlbfohpkngmaoaaDoor.Ch.B.Se
