/- 'SealEmpty'. -/
import Derived.Test.YtlbfohpkngmaoaaDoorSO
import Derived.Test.YtlbfohpkngmaoaaDoorS5
import Derived.Test.YtlbfohpkngmaoaaDoorChHeld
namespace Go.Proofs.YtlbfohpkngmaoaaDoor.Ch.B.Se
open Go Go.RowKit
def N2 : List Int := [2, 0, 0, 0, 0, 0, 0, 0, 0, 0, 0, 0]
theorem seal_none {KV NV : List Value} {ks : Nat → List Int} (hT : Two KV NV ks) (aa : Option Addr) (an ac : Nat) (zs : List Int) (han : an ≤ 5000) (hFA : Fit aa an ac) (w : World) (hZ : Row w aa an zs) :
  Calls Tryd.prog 8 #[.agg KV.toArray, .agg NV.toArray, .slice none 0 0, .slice aa an ac] w fun e w' => givesO w e w' 16 (codeV ks zs [] an 0) := by
 have q := seal_two hT none aa 0 0 an ac [] zs (by omega) han hFA w ⟨rfl, by unfold maxLen; omega, by simp, fun j hj => by omega⟩ hZ
 have e : sealV ks [] zs 0 an = codeV ks zs [] an 0 := by simp [sealV, xorV]
 rw [e] at q
 exact q
theorem opens_none {ks : Nat → List Int} {zs : List Int} {an : Nat} {w w' : World} {e : Ending} (h : openTo ks (codeV ks zs [] an 0) zs 16 an w e w') : ∃ go, e = .returned (.tuple #[.slice (some ⟨go, 0, none⟩) 0 0, .int .i64 0]) := by
 rcases h with ⟨h1, _⟩ | ⟨m, hm, hc, _⟩ | ⟨m, hm, hc, g, he, _⟩
 ·omega
 ·obtain rfl : m = 0 := by omega
  exact absurd (by simp) hc
 ·obtain rfl : m = 0 := by omega
  exact ⟨g, he⟩
attribute [local irreducible] wpList wpAny wpAnyT
set_option maxHeartbeats 1500000 in
set_option maxRecDepth 100000 in
theorem empty_any (kx : List Int) (lx : kx.length = 32) (wx : ∀ x ∈ kx, 0 ≤ x ∧ x ≤ 255) (aa : Option Addr) (an ac : Nat) (zs : List Int) (hFA : Fit aa an ac) (w : World) (hZ : Row w aa an zs) (hG : w.cell? ⟨0, 0, none⟩ = some (.iface 92 (.agg #[.pointer (some ⟨1, 42, none⟩)]))) :
  Calls Tryd.prog 3 #[.agg (ub kx).toArray, .slice aa an ac] w fun e w' => e = .returned (.bool true) ∧ Below w.heap.size w w' := by
 obtain ⟨ks, hT⟩ := two_of kx N2 lx wx rfl (by decide)
 have HT := Lib.hid hT
 have HFA := Lib.hid hFA
 have HZ := Lib.hid hZ
 have HG := Lib.hid hG
 clear hT hFA hZ hG
 go_enter Tryd.func3, Tryd.ntmps3
 go_upto_region 1 with (fail)
 obtain ⟨W1, hW1⟩ : ∃ V, V = (w.alloc (.cells (ub kx).toArray 23)) := ⟨_, rfl⟩
 rw [← hW1]
 have b1 : Below w.heap.size w W1 := by rw [hW1]; exact (Below.refl _ _).alloc (Nat.le_refl _) _
 have F1 : Hid (Below w.heap.size w W1 ∧ Blk W1 w.heap.size 23 (ub kx).toArray ∧ Row W1 aa an zs ∧ W1.cell? ⟨0, 0, none⟩ = some (.iface 92 (.agg #[.pointer (some ⟨1, 42, none⟩)]))) := Lib.hid ⟨b1, (by rw [hW1]; exact Blk.new _ _ _), HZ.out.keep b1, (by rw [b1.cell (by have := pos_of HG.out; simp; omega)]; exact HG.out)⟩
 clear hW1 b1
 obtain ⟨g3, hg3⟩ : ∃ q, w.heap.size = q := ⟨_, rfl⟩
 have G3 : Hid (w.heap.size = g3) := Lib.hid hg3
 rw [hg3] at F1
 rw [hg3]
 clear hg3
 refine wp_region_lit ?_
 refine wpL_call 7 #[] rfl (by kernel_rfl) (((awake_any W1)).mono fun e W2 ⟨he, ba⟩ => ⟨.bool true, he, ?_⟩)
 simp only [Act.put, List.setIfInBounds_toArray, List.set_cons_zero, List.set_cons_succ]
 have F2 : Hid (Below g3 w W2 ∧ Blk W2 g3 23 (ub kx).toArray ∧ Row W2 aa an zs ∧ W2.cell? ⟨0, 0, none⟩ = some (.iface 92 (.agg #[.pointer (some ⟨1, 42, none⟩)]))) := Lib.hid ⟨F1.out.1.trans (ba.mono (by have := F1.out.1.size; have := G3.out; omega)), F1.out.2.1.below ba, F1.out.2.2.1.keep ba, (by rw [ba.cell (by have := pos_of F1.out.2.2.2; simp; omega)]; exact F1.out.2.2.2)⟩
 clear ba
 refine zP (.bool false) ?_
 refine zP (.bool false) ?_
 refine zP (.slice aa an ac) ?_
 refine zP (.int .i64 (an : Int)) ?_
 by_cases h3 : 300 < an
 ·have H3 := Lib.hid h3
  clear h3
  refine zQ (.bool true) (run_gti Tryd.underlying3 rfl rfl rfl (by have := H3.out; rw [decide_eq_true_eq]; omega)) ?_
  refine zP (.bool true) ?_
  unfold wpList
  go_upto_region 2 with (fail)
  refine wp_region_lit ?_
  refine wpL_call 7 #[] rfl (by kernel_rfl) (((awake_any W2)).mono fun e W3 ⟨he, ba⟩ => ⟨.bool true, he, ?_⟩)
  simp only [Act.put, List.setIfInBounds_toArray, List.set_cons_zero, List.set_cons_succ]
  have F3 : Hid (Below g3 w W3 ∧ Blk W3 g3 23 (ub kx).toArray ∧ Row W3 aa an zs ∧ W3.cell? ⟨0, 0, none⟩ = some (.iface 92 (.agg #[.pointer (some ⟨1, 42, none⟩)]))) := Lib.hid ⟨F2.out.1.trans (ba.mono (by have := F2.out.1.size; have := G3.out; omega)), F2.out.2.1.below ba, F2.out.2.2.1.keep ba, (by rw [ba.cell (by have := pos_of F2.out.2.2.2; simp; omega)]; exact F2.out.2.2.2)⟩
  clear ba
  refine zP (.bool true) ?_
  go_wp2_with fail
  go_ret
  exact ⟨rfl, by rw [G3.out]; exact F3.out.1⟩
 ·have H3 : Hid (an ≤ 300) := Lib.hid (by omega)
  clear h3
  refine zQ (.bool false) (run_gti Tryd.underlying3 rfl rfl rfl (by have := H3.out; rw [decide_eq_false_iff_not]; omega)) ?_
  refine zP (.bool false) ?_
  unfold wpList
  go_upto_region 3 with (fail)
  refine wp_region_lit ?_
  refine wpL_load 23 _ rfl rfl g3 0 rfl (ub kx) _ (blk_rangeC (F2.out.2.1)) Tryd.underlying23 rfl (by rw [HT.out.2.2.2.1]; kernel_rfl) ?_
  simp only [Act.put, List.setIfInBounds_toArray, List.set_cons_zero, List.set_cons_succ]
  refine zP (.agg (ub N2).toArray) ?_
  refine zP (.slice aa an ac) ?_
  refine wpL_call 8 #[.agg (ub kx).toArray, .agg (ub N2).toArray, .slice none 0 0, .slice aa an ac] rfl (by kernel_rfl) (((seal_none HT.out aa an ac zs (by have := H3.out; omega) HFA.out W2 F2.out.2.2.1)).mono fun e W3 ⟨a, c, he, b3, o3⟩ => ⟨.slice a 16 c, he, ?_⟩)
  simp only [Act.put, List.setIfInBounds_toArray, List.set_cons_zero, List.set_cons_succ]
  have F3 : Hid ((Below g3 w W3 ∧ Blk W3 g3 23 (ub kx).toArray ∧ Row W3 aa an zs ∧ W3.cell? ⟨0, 0, none⟩ = some (.iface 92 (.agg #[.pointer (some ⟨1, 42, none⟩)]))) ∧ Row W3 a 16 (codeV ks zs [] an 0)) := Lib.hid ⟨⟨F2.out.1.trans (b3.mono (by have := F2.out.1.size; have := G3.out; omega)), F2.out.2.1.below b3, F2.out.2.2.1.keep b3, (by rw [b3.cell (by have := pos_of F2.out.2.2.2; simp; omega)]; exact F2.out.2.2.2)⟩, (Own.row o3).1⟩
  have FO := Lib.hid (fit_own o3)
  clear b3 o3
  refine zP (.slice a 16 c) ?_
  go_upto_region 4 with (fail)
  refine wp_region_lit ?_
  refine wpL_load 23 _ rfl rfl g3 0 rfl (ub kx) _ (blk_rangeC (F3.out.1.2.1)) Tryd.underlying23 rfl (by rw [HT.out.2.2.2.1]; kernel_rfl) ?_
  simp only [Act.put, List.setIfInBounds_toArray, List.set_cons_zero, List.set_cons_succ]
  refine zP (.agg (ub N2).toArray) ?_
  refine zP (.slice a 16 c) ?_
  refine zP (.slice aa an ac) ?_
  refine wpL_call 9 #[.agg (ub kx).toArray, .agg (ub N2).toArray, .slice a 16 c, .slice aa an ac] rfl (by kernel_rfl) ((Open_any HT.out a aa 16 c an ac (codeV ks zs [] an 0) zs (by omega) (by have := H3.out; omega) FO.out HFA.out W3 F3.out.2 F3.out.1.2.2.1 F3.out.1.2.2.2).mono ?_)
  rintro e W4 ⟨b4, h4⟩
  have F4 : Hid (Below g3 w W4 ∧ Blk W4 g3 23 (ub kx).toArray ∧ Row W4 aa an zs ∧ W4.cell? ⟨0, 0, none⟩ = some (.iface 92 (.agg #[.pointer (some ⟨1, 42, none⟩)]))) := Lib.hid ⟨F3.out.1.1.trans (b4.mono (by have := F3.out.1.1.size; have := G3.out; omega)), F3.out.1.2.1.below b4, F3.out.1.2.2.1.keep b4, (by rw [b4.cell (by have := pos_of F3.out.1.2.2.2; simp; omega)]; exact F3.out.1.2.2.2)⟩
  clear b4
  obtain ⟨go, rfl⟩ := opens_none h4
  clear h4
  refine ⟨_, rfl, ?_⟩
  simp only [Act.put, List.setIfInBounds_toArray, List.set_cons_zero, List.set_cons_succ]
  refine zP (.tuple #[.slice (some ⟨go, 0, none⟩) 0 0, .int .i64 0]) ?_
  refine zP (.slice (some ⟨go, 0, none⟩) 0 0) ?_
  refine zP (.int .i64 0) ?_
  refine zP (.slice (some ⟨go, 0, none⟩) 0 0) ?_
  refine zP (.int .i64 0) ?_
  go_upto_region 5 with (fail)
  refine wp_region_lit ?_
  refine zP (.slice a 16 c) ?_
  refine zP (.int .i64 (16 : Int)) ?_
  refine zP (.bool true) ?_
  refine zP (.bool true) ?_
  refine zP (.int .i64 0) ?_
  refine zP (.bool true) ?_
  refine zP (.bool true) ?_
  refine zP (.bool true) ?_
  refine zP (.slice (some ⟨go, 0, none⟩) 0 0) ?_
  refine zP (.int .i64 (0 : Int)) ?_
  refine zP (.bool true) ?_
  refine zP (.bool true) ?_
  refine zP (.bool true) ?_
  go_wp2_with fail
  go_ret
  exact ⟨rfl, by rw [G3.out]; exact F4.out.1⟩
end Go.Proofs.YtlbfohpkngmaoaaDoor.Ch.B.Se
