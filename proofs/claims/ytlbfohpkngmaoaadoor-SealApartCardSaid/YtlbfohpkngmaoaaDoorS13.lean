/- 'SealApart'. -/
import Derived.Test.YtlbfohpkngmaoaaDoorSO
import Derived.Test.YtlbfohpkngmaoaaDoorS5
import Derived.Test.YtlbfohpkngmaoaaDoorChHeld
namespace Go.Proofs.YtlbfohpkngmaoaaDoor.Ch.B.Se
open Go Go.RowKit
theorem y1 {α : Type} (l : List α) (i : Nat) (a : α) : l.toArray.setIfInBounds i a = (l.set i a).toArray := by simp
theorem y2 {α : Type} (x : α) (l : List α) (a : α) : (x :: l).set 0 a = a :: l := rfl
theorem y3 {α : Type} (x : α) (l : List α) (n : Nat) (a : α) : (x :: l).set (n + 1) a = x :: l.set n a := rfl
theorem own_empty (w : World) : Own (w.alloc (.cells #[] 5)) w.heap.size (.slice (some ⟨w.heap.size, 0, none⟩) 0 0) [] :=
 ⟨⟨rfl, .inr ⟨w.heap.size, 0, #[], rfl, Nat.le_refl _, heap_alloc_new w _, Nat.le_refl _, by simp, rfl, rfl⟩⟩, by simp⟩
theorem row_byte (w : World) (x : Int) (h : 0 ≤ x ∧ x ≤ 255) : Row (w.alloc (.cells #[.int .u8 x] 5)) (some ⟨w.heap.size, 0, none⟩) 1 [x] :=
 ⟨rfl, by simp [maxLen], by simp; omega, fun j hj => ⟨_, _, rfl, by rw [(Blk.new w 5 _).cell]; (obtain rfl : j = 0 := by omega); rfl⟩⟩
theorem row_grown {w w' : World} {g n : Nat} {r : Option Nat} {xs : List Int} (h : Row w (some ⟨g, 0, none⟩) n xs) (q : w.grownBy w' r) (hr : some g ≠ r) : Row w' (some ⟨g, 0, none⟩) n xs :=
 ⟨h.1, h.2.1, h.2.2.1, fun j hj => by
  obtain ⟨g', o, e, hc⟩ := h.2.2.2 j hj
  cases e
  exact ⟨g, 0, rfl, q.cell hc hr⟩⟩
theorem bsize {B : Nat} {w w' : World} (h : Below B w w') (e : w.heap.size = B) : B ≤ w'.heap.size := e ▸ h.size
theorem glob_keep {w w' : World} {v : Value} (h : w.cell? ⟨0, 0, none⟩ = some v) (hb : Below w.heap.size w w') : w'.cell? ⟨0, 0, none⟩ = some v := by
 rw [hb.cell (by have := pos_of h; simpa using this)]; exact h
def R3 (W8 : World) (B6 : Nat) (x : Int) (S : List Int) (n : Nat) (_ v2 v3 : Value) (W : World) : Prop :=
 ∃ a c g, v2 = .slice a n c ∧ v3 = .slice (some ⟨g, 0, none⟩) 1 1 ∧ Below B6 W8 W ∧ Own W B6 (.slice a n c) S ∧ Row W (some ⟨g, 0, none⟩) 1 [x]
section
variable {n : Nat} {P : Program} {ops : Array Oper} {Q : Exit → Act → World → Prop} {md : Region.Mode} {S : World → Prop}
def Ran (S : World → Prop) (P : Program) (ops : Array Oper) (o : Oper) (a : Act) (w : World) (v : Value) (w' : World) : Prop := Region.wanted o (yielded ops a.tmps) = true ∧ (execOp a.eval o).run P w = .ok (.value v) w' ∧ S w'
theorem wpAnyT_three {i i2 j di di2 dj : Nat} {oi oi2 oj : Oper} {f : Nat} {listed : Array Bool} {a : Act} {w : World} (hi : ops[i]? = some oi) (hi2 : ops[i2]? = some oi2) (hj : ops[j]? = some oj) (d1 : oi.dst = some di) (d2 : oi2.dst = some di2) (d3 : oj.dst = some dj)
  (x1 : di2 ≠ dj ∧ i2 ≠ j) (x2 : di ≠ dj ∧ i ≠ j) (x3 : di ≠ di2 ∧ i ≠ i2)
  (r0 : Region.ready md ops listed = [i, j]) (r1 : Region.ready md ops (listed.setIfInBounds i true) = [i2, j]) (r2 : Region.ready md ops ((listed.setIfInBounds i true).setIfInBounds j true) = [i2]) (r3 : Region.ready md ops ((listed.setIfInBounds i true).setIfInBounds i2 true) = [j])
  (r4 : Region.ready md ops (listed.setIfInBounds j true) = [i]) (r5 : Region.ready md ops ((listed.setIfInBounds j true).setIfInBounds i true) = [i2]) (R : Value → Value → Value → World → Prop)
  (hA : ∃ v1 w1, Ran S P ops oi a w v1 w1 ∧ (∃ v2 w2, Ran S P ops oi2 (a.put (some di) v1) w1 v2 w2 ∧ ∃ v3 w3, Ran S P ops oj ((a.put (some di) v1).put (some di2) v2) w2 v3 w3 ∧ R v1 v2 v3 w3) ∧
   (∃ v3 w3, Ran S P ops oj (a.put (some di) v1) w1 v3 w3 ∧ ∃ v2 w2, Ran S P ops oi2 ((a.put (some di) v1).put (some dj) v3) w3 v2 w2 ∧ R v1 v2 v3 w2))
  (hC : ∃ v3 w3, Ran S P ops oj a w v3 w3 ∧ ∃ v1 w1, Ran S P ops oi (a.put (some dj) v3) w3 v1 w1 ∧ ∃ v2 w2, Ran S P ops oi2 ((a.put (some dj) v3).put (some di) v1) w1 v2 w2 ∧ R v1 v2 v3 w2)
  (rest : ∀ v1 v2 v3 W, R v1 v2 v3 W → wpAnyT n S P md ops Q f (((listed.setIfInBounds i true).setIfInBounds i2 true).setIfInBounds j true) (((a.put (some di) v1).put (some di2) v2).put (some dj) v3) W) :
  wpAnyT n S P md ops Q (f + 3) listed a w := by
 have one : ∀ {k : Nat} {o : Oper} {L : Array Bool} {b : Act} {V : World} {g d : Nat} {v : Value} {V' : World}, ops[k]? = some o → o.dst = some d → Ran S P ops o b V v V' → wpAnyT n S P md ops Q g (L.setIfInBounds k true) (b.put (some d) v) V' → wpOp P ops Q k (fun a' w' => (k < n → S w') ∧ wpAnyT n S P md ops Q g (L.setIfInBounds k true) a' w') b V :=
  fun hk hd hr h => op_valw _ _ hk hr.1 hr.2.1 ⟨fun _ => hr.2.2, by rw [hd]; exact h⟩
 obtain ⟨v1, w1, q1, ⟨v2, w2, q2, v3, w3, q3, h1⟩, v3', w3', q3', v2', w2', q2', h2⟩ := hA
 obtain ⟨u3, y3, p3, u1, y1, p1, u2, y2, p2, h3⟩ := hC
 refine ⟨fun h => (by rw [r0] at h; cases h), fun k hk => ?_⟩
 rw [r0] at hk
 rcases List.mem_cons.1 hk with rfl | hk
 ·refine one hi d1 q1 ⟨fun h => (by rw [r1] at h; cases h), fun k hk => ?_⟩
  rw [r1] at hk
  rcases List.mem_cons.1 hk with rfl | hk
  ·refine one hi2 d2 q2 (wpAnyT_one r3 (one hj d3 q3 (rest _ _ _ _ h1)))
  ·obtain rfl := List.mem_singleton.1 hk
   refine one hj d3 q3' (wpAnyT_one r2 (one hi2 d2 q2' ?_))
   have z := rest _ _ _ _ h2
   rw [Act.put_comm _ _ _ (fun d hd => by cases hd; simpa using x1.1.symm), Array.setIfInBounds_comm _ _ x1.2] at z
   exact z
 ·obtain rfl := List.mem_singleton.1 hk
  refine one hj d3 p3 (wpAnyT_one r4 (one hi d1 p1 (wpAnyT_one r5 (one hi2 d2 p2 ?_))))
  have z := rest _ _ _ _ h3
  rw [Act.put_comm _ _ _ (fun d hd => by cases hd; simpa using x1.1.symm), Array.setIfInBounds_comm _ _ x1.2, Act.put_comm a _ _ (fun d hd => by cases hd; simpa using x2.1.symm), Array.setIfInBounds_comm _ _ x2.2] at z
  exact z
end
attribute [local irreducible] wpList wpAny wpAnyT
set_option maxHeartbeats 1500000 in
set_option maxRecDepth 100000 in
theorem apart_any (kx : List Int) (lx : kx.length = 32) (wx : ∀ x ∈ kx, 0 ≤ x ∧ x ≤ 255) (a0 a1 : Option Addr) (n0 c0 n1 c1 : Nat) (x : Int) (xs zs : List Int) (hFA : Fit a1 n1 c1) (hx : 0 ≤ x ∧ x ≤ 255) (w : World) (hX : Row w a0 n0 xs) (hZ : Row w a1 n1 zs) (hG : w.cell? ⟨0, 0, none⟩ = some (.iface 92 (.agg #[.pointer (some ⟨1, 42, none⟩)]))) :
  Calls Tryd.prog 6 #[.agg (ub kx).toArray, .agg #[.slice a0 n0 c0, .slice a1 n1 c1], .int .u8 x] w fun e w' => e = .returned (.bool true) ∧ Below w.heap.size w w' := by
 obtain ⟨ks, hT⟩ := two_of kx N1 lx wx rfl (by decide)
 have HXB : Hid ((∀ x ∈ xs, 0 ≤ x ∧ x ≤ 255) ∧ ∀ x ∈ zs, 0 ≤ x ∧ x ≤ 255) := Lib.hid ⟨hX.2.2.1, hZ.2.2.1⟩
 have HB := Lib.hid hx
 have HT := Lib.hid hT
 have HFA := Lib.hid hFA
 have HX := Lib.hid hX
 have HZ := Lib.hid hZ
 have HG := Lib.hid hG
 clear hT hFA hX hZ hG hx
 go_enter Tryd.func6, Tryd.ntmps6
 go_upto_region 1 with (fail)
 obtain ⟨W1, hW1⟩ : ∃ V, V = ((w.alloc (.cells (ub kx).toArray 23)).alloc (.cells #[.slice a0 n0 c0, .slice a1 n1 c1] 32)) := ⟨_, rfl⟩
 rw [← hW1]
 have b1 : Below w.heap.size w W1 := by rw [hW1]; exact ((Below.refl _ _).alloc (Nat.le_refl _) _).alloc (by simp) _
 have F1 : Hid (Below w.heap.size w W1 ∧ Blk W1 w.heap.size 23 (ub kx).toArray ∧ Blk W1 (w.heap.size + 1) 32 #[.slice a0 n0 c0, .slice a1 n1 c1] ∧ Row W1 a0 n0 xs ∧ Row W1 a1 n1 zs ∧ W1.cell? ⟨0, 0, none⟩ = some (.iface 92 (.agg #[.pointer (some ⟨1, 42, none⟩)]))) := Lib.hid ⟨b1, (by rw [hW1]; exact (Blk.new _ _ _).alloc _), (by rw [hW1]; exact Blk.new' _ _ _ _ (by simp)), HX.out.keep b1, HZ.out.keep b1, (by rw [b1.cell (by have := pos_of HG.out; simp; omega)]; exact HG.out)⟩
 generalize w.heap.size + 1 = g4 at *
 clear hW1 b1
 obtain ⟨g3, hg3⟩ : ∃ q, w.heap.size = q := ⟨_, rfl⟩
 have G3 : Hid (w.heap.size = g3) := Lib.hid hg3
 rw [hg3] at F1
 rw [hg3]
 clear hg3
 refine wp_region_lit ?_
 refine wpL_call 7 #[] rfl (by kernel_rfl) (((awake_any W1)).mono fun e W2 ⟨he, ba⟩ => ⟨.bool true, he, ?_⟩)
 simp only [Act.put, y1, y2, y3]
 have F2 : Hid (Below g3 w W2 ∧ Blk W2 g3 23 (ub kx).toArray ∧ Blk W2 g4 32 #[.slice a0 n0 c0, .slice a1 n1 c1] ∧ Row W2 a0 n0 xs ∧ Row W2 a1 n1 zs ∧ W2.cell? ⟨0, 0, none⟩ = some (.iface 92 (.agg #[.pointer (some ⟨1, 42, none⟩)]))) := Lib.hid ⟨F1.out.1.trans (ba.mono (by have := F1.out.1.size; have := G3.out; omega)), F1.out.2.1.below ba, F1.out.2.2.1.below ba, F1.out.2.2.2.1.keep ba, F1.out.2.2.2.2.1.keep ba, (by rw [ba.cell (by have := pos_of F1.out.2.2.2.2.2; simp; omega)]; exact F1.out.2.2.2.2.2)⟩
 clear ba
 refine zP (.bool false) ?_
 refine zP (.bool false) ?_
 refine zP (.pointer (some ⟨g4, 0, none⟩)) ?_
 refine zQ (.slice a0 n0 c0) (run_load_one _ _ _ 24 _ _ rfl (g4) (0) rfl (by rw [F2.out.2.2.1.cell]; rfl) (by kernel_rfl)) ?_
 refine zP (.int .i64 (n0 : Int)) ?_
 by_cases h6 : 300 < n0
 ·have H6 := Lib.hid h6
  clear h6
  refine zQ (.bool true) (run_gti Tryd.underlying3 rfl rfl rfl (by have := H6.out; rw [decide_eq_true_eq]; omega)) ?_
  refine zP (.bool true) ?_
  refine zP (.bool true) ?_
  refine wpL_skip (by kernel_rfl) ?_
  simp only [Act.put, y1, y2, y3]
  refine wpL_skip (by kernel_rfl) ?_
  simp only [Act.put, y1, y2, y3]
  refine wpL_skip (by kernel_rfl) ?_
  simp only [Act.put, y1, y2, y3]
  refine wpL_skip (by kernel_rfl) ?_
  simp only [Act.put, y1, y2, y3]
  refine zP (.bool true) ?_
  unfold wpList
  go_upto_region 2 with (fail)
  refine wp_region_lit ?_
  refine wpL_call 7 #[] rfl (by kernel_rfl) (((awake_any W2)).mono fun e W3 ⟨he, ba⟩ => ⟨.bool true, he, ?_⟩)
  simp only [Act.put, y1, y2, y3]
  have F3 : Hid (Below g3 w W3 ∧ Blk W3 g3 23 (ub kx).toArray ∧ Blk W3 g4 32 #[.slice a0 n0 c0, .slice a1 n1 c1] ∧ Row W3 a0 n0 xs ∧ Row W3 a1 n1 zs ∧ W3.cell? ⟨0, 0, none⟩ = some (.iface 92 (.agg #[.pointer (some ⟨1, 42, none⟩)]))) := Lib.hid ⟨F2.out.1.trans (ba.mono (by have := F2.out.1.size; have := G3.out; omega)), F2.out.2.1.below ba, F2.out.2.2.1.below ba, F2.out.2.2.2.1.keep ba, F2.out.2.2.2.2.1.keep ba, (by rw [ba.cell (by have := pos_of F2.out.2.2.2.2.2; simp; omega)]; exact F2.out.2.2.2.2.2)⟩
  clear ba
  refine zP (.bool true) ?_
  go_wp2_with fail
  go_ret
  exact ⟨rfl, by rw [G3.out]; exact F3.out.1⟩
 ·have H6 : Hid (n0 ≤ 300) := Lib.hid (by omega)
  clear h6
  refine zQ (.bool false) (run_gti Tryd.underlying3 rfl rfl rfl (by have := H6.out; rw [decide_eq_false_iff_not]; omega)) ?_
  refine zP (.bool false) ?_
  refine zP (.bool false) ?_
  refine zP (.pointer (some ⟨g4, 1, none⟩)) ?_
  refine zQ (.slice a1 n1 c1) (run_load_one _ _ _ 24 _ _ rfl (g4) (1) rfl (by rw [F2.out.2.2.1.cell]; rfl) (by kernel_rfl)) ?_
  refine zP (.int .i64 (n1 : Int)) ?_
  by_cases h2 : 150 < n1
  ·have H2 := Lib.hid h2
   clear h2
   refine zQ (.bool true) (run_gti Tryd.underlying3 rfl rfl rfl (by have := H2.out; rw [decide_eq_true_eq]; omega)) ?_
   refine zP (.bool true) ?_
   unfold wpList
   go_upto_region 2 with (fail)
   refine wp_region_lit ?_
   refine wpL_call 7 #[] rfl (by kernel_rfl) (((awake_any W2)).mono fun e W3 ⟨he, ba⟩ => ⟨.bool true, he, ?_⟩)
   simp only [Act.put, y1, y2, y3]
   have F3 : Hid (Below g3 w W3 ∧ Blk W3 g3 23 (ub kx).toArray ∧ Blk W3 g4 32 #[.slice a0 n0 c0, .slice a1 n1 c1] ∧ Row W3 a0 n0 xs ∧ Row W3 a1 n1 zs ∧ W3.cell? ⟨0, 0, none⟩ = some (.iface 92 (.agg #[.pointer (some ⟨1, 42, none⟩)]))) := Lib.hid ⟨F2.out.1.trans (ba.mono (by have := F2.out.1.size; have := G3.out; omega)), F2.out.2.1.below ba, F2.out.2.2.1.below ba, F2.out.2.2.2.1.keep ba, F2.out.2.2.2.2.1.keep ba, (by rw [ba.cell (by have := pos_of F2.out.2.2.2.2.2; simp; omega)]; exact F2.out.2.2.2.2.2)⟩
   clear ba
   refine zP (.bool true) ?_
   go_wp2_with fail
   go_ret
   exact ⟨rfl, by rw [G3.out]; exact F3.out.1⟩
  ·have H2 : Hid (n1 ≤ 150) := Lib.hid (by omega)
   clear h2
   refine zQ (.bool false) (run_gti Tryd.underlying3 rfl rfl rfl (by have := H2.out; rw [decide_eq_false_iff_not]; omega)) ?_
   refine zP (.bool false) ?_
   unfold wpList
   go_upto_region 3 with (fail)
   refine region_held_all (fun X => Below g3 w X ∧ Blk X g3 23 (ub kx).toArray ∧ Blk X g4 32 #[.slice a0 n0 c0, .slice a1 n1 c1] ∧ Row X a0 n0 xs ∧ Row X a1 n1 zs ∧ X.cell? ⟨0, 0, none⟩ = some (.iface 92 (.agg #[.pointer (some ⟨1, 42, none⟩)]))) (by kernel_rfl) (by kernel_rfl) (by exact ⟨F2.out.1.drew, F2.out.2.1, F2.out.2.2.1, F2.out.2.2.2.1, F2.out.2.2.2.2.1, F2.out.2.2.2.2.2⟩) ?_
   refine zH (.pointer (some ⟨g4, 0, none⟩)) (fun w h => heldRun_value (by kernel_rfl) h) ?_
   refine zH (.slice a0 n0 c0) (fun w h => heldRun_value (run_load_one _ _ _ 24 _ _ rfl (g4) (0) rfl (by rw [h.2.2.1.cell]; rfl) (by kernel_rfl)) h) ?_
   refine zH (.string (strOfNums xs)) (fun w h => heldRun_value (run_conv_str _ _ _ _ a0 n0 c0 xs rfl rfl h.2.2.2.1) h) ?_
   refine zH (.pointer (some ⟨g4, 1, none⟩)) (fun w h => heldRun_value (by kernel_rfl) h) ?_
   refine zH (.slice a1 n1 c1) (fun w h => heldRun_value (run_load_one _ _ _ 24 _ _ rfl (g4) (1) rfl (by rw [h.2.2.1.cell]; rfl) (by kernel_rfl)) h) ?_
   refine zH (.string (strOfNums zs)) (fun w h => heldRun_value (run_conv_str _ _ _ _ a1 n1 c1 zs rfl rfl h.2.2.2.2.1) h) ?_
   refine zH (.string (strOfNums xs)) (fun w h => heldRun_value (by kernel_rfl) h) ?_
   refine zH (.string (strOfNums zs)) (fun w h => heldRun_value (by kernel_rfl) h) ?_
   refine wpHeld_nil ?_
   intro W3 h1
   have F3 := Lib.hid h1
   clear h1 F2
   unfold wpList
   go_upto_region 4 with (fail)
   refine wp_region_lit ?_
   refine wpL_load 23 _ rfl rfl g3 0 rfl (ub kx) _ (blk_rangeC (F3.out.2.1)) Tryd.underlying23 rfl (by rw [HT.out.2.2.2.1]; kernel_rfl) ?_
   simp only [Act.put, y1, y2, y3]
   refine zP (.agg (ub N1).toArray) ?_
   refine zP (.pointer (some ⟨g4, 0, none⟩)) ?_
   refine zQ (.slice a0 n0 c0) (run_load_one _ _ _ 24 _ _ rfl (g4) (0) rfl (by rw [F3.out.2.2.1.cell]; rfl) (by kernel_rfl)) ?_
   refine zP (.pointer (some ⟨g4, 1, none⟩)) ?_
   refine zQ (.slice a1 n1 c1) (run_load_one _ _ _ 24 _ _ rfl (g4) (1) rfl (by rw [F3.out.2.2.1.cell]; rfl) (by kernel_rfl)) ?_
   refine wpL_call 8 #[.agg (ub kx).toArray, .agg (ub N1).toArray, .slice a0 n0 c0, .slice a1 n1 c1] rfl (by kernel_rfl) (((seal_two HT.out a0 a1 n0 c0 n1 c1 xs zs (by have := H6.out; omega) (by have := H2.out; omega) HFA.out W3 F3.out.2.2.2.1 F3.out.2.2.2.2.1)).mono fun e W4 ⟨aS, cS, he, b4, o4⟩ => ⟨.slice aS (n0 + 16) cS, he, ?_⟩)
   simp only [Act.put, y1, y2, y3]
   have FO := Lib.hid (fit_own o4)
   have F4 : Hid ((Below g3 w W4 ∧ Blk W4 g3 23 (ub kx).toArray ∧ Blk W4 g4 32 #[.slice a0 n0 c0, .slice a1 n1 c1] ∧ Row W4 a0 n0 xs ∧ Row W4 a1 n1 zs ∧ W4.cell? ⟨0, 0, none⟩ = some (.iface 92 (.agg #[.pointer (some ⟨1, 42, none⟩)]))) ∧ Row W4 aS (n0 + 16) (sealV ks xs zs n0 n1)) := Lib.hid ⟨⟨F3.out.1.trans (b4.mono (by have := F3.out.1.size; have := G3.out; omega)), F3.out.2.1.below b4, F3.out.2.2.1.below b4, F3.out.2.2.2.1.keep b4, F3.out.2.2.2.2.1.keep b4, (by rw [b4.cell (by have := pos_of F3.out.2.2.2.2.2; simp; omega)]; exact F3.out.2.2.2.2.2)⟩, (Own.row o4).1⟩
   clear b4 o4 F3
   refine zP (.slice aS (n0 + 16) cS) ?_
   go_upto_region 5 with (fail)
   refine wp_region_lit ?_
   obtain ⟨W5, hW5⟩ : ∃ V, V = W4.alloc (.cells #[] 5) := ⟨_, rfl⟩
   refine zV (.slice (some ⟨W4.heap.size, 0, none⟩) 0 0) W5 (by rw [hW5]; kernel_rfl) ?_
   have b5 : Below W4.heap.size W4 W5 := by rw [hW5]; exact (Below.refl _ _).alloc (Nat.le_refl _) _
   have o5 : Own W5 W4.heap.size (.slice (some ⟨W4.heap.size, 0, none⟩) 0 0) [] := by rw [hW5]; exact own_empty W4
   have F5 : Hid ((Below g3 w W5 ∧ Blk W5 g3 23 (ub kx).toArray ∧ Blk W5 g4 32 #[.slice a0 n0 c0, .slice a1 n1 c1] ∧ Row W5 a0 n0 xs ∧ Row W5 a1 n1 zs ∧ W5.cell? ⟨0, 0, none⟩ = some (.iface 92 (.agg #[.pointer (some ⟨1, 42, none⟩)]))) ∧ Row W5 aS (n0 + 16) (sealV ks xs zs n0 n1)) := Lib.hid ⟨⟨F4.out.1.1.trans (b5.mono (by have := F4.out.1.1.size; have := G3.out; omega)), F4.out.1.2.1.below b5, F4.out.1.2.2.1.below b5, F4.out.1.2.2.2.1.keep b5, F4.out.1.2.2.2.2.1.keep b5, (by rw [b5.cell (by have := pos_of F4.out.1.2.2.2.2.2; simp; omega)]; exact F4.out.1.2.2.2.2.2)⟩, F4.out.2.keep b5⟩
   obtain ⟨v6, W6, r6, o6, k6, _, _⟩ := append_own W5 W4.heap.size _ [] zs a1 n1 c1 o5 F5.out.1.2.2.2.2.1 (by simp; have := H2.out; omega) b5.size
   rw [List.nil_append] at o6
   obtain ⟨a6, c6, e6⟩ := o6.slice
   have e6' : v6 = .slice a6 n1 c6 := by rw [e6, F5.out.1.2.2.2.2.1.1]
   subst e6'
   have R6 := Lib.hid r6
   have L5 := Lib.hid b5
   have b6 : Below W4.heap.size W4 W6 := b5.grown k6 b5.size (by intro k hk; have hk := Option.some.inj hk; exact Nat.le_of_eq hk)
   clear hW5 r6 e6
   refine zP (.pointer (some ⟨g4, 1, none⟩)) ?_
   refine zQ (.slice a1 n1 c1) (run_load_one _ _ _ 24 _ _ rfl (g4) (1) rfl (by rw [F5.out.1.2.2.1.cell]; rfl) (by kernel_rfl)) ?_
   refine zV (.slice a6 n1 c6) W6 (run_app _ _ _ _ _ _ _ _ _ rfl rfl rfl rfl R6.out) ?_
   refine zP (.int .u8 x) ?_
   obtain ⟨W7, hW7⟩ : ∃ V, V = W6.alloc (.cells #[.int .u8 x] 5) := ⟨_, rfl⟩
   refine zV (.slice (some ⟨W6.heap.size, 0, none⟩) 1 1) W7 (by rw [hW7]; kernel_rfl) ?_
   have b7 : Below W4.heap.size W4 W7 := by rw [hW7]; exact b6.alloc b6.size _
   have o7 : Own W7 W4.heap.size (.slice a6 n1 c6) zs := by rw [hW7]; exact o6.alloc _
   have r7 : Row W7 (some ⟨W6.heap.size, 0, none⟩) 1 [x] := by rw [hW7]; exact row_byte W6 x HB.out
   obtain ⟨v8, W8, r8, o8, k8, _, _⟩ := append_own W7 W4.heap.size _ zs [x] _ 1 1 o7 r7 (by rw [F5.out.1.2.2.2.2.1.1]; have := H2.out; omega) b7.size
   obtain ⟨aL, cL, e8⟩ := o8.slice
   have e8' : v8 = .slice aL (n1 + 1) cL := by rw [e8, List.length_append, F5.out.1.2.2.2.2.1.1]; rfl
   subst e8'
   have R8 := Lib.hid r8
   have b8 : Below W4.heap.size W4 W8 := b7.grown k8 b7.size (fun k hk => (o7.lt k hk).1)
   have F8 : Hid ((Below g3 w W8 ∧ Blk W8 g3 23 (ub kx).toArray ∧ Blk W8 g4 32 #[.slice a0 n0 c0, .slice a1 n1 c1] ∧ Row W8 a0 n0 xs ∧ Row W8 a1 n1 zs ∧ W8.cell? ⟨0, 0, none⟩ = some (.iface 92 (.agg #[.pointer (some ⟨1, 42, none⟩)]))) ∧ Row W8 aS (n0 + 16) (sealV ks xs zs n0 n1) ∧ Row W8 aL (n1 + 1) (zs ++ [x])) := Lib.hid ⟨⟨F4.out.1.1.trans (b8.mono (by have := F4.out.1.1.size; have := G3.out; omega)), F4.out.1.2.1.below b8, F4.out.1.2.2.1.below b8, F4.out.1.2.2.2.1.keep b8, F4.out.1.2.2.2.2.1.keep b8, (by rw [b8.cell (by have := pos_of F4.out.1.2.2.2.2.2; simp; omega)]; exact F4.out.1.2.2.2.2.2)⟩, F4.out.2.keep b8, (Own.row o8).1⟩
   have FL := Lib.hid (fit_own o8)
   clear hW7 r7 o7 o6 k6 b6 b7 k8 o8 r8 e8 b8 o5 b5 L5 F5 F4
   refine zV (.slice aL (n1 + 1) cL) W8 (run_app _ _ _ _ _ _ _ _ _ rfl rfl rfl rfl R8.out) ?_
   clear R8 R6
   refine zP (.slice aL (n1 + 1) cL) ?_
   unfold wpList
   go_upto_region 6 with (fail)
   obtain ⟨B6, hB6⟩ : ∃ q, W8.heap.size = q := ⟨_, rfl⟩
   have HB6 := Lib.hid hB6
   refine region_anyT (fun X => Below B6 W8 X) (by kernel_rfl) 42 42 rfl ?_
   have h0 : Below B6 W8 W8.drew := (Below.refl _ _).drew
   have S0 := Lib.hid h0
   clear h0
   refine wpAnyT_take (i := 0) (oi := ⟨some 46, _, _, _, _, _⟩) (v := (.agg (ub kx).toArray)) rfl (by kernel_rfl) (by kernel_rfl) (by kernel_rfl) (fun _ _ _ h => h) (by kernel_rfl) (Or.inl ⟨rfl, fun w h => run_load_mid _ _ _ 23 _ rfl g3 0 rfl (ub kx) _ (blk_rangeC (F8.out.1.2.1.below (by rw [HB6.out]; exact h))) Tryd.underlying23 rfl (by rw [HT.out.2.2.2.1]; kernel_rfl)⟩) S0.out ?_
   simp only [Act.put, y1, y2, y3]
   refine wpAnyT_take (i := 2) (oi := ⟨some 48, _, _, _, _, _⟩) (v := (.slice aS (n0 + 16) cS)) rfl (by kernel_rfl) (by kernel_rfl) (by kernel_rfl) (fun _ _ _ h => h) (by kernel_rfl) (Or.inl ⟨rfl, fun w h => by kernel_rfl⟩) S0.out ?_
   simp only [Act.put, y1, y2, y3]
   refine wpAnyT_take (i := 4) (oi := ⟨some 50, _, _, _, _, _⟩) (v := (.int .u8 x)) rfl (by kernel_rfl) (by kernel_rfl) (by kernel_rfl) (fun _ _ _ h => h) (by kernel_rfl) (Or.inl ⟨rfl, fun w h => by kernel_rfl⟩) S0.out ?_
   simp only [Act.put, y1, y2, y3]
   refine wpAnyT_take (i := 7) (oi := ⟨some 53, _, _, _, _, _⟩) (v := (.pointer (some ⟨g4, 1, none⟩))) rfl (by kernel_rfl) (by kernel_rfl) (by kernel_rfl) (fun _ _ _ h => h) (by kernel_rfl) (Or.inl ⟨rfl, fun w h => by kernel_rfl⟩) S0.out ?_
   simp only [Act.put, y1, y2, y3]
   refine wpAnyT_take (i := 8) (oi := ⟨some 54, _, _, _, _, _⟩) (v := (.slice a1 n1 c1)) rfl (by kernel_rfl) (by kernel_rfl) (by kernel_rfl) (fun _ _ _ h => h) (by kernel_rfl) (Or.inl ⟨rfl, fun w h => run_load_one _ _ _ 24 _ _ rfl g4 1 rfl (by rw [(F8.out.1.2.2.1.below (by rw [HB6.out]; exact h)).cell]; rfl) (by kernel_rfl)⟩) S0.out ?_
   simp only [Act.put, y1, y2, y3]
   refine wpAnyT_three (i := 1) (i2 := 3) (j := 5) (di := 47) (di2 := 49) (dj := 51) rfl rfl rfl rfl rfl rfl (by decide) (by decide) (by decide) (by kernel_rfl) (by kernel_rfl) (by kernel_rfl) (by kernel_rfl) (by kernel_rfl) (by kernel_rfl) (R3 W8 B6 x (sealV ks xs zs n0 n1) (n0 + 16)) ?_ ?_ ?_
   ·simp only [Act.put, y1, y2, y3]
    obtain ⟨U1, hU1⟩ : ∃ V, V = W8.drew.alloc (.cells #[] 5) := ⟨_, rfl⟩
    have z0 : W8.drew.heap.size = B6 := HB6.out
    have u1 : Below B6 W8 U1 := by rw [hU1]; exact S0.out.alloc (by rw [z0]; exact Nat.le_refl _) _
    have p1 : Own U1 B6 (.slice (some ⟨W8.drew.heap.size, 0, none⟩) 0 0) [] := by rw [hU1, ← z0]; exact own_empty W8.drew
    have s1 : U1.heap.size = B6 + 1 := by rw [hU1]; simp [z0]
    have rs : ∀ V, Below B6 W8 V → Row V aS (n0 + 16) (sealV ks xs zs n0 n1) := fun V hV => F8.out.2.1.keep (by rw [HB6.out]; exact hV)
    have ls : (sealV ks xs zs n0 n1).length = n0 + 16 := F8.out.2.1.1
    refine ⟨.slice (some ⟨W8.drew.heap.size, 0, none⟩) 0 0, U1, ⟨rfl, by rw [hU1]; kernel_rfl, u1⟩, ?_, ?_⟩
    ·obtain ⟨v2, U2, r2, o2, k2, _, _⟩ := append_own U1 B6 _ [] (sealV ks xs zs n0 n1) aS (n0 + 16) cS p1 (rs U1 u1) (by simp; have := H6.out; omega) (bsize u1 HB6.out)
     rw [List.nil_append] at o2
     obtain ⟨a2, c2, e2⟩ := o2.slice
     have e2' : v2 = .slice a2 (n0 + 16) c2 := by rw [e2, ls]
     subst e2'
     clear e2
     have U2b : Below B6 W8 U2 := u1.grown k2 (bsize u1 HB6.out) (fun k hk => (p1.lt k hk).1)
     refine ⟨.slice a2 (n0 + 16) c2, U2, ⟨rfl, run_app _ _ _ _ _ _ _ _ _ rfl rfl rfl rfl r2, U2b⟩, ?_⟩
     obtain ⟨U3, hU3⟩ : ∃ V, V = U2.alloc (.cells #[.int .u8 x] 5) := ⟨_, rfl⟩
     have u3 : Below B6 W8 U3 := by rw [hU3]; exact U2b.alloc (bsize U2b HB6.out) _
     exact ⟨.slice (some ⟨U2.heap.size, 0, none⟩) 1 1, U3, ⟨rfl, by rw [hU3]; kernel_rfl, u3⟩, a2, c2, _, rfl, rfl, u3, by rw [hU3]; exact o2.alloc _, by rw [hU3]; exact row_byte U2 x HB.out⟩
    ·obtain ⟨U3, hU3⟩ : ∃ V, V = U1.alloc (.cells #[.int .u8 x] 5) := ⟨_, rfl⟩
     have u3 : Below B6 W8 U3 := by rw [hU3]; exact u1.alloc (bsize u1 HB6.out) _
     refine ⟨.slice (some ⟨U1.heap.size, 0, none⟩) 1 1, U3, ⟨rfl, by rw [hU3]; kernel_rfl, u3⟩, ?_⟩
     have p3 : Own U3 B6 (.slice (some ⟨W8.drew.heap.size, 0, none⟩) 0 0) [] := by rw [hU3]; exact p1.alloc _
     have q3 : Row U3 (some ⟨U1.heap.size, 0, none⟩) 1 [x] := by rw [hU3]; exact row_byte U1 x HB.out
     obtain ⟨v2, U2, r2, o2, k2, _, _⟩ := append_own U3 B6 _ [] (sealV ks xs zs n0 n1) aS (n0 + 16) cS p3 (rs U3 u3) (by simp; have := H6.out; omega) (bsize u3 HB6.out)
     rw [List.nil_append] at o2
     obtain ⟨a2, c2, e2⟩ := o2.slice
     have e2' : v2 = .slice a2 (n0 + 16) c2 := by rw [e2, ls]
     subst e2'
     clear e2
     have U2b : Below B6 W8 U2 := u3.grown k2 (bsize u3 HB6.out) (fun k hk => (p3.lt k hk).1)
     exact ⟨.slice a2 (n0 + 16) c2, U2, ⟨rfl, run_app _ _ _ _ _ _ _ _ _ rfl rfl rfl rfl r2, U2b⟩, a2, c2, _, rfl, rfl, U2b, o2, row_grown q3 k2 (by simp [Value.ownBlock, s1, z0])⟩
   ·simp only [Act.put, y1, y2, y3]
    have z0 : W8.drew.heap.size = B6 := HB6.out
    obtain ⟨U3, hU3⟩ : ∃ V, V = W8.drew.alloc (.cells #[.int .u8 x] 5) := ⟨_, rfl⟩
    have u3 : Below B6 W8 U3 := by rw [hU3]; exact S0.out.alloc (by rw [z0]; exact Nat.le_refl _) _
    have q3 : Row U3 (some ⟨W8.drew.heap.size, 0, none⟩) 1 [x] := by rw [hU3]; exact row_byte W8.drew x HB.out
    have s3 : U3.heap.size = B6 + 1 := by rw [hU3]; simp [z0]
    have rs : ∀ V, Below B6 W8 V → Row V aS (n0 + 16) (sealV ks xs zs n0 n1) := fun V hV => F8.out.2.1.keep (by rw [HB6.out]; exact hV)
    have ls : (sealV ks xs zs n0 n1).length = n0 + 16 := F8.out.2.1.1
    obtain ⟨U1, hU1⟩ : ∃ V, V = U3.alloc (.cells #[] 5) := ⟨_, rfl⟩
    have u1 : Below B6 W8 U1 := by rw [hU1]; exact u3.alloc (bsize u3 HB6.out) _
    have p1 : Own U1 B6 (.slice (some ⟨U3.heap.size, 0, none⟩) 0 0) [] := by rw [hU1]; exact (own_empty U3).mono (by omega)
    have q1 : Row U1 (some ⟨W8.drew.heap.size, 0, none⟩) 1 [x] := q3.keep (by rw [hU1]; exact (Below.refl _ _).alloc (Nat.le_refl _) _)
    refine ⟨.slice (some ⟨W8.drew.heap.size, 0, none⟩) 1 1, U3, ⟨rfl, by rw [hU3]; kernel_rfl, u3⟩, .slice (some ⟨U3.heap.size, 0, none⟩) 0 0, U1, ⟨rfl, by rw [hU1]; kernel_rfl, u1⟩, ?_⟩
    obtain ⟨v2, U2, r2, o2, k2, _, _⟩ := append_own U1 B6 _ [] (sealV ks xs zs n0 n1) aS (n0 + 16) cS p1 (rs U1 u1) (by simp; have := H6.out; omega) (bsize u1 HB6.out)
    rw [List.nil_append] at o2
    obtain ⟨a2, c2, e2⟩ := o2.slice
    have e2' : v2 = .slice a2 (n0 + 16) c2 := by rw [e2, ls]
    subst e2'
    clear e2
    have U2b : Below B6 W8 U2 := u1.grown k2 (bsize u1 HB6.out) (fun k hk => (p1.lt k hk).1)
    exact ⟨.slice a2 (n0 + 16) c2, U2, ⟨rfl, run_app _ _ _ _ _ _ _ _ _ rfl rfl rfl rfl r2, U2b⟩, a2, c2, _, rfl, rfl, U2b, o2, row_grown q1 k2 (by simp [Value.ownBlock, s3, z0])⟩
   ·rintro v1 v2 v3 W9 ⟨a2, c2, g2, rfl, rfl, b9, o9, r9⟩
    simp only [Act.put, y1, y2, y3]
    obtain ⟨v5, Wa, ra, oa, ka, _, _⟩ := append_own W9 B6 _ (sealV ks xs zs n0 n1) [x] _ 1 1 o9 r9 (by rw [F8.out.2.1.1]; have := H6.out; omega) (bsize b9 HB6.out)
    obtain ⟨a5, c5, e5⟩ := oa.slice
    have e5' : v5 = .slice a5 (n0 + 17) c5 := by rw [e5, List.length_append, F8.out.2.1.1]; rfl
    subst e5'
    have S1 : Hid (Below B6 W8 Wa) := Lib.hid (b9.grown ka (bsize b9 HB6.out) (fun k hk => (o9.lt k hk).1))
    have RA : Hid (Row Wa a5 (n0 + 17) ((sealV ks xs zs n0 n1) ++ [x])) := Lib.hid (Own.row oa).1
    have FA := Lib.hid (fit_own oa)
    refine wpAnyT_one (i := 6) (by kernel_rfl) ?_
    refine op_valw (o := ⟨some 52, _, _, _, _, _⟩) (.slice a5 (n0 + 17) c5) Wa rfl rfl (run_app _ _ _ _ _ _ _ _ _ rfl rfl rfl rfl ra) ⟨fun _ => S1.out, ?_⟩
    simp only [Act.put, y1, y2, y3]
    clear ra oa ka e5 b9 o9 r9
    refine wpAnyT_one (i := 9) (by kernel_rfl) ?_
    refine op_call (o := ⟨some 55, _, _, _, _, _⟩) 10 #[.agg (ub kx).toArray, .slice a5 (n0 + 17) c5, .slice a1 n1 c1] rfl rfl (by kernel_rfl) ((opened_any kx HT.out a5 _ _ _ _ _ ((sealV ks xs zs n0 n1) ++ [x]) zs (by have := H6.out; omega) (by have := H2.out; omega) FA.out HFA.out Wa RA.out (F8.out.1.2.2.2.2.1.keep (by rw [HB6.out]; exact S1.out)) (glob_keep F8.out.1.2.2.2.2.2 (by rw [HB6.out]; exact S1.out))).mono fun e Wb ⟨he, qWb⟩ => ⟨.bool true, he, ?_⟩)
    constructor
    ·exact fun _ => S1.out.trans (qWb.mono (bsize S1.out HB6.out))
    simp only [Act.put, y1, y2, y3]
    have SWb : Hid (Below B6 W8 Wb) := Lib.hid (S1.out.trans (qWb.mono (bsize S1.out HB6.out)))
    clear qWb
    refine wpAnyT_take (i := 10) (oi := ⟨some 56, _, _, _, _, _⟩) (v := (.bool true)) rfl (by kernel_rfl) (by kernel_rfl) (by kernel_rfl) (fun _ _ _ h => h) (by kernel_rfl) (Or.inl ⟨rfl, fun w h => by kernel_rfl⟩) SWb.out ?_
    simp only [Act.put, y1, y2, y3]
    refine wpAnyT_take (i := 11) (oi := ⟨some 57, _, _, _, _, _⟩) (v := (.agg (ub kx).toArray)) rfl (by kernel_rfl) (by kernel_rfl) (by kernel_rfl) (fun _ _ _ h => h) (by kernel_rfl) (Or.inl ⟨rfl, fun w h => run_load_mid _ _ _ 23 _ rfl g3 0 rfl (ub kx) _ (blk_rangeC (F8.out.1.2.1.below (by rw [HB6.out]; exact h))) Tryd.underlying23 rfl (by rw [HT.out.2.2.2.1]; kernel_rfl)⟩) SWb.out ?_
    simp only [Act.put, y1, y2, y3]
    refine wpAnyT_take (i := 12) (oi := ⟨some 58, _, _, _, _, _⟩) (v := (.slice aS (n0 + 16) cS)) rfl (by kernel_rfl) (by kernel_rfl) (by kernel_rfl) (fun _ _ _ h => h) (by kernel_rfl) (Or.inl ⟨rfl, fun w h => by kernel_rfl⟩) SWb.out ?_
    simp only [Act.put, y1, y2, y3]
    refine wpAnyT_take (i := 13) (oi := ⟨some 59, _, _, _, _, _⟩) (v := (.slice aS (n0 + 16) cS)) rfl (by kernel_rfl) (by kernel_rfl) (by kernel_rfl) (fun _ _ _ h => h) (by kernel_rfl) (Or.inl ⟨rfl, fun w h => by kernel_rfl⟩) SWb.out ?_
    simp only [Act.put, y1, y2, y3]
    refine wpAnyT_take (i := 14) (oi := ⟨some 60, _, _, _, _, _⟩) (v := (.int .i64 ((n0 + 16 : Nat) : Int))) rfl (by kernel_rfl) (by kernel_rfl) (by kernel_rfl) (fun _ _ _ h => h) (by kernel_rfl) (Or.inl ⟨rfl, fun w h => by kernel_rfl⟩) SWb.out ?_
    simp only [Act.put, y1, y2, y3]
    refine wpAnyT_take (i := 15) (oi := ⟨some 61, _, _, _, _, _⟩) (v := (.int .i64 ((n0 + 15 : Nat) : Int))) rfl (by kernel_rfl) (by kernel_rfl) (by kernel_rfl) (fun _ _ _ h => h) (by kernel_rfl) (Or.inl ⟨rfl, fun w h => run_subi Tryd.underlying3 rfl rfl rfl _ (by have := H6.out; rw [wrap_in _ (by omega) (by omega)]; omega)⟩) SWb.out ?_
    simp only [Act.put, y1, y2, y3]
    refine wpAnyT_take (i := 16) (oi := ⟨some 62, _, _, _, _, _⟩) (v := (.slice aS (n0 + 15) cS)) rfl (by kernel_rfl) (by kernel_rfl) (by kernel_rfl) (fun _ _ _ h => h) (by kernel_rfl) (Or.inl ⟨rfl, fun w h => run_sliceto _ _ _ _ _ aS (n0 + 16) cS (n0 + 15) rfl rfl rfl (by omega) FO.out⟩) SWb.out ?_
    simp only [Act.put, y1, y2, y3]
    refine wpAnyT_take (i := 17) (oi := ⟨some 63, _, _, _, _, _⟩) (v := (.pointer (some ⟨g4, 1, none⟩))) rfl (by kernel_rfl) (by kernel_rfl) (by kernel_rfl) (fun _ _ _ h => h) (by kernel_rfl) (Or.inl ⟨rfl, fun w h => by kernel_rfl⟩) SWb.out ?_
    simp only [Act.put, y1, y2, y3]
    refine wpAnyT_take (i := 18) (oi := ⟨some 64, _, _, _, _, _⟩) (v := (.slice a1 n1 c1)) rfl (by kernel_rfl) (by kernel_rfl) (by kernel_rfl) (fun _ _ _ h => h) (by kernel_rfl) (Or.inl ⟨rfl, fun w h => run_load_one _ _ _ 24 _ _ rfl g4 1 rfl (by rw [(F8.out.1.2.2.1.below (by rw [HB6.out]; exact h)).cell]; rfl) (by kernel_rfl)⟩) SWb.out ?_
    simp only [Act.put, y1, y2, y3]
    refine wpAnyT_one (i := 19) (by kernel_rfl) ?_
    refine op_call (o := ⟨some 65, _, _, _, _, _⟩) 10 #[.agg (ub kx).toArray, .slice aS (n0 + 15) cS, .slice a1 n1 c1] rfl rfl (by kernel_rfl) ((opened_any kx HT.out aS _ _ _ _ _ ((sealV ks xs zs n0 n1).take (n0 + 15)) zs (by have := H6.out; omega) (by have := H2.out; omega) ⟨by have := FO.out.1; omega, FO.out.2⟩ HFA.out Wb (Row.take (F8.out.2.1.keep (by rw [HB6.out]; exact SWb.out)) (n0 + 15) (by omega)) (F8.out.1.2.2.2.2.1.keep (by rw [HB6.out]; exact SWb.out)) (glob_keep F8.out.1.2.2.2.2.2 (by rw [HB6.out]; exact SWb.out))).mono fun e Wc ⟨he, qWc⟩ => ⟨.bool true, he, ?_⟩)
    constructor
    ·exact fun _ => SWb.out.trans (qWc.mono (bsize SWb.out HB6.out))
    simp only [Act.put, y1, y2, y3]
    have SWc : Hid (Below B6 W8 Wc) := Lib.hid (SWb.out.trans (qWc.mono (bsize SWb.out HB6.out)))
    clear qWc
    refine wpAnyT_take (i := 20) (oi := ⟨some 66, _, _, _, _, _⟩) (v := (.bool true)) rfl (by kernel_rfl) (by kernel_rfl) (by kernel_rfl) (fun _ _ _ h => h) (by kernel_rfl) (Or.inl ⟨rfl, fun w h => by kernel_rfl⟩) SWc.out ?_
    simp only [Act.put, y1, y2, y3]
    refine wpAnyT_take (i := 21) (oi := ⟨some 67, _, _, _, _, _⟩) (v := (.bool true)) rfl (by kernel_rfl) (by kernel_rfl) (by kernel_rfl) (fun _ _ _ h => h) (by kernel_rfl) (Or.inl ⟨rfl, fun w h => by kernel_rfl⟩) SWc.out ?_
    simp only [Act.put, y1, y2, y3]
    refine wpAnyT_take (i := 22) (oi := ⟨some 68, _, _, _, _, _⟩) (v := (.agg (ub kx).toArray)) rfl (by kernel_rfl) (by kernel_rfl) (by kernel_rfl) (fun _ _ _ h => h) (by kernel_rfl) (Or.inl ⟨rfl, fun w h => run_load_mid _ _ _ 23 _ rfl g3 0 rfl (ub kx) _ (blk_rangeC (F8.out.1.2.1.below (by rw [HB6.out]; exact h))) Tryd.underlying23 rfl (by rw [HT.out.2.2.2.1]; kernel_rfl)⟩) SWc.out ?_
    simp only [Act.put, y1, y2, y3]
    refine wpAnyT_take (i := 23) (oi := ⟨some 69, _, _, _, _, _⟩) (v := (.slice aS (n0 + 16) cS)) rfl (by kernel_rfl) (by kernel_rfl) (by kernel_rfl) (fun _ _ _ h => h) (by kernel_rfl) (Or.inl ⟨rfl, fun w h => by kernel_rfl⟩) SWc.out ?_
    simp only [Act.put, y1, y2, y3]
    refine wpAnyT_take (i := 24) (oi := ⟨some 70, _, _, _, _, _⟩) (v := (.slice aL (n1 + 1) cL)) rfl (by kernel_rfl) (by kernel_rfl) (by kernel_rfl) (fun _ _ _ h => h) (by kernel_rfl) (Or.inl ⟨rfl, fun w h => by kernel_rfl⟩) SWc.out ?_
    simp only [Act.put, y1, y2, y3]
    refine wpAnyT_one (i := 25) (by kernel_rfl) ?_
    refine op_call (o := ⟨some 71, _, _, _, _, _⟩) 10 #[.agg (ub kx).toArray, .slice aS (n0 + 16) cS, .slice aL (n1 + 1) cL] rfl rfl (by kernel_rfl) ((opened_any kx HT.out aS _ _ _ _ _ (sealV ks xs zs n0 n1) (zs ++ [x]) (by have := H6.out; omega) (by have := H2.out; omega) FO.out FL.out Wc (F8.out.2.1.keep (by rw [HB6.out]; exact SWc.out)) (F8.out.2.2.keep (by rw [HB6.out]; exact SWc.out)) (glob_keep F8.out.1.2.2.2.2.2 (by rw [HB6.out]; exact SWc.out))).mono fun e Wd ⟨he, qWd⟩ => ⟨.bool true, he, ?_⟩)
    constructor
    ·exact fun _ => SWc.out.trans (qWd.mono (bsize SWc.out HB6.out))
    simp only [Act.put, y1, y2, y3]
    have SWd : Hid (Below B6 W8 Wd) := Lib.hid (SWc.out.trans (qWd.mono (bsize SWc.out HB6.out)))
    clear qWd
    refine wpAnyT_take (i := 26) (oi := ⟨some 72, _, _, _, _, _⟩) (v := (.bool true)) rfl (by kernel_rfl) (by kernel_rfl) (by kernel_rfl) (fun _ _ _ h => h) (by kernel_rfl) (Or.inl ⟨rfl, fun w h => by kernel_rfl⟩) SWd.out ?_
    simp only [Act.put, y1, y2, y3]
    refine wpAnyT_take (i := 27) (oi := ⟨some 73, _, _, _, _, _⟩) (v := (.bool true)) rfl (by kernel_rfl) (by kernel_rfl) (by kernel_rfl) (fun _ _ _ h => h) (by kernel_rfl) (Or.inl ⟨rfl, fun w h => by kernel_rfl⟩) SWd.out ?_
    simp only [Act.put, y1, y2, y3]
    refine wpAnyT_take (i := 28) (oi := ⟨some 74, _, _, _, _, _⟩) (v := (.pointer (some ⟨g4, 0, none⟩))) rfl (by kernel_rfl) (by kernel_rfl) (by kernel_rfl) (fun _ _ _ h => h) (by kernel_rfl) (Or.inl ⟨rfl, fun w h => by kernel_rfl⟩) SWd.out ?_
    simp only [Act.put, y1, y2, y3]
    refine wpAnyT_take (i := 29) (oi := ⟨some 75, _, _, _, _, _⟩) (v := (.slice a0 n0 c0)) rfl (by kernel_rfl) (by kernel_rfl) (by kernel_rfl) (fun _ _ _ h => h) (by kernel_rfl) (Or.inl ⟨rfl, fun w h => run_load_one _ _ _ 24 _ _ rfl g4 0 rfl (by rw [(F8.out.1.2.2.1.below (by rw [HB6.out]; exact h)).cell]; rfl) (by kernel_rfl)⟩) SWd.out ?_
    simp only [Act.put, y1, y2, y3]
    refine wpAnyT_take (i := 30) (oi := ⟨some 76, _, _, _, _, _⟩) (v := (.string (strOfNums xs))) rfl (by kernel_rfl) (by kernel_rfl) (by kernel_rfl) (fun _ _ _ h => h) (by kernel_rfl) (Or.inl ⟨rfl, fun w h => run_conv_str _ _ _ _ a0 n0 c0 xs rfl rfl (F8.out.1.2.2.2.1.keep (by rw [HB6.out]; exact h))⟩) SWd.out ?_
    simp only [Act.put, y1, y2, y3]
    refine wpAnyT_take (i := 31) (oi := ⟨some 77, _, _, _, _, _⟩) (v := (.string (strOfNums xs))) rfl (by kernel_rfl) (by kernel_rfl) (by kernel_rfl) (fun _ _ _ h => h) (by kernel_rfl) (Or.inl ⟨rfl, fun w h => by kernel_rfl⟩) SWd.out ?_
    simp only [Act.put, y1, y2, y3]
    refine wpAnyT_take (i := 32) (oi := ⟨some 78, _, _, _, _, _⟩) (v := (.bool true)) rfl (by kernel_rfl) (by kernel_rfl) (by kernel_rfl) (fun _ _ _ h => h) (by kernel_rfl) (Or.inl ⟨rfl, fun w h => run_str_eql _ _ _ _ _ xs xs true rfl rfl rfl (by simp) HXB.out.1 HXB.out.1⟩) SWd.out ?_
    simp only [Act.put, y1, y2, y3]
    refine wpAnyT_take (i := 33) (oi := ⟨some 79, _, _, _, _, _⟩) (v := (.bool true)) rfl (by kernel_rfl) (by kernel_rfl) (by kernel_rfl) (fun _ _ _ h => h) (by kernel_rfl) (Or.inl ⟨rfl, fun w h => by kernel_rfl⟩) SWd.out ?_
    simp only [Act.put, y1, y2, y3]
    refine wpAnyT_take (i := 34) (oi := ⟨some 80, _, _, _, _, _⟩) (v := (.bool true)) rfl (by kernel_rfl) (by kernel_rfl) (by kernel_rfl) (fun _ _ _ h => h) (by kernel_rfl) (Or.inl ⟨rfl, fun w h => by kernel_rfl⟩) SWd.out ?_
    simp only [Act.put, y1, y2, y3]
    refine wpAnyT_take (i := 35) (oi := ⟨some 81, _, _, _, _, _⟩) (v := (.pointer (some ⟨g4, 1, none⟩))) rfl (by kernel_rfl) (by kernel_rfl) (by kernel_rfl) (fun _ _ _ h => h) (by kernel_rfl) (Or.inl ⟨rfl, fun w h => by kernel_rfl⟩) SWd.out ?_
    simp only [Act.put, y1, y2, y3]
    refine wpAnyT_take (i := 36) (oi := ⟨some 82, _, _, _, _, _⟩) (v := (.slice a1 n1 c1)) rfl (by kernel_rfl) (by kernel_rfl) (by kernel_rfl) (fun _ _ _ h => h) (by kernel_rfl) (Or.inl ⟨rfl, fun w h => run_load_one _ _ _ 24 _ _ rfl g4 1 rfl (by rw [(F8.out.1.2.2.1.below (by rw [HB6.out]; exact h)).cell]; rfl) (by kernel_rfl)⟩) SWd.out ?_
    simp only [Act.put, y1, y2, y3]
    refine wpAnyT_take (i := 37) (oi := ⟨some 83, _, _, _, _, _⟩) (v := (.string (strOfNums zs))) rfl (by kernel_rfl) (by kernel_rfl) (by kernel_rfl) (fun _ _ _ h => h) (by kernel_rfl) (Or.inl ⟨rfl, fun w h => run_conv_str _ _ _ _ a1 n1 c1 zs rfl rfl (F8.out.1.2.2.2.2.1.keep (by rw [HB6.out]; exact h))⟩) SWd.out ?_
    simp only [Act.put, y1, y2, y3]
    refine wpAnyT_take (i := 38) (oi := ⟨some 84, _, _, _, _, _⟩) (v := (.string (strOfNums zs))) rfl (by kernel_rfl) (by kernel_rfl) (by kernel_rfl) (fun _ _ _ h => h) (by kernel_rfl) (Or.inl ⟨rfl, fun w h => by kernel_rfl⟩) SWd.out ?_
    simp only [Act.put, y1, y2, y3]
    refine wpAnyT_take (i := 39) (oi := ⟨some 85, _, _, _, _, _⟩) (v := (.bool true)) rfl (by kernel_rfl) (by kernel_rfl) (by kernel_rfl) (fun _ _ _ h => h) (by kernel_rfl) (Or.inl ⟨rfl, fun w h => run_str_eql _ _ _ _ _ zs zs true rfl rfl rfl (by simp) HXB.out.2 HXB.out.2⟩) SWd.out ?_
    simp only [Act.put, y1, y2, y3]
    refine wpAnyT_take (i := 40) (oi := ⟨some 86, _, _, _, _, _⟩) (v := (.bool true)) rfl (by kernel_rfl) (by kernel_rfl) (by kernel_rfl) (fun _ _ _ h => h) (by kernel_rfl) (Or.inl ⟨rfl, fun w h => by kernel_rfl⟩) SWd.out ?_
    simp only [Act.put, y1, y2, y3]
    refine wpAnyT_take (i := 41) (oi := ⟨some 6, _, _, _, _, _⟩) (v := (.bool true)) rfl (by kernel_rfl) (by kernel_rfl) (by kernel_rfl) (fun _ _ _ h => h) (by kernel_rfl) (Or.inl ⟨rfl, fun w h => by kernel_rfl⟩) SWd.out ?_
    simp only [Act.put, y1, y2, y3]
    refine wpAnyT_done (by kernel_rfl) ?_ _
    go_wp2_with fail
    go_ret
    exact ⟨rfl, by rw [G3.out]; exact F8.out.1.1.trans (SWd.out.mono (by have := F8.out.1.1.size; have := G3.out; have := HB6.out; omega))⟩
end Go.Proofs.YtlbfohpkngmaoaaDoor.Ch.B.Se
