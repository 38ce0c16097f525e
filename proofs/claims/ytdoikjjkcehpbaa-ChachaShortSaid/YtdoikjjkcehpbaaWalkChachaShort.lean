/- 'ChachaShort'. -/
import Derived.Test.YtdoikjjkcehpbaaX8
import Derived.Test.YtdoikjjkcehpbaaHeld
import Derived.Test.YtdoikjjkcehpbaaOpen
import Derived.OpenShut
namespace Go.Proofs.Ytdoikjjkcehpbaa.B
open Go Go.RowKit
theorem run_remn (a : Act) (o : Oper) (w : World) (x y : Operand) (p q m : Nat) (ho : o.op = .binOp .rem 3 x y 3) (hx : a.eval x = .int .i64 (p : Int)) (hy : a.eval y = .int .i64 ((q : Nat) : Int)) (hq : 0 < q) (hm : p % q = m) : (execOp a.eval o).run Try.prog w = .ok (.value (.int .i64 ((m : Nat) : Int))) w := by
  subst hm
  have h0 : (0 : Int) ≤ (p : Int) := by omega
  have h1 : (0 : Int) < (q : Int) := by omega
  have h2 : ((p : Int)).tmod (q : Int) = ((p % q : Nat) : Int) := by rw [Int.tmod_eq_emod_of_nonneg h0]; rfl
  unfold execOp
  simp only [ho, hx, hy]
  go_simp
  omega
theorem fit_some {g n : Nat} (h : n ≤ 100000) : Fit (some ⟨g, 0, none⟩) n n := ⟨Nat.le_refl _, by omega, fun _ p hp => by cases hp; rfl⟩
theorem xorV_take (ks : Nat → List Int) (c n m : Nat) (xs : List Int) (hm : m ≤ n) : (xorV ks c xs n).take m = xorV ks c (xs.take m) m := by
  unfold xorV
  rw [← List.map_take, List.take_range, Nat.min_eq_left hm]
  apply List.map_congr_left
  intro i hi
  have hi := List.mem_range.1 hi
  rw [show (xs.take m).getD i 0 = xs.getD i 0 by simp [List.getD, List.getElem?_take, hi]]
attribute [local irreducible] wpList wpAny
set_option maxHeartbeats 8000000 in
set_option maxRecDepth 100000 in
theorem short_any (kx : List Int) (sp : Option Addr) (n cp : Nat) (xs : List Int) (j : Nat) (lx : kx.length = 32) (wx : ∀ x ∈ kx, 0 ≤ x ∧ x ≤ 255) (hj : j < 65536) (w : World) (hR : Row w sp n xs) (hF : Fit sp n cp) :
    Calls Try.prog 3 #[.agg (ub kx).toArray, .slice sp n cp, .int .u16 (j : Int)] w fun e w' => e = .returned (.bool true) ∧ Below w.heap.size w w' := by
  obtain ⟨ks, hT⟩ := two_of kx [9, 0, 0, 0, 0, 0, 0, 0, 0, 0, 0, 0] lx wx rfl (by
    intro x hx
    simp only [List.mem_cons, List.not_mem_nil, or_false] at hx
    rcases hx with rfl | rfl | rfl | rfl | rfl | rfl | rfl | rfl | rfl | rfl | rfl | rfl <;> omega)
  have HT := Lib.hid hT
  have HJ := Lib.hid hj
  have HL := Lib.hid lx
  have HR := Lib.hid hR
  have HFIT := Lib.hid hF
  clear hT hj lx hR hF
  go_enter Try.func3, Try.ntmps3
  go_upto_region 1 with (fail)
  obtain ⟨W1, hW1⟩ : ∃ V, V = w.alloc (.cells (ub kx).toArray 23) := ⟨_, rfl⟩
  rw [← hW1]
  have F1 : Hid (Below w.heap.size w W1 ∧ Blk W1 w.heap.size 23 (ub kx).toArray ∧ Row W1 sp n xs) := Lib.hid (by
    rw [hW1]
    exact ⟨(Below.refl _ _).alloc (Nat.le_refl _) _, Blk.new _ _ _, HR.out.keep ((Below.refl _ _).alloc (Nat.le_refl _) _)⟩)
  clear hW1
  obtain ⟨g0, hg0⟩ : ∃ q, w.heap.size = q := ⟨_, rfl⟩
  have G0 : Hid (w.heap.size = g0) := Lib.hid hg0
  rw [hg0] at F1
  rw [hg0]
  clear hg0
  refine wp_region_lit ?_
  refine wpL_call 8 #[] rfl (by kernel_rfl) (((awake_any W1)).mono fun e W2 ⟨he, ba⟩ => ⟨.bool true, he, ?_⟩)
  simp only [Act.put, List.setIfInBounds_toArray, List.set_cons_zero, List.set_cons_succ]
  have F2 : Hid (Below g0 w W2 ∧ Blk W2 g0 23 (ub kx).toArray ∧ Row W2 sp n xs) := Lib.hid ⟨F1.out.1.trans (ba.mono (by have := F1.out.1.size; have := G0.out; omega)), F1.out.2.1.below ba, F1.out.2.2.keep ba⟩
  clear ba
  refine wpL_pure (.bool false) rfl (by kernel_rfl) ?_
  simp only [Act.put, List.setIfInBounds_toArray, List.set_cons_zero, List.set_cons_succ]
  refine wpL_pure (.bool false) rfl (by kernel_rfl) ?_
  simp only [Act.put, List.setIfInBounds_toArray, List.set_cons_zero, List.set_cons_succ]
  refine wpL_pure (.slice sp n cp) rfl (by kernel_rfl) ?_
  simp only [Act.put, List.setIfInBounds_toArray, List.set_cons_zero, List.set_cons_succ]
  refine wpL_pure (.int .i64 (n : Int)) rfl (by kernel_rfl) ?_
  simp only [Act.put, List.setIfInBounds_toArray, List.set_cons_zero, List.set_cons_succ]
  by_cases h6 : 500 < n
  · have H6 := Lib.hid h6
    clear h6
    refine wpL_pure (.bool true) rfl (run_gti Try.underlying3 rfl rfl rfl (by have := H6.out; rw [decide_eq_true_eq]; omega)) ?_
    simp only [Act.put, List.setIfInBounds_toArray, List.set_cons_zero, List.set_cons_succ]
    refine wpL_pure (.bool true) rfl (by kernel_rfl) ?_
    simp only [Act.put, List.setIfInBounds_toArray, List.set_cons_zero, List.set_cons_succ]
    unfold wpList
    go_upto_region 2 with (fail)
    refine wp_region_lit ?_
    refine wpL_call 8 #[] rfl (by kernel_rfl) (((awake_any W2)).mono fun e W3 ⟨he, ba⟩ => ⟨.bool true, he, ?_⟩)
    simp only [Act.put, List.setIfInBounds_toArray, List.set_cons_zero, List.set_cons_succ]
    have F3 : Hid (Below g0 w W3 ∧ Blk W3 g0 23 (ub kx).toArray ∧ Row W3 sp n xs) := Lib.hid ⟨F2.out.1.trans (ba.mono (by have := F2.out.1.size; have := G0.out; omega)), F2.out.2.1.below ba, F2.out.2.2.keep ba⟩
    clear ba
    refine wpL_pure (.bool true) rfl (by kernel_rfl) ?_
    simp only [Act.put, List.setIfInBounds_toArray, List.set_cons_zero, List.set_cons_succ]
    go_wp2_with fail
    go_ret
    exact ⟨rfl, by rw [G0.out]; exact F3.out.1⟩
  · have H6 : Hid (n ≤ 500) := Lib.hid (by omega)
    clear h6
    refine wpL_pure (.bool false) rfl (run_gti Try.underlying3 rfl rfl rfl (by have := H6.out; rw [decide_eq_false_iff_not]; omega)) ?_
    simp only [Act.put, List.setIfInBounds_toArray, List.set_cons_zero, List.set_cons_succ]
    refine wpL_pure (.bool false) rfl (by kernel_rfl) ?_
    simp only [Act.put, List.setIfInBounds_toArray, List.set_cons_zero, List.set_cons_succ]
    unfold wpList
    obtain ⟨m, hm⟩ : ∃ m, j % (n + 1) = m := ⟨_, rfl⟩
    have HM : Hid (j % (n + 1) = m ∧ m ≤ n ∧ m ≤ 500) := Lib.hid ⟨hm, by have := Nat.mod_lt j (show 0 < n + 1 by omega); omega, by have := Nat.mod_lt j (show 0 < n + 1 by omega); have := H6.out; omega⟩
    clear hm
    go_upto_region 3 with (fail)
    refine wp_region_lit ?_
    refine wpL_pure (.int .u16 ((j : Nat) : Int)) rfl (by kernel_rfl) ?_
    simp only [Act.put, List.setIfInBounds_toArray, List.set_cons_zero, List.set_cons_succ]
    refine wpL_pure (.int .i64 ((j : Nat) : Int)) rfl (run_convi Try.underlying25 Try.underlying3 rfl rfl _ (by have := HJ.out; rw [wrap_in _ (by omega) (by omega)])) ?_
    simp only [Act.put, List.setIfInBounds_toArray, List.set_cons_zero, List.set_cons_succ]
    refine wpL_pure (.slice sp n cp) rfl (by kernel_rfl) ?_
    simp only [Act.put, List.setIfInBounds_toArray, List.set_cons_zero, List.set_cons_succ]
    refine wpL_pure (.int .i64 (n : Int)) rfl (by kernel_rfl) ?_
    simp only [Act.put, List.setIfInBounds_toArray, List.set_cons_zero, List.set_cons_succ]
    refine wpL_pure (.int .i64 ((n + 1 : Nat) : Int)) rfl (run_addi Try.underlying3 rfl rfl rfl _ (by have := H6.out; rw [wrap_in _ (by omega) (by omega)]; omega)) ?_
    simp only [Act.put, List.setIfInBounds_toArray, List.set_cons_zero, List.set_cons_succ]
    refine wpL_pure (.int .i64 ((m : Nat) : Int)) rfl (run_remn _ _ _ _ _ j (n + 1) m rfl rfl rfl (by omega) HM.out.1) ?_
    simp only [Act.put, List.setIfInBounds_toArray, List.set_cons_zero, List.set_cons_succ]
    refine wpL_pure (.int .i64 ((m : Nat) : Int)) rfl (by kernel_rfl) ?_
    simp only [Act.put, List.setIfInBounds_toArray, List.set_cons_zero, List.set_cons_succ]
    have F4 : Hid (Below g0 w W2.drew ∧ Blk W2.drew g0 23 (ub kx).toArray ∧ Row W2.drew sp n xs ∧ Row W2.drew sp m (xs.take m)) := Lib.hid ⟨F2.out.1.drew, F2.out.2.1, F2.out.2.2, Row.take (w := W2.drew) F2.out.2.2 m HM.out.2.1⟩
    clear F2
    have HXM : Hid (∀ x ∈ xs.take m, 0 ≤ x ∧ x ≤ 255) := Lib.hid (fun x hx => HR.out.2.2.1 x (List.mem_of_mem_take hx))
    go_upto_region 4 with (fail)
    refine region_any (by kernel_rfl) 12 rfl ?_
    refine wpAny_take (i := 1) (oi := ⟨some 27, _, _, _, _, _⟩) (v := (.agg (ub [9, 0, 0, 0, 0, 0, 0, 0, 0, 0, 0, 0]).toArray)) rfl (by kernel_rfl) (by kernel_rfl) (by kernel_rfl) (fun _ _ _ h => h) (Or.inl ⟨rfl, fun w => by kernel_rfl⟩) ?_
    simp only [Act.put, List.setIfInBounds_toArray, List.set_cons_zero, List.set_cons_succ]
    refine wpAny_take (i := 2) (oi := ⟨some 28, _, _, _, _, _⟩) (v := (.slice sp n cp)) rfl (by kernel_rfl) (by kernel_rfl) (by kernel_rfl) (fun _ _ _ h => h) (Or.inl ⟨rfl, fun w => by kernel_rfl⟩) ?_
    simp only [Act.put, List.setIfInBounds_toArray, List.set_cons_zero, List.set_cons_succ]
    refine wpAny_take (i := 5) (oi := ⟨some 31, _, _, _, _, _⟩) (v := (.agg (ub [9, 0, 0, 0, 0, 0, 0, 0, 0, 0, 0, 0]).toArray)) rfl (by kernel_rfl) (by kernel_rfl) (by kernel_rfl) (fun _ _ _ h => h) (Or.inl ⟨rfl, fun w => by kernel_rfl⟩) ?_
    simp only [Act.put, List.setIfInBounds_toArray, List.set_cons_zero, List.set_cons_succ]
    refine wpAny_take (i := 6) (oi := ⟨some 32, _, _, _, _, _⟩) (v := (.slice sp n cp)) rfl (by kernel_rfl) (by kernel_rfl) (by kernel_rfl) (fun _ _ _ h => h) (Or.inl ⟨rfl, fun w => by kernel_rfl⟩) ?_
    simp only [Act.put, List.setIfInBounds_toArray, List.set_cons_zero, List.set_cons_succ]
    refine wpAny_take (i := 7) (oi := ⟨some 33, _, _, _, _, _⟩) (v := (.int .i64 ((m : Nat) : Int))) rfl (by kernel_rfl) (by kernel_rfl) (by kernel_rfl) (fun _ _ _ h => h) (Or.inl ⟨rfl, fun w => by kernel_rfl⟩) ?_
    simp only [Act.put, List.setIfInBounds_toArray, List.set_cons_zero, List.set_cons_succ]
    refine wpAny_take (i := 8) (oi := ⟨some 34, _, _, _, _, _⟩) (v := (.slice sp m cp)) rfl (by kernel_rfl) (by kernel_rfl) (by kernel_rfl) (fun _ _ _ h => h) (Or.inl ⟨rfl, fun w => run_sliceto _ _ _ _ _ sp n cp m rfl rfl rfl HM.out.2.1 HFIT.out⟩) ?_
    simp only [Act.put, List.setIfInBounds_toArray, List.set_cons_zero, List.set_cons_succ]
    refine wpAny_all (rs := [0, 4]) (by kernel_rfl) (by simp) ?_
    intro i hi
    simp only [List.mem_cons, List.not_mem_nil, or_false] at hi
    rcases hi with rfl | rfl
    · refine op_val (o := ⟨some 26, _, _, _, _, _⟩) (.agg (ub kx).toArray) rfl rfl (run_load_mid _ _ _ 23 _ rfl g0 0 rfl (ub kx) _ (blk_rangeC (F4.out.2.1)) Try.underlying23 rfl (by rw [HT.out.2.2.2.1]; kernel_rfl)) ?_
      simp only [Act.put, List.setIfInBounds_toArray, List.set_cons_zero, List.set_cons_succ]
      refine wpAny_all (rs := [3, 4]) (by kernel_rfl) (by simp) ?_
      intro i hi
      simp only [List.mem_cons, List.not_mem_nil, or_false] at hi
      rcases hi with rfl | rfl
      · refine op_call (o := ⟨some 29, _, _, _, _, _⟩) 9 #[.agg (ub kx).toArray, .agg (ub [9, 0, 0, 0, 0, 0, 0, 0, 0, 0, 0, 0]).toArray, .int .u32 3, .slice sp n cp] rfl rfl (by kernel_rfl) (((xor_two HT.out 3 (by decide) n cp sp xs (by have := H6.out; omega) W2.drew F4.out.2.2.1)).mono fun e z2 ⟨goz2, he, qz2, lz2, rz2⟩ => ⟨.slice (some ⟨goz2, 0, none⟩) n n, he, ?_⟩)
        simp only [Act.put, List.setIfInBounds_toArray, List.set_cons_zero, List.set_cons_succ]
        have Fz2 := Lib.hid (show Below g0 w z2 ∧ Blk z2 g0 23 (ub kx).toArray ∧ Row z2 sp n xs ∧ Row z2 sp m (xs.take m) ∧ Row z2 (some ⟨goz2, 0, none⟩) n (xorV ks 3 xs n) from ⟨F4.out.1.trans (qz2.mono (by have h1 := F4.out.1.size; have h2 := G0.out; omega)), F4.out.2.1.below qz2, F4.out.2.2.1.keep qz2, F4.out.2.2.2.keep qz2, row_of_blk rz2 (xorV_len _ _ _ _) (by have := H6.out; have := HM.out; omega) (xorV_byte HT.out _ _ _ HR.out.2.2.1)⟩)
        clear qz2
        refine wpAny_all (rs := [4]) (by kernel_rfl) (by simp) ?_
        intro i hi
        simp only [List.mem_cons, List.not_mem_nil, or_false] at hi
        subst hi
        refine op_val (o := ⟨some 30, _, _, _, _, _⟩) (.agg (ub kx).toArray) rfl rfl (run_load_mid _ _ _ 23 _ rfl g0 0 rfl (ub kx) _ (blk_rangeC (Fz2.out.2.1)) Try.underlying23 rfl (by rw [HT.out.2.2.2.1]; kernel_rfl)) ?_
        simp only [Act.put, List.setIfInBounds_toArray, List.set_cons_zero, List.set_cons_succ]
        refine wpAny_all (rs := [9]) (by kernel_rfl) (by simp) ?_
        intro i hi
        simp only [List.mem_cons, List.not_mem_nil, or_false] at hi
        subst hi
        refine op_call (o := ⟨some 35, _, _, _, _, _⟩) 9 #[.agg (ub kx).toArray, .agg (ub [9, 0, 0, 0, 0, 0, 0, 0, 0, 0, 0, 0]).toArray, .int .u32 3, .slice sp m cp] rfl rfl (by kernel_rfl) (((xor_two HT.out 3 (by decide) m cp sp (xs.take m) (by have := HM.out; omega) z2 Fz2.out.2.2.2.1)).mono fun e z4 ⟨goz4, he, qz4, lz4, rz4⟩ => ⟨.slice (some ⟨goz4, 0, none⟩) m m, he, ?_⟩)
        simp only [Act.put, List.setIfInBounds_toArray, List.set_cons_zero, List.set_cons_succ]
        have Fz4 := Lib.hid (show Below g0 w z4 ∧ Blk z4 g0 23 (ub kx).toArray ∧ Row z4 sp n xs ∧ Row z4 sp m (xs.take m) ∧ Row z4 (some ⟨goz2, 0, none⟩) n (xorV ks 3 xs n) ∧ Row z4 (some ⟨goz4, 0, none⟩) m (xorV ks 3 (xs.take m) m) from ⟨Fz2.out.1.trans (qz4.mono (by have h1 := Fz2.out.1.size; have h2 := G0.out; omega)), Fz2.out.2.1.below qz4, Fz2.out.2.2.1.keep qz4, Fz2.out.2.2.2.1.keep qz4, Fz2.out.2.2.2.2.keep qz4, row_of_blk rz4 (xorV_len _ _ _ _) (by have := H6.out; have := HM.out; omega) (xorV_byte HT.out _ _ _ HXM.out)⟩)
        clear qz4
        refine wpAny_take (i := 10) (oi := ⟨some 8, _, _, _, _, _⟩) (v := (.slice (some ⟨goz2, 0, none⟩) n n)) rfl (by kernel_rfl) (by kernel_rfl) (by kernel_rfl) (fun _ _ _ h => h) (Or.inl ⟨rfl, fun w => by kernel_rfl⟩) ?_
        simp only [Act.put, List.setIfInBounds_toArray, List.set_cons_zero, List.set_cons_succ]
        refine wpAny_take (i := 11) (oi := ⟨some 9, _, _, _, _, _⟩) (v := (.slice (some ⟨goz4, 0, none⟩) m m)) rfl (by kernel_rfl) (by kernel_rfl) (by kernel_rfl) (fun _ _ _ h => h) (Or.inl ⟨rfl, fun w => by kernel_rfl⟩) ?_
        simp only [Act.put, List.setIfInBounds_toArray, List.set_cons_zero, List.set_cons_succ]
        refine wpAny_done (by kernel_rfl) ?_ _
        have E1 : Hid (Below g0 w z4 ∧ Blk z4 g0 23 (ub kx).toArray ∧ Row z4 (some ⟨goz2, 0, none⟩) m (xorV ks 3 (xs.take m) m) ∧ Row z4 (some ⟨goz4, 0, none⟩) m (xorV ks 3 (xs.take m) m)) := Lib.hid ⟨Fz4.out.1, Fz4.out.2.1, by have h := (Fz4.out.2.2.2.2.1).take m HM.out.2.1; rw [xorV_take ks 3 n m xs HM.out.2.1] at h; exact h, Fz4.out.2.2.2.2.2⟩
        clear Fz4
        go_upto_region 5 with (fail)
        refine wp_region_lit ?_
        refine wpL_load 23 _ rfl rfl g0 0 rfl (ub kx) _ (blk_rangeC (E1.out.2.1)) Try.underlying23 rfl (by rw [HT.out.2.2.2.1]; kernel_rfl) ?_
        simp only [Act.put, List.setIfInBounds_toArray, List.set_cons_zero, List.set_cons_succ]
        refine wpL_pure (.agg (ub [9, 0, 0, 0, 0, 0, 0, 0, 0, 0, 0, 0]).toArray) rfl (by kernel_rfl) ?_
        simp only [Act.put, List.setIfInBounds_toArray, List.set_cons_zero, List.set_cons_succ]
        refine wpL_pure (.int .i64 ((m : Nat) : Int)) rfl (by kernel_rfl) ?_
        simp only [Act.put, List.setIfInBounds_toArray, List.set_cons_zero, List.set_cons_succ]
        refine wpL_call 10 #[.agg (ub kx).toArray, .agg (ub [9, 0, 0, 0, 0, 0, 0, 0, 0, 0, 0, 0]).toArray, .int .u32 3, .int .i64 ((m : Nat) : Int)] rfl (by kernel_rfl) (((stream_two HT.out 3 (by decide) m (by have := HM.out; omega) z4)).mono fun e V1 ⟨h1, he, b5, l5, r5⟩ => ⟨.tuple #[.slice (some ⟨h1, 0, none⟩) m m, .int .i64 0], he, ?_⟩)
        simp only [Act.put, List.setIfInBounds_toArray, List.set_cons_zero, List.set_cons_succ]
        have F5 : Hid (Below g0 w V1.drew ∧ Blk V1.drew g0 23 (ub kx).toArray ∧ Row V1.drew (some ⟨goz2, 0, none⟩) m (xorV ks 3 (xs.take m) m) ∧ Row V1.drew (some ⟨goz4, 0, none⟩) m (xorV ks 3 (xs.take m) m) ∧ Row V1.drew (some ⟨h1, 0, none⟩) m (strm ks 3 m)) := Lib.hid ⟨(E1.out.1.trans (b5.mono (by have := E1.out.1.size; have := G0.out; omega))).drew, E1.out.2.1.below b5.drew, E1.out.2.2.1.keep b5.drew, E1.out.2.2.2.keep b5.drew, row_of_blk r5 (strm_len _ _ _) (by have := HM.out; omega) (strm_byte HT.out _ _)⟩
        clear b5 l5 r5 E1
        refine wpL_pure (.tuple #[.slice (some ⟨h1, 0, none⟩) m m, .int .i64 0]) rfl (by kernel_rfl) ?_
        simp only [Act.put, List.setIfInBounds_toArray, List.set_cons_zero, List.set_cons_succ]
        refine wpL_pure (.slice (some ⟨h1, 0, none⟩) m m) rfl (by kernel_rfl) ?_
        simp only [Act.put, List.setIfInBounds_toArray, List.set_cons_zero, List.set_cons_succ]
        refine wpL_pure (.int .i64 0) rfl (by kernel_rfl) ?_
        simp only [Act.put, List.setIfInBounds_toArray, List.set_cons_zero, List.set_cons_succ]
        refine wpL_pure (.slice (some ⟨h1, 0, none⟩) m m) rfl (by kernel_rfl) ?_
        simp only [Act.put, List.setIfInBounds_toArray, List.set_cons_zero, List.set_cons_succ]
        refine wpL_pure (.int .i64 0) rfl (by kernel_rfl) ?_
        simp only [Act.put, List.setIfInBounds_toArray, List.set_cons_zero, List.set_cons_succ]
        go_upto_region 6 with (fail)
        refine region_any (by kernel_rfl) 29 rfl ?_
        refine wpAny_take (i := 0) (oi := ⟨some 43, _, _, _, _, _⟩) (v := (.int .i64 0)) rfl (by kernel_rfl) (by kernel_rfl) (by kernel_rfl) (fun _ _ _ h => h) (Or.inl ⟨rfl, fun w => by kernel_rfl⟩) ?_
        simp only [Act.put, List.setIfInBounds_toArray, List.set_cons_zero, List.set_cons_succ]
        refine wpAny_take (i := 1) (oi := ⟨some 44, _, _, _, _, _⟩) (v := (.bool true)) rfl (by kernel_rfl) (by kernel_rfl) (by kernel_rfl) (fun _ _ _ h => h) (Or.inl ⟨rfl, fun w => by kernel_rfl⟩) ?_
        simp only [Act.put, List.setIfInBounds_toArray, List.set_cons_zero, List.set_cons_succ]
        refine wpAny_take (i := 2) (oi := ⟨some 45, _, _, _, _, _⟩) (v := (.bool true)) rfl (by kernel_rfl) (by kernel_rfl) (by kernel_rfl) (fun _ _ _ h => h) (Or.inl ⟨rfl, fun w => by kernel_rfl⟩) ?_
        simp only [Act.put, List.setIfInBounds_toArray, List.set_cons_zero, List.set_cons_succ]
        refine wpAny_take (i := 3) (oi := ⟨some 46, _, _, _, _, _⟩) (v := (.slice (some ⟨goz2, 0, none⟩) n n)) rfl (by kernel_rfl) (by kernel_rfl) (by kernel_rfl) (fun _ _ _ h => h) (Or.inl ⟨rfl, fun w => by kernel_rfl⟩) ?_
        simp only [Act.put, List.setIfInBounds_toArray, List.set_cons_zero, List.set_cons_succ]
        refine wpAny_take (i := 4) (oi := ⟨some 47, _, _, _, _, _⟩) (v := (.int .i64 (n : Int))) rfl (by kernel_rfl) (by kernel_rfl) (by kernel_rfl) (fun _ _ _ h => h) (Or.inl ⟨rfl, fun w => by kernel_rfl⟩) ?_
        simp only [Act.put, List.setIfInBounds_toArray, List.set_cons_zero, List.set_cons_succ]
        refine wpAny_take (i := 5) (oi := ⟨some 48, _, _, _, _, _⟩) (v := (.slice sp n cp)) rfl (by kernel_rfl) (by kernel_rfl) (by kernel_rfl) (fun _ _ _ h => h) (Or.inl ⟨rfl, fun w => by kernel_rfl⟩) ?_
        simp only [Act.put, List.setIfInBounds_toArray, List.set_cons_zero, List.set_cons_succ]
        refine wpAny_take (i := 6) (oi := ⟨some 49, _, _, _, _, _⟩) (v := (.int .i64 (n : Int))) rfl (by kernel_rfl) (by kernel_rfl) (by kernel_rfl) (fun _ _ _ h => h) (Or.inl ⟨rfl, fun w => by kernel_rfl⟩) ?_
        simp only [Act.put, List.setIfInBounds_toArray, List.set_cons_zero, List.set_cons_succ]
        refine wpAny_take (i := 7) (oi := ⟨some 50, _, _, _, _, _⟩) (v := (.bool true)) rfl (by kernel_rfl) (by kernel_rfl) (by kernel_rfl) (fun _ _ _ h => h) (Or.inl ⟨rfl, fun w => run_eqi Try.underlying3 rfl rfl rfl (by rw [decide_eq_true_eq])⟩) ?_
        simp only [Act.put, List.setIfInBounds_toArray, List.set_cons_zero, List.set_cons_succ]
        refine wpAny_take (i := 8) (oi := ⟨some 51, _, _, _, _, _⟩) (v := (.bool true)) rfl (by kernel_rfl) (by kernel_rfl) (by kernel_rfl) (fun _ _ _ h => h) (Or.inl ⟨rfl, fun w => by kernel_rfl⟩) ?_
        simp only [Act.put, List.setIfInBounds_toArray, List.set_cons_zero, List.set_cons_succ]
        refine wpAny_take (i := 9) (oi := ⟨some 52, _, _, _, _, _⟩) (v := (.bool true)) rfl (by kernel_rfl) (by kernel_rfl) (by kernel_rfl) (fun _ _ _ h => h) (Or.inl ⟨rfl, fun w => by kernel_rfl⟩) ?_
        simp only [Act.put, List.setIfInBounds_toArray, List.set_cons_zero, List.set_cons_succ]
        refine wpAny_take (i := 10) (oi := ⟨some 53, _, _, _, _, _⟩) (v := (.slice (some ⟨goz2, 0, none⟩) n n)) rfl (by kernel_rfl) (by kernel_rfl) (by kernel_rfl) (fun _ _ _ h => h) (Or.inl ⟨rfl, fun w => by kernel_rfl⟩) ?_
        simp only [Act.put, List.setIfInBounds_toArray, List.set_cons_zero, List.set_cons_succ]
        refine wpAny_take (i := 11) (oi := ⟨some 54, _, _, _, _, _⟩) (v := (.int .i64 ((m : Nat) : Int))) rfl (by kernel_rfl) (by kernel_rfl) (by kernel_rfl) (fun _ _ _ h => h) (Or.inl ⟨rfl, fun w => by kernel_rfl⟩) ?_
        simp only [Act.put, List.setIfInBounds_toArray, List.set_cons_zero, List.set_cons_succ]
        refine wpAny_take (i := 12) (oi := ⟨some 55, _, _, _, _, _⟩) (v := (.slice (some ⟨goz2, 0, none⟩) m n)) rfl (by kernel_rfl) (by kernel_rfl) (by kernel_rfl) (fun _ _ _ h => h) (Or.inl ⟨rfl, fun w => run_sliceto _ _ _ _ _ (some ⟨goz2, 0, none⟩) n n m rfl rfl rfl HM.out.2.1 (fit_some (by have := H6.out; omega))⟩) ?_
        simp only [Act.put, List.setIfInBounds_toArray, List.set_cons_zero, List.set_cons_succ]
        refine wpAny_take (i := 14) (oi := ⟨some 57, _, _, _, _, _⟩) (v := (.slice (some ⟨goz4, 0, none⟩) m m)) rfl (by kernel_rfl) (by kernel_rfl) (by kernel_rfl) (fun _ _ _ h => h) (Or.inl ⟨rfl, fun w => by kernel_rfl⟩) ?_
        simp only [Act.put, List.setIfInBounds_toArray, List.set_cons_zero, List.set_cons_succ]
        refine wpAny_all (rs := [13, 15]) (by kernel_rfl) (by simp) ?_
        intro i hi
        simp only [List.mem_cons, List.not_mem_nil, or_false] at hi
        rcases hi with rfl | rfl
        · refine op_val (o := ⟨some 56, _, _, _, _, _⟩) (.string (strOfNums (xorV ks 3 (xs.take m) m))) rfl rfl (run_conv_str _ _ _ _ (some ⟨goz2, 0, none⟩) m n (xorV ks 3 (xs.take m) m) rfl rfl (F5.out.2.2.1)) ?_
          simp only [Act.put, List.setIfInBounds_toArray, List.set_cons_zero, List.set_cons_succ]
          refine wpAny_all (rs := [15]) (by kernel_rfl) (by simp) ?_
          intro i hi
          simp only [List.mem_cons, List.not_mem_nil, or_false] at hi
          subst hi
          refine op_val (o := ⟨some 58, _, _, _, _, _⟩) (.string (strOfNums (xorV ks 3 (xs.take m) m))) rfl rfl (run_conv_str _ _ _ _ (some ⟨goz4, 0, none⟩) m m (xorV ks 3 (xs.take m) m) rfl rfl (F5.out.2.2.2.1)) ?_
          simp only [Act.put, List.setIfInBounds_toArray, List.set_cons_zero, List.set_cons_succ]
          refine wpAny_take (i := 16) (oi := ⟨some 59, _, _, _, _, _⟩) (v := (.bool true)) rfl (by kernel_rfl) (by kernel_rfl) (by kernel_rfl) (fun _ _ _ h => h) (Or.inl ⟨rfl, fun w => run_str_eql _ _ _ _ _ (xorV ks 3 (xs.take m) m) (xorV ks 3 (xs.take m) m) true rfl rfl rfl (by simp) (xorV_byte HT.out _ _ _ HXM.out) (xorV_byte HT.out _ _ _ HXM.out)⟩) ?_
          simp only [Act.put, List.setIfInBounds_toArray, List.set_cons_zero, List.set_cons_succ]
          refine wpAny_take (i := 17) (oi := ⟨some 60, _, _, _, _, _⟩) (v := (.bool true)) rfl (by kernel_rfl) (by kernel_rfl) (by kernel_rfl) (fun _ _ _ h => h) (Or.inl ⟨rfl, fun w => by kernel_rfl⟩) ?_
          simp only [Act.put, List.setIfInBounds_toArray, List.set_cons_zero, List.set_cons_succ]
          refine wpAny_take (i := 18) (oi := ⟨some 61, _, _, _, _, _⟩) (v := (.bool true)) rfl (by kernel_rfl) (by kernel_rfl) (by kernel_rfl) (fun _ _ _ h => h) (Or.inl ⟨rfl, fun w => by kernel_rfl⟩) ?_
          simp only [Act.put, List.setIfInBounds_toArray, List.set_cons_zero, List.set_cons_succ]
          refine wpAny_take (i := 19) (oi := ⟨some 62, _, _, _, _, _⟩) (v := (.slice (some ⟨h1, 0, none⟩) m m)) rfl (by kernel_rfl) (by kernel_rfl) (by kernel_rfl) (fun _ _ _ h => h) (Or.inl ⟨rfl, fun w => by kernel_rfl⟩) ?_
          simp only [Act.put, List.setIfInBounds_toArray, List.set_cons_zero, List.set_cons_succ]
          refine wpAny_take (i := 22) (oi := ⟨some 65, _, _, _, _, _⟩) (v := (.agg (ub [9, 0, 0, 0, 0, 0, 0, 0, 0, 0, 0, 0]).toArray)) rfl (by kernel_rfl) (by kernel_rfl) (by kernel_rfl) (fun _ _ _ h => h) (Or.inl ⟨rfl, fun w => by kernel_rfl⟩) ?_
          simp only [Act.put, List.setIfInBounds_toArray, List.set_cons_zero, List.set_cons_succ]
          refine wpAny_take (i := 23) (oi := ⟨some 66, _, _, _, _, _⟩) (v := (.int .i64 ((m : Nat) : Int))) rfl (by kernel_rfl) (by kernel_rfl) (by kernel_rfl) (fun _ _ _ h => h) (Or.inl ⟨rfl, fun w => by kernel_rfl⟩) ?_
          simp only [Act.put, List.setIfInBounds_toArray, List.set_cons_zero, List.set_cons_succ]
          refine wpAny_all (rs := [20, 21]) (by kernel_rfl) (by simp) ?_
          intro i hi
          simp only [List.mem_cons, List.not_mem_nil, or_false] at hi
          rcases hi with rfl | rfl
          · refine op_val (o := ⟨some 63, _, _, _, _, _⟩) (.string (strOfNums (strm ks 3 m))) rfl rfl (run_conv_str _ _ _ _ (some ⟨h1, 0, none⟩) m m (strm ks 3 m) rfl rfl (F5.out.2.2.2.2)) ?_
            simp only [Act.put, List.setIfInBounds_toArray, List.set_cons_zero, List.set_cons_succ]
            refine wpAny_all (rs := [21]) (by kernel_rfl) (by simp) ?_
            intro i hi
            simp only [List.mem_cons, List.not_mem_nil, or_false] at hi
            subst hi
            refine op_val (o := ⟨some 64, _, _, _, _, _⟩) (.agg (ub kx).toArray) rfl rfl (run_load_mid _ _ _ 23 _ rfl g0 0 rfl (ub kx) _ (blk_rangeC (F5.out.2.1)) Try.underlying23 rfl (by rw [HT.out.2.2.2.1]; kernel_rfl)) ?_
            simp only [Act.put, List.setIfInBounds_toArray, List.set_cons_zero, List.set_cons_succ]
            refine wpAny_all (rs := [24]) (by kernel_rfl) (by simp) ?_
            intro i hi
            simp only [List.mem_cons, List.not_mem_nil, or_false] at hi
            subst hi
            refine op_call (o := ⟨some 67, _, _, _, _, _⟩) 11 #[.agg (ub kx).toArray, .agg (ub [9, 0, 0, 0, 0, 0, 0, 0, 0, 0, 0, 0]).toArray, .int .u32 3, .int .i64 ((m : Nat) : Int)] rfl rfl (by kernel_rfl) (((refstream_two HT.out 3 (by decide) m (by have := HM.out; omega) V1.drew)).mono fun e y1_5 ⟨ay1_5, cy1_5, he, qy1_5, ry1_5, _, _⟩ => ⟨.slice ay1_5 m cy1_5, he, ?_⟩)
            simp only [Act.put, List.setIfInBounds_toArray, List.set_cons_zero, List.set_cons_succ]
            have Fy1_5 := Lib.hid (show Below g0 w y1_5 ∧ Blk y1_5 g0 23 (ub kx).toArray ∧ Row y1_5 (some ⟨goz2, 0, none⟩) m (xorV ks 3 (xs.take m) m) ∧ Row y1_5 (some ⟨goz4, 0, none⟩) m (xorV ks 3 (xs.take m) m) ∧ Row y1_5 (some ⟨h1, 0, none⟩) m (strm ks 3 m) ∧ Row y1_5 ay1_5 m (strm ks 3 m) from ⟨F5.out.1.trans (qy1_5.mono (by have h1 := F5.out.1.size; have h2 := G0.out; omega)), F5.out.2.1.below qy1_5, F5.out.2.2.1.keep qy1_5, F5.out.2.2.2.1.keep qy1_5, F5.out.2.2.2.2.keep qy1_5, ry1_5⟩)
            clear qy1_5
            refine wpAny_all (rs := [25]) (by kernel_rfl) (by simp) ?_
            intro i hi
            simp only [List.mem_cons, List.not_mem_nil, or_false] at hi
            subst hi
            refine op_val (o := ⟨some 68, _, _, _, _, _⟩) (.string (strOfNums (strm ks 3 m))) rfl rfl (run_conv_str _ _ _ _ ay1_5 m cy1_5 (strm ks 3 m) rfl rfl (Fy1_5.out.2.2.2.2.2)) ?_
            simp only [Act.put, List.setIfInBounds_toArray, List.set_cons_zero, List.set_cons_succ]
            refine wpAny_take (i := 26) (oi := ⟨some 69, _, _, _, _, _⟩) (v := (.bool true)) rfl (by kernel_rfl) (by kernel_rfl) (by kernel_rfl) (fun _ _ _ h => h) (Or.inl ⟨rfl, fun w => run_str_eql _ _ _ _ _ (strm ks 3 m) (strm ks 3 m) true rfl rfl rfl (by simp) (strm_byte HT.out _ _) (strm_byte HT.out _ _)⟩) ?_
            simp only [Act.put, List.setIfInBounds_toArray, List.set_cons_zero, List.set_cons_succ]
            refine wpAny_take (i := 27) (oi := ⟨some 70, _, _, _, _, _⟩) (v := (.bool true)) rfl (by kernel_rfl) (by kernel_rfl) (by kernel_rfl) (fun _ _ _ h => h) (Or.inl ⟨rfl, fun w => by kernel_rfl⟩) ?_
            simp only [Act.put, List.setIfInBounds_toArray, List.set_cons_zero, List.set_cons_succ]
            refine wpAny_take (i := 28) (oi := ⟨some 6, _, _, _, _, _⟩) (v := (.bool true)) rfl (by kernel_rfl) (by kernel_rfl) (by kernel_rfl) (fun _ _ _ h => h) (Or.inl ⟨rfl, fun w => by kernel_rfl⟩) ?_
            simp only [Act.put, List.setIfInBounds_toArray, List.set_cons_zero, List.set_cons_succ]
            refine wpAny_done (by kernel_rfl) ?_ _
            go_wp2_with fail
            go_ret
            exact ⟨rfl, by rw [G0.out]; exact Fy1_5.out.1⟩
          · refine op_val (o := ⟨some 64, _, _, _, _, _⟩) (.agg (ub kx).toArray) rfl rfl (run_load_mid _ _ _ 23 _ rfl g0 0 rfl (ub kx) _ (blk_rangeC (F5.out.2.1)) Try.underlying23 rfl (by rw [HT.out.2.2.2.1]; kernel_rfl)) ?_
            simp only [Act.put, List.setIfInBounds_toArray, List.set_cons_zero, List.set_cons_succ]
            refine wpAny_all (rs := [20, 24]) (by kernel_rfl) (by simp) ?_
            intro i hi
            simp only [List.mem_cons, List.not_mem_nil, or_false] at hi
            rcases hi with rfl | rfl
            · refine op_val (o := ⟨some 63, _, _, _, _, _⟩) (.string (strOfNums (strm ks 3 m))) rfl rfl (run_conv_str _ _ _ _ (some ⟨h1, 0, none⟩) m m (strm ks 3 m) rfl rfl (F5.out.2.2.2.2)) ?_
              simp only [Act.put, List.setIfInBounds_toArray, List.set_cons_zero, List.set_cons_succ]
              refine wpAny_all (rs := [24]) (by kernel_rfl) (by simp) ?_
              intro i hi
              simp only [List.mem_cons, List.not_mem_nil, or_false] at hi
              subst hi
              refine op_call (o := ⟨some 67, _, _, _, _, _⟩) 11 #[.agg (ub kx).toArray, .agg (ub [9, 0, 0, 0, 0, 0, 0, 0, 0, 0, 0, 0]).toArray, .int .u32 3, .int .i64 ((m : Nat) : Int)] rfl rfl (by kernel_rfl) (((refstream_two HT.out 3 (by decide) m (by have := HM.out; omega) V1.drew)).mono fun e y1_9 ⟨ay1_9, cy1_9, he, qy1_9, ry1_9, _, _⟩ => ⟨.slice ay1_9 m cy1_9, he, ?_⟩)
              simp only [Act.put, List.setIfInBounds_toArray, List.set_cons_zero, List.set_cons_succ]
              have Fy1_9 := Lib.hid (show Below g0 w y1_9 ∧ Blk y1_9 g0 23 (ub kx).toArray ∧ Row y1_9 (some ⟨goz2, 0, none⟩) m (xorV ks 3 (xs.take m) m) ∧ Row y1_9 (some ⟨goz4, 0, none⟩) m (xorV ks 3 (xs.take m) m) ∧ Row y1_9 (some ⟨h1, 0, none⟩) m (strm ks 3 m) ∧ Row y1_9 ay1_9 m (strm ks 3 m) from ⟨F5.out.1.trans (qy1_9.mono (by have h1 := F5.out.1.size; have h2 := G0.out; omega)), F5.out.2.1.below qy1_9, F5.out.2.2.1.keep qy1_9, F5.out.2.2.2.1.keep qy1_9, F5.out.2.2.2.2.keep qy1_9, ry1_9⟩)
              clear qy1_9
              refine wpAny_all (rs := [25]) (by kernel_rfl) (by simp) ?_
              intro i hi
              simp only [List.mem_cons, List.not_mem_nil, or_false] at hi
              subst hi
              refine op_val (o := ⟨some 68, _, _, _, _, _⟩) (.string (strOfNums (strm ks 3 m))) rfl rfl (run_conv_str _ _ _ _ ay1_9 m cy1_9 (strm ks 3 m) rfl rfl (Fy1_9.out.2.2.2.2.2)) ?_
              simp only [Act.put, List.setIfInBounds_toArray, List.set_cons_zero, List.set_cons_succ]
              refine wpAny_take (i := 26) (oi := ⟨some 69, _, _, _, _, _⟩) (v := (.bool true)) rfl (by kernel_rfl) (by kernel_rfl) (by kernel_rfl) (fun _ _ _ h => h) (Or.inl ⟨rfl, fun w => run_str_eql _ _ _ _ _ (strm ks 3 m) (strm ks 3 m) true rfl rfl rfl (by simp) (strm_byte HT.out _ _) (strm_byte HT.out _ _)⟩) ?_
              simp only [Act.put, List.setIfInBounds_toArray, List.set_cons_zero, List.set_cons_succ]
              refine wpAny_take (i := 27) (oi := ⟨some 70, _, _, _, _, _⟩) (v := (.bool true)) rfl (by kernel_rfl) (by kernel_rfl) (by kernel_rfl) (fun _ _ _ h => h) (Or.inl ⟨rfl, fun w => by kernel_rfl⟩) ?_
              simp only [Act.put, List.setIfInBounds_toArray, List.set_cons_zero, List.set_cons_succ]
              refine wpAny_take (i := 28) (oi := ⟨some 6, _, _, _, _, _⟩) (v := (.bool true)) rfl (by kernel_rfl) (by kernel_rfl) (by kernel_rfl) (fun _ _ _ h => h) (Or.inl ⟨rfl, fun w => by kernel_rfl⟩) ?_
              simp only [Act.put, List.setIfInBounds_toArray, List.set_cons_zero, List.set_cons_succ]
              refine wpAny_done (by kernel_rfl) ?_ _
              go_wp2_with fail
              go_ret
              exact ⟨rfl, by rw [G0.out]; exact Fy1_9.out.1⟩
            · refine op_call (o := ⟨some 67, _, _, _, _, _⟩) 11 #[.agg (ub kx).toArray, .agg (ub [9, 0, 0, 0, 0, 0, 0, 0, 0, 0, 0, 0]).toArray, .int .u32 3, .int .i64 ((m : Nat) : Int)] rfl rfl (by kernel_rfl) (((refstream_two HT.out 3 (by decide) m (by have := HM.out; omega) V1.drew)).mono fun e y1_11 ⟨ay1_11, cy1_11, he, qy1_11, ry1_11, _, _⟩ => ⟨.slice ay1_11 m cy1_11, he, ?_⟩)
              simp only [Act.put, List.setIfInBounds_toArray, List.set_cons_zero, List.set_cons_succ]
              have Fy1_11 := Lib.hid (show Below g0 w y1_11 ∧ Blk y1_11 g0 23 (ub kx).toArray ∧ Row y1_11 (some ⟨goz2, 0, none⟩) m (xorV ks 3 (xs.take m) m) ∧ Row y1_11 (some ⟨goz4, 0, none⟩) m (xorV ks 3 (xs.take m) m) ∧ Row y1_11 (some ⟨h1, 0, none⟩) m (strm ks 3 m) ∧ Row y1_11 ay1_11 m (strm ks 3 m) from ⟨F5.out.1.trans (qy1_11.mono (by have h1 := F5.out.1.size; have h2 := G0.out; omega)), F5.out.2.1.below qy1_11, F5.out.2.2.1.keep qy1_11, F5.out.2.2.2.1.keep qy1_11, F5.out.2.2.2.2.keep qy1_11, ry1_11⟩)
              clear qy1_11
              refine wpAny_all (rs := [20, 25]) (by kernel_rfl) (by simp) ?_
              intro i hi
              simp only [List.mem_cons, List.not_mem_nil, or_false] at hi
              rcases hi with rfl | rfl
              · refine op_val (o := ⟨some 63, _, _, _, _, _⟩) (.string (strOfNums (strm ks 3 m))) rfl rfl (run_conv_str _ _ _ _ (some ⟨h1, 0, none⟩) m m (strm ks 3 m) rfl rfl (Fy1_11.out.2.2.2.2.1)) ?_
                simp only [Act.put, List.setIfInBounds_toArray, List.set_cons_zero, List.set_cons_succ]
                refine wpAny_all (rs := [25]) (by kernel_rfl) (by simp) ?_
                intro i hi
                simp only [List.mem_cons, List.not_mem_nil, or_false] at hi
                subst hi
                refine op_val (o := ⟨some 68, _, _, _, _, _⟩) (.string (strOfNums (strm ks 3 m))) rfl rfl (run_conv_str _ _ _ _ ay1_11 m cy1_11 (strm ks 3 m) rfl rfl (Fy1_11.out.2.2.2.2.2)) ?_
                simp only [Act.put, List.setIfInBounds_toArray, List.set_cons_zero, List.set_cons_succ]
                refine wpAny_take (i := 26) (oi := ⟨some 69, _, _, _, _, _⟩) (v := (.bool true)) rfl (by kernel_rfl) (by kernel_rfl) (by kernel_rfl) (fun _ _ _ h => h) (Or.inl ⟨rfl, fun w => run_str_eql _ _ _ _ _ (strm ks 3 m) (strm ks 3 m) true rfl rfl rfl (by simp) (strm_byte HT.out _ _) (strm_byte HT.out _ _)⟩) ?_
                simp only [Act.put, List.setIfInBounds_toArray, List.set_cons_zero, List.set_cons_succ]
                refine wpAny_take (i := 27) (oi := ⟨some 70, _, _, _, _, _⟩) (v := (.bool true)) rfl (by kernel_rfl) (by kernel_rfl) (by kernel_rfl) (fun _ _ _ h => h) (Or.inl ⟨rfl, fun w => by kernel_rfl⟩) ?_
                simp only [Act.put, List.setIfInBounds_toArray, List.set_cons_zero, List.set_cons_succ]
                refine wpAny_take (i := 28) (oi := ⟨some 6, _, _, _, _, _⟩) (v := (.bool true)) rfl (by kernel_rfl) (by kernel_rfl) (by kernel_rfl) (fun _ _ _ h => h) (Or.inl ⟨rfl, fun w => by kernel_rfl⟩) ?_
                simp only [Act.put, List.setIfInBounds_toArray, List.set_cons_zero, List.set_cons_succ]
                refine wpAny_done (by kernel_rfl) ?_ _
                go_wp2_with fail
                go_ret
                exact ⟨rfl, by rw [G0.out]; exact Fy1_11.out.1⟩
              · refine op_val (o := ⟨some 68, _, _, _, _, _⟩) (.string (strOfNums (strm ks 3 m))) rfl rfl (run_conv_str _ _ _ _ ay1_11 m cy1_11 (strm ks 3 m) rfl rfl (Fy1_11.out.2.2.2.2.2)) ?_
                simp only [Act.put, List.setIfInBounds_toArray, List.set_cons_zero, List.set_cons_succ]
                refine wpAny_all (rs := [20]) (by kernel_rfl) (by simp) ?_
                intro i hi
                simp only [List.mem_cons, List.not_mem_nil, or_false] at hi
                subst hi
                refine op_val (o := ⟨some 63, _, _, _, _, _⟩) (.string (strOfNums (strm ks 3 m))) rfl rfl (run_conv_str _ _ _ _ (some ⟨h1, 0, none⟩) m m (strm ks 3 m) rfl rfl (Fy1_11.out.2.2.2.2.1)) ?_
                simp only [Act.put, List.setIfInBounds_toArray, List.set_cons_zero, List.set_cons_succ]
                refine wpAny_take (i := 26) (oi := ⟨some 69, _, _, _, _, _⟩) (v := (.bool true)) rfl (by kernel_rfl) (by kernel_rfl) (by kernel_rfl) (fun _ _ _ h => h) (Or.inl ⟨rfl, fun w => run_str_eql _ _ _ _ _ (strm ks 3 m) (strm ks 3 m) true rfl rfl rfl (by simp) (strm_byte HT.out _ _) (strm_byte HT.out _ _)⟩) ?_
                simp only [Act.put, List.setIfInBounds_toArray, List.set_cons_zero, List.set_cons_succ]
                refine wpAny_take (i := 27) (oi := ⟨some 70, _, _, _, _, _⟩) (v := (.bool true)) rfl (by kernel_rfl) (by kernel_rfl) (by kernel_rfl) (fun _ _ _ h => h) (Or.inl ⟨rfl, fun w => by kernel_rfl⟩) ?_
                simp only [Act.put, List.setIfInBounds_toArray, List.set_cons_zero, List.set_cons_succ]
                refine wpAny_take (i := 28) (oi := ⟨some 6, _, _, _, _, _⟩) (v := (.bool true)) rfl (by kernel_rfl) (by kernel_rfl) (by kernel_rfl) (fun _ _ _ h => h) (Or.inl ⟨rfl, fun w => by kernel_rfl⟩) ?_
                simp only [Act.put, List.setIfInBounds_toArray, List.set_cons_zero, List.set_cons_succ]
                refine wpAny_done (by kernel_rfl) ?_ _
                go_wp2_with fail
                go_ret
                exact ⟨rfl, by rw [G0.out]; exact Fy1_11.out.1⟩
        · refine op_val (o := ⟨some 58, _, _, _, _, _⟩) (.string (strOfNums (xorV ks 3 (xs.take m) m))) rfl rfl (run_conv_str _ _ _ _ (some ⟨goz4, 0, none⟩) m m (xorV ks 3 (xs.take m) m) rfl rfl (F5.out.2.2.2.1)) ?_
          simp only [Act.put, List.setIfInBounds_toArray, List.set_cons_zero, List.set_cons_succ]
          refine wpAny_all (rs := [13]) (by kernel_rfl) (by simp) ?_
          intro i hi
          simp only [List.mem_cons, List.not_mem_nil, or_false] at hi
          subst hi
          refine op_val (o := ⟨some 56, _, _, _, _, _⟩) (.string (strOfNums (xorV ks 3 (xs.take m) m))) rfl rfl (run_conv_str _ _ _ _ (some ⟨goz2, 0, none⟩) m n (xorV ks 3 (xs.take m) m) rfl rfl (F5.out.2.2.1)) ?_
          simp only [Act.put, List.setIfInBounds_toArray, List.set_cons_zero, List.set_cons_succ]
          refine wpAny_take (i := 16) (oi := ⟨some 59, _, _, _, _, _⟩) (v := (.bool true)) rfl (by kernel_rfl) (by kernel_rfl) (by kernel_rfl) (fun _ _ _ h => h) (Or.inl ⟨rfl, fun w => run_str_eql _ _ _ _ _ (xorV ks 3 (xs.take m) m) (xorV ks 3 (xs.take m) m) true rfl rfl rfl (by simp) (xorV_byte HT.out _ _ _ HXM.out) (xorV_byte HT.out _ _ _ HXM.out)⟩) ?_
          simp only [Act.put, List.setIfInBounds_toArray, List.set_cons_zero, List.set_cons_succ]
          refine wpAny_take (i := 17) (oi := ⟨some 60, _, _, _, _, _⟩) (v := (.bool true)) rfl (by kernel_rfl) (by kernel_rfl) (by kernel_rfl) (fun _ _ _ h => h) (Or.inl ⟨rfl, fun w => by kernel_rfl⟩) ?_
          simp only [Act.put, List.setIfInBounds_toArray, List.set_cons_zero, List.set_cons_succ]
          refine wpAny_take (i := 18) (oi := ⟨some 61, _, _, _, _, _⟩) (v := (.bool true)) rfl (by kernel_rfl) (by kernel_rfl) (by kernel_rfl) (fun _ _ _ h => h) (Or.inl ⟨rfl, fun w => by kernel_rfl⟩) ?_
          simp only [Act.put, List.setIfInBounds_toArray, List.set_cons_zero, List.set_cons_succ]
          refine wpAny_take (i := 19) (oi := ⟨some 62, _, _, _, _, _⟩) (v := (.slice (some ⟨h1, 0, none⟩) m m)) rfl (by kernel_rfl) (by kernel_rfl) (by kernel_rfl) (fun _ _ _ h => h) (Or.inl ⟨rfl, fun w => by kernel_rfl⟩) ?_
          simp only [Act.put, List.setIfInBounds_toArray, List.set_cons_zero, List.set_cons_succ]
          refine wpAny_take (i := 22) (oi := ⟨some 65, _, _, _, _, _⟩) (v := (.agg (ub [9, 0, 0, 0, 0, 0, 0, 0, 0, 0, 0, 0]).toArray)) rfl (by kernel_rfl) (by kernel_rfl) (by kernel_rfl) (fun _ _ _ h => h) (Or.inl ⟨rfl, fun w => by kernel_rfl⟩) ?_
          simp only [Act.put, List.setIfInBounds_toArray, List.set_cons_zero, List.set_cons_succ]
          refine wpAny_take (i := 23) (oi := ⟨some 66, _, _, _, _, _⟩) (v := (.int .i64 ((m : Nat) : Int))) rfl (by kernel_rfl) (by kernel_rfl) (by kernel_rfl) (fun _ _ _ h => h) (Or.inl ⟨rfl, fun w => by kernel_rfl⟩) ?_
          simp only [Act.put, List.setIfInBounds_toArray, List.set_cons_zero, List.set_cons_succ]
          refine wpAny_all (rs := [20, 21]) (by kernel_rfl) (by simp) ?_
          intro i hi
          simp only [List.mem_cons, List.not_mem_nil, or_false] at hi
          rcases hi with rfl | rfl
          · refine op_val (o := ⟨some 63, _, _, _, _, _⟩) (.string (strOfNums (strm ks 3 m))) rfl rfl (run_conv_str _ _ _ _ (some ⟨h1, 0, none⟩) m m (strm ks 3 m) rfl rfl (F5.out.2.2.2.2)) ?_
            simp only [Act.put, List.setIfInBounds_toArray, List.set_cons_zero, List.set_cons_succ]
            refine wpAny_all (rs := [21]) (by kernel_rfl) (by simp) ?_
            intro i hi
            simp only [List.mem_cons, List.not_mem_nil, or_false] at hi
            subst hi
            refine op_val (o := ⟨some 64, _, _, _, _, _⟩) (.agg (ub kx).toArray) rfl rfl (run_load_mid _ _ _ 23 _ rfl g0 0 rfl (ub kx) _ (blk_rangeC (F5.out.2.1)) Try.underlying23 rfl (by rw [HT.out.2.2.2.1]; kernel_rfl)) ?_
            simp only [Act.put, List.setIfInBounds_toArray, List.set_cons_zero, List.set_cons_succ]
            refine wpAny_all (rs := [24]) (by kernel_rfl) (by simp) ?_
            intro i hi
            simp only [List.mem_cons, List.not_mem_nil, or_false] at hi
            subst hi
            refine op_call (o := ⟨some 67, _, _, _, _, _⟩) 11 #[.agg (ub kx).toArray, .agg (ub [9, 0, 0, 0, 0, 0, 0, 0, 0, 0, 0, 0]).toArray, .int .u32 3, .int .i64 ((m : Nat) : Int)] rfl rfl (by kernel_rfl) (((refstream_two HT.out 3 (by decide) m (by have := HM.out; omega) V1.drew)).mono fun e y1_20 ⟨ay1_20, cy1_20, he, qy1_20, ry1_20, _, _⟩ => ⟨.slice ay1_20 m cy1_20, he, ?_⟩)
            simp only [Act.put, List.setIfInBounds_toArray, List.set_cons_zero, List.set_cons_succ]
            have Fy1_20 := Lib.hid (show Below g0 w y1_20 ∧ Blk y1_20 g0 23 (ub kx).toArray ∧ Row y1_20 (some ⟨goz2, 0, none⟩) m (xorV ks 3 (xs.take m) m) ∧ Row y1_20 (some ⟨goz4, 0, none⟩) m (xorV ks 3 (xs.take m) m) ∧ Row y1_20 (some ⟨h1, 0, none⟩) m (strm ks 3 m) ∧ Row y1_20 ay1_20 m (strm ks 3 m) from ⟨F5.out.1.trans (qy1_20.mono (by have h1 := F5.out.1.size; have h2 := G0.out; omega)), F5.out.2.1.below qy1_20, F5.out.2.2.1.keep qy1_20, F5.out.2.2.2.1.keep qy1_20, F5.out.2.2.2.2.keep qy1_20, ry1_20⟩)
            clear qy1_20
            refine wpAny_all (rs := [25]) (by kernel_rfl) (by simp) ?_
            intro i hi
            simp only [List.mem_cons, List.not_mem_nil, or_false] at hi
            subst hi
            refine op_val (o := ⟨some 68, _, _, _, _, _⟩) (.string (strOfNums (strm ks 3 m))) rfl rfl (run_conv_str _ _ _ _ ay1_20 m cy1_20 (strm ks 3 m) rfl rfl (Fy1_20.out.2.2.2.2.2)) ?_
            simp only [Act.put, List.setIfInBounds_toArray, List.set_cons_zero, List.set_cons_succ]
            refine wpAny_take (i := 26) (oi := ⟨some 69, _, _, _, _, _⟩) (v := (.bool true)) rfl (by kernel_rfl) (by kernel_rfl) (by kernel_rfl) (fun _ _ _ h => h) (Or.inl ⟨rfl, fun w => run_str_eql _ _ _ _ _ (strm ks 3 m) (strm ks 3 m) true rfl rfl rfl (by simp) (strm_byte HT.out _ _) (strm_byte HT.out _ _)⟩) ?_
            simp only [Act.put, List.setIfInBounds_toArray, List.set_cons_zero, List.set_cons_succ]
            refine wpAny_take (i := 27) (oi := ⟨some 70, _, _, _, _, _⟩) (v := (.bool true)) rfl (by kernel_rfl) (by kernel_rfl) (by kernel_rfl) (fun _ _ _ h => h) (Or.inl ⟨rfl, fun w => by kernel_rfl⟩) ?_
            simp only [Act.put, List.setIfInBounds_toArray, List.set_cons_zero, List.set_cons_succ]
            refine wpAny_take (i := 28) (oi := ⟨some 6, _, _, _, _, _⟩) (v := (.bool true)) rfl (by kernel_rfl) (by kernel_rfl) (by kernel_rfl) (fun _ _ _ h => h) (Or.inl ⟨rfl, fun w => by kernel_rfl⟩) ?_
            simp only [Act.put, List.setIfInBounds_toArray, List.set_cons_zero, List.set_cons_succ]
            refine wpAny_done (by kernel_rfl) ?_ _
            go_wp2_with fail
            go_ret
            exact ⟨rfl, by rw [G0.out]; exact Fy1_20.out.1⟩
          · refine op_val (o := ⟨some 64, _, _, _, _, _⟩) (.agg (ub kx).toArray) rfl rfl (run_load_mid _ _ _ 23 _ rfl g0 0 rfl (ub kx) _ (blk_rangeC (F5.out.2.1)) Try.underlying23 rfl (by rw [HT.out.2.2.2.1]; kernel_rfl)) ?_
            simp only [Act.put, List.setIfInBounds_toArray, List.set_cons_zero, List.set_cons_succ]
            refine wpAny_all (rs := [20, 24]) (by kernel_rfl) (by simp) ?_
            intro i hi
            simp only [List.mem_cons, List.not_mem_nil, or_false] at hi
            rcases hi with rfl | rfl
            · refine op_val (o := ⟨some 63, _, _, _, _, _⟩) (.string (strOfNums (strm ks 3 m))) rfl rfl (run_conv_str _ _ _ _ (some ⟨h1, 0, none⟩) m m (strm ks 3 m) rfl rfl (F5.out.2.2.2.2)) ?_
              simp only [Act.put, List.setIfInBounds_toArray, List.set_cons_zero, List.set_cons_succ]
              refine wpAny_all (rs := [24]) (by kernel_rfl) (by simp) ?_
              intro i hi
              simp only [List.mem_cons, List.not_mem_nil, or_false] at hi
              subst hi
              refine op_call (o := ⟨some 67, _, _, _, _, _⟩) 11 #[.agg (ub kx).toArray, .agg (ub [9, 0, 0, 0, 0, 0, 0, 0, 0, 0, 0, 0]).toArray, .int .u32 3, .int .i64 ((m : Nat) : Int)] rfl rfl (by kernel_rfl) (((refstream_two HT.out 3 (by decide) m (by have := HM.out; omega) V1.drew)).mono fun e y1_24 ⟨ay1_24, cy1_24, he, qy1_24, ry1_24, _, _⟩ => ⟨.slice ay1_24 m cy1_24, he, ?_⟩)
              simp only [Act.put, List.setIfInBounds_toArray, List.set_cons_zero, List.set_cons_succ]
              have Fy1_24 := Lib.hid (show Below g0 w y1_24 ∧ Blk y1_24 g0 23 (ub kx).toArray ∧ Row y1_24 (some ⟨goz2, 0, none⟩) m (xorV ks 3 (xs.take m) m) ∧ Row y1_24 (some ⟨goz4, 0, none⟩) m (xorV ks 3 (xs.take m) m) ∧ Row y1_24 (some ⟨h1, 0, none⟩) m (strm ks 3 m) ∧ Row y1_24 ay1_24 m (strm ks 3 m) from ⟨F5.out.1.trans (qy1_24.mono (by have h1 := F5.out.1.size; have h2 := G0.out; omega)), F5.out.2.1.below qy1_24, F5.out.2.2.1.keep qy1_24, F5.out.2.2.2.1.keep qy1_24, F5.out.2.2.2.2.keep qy1_24, ry1_24⟩)
              clear qy1_24
              refine wpAny_all (rs := [25]) (by kernel_rfl) (by simp) ?_
              intro i hi
              simp only [List.mem_cons, List.not_mem_nil, or_false] at hi
              subst hi
              refine op_val (o := ⟨some 68, _, _, _, _, _⟩) (.string (strOfNums (strm ks 3 m))) rfl rfl (run_conv_str _ _ _ _ ay1_24 m cy1_24 (strm ks 3 m) rfl rfl (Fy1_24.out.2.2.2.2.2)) ?_
              simp only [Act.put, List.setIfInBounds_toArray, List.set_cons_zero, List.set_cons_succ]
              refine wpAny_take (i := 26) (oi := ⟨some 69, _, _, _, _, _⟩) (v := (.bool true)) rfl (by kernel_rfl) (by kernel_rfl) (by kernel_rfl) (fun _ _ _ h => h) (Or.inl ⟨rfl, fun w => run_str_eql _ _ _ _ _ (strm ks 3 m) (strm ks 3 m) true rfl rfl rfl (by simp) (strm_byte HT.out _ _) (strm_byte HT.out _ _)⟩) ?_
              simp only [Act.put, List.setIfInBounds_toArray, List.set_cons_zero, List.set_cons_succ]
              refine wpAny_take (i := 27) (oi := ⟨some 70, _, _, _, _, _⟩) (v := (.bool true)) rfl (by kernel_rfl) (by kernel_rfl) (by kernel_rfl) (fun _ _ _ h => h) (Or.inl ⟨rfl, fun w => by kernel_rfl⟩) ?_
              simp only [Act.put, List.setIfInBounds_toArray, List.set_cons_zero, List.set_cons_succ]
              refine wpAny_take (i := 28) (oi := ⟨some 6, _, _, _, _, _⟩) (v := (.bool true)) rfl (by kernel_rfl) (by kernel_rfl) (by kernel_rfl) (fun _ _ _ h => h) (Or.inl ⟨rfl, fun w => by kernel_rfl⟩) ?_
              simp only [Act.put, List.setIfInBounds_toArray, List.set_cons_zero, List.set_cons_succ]
              refine wpAny_done (by kernel_rfl) ?_ _
              go_wp2_with fail
              go_ret
              exact ⟨rfl, by rw [G0.out]; exact Fy1_24.out.1⟩
            · refine op_call (o := ⟨some 67, _, _, _, _, _⟩) 11 #[.agg (ub kx).toArray, .agg (ub [9, 0, 0, 0, 0, 0, 0, 0, 0, 0, 0, 0]).toArray, .int .u32 3, .int .i64 ((m : Nat) : Int)] rfl rfl (by kernel_rfl) (((refstream_two HT.out 3 (by decide) m (by have := HM.out; omega) V1.drew)).mono fun e y1_26 ⟨ay1_26, cy1_26, he, qy1_26, ry1_26, _, _⟩ => ⟨.slice ay1_26 m cy1_26, he, ?_⟩)
              simp only [Act.put, List.setIfInBounds_toArray, List.set_cons_zero, List.set_cons_succ]
              have Fy1_26 := Lib.hid (show Below g0 w y1_26 ∧ Blk y1_26 g0 23 (ub kx).toArray ∧ Row y1_26 (some ⟨goz2, 0, none⟩) m (xorV ks 3 (xs.take m) m) ∧ Row y1_26 (some ⟨goz4, 0, none⟩) m (xorV ks 3 (xs.take m) m) ∧ Row y1_26 (some ⟨h1, 0, none⟩) m (strm ks 3 m) ∧ Row y1_26 ay1_26 m (strm ks 3 m) from ⟨F5.out.1.trans (qy1_26.mono (by have h1 := F5.out.1.size; have h2 := G0.out; omega)), F5.out.2.1.below qy1_26, F5.out.2.2.1.keep qy1_26, F5.out.2.2.2.1.keep qy1_26, F5.out.2.2.2.2.keep qy1_26, ry1_26⟩)
              clear qy1_26
              refine wpAny_all (rs := [20, 25]) (by kernel_rfl) (by simp) ?_
              intro i hi
              simp only [List.mem_cons, List.not_mem_nil, or_false] at hi
              rcases hi with rfl | rfl
              · refine op_val (o := ⟨some 63, _, _, _, _, _⟩) (.string (strOfNums (strm ks 3 m))) rfl rfl (run_conv_str _ _ _ _ (some ⟨h1, 0, none⟩) m m (strm ks 3 m) rfl rfl (Fy1_26.out.2.2.2.2.1)) ?_
                simp only [Act.put, List.setIfInBounds_toArray, List.set_cons_zero, List.set_cons_succ]
                refine wpAny_all (rs := [25]) (by kernel_rfl) (by simp) ?_
                intro i hi
                simp only [List.mem_cons, List.not_mem_nil, or_false] at hi
                subst hi
                refine op_val (o := ⟨some 68, _, _, _, _, _⟩) (.string (strOfNums (strm ks 3 m))) rfl rfl (run_conv_str _ _ _ _ ay1_26 m cy1_26 (strm ks 3 m) rfl rfl (Fy1_26.out.2.2.2.2.2)) ?_
                simp only [Act.put, List.setIfInBounds_toArray, List.set_cons_zero, List.set_cons_succ]
                refine wpAny_take (i := 26) (oi := ⟨some 69, _, _, _, _, _⟩) (v := (.bool true)) rfl (by kernel_rfl) (by kernel_rfl) (by kernel_rfl) (fun _ _ _ h => h) (Or.inl ⟨rfl, fun w => run_str_eql _ _ _ _ _ (strm ks 3 m) (strm ks 3 m) true rfl rfl rfl (by simp) (strm_byte HT.out _ _) (strm_byte HT.out _ _)⟩) ?_
                simp only [Act.put, List.setIfInBounds_toArray, List.set_cons_zero, List.set_cons_succ]
                refine wpAny_take (i := 27) (oi := ⟨some 70, _, _, _, _, _⟩) (v := (.bool true)) rfl (by kernel_rfl) (by kernel_rfl) (by kernel_rfl) (fun _ _ _ h => h) (Or.inl ⟨rfl, fun w => by kernel_rfl⟩) ?_
                simp only [Act.put, List.setIfInBounds_toArray, List.set_cons_zero, List.set_cons_succ]
                refine wpAny_take (i := 28) (oi := ⟨some 6, _, _, _, _, _⟩) (v := (.bool true)) rfl (by kernel_rfl) (by kernel_rfl) (by kernel_rfl) (fun _ _ _ h => h) (Or.inl ⟨rfl, fun w => by kernel_rfl⟩) ?_
                simp only [Act.put, List.setIfInBounds_toArray, List.set_cons_zero, List.set_cons_succ]
                refine wpAny_done (by kernel_rfl) ?_ _
                go_wp2_with fail
                go_ret
                exact ⟨rfl, by rw [G0.out]; exact Fy1_26.out.1⟩
              · refine op_val (o := ⟨some 68, _, _, _, _, _⟩) (.string (strOfNums (strm ks 3 m))) rfl rfl (run_conv_str _ _ _ _ ay1_26 m cy1_26 (strm ks 3 m) rfl rfl (Fy1_26.out.2.2.2.2.2)) ?_
                simp only [Act.put, List.setIfInBounds_toArray, List.set_cons_zero, List.set_cons_succ]
                refine wpAny_all (rs := [20]) (by kernel_rfl) (by simp) ?_
                intro i hi
                simp only [List.mem_cons, List.not_mem_nil, or_false] at hi
                subst hi
                refine op_val (o := ⟨some 63, _, _, _, _, _⟩) (.string (strOfNums (strm ks 3 m))) rfl rfl (run_conv_str _ _ _ _ (some ⟨h1, 0, none⟩) m m (strm ks 3 m) rfl rfl (Fy1_26.out.2.2.2.2.1)) ?_
                simp only [Act.put, List.setIfInBounds_toArray, List.set_cons_zero, List.set_cons_succ]
                refine wpAny_take (i := 26) (oi := ⟨some 69, _, _, _, _, _⟩) (v := (.bool true)) rfl (by kernel_rfl) (by kernel_rfl) (by kernel_rfl) (fun _ _ _ h => h) (Or.inl ⟨rfl, fun w => run_str_eql _ _ _ _ _ (strm ks 3 m) (strm ks 3 m) true rfl rfl rfl (by simp) (strm_byte HT.out _ _) (strm_byte HT.out _ _)⟩) ?_
                simp only [Act.put, List.setIfInBounds_toArray, List.set_cons_zero, List.set_cons_succ]
                refine wpAny_take (i := 27) (oi := ⟨some 70, _, _, _, _, _⟩) (v := (.bool true)) rfl (by kernel_rfl) (by kernel_rfl) (by kernel_rfl) (fun _ _ _ h => h) (Or.inl ⟨rfl, fun w => by kernel_rfl⟩) ?_
                simp only [Act.put, List.setIfInBounds_toArray, List.set_cons_zero, List.set_cons_succ]
                refine wpAny_take (i := 28) (oi := ⟨some 6, _, _, _, _, _⟩) (v := (.bool true)) rfl (by kernel_rfl) (by kernel_rfl) (by kernel_rfl) (fun _ _ _ h => h) (Or.inl ⟨rfl, fun w => by kernel_rfl⟩) ?_
                simp only [Act.put, List.setIfInBounds_toArray, List.set_cons_zero, List.set_cons_succ]
                refine wpAny_done (by kernel_rfl) ?_ _
                go_wp2_with fail
                go_ret
                exact ⟨rfl, by rw [G0.out]; exact Fy1_26.out.1⟩
      · refine op_val (o := ⟨some 30, _, _, _, _, _⟩) (.agg (ub kx).toArray) rfl rfl (run_load_mid _ _ _ 23 _ rfl g0 0 rfl (ub kx) _ (blk_rangeC (F4.out.2.1)) Try.underlying23 rfl (by rw [HT.out.2.2.2.1]; kernel_rfl)) ?_
        simp only [Act.put, List.setIfInBounds_toArray, List.set_cons_zero, List.set_cons_succ]
        refine wpAny_all (rs := [3]) (by kernel_rfl) (by simp) ?_
        intro i hi
        simp only [List.mem_cons, List.not_mem_nil, or_false] at hi
        subst hi
        refine op_call (o := ⟨some 29, _, _, _, _, _⟩) 9 #[.agg (ub kx).toArray, .agg (ub [9, 0, 0, 0, 0, 0, 0, 0, 0, 0, 0, 0]).toArray, .int .u32 3, .slice sp n cp] rfl rfl (by kernel_rfl) (((xor_two HT.out 3 (by decide) n cp sp xs (by have := H6.out; omega) W2.drew F4.out.2.2.1)).mono fun e z6 ⟨goz6, he, qz6, lz6, rz6⟩ => ⟨.slice (some ⟨goz6, 0, none⟩) n n, he, ?_⟩)
        simp only [Act.put, List.setIfInBounds_toArray, List.set_cons_zero, List.set_cons_succ]
        have Fz6 := Lib.hid (show Below g0 w z6 ∧ Blk z6 g0 23 (ub kx).toArray ∧ Row z6 sp n xs ∧ Row z6 sp m (xs.take m) ∧ Row z6 (some ⟨goz6, 0, none⟩) n (xorV ks 3 xs n) from ⟨F4.out.1.trans (qz6.mono (by have h1 := F4.out.1.size; have h2 := G0.out; omega)), F4.out.2.1.below qz6, F4.out.2.2.1.keep qz6, F4.out.2.2.2.keep qz6, row_of_blk rz6 (xorV_len _ _ _ _) (by have := H6.out; have := HM.out; omega) (xorV_byte HT.out _ _ _ HR.out.2.2.1)⟩)
        clear qz6
        refine wpAny_all (rs := [9]) (by kernel_rfl) (by simp) ?_
        intro i hi
        simp only [List.mem_cons, List.not_mem_nil, or_false] at hi
        subst hi
        refine op_call (o := ⟨some 35, _, _, _, _, _⟩) 9 #[.agg (ub kx).toArray, .agg (ub [9, 0, 0, 0, 0, 0, 0, 0, 0, 0, 0, 0]).toArray, .int .u32 3, .slice sp m cp] rfl rfl (by kernel_rfl) (((xor_two HT.out 3 (by decide) m cp sp (xs.take m) (by have := HM.out; omega) z6 Fz6.out.2.2.2.1)).mono fun e z7 ⟨goz7, he, qz7, lz7, rz7⟩ => ⟨.slice (some ⟨goz7, 0, none⟩) m m, he, ?_⟩)
        simp only [Act.put, List.setIfInBounds_toArray, List.set_cons_zero, List.set_cons_succ]
        have Fz7 := Lib.hid (show Below g0 w z7 ∧ Blk z7 g0 23 (ub kx).toArray ∧ Row z7 sp n xs ∧ Row z7 sp m (xs.take m) ∧ Row z7 (some ⟨goz6, 0, none⟩) n (xorV ks 3 xs n) ∧ Row z7 (some ⟨goz7, 0, none⟩) m (xorV ks 3 (xs.take m) m) from ⟨Fz6.out.1.trans (qz7.mono (by have h1 := Fz6.out.1.size; have h2 := G0.out; omega)), Fz6.out.2.1.below qz7, Fz6.out.2.2.1.keep qz7, Fz6.out.2.2.2.1.keep qz7, Fz6.out.2.2.2.2.keep qz7, row_of_blk rz7 (xorV_len _ _ _ _) (by have := H6.out; have := HM.out; omega) (xorV_byte HT.out _ _ _ HXM.out)⟩)
        clear qz7
        refine wpAny_take (i := 10) (oi := ⟨some 8, _, _, _, _, _⟩) (v := (.slice (some ⟨goz6, 0, none⟩) n n)) rfl (by kernel_rfl) (by kernel_rfl) (by kernel_rfl) (fun _ _ _ h => h) (Or.inl ⟨rfl, fun w => by kernel_rfl⟩) ?_
        simp only [Act.put, List.setIfInBounds_toArray, List.set_cons_zero, List.set_cons_succ]
        refine wpAny_take (i := 11) (oi := ⟨some 9, _, _, _, _, _⟩) (v := (.slice (some ⟨goz7, 0, none⟩) m m)) rfl (by kernel_rfl) (by kernel_rfl) (by kernel_rfl) (fun _ _ _ h => h) (Or.inl ⟨rfl, fun w => by kernel_rfl⟩) ?_
        simp only [Act.put, List.setIfInBounds_toArray, List.set_cons_zero, List.set_cons_succ]
        refine wpAny_done (by kernel_rfl) ?_ _
        have E2 : Hid (Below g0 w z7 ∧ Blk z7 g0 23 (ub kx).toArray ∧ Row z7 (some ⟨goz6, 0, none⟩) m (xorV ks 3 (xs.take m) m) ∧ Row z7 (some ⟨goz7, 0, none⟩) m (xorV ks 3 (xs.take m) m)) := Lib.hid ⟨Fz7.out.1, Fz7.out.2.1, by have h := (Fz7.out.2.2.2.2.1).take m HM.out.2.1; rw [xorV_take ks 3 n m xs HM.out.2.1] at h; exact h, Fz7.out.2.2.2.2.2⟩
        clear Fz7
        go_upto_region 5 with (fail)
        refine wp_region_lit ?_
        refine wpL_load 23 _ rfl rfl g0 0 rfl (ub kx) _ (blk_rangeC (E2.out.2.1)) Try.underlying23 rfl (by rw [HT.out.2.2.2.1]; kernel_rfl) ?_
        simp only [Act.put, List.setIfInBounds_toArray, List.set_cons_zero, List.set_cons_succ]
        refine wpL_pure (.agg (ub [9, 0, 0, 0, 0, 0, 0, 0, 0, 0, 0, 0]).toArray) rfl (by kernel_rfl) ?_
        simp only [Act.put, List.setIfInBounds_toArray, List.set_cons_zero, List.set_cons_succ]
        refine wpL_pure (.int .i64 ((m : Nat) : Int)) rfl (by kernel_rfl) ?_
        simp only [Act.put, List.setIfInBounds_toArray, List.set_cons_zero, List.set_cons_succ]
        refine wpL_call 10 #[.agg (ub kx).toArray, .agg (ub [9, 0, 0, 0, 0, 0, 0, 0, 0, 0, 0, 0]).toArray, .int .u32 3, .int .i64 ((m : Nat) : Int)] rfl (by kernel_rfl) (((stream_two HT.out 3 (by decide) m (by have := HM.out; omega) z7)).mono fun e V2 ⟨h2, he, b5, l5, r5⟩ => ⟨.tuple #[.slice (some ⟨h2, 0, none⟩) m m, .int .i64 0], he, ?_⟩)
        simp only [Act.put, List.setIfInBounds_toArray, List.set_cons_zero, List.set_cons_succ]
        have F5 : Hid (Below g0 w V2.drew ∧ Blk V2.drew g0 23 (ub kx).toArray ∧ Row V2.drew (some ⟨goz6, 0, none⟩) m (xorV ks 3 (xs.take m) m) ∧ Row V2.drew (some ⟨goz7, 0, none⟩) m (xorV ks 3 (xs.take m) m) ∧ Row V2.drew (some ⟨h2, 0, none⟩) m (strm ks 3 m)) := Lib.hid ⟨(E2.out.1.trans (b5.mono (by have := E2.out.1.size; have := G0.out; omega))).drew, E2.out.2.1.below b5.drew, E2.out.2.2.1.keep b5.drew, E2.out.2.2.2.keep b5.drew, row_of_blk r5 (strm_len _ _ _) (by have := HM.out; omega) (strm_byte HT.out _ _)⟩
        clear b5 l5 r5 E2
        refine wpL_pure (.tuple #[.slice (some ⟨h2, 0, none⟩) m m, .int .i64 0]) rfl (by kernel_rfl) ?_
        simp only [Act.put, List.setIfInBounds_toArray, List.set_cons_zero, List.set_cons_succ]
        refine wpL_pure (.slice (some ⟨h2, 0, none⟩) m m) rfl (by kernel_rfl) ?_
        simp only [Act.put, List.setIfInBounds_toArray, List.set_cons_zero, List.set_cons_succ]
        refine wpL_pure (.int .i64 0) rfl (by kernel_rfl) ?_
        simp only [Act.put, List.setIfInBounds_toArray, List.set_cons_zero, List.set_cons_succ]
        refine wpL_pure (.slice (some ⟨h2, 0, none⟩) m m) rfl (by kernel_rfl) ?_
        simp only [Act.put, List.setIfInBounds_toArray, List.set_cons_zero, List.set_cons_succ]
        refine wpL_pure (.int .i64 0) rfl (by kernel_rfl) ?_
        simp only [Act.put, List.setIfInBounds_toArray, List.set_cons_zero, List.set_cons_succ]
        go_upto_region 6 with (fail)
        refine region_any (by kernel_rfl) 29 rfl ?_
        refine wpAny_take (i := 0) (oi := ⟨some 43, _, _, _, _, _⟩) (v := (.int .i64 0)) rfl (by kernel_rfl) (by kernel_rfl) (by kernel_rfl) (fun _ _ _ h => h) (Or.inl ⟨rfl, fun w => by kernel_rfl⟩) ?_
        simp only [Act.put, List.setIfInBounds_toArray, List.set_cons_zero, List.set_cons_succ]
        refine wpAny_take (i := 1) (oi := ⟨some 44, _, _, _, _, _⟩) (v := (.bool true)) rfl (by kernel_rfl) (by kernel_rfl) (by kernel_rfl) (fun _ _ _ h => h) (Or.inl ⟨rfl, fun w => by kernel_rfl⟩) ?_
        simp only [Act.put, List.setIfInBounds_toArray, List.set_cons_zero, List.set_cons_succ]
        refine wpAny_take (i := 2) (oi := ⟨some 45, _, _, _, _, _⟩) (v := (.bool true)) rfl (by kernel_rfl) (by kernel_rfl) (by kernel_rfl) (fun _ _ _ h => h) (Or.inl ⟨rfl, fun w => by kernel_rfl⟩) ?_
        simp only [Act.put, List.setIfInBounds_toArray, List.set_cons_zero, List.set_cons_succ]
        refine wpAny_take (i := 3) (oi := ⟨some 46, _, _, _, _, _⟩) (v := (.slice (some ⟨goz6, 0, none⟩) n n)) rfl (by kernel_rfl) (by kernel_rfl) (by kernel_rfl) (fun _ _ _ h => h) (Or.inl ⟨rfl, fun w => by kernel_rfl⟩) ?_
        simp only [Act.put, List.setIfInBounds_toArray, List.set_cons_zero, List.set_cons_succ]
        refine wpAny_take (i := 4) (oi := ⟨some 47, _, _, _, _, _⟩) (v := (.int .i64 (n : Int))) rfl (by kernel_rfl) (by kernel_rfl) (by kernel_rfl) (fun _ _ _ h => h) (Or.inl ⟨rfl, fun w => by kernel_rfl⟩) ?_
        simp only [Act.put, List.setIfInBounds_toArray, List.set_cons_zero, List.set_cons_succ]
        refine wpAny_take (i := 5) (oi := ⟨some 48, _, _, _, _, _⟩) (v := (.slice sp n cp)) rfl (by kernel_rfl) (by kernel_rfl) (by kernel_rfl) (fun _ _ _ h => h) (Or.inl ⟨rfl, fun w => by kernel_rfl⟩) ?_
        simp only [Act.put, List.setIfInBounds_toArray, List.set_cons_zero, List.set_cons_succ]
        refine wpAny_take (i := 6) (oi := ⟨some 49, _, _, _, _, _⟩) (v := (.int .i64 (n : Int))) rfl (by kernel_rfl) (by kernel_rfl) (by kernel_rfl) (fun _ _ _ h => h) (Or.inl ⟨rfl, fun w => by kernel_rfl⟩) ?_
        simp only [Act.put, List.setIfInBounds_toArray, List.set_cons_zero, List.set_cons_succ]
        refine wpAny_take (i := 7) (oi := ⟨some 50, _, _, _, _, _⟩) (v := (.bool true)) rfl (by kernel_rfl) (by kernel_rfl) (by kernel_rfl) (fun _ _ _ h => h) (Or.inl ⟨rfl, fun w => run_eqi Try.underlying3 rfl rfl rfl (by rw [decide_eq_true_eq])⟩) ?_
        simp only [Act.put, List.setIfInBounds_toArray, List.set_cons_zero, List.set_cons_succ]
        refine wpAny_take (i := 8) (oi := ⟨some 51, _, _, _, _, _⟩) (v := (.bool true)) rfl (by kernel_rfl) (by kernel_rfl) (by kernel_rfl) (fun _ _ _ h => h) (Or.inl ⟨rfl, fun w => by kernel_rfl⟩) ?_
        simp only [Act.put, List.setIfInBounds_toArray, List.set_cons_zero, List.set_cons_succ]
        refine wpAny_take (i := 9) (oi := ⟨some 52, _, _, _, _, _⟩) (v := (.bool true)) rfl (by kernel_rfl) (by kernel_rfl) (by kernel_rfl) (fun _ _ _ h => h) (Or.inl ⟨rfl, fun w => by kernel_rfl⟩) ?_
        simp only [Act.put, List.setIfInBounds_toArray, List.set_cons_zero, List.set_cons_succ]
        refine wpAny_take (i := 10) (oi := ⟨some 53, _, _, _, _, _⟩) (v := (.slice (some ⟨goz6, 0, none⟩) n n)) rfl (by kernel_rfl) (by kernel_rfl) (by kernel_rfl) (fun _ _ _ h => h) (Or.inl ⟨rfl, fun w => by kernel_rfl⟩) ?_
        simp only [Act.put, List.setIfInBounds_toArray, List.set_cons_zero, List.set_cons_succ]
        refine wpAny_take (i := 11) (oi := ⟨some 54, _, _, _, _, _⟩) (v := (.int .i64 ((m : Nat) : Int))) rfl (by kernel_rfl) (by kernel_rfl) (by kernel_rfl) (fun _ _ _ h => h) (Or.inl ⟨rfl, fun w => by kernel_rfl⟩) ?_
        simp only [Act.put, List.setIfInBounds_toArray, List.set_cons_zero, List.set_cons_succ]
        refine wpAny_take (i := 12) (oi := ⟨some 55, _, _, _, _, _⟩) (v := (.slice (some ⟨goz6, 0, none⟩) m n)) rfl (by kernel_rfl) (by kernel_rfl) (by kernel_rfl) (fun _ _ _ h => h) (Or.inl ⟨rfl, fun w => run_sliceto _ _ _ _ _ (some ⟨goz6, 0, none⟩) n n m rfl rfl rfl HM.out.2.1 (fit_some (by have := H6.out; omega))⟩) ?_
        simp only [Act.put, List.setIfInBounds_toArray, List.set_cons_zero, List.set_cons_succ]
        refine wpAny_take (i := 14) (oi := ⟨some 57, _, _, _, _, _⟩) (v := (.slice (some ⟨goz7, 0, none⟩) m m)) rfl (by kernel_rfl) (by kernel_rfl) (by kernel_rfl) (fun _ _ _ h => h) (Or.inl ⟨rfl, fun w => by kernel_rfl⟩) ?_
        simp only [Act.put, List.setIfInBounds_toArray, List.set_cons_zero, List.set_cons_succ]
        refine wpAny_all (rs := [13, 15]) (by kernel_rfl) (by simp) ?_
        intro i hi
        simp only [List.mem_cons, List.not_mem_nil, or_false] at hi
        rcases hi with rfl | rfl
        · refine op_val (o := ⟨some 56, _, _, _, _, _⟩) (.string (strOfNums (xorV ks 3 (xs.take m) m))) rfl rfl (run_conv_str _ _ _ _ (some ⟨goz6, 0, none⟩) m n (xorV ks 3 (xs.take m) m) rfl rfl (F5.out.2.2.1)) ?_
          simp only [Act.put, List.setIfInBounds_toArray, List.set_cons_zero, List.set_cons_succ]
          refine wpAny_all (rs := [15]) (by kernel_rfl) (by simp) ?_
          intro i hi
          simp only [List.mem_cons, List.not_mem_nil, or_false] at hi
          subst hi
          refine op_val (o := ⟨some 58, _, _, _, _, _⟩) (.string (strOfNums (xorV ks 3 (xs.take m) m))) rfl rfl (run_conv_str _ _ _ _ (some ⟨goz7, 0, none⟩) m m (xorV ks 3 (xs.take m) m) rfl rfl (F5.out.2.2.2.1)) ?_
          simp only [Act.put, List.setIfInBounds_toArray, List.set_cons_zero, List.set_cons_succ]
          refine wpAny_take (i := 16) (oi := ⟨some 59, _, _, _, _, _⟩) (v := (.bool true)) rfl (by kernel_rfl) (by kernel_rfl) (by kernel_rfl) (fun _ _ _ h => h) (Or.inl ⟨rfl, fun w => run_str_eql _ _ _ _ _ (xorV ks 3 (xs.take m) m) (xorV ks 3 (xs.take m) m) true rfl rfl rfl (by simp) (xorV_byte HT.out _ _ _ HXM.out) (xorV_byte HT.out _ _ _ HXM.out)⟩) ?_
          simp only [Act.put, List.setIfInBounds_toArray, List.set_cons_zero, List.set_cons_succ]
          refine wpAny_take (i := 17) (oi := ⟨some 60, _, _, _, _, _⟩) (v := (.bool true)) rfl (by kernel_rfl) (by kernel_rfl) (by kernel_rfl) (fun _ _ _ h => h) (Or.inl ⟨rfl, fun w => by kernel_rfl⟩) ?_
          simp only [Act.put, List.setIfInBounds_toArray, List.set_cons_zero, List.set_cons_succ]
          refine wpAny_take (i := 18) (oi := ⟨some 61, _, _, _, _, _⟩) (v := (.bool true)) rfl (by kernel_rfl) (by kernel_rfl) (by kernel_rfl) (fun _ _ _ h => h) (Or.inl ⟨rfl, fun w => by kernel_rfl⟩) ?_
          simp only [Act.put, List.setIfInBounds_toArray, List.set_cons_zero, List.set_cons_succ]
          refine wpAny_take (i := 19) (oi := ⟨some 62, _, _, _, _, _⟩) (v := (.slice (some ⟨h2, 0, none⟩) m m)) rfl (by kernel_rfl) (by kernel_rfl) (by kernel_rfl) (fun _ _ _ h => h) (Or.inl ⟨rfl, fun w => by kernel_rfl⟩) ?_
          simp only [Act.put, List.setIfInBounds_toArray, List.set_cons_zero, List.set_cons_succ]
          refine wpAny_take (i := 22) (oi := ⟨some 65, _, _, _, _, _⟩) (v := (.agg (ub [9, 0, 0, 0, 0, 0, 0, 0, 0, 0, 0, 0]).toArray)) rfl (by kernel_rfl) (by kernel_rfl) (by kernel_rfl) (fun _ _ _ h => h) (Or.inl ⟨rfl, fun w => by kernel_rfl⟩) ?_
          simp only [Act.put, List.setIfInBounds_toArray, List.set_cons_zero, List.set_cons_succ]
          refine wpAny_take (i := 23) (oi := ⟨some 66, _, _, _, _, _⟩) (v := (.int .i64 ((m : Nat) : Int))) rfl (by kernel_rfl) (by kernel_rfl) (by kernel_rfl) (fun _ _ _ h => h) (Or.inl ⟨rfl, fun w => by kernel_rfl⟩) ?_
          simp only [Act.put, List.setIfInBounds_toArray, List.set_cons_zero, List.set_cons_succ]
          refine wpAny_all (rs := [20, 21]) (by kernel_rfl) (by simp) ?_
          intro i hi
          simp only [List.mem_cons, List.not_mem_nil, or_false] at hi
          rcases hi with rfl | rfl
          · refine op_val (o := ⟨some 63, _, _, _, _, _⟩) (.string (strOfNums (strm ks 3 m))) rfl rfl (run_conv_str _ _ _ _ (some ⟨h2, 0, none⟩) m m (strm ks 3 m) rfl rfl (F5.out.2.2.2.2)) ?_
            simp only [Act.put, List.setIfInBounds_toArray, List.set_cons_zero, List.set_cons_succ]
            refine wpAny_all (rs := [21]) (by kernel_rfl) (by simp) ?_
            intro i hi
            simp only [List.mem_cons, List.not_mem_nil, or_false] at hi
            subst hi
            refine op_val (o := ⟨some 64, _, _, _, _, _⟩) (.agg (ub kx).toArray) rfl rfl (run_load_mid _ _ _ 23 _ rfl g0 0 rfl (ub kx) _ (blk_rangeC (F5.out.2.1)) Try.underlying23 rfl (by rw [HT.out.2.2.2.1]; kernel_rfl)) ?_
            simp only [Act.put, List.setIfInBounds_toArray, List.set_cons_zero, List.set_cons_succ]
            refine wpAny_all (rs := [24]) (by kernel_rfl) (by simp) ?_
            intro i hi
            simp only [List.mem_cons, List.not_mem_nil, or_false] at hi
            subst hi
            refine op_call (o := ⟨some 67, _, _, _, _, _⟩) 11 #[.agg (ub kx).toArray, .agg (ub [9, 0, 0, 0, 0, 0, 0, 0, 0, 0, 0, 0]).toArray, .int .u32 3, .int .i64 ((m : Nat) : Int)] rfl rfl (by kernel_rfl) (((refstream_two HT.out 3 (by decide) m (by have := HM.out; omega) V2.drew)).mono fun e y2_5 ⟨ay2_5, cy2_5, he, qy2_5, ry2_5, _, _⟩ => ⟨.slice ay2_5 m cy2_5, he, ?_⟩)
            simp only [Act.put, List.setIfInBounds_toArray, List.set_cons_zero, List.set_cons_succ]
            have Fy2_5 := Lib.hid (show Below g0 w y2_5 ∧ Blk y2_5 g0 23 (ub kx).toArray ∧ Row y2_5 (some ⟨goz6, 0, none⟩) m (xorV ks 3 (xs.take m) m) ∧ Row y2_5 (some ⟨goz7, 0, none⟩) m (xorV ks 3 (xs.take m) m) ∧ Row y2_5 (some ⟨h2, 0, none⟩) m (strm ks 3 m) ∧ Row y2_5 ay2_5 m (strm ks 3 m) from ⟨F5.out.1.trans (qy2_5.mono (by have h1 := F5.out.1.size; have h2 := G0.out; omega)), F5.out.2.1.below qy2_5, F5.out.2.2.1.keep qy2_5, F5.out.2.2.2.1.keep qy2_5, F5.out.2.2.2.2.keep qy2_5, ry2_5⟩)
            clear qy2_5
            refine wpAny_all (rs := [25]) (by kernel_rfl) (by simp) ?_
            intro i hi
            simp only [List.mem_cons, List.not_mem_nil, or_false] at hi
            subst hi
            refine op_val (o := ⟨some 68, _, _, _, _, _⟩) (.string (strOfNums (strm ks 3 m))) rfl rfl (run_conv_str _ _ _ _ ay2_5 m cy2_5 (strm ks 3 m) rfl rfl (Fy2_5.out.2.2.2.2.2)) ?_
            simp only [Act.put, List.setIfInBounds_toArray, List.set_cons_zero, List.set_cons_succ]
            refine wpAny_take (i := 26) (oi := ⟨some 69, _, _, _, _, _⟩) (v := (.bool true)) rfl (by kernel_rfl) (by kernel_rfl) (by kernel_rfl) (fun _ _ _ h => h) (Or.inl ⟨rfl, fun w => run_str_eql _ _ _ _ _ (strm ks 3 m) (strm ks 3 m) true rfl rfl rfl (by simp) (strm_byte HT.out _ _) (strm_byte HT.out _ _)⟩) ?_
            simp only [Act.put, List.setIfInBounds_toArray, List.set_cons_zero, List.set_cons_succ]
            refine wpAny_take (i := 27) (oi := ⟨some 70, _, _, _, _, _⟩) (v := (.bool true)) rfl (by kernel_rfl) (by kernel_rfl) (by kernel_rfl) (fun _ _ _ h => h) (Or.inl ⟨rfl, fun w => by kernel_rfl⟩) ?_
            simp only [Act.put, List.setIfInBounds_toArray, List.set_cons_zero, List.set_cons_succ]
            refine wpAny_take (i := 28) (oi := ⟨some 6, _, _, _, _, _⟩) (v := (.bool true)) rfl (by kernel_rfl) (by kernel_rfl) (by kernel_rfl) (fun _ _ _ h => h) (Or.inl ⟨rfl, fun w => by kernel_rfl⟩) ?_
            simp only [Act.put, List.setIfInBounds_toArray, List.set_cons_zero, List.set_cons_succ]
            refine wpAny_done (by kernel_rfl) ?_ _
            go_wp2_with fail
            go_ret
            exact ⟨rfl, by rw [G0.out]; exact Fy2_5.out.1⟩
          · refine op_val (o := ⟨some 64, _, _, _, _, _⟩) (.agg (ub kx).toArray) rfl rfl (run_load_mid _ _ _ 23 _ rfl g0 0 rfl (ub kx) _ (blk_rangeC (F5.out.2.1)) Try.underlying23 rfl (by rw [HT.out.2.2.2.1]; kernel_rfl)) ?_
            simp only [Act.put, List.setIfInBounds_toArray, List.set_cons_zero, List.set_cons_succ]
            refine wpAny_all (rs := [20, 24]) (by kernel_rfl) (by simp) ?_
            intro i hi
            simp only [List.mem_cons, List.not_mem_nil, or_false] at hi
            rcases hi with rfl | rfl
            · refine op_val (o := ⟨some 63, _, _, _, _, _⟩) (.string (strOfNums (strm ks 3 m))) rfl rfl (run_conv_str _ _ _ _ (some ⟨h2, 0, none⟩) m m (strm ks 3 m) rfl rfl (F5.out.2.2.2.2)) ?_
              simp only [Act.put, List.setIfInBounds_toArray, List.set_cons_zero, List.set_cons_succ]
              refine wpAny_all (rs := [24]) (by kernel_rfl) (by simp) ?_
              intro i hi
              simp only [List.mem_cons, List.not_mem_nil, or_false] at hi
              subst hi
              refine op_call (o := ⟨some 67, _, _, _, _, _⟩) 11 #[.agg (ub kx).toArray, .agg (ub [9, 0, 0, 0, 0, 0, 0, 0, 0, 0, 0, 0]).toArray, .int .u32 3, .int .i64 ((m : Nat) : Int)] rfl rfl (by kernel_rfl) (((refstream_two HT.out 3 (by decide) m (by have := HM.out; omega) V2.drew)).mono fun e y2_9 ⟨ay2_9, cy2_9, he, qy2_9, ry2_9, _, _⟩ => ⟨.slice ay2_9 m cy2_9, he, ?_⟩)
              simp only [Act.put, List.setIfInBounds_toArray, List.set_cons_zero, List.set_cons_succ]
              have Fy2_9 := Lib.hid (show Below g0 w y2_9 ∧ Blk y2_9 g0 23 (ub kx).toArray ∧ Row y2_9 (some ⟨goz6, 0, none⟩) m (xorV ks 3 (xs.take m) m) ∧ Row y2_9 (some ⟨goz7, 0, none⟩) m (xorV ks 3 (xs.take m) m) ∧ Row y2_9 (some ⟨h2, 0, none⟩) m (strm ks 3 m) ∧ Row y2_9 ay2_9 m (strm ks 3 m) from ⟨F5.out.1.trans (qy2_9.mono (by have h1 := F5.out.1.size; have h2 := G0.out; omega)), F5.out.2.1.below qy2_9, F5.out.2.2.1.keep qy2_9, F5.out.2.2.2.1.keep qy2_9, F5.out.2.2.2.2.keep qy2_9, ry2_9⟩)
              clear qy2_9
              refine wpAny_all (rs := [25]) (by kernel_rfl) (by simp) ?_
              intro i hi
              simp only [List.mem_cons, List.not_mem_nil, or_false] at hi
              subst hi
              refine op_val (o := ⟨some 68, _, _, _, _, _⟩) (.string (strOfNums (strm ks 3 m))) rfl rfl (run_conv_str _ _ _ _ ay2_9 m cy2_9 (strm ks 3 m) rfl rfl (Fy2_9.out.2.2.2.2.2)) ?_
              simp only [Act.put, List.setIfInBounds_toArray, List.set_cons_zero, List.set_cons_succ]
              refine wpAny_take (i := 26) (oi := ⟨some 69, _, _, _, _, _⟩) (v := (.bool true)) rfl (by kernel_rfl) (by kernel_rfl) (by kernel_rfl) (fun _ _ _ h => h) (Or.inl ⟨rfl, fun w => run_str_eql _ _ _ _ _ (strm ks 3 m) (strm ks 3 m) true rfl rfl rfl (by simp) (strm_byte HT.out _ _) (strm_byte HT.out _ _)⟩) ?_
              simp only [Act.put, List.setIfInBounds_toArray, List.set_cons_zero, List.set_cons_succ]
              refine wpAny_take (i := 27) (oi := ⟨some 70, _, _, _, _, _⟩) (v := (.bool true)) rfl (by kernel_rfl) (by kernel_rfl) (by kernel_rfl) (fun _ _ _ h => h) (Or.inl ⟨rfl, fun w => by kernel_rfl⟩) ?_
              simp only [Act.put, List.setIfInBounds_toArray, List.set_cons_zero, List.set_cons_succ]
              refine wpAny_take (i := 28) (oi := ⟨some 6, _, _, _, _, _⟩) (v := (.bool true)) rfl (by kernel_rfl) (by kernel_rfl) (by kernel_rfl) (fun _ _ _ h => h) (Or.inl ⟨rfl, fun w => by kernel_rfl⟩) ?_
              simp only [Act.put, List.setIfInBounds_toArray, List.set_cons_zero, List.set_cons_succ]
              refine wpAny_done (by kernel_rfl) ?_ _
              go_wp2_with fail
              go_ret
              exact ⟨rfl, by rw [G0.out]; exact Fy2_9.out.1⟩
            · refine op_call (o := ⟨some 67, _, _, _, _, _⟩) 11 #[.agg (ub kx).toArray, .agg (ub [9, 0, 0, 0, 0, 0, 0, 0, 0, 0, 0, 0]).toArray, .int .u32 3, .int .i64 ((m : Nat) : Int)] rfl rfl (by kernel_rfl) (((refstream_two HT.out 3 (by decide) m (by have := HM.out; omega) V2.drew)).mono fun e y2_11 ⟨ay2_11, cy2_11, he, qy2_11, ry2_11, _, _⟩ => ⟨.slice ay2_11 m cy2_11, he, ?_⟩)
              simp only [Act.put, List.setIfInBounds_toArray, List.set_cons_zero, List.set_cons_succ]
              have Fy2_11 := Lib.hid (show Below g0 w y2_11 ∧ Blk y2_11 g0 23 (ub kx).toArray ∧ Row y2_11 (some ⟨goz6, 0, none⟩) m (xorV ks 3 (xs.take m) m) ∧ Row y2_11 (some ⟨goz7, 0, none⟩) m (xorV ks 3 (xs.take m) m) ∧ Row y2_11 (some ⟨h2, 0, none⟩) m (strm ks 3 m) ∧ Row y2_11 ay2_11 m (strm ks 3 m) from ⟨F5.out.1.trans (qy2_11.mono (by have h1 := F5.out.1.size; have h2 := G0.out; omega)), F5.out.2.1.below qy2_11, F5.out.2.2.1.keep qy2_11, F5.out.2.2.2.1.keep qy2_11, F5.out.2.2.2.2.keep qy2_11, ry2_11⟩)
              clear qy2_11
              refine wpAny_all (rs := [20, 25]) (by kernel_rfl) (by simp) ?_
              intro i hi
              simp only [List.mem_cons, List.not_mem_nil, or_false] at hi
              rcases hi with rfl | rfl
              · refine op_val (o := ⟨some 63, _, _, _, _, _⟩) (.string (strOfNums (strm ks 3 m))) rfl rfl (run_conv_str _ _ _ _ (some ⟨h2, 0, none⟩) m m (strm ks 3 m) rfl rfl (Fy2_11.out.2.2.2.2.1)) ?_
                simp only [Act.put, List.setIfInBounds_toArray, List.set_cons_zero, List.set_cons_succ]
                refine wpAny_all (rs := [25]) (by kernel_rfl) (by simp) ?_
                intro i hi
                simp only [List.mem_cons, List.not_mem_nil, or_false] at hi
                subst hi
                refine op_val (o := ⟨some 68, _, _, _, _, _⟩) (.string (strOfNums (strm ks 3 m))) rfl rfl (run_conv_str _ _ _ _ ay2_11 m cy2_11 (strm ks 3 m) rfl rfl (Fy2_11.out.2.2.2.2.2)) ?_
                simp only [Act.put, List.setIfInBounds_toArray, List.set_cons_zero, List.set_cons_succ]
                refine wpAny_take (i := 26) (oi := ⟨some 69, _, _, _, _, _⟩) (v := (.bool true)) rfl (by kernel_rfl) (by kernel_rfl) (by kernel_rfl) (fun _ _ _ h => h) (Or.inl ⟨rfl, fun w => run_str_eql _ _ _ _ _ (strm ks 3 m) (strm ks 3 m) true rfl rfl rfl (by simp) (strm_byte HT.out _ _) (strm_byte HT.out _ _)⟩) ?_
                simp only [Act.put, List.setIfInBounds_toArray, List.set_cons_zero, List.set_cons_succ]
                refine wpAny_take (i := 27) (oi := ⟨some 70, _, _, _, _, _⟩) (v := (.bool true)) rfl (by kernel_rfl) (by kernel_rfl) (by kernel_rfl) (fun _ _ _ h => h) (Or.inl ⟨rfl, fun w => by kernel_rfl⟩) ?_
                simp only [Act.put, List.setIfInBounds_toArray, List.set_cons_zero, List.set_cons_succ]
                refine wpAny_take (i := 28) (oi := ⟨some 6, _, _, _, _, _⟩) (v := (.bool true)) rfl (by kernel_rfl) (by kernel_rfl) (by kernel_rfl) (fun _ _ _ h => h) (Or.inl ⟨rfl, fun w => by kernel_rfl⟩) ?_
                simp only [Act.put, List.setIfInBounds_toArray, List.set_cons_zero, List.set_cons_succ]
                refine wpAny_done (by kernel_rfl) ?_ _
                go_wp2_with fail
                go_ret
                exact ⟨rfl, by rw [G0.out]; exact Fy2_11.out.1⟩
              · refine op_val (o := ⟨some 68, _, _, _, _, _⟩) (.string (strOfNums (strm ks 3 m))) rfl rfl (run_conv_str _ _ _ _ ay2_11 m cy2_11 (strm ks 3 m) rfl rfl (Fy2_11.out.2.2.2.2.2)) ?_
                simp only [Act.put, List.setIfInBounds_toArray, List.set_cons_zero, List.set_cons_succ]
                refine wpAny_all (rs := [20]) (by kernel_rfl) (by simp) ?_
                intro i hi
                simp only [List.mem_cons, List.not_mem_nil, or_false] at hi
                subst hi
                refine op_val (o := ⟨some 63, _, _, _, _, _⟩) (.string (strOfNums (strm ks 3 m))) rfl rfl (run_conv_str _ _ _ _ (some ⟨h2, 0, none⟩) m m (strm ks 3 m) rfl rfl (Fy2_11.out.2.2.2.2.1)) ?_
                simp only [Act.put, List.setIfInBounds_toArray, List.set_cons_zero, List.set_cons_succ]
                refine wpAny_take (i := 26) (oi := ⟨some 69, _, _, _, _, _⟩) (v := (.bool true)) rfl (by kernel_rfl) (by kernel_rfl) (by kernel_rfl) (fun _ _ _ h => h) (Or.inl ⟨rfl, fun w => run_str_eql _ _ _ _ _ (strm ks 3 m) (strm ks 3 m) true rfl rfl rfl (by simp) (strm_byte HT.out _ _) (strm_byte HT.out _ _)⟩) ?_
                simp only [Act.put, List.setIfInBounds_toArray, List.set_cons_zero, List.set_cons_succ]
                refine wpAny_take (i := 27) (oi := ⟨some 70, _, _, _, _, _⟩) (v := (.bool true)) rfl (by kernel_rfl) (by kernel_rfl) (by kernel_rfl) (fun _ _ _ h => h) (Or.inl ⟨rfl, fun w => by kernel_rfl⟩) ?_
                simp only [Act.put, List.setIfInBounds_toArray, List.set_cons_zero, List.set_cons_succ]
                refine wpAny_take (i := 28) (oi := ⟨some 6, _, _, _, _, _⟩) (v := (.bool true)) rfl (by kernel_rfl) (by kernel_rfl) (by kernel_rfl) (fun _ _ _ h => h) (Or.inl ⟨rfl, fun w => by kernel_rfl⟩) ?_
                simp only [Act.put, List.setIfInBounds_toArray, List.set_cons_zero, List.set_cons_succ]
                refine wpAny_done (by kernel_rfl) ?_ _
                go_wp2_with fail
                go_ret
                exact ⟨rfl, by rw [G0.out]; exact Fy2_11.out.1⟩
        · refine op_val (o := ⟨some 58, _, _, _, _, _⟩) (.string (strOfNums (xorV ks 3 (xs.take m) m))) rfl rfl (run_conv_str _ _ _ _ (some ⟨goz7, 0, none⟩) m m (xorV ks 3 (xs.take m) m) rfl rfl (F5.out.2.2.2.1)) ?_
          simp only [Act.put, List.setIfInBounds_toArray, List.set_cons_zero, List.set_cons_succ]
          refine wpAny_all (rs := [13]) (by kernel_rfl) (by simp) ?_
          intro i hi
          simp only [List.mem_cons, List.not_mem_nil, or_false] at hi
          subst hi
          refine op_val (o := ⟨some 56, _, _, _, _, _⟩) (.string (strOfNums (xorV ks 3 (xs.take m) m))) rfl rfl (run_conv_str _ _ _ _ (some ⟨goz6, 0, none⟩) m n (xorV ks 3 (xs.take m) m) rfl rfl (F5.out.2.2.1)) ?_
          simp only [Act.put, List.setIfInBounds_toArray, List.set_cons_zero, List.set_cons_succ]
          refine wpAny_take (i := 16) (oi := ⟨some 59, _, _, _, _, _⟩) (v := (.bool true)) rfl (by kernel_rfl) (by kernel_rfl) (by kernel_rfl) (fun _ _ _ h => h) (Or.inl ⟨rfl, fun w => run_str_eql _ _ _ _ _ (xorV ks 3 (xs.take m) m) (xorV ks 3 (xs.take m) m) true rfl rfl rfl (by simp) (xorV_byte HT.out _ _ _ HXM.out) (xorV_byte HT.out _ _ _ HXM.out)⟩) ?_
          simp only [Act.put, List.setIfInBounds_toArray, List.set_cons_zero, List.set_cons_succ]
          refine wpAny_take (i := 17) (oi := ⟨some 60, _, _, _, _, _⟩) (v := (.bool true)) rfl (by kernel_rfl) (by kernel_rfl) (by kernel_rfl) (fun _ _ _ h => h) (Or.inl ⟨rfl, fun w => by kernel_rfl⟩) ?_
          simp only [Act.put, List.setIfInBounds_toArray, List.set_cons_zero, List.set_cons_succ]
          refine wpAny_take (i := 18) (oi := ⟨some 61, _, _, _, _, _⟩) (v := (.bool true)) rfl (by kernel_rfl) (by kernel_rfl) (by kernel_rfl) (fun _ _ _ h => h) (Or.inl ⟨rfl, fun w => by kernel_rfl⟩) ?_
          simp only [Act.put, List.setIfInBounds_toArray, List.set_cons_zero, List.set_cons_succ]
          refine wpAny_take (i := 19) (oi := ⟨some 62, _, _, _, _, _⟩) (v := (.slice (some ⟨h2, 0, none⟩) m m)) rfl (by kernel_rfl) (by kernel_rfl) (by kernel_rfl) (fun _ _ _ h => h) (Or.inl ⟨rfl, fun w => by kernel_rfl⟩) ?_
          simp only [Act.put, List.setIfInBounds_toArray, List.set_cons_zero, List.set_cons_succ]
          refine wpAny_take (i := 22) (oi := ⟨some 65, _, _, _, _, _⟩) (v := (.agg (ub [9, 0, 0, 0, 0, 0, 0, 0, 0, 0, 0, 0]).toArray)) rfl (by kernel_rfl) (by kernel_rfl) (by kernel_rfl) (fun _ _ _ h => h) (Or.inl ⟨rfl, fun w => by kernel_rfl⟩) ?_
          simp only [Act.put, List.setIfInBounds_toArray, List.set_cons_zero, List.set_cons_succ]
          refine wpAny_take (i := 23) (oi := ⟨some 66, _, _, _, _, _⟩) (v := (.int .i64 ((m : Nat) : Int))) rfl (by kernel_rfl) (by kernel_rfl) (by kernel_rfl) (fun _ _ _ h => h) (Or.inl ⟨rfl, fun w => by kernel_rfl⟩) ?_
          simp only [Act.put, List.setIfInBounds_toArray, List.set_cons_zero, List.set_cons_succ]
          refine wpAny_all (rs := [20, 21]) (by kernel_rfl) (by simp) ?_
          intro i hi
          simp only [List.mem_cons, List.not_mem_nil, or_false] at hi
          rcases hi with rfl | rfl
          · refine op_val (o := ⟨some 63, _, _, _, _, _⟩) (.string (strOfNums (strm ks 3 m))) rfl rfl (run_conv_str _ _ _ _ (some ⟨h2, 0, none⟩) m m (strm ks 3 m) rfl rfl (F5.out.2.2.2.2)) ?_
            simp only [Act.put, List.setIfInBounds_toArray, List.set_cons_zero, List.set_cons_succ]
            refine wpAny_all (rs := [21]) (by kernel_rfl) (by simp) ?_
            intro i hi
            simp only [List.mem_cons, List.not_mem_nil, or_false] at hi
            subst hi
            refine op_val (o := ⟨some 64, _, _, _, _, _⟩) (.agg (ub kx).toArray) rfl rfl (run_load_mid _ _ _ 23 _ rfl g0 0 rfl (ub kx) _ (blk_rangeC (F5.out.2.1)) Try.underlying23 rfl (by rw [HT.out.2.2.2.1]; kernel_rfl)) ?_
            simp only [Act.put, List.setIfInBounds_toArray, List.set_cons_zero, List.set_cons_succ]
            refine wpAny_all (rs := [24]) (by kernel_rfl) (by simp) ?_
            intro i hi
            simp only [List.mem_cons, List.not_mem_nil, or_false] at hi
            subst hi
            refine op_call (o := ⟨some 67, _, _, _, _, _⟩) 11 #[.agg (ub kx).toArray, .agg (ub [9, 0, 0, 0, 0, 0, 0, 0, 0, 0, 0, 0]).toArray, .int .u32 3, .int .i64 ((m : Nat) : Int)] rfl rfl (by kernel_rfl) (((refstream_two HT.out 3 (by decide) m (by have := HM.out; omega) V2.drew)).mono fun e y2_20 ⟨ay2_20, cy2_20, he, qy2_20, ry2_20, _, _⟩ => ⟨.slice ay2_20 m cy2_20, he, ?_⟩)
            simp only [Act.put, List.setIfInBounds_toArray, List.set_cons_zero, List.set_cons_succ]
            have Fy2_20 := Lib.hid (show Below g0 w y2_20 ∧ Blk y2_20 g0 23 (ub kx).toArray ∧ Row y2_20 (some ⟨goz6, 0, none⟩) m (xorV ks 3 (xs.take m) m) ∧ Row y2_20 (some ⟨goz7, 0, none⟩) m (xorV ks 3 (xs.take m) m) ∧ Row y2_20 (some ⟨h2, 0, none⟩) m (strm ks 3 m) ∧ Row y2_20 ay2_20 m (strm ks 3 m) from ⟨F5.out.1.trans (qy2_20.mono (by have h1 := F5.out.1.size; have h2 := G0.out; omega)), F5.out.2.1.below qy2_20, F5.out.2.2.1.keep qy2_20, F5.out.2.2.2.1.keep qy2_20, F5.out.2.2.2.2.keep qy2_20, ry2_20⟩)
            clear qy2_20
            refine wpAny_all (rs := [25]) (by kernel_rfl) (by simp) ?_
            intro i hi
            simp only [List.mem_cons, List.not_mem_nil, or_false] at hi
            subst hi
            refine op_val (o := ⟨some 68, _, _, _, _, _⟩) (.string (strOfNums (strm ks 3 m))) rfl rfl (run_conv_str _ _ _ _ ay2_20 m cy2_20 (strm ks 3 m) rfl rfl (Fy2_20.out.2.2.2.2.2)) ?_
            simp only [Act.put, List.setIfInBounds_toArray, List.set_cons_zero, List.set_cons_succ]
            refine wpAny_take (i := 26) (oi := ⟨some 69, _, _, _, _, _⟩) (v := (.bool true)) rfl (by kernel_rfl) (by kernel_rfl) (by kernel_rfl) (fun _ _ _ h => h) (Or.inl ⟨rfl, fun w => run_str_eql _ _ _ _ _ (strm ks 3 m) (strm ks 3 m) true rfl rfl rfl (by simp) (strm_byte HT.out _ _) (strm_byte HT.out _ _)⟩) ?_
            simp only [Act.put, List.setIfInBounds_toArray, List.set_cons_zero, List.set_cons_succ]
            refine wpAny_take (i := 27) (oi := ⟨some 70, _, _, _, _, _⟩) (v := (.bool true)) rfl (by kernel_rfl) (by kernel_rfl) (by kernel_rfl) (fun _ _ _ h => h) (Or.inl ⟨rfl, fun w => by kernel_rfl⟩) ?_
            simp only [Act.put, List.setIfInBounds_toArray, List.set_cons_zero, List.set_cons_succ]
            refine wpAny_take (i := 28) (oi := ⟨some 6, _, _, _, _, _⟩) (v := (.bool true)) rfl (by kernel_rfl) (by kernel_rfl) (by kernel_rfl) (fun _ _ _ h => h) (Or.inl ⟨rfl, fun w => by kernel_rfl⟩) ?_
            simp only [Act.put, List.setIfInBounds_toArray, List.set_cons_zero, List.set_cons_succ]
            refine wpAny_done (by kernel_rfl) ?_ _
            go_wp2_with fail
            go_ret
            exact ⟨rfl, by rw [G0.out]; exact Fy2_20.out.1⟩
          · refine op_val (o := ⟨some 64, _, _, _, _, _⟩) (.agg (ub kx).toArray) rfl rfl (run_load_mid _ _ _ 23 _ rfl g0 0 rfl (ub kx) _ (blk_rangeC (F5.out.2.1)) Try.underlying23 rfl (by rw [HT.out.2.2.2.1]; kernel_rfl)) ?_
            simp only [Act.put, List.setIfInBounds_toArray, List.set_cons_zero, List.set_cons_succ]
            refine wpAny_all (rs := [20, 24]) (by kernel_rfl) (by simp) ?_
            intro i hi
            simp only [List.mem_cons, List.not_mem_nil, or_false] at hi
            rcases hi with rfl | rfl
            · refine op_val (o := ⟨some 63, _, _, _, _, _⟩) (.string (strOfNums (strm ks 3 m))) rfl rfl (run_conv_str _ _ _ _ (some ⟨h2, 0, none⟩) m m (strm ks 3 m) rfl rfl (F5.out.2.2.2.2)) ?_
              simp only [Act.put, List.setIfInBounds_toArray, List.set_cons_zero, List.set_cons_succ]
              refine wpAny_all (rs := [24]) (by kernel_rfl) (by simp) ?_
              intro i hi
              simp only [List.mem_cons, List.not_mem_nil, or_false] at hi
              subst hi
              refine op_call (o := ⟨some 67, _, _, _, _, _⟩) 11 #[.agg (ub kx).toArray, .agg (ub [9, 0, 0, 0, 0, 0, 0, 0, 0, 0, 0, 0]).toArray, .int .u32 3, .int .i64 ((m : Nat) : Int)] rfl rfl (by kernel_rfl) (((refstream_two HT.out 3 (by decide) m (by have := HM.out; omega) V2.drew)).mono fun e y2_24 ⟨ay2_24, cy2_24, he, qy2_24, ry2_24, _, _⟩ => ⟨.slice ay2_24 m cy2_24, he, ?_⟩)
              simp only [Act.put, List.setIfInBounds_toArray, List.set_cons_zero, List.set_cons_succ]
              have Fy2_24 := Lib.hid (show Below g0 w y2_24 ∧ Blk y2_24 g0 23 (ub kx).toArray ∧ Row y2_24 (some ⟨goz6, 0, none⟩) m (xorV ks 3 (xs.take m) m) ∧ Row y2_24 (some ⟨goz7, 0, none⟩) m (xorV ks 3 (xs.take m) m) ∧ Row y2_24 (some ⟨h2, 0, none⟩) m (strm ks 3 m) ∧ Row y2_24 ay2_24 m (strm ks 3 m) from ⟨F5.out.1.trans (qy2_24.mono (by have h1 := F5.out.1.size; have h2 := G0.out; omega)), F5.out.2.1.below qy2_24, F5.out.2.2.1.keep qy2_24, F5.out.2.2.2.1.keep qy2_24, F5.out.2.2.2.2.keep qy2_24, ry2_24⟩)
              clear qy2_24
              refine wpAny_all (rs := [25]) (by kernel_rfl) (by simp) ?_
              intro i hi
              simp only [List.mem_cons, List.not_mem_nil, or_false] at hi
              subst hi
              refine op_val (o := ⟨some 68, _, _, _, _, _⟩) (.string (strOfNums (strm ks 3 m))) rfl rfl (run_conv_str _ _ _ _ ay2_24 m cy2_24 (strm ks 3 m) rfl rfl (Fy2_24.out.2.2.2.2.2)) ?_
              simp only [Act.put, List.setIfInBounds_toArray, List.set_cons_zero, List.set_cons_succ]
              refine wpAny_take (i := 26) (oi := ⟨some 69, _, _, _, _, _⟩) (v := (.bool true)) rfl (by kernel_rfl) (by kernel_rfl) (by kernel_rfl) (fun _ _ _ h => h) (Or.inl ⟨rfl, fun w => run_str_eql _ _ _ _ _ (strm ks 3 m) (strm ks 3 m) true rfl rfl rfl (by simp) (strm_byte HT.out _ _) (strm_byte HT.out _ _)⟩) ?_
              simp only [Act.put, List.setIfInBounds_toArray, List.set_cons_zero, List.set_cons_succ]
              refine wpAny_take (i := 27) (oi := ⟨some 70, _, _, _, _, _⟩) (v := (.bool true)) rfl (by kernel_rfl) (by kernel_rfl) (by kernel_rfl) (fun _ _ _ h => h) (Or.inl ⟨rfl, fun w => by kernel_rfl⟩) ?_
              simp only [Act.put, List.setIfInBounds_toArray, List.set_cons_zero, List.set_cons_succ]
              refine wpAny_take (i := 28) (oi := ⟨some 6, _, _, _, _, _⟩) (v := (.bool true)) rfl (by kernel_rfl) (by kernel_rfl) (by kernel_rfl) (fun _ _ _ h => h) (Or.inl ⟨rfl, fun w => by kernel_rfl⟩) ?_
              simp only [Act.put, List.setIfInBounds_toArray, List.set_cons_zero, List.set_cons_succ]
              refine wpAny_done (by kernel_rfl) ?_ _
              go_wp2_with fail
              go_ret
              exact ⟨rfl, by rw [G0.out]; exact Fy2_24.out.1⟩
            · refine op_call (o := ⟨some 67, _, _, _, _, _⟩) 11 #[.agg (ub kx).toArray, .agg (ub [9, 0, 0, 0, 0, 0, 0, 0, 0, 0, 0, 0]).toArray, .int .u32 3, .int .i64 ((m : Nat) : Int)] rfl rfl (by kernel_rfl) (((refstream_two HT.out 3 (by decide) m (by have := HM.out; omega) V2.drew)).mono fun e y2_26 ⟨ay2_26, cy2_26, he, qy2_26, ry2_26, _, _⟩ => ⟨.slice ay2_26 m cy2_26, he, ?_⟩)
              simp only [Act.put, List.setIfInBounds_toArray, List.set_cons_zero, List.set_cons_succ]
              have Fy2_26 := Lib.hid (show Below g0 w y2_26 ∧ Blk y2_26 g0 23 (ub kx).toArray ∧ Row y2_26 (some ⟨goz6, 0, none⟩) m (xorV ks 3 (xs.take m) m) ∧ Row y2_26 (some ⟨goz7, 0, none⟩) m (xorV ks 3 (xs.take m) m) ∧ Row y2_26 (some ⟨h2, 0, none⟩) m (strm ks 3 m) ∧ Row y2_26 ay2_26 m (strm ks 3 m) from ⟨F5.out.1.trans (qy2_26.mono (by have h1 := F5.out.1.size; have h2 := G0.out; omega)), F5.out.2.1.below qy2_26, F5.out.2.2.1.keep qy2_26, F5.out.2.2.2.1.keep qy2_26, F5.out.2.2.2.2.keep qy2_26, ry2_26⟩)
              clear qy2_26
              refine wpAny_all (rs := [20, 25]) (by kernel_rfl) (by simp) ?_
              intro i hi
              simp only [List.mem_cons, List.not_mem_nil, or_false] at hi
              rcases hi with rfl | rfl
              · refine op_val (o := ⟨some 63, _, _, _, _, _⟩) (.string (strOfNums (strm ks 3 m))) rfl rfl (run_conv_str _ _ _ _ (some ⟨h2, 0, none⟩) m m (strm ks 3 m) rfl rfl (Fy2_26.out.2.2.2.2.1)) ?_
                simp only [Act.put, List.setIfInBounds_toArray, List.set_cons_zero, List.set_cons_succ]
                refine wpAny_all (rs := [25]) (by kernel_rfl) (by simp) ?_
                intro i hi
                simp only [List.mem_cons, List.not_mem_nil, or_false] at hi
                subst hi
                refine op_val (o := ⟨some 68, _, _, _, _, _⟩) (.string (strOfNums (strm ks 3 m))) rfl rfl (run_conv_str _ _ _ _ ay2_26 m cy2_26 (strm ks 3 m) rfl rfl (Fy2_26.out.2.2.2.2.2)) ?_
                simp only [Act.put, List.setIfInBounds_toArray, List.set_cons_zero, List.set_cons_succ]
                refine wpAny_take (i := 26) (oi := ⟨some 69, _, _, _, _, _⟩) (v := (.bool true)) rfl (by kernel_rfl) (by kernel_rfl) (by kernel_rfl) (fun _ _ _ h => h) (Or.inl ⟨rfl, fun w => run_str_eql _ _ _ _ _ (strm ks 3 m) (strm ks 3 m) true rfl rfl rfl (by simp) (strm_byte HT.out _ _) (strm_byte HT.out _ _)⟩) ?_
                simp only [Act.put, List.setIfInBounds_toArray, List.set_cons_zero, List.set_cons_succ]
                refine wpAny_take (i := 27) (oi := ⟨some 70, _, _, _, _, _⟩) (v := (.bool true)) rfl (by kernel_rfl) (by kernel_rfl) (by kernel_rfl) (fun _ _ _ h => h) (Or.inl ⟨rfl, fun w => by kernel_rfl⟩) ?_
                simp only [Act.put, List.setIfInBounds_toArray, List.set_cons_zero, List.set_cons_succ]
                refine wpAny_take (i := 28) (oi := ⟨some 6, _, _, _, _, _⟩) (v := (.bool true)) rfl (by kernel_rfl) (by kernel_rfl) (by kernel_rfl) (fun _ _ _ h => h) (Or.inl ⟨rfl, fun w => by kernel_rfl⟩) ?_
                simp only [Act.put, List.setIfInBounds_toArray, List.set_cons_zero, List.set_cons_succ]
                refine wpAny_done (by kernel_rfl) ?_ _
                go_wp2_with fail
                go_ret
                exact ⟨rfl, by rw [G0.out]; exact Fy2_26.out.1⟩
              · refine op_val (o := ⟨some 68, _, _, _, _, _⟩) (.string (strOfNums (strm ks 3 m))) rfl rfl (run_conv_str _ _ _ _ ay2_26 m cy2_26 (strm ks 3 m) rfl rfl (Fy2_26.out.2.2.2.2.2)) ?_
                simp only [Act.put, List.setIfInBounds_toArray, List.set_cons_zero, List.set_cons_succ]
                refine wpAny_all (rs := [20]) (by kernel_rfl) (by simp) ?_
                intro i hi
                simp only [List.mem_cons, List.not_mem_nil, or_false] at hi
                subst hi
                refine op_val (o := ⟨some 63, _, _, _, _, _⟩) (.string (strOfNums (strm ks 3 m))) rfl rfl (run_conv_str _ _ _ _ (some ⟨h2, 0, none⟩) m m (strm ks 3 m) rfl rfl (Fy2_26.out.2.2.2.2.1)) ?_
                simp only [Act.put, List.setIfInBounds_toArray, List.set_cons_zero, List.set_cons_succ]
                refine wpAny_take (i := 26) (oi := ⟨some 69, _, _, _, _, _⟩) (v := (.bool true)) rfl (by kernel_rfl) (by kernel_rfl) (by kernel_rfl) (fun _ _ _ h => h) (Or.inl ⟨rfl, fun w => run_str_eql _ _ _ _ _ (strm ks 3 m) (strm ks 3 m) true rfl rfl rfl (by simp) (strm_byte HT.out _ _) (strm_byte HT.out _ _)⟩) ?_
                simp only [Act.put, List.setIfInBounds_toArray, List.set_cons_zero, List.set_cons_succ]
                refine wpAny_take (i := 27) (oi := ⟨some 70, _, _, _, _, _⟩) (v := (.bool true)) rfl (by kernel_rfl) (by kernel_rfl) (by kernel_rfl) (fun _ _ _ h => h) (Or.inl ⟨rfl, fun w => by kernel_rfl⟩) ?_
                simp only [Act.put, List.setIfInBounds_toArray, List.set_cons_zero, List.set_cons_succ]
                refine wpAny_take (i := 28) (oi := ⟨some 6, _, _, _, _, _⟩) (v := (.bool true)) rfl (by kernel_rfl) (by kernel_rfl) (by kernel_rfl) (fun _ _ _ h => h) (Or.inl ⟨rfl, fun w => by kernel_rfl⟩) ?_
                simp only [Act.put, List.setIfInBounds_toArray, List.set_cons_zero, List.set_cons_succ]
                refine wpAny_done (by kernel_rfl) ?_ _
                go_wp2_with fail
                go_ret
                exact ⟨rfl, by rw [G0.out]; exact Fy2_26.out.1⟩
    · refine op_val (o := ⟨some 30, _, _, _, _, _⟩) (.agg (ub kx).toArray) rfl rfl (run_load_mid _ _ _ 23 _ rfl g0 0 rfl (ub kx) _ (blk_rangeC (F4.out.2.1)) Try.underlying23 rfl (by rw [HT.out.2.2.2.1]; kernel_rfl)) ?_
      simp only [Act.put, List.setIfInBounds_toArray, List.set_cons_zero, List.set_cons_succ]
      refine wpAny_all (rs := [0]) (by kernel_rfl) (by simp) ?_
      intro i hi
      simp only [List.mem_cons, List.not_mem_nil, or_false] at hi
      subst hi
      refine op_val (o := ⟨some 26, _, _, _, _, _⟩) (.agg (ub kx).toArray) rfl rfl (run_load_mid _ _ _ 23 _ rfl g0 0 rfl (ub kx) _ (blk_rangeC (F4.out.2.1)) Try.underlying23 rfl (by rw [HT.out.2.2.2.1]; kernel_rfl)) ?_
      simp only [Act.put, List.setIfInBounds_toArray, List.set_cons_zero, List.set_cons_succ]
      refine wpAny_all (rs := [3]) (by kernel_rfl) (by simp) ?_
      intro i hi
      simp only [List.mem_cons, List.not_mem_nil, or_false] at hi
      subst hi
      refine op_call (o := ⟨some 29, _, _, _, _, _⟩) 9 #[.agg (ub kx).toArray, .agg (ub [9, 0, 0, 0, 0, 0, 0, 0, 0, 0, 0, 0]).toArray, .int .u32 3, .slice sp n cp] rfl rfl (by kernel_rfl) (((xor_two HT.out 3 (by decide) n cp sp xs (by have := H6.out; omega) W2.drew F4.out.2.2.1)).mono fun e z10 ⟨goz10, he, qz10, lz10, rz10⟩ => ⟨.slice (some ⟨goz10, 0, none⟩) n n, he, ?_⟩)
      simp only [Act.put, List.setIfInBounds_toArray, List.set_cons_zero, List.set_cons_succ]
      have Fz10 := Lib.hid (show Below g0 w z10 ∧ Blk z10 g0 23 (ub kx).toArray ∧ Row z10 sp n xs ∧ Row z10 sp m (xs.take m) ∧ Row z10 (some ⟨goz10, 0, none⟩) n (xorV ks 3 xs n) from ⟨F4.out.1.trans (qz10.mono (by have h1 := F4.out.1.size; have h2 := G0.out; omega)), F4.out.2.1.below qz10, F4.out.2.2.1.keep qz10, F4.out.2.2.2.keep qz10, row_of_blk rz10 (xorV_len _ _ _ _) (by have := H6.out; have := HM.out; omega) (xorV_byte HT.out _ _ _ HR.out.2.2.1)⟩)
      clear qz10
      refine wpAny_all (rs := [9]) (by kernel_rfl) (by simp) ?_
      intro i hi
      simp only [List.mem_cons, List.not_mem_nil, or_false] at hi
      subst hi
      refine op_call (o := ⟨some 35, _, _, _, _, _⟩) 9 #[.agg (ub kx).toArray, .agg (ub [9, 0, 0, 0, 0, 0, 0, 0, 0, 0, 0, 0]).toArray, .int .u32 3, .slice sp m cp] rfl rfl (by kernel_rfl) (((xor_two HT.out 3 (by decide) m cp sp (xs.take m) (by have := HM.out; omega) z10 Fz10.out.2.2.2.1)).mono fun e z11 ⟨goz11, he, qz11, lz11, rz11⟩ => ⟨.slice (some ⟨goz11, 0, none⟩) m m, he, ?_⟩)
      simp only [Act.put, List.setIfInBounds_toArray, List.set_cons_zero, List.set_cons_succ]
      have Fz11 := Lib.hid (show Below g0 w z11 ∧ Blk z11 g0 23 (ub kx).toArray ∧ Row z11 sp n xs ∧ Row z11 sp m (xs.take m) ∧ Row z11 (some ⟨goz10, 0, none⟩) n (xorV ks 3 xs n) ∧ Row z11 (some ⟨goz11, 0, none⟩) m (xorV ks 3 (xs.take m) m) from ⟨Fz10.out.1.trans (qz11.mono (by have h1 := Fz10.out.1.size; have h2 := G0.out; omega)), Fz10.out.2.1.below qz11, Fz10.out.2.2.1.keep qz11, Fz10.out.2.2.2.1.keep qz11, Fz10.out.2.2.2.2.keep qz11, row_of_blk rz11 (xorV_len _ _ _ _) (by have := H6.out; have := HM.out; omega) (xorV_byte HT.out _ _ _ HXM.out)⟩)
      clear qz11
      refine wpAny_take (i := 10) (oi := ⟨some 8, _, _, _, _, _⟩) (v := (.slice (some ⟨goz10, 0, none⟩) n n)) rfl (by kernel_rfl) (by kernel_rfl) (by kernel_rfl) (fun _ _ _ h => h) (Or.inl ⟨rfl, fun w => by kernel_rfl⟩) ?_
      simp only [Act.put, List.setIfInBounds_toArray, List.set_cons_zero, List.set_cons_succ]
      refine wpAny_take (i := 11) (oi := ⟨some 9, _, _, _, _, _⟩) (v := (.slice (some ⟨goz11, 0, none⟩) m m)) rfl (by kernel_rfl) (by kernel_rfl) (by kernel_rfl) (fun _ _ _ h => h) (Or.inl ⟨rfl, fun w => by kernel_rfl⟩) ?_
      simp only [Act.put, List.setIfInBounds_toArray, List.set_cons_zero, List.set_cons_succ]
      refine wpAny_done (by kernel_rfl) ?_ _
      have E3 : Hid (Below g0 w z11 ∧ Blk z11 g0 23 (ub kx).toArray ∧ Row z11 (some ⟨goz10, 0, none⟩) m (xorV ks 3 (xs.take m) m) ∧ Row z11 (some ⟨goz11, 0, none⟩) m (xorV ks 3 (xs.take m) m)) := Lib.hid ⟨Fz11.out.1, Fz11.out.2.1, by have h := (Fz11.out.2.2.2.2.1).take m HM.out.2.1; rw [xorV_take ks 3 n m xs HM.out.2.1] at h; exact h, Fz11.out.2.2.2.2.2⟩
      clear Fz11
      go_upto_region 5 with (fail)
      refine wp_region_lit ?_
      refine wpL_load 23 _ rfl rfl g0 0 rfl (ub kx) _ (blk_rangeC (E3.out.2.1)) Try.underlying23 rfl (by rw [HT.out.2.2.2.1]; kernel_rfl) ?_
      simp only [Act.put, List.setIfInBounds_toArray, List.set_cons_zero, List.set_cons_succ]
      refine wpL_pure (.agg (ub [9, 0, 0, 0, 0, 0, 0, 0, 0, 0, 0, 0]).toArray) rfl (by kernel_rfl) ?_
      simp only [Act.put, List.setIfInBounds_toArray, List.set_cons_zero, List.set_cons_succ]
      refine wpL_pure (.int .i64 ((m : Nat) : Int)) rfl (by kernel_rfl) ?_
      simp only [Act.put, List.setIfInBounds_toArray, List.set_cons_zero, List.set_cons_succ]
      refine wpL_call 10 #[.agg (ub kx).toArray, .agg (ub [9, 0, 0, 0, 0, 0, 0, 0, 0, 0, 0, 0]).toArray, .int .u32 3, .int .i64 ((m : Nat) : Int)] rfl (by kernel_rfl) (((stream_two HT.out 3 (by decide) m (by have := HM.out; omega) z11)).mono fun e V3 ⟨h3, he, b5, l5, r5⟩ => ⟨.tuple #[.slice (some ⟨h3, 0, none⟩) m m, .int .i64 0], he, ?_⟩)
      simp only [Act.put, List.setIfInBounds_toArray, List.set_cons_zero, List.set_cons_succ]
      have F5 : Hid (Below g0 w V3.drew ∧ Blk V3.drew g0 23 (ub kx).toArray ∧ Row V3.drew (some ⟨goz10, 0, none⟩) m (xorV ks 3 (xs.take m) m) ∧ Row V3.drew (some ⟨goz11, 0, none⟩) m (xorV ks 3 (xs.take m) m) ∧ Row V3.drew (some ⟨h3, 0, none⟩) m (strm ks 3 m)) := Lib.hid ⟨(E3.out.1.trans (b5.mono (by have := E3.out.1.size; have := G0.out; omega))).drew, E3.out.2.1.below b5.drew, E3.out.2.2.1.keep b5.drew, E3.out.2.2.2.keep b5.drew, row_of_blk r5 (strm_len _ _ _) (by have := HM.out; omega) (strm_byte HT.out _ _)⟩
      clear b5 l5 r5 E3
      refine wpL_pure (.tuple #[.slice (some ⟨h3, 0, none⟩) m m, .int .i64 0]) rfl (by kernel_rfl) ?_
      simp only [Act.put, List.setIfInBounds_toArray, List.set_cons_zero, List.set_cons_succ]
      refine wpL_pure (.slice (some ⟨h3, 0, none⟩) m m) rfl (by kernel_rfl) ?_
      simp only [Act.put, List.setIfInBounds_toArray, List.set_cons_zero, List.set_cons_succ]
      refine wpL_pure (.int .i64 0) rfl (by kernel_rfl) ?_
      simp only [Act.put, List.setIfInBounds_toArray, List.set_cons_zero, List.set_cons_succ]
      refine wpL_pure (.slice (some ⟨h3, 0, none⟩) m m) rfl (by kernel_rfl) ?_
      simp only [Act.put, List.setIfInBounds_toArray, List.set_cons_zero, List.set_cons_succ]
      refine wpL_pure (.int .i64 0) rfl (by kernel_rfl) ?_
      simp only [Act.put, List.setIfInBounds_toArray, List.set_cons_zero, List.set_cons_succ]
      go_upto_region 6 with (fail)
      refine region_any (by kernel_rfl) 29 rfl ?_
      refine wpAny_take (i := 0) (oi := ⟨some 43, _, _, _, _, _⟩) (v := (.int .i64 0)) rfl (by kernel_rfl) (by kernel_rfl) (by kernel_rfl) (fun _ _ _ h => h) (Or.inl ⟨rfl, fun w => by kernel_rfl⟩) ?_
      simp only [Act.put, List.setIfInBounds_toArray, List.set_cons_zero, List.set_cons_succ]
      refine wpAny_take (i := 1) (oi := ⟨some 44, _, _, _, _, _⟩) (v := (.bool true)) rfl (by kernel_rfl) (by kernel_rfl) (by kernel_rfl) (fun _ _ _ h => h) (Or.inl ⟨rfl, fun w => by kernel_rfl⟩) ?_
      simp only [Act.put, List.setIfInBounds_toArray, List.set_cons_zero, List.set_cons_succ]
      refine wpAny_take (i := 2) (oi := ⟨some 45, _, _, _, _, _⟩) (v := (.bool true)) rfl (by kernel_rfl) (by kernel_rfl) (by kernel_rfl) (fun _ _ _ h => h) (Or.inl ⟨rfl, fun w => by kernel_rfl⟩) ?_
      simp only [Act.put, List.setIfInBounds_toArray, List.set_cons_zero, List.set_cons_succ]
      refine wpAny_take (i := 3) (oi := ⟨some 46, _, _, _, _, _⟩) (v := (.slice (some ⟨goz10, 0, none⟩) n n)) rfl (by kernel_rfl) (by kernel_rfl) (by kernel_rfl) (fun _ _ _ h => h) (Or.inl ⟨rfl, fun w => by kernel_rfl⟩) ?_
      simp only [Act.put, List.setIfInBounds_toArray, List.set_cons_zero, List.set_cons_succ]
      refine wpAny_take (i := 4) (oi := ⟨some 47, _, _, _, _, _⟩) (v := (.int .i64 (n : Int))) rfl (by kernel_rfl) (by kernel_rfl) (by kernel_rfl) (fun _ _ _ h => h) (Or.inl ⟨rfl, fun w => by kernel_rfl⟩) ?_
      simp only [Act.put, List.setIfInBounds_toArray, List.set_cons_zero, List.set_cons_succ]
      refine wpAny_take (i := 5) (oi := ⟨some 48, _, _, _, _, _⟩) (v := (.slice sp n cp)) rfl (by kernel_rfl) (by kernel_rfl) (by kernel_rfl) (fun _ _ _ h => h) (Or.inl ⟨rfl, fun w => by kernel_rfl⟩) ?_
      simp only [Act.put, List.setIfInBounds_toArray, List.set_cons_zero, List.set_cons_succ]
      refine wpAny_take (i := 6) (oi := ⟨some 49, _, _, _, _, _⟩) (v := (.int .i64 (n : Int))) rfl (by kernel_rfl) (by kernel_rfl) (by kernel_rfl) (fun _ _ _ h => h) (Or.inl ⟨rfl, fun w => by kernel_rfl⟩) ?_
      simp only [Act.put, List.setIfInBounds_toArray, List.set_cons_zero, List.set_cons_succ]
      refine wpAny_take (i := 7) (oi := ⟨some 50, _, _, _, _, _⟩) (v := (.bool true)) rfl (by kernel_rfl) (by kernel_rfl) (by kernel_rfl) (fun _ _ _ h => h) (Or.inl ⟨rfl, fun w => run_eqi Try.underlying3 rfl rfl rfl (by rw [decide_eq_true_eq])⟩) ?_
      simp only [Act.put, List.setIfInBounds_toArray, List.set_cons_zero, List.set_cons_succ]
      refine wpAny_take (i := 8) (oi := ⟨some 51, _, _, _, _, _⟩) (v := (.bool true)) rfl (by kernel_rfl) (by kernel_rfl) (by kernel_rfl) (fun _ _ _ h => h) (Or.inl ⟨rfl, fun w => by kernel_rfl⟩) ?_
      simp only [Act.put, List.setIfInBounds_toArray, List.set_cons_zero, List.set_cons_succ]
      refine wpAny_take (i := 9) (oi := ⟨some 52, _, _, _, _, _⟩) (v := (.bool true)) rfl (by kernel_rfl) (by kernel_rfl) (by kernel_rfl) (fun _ _ _ h => h) (Or.inl ⟨rfl, fun w => by kernel_rfl⟩) ?_
      simp only [Act.put, List.setIfInBounds_toArray, List.set_cons_zero, List.set_cons_succ]
      refine wpAny_take (i := 10) (oi := ⟨some 53, _, _, _, _, _⟩) (v := (.slice (some ⟨goz10, 0, none⟩) n n)) rfl (by kernel_rfl) (by kernel_rfl) (by kernel_rfl) (fun _ _ _ h => h) (Or.inl ⟨rfl, fun w => by kernel_rfl⟩) ?_
      simp only [Act.put, List.setIfInBounds_toArray, List.set_cons_zero, List.set_cons_succ]
      refine wpAny_take (i := 11) (oi := ⟨some 54, _, _, _, _, _⟩) (v := (.int .i64 ((m : Nat) : Int))) rfl (by kernel_rfl) (by kernel_rfl) (by kernel_rfl) (fun _ _ _ h => h) (Or.inl ⟨rfl, fun w => by kernel_rfl⟩) ?_
      simp only [Act.put, List.setIfInBounds_toArray, List.set_cons_zero, List.set_cons_succ]
      refine wpAny_take (i := 12) (oi := ⟨some 55, _, _, _, _, _⟩) (v := (.slice (some ⟨goz10, 0, none⟩) m n)) rfl (by kernel_rfl) (by kernel_rfl) (by kernel_rfl) (fun _ _ _ h => h) (Or.inl ⟨rfl, fun w => run_sliceto _ _ _ _ _ (some ⟨goz10, 0, none⟩) n n m rfl rfl rfl HM.out.2.1 (fit_some (by have := H6.out; omega))⟩) ?_
      simp only [Act.put, List.setIfInBounds_toArray, List.set_cons_zero, List.set_cons_succ]
      refine wpAny_take (i := 14) (oi := ⟨some 57, _, _, _, _, _⟩) (v := (.slice (some ⟨goz11, 0, none⟩) m m)) rfl (by kernel_rfl) (by kernel_rfl) (by kernel_rfl) (fun _ _ _ h => h) (Or.inl ⟨rfl, fun w => by kernel_rfl⟩) ?_
      simp only [Act.put, List.setIfInBounds_toArray, List.set_cons_zero, List.set_cons_succ]
      refine wpAny_all (rs := [13, 15]) (by kernel_rfl) (by simp) ?_
      intro i hi
      simp only [List.mem_cons, List.not_mem_nil, or_false] at hi
      rcases hi with rfl | rfl
      · refine op_val (o := ⟨some 56, _, _, _, _, _⟩) (.string (strOfNums (xorV ks 3 (xs.take m) m))) rfl rfl (run_conv_str _ _ _ _ (some ⟨goz10, 0, none⟩) m n (xorV ks 3 (xs.take m) m) rfl rfl (F5.out.2.2.1)) ?_
        simp only [Act.put, List.setIfInBounds_toArray, List.set_cons_zero, List.set_cons_succ]
        refine wpAny_all (rs := [15]) (by kernel_rfl) (by simp) ?_
        intro i hi
        simp only [List.mem_cons, List.not_mem_nil, or_false] at hi
        subst hi
        refine op_val (o := ⟨some 58, _, _, _, _, _⟩) (.string (strOfNums (xorV ks 3 (xs.take m) m))) rfl rfl (run_conv_str _ _ _ _ (some ⟨goz11, 0, none⟩) m m (xorV ks 3 (xs.take m) m) rfl rfl (F5.out.2.2.2.1)) ?_
        simp only [Act.put, List.setIfInBounds_toArray, List.set_cons_zero, List.set_cons_succ]
        refine wpAny_take (i := 16) (oi := ⟨some 59, _, _, _, _, _⟩) (v := (.bool true)) rfl (by kernel_rfl) (by kernel_rfl) (by kernel_rfl) (fun _ _ _ h => h) (Or.inl ⟨rfl, fun w => run_str_eql _ _ _ _ _ (xorV ks 3 (xs.take m) m) (xorV ks 3 (xs.take m) m) true rfl rfl rfl (by simp) (xorV_byte HT.out _ _ _ HXM.out) (xorV_byte HT.out _ _ _ HXM.out)⟩) ?_
        simp only [Act.put, List.setIfInBounds_toArray, List.set_cons_zero, List.set_cons_succ]
        refine wpAny_take (i := 17) (oi := ⟨some 60, _, _, _, _, _⟩) (v := (.bool true)) rfl (by kernel_rfl) (by kernel_rfl) (by kernel_rfl) (fun _ _ _ h => h) (Or.inl ⟨rfl, fun w => by kernel_rfl⟩) ?_
        simp only [Act.put, List.setIfInBounds_toArray, List.set_cons_zero, List.set_cons_succ]
        refine wpAny_take (i := 18) (oi := ⟨some 61, _, _, _, _, _⟩) (v := (.bool true)) rfl (by kernel_rfl) (by kernel_rfl) (by kernel_rfl) (fun _ _ _ h => h) (Or.inl ⟨rfl, fun w => by kernel_rfl⟩) ?_
        simp only [Act.put, List.setIfInBounds_toArray, List.set_cons_zero, List.set_cons_succ]
        refine wpAny_take (i := 19) (oi := ⟨some 62, _, _, _, _, _⟩) (v := (.slice (some ⟨h3, 0, none⟩) m m)) rfl (by kernel_rfl) (by kernel_rfl) (by kernel_rfl) (fun _ _ _ h => h) (Or.inl ⟨rfl, fun w => by kernel_rfl⟩) ?_
        simp only [Act.put, List.setIfInBounds_toArray, List.set_cons_zero, List.set_cons_succ]
        refine wpAny_take (i := 22) (oi := ⟨some 65, _, _, _, _, _⟩) (v := (.agg (ub [9, 0, 0, 0, 0, 0, 0, 0, 0, 0, 0, 0]).toArray)) rfl (by kernel_rfl) (by kernel_rfl) (by kernel_rfl) (fun _ _ _ h => h) (Or.inl ⟨rfl, fun w => by kernel_rfl⟩) ?_
        simp only [Act.put, List.setIfInBounds_toArray, List.set_cons_zero, List.set_cons_succ]
        refine wpAny_take (i := 23) (oi := ⟨some 66, _, _, _, _, _⟩) (v := (.int .i64 ((m : Nat) : Int))) rfl (by kernel_rfl) (by kernel_rfl) (by kernel_rfl) (fun _ _ _ h => h) (Or.inl ⟨rfl, fun w => by kernel_rfl⟩) ?_
        simp only [Act.put, List.setIfInBounds_toArray, List.set_cons_zero, List.set_cons_succ]
        refine wpAny_all (rs := [20, 21]) (by kernel_rfl) (by simp) ?_
        intro i hi
        simp only [List.mem_cons, List.not_mem_nil, or_false] at hi
        rcases hi with rfl | rfl
        · refine op_val (o := ⟨some 63, _, _, _, _, _⟩) (.string (strOfNums (strm ks 3 m))) rfl rfl (run_conv_str _ _ _ _ (some ⟨h3, 0, none⟩) m m (strm ks 3 m) rfl rfl (F5.out.2.2.2.2)) ?_
          simp only [Act.put, List.setIfInBounds_toArray, List.set_cons_zero, List.set_cons_succ]
          refine wpAny_all (rs := [21]) (by kernel_rfl) (by simp) ?_
          intro i hi
          simp only [List.mem_cons, List.not_mem_nil, or_false] at hi
          subst hi
          refine op_val (o := ⟨some 64, _, _, _, _, _⟩) (.agg (ub kx).toArray) rfl rfl (run_load_mid _ _ _ 23 _ rfl g0 0 rfl (ub kx) _ (blk_rangeC (F5.out.2.1)) Try.underlying23 rfl (by rw [HT.out.2.2.2.1]; kernel_rfl)) ?_
          simp only [Act.put, List.setIfInBounds_toArray, List.set_cons_zero, List.set_cons_succ]
          refine wpAny_all (rs := [24]) (by kernel_rfl) (by simp) ?_
          intro i hi
          simp only [List.mem_cons, List.not_mem_nil, or_false] at hi
          subst hi
          refine op_call (o := ⟨some 67, _, _, _, _, _⟩) 11 #[.agg (ub kx).toArray, .agg (ub [9, 0, 0, 0, 0, 0, 0, 0, 0, 0, 0, 0]).toArray, .int .u32 3, .int .i64 ((m : Nat) : Int)] rfl rfl (by kernel_rfl) (((refstream_two HT.out 3 (by decide) m (by have := HM.out; omega) V3.drew)).mono fun e y3_5 ⟨ay3_5, cy3_5, he, qy3_5, ry3_5, _, _⟩ => ⟨.slice ay3_5 m cy3_5, he, ?_⟩)
          simp only [Act.put, List.setIfInBounds_toArray, List.set_cons_zero, List.set_cons_succ]
          have Fy3_5 := Lib.hid (show Below g0 w y3_5 ∧ Blk y3_5 g0 23 (ub kx).toArray ∧ Row y3_5 (some ⟨goz10, 0, none⟩) m (xorV ks 3 (xs.take m) m) ∧ Row y3_5 (some ⟨goz11, 0, none⟩) m (xorV ks 3 (xs.take m) m) ∧ Row y3_5 (some ⟨h3, 0, none⟩) m (strm ks 3 m) ∧ Row y3_5 ay3_5 m (strm ks 3 m) from ⟨F5.out.1.trans (qy3_5.mono (by have h1 := F5.out.1.size; have h2 := G0.out; omega)), F5.out.2.1.below qy3_5, F5.out.2.2.1.keep qy3_5, F5.out.2.2.2.1.keep qy3_5, F5.out.2.2.2.2.keep qy3_5, ry3_5⟩)
          clear qy3_5
          refine wpAny_all (rs := [25]) (by kernel_rfl) (by simp) ?_
          intro i hi
          simp only [List.mem_cons, List.not_mem_nil, or_false] at hi
          subst hi
          refine op_val (o := ⟨some 68, _, _, _, _, _⟩) (.string (strOfNums (strm ks 3 m))) rfl rfl (run_conv_str _ _ _ _ ay3_5 m cy3_5 (strm ks 3 m) rfl rfl (Fy3_5.out.2.2.2.2.2)) ?_
          simp only [Act.put, List.setIfInBounds_toArray, List.set_cons_zero, List.set_cons_succ]
          refine wpAny_take (i := 26) (oi := ⟨some 69, _, _, _, _, _⟩) (v := (.bool true)) rfl (by kernel_rfl) (by kernel_rfl) (by kernel_rfl) (fun _ _ _ h => h) (Or.inl ⟨rfl, fun w => run_str_eql _ _ _ _ _ (strm ks 3 m) (strm ks 3 m) true rfl rfl rfl (by simp) (strm_byte HT.out _ _) (strm_byte HT.out _ _)⟩) ?_
          simp only [Act.put, List.setIfInBounds_toArray, List.set_cons_zero, List.set_cons_succ]
          refine wpAny_take (i := 27) (oi := ⟨some 70, _, _, _, _, _⟩) (v := (.bool true)) rfl (by kernel_rfl) (by kernel_rfl) (by kernel_rfl) (fun _ _ _ h => h) (Or.inl ⟨rfl, fun w => by kernel_rfl⟩) ?_
          simp only [Act.put, List.setIfInBounds_toArray, List.set_cons_zero, List.set_cons_succ]
          refine wpAny_take (i := 28) (oi := ⟨some 6, _, _, _, _, _⟩) (v := (.bool true)) rfl (by kernel_rfl) (by kernel_rfl) (by kernel_rfl) (fun _ _ _ h => h) (Or.inl ⟨rfl, fun w => by kernel_rfl⟩) ?_
          simp only [Act.put, List.setIfInBounds_toArray, List.set_cons_zero, List.set_cons_succ]
          refine wpAny_done (by kernel_rfl) ?_ _
          go_wp2_with fail
          go_ret
          exact ⟨rfl, by rw [G0.out]; exact Fy3_5.out.1⟩
        · refine op_val (o := ⟨some 64, _, _, _, _, _⟩) (.agg (ub kx).toArray) rfl rfl (run_load_mid _ _ _ 23 _ rfl g0 0 rfl (ub kx) _ (blk_rangeC (F5.out.2.1)) Try.underlying23 rfl (by rw [HT.out.2.2.2.1]; kernel_rfl)) ?_
          simp only [Act.put, List.setIfInBounds_toArray, List.set_cons_zero, List.set_cons_succ]
          refine wpAny_all (rs := [20, 24]) (by kernel_rfl) (by simp) ?_
          intro i hi
          simp only [List.mem_cons, List.not_mem_nil, or_false] at hi
          rcases hi with rfl | rfl
          · refine op_val (o := ⟨some 63, _, _, _, _, _⟩) (.string (strOfNums (strm ks 3 m))) rfl rfl (run_conv_str _ _ _ _ (some ⟨h3, 0, none⟩) m m (strm ks 3 m) rfl rfl (F5.out.2.2.2.2)) ?_
            simp only [Act.put, List.setIfInBounds_toArray, List.set_cons_zero, List.set_cons_succ]
            refine wpAny_all (rs := [24]) (by kernel_rfl) (by simp) ?_
            intro i hi
            simp only [List.mem_cons, List.not_mem_nil, or_false] at hi
            subst hi
            refine op_call (o := ⟨some 67, _, _, _, _, _⟩) 11 #[.agg (ub kx).toArray, .agg (ub [9, 0, 0, 0, 0, 0, 0, 0, 0, 0, 0, 0]).toArray, .int .u32 3, .int .i64 ((m : Nat) : Int)] rfl rfl (by kernel_rfl) (((refstream_two HT.out 3 (by decide) m (by have := HM.out; omega) V3.drew)).mono fun e y3_9 ⟨ay3_9, cy3_9, he, qy3_9, ry3_9, _, _⟩ => ⟨.slice ay3_9 m cy3_9, he, ?_⟩)
            simp only [Act.put, List.setIfInBounds_toArray, List.set_cons_zero, List.set_cons_succ]
            have Fy3_9 := Lib.hid (show Below g0 w y3_9 ∧ Blk y3_9 g0 23 (ub kx).toArray ∧ Row y3_9 (some ⟨goz10, 0, none⟩) m (xorV ks 3 (xs.take m) m) ∧ Row y3_9 (some ⟨goz11, 0, none⟩) m (xorV ks 3 (xs.take m) m) ∧ Row y3_9 (some ⟨h3, 0, none⟩) m (strm ks 3 m) ∧ Row y3_9 ay3_9 m (strm ks 3 m) from ⟨F5.out.1.trans (qy3_9.mono (by have h1 := F5.out.1.size; have h2 := G0.out; omega)), F5.out.2.1.below qy3_9, F5.out.2.2.1.keep qy3_9, F5.out.2.2.2.1.keep qy3_9, F5.out.2.2.2.2.keep qy3_9, ry3_9⟩)
            clear qy3_9
            refine wpAny_all (rs := [25]) (by kernel_rfl) (by simp) ?_
            intro i hi
            simp only [List.mem_cons, List.not_mem_nil, or_false] at hi
            subst hi
            refine op_val (o := ⟨some 68, _, _, _, _, _⟩) (.string (strOfNums (strm ks 3 m))) rfl rfl (run_conv_str _ _ _ _ ay3_9 m cy3_9 (strm ks 3 m) rfl rfl (Fy3_9.out.2.2.2.2.2)) ?_
            simp only [Act.put, List.setIfInBounds_toArray, List.set_cons_zero, List.set_cons_succ]
            refine wpAny_take (i := 26) (oi := ⟨some 69, _, _, _, _, _⟩) (v := (.bool true)) rfl (by kernel_rfl) (by kernel_rfl) (by kernel_rfl) (fun _ _ _ h => h) (Or.inl ⟨rfl, fun w => run_str_eql _ _ _ _ _ (strm ks 3 m) (strm ks 3 m) true rfl rfl rfl (by simp) (strm_byte HT.out _ _) (strm_byte HT.out _ _)⟩) ?_
            simp only [Act.put, List.setIfInBounds_toArray, List.set_cons_zero, List.set_cons_succ]
            refine wpAny_take (i := 27) (oi := ⟨some 70, _, _, _, _, _⟩) (v := (.bool true)) rfl (by kernel_rfl) (by kernel_rfl) (by kernel_rfl) (fun _ _ _ h => h) (Or.inl ⟨rfl, fun w => by kernel_rfl⟩) ?_
            simp only [Act.put, List.setIfInBounds_toArray, List.set_cons_zero, List.set_cons_succ]
            refine wpAny_take (i := 28) (oi := ⟨some 6, _, _, _, _, _⟩) (v := (.bool true)) rfl (by kernel_rfl) (by kernel_rfl) (by kernel_rfl) (fun _ _ _ h => h) (Or.inl ⟨rfl, fun w => by kernel_rfl⟩) ?_
            simp only [Act.put, List.setIfInBounds_toArray, List.set_cons_zero, List.set_cons_succ]
            refine wpAny_done (by kernel_rfl) ?_ _
            go_wp2_with fail
            go_ret
            exact ⟨rfl, by rw [G0.out]; exact Fy3_9.out.1⟩
          · refine op_call (o := ⟨some 67, _, _, _, _, _⟩) 11 #[.agg (ub kx).toArray, .agg (ub [9, 0, 0, 0, 0, 0, 0, 0, 0, 0, 0, 0]).toArray, .int .u32 3, .int .i64 ((m : Nat) : Int)] rfl rfl (by kernel_rfl) (((refstream_two HT.out 3 (by decide) m (by have := HM.out; omega) V3.drew)).mono fun e y3_11 ⟨ay3_11, cy3_11, he, qy3_11, ry3_11, _, _⟩ => ⟨.slice ay3_11 m cy3_11, he, ?_⟩)
            simp only [Act.put, List.setIfInBounds_toArray, List.set_cons_zero, List.set_cons_succ]
            have Fy3_11 := Lib.hid (show Below g0 w y3_11 ∧ Blk y3_11 g0 23 (ub kx).toArray ∧ Row y3_11 (some ⟨goz10, 0, none⟩) m (xorV ks 3 (xs.take m) m) ∧ Row y3_11 (some ⟨goz11, 0, none⟩) m (xorV ks 3 (xs.take m) m) ∧ Row y3_11 (some ⟨h3, 0, none⟩) m (strm ks 3 m) ∧ Row y3_11 ay3_11 m (strm ks 3 m) from ⟨F5.out.1.trans (qy3_11.mono (by have h1 := F5.out.1.size; have h2 := G0.out; omega)), F5.out.2.1.below qy3_11, F5.out.2.2.1.keep qy3_11, F5.out.2.2.2.1.keep qy3_11, F5.out.2.2.2.2.keep qy3_11, ry3_11⟩)
            clear qy3_11
            refine wpAny_all (rs := [20, 25]) (by kernel_rfl) (by simp) ?_
            intro i hi
            simp only [List.mem_cons, List.not_mem_nil, or_false] at hi
            rcases hi with rfl | rfl
            · refine op_val (o := ⟨some 63, _, _, _, _, _⟩) (.string (strOfNums (strm ks 3 m))) rfl rfl (run_conv_str _ _ _ _ (some ⟨h3, 0, none⟩) m m (strm ks 3 m) rfl rfl (Fy3_11.out.2.2.2.2.1)) ?_
              simp only [Act.put, List.setIfInBounds_toArray, List.set_cons_zero, List.set_cons_succ]
              refine wpAny_all (rs := [25]) (by kernel_rfl) (by simp) ?_
              intro i hi
              simp only [List.mem_cons, List.not_mem_nil, or_false] at hi
              subst hi
              refine op_val (o := ⟨some 68, _, _, _, _, _⟩) (.string (strOfNums (strm ks 3 m))) rfl rfl (run_conv_str _ _ _ _ ay3_11 m cy3_11 (strm ks 3 m) rfl rfl (Fy3_11.out.2.2.2.2.2)) ?_
              simp only [Act.put, List.setIfInBounds_toArray, List.set_cons_zero, List.set_cons_succ]
              refine wpAny_take (i := 26) (oi := ⟨some 69, _, _, _, _, _⟩) (v := (.bool true)) rfl (by kernel_rfl) (by kernel_rfl) (by kernel_rfl) (fun _ _ _ h => h) (Or.inl ⟨rfl, fun w => run_str_eql _ _ _ _ _ (strm ks 3 m) (strm ks 3 m) true rfl rfl rfl (by simp) (strm_byte HT.out _ _) (strm_byte HT.out _ _)⟩) ?_
              simp only [Act.put, List.setIfInBounds_toArray, List.set_cons_zero, List.set_cons_succ]
              refine wpAny_take (i := 27) (oi := ⟨some 70, _, _, _, _, _⟩) (v := (.bool true)) rfl (by kernel_rfl) (by kernel_rfl) (by kernel_rfl) (fun _ _ _ h => h) (Or.inl ⟨rfl, fun w => by kernel_rfl⟩) ?_
              simp only [Act.put, List.setIfInBounds_toArray, List.set_cons_zero, List.set_cons_succ]
              refine wpAny_take (i := 28) (oi := ⟨some 6, _, _, _, _, _⟩) (v := (.bool true)) rfl (by kernel_rfl) (by kernel_rfl) (by kernel_rfl) (fun _ _ _ h => h) (Or.inl ⟨rfl, fun w => by kernel_rfl⟩) ?_
              simp only [Act.put, List.setIfInBounds_toArray, List.set_cons_zero, List.set_cons_succ]
              refine wpAny_done (by kernel_rfl) ?_ _
              go_wp2_with fail
              go_ret
              exact ⟨rfl, by rw [G0.out]; exact Fy3_11.out.1⟩
            · refine op_val (o := ⟨some 68, _, _, _, _, _⟩) (.string (strOfNums (strm ks 3 m))) rfl rfl (run_conv_str _ _ _ _ ay3_11 m cy3_11 (strm ks 3 m) rfl rfl (Fy3_11.out.2.2.2.2.2)) ?_
              simp only [Act.put, List.setIfInBounds_toArray, List.set_cons_zero, List.set_cons_succ]
              refine wpAny_all (rs := [20]) (by kernel_rfl) (by simp) ?_
              intro i hi
              simp only [List.mem_cons, List.not_mem_nil, or_false] at hi
              subst hi
              refine op_val (o := ⟨some 63, _, _, _, _, _⟩) (.string (strOfNums (strm ks 3 m))) rfl rfl (run_conv_str _ _ _ _ (some ⟨h3, 0, none⟩) m m (strm ks 3 m) rfl rfl (Fy3_11.out.2.2.2.2.1)) ?_
              simp only [Act.put, List.setIfInBounds_toArray, List.set_cons_zero, List.set_cons_succ]
              refine wpAny_take (i := 26) (oi := ⟨some 69, _, _, _, _, _⟩) (v := (.bool true)) rfl (by kernel_rfl) (by kernel_rfl) (by kernel_rfl) (fun _ _ _ h => h) (Or.inl ⟨rfl, fun w => run_str_eql _ _ _ _ _ (strm ks 3 m) (strm ks 3 m) true rfl rfl rfl (by simp) (strm_byte HT.out _ _) (strm_byte HT.out _ _)⟩) ?_
              simp only [Act.put, List.setIfInBounds_toArray, List.set_cons_zero, List.set_cons_succ]
              refine wpAny_take (i := 27) (oi := ⟨some 70, _, _, _, _, _⟩) (v := (.bool true)) rfl (by kernel_rfl) (by kernel_rfl) (by kernel_rfl) (fun _ _ _ h => h) (Or.inl ⟨rfl, fun w => by kernel_rfl⟩) ?_
              simp only [Act.put, List.setIfInBounds_toArray, List.set_cons_zero, List.set_cons_succ]
              refine wpAny_take (i := 28) (oi := ⟨some 6, _, _, _, _, _⟩) (v := (.bool true)) rfl (by kernel_rfl) (by kernel_rfl) (by kernel_rfl) (fun _ _ _ h => h) (Or.inl ⟨rfl, fun w => by kernel_rfl⟩) ?_
              simp only [Act.put, List.setIfInBounds_toArray, List.set_cons_zero, List.set_cons_succ]
              refine wpAny_done (by kernel_rfl) ?_ _
              go_wp2_with fail
              go_ret
              exact ⟨rfl, by rw [G0.out]; exact Fy3_11.out.1⟩
      · refine op_val (o := ⟨some 58, _, _, _, _, _⟩) (.string (strOfNums (xorV ks 3 (xs.take m) m))) rfl rfl (run_conv_str _ _ _ _ (some ⟨goz11, 0, none⟩) m m (xorV ks 3 (xs.take m) m) rfl rfl (F5.out.2.2.2.1)) ?_
        simp only [Act.put, List.setIfInBounds_toArray, List.set_cons_zero, List.set_cons_succ]
        refine wpAny_all (rs := [13]) (by kernel_rfl) (by simp) ?_
        intro i hi
        simp only [List.mem_cons, List.not_mem_nil, or_false] at hi
        subst hi
        refine op_val (o := ⟨some 56, _, _, _, _, _⟩) (.string (strOfNums (xorV ks 3 (xs.take m) m))) rfl rfl (run_conv_str _ _ _ _ (some ⟨goz10, 0, none⟩) m n (xorV ks 3 (xs.take m) m) rfl rfl (F5.out.2.2.1)) ?_
        simp only [Act.put, List.setIfInBounds_toArray, List.set_cons_zero, List.set_cons_succ]
        refine wpAny_take (i := 16) (oi := ⟨some 59, _, _, _, _, _⟩) (v := (.bool true)) rfl (by kernel_rfl) (by kernel_rfl) (by kernel_rfl) (fun _ _ _ h => h) (Or.inl ⟨rfl, fun w => run_str_eql _ _ _ _ _ (xorV ks 3 (xs.take m) m) (xorV ks 3 (xs.take m) m) true rfl rfl rfl (by simp) (xorV_byte HT.out _ _ _ HXM.out) (xorV_byte HT.out _ _ _ HXM.out)⟩) ?_
        simp only [Act.put, List.setIfInBounds_toArray, List.set_cons_zero, List.set_cons_succ]
        refine wpAny_take (i := 17) (oi := ⟨some 60, _, _, _, _, _⟩) (v := (.bool true)) rfl (by kernel_rfl) (by kernel_rfl) (by kernel_rfl) (fun _ _ _ h => h) (Or.inl ⟨rfl, fun w => by kernel_rfl⟩) ?_
        simp only [Act.put, List.setIfInBounds_toArray, List.set_cons_zero, List.set_cons_succ]
        refine wpAny_take (i := 18) (oi := ⟨some 61, _, _, _, _, _⟩) (v := (.bool true)) rfl (by kernel_rfl) (by kernel_rfl) (by kernel_rfl) (fun _ _ _ h => h) (Or.inl ⟨rfl, fun w => by kernel_rfl⟩) ?_
        simp only [Act.put, List.setIfInBounds_toArray, List.set_cons_zero, List.set_cons_succ]
        refine wpAny_take (i := 19) (oi := ⟨some 62, _, _, _, _, _⟩) (v := (.slice (some ⟨h3, 0, none⟩) m m)) rfl (by kernel_rfl) (by kernel_rfl) (by kernel_rfl) (fun _ _ _ h => h) (Or.inl ⟨rfl, fun w => by kernel_rfl⟩) ?_
        simp only [Act.put, List.setIfInBounds_toArray, List.set_cons_zero, List.set_cons_succ]
        refine wpAny_take (i := 22) (oi := ⟨some 65, _, _, _, _, _⟩) (v := (.agg (ub [9, 0, 0, 0, 0, 0, 0, 0, 0, 0, 0, 0]).toArray)) rfl (by kernel_rfl) (by kernel_rfl) (by kernel_rfl) (fun _ _ _ h => h) (Or.inl ⟨rfl, fun w => by kernel_rfl⟩) ?_
        simp only [Act.put, List.setIfInBounds_toArray, List.set_cons_zero, List.set_cons_succ]
        refine wpAny_take (i := 23) (oi := ⟨some 66, _, _, _, _, _⟩) (v := (.int .i64 ((m : Nat) : Int))) rfl (by kernel_rfl) (by kernel_rfl) (by kernel_rfl) (fun _ _ _ h => h) (Or.inl ⟨rfl, fun w => by kernel_rfl⟩) ?_
        simp only [Act.put, List.setIfInBounds_toArray, List.set_cons_zero, List.set_cons_succ]
        refine wpAny_all (rs := [20, 21]) (by kernel_rfl) (by simp) ?_
        intro i hi
        simp only [List.mem_cons, List.not_mem_nil, or_false] at hi
        rcases hi with rfl | rfl
        · refine op_val (o := ⟨some 63, _, _, _, _, _⟩) (.string (strOfNums (strm ks 3 m))) rfl rfl (run_conv_str _ _ _ _ (some ⟨h3, 0, none⟩) m m (strm ks 3 m) rfl rfl (F5.out.2.2.2.2)) ?_
          simp only [Act.put, List.setIfInBounds_toArray, List.set_cons_zero, List.set_cons_succ]
          refine wpAny_all (rs := [21]) (by kernel_rfl) (by simp) ?_
          intro i hi
          simp only [List.mem_cons, List.not_mem_nil, or_false] at hi
          subst hi
          refine op_val (o := ⟨some 64, _, _, _, _, _⟩) (.agg (ub kx).toArray) rfl rfl (run_load_mid _ _ _ 23 _ rfl g0 0 rfl (ub kx) _ (blk_rangeC (F5.out.2.1)) Try.underlying23 rfl (by rw [HT.out.2.2.2.1]; kernel_rfl)) ?_
          simp only [Act.put, List.setIfInBounds_toArray, List.set_cons_zero, List.set_cons_succ]
          refine wpAny_all (rs := [24]) (by kernel_rfl) (by simp) ?_
          intro i hi
          simp only [List.mem_cons, List.not_mem_nil, or_false] at hi
          subst hi
          refine op_call (o := ⟨some 67, _, _, _, _, _⟩) 11 #[.agg (ub kx).toArray, .agg (ub [9, 0, 0, 0, 0, 0, 0, 0, 0, 0, 0, 0]).toArray, .int .u32 3, .int .i64 ((m : Nat) : Int)] rfl rfl (by kernel_rfl) (((refstream_two HT.out 3 (by decide) m (by have := HM.out; omega) V3.drew)).mono fun e y3_20 ⟨ay3_20, cy3_20, he, qy3_20, ry3_20, _, _⟩ => ⟨.slice ay3_20 m cy3_20, he, ?_⟩)
          simp only [Act.put, List.setIfInBounds_toArray, List.set_cons_zero, List.set_cons_succ]
          have Fy3_20 := Lib.hid (show Below g0 w y3_20 ∧ Blk y3_20 g0 23 (ub kx).toArray ∧ Row y3_20 (some ⟨goz10, 0, none⟩) m (xorV ks 3 (xs.take m) m) ∧ Row y3_20 (some ⟨goz11, 0, none⟩) m (xorV ks 3 (xs.take m) m) ∧ Row y3_20 (some ⟨h3, 0, none⟩) m (strm ks 3 m) ∧ Row y3_20 ay3_20 m (strm ks 3 m) from ⟨F5.out.1.trans (qy3_20.mono (by have h1 := F5.out.1.size; have h2 := G0.out; omega)), F5.out.2.1.below qy3_20, F5.out.2.2.1.keep qy3_20, F5.out.2.2.2.1.keep qy3_20, F5.out.2.2.2.2.keep qy3_20, ry3_20⟩)
          clear qy3_20
          refine wpAny_all (rs := [25]) (by kernel_rfl) (by simp) ?_
          intro i hi
          simp only [List.mem_cons, List.not_mem_nil, or_false] at hi
          subst hi
          refine op_val (o := ⟨some 68, _, _, _, _, _⟩) (.string (strOfNums (strm ks 3 m))) rfl rfl (run_conv_str _ _ _ _ ay3_20 m cy3_20 (strm ks 3 m) rfl rfl (Fy3_20.out.2.2.2.2.2)) ?_
          simp only [Act.put, List.setIfInBounds_toArray, List.set_cons_zero, List.set_cons_succ]
          refine wpAny_take (i := 26) (oi := ⟨some 69, _, _, _, _, _⟩) (v := (.bool true)) rfl (by kernel_rfl) (by kernel_rfl) (by kernel_rfl) (fun _ _ _ h => h) (Or.inl ⟨rfl, fun w => run_str_eql _ _ _ _ _ (strm ks 3 m) (strm ks 3 m) true rfl rfl rfl (by simp) (strm_byte HT.out _ _) (strm_byte HT.out _ _)⟩) ?_
          simp only [Act.put, List.setIfInBounds_toArray, List.set_cons_zero, List.set_cons_succ]
          refine wpAny_take (i := 27) (oi := ⟨some 70, _, _, _, _, _⟩) (v := (.bool true)) rfl (by kernel_rfl) (by kernel_rfl) (by kernel_rfl) (fun _ _ _ h => h) (Or.inl ⟨rfl, fun w => by kernel_rfl⟩) ?_
          simp only [Act.put, List.setIfInBounds_toArray, List.set_cons_zero, List.set_cons_succ]
          refine wpAny_take (i := 28) (oi := ⟨some 6, _, _, _, _, _⟩) (v := (.bool true)) rfl (by kernel_rfl) (by kernel_rfl) (by kernel_rfl) (fun _ _ _ h => h) (Or.inl ⟨rfl, fun w => by kernel_rfl⟩) ?_
          simp only [Act.put, List.setIfInBounds_toArray, List.set_cons_zero, List.set_cons_succ]
          refine wpAny_done (by kernel_rfl) ?_ _
          go_wp2_with fail
          go_ret
          exact ⟨rfl, by rw [G0.out]; exact Fy3_20.out.1⟩
        · refine op_val (o := ⟨some 64, _, _, _, _, _⟩) (.agg (ub kx).toArray) rfl rfl (run_load_mid _ _ _ 23 _ rfl g0 0 rfl (ub kx) _ (blk_rangeC (F5.out.2.1)) Try.underlying23 rfl (by rw [HT.out.2.2.2.1]; kernel_rfl)) ?_
          simp only [Act.put, List.setIfInBounds_toArray, List.set_cons_zero, List.set_cons_succ]
          refine wpAny_all (rs := [20, 24]) (by kernel_rfl) (by simp) ?_
          intro i hi
          simp only [List.mem_cons, List.not_mem_nil, or_false] at hi
          rcases hi with rfl | rfl
          · refine op_val (o := ⟨some 63, _, _, _, _, _⟩) (.string (strOfNums (strm ks 3 m))) rfl rfl (run_conv_str _ _ _ _ (some ⟨h3, 0, none⟩) m m (strm ks 3 m) rfl rfl (F5.out.2.2.2.2)) ?_
            simp only [Act.put, List.setIfInBounds_toArray, List.set_cons_zero, List.set_cons_succ]
            refine wpAny_all (rs := [24]) (by kernel_rfl) (by simp) ?_
            intro i hi
            simp only [List.mem_cons, List.not_mem_nil, or_false] at hi
            subst hi
            refine op_call (o := ⟨some 67, _, _, _, _, _⟩) 11 #[.agg (ub kx).toArray, .agg (ub [9, 0, 0, 0, 0, 0, 0, 0, 0, 0, 0, 0]).toArray, .int .u32 3, .int .i64 ((m : Nat) : Int)] rfl rfl (by kernel_rfl) (((refstream_two HT.out 3 (by decide) m (by have := HM.out; omega) V3.drew)).mono fun e y3_24 ⟨ay3_24, cy3_24, he, qy3_24, ry3_24, _, _⟩ => ⟨.slice ay3_24 m cy3_24, he, ?_⟩)
            simp only [Act.put, List.setIfInBounds_toArray, List.set_cons_zero, List.set_cons_succ]
            have Fy3_24 := Lib.hid (show Below g0 w y3_24 ∧ Blk y3_24 g0 23 (ub kx).toArray ∧ Row y3_24 (some ⟨goz10, 0, none⟩) m (xorV ks 3 (xs.take m) m) ∧ Row y3_24 (some ⟨goz11, 0, none⟩) m (xorV ks 3 (xs.take m) m) ∧ Row y3_24 (some ⟨h3, 0, none⟩) m (strm ks 3 m) ∧ Row y3_24 ay3_24 m (strm ks 3 m) from ⟨F5.out.1.trans (qy3_24.mono (by have h1 := F5.out.1.size; have h2 := G0.out; omega)), F5.out.2.1.below qy3_24, F5.out.2.2.1.keep qy3_24, F5.out.2.2.2.1.keep qy3_24, F5.out.2.2.2.2.keep qy3_24, ry3_24⟩)
            clear qy3_24
            refine wpAny_all (rs := [25]) (by kernel_rfl) (by simp) ?_
            intro i hi
            simp only [List.mem_cons, List.not_mem_nil, or_false] at hi
            subst hi
            refine op_val (o := ⟨some 68, _, _, _, _, _⟩) (.string (strOfNums (strm ks 3 m))) rfl rfl (run_conv_str _ _ _ _ ay3_24 m cy3_24 (strm ks 3 m) rfl rfl (Fy3_24.out.2.2.2.2.2)) ?_
            simp only [Act.put, List.setIfInBounds_toArray, List.set_cons_zero, List.set_cons_succ]
            refine wpAny_take (i := 26) (oi := ⟨some 69, _, _, _, _, _⟩) (v := (.bool true)) rfl (by kernel_rfl) (by kernel_rfl) (by kernel_rfl) (fun _ _ _ h => h) (Or.inl ⟨rfl, fun w => run_str_eql _ _ _ _ _ (strm ks 3 m) (strm ks 3 m) true rfl rfl rfl (by simp) (strm_byte HT.out _ _) (strm_byte HT.out _ _)⟩) ?_
            simp only [Act.put, List.setIfInBounds_toArray, List.set_cons_zero, List.set_cons_succ]
            refine wpAny_take (i := 27) (oi := ⟨some 70, _, _, _, _, _⟩) (v := (.bool true)) rfl (by kernel_rfl) (by kernel_rfl) (by kernel_rfl) (fun _ _ _ h => h) (Or.inl ⟨rfl, fun w => by kernel_rfl⟩) ?_
            simp only [Act.put, List.setIfInBounds_toArray, List.set_cons_zero, List.set_cons_succ]
            refine wpAny_take (i := 28) (oi := ⟨some 6, _, _, _, _, _⟩) (v := (.bool true)) rfl (by kernel_rfl) (by kernel_rfl) (by kernel_rfl) (fun _ _ _ h => h) (Or.inl ⟨rfl, fun w => by kernel_rfl⟩) ?_
            simp only [Act.put, List.setIfInBounds_toArray, List.set_cons_zero, List.set_cons_succ]
            refine wpAny_done (by kernel_rfl) ?_ _
            go_wp2_with fail
            go_ret
            exact ⟨rfl, by rw [G0.out]; exact Fy3_24.out.1⟩
          · refine op_call (o := ⟨some 67, _, _, _, _, _⟩) 11 #[.agg (ub kx).toArray, .agg (ub [9, 0, 0, 0, 0, 0, 0, 0, 0, 0, 0, 0]).toArray, .int .u32 3, .int .i64 ((m : Nat) : Int)] rfl rfl (by kernel_rfl) (((refstream_two HT.out 3 (by decide) m (by have := HM.out; omega) V3.drew)).mono fun e y3_26 ⟨ay3_26, cy3_26, he, qy3_26, ry3_26, _, _⟩ => ⟨.slice ay3_26 m cy3_26, he, ?_⟩)
            simp only [Act.put, List.setIfInBounds_toArray, List.set_cons_zero, List.set_cons_succ]
            have Fy3_26 := Lib.hid (show Below g0 w y3_26 ∧ Blk y3_26 g0 23 (ub kx).toArray ∧ Row y3_26 (some ⟨goz10, 0, none⟩) m (xorV ks 3 (xs.take m) m) ∧ Row y3_26 (some ⟨goz11, 0, none⟩) m (xorV ks 3 (xs.take m) m) ∧ Row y3_26 (some ⟨h3, 0, none⟩) m (strm ks 3 m) ∧ Row y3_26 ay3_26 m (strm ks 3 m) from ⟨F5.out.1.trans (qy3_26.mono (by have h1 := F5.out.1.size; have h2 := G0.out; omega)), F5.out.2.1.below qy3_26, F5.out.2.2.1.keep qy3_26, F5.out.2.2.2.1.keep qy3_26, F5.out.2.2.2.2.keep qy3_26, ry3_26⟩)
            clear qy3_26
            refine wpAny_all (rs := [20, 25]) (by kernel_rfl) (by simp) ?_
            intro i hi
            simp only [List.mem_cons, List.not_mem_nil, or_false] at hi
            rcases hi with rfl | rfl
            · refine op_val (o := ⟨some 63, _, _, _, _, _⟩) (.string (strOfNums (strm ks 3 m))) rfl rfl (run_conv_str _ _ _ _ (some ⟨h3, 0, none⟩) m m (strm ks 3 m) rfl rfl (Fy3_26.out.2.2.2.2.1)) ?_
              simp only [Act.put, List.setIfInBounds_toArray, List.set_cons_zero, List.set_cons_succ]
              refine wpAny_all (rs := [25]) (by kernel_rfl) (by simp) ?_
              intro i hi
              simp only [List.mem_cons, List.not_mem_nil, or_false] at hi
              subst hi
              refine op_val (o := ⟨some 68, _, _, _, _, _⟩) (.string (strOfNums (strm ks 3 m))) rfl rfl (run_conv_str _ _ _ _ ay3_26 m cy3_26 (strm ks 3 m) rfl rfl (Fy3_26.out.2.2.2.2.2)) ?_
              simp only [Act.put, List.setIfInBounds_toArray, List.set_cons_zero, List.set_cons_succ]
              refine wpAny_take (i := 26) (oi := ⟨some 69, _, _, _, _, _⟩) (v := (.bool true)) rfl (by kernel_rfl) (by kernel_rfl) (by kernel_rfl) (fun _ _ _ h => h) (Or.inl ⟨rfl, fun w => run_str_eql _ _ _ _ _ (strm ks 3 m) (strm ks 3 m) true rfl rfl rfl (by simp) (strm_byte HT.out _ _) (strm_byte HT.out _ _)⟩) ?_
              simp only [Act.put, List.setIfInBounds_toArray, List.set_cons_zero, List.set_cons_succ]
              refine wpAny_take (i := 27) (oi := ⟨some 70, _, _, _, _, _⟩) (v := (.bool true)) rfl (by kernel_rfl) (by kernel_rfl) (by kernel_rfl) (fun _ _ _ h => h) (Or.inl ⟨rfl, fun w => by kernel_rfl⟩) ?_
              simp only [Act.put, List.setIfInBounds_toArray, List.set_cons_zero, List.set_cons_succ]
              refine wpAny_take (i := 28) (oi := ⟨some 6, _, _, _, _, _⟩) (v := (.bool true)) rfl (by kernel_rfl) (by kernel_rfl) (by kernel_rfl) (fun _ _ _ h => h) (Or.inl ⟨rfl, fun w => by kernel_rfl⟩) ?_
              simp only [Act.put, List.setIfInBounds_toArray, List.set_cons_zero, List.set_cons_succ]
              refine wpAny_done (by kernel_rfl) ?_ _
              go_wp2_with fail
              go_ret
              exact ⟨rfl, by rw [G0.out]; exact Fy3_26.out.1⟩
            · refine op_val (o := ⟨some 68, _, _, _, _, _⟩) (.string (strOfNums (strm ks 3 m))) rfl rfl (run_conv_str _ _ _ _ ay3_26 m cy3_26 (strm ks 3 m) rfl rfl (Fy3_26.out.2.2.2.2.2)) ?_
              simp only [Act.put, List.setIfInBounds_toArray, List.set_cons_zero, List.set_cons_succ]
              refine wpAny_all (rs := [20]) (by kernel_rfl) (by simp) ?_
              intro i hi
              simp only [List.mem_cons, List.not_mem_nil, or_false] at hi
              subst hi
              refine op_val (o := ⟨some 63, _, _, _, _, _⟩) (.string (strOfNums (strm ks 3 m))) rfl rfl (run_conv_str _ _ _ _ (some ⟨h3, 0, none⟩) m m (strm ks 3 m) rfl rfl (Fy3_26.out.2.2.2.2.1)) ?_
              simp only [Act.put, List.setIfInBounds_toArray, List.set_cons_zero, List.set_cons_succ]
              refine wpAny_take (i := 26) (oi := ⟨some 69, _, _, _, _, _⟩) (v := (.bool true)) rfl (by kernel_rfl) (by kernel_rfl) (by kernel_rfl) (fun _ _ _ h => h) (Or.inl ⟨rfl, fun w => run_str_eql _ _ _ _ _ (strm ks 3 m) (strm ks 3 m) true rfl rfl rfl (by simp) (strm_byte HT.out _ _) (strm_byte HT.out _ _)⟩) ?_
              simp only [Act.put, List.setIfInBounds_toArray, List.set_cons_zero, List.set_cons_succ]
              refine wpAny_take (i := 27) (oi := ⟨some 70, _, _, _, _, _⟩) (v := (.bool true)) rfl (by kernel_rfl) (by kernel_rfl) (by kernel_rfl) (fun _ _ _ h => h) (Or.inl ⟨rfl, fun w => by kernel_rfl⟩) ?_
              simp only [Act.put, List.setIfInBounds_toArray, List.set_cons_zero, List.set_cons_succ]
              refine wpAny_take (i := 28) (oi := ⟨some 6, _, _, _, _, _⟩) (v := (.bool true)) rfl (by kernel_rfl) (by kernel_rfl) (by kernel_rfl) (fun _ _ _ h => h) (Or.inl ⟨rfl, fun w => by kernel_rfl⟩) ?_
              simp only [Act.put, List.setIfInBounds_toArray, List.set_cons_zero, List.set_cons_succ]
              refine wpAny_done (by kernel_rfl) ?_ _
              go_wp2_with fail
              go_ret
              exact ⟨rfl, by rw [G0.out]; exact Fy3_26.out.1⟩
theorem fit_of {w : World} {a : Option Addr} {n c : Nat} {zs : List Int} (h : IsRow .u8 w a n c zs) : Fit a n c := by
  rcases h with ⟨rfl, rfl, rfl, rfl⟩ | ⟨x, rfl, h1, h2, h3, h4, h5⟩
  · exact ⟨Nat.le_refl _, by omega, fun h => by omega⟩
  · have hm : c < 9223372036854775808 := by unfold maxLen at h2; omega
    refine ⟨h1, hm, fun hc p hp => ?_⟩
    cases hp
    have h := h4 0 (by omega)
    obtain ⟨g, o, s⟩ := x
    cases s with
    | none => rfl
    | some s =>
      simp [World.cell?, Addr.add] at h
      split at h <;> simp at h
end Go.Proofs.Ytdoikjjkcehpbaa.B
namespace Go.Proofs.Ytdoikjjkcehpbaa
open Go Go.RowKit
theorem walkChachaShort (xs : List Int) (a : Option Addr) (n cp : Nat) (zs : List Int) (j : Int) (lx : xs.length = 32) (wx : ∀ x ∈ xs, (Lit.int .u8 x).wf = true) (hj : (Lit.int .u16 j).wf = true) (w : World) (hm : IsRow .u8 w a n cp zs) :
    Calls Try.prog 3 #[.agg (xs.map (Value.int .u8)).toArray, .slice a n cp, .int .u16 j] w fun e w' => e = .returned (.bool true) ∧ Below w.heap.size w w' := by
  have hb := bounds_u16 hj
  obtain ⟨m, rfl⟩ : ∃ m : Nat, j = (m : Int) := ⟨j.toNat, by omega⟩
  have h : B.IsRow .u8 w a n cp zs := hm
  exact B.short_any xs a n cp _ m lx (fun x hx => by have := bounds_u8 (wx x hx); omega) (by omega) w (B.row_of h) (B.fit_of h)
end Go.Proofs.Ytdoikjjkcehpbaa
