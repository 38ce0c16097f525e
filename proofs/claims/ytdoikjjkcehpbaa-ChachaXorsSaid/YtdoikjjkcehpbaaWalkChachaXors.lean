/- 'ChachaXors'. -/
import Derived.Test.YtdoikjjkcehpbaaX8
import Derived.Test.YtdoikjjkcehpbaaHeld
import Derived.Test.YtdoikjjkcehpbaaOpen
import Derived.OpenShut
namespace Go.Proofs.Ytdoikjjkcehpbaa.B
open Go Go.RowKit
attribute [local irreducible] wpList wpAny
set_option maxHeartbeats 4000000 in
set_option maxRecDepth 100000 in
theorem xors_any (kx : List Int) (c : Nat) (sp : Option Addr) (n cp : Nat) (xs : List Int) (lx : kx.length = 32) (wx : ∀ x ∈ kx, 0 ≤ x ∧ x ≤ 255) (hc : c < 4294967296) (w : World) (hR : Row w sp n xs) :
    Calls Try.prog 6 #[.agg (ub kx).toArray, .int .u32 (c : Int), .slice sp n cp] w fun e w' => e = .returned (.bool true) ∧ Below w.heap.size w w' := by
  have hk1 := getD_byte wx 2
  obtain ⟨ks, hT⟩ := two_of kx [0, 0, 0, 0, 0, 0, 0, 0, 0, 0, 0, kx.getD 2 0] lx wx rfl (by
    intro x hx
    simp only [List.mem_cons, List.not_mem_nil, or_false] at hx
    rcases hx with rfl | rfl | rfl | rfl | rfl | rfl | rfl | rfl | rfl | rfl | rfl | rfl <;> omega)
  have HT := Lib.hid hT
  have HC := Lib.hid hc
  have HL := Lib.hid lx
  have HR := Lib.hid hR
  clear hT hc lx hk1 hR
  go_enter Try.func6, Try.ntmps6
  go_upto_region 1 with (fail)
  obtain ⟨W1, hW1⟩ : ∃ V, V = w.alloc (.cells (ub kx).toArray 23) := ⟨_, rfl⟩
  rw [← hW1]
  have F1 : Hid (Below w.heap.size w W1 ∧ Blk W1 w.heap.size 23 (ub kx).toArray ∧ Row W1 sp n xs) := Lib.hid (by
    rw [hW1]
    exact ⟨(Below.refl _ _).alloc (Nat.le_refl _) _, Blk.new _ _ _, HR.out.keep ((Below.refl _ _).alloc (Nat.le_refl _) _)⟩)
  clear hW1
  obtain ⟨g0, hg0⟩ : ∃ q, w.heap.size = q := ⟨_, rfl⟩
  have G0 : Hid (w.heap.size = g0) := Lib.hid hg0
  rw [hg0] at F1
  rw [hg0]
  clear hg0
  refine wp_region_lit ?_
  refine wpL_call 8 #[] rfl (by kernel_rfl) (((awake_any W1)).mono fun e W2 ⟨he, ba⟩ => ⟨.bool true, he, ?_⟩)
  simp only [Act.put, List.setIfInBounds_toArray, List.set_cons_zero, List.set_cons_succ]
  have F2 : Hid (Below g0 w W2 ∧ Blk W2 g0 23 (ub kx).toArray ∧ Row W2 sp n xs) := Lib.hid ⟨F1.out.1.trans (ba.mono (by have := F1.out.1.size; have := G0.out; omega)), F1.out.2.1.below ba, F1.out.2.2.keep ba⟩
  clear ba
  refine wpL_pure (.bool false) rfl (by kernel_rfl) ?_
  simp only [Act.put, List.setIfInBounds_toArray, List.set_cons_zero, List.set_cons_succ]
  refine wpL_pure (.bool false) rfl (by kernel_rfl) ?_
  simp only [Act.put, List.setIfInBounds_toArray, List.set_cons_zero, List.set_cons_succ]
  refine wpL_pure (.slice sp n cp) rfl (by kernel_rfl) ?_
  simp only [Act.put, List.setIfInBounds_toArray, List.set_cons_zero, List.set_cons_succ]
  refine wpL_pure (.int .i64 (n : Int)) rfl (by kernel_rfl) ?_
  simp only [Act.put, List.setIfInBounds_toArray, List.set_cons_zero, List.set_cons_succ]
  by_cases h6 : 600 < n
  · have H6 := Lib.hid h6
    clear h6
    refine wpL_pure (.bool true) rfl (run_gti Try.underlying3 rfl rfl rfl (by have := H6.out; rw [decide_eq_true_eq]; omega)) ?_
    simp only [Act.put, List.setIfInBounds_toArray, List.set_cons_zero, List.set_cons_succ]
    refine wpL_pure (.bool true) rfl (by kernel_rfl) ?_
    simp only [Act.put, List.setIfInBounds_toArray, List.set_cons_zero, List.set_cons_succ]
    unfold wpList
    go_upto_region 2 with (fail)
    refine wp_region_lit ?_
    refine wpL_call 8 #[] rfl (by kernel_rfl) (((awake_any W2)).mono fun e W3 ⟨he, ba⟩ => ⟨.bool true, he, ?_⟩)
    simp only [Act.put, List.setIfInBounds_toArray, List.set_cons_zero, List.set_cons_succ]
    have F3 : Hid (Below g0 w W3 ∧ Blk W3 g0 23 (ub kx).toArray ∧ Row W3 sp n xs) := Lib.hid ⟨F2.out.1.trans (ba.mono (by have := F2.out.1.size; have := G0.out; omega)), F2.out.2.1.below ba, F2.out.2.2.keep ba⟩
    clear ba
    refine wpL_pure (.bool true) rfl (by kernel_rfl) ?_
    simp only [Act.put, List.setIfInBounds_toArray, List.set_cons_zero, List.set_cons_succ]
    go_wp2_with fail
    go_ret
    exact ⟨rfl, by rw [G0.out]; exact F3.out.1⟩
  · have H6 : Hid (n ≤ 600) := Lib.hid (by omega)
    clear h6
    refine wpL_pure (.bool false) rfl (run_gti Try.underlying3 rfl rfl rfl (by have := H6.out; rw [decide_eq_false_iff_not]; omega)) ?_
    simp only [Act.put, List.setIfInBounds_toArray, List.set_cons_zero, List.set_cons_succ]
    refine wpL_pure (.bool false) rfl (by kernel_rfl) ?_
    simp only [Act.put, List.setIfInBounds_toArray, List.set_cons_zero, List.set_cons_succ]
    unfold wpList
    go_upto_region 3 with (fail)
    refine wp_region_lit ?_
    refine wpL_pure (.slice sp n cp) rfl (by kernel_rfl) ?_
    simp only [Act.put, List.setIfInBounds_toArray, List.set_cons_zero, List.set_cons_succ]
    refine wpL_pure (.string (strOfNums xs)) rfl (run_conv_str _ _ _ _ sp n cp xs rfl rfl F2.out.2.2) ?_
    simp only [Act.put, List.setIfInBounds_toArray, List.set_cons_zero, List.set_cons_succ]
    refine wpL_pure (.string (strOfNums xs)) rfl (by kernel_rfl) ?_
    simp only [Act.put, List.setIfInBounds_toArray, List.set_cons_zero, List.set_cons_succ]
    go_upto_region 4 with (fail)
    refine wp_region_lit ?_
    refine wpL_pure (.pointer (some ⟨g0, 2, none⟩)) rfl (by kernel_rfl) ?_
    simp only [Act.put, List.setIfInBounds_toArray, List.set_cons_zero, List.set_cons_succ]
    refine wpL_pure (.int .u8 (kx.getD 2 0)) rfl (run_load_one _ _ _ 5 _ _ rfl (g0) (2) rfl (ub_cell F2.out.2.1 (j := 2) (by rw [HL.out]; decide)) (by kernel_rfl)) ?_
    simp only [Act.put, List.setIfInBounds_toArray, List.set_cons_zero, List.set_cons_succ]
    refine wpL_pure (.agg (ub [0, 0, 0, 0, 0, 0, 0, 0, 0, 0, 0, kx.getD 2 0]).toArray) rfl (by kernel_rfl) ?_
    simp only [Act.put, List.setIfInBounds_toArray, List.set_cons_zero, List.set_cons_succ]
    obtain ⟨W4, hW4⟩ : ∃ V, V = (W2.alloc (.cells (ub (List.replicate 12 0)).toArray 28)).setRow W2.heap.size (ub [0, 0, 0, 0, 0, 0, 0, 0, 0, 0, 0, kx.getD 2 0]).toArray := ⟨_, rfl⟩
    refine wpL_value (.pointer (some ⟨W2.heap.size, 0, none⟩)) (W2.alloc (.cells (ub (List.replicate 12 0)).toArray 28)) rfl (by kernel_rfl) ?_
    simp only [Act.put, List.setIfInBounds_toArray, List.set_cons_zero, List.set_cons_succ]
    refine wpList_store_rowTo rfl 28 _ _ rfl rfl W2.heap.size (ub [0, 0, 0, 0, 0, 0, 0, 0, 0, 0, 0, kx.getD 2 0]).toArray rfl rfl 28 _ (Blk.new _ _ _) (by kernel_rfl) rfl (ub_one _) ?_
    rw [← hW4]
    have b4 : Below W2.heap.size W2 W4 := by rw [hW4]; exact below_setRow ((Below.refl _ _).alloc (Nat.le_refl _) _) (Nat.le_refl _) _
    have F4 : Hid ((Below g0 w W4 ∧ Blk W4 g0 23 (ub kx).toArray ∧ Row W4 sp n xs) ∧ Blk W4 W2.heap.size 28 (ub [0, 0, 0, 0, 0, 0, 0, 0, 0, 0, 0, kx.getD 2 0]).toArray) := Lib.hid ⟨⟨F2.out.1.trans (b4.mono (by have := F2.out.1.size; have := G0.out; omega)), F2.out.2.1.below b4, F2.out.2.2.keep b4⟩, by rw [hW4]; exact setRow_heap _ _ _ _ _ _ (Blk.new _ _ _)⟩
    clear b4 hW4 F2
    generalize W2.heap.size = g8 at *
    go_upto_region 5 with (fail)
    refine wp_region_lit ?_
    refine wpL_load 23 _ rfl rfl g0 0 rfl (ub kx) _ (blk_rangeC (F4.out.1.2.1)) Try.underlying23 rfl (by rw [HT.out.2.2.2.1]; kernel_rfl) ?_
    simp only [Act.put, List.setIfInBounds_toArray, List.set_cons_zero, List.set_cons_succ]
    refine wpL_load 28 _ rfl rfl g8 0 rfl (ub [0, 0, 0, 0, 0, 0, 0, 0, 0, 0, 0, kx.getD 2 0]) _ (blk_rangeC (F4.out.2)) Try.underlying28 rfl (by rw [HT.out.2.2.2.2]; kernel_rfl) ?_
    simp only [Act.put, List.setIfInBounds_toArray, List.set_cons_zero, List.set_cons_succ]
    refine wpL_pure (.int .u32 ((c : Nat) : Int)) rfl (by kernel_rfl) ?_
    simp only [Act.put, List.setIfInBounds_toArray, List.set_cons_zero, List.set_cons_succ]
    refine wpL_pure (.slice sp n cp) rfl (by kernel_rfl) ?_
    simp only [Act.put, List.setIfInBounds_toArray, List.set_cons_zero, List.set_cons_succ]
    refine wpL_call 9 #[.agg (ub kx).toArray, .agg (ub [0, 0, 0, 0, 0, 0, 0, 0, 0, 0, 0, kx.getD 2 0]).toArray, .int .u32 ((c : Nat) : Int), .slice sp n cp] rfl (by kernel_rfl) (((xor_two HT.out c HC.out n cp sp xs (by have := H6.out; omega) W4 F4.out.1.2.2)).mono fun e W5 ⟨go, he, b5, l5, r5⟩ => ⟨.slice (some ⟨go, 0, none⟩) n n, he, ?_⟩)
    simp only [Act.put, List.setIfInBounds_toArray, List.set_cons_zero, List.set_cons_succ]
    have F5 : Hid (((Below g0 w W5 ∧ Blk W5 g0 23 (ub kx).toArray ∧ Row W5 sp n xs) ∧ Blk W5 g8 28 (ub [0, 0, 0, 0, 0, 0, 0, 0, 0, 0, 0, kx.getD 2 0]).toArray) ∧ Row W5 (some ⟨go, 0, none⟩) n (xorV ks c xs n)) := Lib.hid ⟨⟨⟨F4.out.1.1.trans (b5.mono (by have := F4.out.1.1.size; have := G0.out; omega)), F4.out.1.2.1.below b5, F4.out.1.2.2.keep b5⟩, F4.out.2.below b5⟩, row_of_blk r5 (xorV_len _ _ _ _) (by have := H6.out; omega) (xorV_byte HT.out _ _ _ HR.out.2.2.1)⟩
    clear b5 l5 r5 F4
    refine wpL_pure (.slice (some ⟨go, 0, none⟩) n n) rfl (by kernel_rfl) ?_
    simp only [Act.put, List.setIfInBounds_toArray, List.set_cons_zero, List.set_cons_succ]
    go_upto_region 6 with (fail)
    refine wp_region_lit ?_
    refine wpL_load 23 _ rfl rfl g0 0 rfl (ub kx) _ (blk_rangeC (F5.out.1.1.2.1)) Try.underlying23 rfl (by rw [HT.out.2.2.2.1]; kernel_rfl) ?_
    simp only [Act.put, List.setIfInBounds_toArray, List.set_cons_zero, List.set_cons_succ]
    refine wpL_load 28 _ rfl rfl g8 0 rfl (ub [0, 0, 0, 0, 0, 0, 0, 0, 0, 0, 0, kx.getD 2 0]) _ (blk_rangeC (F5.out.1.2)) Try.underlying28 rfl (by rw [HT.out.2.2.2.2]; kernel_rfl) ?_
    simp only [Act.put, List.setIfInBounds_toArray, List.set_cons_zero, List.set_cons_succ]
    refine wpL_pure (.int .u32 ((c : Nat) : Int)) rfl (by kernel_rfl) ?_
    simp only [Act.put, List.setIfInBounds_toArray, List.set_cons_zero, List.set_cons_succ]
    refine wpL_pure (.slice (some ⟨go, 0, none⟩) n n) rfl (by kernel_rfl) ?_
    simp only [Act.put, List.setIfInBounds_toArray, List.set_cons_zero, List.set_cons_succ]
    refine wpL_call 9 #[.agg (ub kx).toArray, .agg (ub [0, 0, 0, 0, 0, 0, 0, 0, 0, 0, 0, kx.getD 2 0]).toArray, .int .u32 ((c : Nat) : Int), .slice (some ⟨go, 0, none⟩) n n] rfl (by kernel_rfl) (((xor_two HT.out c HC.out n n (some ⟨go, 0, none⟩) (xorV ks c xs n) (by have := H6.out; omega) W5 F5.out.2)).mono fun e W6 ⟨g2, he, b6, l6, r6⟩ => ⟨.slice (some ⟨g2, 0, none⟩) n n, he, ?_⟩)
    simp only [Act.put, List.setIfInBounds_toArray, List.set_cons_zero, List.set_cons_succ]
    have F6 : Hid (Below g0 w W6.drew ∧ Blk W6.drew g0 23 (ub kx).toArray ∧ Blk W6.drew g8 28 (ub [0, 0, 0, 0, 0, 0, 0, 0, 0, 0, 0, kx.getD 2 0]).toArray ∧ Row W6.drew sp n xs ∧ Row W6.drew (some ⟨go, 0, none⟩) n (xorV ks c xs n) ∧ Row W6.drew (some ⟨g2, 0, none⟩) n xs) := Lib.hid (by
      rw [xorV_twice HT.out c n xs HR.out.1 HR.out.2.2.1] at r6
      exact ⟨(F5.out.1.1.1.trans (b6.mono (by have := F5.out.1.1.1.size; have := G0.out; omega))).drew, F5.out.1.1.2.1.below b6.drew, F5.out.1.2.below b6.drew, F5.out.1.1.2.2.keep b6.drew, F5.out.2.keep b6.drew, row_of_blk r6 HR.out.1 (by have := H6.out; omega) HR.out.2.2.1⟩)
    clear b6 l6 r6 F5
    refine wpL_pure (.slice (some ⟨g2, 0, none⟩) n n) rfl (by kernel_rfl) ?_
    simp only [Act.put, List.setIfInBounds_toArray, List.set_cons_zero, List.set_cons_succ]
    go_upto_region 7 with (fail)
    refine region_any (by kernel_rfl) 22 rfl ?_
    refine wpAny_take (i := 0) (oi := ⟨some 34, _, _, _, _, _⟩) (v := (.slice (some ⟨go, 0, none⟩) n n)) rfl (by kernel_rfl) (by kernel_rfl) (by kernel_rfl) (fun _ _ _ h => h) (Or.inl ⟨rfl, fun w => by kernel_rfl⟩) ?_
    simp only [Act.put, List.setIfInBounds_toArray, List.set_cons_zero, List.set_cons_succ]
    refine wpAny_take (i := 4) (oi := ⟨some 38, _, _, _, _, _⟩) (v := (.int .u32 ((c : Nat) : Int))) rfl (by kernel_rfl) (by kernel_rfl) (by kernel_rfl) (fun _ _ _ h => h) (Or.inl ⟨rfl, fun w => by kernel_rfl⟩) ?_
    simp only [Act.put, List.setIfInBounds_toArray, List.set_cons_zero, List.set_cons_succ]
    refine wpAny_take (i := 5) (oi := ⟨some 39, _, _, _, _, _⟩) (v := (.slice sp n cp)) rfl (by kernel_rfl) (by kernel_rfl) (by kernel_rfl) (fun _ _ _ h => h) (Or.inl ⟨rfl, fun w => by kernel_rfl⟩) ?_
    simp only [Act.put, List.setIfInBounds_toArray, List.set_cons_zero, List.set_cons_succ]
    refine wpAny_all (rs := [1, 2, 3]) (by kernel_rfl) (by simp) ?_
    intro i hi
    simp only [List.mem_cons, List.not_mem_nil, or_false] at hi
    rcases hi with rfl | rfl | rfl
    · refine op_val (o := ⟨some 35, _, _, _, _, _⟩) (.string (strOfNums (xorV ks c xs n))) rfl rfl (run_conv_str _ _ _ _ (some ⟨go, 0, none⟩) n n (xorV ks c xs n) rfl rfl (F6.out.2.2.2.2.1)) ?_
      simp only [Act.put, List.setIfInBounds_toArray, List.set_cons_zero, List.set_cons_succ]
      refine wpAny_all (rs := [2, 3]) (by kernel_rfl) (by simp) ?_
      intro i hi
      simp only [List.mem_cons, List.not_mem_nil, or_false] at hi
      rcases hi with rfl | rfl
      · refine op_val (o := ⟨some 36, _, _, _, _, _⟩) (.agg (ub kx).toArray) rfl rfl (run_load_mid _ _ _ 23 _ rfl g0 0 rfl (ub kx) _ (blk_rangeC (F6.out.2.1)) Try.underlying23 rfl (by rw [HT.out.2.2.2.1]; kernel_rfl)) ?_
        simp only [Act.put, List.setIfInBounds_toArray, List.set_cons_zero, List.set_cons_succ]
        refine wpAny_all (rs := [3]) (by kernel_rfl) (by simp) ?_
        intro i hi
        simp only [List.mem_cons, List.not_mem_nil, or_false] at hi
        subst hi
        refine op_val (o := ⟨some 37, _, _, _, _, _⟩) (.agg (ub [0, 0, 0, 0, 0, 0, 0, 0, 0, 0, 0, kx.getD 2 0]).toArray) rfl rfl (run_load_mid _ _ _ 28 _ rfl g8 0 rfl (ub [0, 0, 0, 0, 0, 0, 0, 0, 0, 0, 0, kx.getD 2 0]) _ (blk_rangeC (F6.out.2.2.1)) Try.underlying28 rfl (by rw [HT.out.2.2.2.2]; kernel_rfl)) ?_
        simp only [Act.put, List.setIfInBounds_toArray, List.set_cons_zero, List.set_cons_succ]
        refine wpAny_all (rs := [6]) (by kernel_rfl) (by simp) ?_
        intro i hi
        simp only [List.mem_cons, List.not_mem_nil, or_false] at hi
        subst hi
        refine op_call (o := ⟨some 40, _, _, _, _, _⟩) 14 #[.agg (ub kx).toArray, .agg (ub [0, 0, 0, 0, 0, 0, 0, 0, 0, 0, 0, kx.getD 2 0]).toArray, .int .u32 ((c : Nat) : Int), .slice sp n cp] rfl rfl (by kernel_rfl) (((refxor_two HT.out c HC.out n cp sp xs (by have := H6.out; omega) W6.drew F6.out.2.2.2.1)).mono fun e z4 ⟨az4, cz4, he, qz4, rz4, _, _⟩ => ⟨.slice az4 n cz4, he, ?_⟩)
        simp only [Act.put, List.setIfInBounds_toArray, List.set_cons_zero, List.set_cons_succ]
        have Fz4 := Lib.hid (show Below g0 w z4 ∧ Blk z4 g0 23 (ub kx).toArray ∧ Blk z4 g8 28 (ub [0, 0, 0, 0, 0, 0, 0, 0, 0, 0, 0, kx.getD 2 0]).toArray ∧ Row z4 sp n xs ∧ Row z4 (some ⟨go, 0, none⟩) n (xorV ks c xs n) ∧ Row z4 (some ⟨g2, 0, none⟩) n xs ∧ Row z4 az4 n (xorV ks c xs n) from ⟨F6.out.1.trans (qz4.mono (by have h1 := F6.out.1.size; have h2 := G0.out; omega)), F6.out.2.1.below qz4, F6.out.2.2.1.below qz4, F6.out.2.2.2.1.keep qz4, F6.out.2.2.2.2.1.keep qz4, F6.out.2.2.2.2.2.keep qz4, rz4⟩)
        clear qz4
        refine wpAny_all (rs := [7]) (by kernel_rfl) (by simp) ?_
        intro i hi
        simp only [List.mem_cons, List.not_mem_nil, or_false] at hi
        subst hi
        refine op_val (o := ⟨some 41, _, _, _, _, _⟩) (.string (strOfNums (xorV ks c xs n))) rfl rfl (run_conv_str _ _ _ _ az4 n cz4 (xorV ks c xs n) rfl rfl (Fz4.out.2.2.2.2.2.2)) ?_
        simp only [Act.put, List.setIfInBounds_toArray, List.set_cons_zero, List.set_cons_succ]
        refine wpAny_take (i := 8) (oi := ⟨some 42, _, _, _, _, _⟩) (v := (.bool true)) rfl (by kernel_rfl) (by kernel_rfl) (by kernel_rfl) (fun _ _ _ h => h) (Or.inl ⟨rfl, fun w => run_str_eql _ _ _ _ _ (xorV ks c xs n) (xorV ks c xs n) true rfl rfl rfl (by simp) (xorV_byte HT.out _ _ _ HR.out.2.2.1) (xorV_byte HT.out _ _ _ HR.out.2.2.1)⟩) ?_
        simp only [Act.put, List.setIfInBounds_toArray, List.set_cons_zero, List.set_cons_succ]
        refine wpAny_take (i := 9) (oi := ⟨some 43, _, _, _, _, _⟩) (v := (.bool true)) rfl (by kernel_rfl) (by kernel_rfl) (by kernel_rfl) (fun _ _ _ h => h) (Or.inl ⟨rfl, fun w => by kernel_rfl⟩) ?_
        simp only [Act.put, List.setIfInBounds_toArray, List.set_cons_zero, List.set_cons_succ]
        refine wpAny_take (i := 10) (oi := ⟨some 44, _, _, _, _, _⟩) (v := (.slice (some ⟨g2, 0, none⟩) n n)) rfl (by kernel_rfl) (by kernel_rfl) (by kernel_rfl) (fun _ _ _ h => h) (Or.inl ⟨rfl, fun w => by kernel_rfl⟩) ?_
        simp only [Act.put, List.setIfInBounds_toArray, List.set_cons_zero, List.set_cons_succ]
        refine wpAny_take (i := 12) (oi := ⟨some 46, _, _, _, _, _⟩) (v := (.string (strOfNums xs))) rfl (by kernel_rfl) (by kernel_rfl) (by kernel_rfl) (fun _ _ _ h => h) (Or.inl ⟨rfl, fun w => by kernel_rfl⟩) ?_
        simp only [Act.put, List.setIfInBounds_toArray, List.set_cons_zero, List.set_cons_succ]
        refine wpAny_all (rs := [11]) (by kernel_rfl) (by simp) ?_
        intro i hi
        simp only [List.mem_cons, List.not_mem_nil, or_false] at hi
        subst hi
        refine op_val (o := ⟨some 45, _, _, _, _, _⟩) (.string (strOfNums xs)) rfl rfl (run_conv_str _ _ _ _ (some ⟨g2, 0, none⟩) n n xs rfl rfl (Fz4.out.2.2.2.2.2.1)) ?_
        simp only [Act.put, List.setIfInBounds_toArray, List.set_cons_zero, List.set_cons_succ]
        refine wpAny_take (i := 13) (oi := ⟨some 47, _, _, _, _, _⟩) (v := (.bool true)) rfl (by kernel_rfl) (by kernel_rfl) (by kernel_rfl) (fun _ _ _ h => h) (Or.inl ⟨rfl, fun w => run_str_eql _ _ _ _ _ xs xs true rfl rfl rfl (by simp) HR.out.2.2.1 HR.out.2.2.1⟩) ?_
        simp only [Act.put, List.setIfInBounds_toArray, List.set_cons_zero, List.set_cons_succ]
        refine wpAny_take (i := 14) (oi := ⟨some 48, _, _, _, _, _⟩) (v := (.bool true)) rfl (by kernel_rfl) (by kernel_rfl) (by kernel_rfl) (fun _ _ _ h => h) (Or.inl ⟨rfl, fun w => by kernel_rfl⟩) ?_
        simp only [Act.put, List.setIfInBounds_toArray, List.set_cons_zero, List.set_cons_succ]
        refine wpAny_take (i := 15) (oi := ⟨some 49, _, _, _, _, _⟩) (v := (.bool true)) rfl (by kernel_rfl) (by kernel_rfl) (by kernel_rfl) (fun _ _ _ h => h) (Or.inl ⟨rfl, fun w => by kernel_rfl⟩) ?_
        simp only [Act.put, List.setIfInBounds_toArray, List.set_cons_zero, List.set_cons_succ]
        refine wpAny_take (i := 16) (oi := ⟨some 50, _, _, _, _, _⟩) (v := (.slice sp n cp)) rfl (by kernel_rfl) (by kernel_rfl) (by kernel_rfl) (fun _ _ _ h => h) (Or.inl ⟨rfl, fun w => by kernel_rfl⟩) ?_
        simp only [Act.put, List.setIfInBounds_toArray, List.set_cons_zero, List.set_cons_succ]
        refine wpAny_take (i := 18) (oi := ⟨some 52, _, _, _, _, _⟩) (v := (.string (strOfNums xs))) rfl (by kernel_rfl) (by kernel_rfl) (by kernel_rfl) (fun _ _ _ h => h) (Or.inl ⟨rfl, fun w => by kernel_rfl⟩) ?_
        simp only [Act.put, List.setIfInBounds_toArray, List.set_cons_zero, List.set_cons_succ]
        refine wpAny_all (rs := [17]) (by kernel_rfl) (by simp) ?_
        intro i hi
        simp only [List.mem_cons, List.not_mem_nil, or_false] at hi
        subst hi
        refine op_val (o := ⟨some 51, _, _, _, _, _⟩) (.string (strOfNums xs)) rfl rfl (run_conv_str _ _ _ _ sp n cp xs rfl rfl (Fz4.out.2.2.2.1)) ?_
        simp only [Act.put, List.setIfInBounds_toArray, List.set_cons_zero, List.set_cons_succ]
        refine wpAny_take (i := 19) (oi := ⟨some 53, _, _, _, _, _⟩) (v := (.bool true)) rfl (by kernel_rfl) (by kernel_rfl) (by kernel_rfl) (fun _ _ _ h => h) (Or.inl ⟨rfl, fun w => run_str_eql _ _ _ _ _ xs xs true rfl rfl rfl (by simp) HR.out.2.2.1 HR.out.2.2.1⟩) ?_
        simp only [Act.put, List.setIfInBounds_toArray, List.set_cons_zero, List.set_cons_succ]
        refine wpAny_take (i := 20) (oi := ⟨some 54, _, _, _, _, _⟩) (v := (.bool true)) rfl (by kernel_rfl) (by kernel_rfl) (by kernel_rfl) (fun _ _ _ h => h) (Or.inl ⟨rfl, fun w => by kernel_rfl⟩) ?_
        simp only [Act.put, List.setIfInBounds_toArray, List.set_cons_zero, List.set_cons_succ]
        refine wpAny_take (i := 21) (oi := ⟨some 6, _, _, _, _, _⟩) (v := (.bool true)) rfl (by kernel_rfl) (by kernel_rfl) (by kernel_rfl) (fun _ _ _ h => h) (Or.inl ⟨rfl, fun w => by kernel_rfl⟩) ?_
        simp only [Act.put, List.setIfInBounds_toArray, List.set_cons_zero, List.set_cons_succ]
        refine wpAny_done (by kernel_rfl) ?_ _
        go_wp2_with fail
        go_ret
        exact ⟨rfl, by rw [G0.out]; exact Fz4.out.1⟩
      · refine op_val (o := ⟨some 37, _, _, _, _, _⟩) (.agg (ub [0, 0, 0, 0, 0, 0, 0, 0, 0, 0, 0, kx.getD 2 0]).toArray) rfl rfl (run_load_mid _ _ _ 28 _ rfl g8 0 rfl (ub [0, 0, 0, 0, 0, 0, 0, 0, 0, 0, 0, kx.getD 2 0]) _ (blk_rangeC (F6.out.2.2.1)) Try.underlying28 rfl (by rw [HT.out.2.2.2.2]; kernel_rfl)) ?_
        simp only [Act.put, List.setIfInBounds_toArray, List.set_cons_zero, List.set_cons_succ]
        refine wpAny_all (rs := [2]) (by kernel_rfl) (by simp) ?_
        intro i hi
        simp only [List.mem_cons, List.not_mem_nil, or_false] at hi
        subst hi
        refine op_val (o := ⟨some 36, _, _, _, _, _⟩) (.agg (ub kx).toArray) rfl rfl (run_load_mid _ _ _ 23 _ rfl g0 0 rfl (ub kx) _ (blk_rangeC (F6.out.2.1)) Try.underlying23 rfl (by rw [HT.out.2.2.2.1]; kernel_rfl)) ?_
        simp only [Act.put, List.setIfInBounds_toArray, List.set_cons_zero, List.set_cons_succ]
        refine wpAny_all (rs := [6]) (by kernel_rfl) (by simp) ?_
        intro i hi
        simp only [List.mem_cons, List.not_mem_nil, or_false] at hi
        subst hi
        refine op_call (o := ⟨some 40, _, _, _, _, _⟩) 14 #[.agg (ub kx).toArray, .agg (ub [0, 0, 0, 0, 0, 0, 0, 0, 0, 0, 0, kx.getD 2 0]).toArray, .int .u32 ((c : Nat) : Int), .slice sp n cp] rfl rfl (by kernel_rfl) (((refxor_two HT.out c HC.out n cp sp xs (by have := H6.out; omega) W6.drew F6.out.2.2.2.1)).mono fun e z10 ⟨az10, cz10, he, qz10, rz10, _, _⟩ => ⟨.slice az10 n cz10, he, ?_⟩)
        simp only [Act.put, List.setIfInBounds_toArray, List.set_cons_zero, List.set_cons_succ]
        have Fz10 := Lib.hid (show Below g0 w z10 ∧ Blk z10 g0 23 (ub kx).toArray ∧ Blk z10 g8 28 (ub [0, 0, 0, 0, 0, 0, 0, 0, 0, 0, 0, kx.getD 2 0]).toArray ∧ Row z10 sp n xs ∧ Row z10 (some ⟨go, 0, none⟩) n (xorV ks c xs n) ∧ Row z10 (some ⟨g2, 0, none⟩) n xs ∧ Row z10 az10 n (xorV ks c xs n) from ⟨F6.out.1.trans (qz10.mono (by have h1 := F6.out.1.size; have h2 := G0.out; omega)), F6.out.2.1.below qz10, F6.out.2.2.1.below qz10, F6.out.2.2.2.1.keep qz10, F6.out.2.2.2.2.1.keep qz10, F6.out.2.2.2.2.2.keep qz10, rz10⟩)
        clear qz10
        refine wpAny_all (rs := [7]) (by kernel_rfl) (by simp) ?_
        intro i hi
        simp only [List.mem_cons, List.not_mem_nil, or_false] at hi
        subst hi
        refine op_val (o := ⟨some 41, _, _, _, _, _⟩) (.string (strOfNums (xorV ks c xs n))) rfl rfl (run_conv_str _ _ _ _ az10 n cz10 (xorV ks c xs n) rfl rfl (Fz10.out.2.2.2.2.2.2)) ?_
        simp only [Act.put, List.setIfInBounds_toArray, List.set_cons_zero, List.set_cons_succ]
        refine wpAny_take (i := 8) (oi := ⟨some 42, _, _, _, _, _⟩) (v := (.bool true)) rfl (by kernel_rfl) (by kernel_rfl) (by kernel_rfl) (fun _ _ _ h => h) (Or.inl ⟨rfl, fun w => run_str_eql _ _ _ _ _ (xorV ks c xs n) (xorV ks c xs n) true rfl rfl rfl (by simp) (xorV_byte HT.out _ _ _ HR.out.2.2.1) (xorV_byte HT.out _ _ _ HR.out.2.2.1)⟩) ?_
        simp only [Act.put, List.setIfInBounds_toArray, List.set_cons_zero, List.set_cons_succ]
        refine wpAny_take (i := 9) (oi := ⟨some 43, _, _, _, _, _⟩) (v := (.bool true)) rfl (by kernel_rfl) (by kernel_rfl) (by kernel_rfl) (fun _ _ _ h => h) (Or.inl ⟨rfl, fun w => by kernel_rfl⟩) ?_
        simp only [Act.put, List.setIfInBounds_toArray, List.set_cons_zero, List.set_cons_succ]
        refine wpAny_take (i := 10) (oi := ⟨some 44, _, _, _, _, _⟩) (v := (.slice (some ⟨g2, 0, none⟩) n n)) rfl (by kernel_rfl) (by kernel_rfl) (by kernel_rfl) (fun _ _ _ h => h) (Or.inl ⟨rfl, fun w => by kernel_rfl⟩) ?_
        simp only [Act.put, List.setIfInBounds_toArray, List.set_cons_zero, List.set_cons_succ]
        refine wpAny_take (i := 12) (oi := ⟨some 46, _, _, _, _, _⟩) (v := (.string (strOfNums xs))) rfl (by kernel_rfl) (by kernel_rfl) (by kernel_rfl) (fun _ _ _ h => h) (Or.inl ⟨rfl, fun w => by kernel_rfl⟩) ?_
        simp only [Act.put, List.setIfInBounds_toArray, List.set_cons_zero, List.set_cons_succ]
        refine wpAny_all (rs := [11]) (by kernel_rfl) (by simp) ?_
        intro i hi
        simp only [List.mem_cons, List.not_mem_nil, or_false] at hi
        subst hi
        refine op_val (o := ⟨some 45, _, _, _, _, _⟩) (.string (strOfNums xs)) rfl rfl (run_conv_str _ _ _ _ (some ⟨g2, 0, none⟩) n n xs rfl rfl (Fz10.out.2.2.2.2.2.1)) ?_
        simp only [Act.put, List.setIfInBounds_toArray, List.set_cons_zero, List.set_cons_succ]
        refine wpAny_take (i := 13) (oi := ⟨some 47, _, _, _, _, _⟩) (v := (.bool true)) rfl (by kernel_rfl) (by kernel_rfl) (by kernel_rfl) (fun _ _ _ h => h) (Or.inl ⟨rfl, fun w => run_str_eql _ _ _ _ _ xs xs true rfl rfl rfl (by simp) HR.out.2.2.1 HR.out.2.2.1⟩) ?_
        simp only [Act.put, List.setIfInBounds_toArray, List.set_cons_zero, List.set_cons_succ]
        refine wpAny_take (i := 14) (oi := ⟨some 48, _, _, _, _, _⟩) (v := (.bool true)) rfl (by kernel_rfl) (by kernel_rfl) (by kernel_rfl) (fun _ _ _ h => h) (Or.inl ⟨rfl, fun w => by kernel_rfl⟩) ?_
        simp only [Act.put, List.setIfInBounds_toArray, List.set_cons_zero, List.set_cons_succ]
        refine wpAny_take (i := 15) (oi := ⟨some 49, _, _, _, _, _⟩) (v := (.bool true)) rfl (by kernel_rfl) (by kernel_rfl) (by kernel_rfl) (fun _ _ _ h => h) (Or.inl ⟨rfl, fun w => by kernel_rfl⟩) ?_
        simp only [Act.put, List.setIfInBounds_toArray, List.set_cons_zero, List.set_cons_succ]
        refine wpAny_take (i := 16) (oi := ⟨some 50, _, _, _, _, _⟩) (v := (.slice sp n cp)) rfl (by kernel_rfl) (by kernel_rfl) (by kernel_rfl) (fun _ _ _ h => h) (Or.inl ⟨rfl, fun w => by kernel_rfl⟩) ?_
        simp only [Act.put, List.setIfInBounds_toArray, List.set_cons_zero, List.set_cons_succ]
        refine wpAny_take (i := 18) (oi := ⟨some 52, _, _, _, _, _⟩) (v := (.string (strOfNums xs))) rfl (by kernel_rfl) (by kernel_rfl) (by kernel_rfl) (fun _ _ _ h => h) (Or.inl ⟨rfl, fun w => by kernel_rfl⟩) ?_
        simp only [Act.put, List.setIfInBounds_toArray, List.set_cons_zero, List.set_cons_succ]
        refine wpAny_all (rs := [17]) (by kernel_rfl) (by simp) ?_
        intro i hi
        simp only [List.mem_cons, List.not_mem_nil, or_false] at hi
        subst hi
        refine op_val (o := ⟨some 51, _, _, _, _, _⟩) (.string (strOfNums xs)) rfl rfl (run_conv_str _ _ _ _ sp n cp xs rfl rfl (Fz10.out.2.2.2.1)) ?_
        simp only [Act.put, List.setIfInBounds_toArray, List.set_cons_zero, List.set_cons_succ]
        refine wpAny_take (i := 19) (oi := ⟨some 53, _, _, _, _, _⟩) (v := (.bool true)) rfl (by kernel_rfl) (by kernel_rfl) (by kernel_rfl) (fun _ _ _ h => h) (Or.inl ⟨rfl, fun w => run_str_eql _ _ _ _ _ xs xs true rfl rfl rfl (by simp) HR.out.2.2.1 HR.out.2.2.1⟩) ?_
        simp only [Act.put, List.setIfInBounds_toArray, List.set_cons_zero, List.set_cons_succ]
        refine wpAny_take (i := 20) (oi := ⟨some 54, _, _, _, _, _⟩) (v := (.bool true)) rfl (by kernel_rfl) (by kernel_rfl) (by kernel_rfl) (fun _ _ _ h => h) (Or.inl ⟨rfl, fun w => by kernel_rfl⟩) ?_
        simp only [Act.put, List.setIfInBounds_toArray, List.set_cons_zero, List.set_cons_succ]
        refine wpAny_take (i := 21) (oi := ⟨some 6, _, _, _, _, _⟩) (v := (.bool true)) rfl (by kernel_rfl) (by kernel_rfl) (by kernel_rfl) (fun _ _ _ h => h) (Or.inl ⟨rfl, fun w => by kernel_rfl⟩) ?_
        simp only [Act.put, List.setIfInBounds_toArray, List.set_cons_zero, List.set_cons_succ]
        refine wpAny_done (by kernel_rfl) ?_ _
        go_wp2_with fail
        go_ret
        exact ⟨rfl, by rw [G0.out]; exact Fz10.out.1⟩
    · refine op_val (o := ⟨some 36, _, _, _, _, _⟩) (.agg (ub kx).toArray) rfl rfl (run_load_mid _ _ _ 23 _ rfl g0 0 rfl (ub kx) _ (blk_rangeC (F6.out.2.1)) Try.underlying23 rfl (by rw [HT.out.2.2.2.1]; kernel_rfl)) ?_
      simp only [Act.put, List.setIfInBounds_toArray, List.set_cons_zero, List.set_cons_succ]
      refine wpAny_all (rs := [1, 3]) (by kernel_rfl) (by simp) ?_
      intro i hi
      simp only [List.mem_cons, List.not_mem_nil, or_false] at hi
      rcases hi with rfl | rfl
      · refine op_val (o := ⟨some 35, _, _, _, _, _⟩) (.string (strOfNums (xorV ks c xs n))) rfl rfl (run_conv_str _ _ _ _ (some ⟨go, 0, none⟩) n n (xorV ks c xs n) rfl rfl (F6.out.2.2.2.2.1)) ?_
        simp only [Act.put, List.setIfInBounds_toArray, List.set_cons_zero, List.set_cons_succ]
        refine wpAny_all (rs := [3]) (by kernel_rfl) (by simp) ?_
        intro i hi
        simp only [List.mem_cons, List.not_mem_nil, or_false] at hi
        subst hi
        refine op_val (o := ⟨some 37, _, _, _, _, _⟩) (.agg (ub [0, 0, 0, 0, 0, 0, 0, 0, 0, 0, 0, kx.getD 2 0]).toArray) rfl rfl (run_load_mid _ _ _ 28 _ rfl g8 0 rfl (ub [0, 0, 0, 0, 0, 0, 0, 0, 0, 0, 0, kx.getD 2 0]) _ (blk_rangeC (F6.out.2.2.1)) Try.underlying28 rfl (by rw [HT.out.2.2.2.2]; kernel_rfl)) ?_
        simp only [Act.put, List.setIfInBounds_toArray, List.set_cons_zero, List.set_cons_succ]
        refine wpAny_all (rs := [6]) (by kernel_rfl) (by simp) ?_
        intro i hi
        simp only [List.mem_cons, List.not_mem_nil, or_false] at hi
        subst hi
        refine op_call (o := ⟨some 40, _, _, _, _, _⟩) 14 #[.agg (ub kx).toArray, .agg (ub [0, 0, 0, 0, 0, 0, 0, 0, 0, 0, 0, kx.getD 2 0]).toArray, .int .u32 ((c : Nat) : Int), .slice sp n cp] rfl rfl (by kernel_rfl) (((refxor_two HT.out c HC.out n cp sp xs (by have := H6.out; omega) W6.drew F6.out.2.2.2.1)).mono fun e z17 ⟨az17, cz17, he, qz17, rz17, _, _⟩ => ⟨.slice az17 n cz17, he, ?_⟩)
        simp only [Act.put, List.setIfInBounds_toArray, List.set_cons_zero, List.set_cons_succ]
        have Fz17 := Lib.hid (show Below g0 w z17 ∧ Blk z17 g0 23 (ub kx).toArray ∧ Blk z17 g8 28 (ub [0, 0, 0, 0, 0, 0, 0, 0, 0, 0, 0, kx.getD 2 0]).toArray ∧ Row z17 sp n xs ∧ Row z17 (some ⟨go, 0, none⟩) n (xorV ks c xs n) ∧ Row z17 (some ⟨g2, 0, none⟩) n xs ∧ Row z17 az17 n (xorV ks c xs n) from ⟨F6.out.1.trans (qz17.mono (by have h1 := F6.out.1.size; have h2 := G0.out; omega)), F6.out.2.1.below qz17, F6.out.2.2.1.below qz17, F6.out.2.2.2.1.keep qz17, F6.out.2.2.2.2.1.keep qz17, F6.out.2.2.2.2.2.keep qz17, rz17⟩)
        clear qz17
        refine wpAny_all (rs := [7]) (by kernel_rfl) (by simp) ?_
        intro i hi
        simp only [List.mem_cons, List.not_mem_nil, or_false] at hi
        subst hi
        refine op_val (o := ⟨some 41, _, _, _, _, _⟩) (.string (strOfNums (xorV ks c xs n))) rfl rfl (run_conv_str _ _ _ _ az17 n cz17 (xorV ks c xs n) rfl rfl (Fz17.out.2.2.2.2.2.2)) ?_
        simp only [Act.put, List.setIfInBounds_toArray, List.set_cons_zero, List.set_cons_succ]
        refine wpAny_take (i := 8) (oi := ⟨some 42, _, _, _, _, _⟩) (v := (.bool true)) rfl (by kernel_rfl) (by kernel_rfl) (by kernel_rfl) (fun _ _ _ h => h) (Or.inl ⟨rfl, fun w => run_str_eql _ _ _ _ _ (xorV ks c xs n) (xorV ks c xs n) true rfl rfl rfl (by simp) (xorV_byte HT.out _ _ _ HR.out.2.2.1) (xorV_byte HT.out _ _ _ HR.out.2.2.1)⟩) ?_
        simp only [Act.put, List.setIfInBounds_toArray, List.set_cons_zero, List.set_cons_succ]
        refine wpAny_take (i := 9) (oi := ⟨some 43, _, _, _, _, _⟩) (v := (.bool true)) rfl (by kernel_rfl) (by kernel_rfl) (by kernel_rfl) (fun _ _ _ h => h) (Or.inl ⟨rfl, fun w => by kernel_rfl⟩) ?_
        simp only [Act.put, List.setIfInBounds_toArray, List.set_cons_zero, List.set_cons_succ]
        refine wpAny_take (i := 10) (oi := ⟨some 44, _, _, _, _, _⟩) (v := (.slice (some ⟨g2, 0, none⟩) n n)) rfl (by kernel_rfl) (by kernel_rfl) (by kernel_rfl) (fun _ _ _ h => h) (Or.inl ⟨rfl, fun w => by kernel_rfl⟩) ?_
        simp only [Act.put, List.setIfInBounds_toArray, List.set_cons_zero, List.set_cons_succ]
        refine wpAny_take (i := 12) (oi := ⟨some 46, _, _, _, _, _⟩) (v := (.string (strOfNums xs))) rfl (by kernel_rfl) (by kernel_rfl) (by kernel_rfl) (fun _ _ _ h => h) (Or.inl ⟨rfl, fun w => by kernel_rfl⟩) ?_
        simp only [Act.put, List.setIfInBounds_toArray, List.set_cons_zero, List.set_cons_succ]
        refine wpAny_all (rs := [11]) (by kernel_rfl) (by simp) ?_
        intro i hi
        simp only [List.mem_cons, List.not_mem_nil, or_false] at hi
        subst hi
        refine op_val (o := ⟨some 45, _, _, _, _, _⟩) (.string (strOfNums xs)) rfl rfl (run_conv_str _ _ _ _ (some ⟨g2, 0, none⟩) n n xs rfl rfl (Fz17.out.2.2.2.2.2.1)) ?_
        simp only [Act.put, List.setIfInBounds_toArray, List.set_cons_zero, List.set_cons_succ]
        refine wpAny_take (i := 13) (oi := ⟨some 47, _, _, _, _, _⟩) (v := (.bool true)) rfl (by kernel_rfl) (by kernel_rfl) (by kernel_rfl) (fun _ _ _ h => h) (Or.inl ⟨rfl, fun w => run_str_eql _ _ _ _ _ xs xs true rfl rfl rfl (by simp) HR.out.2.2.1 HR.out.2.2.1⟩) ?_
        simp only [Act.put, List.setIfInBounds_toArray, List.set_cons_zero, List.set_cons_succ]
        refine wpAny_take (i := 14) (oi := ⟨some 48, _, _, _, _, _⟩) (v := (.bool true)) rfl (by kernel_rfl) (by kernel_rfl) (by kernel_rfl) (fun _ _ _ h => h) (Or.inl ⟨rfl, fun w => by kernel_rfl⟩) ?_
        simp only [Act.put, List.setIfInBounds_toArray, List.set_cons_zero, List.set_cons_succ]
        refine wpAny_take (i := 15) (oi := ⟨some 49, _, _, _, _, _⟩) (v := (.bool true)) rfl (by kernel_rfl) (by kernel_rfl) (by kernel_rfl) (fun _ _ _ h => h) (Or.inl ⟨rfl, fun w => by kernel_rfl⟩) ?_
        simp only [Act.put, List.setIfInBounds_toArray, List.set_cons_zero, List.set_cons_succ]
        refine wpAny_take (i := 16) (oi := ⟨some 50, _, _, _, _, _⟩) (v := (.slice sp n cp)) rfl (by kernel_rfl) (by kernel_rfl) (by kernel_rfl) (fun _ _ _ h => h) (Or.inl ⟨rfl, fun w => by kernel_rfl⟩) ?_
        simp only [Act.put, List.setIfInBounds_toArray, List.set_cons_zero, List.set_cons_succ]
        refine wpAny_take (i := 18) (oi := ⟨some 52, _, _, _, _, _⟩) (v := (.string (strOfNums xs))) rfl (by kernel_rfl) (by kernel_rfl) (by kernel_rfl) (fun _ _ _ h => h) (Or.inl ⟨rfl, fun w => by kernel_rfl⟩) ?_
        simp only [Act.put, List.setIfInBounds_toArray, List.set_cons_zero, List.set_cons_succ]
        refine wpAny_all (rs := [17]) (by kernel_rfl) (by simp) ?_
        intro i hi
        simp only [List.mem_cons, List.not_mem_nil, or_false] at hi
        subst hi
        refine op_val (o := ⟨some 51, _, _, _, _, _⟩) (.string (strOfNums xs)) rfl rfl (run_conv_str _ _ _ _ sp n cp xs rfl rfl (Fz17.out.2.2.2.1)) ?_
        simp only [Act.put, List.setIfInBounds_toArray, List.set_cons_zero, List.set_cons_succ]
        refine wpAny_take (i := 19) (oi := ⟨some 53, _, _, _, _, _⟩) (v := (.bool true)) rfl (by kernel_rfl) (by kernel_rfl) (by kernel_rfl) (fun _ _ _ h => h) (Or.inl ⟨rfl, fun w => run_str_eql _ _ _ _ _ xs xs true rfl rfl rfl (by simp) HR.out.2.2.1 HR.out.2.2.1⟩) ?_
        simp only [Act.put, List.setIfInBounds_toArray, List.set_cons_zero, List.set_cons_succ]
        refine wpAny_take (i := 20) (oi := ⟨some 54, _, _, _, _, _⟩) (v := (.bool true)) rfl (by kernel_rfl) (by kernel_rfl) (by kernel_rfl) (fun _ _ _ h => h) (Or.inl ⟨rfl, fun w => by kernel_rfl⟩) ?_
        simp only [Act.put, List.setIfInBounds_toArray, List.set_cons_zero, List.set_cons_succ]
        refine wpAny_take (i := 21) (oi := ⟨some 6, _, _, _, _, _⟩) (v := (.bool true)) rfl (by kernel_rfl) (by kernel_rfl) (by kernel_rfl) (fun _ _ _ h => h) (Or.inl ⟨rfl, fun w => by kernel_rfl⟩) ?_
        simp only [Act.put, List.setIfInBounds_toArray, List.set_cons_zero, List.set_cons_succ]
        refine wpAny_done (by kernel_rfl) ?_ _
        go_wp2_with fail
        go_ret
        exact ⟨rfl, by rw [G0.out]; exact Fz17.out.1⟩
      · refine op_val (o := ⟨some 37, _, _, _, _, _⟩) (.agg (ub [0, 0, 0, 0, 0, 0, 0, 0, 0, 0, 0, kx.getD 2 0]).toArray) rfl rfl (run_load_mid _ _ _ 28 _ rfl g8 0 rfl (ub [0, 0, 0, 0, 0, 0, 0, 0, 0, 0, 0, kx.getD 2 0]) _ (blk_rangeC (F6.out.2.2.1)) Try.underlying28 rfl (by rw [HT.out.2.2.2.2]; kernel_rfl)) ?_
        simp only [Act.put, List.setIfInBounds_toArray, List.set_cons_zero, List.set_cons_succ]
        refine wpAny_all (rs := [1, 6]) (by kernel_rfl) (by simp) ?_
        intro i hi
        simp only [List.mem_cons, List.not_mem_nil, or_false] at hi
        rcases hi with rfl | rfl
        · refine op_val (o := ⟨some 35, _, _, _, _, _⟩) (.string (strOfNums (xorV ks c xs n))) rfl rfl (run_conv_str _ _ _ _ (some ⟨go, 0, none⟩) n n (xorV ks c xs n) rfl rfl (F6.out.2.2.2.2.1)) ?_
          simp only [Act.put, List.setIfInBounds_toArray, List.set_cons_zero, List.set_cons_succ]
          refine wpAny_all (rs := [6]) (by kernel_rfl) (by simp) ?_
          intro i hi
          simp only [List.mem_cons, List.not_mem_nil, or_false] at hi
          subst hi
          refine op_call (o := ⟨some 40, _, _, _, _, _⟩) 14 #[.agg (ub kx).toArray, .agg (ub [0, 0, 0, 0, 0, 0, 0, 0, 0, 0, 0, kx.getD 2 0]).toArray, .int .u32 ((c : Nat) : Int), .slice sp n cp] rfl rfl (by kernel_rfl) (((refxor_two HT.out c HC.out n cp sp xs (by have := H6.out; omega) W6.drew F6.out.2.2.2.1)).mono fun e z23 ⟨az23, cz23, he, qz23, rz23, _, _⟩ => ⟨.slice az23 n cz23, he, ?_⟩)
          simp only [Act.put, List.setIfInBounds_toArray, List.set_cons_zero, List.set_cons_succ]
          have Fz23 := Lib.hid (show Below g0 w z23 ∧ Blk z23 g0 23 (ub kx).toArray ∧ Blk z23 g8 28 (ub [0, 0, 0, 0, 0, 0, 0, 0, 0, 0, 0, kx.getD 2 0]).toArray ∧ Row z23 sp n xs ∧ Row z23 (some ⟨go, 0, none⟩) n (xorV ks c xs n) ∧ Row z23 (some ⟨g2, 0, none⟩) n xs ∧ Row z23 az23 n (xorV ks c xs n) from ⟨F6.out.1.trans (qz23.mono (by have h1 := F6.out.1.size; have h2 := G0.out; omega)), F6.out.2.1.below qz23, F6.out.2.2.1.below qz23, F6.out.2.2.2.1.keep qz23, F6.out.2.2.2.2.1.keep qz23, F6.out.2.2.2.2.2.keep qz23, rz23⟩)
          clear qz23
          refine wpAny_all (rs := [7]) (by kernel_rfl) (by simp) ?_
          intro i hi
          simp only [List.mem_cons, List.not_mem_nil, or_false] at hi
          subst hi
          refine op_val (o := ⟨some 41, _, _, _, _, _⟩) (.string (strOfNums (xorV ks c xs n))) rfl rfl (run_conv_str _ _ _ _ az23 n cz23 (xorV ks c xs n) rfl rfl (Fz23.out.2.2.2.2.2.2)) ?_
          simp only [Act.put, List.setIfInBounds_toArray, List.set_cons_zero, List.set_cons_succ]
          refine wpAny_take (i := 8) (oi := ⟨some 42, _, _, _, _, _⟩) (v := (.bool true)) rfl (by kernel_rfl) (by kernel_rfl) (by kernel_rfl) (fun _ _ _ h => h) (Or.inl ⟨rfl, fun w => run_str_eql _ _ _ _ _ (xorV ks c xs n) (xorV ks c xs n) true rfl rfl rfl (by simp) (xorV_byte HT.out _ _ _ HR.out.2.2.1) (xorV_byte HT.out _ _ _ HR.out.2.2.1)⟩) ?_
          simp only [Act.put, List.setIfInBounds_toArray, List.set_cons_zero, List.set_cons_succ]
          refine wpAny_take (i := 9) (oi := ⟨some 43, _, _, _, _, _⟩) (v := (.bool true)) rfl (by kernel_rfl) (by kernel_rfl) (by kernel_rfl) (fun _ _ _ h => h) (Or.inl ⟨rfl, fun w => by kernel_rfl⟩) ?_
          simp only [Act.put, List.setIfInBounds_toArray, List.set_cons_zero, List.set_cons_succ]
          refine wpAny_take (i := 10) (oi := ⟨some 44, _, _, _, _, _⟩) (v := (.slice (some ⟨g2, 0, none⟩) n n)) rfl (by kernel_rfl) (by kernel_rfl) (by kernel_rfl) (fun _ _ _ h => h) (Or.inl ⟨rfl, fun w => by kernel_rfl⟩) ?_
          simp only [Act.put, List.setIfInBounds_toArray, List.set_cons_zero, List.set_cons_succ]
          refine wpAny_take (i := 12) (oi := ⟨some 46, _, _, _, _, _⟩) (v := (.string (strOfNums xs))) rfl (by kernel_rfl) (by kernel_rfl) (by kernel_rfl) (fun _ _ _ h => h) (Or.inl ⟨rfl, fun w => by kernel_rfl⟩) ?_
          simp only [Act.put, List.setIfInBounds_toArray, List.set_cons_zero, List.set_cons_succ]
          refine wpAny_all (rs := [11]) (by kernel_rfl) (by simp) ?_
          intro i hi
          simp only [List.mem_cons, List.not_mem_nil, or_false] at hi
          subst hi
          refine op_val (o := ⟨some 45, _, _, _, _, _⟩) (.string (strOfNums xs)) rfl rfl (run_conv_str _ _ _ _ (some ⟨g2, 0, none⟩) n n xs rfl rfl (Fz23.out.2.2.2.2.2.1)) ?_
          simp only [Act.put, List.setIfInBounds_toArray, List.set_cons_zero, List.set_cons_succ]
          refine wpAny_take (i := 13) (oi := ⟨some 47, _, _, _, _, _⟩) (v := (.bool true)) rfl (by kernel_rfl) (by kernel_rfl) (by kernel_rfl) (fun _ _ _ h => h) (Or.inl ⟨rfl, fun w => run_str_eql _ _ _ _ _ xs xs true rfl rfl rfl (by simp) HR.out.2.2.1 HR.out.2.2.1⟩) ?_
          simp only [Act.put, List.setIfInBounds_toArray, List.set_cons_zero, List.set_cons_succ]
          refine wpAny_take (i := 14) (oi := ⟨some 48, _, _, _, _, _⟩) (v := (.bool true)) rfl (by kernel_rfl) (by kernel_rfl) (by kernel_rfl) (fun _ _ _ h => h) (Or.inl ⟨rfl, fun w => by kernel_rfl⟩) ?_
          simp only [Act.put, List.setIfInBounds_toArray, List.set_cons_zero, List.set_cons_succ]
          refine wpAny_take (i := 15) (oi := ⟨some 49, _, _, _, _, _⟩) (v := (.bool true)) rfl (by kernel_rfl) (by kernel_rfl) (by kernel_rfl) (fun _ _ _ h => h) (Or.inl ⟨rfl, fun w => by kernel_rfl⟩) ?_
          simp only [Act.put, List.setIfInBounds_toArray, List.set_cons_zero, List.set_cons_succ]
          refine wpAny_take (i := 16) (oi := ⟨some 50, _, _, _, _, _⟩) (v := (.slice sp n cp)) rfl (by kernel_rfl) (by kernel_rfl) (by kernel_rfl) (fun _ _ _ h => h) (Or.inl ⟨rfl, fun w => by kernel_rfl⟩) ?_
          simp only [Act.put, List.setIfInBounds_toArray, List.set_cons_zero, List.set_cons_succ]
          refine wpAny_take (i := 18) (oi := ⟨some 52, _, _, _, _, _⟩) (v := (.string (strOfNums xs))) rfl (by kernel_rfl) (by kernel_rfl) (by kernel_rfl) (fun _ _ _ h => h) (Or.inl ⟨rfl, fun w => by kernel_rfl⟩) ?_
          simp only [Act.put, List.setIfInBounds_toArray, List.set_cons_zero, List.set_cons_succ]
          refine wpAny_all (rs := [17]) (by kernel_rfl) (by simp) ?_
          intro i hi
          simp only [List.mem_cons, List.not_mem_nil, or_false] at hi
          subst hi
          refine op_val (o := ⟨some 51, _, _, _, _, _⟩) (.string (strOfNums xs)) rfl rfl (run_conv_str _ _ _ _ sp n cp xs rfl rfl (Fz23.out.2.2.2.1)) ?_
          simp only [Act.put, List.setIfInBounds_toArray, List.set_cons_zero, List.set_cons_succ]
          refine wpAny_take (i := 19) (oi := ⟨some 53, _, _, _, _, _⟩) (v := (.bool true)) rfl (by kernel_rfl) (by kernel_rfl) (by kernel_rfl) (fun _ _ _ h => h) (Or.inl ⟨rfl, fun w => run_str_eql _ _ _ _ _ xs xs true rfl rfl rfl (by simp) HR.out.2.2.1 HR.out.2.2.1⟩) ?_
          simp only [Act.put, List.setIfInBounds_toArray, List.set_cons_zero, List.set_cons_succ]
          refine wpAny_take (i := 20) (oi := ⟨some 54, _, _, _, _, _⟩) (v := (.bool true)) rfl (by kernel_rfl) (by kernel_rfl) (by kernel_rfl) (fun _ _ _ h => h) (Or.inl ⟨rfl, fun w => by kernel_rfl⟩) ?_
          simp only [Act.put, List.setIfInBounds_toArray, List.set_cons_zero, List.set_cons_succ]
          refine wpAny_take (i := 21) (oi := ⟨some 6, _, _, _, _, _⟩) (v := (.bool true)) rfl (by kernel_rfl) (by kernel_rfl) (by kernel_rfl) (fun _ _ _ h => h) (Or.inl ⟨rfl, fun w => by kernel_rfl⟩) ?_
          simp only [Act.put, List.setIfInBounds_toArray, List.set_cons_zero, List.set_cons_succ]
          refine wpAny_done (by kernel_rfl) ?_ _
          go_wp2_with fail
          go_ret
          exact ⟨rfl, by rw [G0.out]; exact Fz23.out.1⟩
        · refine op_call (o := ⟨some 40, _, _, _, _, _⟩) 14 #[.agg (ub kx).toArray, .agg (ub [0, 0, 0, 0, 0, 0, 0, 0, 0, 0, 0, kx.getD 2 0]).toArray, .int .u32 ((c : Nat) : Int), .slice sp n cp] rfl rfl (by kernel_rfl) (((refxor_two HT.out c HC.out n cp sp xs (by have := H6.out; omega) W6.drew F6.out.2.2.2.1)).mono fun e z27 ⟨az27, cz27, he, qz27, rz27, _, _⟩ => ⟨.slice az27 n cz27, he, ?_⟩)
          simp only [Act.put, List.setIfInBounds_toArray, List.set_cons_zero, List.set_cons_succ]
          have Fz27 := Lib.hid (show Below g0 w z27 ∧ Blk z27 g0 23 (ub kx).toArray ∧ Blk z27 g8 28 (ub [0, 0, 0, 0, 0, 0, 0, 0, 0, 0, 0, kx.getD 2 0]).toArray ∧ Row z27 sp n xs ∧ Row z27 (some ⟨go, 0, none⟩) n (xorV ks c xs n) ∧ Row z27 (some ⟨g2, 0, none⟩) n xs ∧ Row z27 az27 n (xorV ks c xs n) from ⟨F6.out.1.trans (qz27.mono (by have h1 := F6.out.1.size; have h2 := G0.out; omega)), F6.out.2.1.below qz27, F6.out.2.2.1.below qz27, F6.out.2.2.2.1.keep qz27, F6.out.2.2.2.2.1.keep qz27, F6.out.2.2.2.2.2.keep qz27, rz27⟩)
          clear qz27
          refine wpAny_all (rs := [1, 7]) (by kernel_rfl) (by simp) ?_
          intro i hi
          simp only [List.mem_cons, List.not_mem_nil, or_false] at hi
          rcases hi with rfl | rfl
          · refine op_val (o := ⟨some 35, _, _, _, _, _⟩) (.string (strOfNums (xorV ks c xs n))) rfl rfl (run_conv_str _ _ _ _ (some ⟨go, 0, none⟩) n n (xorV ks c xs n) rfl rfl (Fz27.out.2.2.2.2.1)) ?_
            simp only [Act.put, List.setIfInBounds_toArray, List.set_cons_zero, List.set_cons_succ]
            refine wpAny_all (rs := [7]) (by kernel_rfl) (by simp) ?_
            intro i hi
            simp only [List.mem_cons, List.not_mem_nil, or_false] at hi
            subst hi
            refine op_val (o := ⟨some 41, _, _, _, _, _⟩) (.string (strOfNums (xorV ks c xs n))) rfl rfl (run_conv_str _ _ _ _ az27 n cz27 (xorV ks c xs n) rfl rfl (Fz27.out.2.2.2.2.2.2)) ?_
            simp only [Act.put, List.setIfInBounds_toArray, List.set_cons_zero, List.set_cons_succ]
            refine wpAny_take (i := 8) (oi := ⟨some 42, _, _, _, _, _⟩) (v := (.bool true)) rfl (by kernel_rfl) (by kernel_rfl) (by kernel_rfl) (fun _ _ _ h => h) (Or.inl ⟨rfl, fun w => run_str_eql _ _ _ _ _ (xorV ks c xs n) (xorV ks c xs n) true rfl rfl rfl (by simp) (xorV_byte HT.out _ _ _ HR.out.2.2.1) (xorV_byte HT.out _ _ _ HR.out.2.2.1)⟩) ?_
            simp only [Act.put, List.setIfInBounds_toArray, List.set_cons_zero, List.set_cons_succ]
            refine wpAny_take (i := 9) (oi := ⟨some 43, _, _, _, _, _⟩) (v := (.bool true)) rfl (by kernel_rfl) (by kernel_rfl) (by kernel_rfl) (fun _ _ _ h => h) (Or.inl ⟨rfl, fun w => by kernel_rfl⟩) ?_
            simp only [Act.put, List.setIfInBounds_toArray, List.set_cons_zero, List.set_cons_succ]
            refine wpAny_take (i := 10) (oi := ⟨some 44, _, _, _, _, _⟩) (v := (.slice (some ⟨g2, 0, none⟩) n n)) rfl (by kernel_rfl) (by kernel_rfl) (by kernel_rfl) (fun _ _ _ h => h) (Or.inl ⟨rfl, fun w => by kernel_rfl⟩) ?_
            simp only [Act.put, List.setIfInBounds_toArray, List.set_cons_zero, List.set_cons_succ]
            refine wpAny_take (i := 12) (oi := ⟨some 46, _, _, _, _, _⟩) (v := (.string (strOfNums xs))) rfl (by kernel_rfl) (by kernel_rfl) (by kernel_rfl) (fun _ _ _ h => h) (Or.inl ⟨rfl, fun w => by kernel_rfl⟩) ?_
            simp only [Act.put, List.setIfInBounds_toArray, List.set_cons_zero, List.set_cons_succ]
            refine wpAny_all (rs := [11]) (by kernel_rfl) (by simp) ?_
            intro i hi
            simp only [List.mem_cons, List.not_mem_nil, or_false] at hi
            subst hi
            refine op_val (o := ⟨some 45, _, _, _, _, _⟩) (.string (strOfNums xs)) rfl rfl (run_conv_str _ _ _ _ (some ⟨g2, 0, none⟩) n n xs rfl rfl (Fz27.out.2.2.2.2.2.1)) ?_
            simp only [Act.put, List.setIfInBounds_toArray, List.set_cons_zero, List.set_cons_succ]
            refine wpAny_take (i := 13) (oi := ⟨some 47, _, _, _, _, _⟩) (v := (.bool true)) rfl (by kernel_rfl) (by kernel_rfl) (by kernel_rfl) (fun _ _ _ h => h) (Or.inl ⟨rfl, fun w => run_str_eql _ _ _ _ _ xs xs true rfl rfl rfl (by simp) HR.out.2.2.1 HR.out.2.2.1⟩) ?_
            simp only [Act.put, List.setIfInBounds_toArray, List.set_cons_zero, List.set_cons_succ]
            refine wpAny_take (i := 14) (oi := ⟨some 48, _, _, _, _, _⟩) (v := (.bool true)) rfl (by kernel_rfl) (by kernel_rfl) (by kernel_rfl) (fun _ _ _ h => h) (Or.inl ⟨rfl, fun w => by kernel_rfl⟩) ?_
            simp only [Act.put, List.setIfInBounds_toArray, List.set_cons_zero, List.set_cons_succ]
            refine wpAny_take (i := 15) (oi := ⟨some 49, _, _, _, _, _⟩) (v := (.bool true)) rfl (by kernel_rfl) (by kernel_rfl) (by kernel_rfl) (fun _ _ _ h => h) (Or.inl ⟨rfl, fun w => by kernel_rfl⟩) ?_
            simp only [Act.put, List.setIfInBounds_toArray, List.set_cons_zero, List.set_cons_succ]
            refine wpAny_take (i := 16) (oi := ⟨some 50, _, _, _, _, _⟩) (v := (.slice sp n cp)) rfl (by kernel_rfl) (by kernel_rfl) (by kernel_rfl) (fun _ _ _ h => h) (Or.inl ⟨rfl, fun w => by kernel_rfl⟩) ?_
            simp only [Act.put, List.setIfInBounds_toArray, List.set_cons_zero, List.set_cons_succ]
            refine wpAny_take (i := 18) (oi := ⟨some 52, _, _, _, _, _⟩) (v := (.string (strOfNums xs))) rfl (by kernel_rfl) (by kernel_rfl) (by kernel_rfl) (fun _ _ _ h => h) (Or.inl ⟨rfl, fun w => by kernel_rfl⟩) ?_
            simp only [Act.put, List.setIfInBounds_toArray, List.set_cons_zero, List.set_cons_succ]
            refine wpAny_all (rs := [17]) (by kernel_rfl) (by simp) ?_
            intro i hi
            simp only [List.mem_cons, List.not_mem_nil, or_false] at hi
            subst hi
            refine op_val (o := ⟨some 51, _, _, _, _, _⟩) (.string (strOfNums xs)) rfl rfl (run_conv_str _ _ _ _ sp n cp xs rfl rfl (Fz27.out.2.2.2.1)) ?_
            simp only [Act.put, List.setIfInBounds_toArray, List.set_cons_zero, List.set_cons_succ]
            refine wpAny_take (i := 19) (oi := ⟨some 53, _, _, _, _, _⟩) (v := (.bool true)) rfl (by kernel_rfl) (by kernel_rfl) (by kernel_rfl) (fun _ _ _ h => h) (Or.inl ⟨rfl, fun w => run_str_eql _ _ _ _ _ xs xs true rfl rfl rfl (by simp) HR.out.2.2.1 HR.out.2.2.1⟩) ?_
            simp only [Act.put, List.setIfInBounds_toArray, List.set_cons_zero, List.set_cons_succ]
            refine wpAny_take (i := 20) (oi := ⟨some 54, _, _, _, _, _⟩) (v := (.bool true)) rfl (by kernel_rfl) (by kernel_rfl) (by kernel_rfl) (fun _ _ _ h => h) (Or.inl ⟨rfl, fun w => by kernel_rfl⟩) ?_
            simp only [Act.put, List.setIfInBounds_toArray, List.set_cons_zero, List.set_cons_succ]
            refine wpAny_take (i := 21) (oi := ⟨some 6, _, _, _, _, _⟩) (v := (.bool true)) rfl (by kernel_rfl) (by kernel_rfl) (by kernel_rfl) (fun _ _ _ h => h) (Or.inl ⟨rfl, fun w => by kernel_rfl⟩) ?_
            simp only [Act.put, List.setIfInBounds_toArray, List.set_cons_zero, List.set_cons_succ]
            refine wpAny_done (by kernel_rfl) ?_ _
            go_wp2_with fail
            go_ret
            exact ⟨rfl, by rw [G0.out]; exact Fz27.out.1⟩
          · refine op_val (o := ⟨some 41, _, _, _, _, _⟩) (.string (strOfNums (xorV ks c xs n))) rfl rfl (run_conv_str _ _ _ _ az27 n cz27 (xorV ks c xs n) rfl rfl (Fz27.out.2.2.2.2.2.2)) ?_
            simp only [Act.put, List.setIfInBounds_toArray, List.set_cons_zero, List.set_cons_succ]
            refine wpAny_all (rs := [1]) (by kernel_rfl) (by simp) ?_
            intro i hi
            simp only [List.mem_cons, List.not_mem_nil, or_false] at hi
            subst hi
            refine op_val (o := ⟨some 35, _, _, _, _, _⟩) (.string (strOfNums (xorV ks c xs n))) rfl rfl (run_conv_str _ _ _ _ (some ⟨go, 0, none⟩) n n (xorV ks c xs n) rfl rfl (Fz27.out.2.2.2.2.1)) ?_
            simp only [Act.put, List.setIfInBounds_toArray, List.set_cons_zero, List.set_cons_succ]
            refine wpAny_take (i := 8) (oi := ⟨some 42, _, _, _, _, _⟩) (v := (.bool true)) rfl (by kernel_rfl) (by kernel_rfl) (by kernel_rfl) (fun _ _ _ h => h) (Or.inl ⟨rfl, fun w => run_str_eql _ _ _ _ _ (xorV ks c xs n) (xorV ks c xs n) true rfl rfl rfl (by simp) (xorV_byte HT.out _ _ _ HR.out.2.2.1) (xorV_byte HT.out _ _ _ HR.out.2.2.1)⟩) ?_
            simp only [Act.put, List.setIfInBounds_toArray, List.set_cons_zero, List.set_cons_succ]
            refine wpAny_take (i := 9) (oi := ⟨some 43, _, _, _, _, _⟩) (v := (.bool true)) rfl (by kernel_rfl) (by kernel_rfl) (by kernel_rfl) (fun _ _ _ h => h) (Or.inl ⟨rfl, fun w => by kernel_rfl⟩) ?_
            simp only [Act.put, List.setIfInBounds_toArray, List.set_cons_zero, List.set_cons_succ]
            refine wpAny_take (i := 10) (oi := ⟨some 44, _, _, _, _, _⟩) (v := (.slice (some ⟨g2, 0, none⟩) n n)) rfl (by kernel_rfl) (by kernel_rfl) (by kernel_rfl) (fun _ _ _ h => h) (Or.inl ⟨rfl, fun w => by kernel_rfl⟩) ?_
            simp only [Act.put, List.setIfInBounds_toArray, List.set_cons_zero, List.set_cons_succ]
            refine wpAny_take (i := 12) (oi := ⟨some 46, _, _, _, _, _⟩) (v := (.string (strOfNums xs))) rfl (by kernel_rfl) (by kernel_rfl) (by kernel_rfl) (fun _ _ _ h => h) (Or.inl ⟨rfl, fun w => by kernel_rfl⟩) ?_
            simp only [Act.put, List.setIfInBounds_toArray, List.set_cons_zero, List.set_cons_succ]
            refine wpAny_all (rs := [11]) (by kernel_rfl) (by simp) ?_
            intro i hi
            simp only [List.mem_cons, List.not_mem_nil, or_false] at hi
            subst hi
            refine op_val (o := ⟨some 45, _, _, _, _, _⟩) (.string (strOfNums xs)) rfl rfl (run_conv_str _ _ _ _ (some ⟨g2, 0, none⟩) n n xs rfl rfl (Fz27.out.2.2.2.2.2.1)) ?_
            simp only [Act.put, List.setIfInBounds_toArray, List.set_cons_zero, List.set_cons_succ]
            refine wpAny_take (i := 13) (oi := ⟨some 47, _, _, _, _, _⟩) (v := (.bool true)) rfl (by kernel_rfl) (by kernel_rfl) (by kernel_rfl) (fun _ _ _ h => h) (Or.inl ⟨rfl, fun w => run_str_eql _ _ _ _ _ xs xs true rfl rfl rfl (by simp) HR.out.2.2.1 HR.out.2.2.1⟩) ?_
            simp only [Act.put, List.setIfInBounds_toArray, List.set_cons_zero, List.set_cons_succ]
            refine wpAny_take (i := 14) (oi := ⟨some 48, _, _, _, _, _⟩) (v := (.bool true)) rfl (by kernel_rfl) (by kernel_rfl) (by kernel_rfl) (fun _ _ _ h => h) (Or.inl ⟨rfl, fun w => by kernel_rfl⟩) ?_
            simp only [Act.put, List.setIfInBounds_toArray, List.set_cons_zero, List.set_cons_succ]
            refine wpAny_take (i := 15) (oi := ⟨some 49, _, _, _, _, _⟩) (v := (.bool true)) rfl (by kernel_rfl) (by kernel_rfl) (by kernel_rfl) (fun _ _ _ h => h) (Or.inl ⟨rfl, fun w => by kernel_rfl⟩) ?_
            simp only [Act.put, List.setIfInBounds_toArray, List.set_cons_zero, List.set_cons_succ]
            refine wpAny_take (i := 16) (oi := ⟨some 50, _, _, _, _, _⟩) (v := (.slice sp n cp)) rfl (by kernel_rfl) (by kernel_rfl) (by kernel_rfl) (fun _ _ _ h => h) (Or.inl ⟨rfl, fun w => by kernel_rfl⟩) ?_
            simp only [Act.put, List.setIfInBounds_toArray, List.set_cons_zero, List.set_cons_succ]
            refine wpAny_take (i := 18) (oi := ⟨some 52, _, _, _, _, _⟩) (v := (.string (strOfNums xs))) rfl (by kernel_rfl) (by kernel_rfl) (by kernel_rfl) (fun _ _ _ h => h) (Or.inl ⟨rfl, fun w => by kernel_rfl⟩) ?_
            simp only [Act.put, List.setIfInBounds_toArray, List.set_cons_zero, List.set_cons_succ]
            refine wpAny_all (rs := [17]) (by kernel_rfl) (by simp) ?_
            intro i hi
            simp only [List.mem_cons, List.not_mem_nil, or_false] at hi
            subst hi
            refine op_val (o := ⟨some 51, _, _, _, _, _⟩) (.string (strOfNums xs)) rfl rfl (run_conv_str _ _ _ _ sp n cp xs rfl rfl (Fz27.out.2.2.2.1)) ?_
            simp only [Act.put, List.setIfInBounds_toArray, List.set_cons_zero, List.set_cons_succ]
            refine wpAny_take (i := 19) (oi := ⟨some 53, _, _, _, _, _⟩) (v := (.bool true)) rfl (by kernel_rfl) (by kernel_rfl) (by kernel_rfl) (fun _ _ _ h => h) (Or.inl ⟨rfl, fun w => run_str_eql _ _ _ _ _ xs xs true rfl rfl rfl (by simp) HR.out.2.2.1 HR.out.2.2.1⟩) ?_
            simp only [Act.put, List.setIfInBounds_toArray, List.set_cons_zero, List.set_cons_succ]
            refine wpAny_take (i := 20) (oi := ⟨some 54, _, _, _, _, _⟩) (v := (.bool true)) rfl (by kernel_rfl) (by kernel_rfl) (by kernel_rfl) (fun _ _ _ h => h) (Or.inl ⟨rfl, fun w => by kernel_rfl⟩) ?_
            simp only [Act.put, List.setIfInBounds_toArray, List.set_cons_zero, List.set_cons_succ]
            refine wpAny_take (i := 21) (oi := ⟨some 6, _, _, _, _, _⟩) (v := (.bool true)) rfl (by kernel_rfl) (by kernel_rfl) (by kernel_rfl) (fun _ _ _ h => h) (Or.inl ⟨rfl, fun w => by kernel_rfl⟩) ?_
            simp only [Act.put, List.setIfInBounds_toArray, List.set_cons_zero, List.set_cons_succ]
            refine wpAny_done (by kernel_rfl) ?_ _
            go_wp2_with fail
            go_ret
            exact ⟨rfl, by rw [G0.out]; exact Fz27.out.1⟩
    · refine op_val (o := ⟨some 37, _, _, _, _, _⟩) (.agg (ub [0, 0, 0, 0, 0, 0, 0, 0, 0, 0, 0, kx.getD 2 0]).toArray) rfl rfl (run_load_mid _ _ _ 28 _ rfl g8 0 rfl (ub [0, 0, 0, 0, 0, 0, 0, 0, 0, 0, 0, kx.getD 2 0]) _ (blk_rangeC (F6.out.2.2.1)) Try.underlying28 rfl (by rw [HT.out.2.2.2.2]; kernel_rfl)) ?_
      simp only [Act.put, List.setIfInBounds_toArray, List.set_cons_zero, List.set_cons_succ]
      refine wpAny_all (rs := [1, 2]) (by kernel_rfl) (by simp) ?_
      intro i hi
      simp only [List.mem_cons, List.not_mem_nil, or_false] at hi
      rcases hi with rfl | rfl
      · refine op_val (o := ⟨some 35, _, _, _, _, _⟩) (.string (strOfNums (xorV ks c xs n))) rfl rfl (run_conv_str _ _ _ _ (some ⟨go, 0, none⟩) n n (xorV ks c xs n) rfl rfl (F6.out.2.2.2.2.1)) ?_
        simp only [Act.put, List.setIfInBounds_toArray, List.set_cons_zero, List.set_cons_succ]
        refine wpAny_all (rs := [2]) (by kernel_rfl) (by simp) ?_
        intro i hi
        simp only [List.mem_cons, List.not_mem_nil, or_false] at hi
        subst hi
        refine op_val (o := ⟨some 36, _, _, _, _, _⟩) (.agg (ub kx).toArray) rfl rfl (run_load_mid _ _ _ 23 _ rfl g0 0 rfl (ub kx) _ (blk_rangeC (F6.out.2.1)) Try.underlying23 rfl (by rw [HT.out.2.2.2.1]; kernel_rfl)) ?_
        simp only [Act.put, List.setIfInBounds_toArray, List.set_cons_zero, List.set_cons_succ]
        refine wpAny_all (rs := [6]) (by kernel_rfl) (by simp) ?_
        intro i hi
        simp only [List.mem_cons, List.not_mem_nil, or_false] at hi
        subst hi
        refine op_call (o := ⟨some 40, _, _, _, _, _⟩) 14 #[.agg (ub kx).toArray, .agg (ub [0, 0, 0, 0, 0, 0, 0, 0, 0, 0, 0, kx.getD 2 0]).toArray, .int .u32 ((c : Nat) : Int), .slice sp n cp] rfl rfl (by kernel_rfl) (((refxor_two HT.out c HC.out n cp sp xs (by have := H6.out; omega) W6.drew F6.out.2.2.2.1)).mono fun e z39 ⟨az39, cz39, he, qz39, rz39, _, _⟩ => ⟨.slice az39 n cz39, he, ?_⟩)
        simp only [Act.put, List.setIfInBounds_toArray, List.set_cons_zero, List.set_cons_succ]
        have Fz39 := Lib.hid (show Below g0 w z39 ∧ Blk z39 g0 23 (ub kx).toArray ∧ Blk z39 g8 28 (ub [0, 0, 0, 0, 0, 0, 0, 0, 0, 0, 0, kx.getD 2 0]).toArray ∧ Row z39 sp n xs ∧ Row z39 (some ⟨go, 0, none⟩) n (xorV ks c xs n) ∧ Row z39 (some ⟨g2, 0, none⟩) n xs ∧ Row z39 az39 n (xorV ks c xs n) from ⟨F6.out.1.trans (qz39.mono (by have h1 := F6.out.1.size; have h2 := G0.out; omega)), F6.out.2.1.below qz39, F6.out.2.2.1.below qz39, F6.out.2.2.2.1.keep qz39, F6.out.2.2.2.2.1.keep qz39, F6.out.2.2.2.2.2.keep qz39, rz39⟩)
        clear qz39
        refine wpAny_all (rs := [7]) (by kernel_rfl) (by simp) ?_
        intro i hi
        simp only [List.mem_cons, List.not_mem_nil, or_false] at hi
        subst hi
        refine op_val (o := ⟨some 41, _, _, _, _, _⟩) (.string (strOfNums (xorV ks c xs n))) rfl rfl (run_conv_str _ _ _ _ az39 n cz39 (xorV ks c xs n) rfl rfl (Fz39.out.2.2.2.2.2.2)) ?_
        simp only [Act.put, List.setIfInBounds_toArray, List.set_cons_zero, List.set_cons_succ]
        refine wpAny_take (i := 8) (oi := ⟨some 42, _, _, _, _, _⟩) (v := (.bool true)) rfl (by kernel_rfl) (by kernel_rfl) (by kernel_rfl) (fun _ _ _ h => h) (Or.inl ⟨rfl, fun w => run_str_eql _ _ _ _ _ (xorV ks c xs n) (xorV ks c xs n) true rfl rfl rfl (by simp) (xorV_byte HT.out _ _ _ HR.out.2.2.1) (xorV_byte HT.out _ _ _ HR.out.2.2.1)⟩) ?_
        simp only [Act.put, List.setIfInBounds_toArray, List.set_cons_zero, List.set_cons_succ]
        refine wpAny_take (i := 9) (oi := ⟨some 43, _, _, _, _, _⟩) (v := (.bool true)) rfl (by kernel_rfl) (by kernel_rfl) (by kernel_rfl) (fun _ _ _ h => h) (Or.inl ⟨rfl, fun w => by kernel_rfl⟩) ?_
        simp only [Act.put, List.setIfInBounds_toArray, List.set_cons_zero, List.set_cons_succ]
        refine wpAny_take (i := 10) (oi := ⟨some 44, _, _, _, _, _⟩) (v := (.slice (some ⟨g2, 0, none⟩) n n)) rfl (by kernel_rfl) (by kernel_rfl) (by kernel_rfl) (fun _ _ _ h => h) (Or.inl ⟨rfl, fun w => by kernel_rfl⟩) ?_
        simp only [Act.put, List.setIfInBounds_toArray, List.set_cons_zero, List.set_cons_succ]
        refine wpAny_take (i := 12) (oi := ⟨some 46, _, _, _, _, _⟩) (v := (.string (strOfNums xs))) rfl (by kernel_rfl) (by kernel_rfl) (by kernel_rfl) (fun _ _ _ h => h) (Or.inl ⟨rfl, fun w => by kernel_rfl⟩) ?_
        simp only [Act.put, List.setIfInBounds_toArray, List.set_cons_zero, List.set_cons_succ]
        refine wpAny_all (rs := [11]) (by kernel_rfl) (by simp) ?_
        intro i hi
        simp only [List.mem_cons, List.not_mem_nil, or_false] at hi
        subst hi
        refine op_val (o := ⟨some 45, _, _, _, _, _⟩) (.string (strOfNums xs)) rfl rfl (run_conv_str _ _ _ _ (some ⟨g2, 0, none⟩) n n xs rfl rfl (Fz39.out.2.2.2.2.2.1)) ?_
        simp only [Act.put, List.setIfInBounds_toArray, List.set_cons_zero, List.set_cons_succ]
        refine wpAny_take (i := 13) (oi := ⟨some 47, _, _, _, _, _⟩) (v := (.bool true)) rfl (by kernel_rfl) (by kernel_rfl) (by kernel_rfl) (fun _ _ _ h => h) (Or.inl ⟨rfl, fun w => run_str_eql _ _ _ _ _ xs xs true rfl rfl rfl (by simp) HR.out.2.2.1 HR.out.2.2.1⟩) ?_
        simp only [Act.put, List.setIfInBounds_toArray, List.set_cons_zero, List.set_cons_succ]
        refine wpAny_take (i := 14) (oi := ⟨some 48, _, _, _, _, _⟩) (v := (.bool true)) rfl (by kernel_rfl) (by kernel_rfl) (by kernel_rfl) (fun _ _ _ h => h) (Or.inl ⟨rfl, fun w => by kernel_rfl⟩) ?_
        simp only [Act.put, List.setIfInBounds_toArray, List.set_cons_zero, List.set_cons_succ]
        refine wpAny_take (i := 15) (oi := ⟨some 49, _, _, _, _, _⟩) (v := (.bool true)) rfl (by kernel_rfl) (by kernel_rfl) (by kernel_rfl) (fun _ _ _ h => h) (Or.inl ⟨rfl, fun w => by kernel_rfl⟩) ?_
        simp only [Act.put, List.setIfInBounds_toArray, List.set_cons_zero, List.set_cons_succ]
        refine wpAny_take (i := 16) (oi := ⟨some 50, _, _, _, _, _⟩) (v := (.slice sp n cp)) rfl (by kernel_rfl) (by kernel_rfl) (by kernel_rfl) (fun _ _ _ h => h) (Or.inl ⟨rfl, fun w => by kernel_rfl⟩) ?_
        simp only [Act.put, List.setIfInBounds_toArray, List.set_cons_zero, List.set_cons_succ]
        refine wpAny_take (i := 18) (oi := ⟨some 52, _, _, _, _, _⟩) (v := (.string (strOfNums xs))) rfl (by kernel_rfl) (by kernel_rfl) (by kernel_rfl) (fun _ _ _ h => h) (Or.inl ⟨rfl, fun w => by kernel_rfl⟩) ?_
        simp only [Act.put, List.setIfInBounds_toArray, List.set_cons_zero, List.set_cons_succ]
        refine wpAny_all (rs := [17]) (by kernel_rfl) (by simp) ?_
        intro i hi
        simp only [List.mem_cons, List.not_mem_nil, or_false] at hi
        subst hi
        refine op_val (o := ⟨some 51, _, _, _, _, _⟩) (.string (strOfNums xs)) rfl rfl (run_conv_str _ _ _ _ sp n cp xs rfl rfl (Fz39.out.2.2.2.1)) ?_
        simp only [Act.put, List.setIfInBounds_toArray, List.set_cons_zero, List.set_cons_succ]
        refine wpAny_take (i := 19) (oi := ⟨some 53, _, _, _, _, _⟩) (v := (.bool true)) rfl (by kernel_rfl) (by kernel_rfl) (by kernel_rfl) (fun _ _ _ h => h) (Or.inl ⟨rfl, fun w => run_str_eql _ _ _ _ _ xs xs true rfl rfl rfl (by simp) HR.out.2.2.1 HR.out.2.2.1⟩) ?_
        simp only [Act.put, List.setIfInBounds_toArray, List.set_cons_zero, List.set_cons_succ]
        refine wpAny_take (i := 20) (oi := ⟨some 54, _, _, _, _, _⟩) (v := (.bool true)) rfl (by kernel_rfl) (by kernel_rfl) (by kernel_rfl) (fun _ _ _ h => h) (Or.inl ⟨rfl, fun w => by kernel_rfl⟩) ?_
        simp only [Act.put, List.setIfInBounds_toArray, List.set_cons_zero, List.set_cons_succ]
        refine wpAny_take (i := 21) (oi := ⟨some 6, _, _, _, _, _⟩) (v := (.bool true)) rfl (by kernel_rfl) (by kernel_rfl) (by kernel_rfl) (fun _ _ _ h => h) (Or.inl ⟨rfl, fun w => by kernel_rfl⟩) ?_
        simp only [Act.put, List.setIfInBounds_toArray, List.set_cons_zero, List.set_cons_succ]
        refine wpAny_done (by kernel_rfl) ?_ _
        go_wp2_with fail
        go_ret
        exact ⟨rfl, by rw [G0.out]; exact Fz39.out.1⟩
      · refine op_val (o := ⟨some 36, _, _, _, _, _⟩) (.agg (ub kx).toArray) rfl rfl (run_load_mid _ _ _ 23 _ rfl g0 0 rfl (ub kx) _ (blk_rangeC (F6.out.2.1)) Try.underlying23 rfl (by rw [HT.out.2.2.2.1]; kernel_rfl)) ?_
        simp only [Act.put, List.setIfInBounds_toArray, List.set_cons_zero, List.set_cons_succ]
        refine wpAny_all (rs := [1, 6]) (by kernel_rfl) (by simp) ?_
        intro i hi
        simp only [List.mem_cons, List.not_mem_nil, or_false] at hi
        rcases hi with rfl | rfl
        · refine op_val (o := ⟨some 35, _, _, _, _, _⟩) (.string (strOfNums (xorV ks c xs n))) rfl rfl (run_conv_str _ _ _ _ (some ⟨go, 0, none⟩) n n (xorV ks c xs n) rfl rfl (F6.out.2.2.2.2.1)) ?_
          simp only [Act.put, List.setIfInBounds_toArray, List.set_cons_zero, List.set_cons_succ]
          refine wpAny_all (rs := [6]) (by kernel_rfl) (by simp) ?_
          intro i hi
          simp only [List.mem_cons, List.not_mem_nil, or_false] at hi
          subst hi
          refine op_call (o := ⟨some 40, _, _, _, _, _⟩) 14 #[.agg (ub kx).toArray, .agg (ub [0, 0, 0, 0, 0, 0, 0, 0, 0, 0, 0, kx.getD 2 0]).toArray, .int .u32 ((c : Nat) : Int), .slice sp n cp] rfl rfl (by kernel_rfl) (((refxor_two HT.out c HC.out n cp sp xs (by have := H6.out; omega) W6.drew F6.out.2.2.2.1)).mono fun e z45 ⟨az45, cz45, he, qz45, rz45, _, _⟩ => ⟨.slice az45 n cz45, he, ?_⟩)
          simp only [Act.put, List.setIfInBounds_toArray, List.set_cons_zero, List.set_cons_succ]
          have Fz45 := Lib.hid (show Below g0 w z45 ∧ Blk z45 g0 23 (ub kx).toArray ∧ Blk z45 g8 28 (ub [0, 0, 0, 0, 0, 0, 0, 0, 0, 0, 0, kx.getD 2 0]).toArray ∧ Row z45 sp n xs ∧ Row z45 (some ⟨go, 0, none⟩) n (xorV ks c xs n) ∧ Row z45 (some ⟨g2, 0, none⟩) n xs ∧ Row z45 az45 n (xorV ks c xs n) from ⟨F6.out.1.trans (qz45.mono (by have h1 := F6.out.1.size; have h2 := G0.out; omega)), F6.out.2.1.below qz45, F6.out.2.2.1.below qz45, F6.out.2.2.2.1.keep qz45, F6.out.2.2.2.2.1.keep qz45, F6.out.2.2.2.2.2.keep qz45, rz45⟩)
          clear qz45
          refine wpAny_all (rs := [7]) (by kernel_rfl) (by simp) ?_
          intro i hi
          simp only [List.mem_cons, List.not_mem_nil, or_false] at hi
          subst hi
          refine op_val (o := ⟨some 41, _, _, _, _, _⟩) (.string (strOfNums (xorV ks c xs n))) rfl rfl (run_conv_str _ _ _ _ az45 n cz45 (xorV ks c xs n) rfl rfl (Fz45.out.2.2.2.2.2.2)) ?_
          simp only [Act.put, List.setIfInBounds_toArray, List.set_cons_zero, List.set_cons_succ]
          refine wpAny_take (i := 8) (oi := ⟨some 42, _, _, _, _, _⟩) (v := (.bool true)) rfl (by kernel_rfl) (by kernel_rfl) (by kernel_rfl) (fun _ _ _ h => h) (Or.inl ⟨rfl, fun w => run_str_eql _ _ _ _ _ (xorV ks c xs n) (xorV ks c xs n) true rfl rfl rfl (by simp) (xorV_byte HT.out _ _ _ HR.out.2.2.1) (xorV_byte HT.out _ _ _ HR.out.2.2.1)⟩) ?_
          simp only [Act.put, List.setIfInBounds_toArray, List.set_cons_zero, List.set_cons_succ]
          refine wpAny_take (i := 9) (oi := ⟨some 43, _, _, _, _, _⟩) (v := (.bool true)) rfl (by kernel_rfl) (by kernel_rfl) (by kernel_rfl) (fun _ _ _ h => h) (Or.inl ⟨rfl, fun w => by kernel_rfl⟩) ?_
          simp only [Act.put, List.setIfInBounds_toArray, List.set_cons_zero, List.set_cons_succ]
          refine wpAny_take (i := 10) (oi := ⟨some 44, _, _, _, _, _⟩) (v := (.slice (some ⟨g2, 0, none⟩) n n)) rfl (by kernel_rfl) (by kernel_rfl) (by kernel_rfl) (fun _ _ _ h => h) (Or.inl ⟨rfl, fun w => by kernel_rfl⟩) ?_
          simp only [Act.put, List.setIfInBounds_toArray, List.set_cons_zero, List.set_cons_succ]
          refine wpAny_take (i := 12) (oi := ⟨some 46, _, _, _, _, _⟩) (v := (.string (strOfNums xs))) rfl (by kernel_rfl) (by kernel_rfl) (by kernel_rfl) (fun _ _ _ h => h) (Or.inl ⟨rfl, fun w => by kernel_rfl⟩) ?_
          simp only [Act.put, List.setIfInBounds_toArray, List.set_cons_zero, List.set_cons_succ]
          refine wpAny_all (rs := [11]) (by kernel_rfl) (by simp) ?_
          intro i hi
          simp only [List.mem_cons, List.not_mem_nil, or_false] at hi
          subst hi
          refine op_val (o := ⟨some 45, _, _, _, _, _⟩) (.string (strOfNums xs)) rfl rfl (run_conv_str _ _ _ _ (some ⟨g2, 0, none⟩) n n xs rfl rfl (Fz45.out.2.2.2.2.2.1)) ?_
          simp only [Act.put, List.setIfInBounds_toArray, List.set_cons_zero, List.set_cons_succ]
          refine wpAny_take (i := 13) (oi := ⟨some 47, _, _, _, _, _⟩) (v := (.bool true)) rfl (by kernel_rfl) (by kernel_rfl) (by kernel_rfl) (fun _ _ _ h => h) (Or.inl ⟨rfl, fun w => run_str_eql _ _ _ _ _ xs xs true rfl rfl rfl (by simp) HR.out.2.2.1 HR.out.2.2.1⟩) ?_
          simp only [Act.put, List.setIfInBounds_toArray, List.set_cons_zero, List.set_cons_succ]
          refine wpAny_take (i := 14) (oi := ⟨some 48, _, _, _, _, _⟩) (v := (.bool true)) rfl (by kernel_rfl) (by kernel_rfl) (by kernel_rfl) (fun _ _ _ h => h) (Or.inl ⟨rfl, fun w => by kernel_rfl⟩) ?_
          simp only [Act.put, List.setIfInBounds_toArray, List.set_cons_zero, List.set_cons_succ]
          refine wpAny_take (i := 15) (oi := ⟨some 49, _, _, _, _, _⟩) (v := (.bool true)) rfl (by kernel_rfl) (by kernel_rfl) (by kernel_rfl) (fun _ _ _ h => h) (Or.inl ⟨rfl, fun w => by kernel_rfl⟩) ?_
          simp only [Act.put, List.setIfInBounds_toArray, List.set_cons_zero, List.set_cons_succ]
          refine wpAny_take (i := 16) (oi := ⟨some 50, _, _, _, _, _⟩) (v := (.slice sp n cp)) rfl (by kernel_rfl) (by kernel_rfl) (by kernel_rfl) (fun _ _ _ h => h) (Or.inl ⟨rfl, fun w => by kernel_rfl⟩) ?_
          simp only [Act.put, List.setIfInBounds_toArray, List.set_cons_zero, List.set_cons_succ]
          refine wpAny_take (i := 18) (oi := ⟨some 52, _, _, _, _, _⟩) (v := (.string (strOfNums xs))) rfl (by kernel_rfl) (by kernel_rfl) (by kernel_rfl) (fun _ _ _ h => h) (Or.inl ⟨rfl, fun w => by kernel_rfl⟩) ?_
          simp only [Act.put, List.setIfInBounds_toArray, List.set_cons_zero, List.set_cons_succ]
          refine wpAny_all (rs := [17]) (by kernel_rfl) (by simp) ?_
          intro i hi
          simp only [List.mem_cons, List.not_mem_nil, or_false] at hi
          subst hi
          refine op_val (o := ⟨some 51, _, _, _, _, _⟩) (.string (strOfNums xs)) rfl rfl (run_conv_str _ _ _ _ sp n cp xs rfl rfl (Fz45.out.2.2.2.1)) ?_
          simp only [Act.put, List.setIfInBounds_toArray, List.set_cons_zero, List.set_cons_succ]
          refine wpAny_take (i := 19) (oi := ⟨some 53, _, _, _, _, _⟩) (v := (.bool true)) rfl (by kernel_rfl) (by kernel_rfl) (by kernel_rfl) (fun _ _ _ h => h) (Or.inl ⟨rfl, fun w => run_str_eql _ _ _ _ _ xs xs true rfl rfl rfl (by simp) HR.out.2.2.1 HR.out.2.2.1⟩) ?_
          simp only [Act.put, List.setIfInBounds_toArray, List.set_cons_zero, List.set_cons_succ]
          refine wpAny_take (i := 20) (oi := ⟨some 54, _, _, _, _, _⟩) (v := (.bool true)) rfl (by kernel_rfl) (by kernel_rfl) (by kernel_rfl) (fun _ _ _ h => h) (Or.inl ⟨rfl, fun w => by kernel_rfl⟩) ?_
          simp only [Act.put, List.setIfInBounds_toArray, List.set_cons_zero, List.set_cons_succ]
          refine wpAny_take (i := 21) (oi := ⟨some 6, _, _, _, _, _⟩) (v := (.bool true)) rfl (by kernel_rfl) (by kernel_rfl) (by kernel_rfl) (fun _ _ _ h => h) (Or.inl ⟨rfl, fun w => by kernel_rfl⟩) ?_
          simp only [Act.put, List.setIfInBounds_toArray, List.set_cons_zero, List.set_cons_succ]
          refine wpAny_done (by kernel_rfl) ?_ _
          go_wp2_with fail
          go_ret
          exact ⟨rfl, by rw [G0.out]; exact Fz45.out.1⟩
        · refine op_call (o := ⟨some 40, _, _, _, _, _⟩) 14 #[.agg (ub kx).toArray, .agg (ub [0, 0, 0, 0, 0, 0, 0, 0, 0, 0, 0, kx.getD 2 0]).toArray, .int .u32 ((c : Nat) : Int), .slice sp n cp] rfl rfl (by kernel_rfl) (((refxor_two HT.out c HC.out n cp sp xs (by have := H6.out; omega) W6.drew F6.out.2.2.2.1)).mono fun e z49 ⟨az49, cz49, he, qz49, rz49, _, _⟩ => ⟨.slice az49 n cz49, he, ?_⟩)
          simp only [Act.put, List.setIfInBounds_toArray, List.set_cons_zero, List.set_cons_succ]
          have Fz49 := Lib.hid (show Below g0 w z49 ∧ Blk z49 g0 23 (ub kx).toArray ∧ Blk z49 g8 28 (ub [0, 0, 0, 0, 0, 0, 0, 0, 0, 0, 0, kx.getD 2 0]).toArray ∧ Row z49 sp n xs ∧ Row z49 (some ⟨go, 0, none⟩) n (xorV ks c xs n) ∧ Row z49 (some ⟨g2, 0, none⟩) n xs ∧ Row z49 az49 n (xorV ks c xs n) from ⟨F6.out.1.trans (qz49.mono (by have h1 := F6.out.1.size; have h2 := G0.out; omega)), F6.out.2.1.below qz49, F6.out.2.2.1.below qz49, F6.out.2.2.2.1.keep qz49, F6.out.2.2.2.2.1.keep qz49, F6.out.2.2.2.2.2.keep qz49, rz49⟩)
          clear qz49
          refine wpAny_all (rs := [1, 7]) (by kernel_rfl) (by simp) ?_
          intro i hi
          simp only [List.mem_cons, List.not_mem_nil, or_false] at hi
          rcases hi with rfl | rfl
          · refine op_val (o := ⟨some 35, _, _, _, _, _⟩) (.string (strOfNums (xorV ks c xs n))) rfl rfl (run_conv_str _ _ _ _ (some ⟨go, 0, none⟩) n n (xorV ks c xs n) rfl rfl (Fz49.out.2.2.2.2.1)) ?_
            simp only [Act.put, List.setIfInBounds_toArray, List.set_cons_zero, List.set_cons_succ]
            refine wpAny_all (rs := [7]) (by kernel_rfl) (by simp) ?_
            intro i hi
            simp only [List.mem_cons, List.not_mem_nil, or_false] at hi
            subst hi
            refine op_val (o := ⟨some 41, _, _, _, _, _⟩) (.string (strOfNums (xorV ks c xs n))) rfl rfl (run_conv_str _ _ _ _ az49 n cz49 (xorV ks c xs n) rfl rfl (Fz49.out.2.2.2.2.2.2)) ?_
            simp only [Act.put, List.setIfInBounds_toArray, List.set_cons_zero, List.set_cons_succ]
            refine wpAny_take (i := 8) (oi := ⟨some 42, _, _, _, _, _⟩) (v := (.bool true)) rfl (by kernel_rfl) (by kernel_rfl) (by kernel_rfl) (fun _ _ _ h => h) (Or.inl ⟨rfl, fun w => run_str_eql _ _ _ _ _ (xorV ks c xs n) (xorV ks c xs n) true rfl rfl rfl (by simp) (xorV_byte HT.out _ _ _ HR.out.2.2.1) (xorV_byte HT.out _ _ _ HR.out.2.2.1)⟩) ?_
            simp only [Act.put, List.setIfInBounds_toArray, List.set_cons_zero, List.set_cons_succ]
            refine wpAny_take (i := 9) (oi := ⟨some 43, _, _, _, _, _⟩) (v := (.bool true)) rfl (by kernel_rfl) (by kernel_rfl) (by kernel_rfl) (fun _ _ _ h => h) (Or.inl ⟨rfl, fun w => by kernel_rfl⟩) ?_
            simp only [Act.put, List.setIfInBounds_toArray, List.set_cons_zero, List.set_cons_succ]
            refine wpAny_take (i := 10) (oi := ⟨some 44, _, _, _, _, _⟩) (v := (.slice (some ⟨g2, 0, none⟩) n n)) rfl (by kernel_rfl) (by kernel_rfl) (by kernel_rfl) (fun _ _ _ h => h) (Or.inl ⟨rfl, fun w => by kernel_rfl⟩) ?_
            simp only [Act.put, List.setIfInBounds_toArray, List.set_cons_zero, List.set_cons_succ]
            refine wpAny_take (i := 12) (oi := ⟨some 46, _, _, _, _, _⟩) (v := (.string (strOfNums xs))) rfl (by kernel_rfl) (by kernel_rfl) (by kernel_rfl) (fun _ _ _ h => h) (Or.inl ⟨rfl, fun w => by kernel_rfl⟩) ?_
            simp only [Act.put, List.setIfInBounds_toArray, List.set_cons_zero, List.set_cons_succ]
            refine wpAny_all (rs := [11]) (by kernel_rfl) (by simp) ?_
            intro i hi
            simp only [List.mem_cons, List.not_mem_nil, or_false] at hi
            subst hi
            refine op_val (o := ⟨some 45, _, _, _, _, _⟩) (.string (strOfNums xs)) rfl rfl (run_conv_str _ _ _ _ (some ⟨g2, 0, none⟩) n n xs rfl rfl (Fz49.out.2.2.2.2.2.1)) ?_
            simp only [Act.put, List.setIfInBounds_toArray, List.set_cons_zero, List.set_cons_succ]
            refine wpAny_take (i := 13) (oi := ⟨some 47, _, _, _, _, _⟩) (v := (.bool true)) rfl (by kernel_rfl) (by kernel_rfl) (by kernel_rfl) (fun _ _ _ h => h) (Or.inl ⟨rfl, fun w => run_str_eql _ _ _ _ _ xs xs true rfl rfl rfl (by simp) HR.out.2.2.1 HR.out.2.2.1⟩) ?_
            simp only [Act.put, List.setIfInBounds_toArray, List.set_cons_zero, List.set_cons_succ]
            refine wpAny_take (i := 14) (oi := ⟨some 48, _, _, _, _, _⟩) (v := (.bool true)) rfl (by kernel_rfl) (by kernel_rfl) (by kernel_rfl) (fun _ _ _ h => h) (Or.inl ⟨rfl, fun w => by kernel_rfl⟩) ?_
            simp only [Act.put, List.setIfInBounds_toArray, List.set_cons_zero, List.set_cons_succ]
            refine wpAny_take (i := 15) (oi := ⟨some 49, _, _, _, _, _⟩) (v := (.bool true)) rfl (by kernel_rfl) (by kernel_rfl) (by kernel_rfl) (fun _ _ _ h => h) (Or.inl ⟨rfl, fun w => by kernel_rfl⟩) ?_
            simp only [Act.put, List.setIfInBounds_toArray, List.set_cons_zero, List.set_cons_succ]
            refine wpAny_take (i := 16) (oi := ⟨some 50, _, _, _, _, _⟩) (v := (.slice sp n cp)) rfl (by kernel_rfl) (by kernel_rfl) (by kernel_rfl) (fun _ _ _ h => h) (Or.inl ⟨rfl, fun w => by kernel_rfl⟩) ?_
            simp only [Act.put, List.setIfInBounds_toArray, List.set_cons_zero, List.set_cons_succ]
            refine wpAny_take (i := 18) (oi := ⟨some 52, _, _, _, _, _⟩) (v := (.string (strOfNums xs))) rfl (by kernel_rfl) (by kernel_rfl) (by kernel_rfl) (fun _ _ _ h => h) (Or.inl ⟨rfl, fun w => by kernel_rfl⟩) ?_
            simp only [Act.put, List.setIfInBounds_toArray, List.set_cons_zero, List.set_cons_succ]
            refine wpAny_all (rs := [17]) (by kernel_rfl) (by simp) ?_
            intro i hi
            simp only [List.mem_cons, List.not_mem_nil, or_false] at hi
            subst hi
            refine op_val (o := ⟨some 51, _, _, _, _, _⟩) (.string (strOfNums xs)) rfl rfl (run_conv_str _ _ _ _ sp n cp xs rfl rfl (Fz49.out.2.2.2.1)) ?_
            simp only [Act.put, List.setIfInBounds_toArray, List.set_cons_zero, List.set_cons_succ]
            refine wpAny_take (i := 19) (oi := ⟨some 53, _, _, _, _, _⟩) (v := (.bool true)) rfl (by kernel_rfl) (by kernel_rfl) (by kernel_rfl) (fun _ _ _ h => h) (Or.inl ⟨rfl, fun w => run_str_eql _ _ _ _ _ xs xs true rfl rfl rfl (by simp) HR.out.2.2.1 HR.out.2.2.1⟩) ?_
            simp only [Act.put, List.setIfInBounds_toArray, List.set_cons_zero, List.set_cons_succ]
            refine wpAny_take (i := 20) (oi := ⟨some 54, _, _, _, _, _⟩) (v := (.bool true)) rfl (by kernel_rfl) (by kernel_rfl) (by kernel_rfl) (fun _ _ _ h => h) (Or.inl ⟨rfl, fun w => by kernel_rfl⟩) ?_
            simp only [Act.put, List.setIfInBounds_toArray, List.set_cons_zero, List.set_cons_succ]
            refine wpAny_take (i := 21) (oi := ⟨some 6, _, _, _, _, _⟩) (v := (.bool true)) rfl (by kernel_rfl) (by kernel_rfl) (by kernel_rfl) (fun _ _ _ h => h) (Or.inl ⟨rfl, fun w => by kernel_rfl⟩) ?_
            simp only [Act.put, List.setIfInBounds_toArray, List.set_cons_zero, List.set_cons_succ]
            refine wpAny_done (by kernel_rfl) ?_ _
            go_wp2_with fail
            go_ret
            exact ⟨rfl, by rw [G0.out]; exact Fz49.out.1⟩
          · refine op_val (o := ⟨some 41, _, _, _, _, _⟩) (.string (strOfNums (xorV ks c xs n))) rfl rfl (run_conv_str _ _ _ _ az49 n cz49 (xorV ks c xs n) rfl rfl (Fz49.out.2.2.2.2.2.2)) ?_
            simp only [Act.put, List.setIfInBounds_toArray, List.set_cons_zero, List.set_cons_succ]
            refine wpAny_all (rs := [1]) (by kernel_rfl) (by simp) ?_
            intro i hi
            simp only [List.mem_cons, List.not_mem_nil, or_false] at hi
            subst hi
            refine op_val (o := ⟨some 35, _, _, _, _, _⟩) (.string (strOfNums (xorV ks c xs n))) rfl rfl (run_conv_str _ _ _ _ (some ⟨go, 0, none⟩) n n (xorV ks c xs n) rfl rfl (Fz49.out.2.2.2.2.1)) ?_
            simp only [Act.put, List.setIfInBounds_toArray, List.set_cons_zero, List.set_cons_succ]
            refine wpAny_take (i := 8) (oi := ⟨some 42, _, _, _, _, _⟩) (v := (.bool true)) rfl (by kernel_rfl) (by kernel_rfl) (by kernel_rfl) (fun _ _ _ h => h) (Or.inl ⟨rfl, fun w => run_str_eql _ _ _ _ _ (xorV ks c xs n) (xorV ks c xs n) true rfl rfl rfl (by simp) (xorV_byte HT.out _ _ _ HR.out.2.2.1) (xorV_byte HT.out _ _ _ HR.out.2.2.1)⟩) ?_
            simp only [Act.put, List.setIfInBounds_toArray, List.set_cons_zero, List.set_cons_succ]
            refine wpAny_take (i := 9) (oi := ⟨some 43, _, _, _, _, _⟩) (v := (.bool true)) rfl (by kernel_rfl) (by kernel_rfl) (by kernel_rfl) (fun _ _ _ h => h) (Or.inl ⟨rfl, fun w => by kernel_rfl⟩) ?_
            simp only [Act.put, List.setIfInBounds_toArray, List.set_cons_zero, List.set_cons_succ]
            refine wpAny_take (i := 10) (oi := ⟨some 44, _, _, _, _, _⟩) (v := (.slice (some ⟨g2, 0, none⟩) n n)) rfl (by kernel_rfl) (by kernel_rfl) (by kernel_rfl) (fun _ _ _ h => h) (Or.inl ⟨rfl, fun w => by kernel_rfl⟩) ?_
            simp only [Act.put, List.setIfInBounds_toArray, List.set_cons_zero, List.set_cons_succ]
            refine wpAny_take (i := 12) (oi := ⟨some 46, _, _, _, _, _⟩) (v := (.string (strOfNums xs))) rfl (by kernel_rfl) (by kernel_rfl) (by kernel_rfl) (fun _ _ _ h => h) (Or.inl ⟨rfl, fun w => by kernel_rfl⟩) ?_
            simp only [Act.put, List.setIfInBounds_toArray, List.set_cons_zero, List.set_cons_succ]
            refine wpAny_all (rs := [11]) (by kernel_rfl) (by simp) ?_
            intro i hi
            simp only [List.mem_cons, List.not_mem_nil, or_false] at hi
            subst hi
            refine op_val (o := ⟨some 45, _, _, _, _, _⟩) (.string (strOfNums xs)) rfl rfl (run_conv_str _ _ _ _ (some ⟨g2, 0, none⟩) n n xs rfl rfl (Fz49.out.2.2.2.2.2.1)) ?_
            simp only [Act.put, List.setIfInBounds_toArray, List.set_cons_zero, List.set_cons_succ]
            refine wpAny_take (i := 13) (oi := ⟨some 47, _, _, _, _, _⟩) (v := (.bool true)) rfl (by kernel_rfl) (by kernel_rfl) (by kernel_rfl) (fun _ _ _ h => h) (Or.inl ⟨rfl, fun w => run_str_eql _ _ _ _ _ xs xs true rfl rfl rfl (by simp) HR.out.2.2.1 HR.out.2.2.1⟩) ?_
            simp only [Act.put, List.setIfInBounds_toArray, List.set_cons_zero, List.set_cons_succ]
            refine wpAny_take (i := 14) (oi := ⟨some 48, _, _, _, _, _⟩) (v := (.bool true)) rfl (by kernel_rfl) (by kernel_rfl) (by kernel_rfl) (fun _ _ _ h => h) (Or.inl ⟨rfl, fun w => by kernel_rfl⟩) ?_
            simp only [Act.put, List.setIfInBounds_toArray, List.set_cons_zero, List.set_cons_succ]
            refine wpAny_take (i := 15) (oi := ⟨some 49, _, _, _, _, _⟩) (v := (.bool true)) rfl (by kernel_rfl) (by kernel_rfl) (by kernel_rfl) (fun _ _ _ h => h) (Or.inl ⟨rfl, fun w => by kernel_rfl⟩) ?_
            simp only [Act.put, List.setIfInBounds_toArray, List.set_cons_zero, List.set_cons_succ]
            refine wpAny_take (i := 16) (oi := ⟨some 50, _, _, _, _, _⟩) (v := (.slice sp n cp)) rfl (by kernel_rfl) (by kernel_rfl) (by kernel_rfl) (fun _ _ _ h => h) (Or.inl ⟨rfl, fun w => by kernel_rfl⟩) ?_
            simp only [Act.put, List.setIfInBounds_toArray, List.set_cons_zero, List.set_cons_succ]
            refine wpAny_take (i := 18) (oi := ⟨some 52, _, _, _, _, _⟩) (v := (.string (strOfNums xs))) rfl (by kernel_rfl) (by kernel_rfl) (by kernel_rfl) (fun _ _ _ h => h) (Or.inl ⟨rfl, fun w => by kernel_rfl⟩) ?_
            simp only [Act.put, List.setIfInBounds_toArray, List.set_cons_zero, List.set_cons_succ]
            refine wpAny_all (rs := [17]) (by kernel_rfl) (by simp) ?_
            intro i hi
            simp only [List.mem_cons, List.not_mem_nil, or_false] at hi
            subst hi
            refine op_val (o := ⟨some 51, _, _, _, _, _⟩) (.string (strOfNums xs)) rfl rfl (run_conv_str _ _ _ _ sp n cp xs rfl rfl (Fz49.out.2.2.2.1)) ?_
            simp only [Act.put, List.setIfInBounds_toArray, List.set_cons_zero, List.set_cons_succ]
            refine wpAny_take (i := 19) (oi := ⟨some 53, _, _, _, _, _⟩) (v := (.bool true)) rfl (by kernel_rfl) (by kernel_rfl) (by kernel_rfl) (fun _ _ _ h => h) (Or.inl ⟨rfl, fun w => run_str_eql _ _ _ _ _ xs xs true rfl rfl rfl (by simp) HR.out.2.2.1 HR.out.2.2.1⟩) ?_
            simp only [Act.put, List.setIfInBounds_toArray, List.set_cons_zero, List.set_cons_succ]
            refine wpAny_take (i := 20) (oi := ⟨some 54, _, _, _, _, _⟩) (v := (.bool true)) rfl (by kernel_rfl) (by kernel_rfl) (by kernel_rfl) (fun _ _ _ h => h) (Or.inl ⟨rfl, fun w => by kernel_rfl⟩) ?_
            simp only [Act.put, List.setIfInBounds_toArray, List.set_cons_zero, List.set_cons_succ]
            refine wpAny_take (i := 21) (oi := ⟨some 6, _, _, _, _, _⟩) (v := (.bool true)) rfl (by kernel_rfl) (by kernel_rfl) (by kernel_rfl) (fun _ _ _ h => h) (Or.inl ⟨rfl, fun w => by kernel_rfl⟩) ?_
            simp only [Act.put, List.setIfInBounds_toArray, List.set_cons_zero, List.set_cons_succ]
            refine wpAny_done (by kernel_rfl) ?_ _
            go_wp2_with fail
            go_ret
            exact ⟨rfl, by rw [G0.out]; exact Fz49.out.1⟩
end Go.Proofs.Ytdoikjjkcehpbaa.B
namespace Go.Proofs.Ytdoikjjkcehpbaa
open Go Go.RowKit
theorem walkChachaXors (xs : List Int) (c : Int) (a : Option Addr) (n cp : Nat) (zs : List Int) (lx : xs.length = 32) (wx : ∀ x ∈ xs, (Lit.int .u8 x).wf = true) (hc : (Lit.int .u32 c).wf = true) (w : World) (hm : IsRow .u8 w a n cp zs) :
    Calls Try.prog 6 #[.agg (xs.map (Value.int .u8)).toArray, .int .u32 c, .slice a n cp] w fun e w' => e = .returned (.bool true) ∧ Below w.heap.size w w' := by
  have hb := bounds_u32 hc
  obtain ⟨m, rfl⟩ : ∃ m : Nat, c = (m : Int) := ⟨c.toNat, by omega⟩
  have h : B.IsRow .u8 w a n cp zs := hm
  exact B.xors_any xs m a n cp _ lx (fun x hx => by have := bounds_u8 (wx x hx); omega) (by omega) w (B.row_of h)
end Go.Proofs.Ytdoikjjkcehpbaa
