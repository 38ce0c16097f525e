/- The reference's Less, Sorted, Meet. -/
import Derived.Test.YthkhlkiemldbaaaKK8a
namespace Go.Proofs.Ythkhlkiemldbaaa.K.Ha
open Go Go.RowKit
set_option maxRecDepth 100000
theorem run_idxt (a : Act) (o : Oper) (w : World) (x i : Operand) (g k : Nat) (ho : o.op = .indexAddr 34 x i) (hx : a.eval x = .pointer (some ⟨g, 0, none⟩)) (hi : a.eval i = .int .i64 (k : Int)) (hk : k < 16) : (execOp a.eval o).run Try.prog w = .ok (.value (.pointer (some ⟨g, k, none⟩))) w := by
  have j0 : (0 : Int) ≤ (k : Int) := by omega
  have j6 : (k : Int) < 16 := by omega
  unfold execOp
  simp only [ho, hx, hi]
  go_simp
theorem tok_cell {w : World} {g t k : Nat} {xs : List Int} (h : Blk w g t (u8l xs).toArray) (hk : k < xs.length) : w.cell? ⟨g, k, none⟩ = some (.int .u8 (xs.getD k 0)) := by
  rw [h.cell, List.getElem?_toArray]
  simp [u8l, List.getD, List.getElem?_eq_getElem hk]
theorem eq_of_getD {xs ys : List Int} {n : Nat} (hx : xs.length = n) (hy : ys.length = n) (h : ∀ j, j < n → xs.getD j 0 = ys.getD j 0) : xs = ys := by
  apply List.ext_getElem (by omega)
  intro i h1 h2
  have q := h i (by omega)
  simpa [List.getD, List.getElem?_eq_getElem h1, List.getElem?_eq_getElem h2] using q
theorem run_neu8 (a : Act) (o : Oper) (w : World) (u v : Operand) (p q : Int) (b : Bool) (ho : o.op = .binOp .neq 5 u v 5) (hx : a.eval u = .int .u8 p) (hy : a.eval v = .int .u8 q) (hb : b = decide (p ≠ q)) : (execOp a.eval o).run Try.prog w = .ok (.value (.bool b)) w :=
  run_nei Try.underlying5 ho hx hy hb.symm
def LessPost (xs ys : List Int) (w : World) (e : Ending) (w' : World) : Prop := ∃ z : Bool, e = .returned (.bool z) ∧ (z = true ↔ cmpT xs ys < 0) ∧ Below w.heap.size w w'
def MeetPost (n m : Nat) (L M : List (List Int)) (w : World) (e : Ending) (w' : World) : Prop := ∃ z : Bool, e = .returned (.bool z) ∧ (z = true ↔ ∃ k, k < n ∧ ∃ j, j < m ∧ M.getD j [] = L.getD k []) ∧ Below w.heap.size w w'
attribute [local irreducible] wpList
set_option maxHeartbeats 8000000 in
set_option maxRecDepth 100000 in
theorem less_any (w : World) (xs ys : List Int) (hx : xs.length = 16) (hy : ys.length = 16) (bx : ∀ x ∈ xs, 0 ≤ x ∧ x ≤ 255) (bY : ∀ x ∈ ys, 0 ≤ x ∧ x ≤ 255) :
    Calls Try.prog 38 #[.agg (u8l xs).toArray, .agg (u8l ys).toArray] w fun e w' => LessPost xs ys w e w' := by
  have LX := Lib.hid hx
  have LY := Lib.hid hy
  have BX := Lib.hid bx
  have BY := Lib.hid bY
  clear hx hy bx bY
  go_enter Try.func38, Try.ntmps38
  obtain ⟨w1, hw1⟩ : ∃ V, V = w.alloc (.cells (u8l xs).toArray 34) := ⟨_, rfl⟩
  obtain ⟨w2, hw2⟩ : ∃ V, V = w1.alloc (.cells (u8l ys).toArray 34) := ⟨_, rfl⟩
  have B2 : Hid (Blk w2 w.heap.size 34 (u8l xs).toArray ∧ Blk w2 w1.heap.size 34 (u8l ys).toArray ∧ Below w.heap.size w w2) := Lib.hid (by
    have q1 : Below w.heap.size w w1 := by rw [hw1]; exact (Below.refl _ _).alloc (Nat.le_refl _) _
    have q2 : Below w1.heap.size w1 w2 := by rw [hw2]; exact (Below.refl _ _).alloc (Nat.le_refl _) _
    have b1 : Blk w1 w.heap.size 34 (u8l xs).toArray := by rw [hw1]; exact Blk.new _ _ _
    exact ⟨b1.below q2, by rw [hw2]; exact Blk.new _ _ _, q1.trans (q2.mono q1.size)⟩)
  go_upto_region 0 with (fail)
  refine wp_region_lit ?_
  refine wpL_value (.pointer (some ⟨w.heap.size, 0, none⟩)) (w1) rfl (run_box35 _ _ _ _ _ xs rfl rfl LX.out hw1) ?_
  simp only [Act.put, List.setIfInBounds_toArray, List.set_cons_zero, List.set_cons_succ]
  refine wpL_value (.pointer (some ⟨w1.heap.size, 0, none⟩)) (w2) rfl (run_box35 _ _ _ _ _ ys rfl rfl LY.out hw2) ?_
  simp only [Act.put, List.setIfInBounds_toArray, List.set_cons_zero, List.set_cons_succ]
  refine wpL_pure (.bool false) rfl (by kernel_rfl) ?_
  simp only [Act.put, List.setIfInBounds_toArray, List.set_cons_zero, List.set_cons_succ]
  clear hw1 hw2
  obtain ⟨g2, h2⟩ : ∃ q, w.heap.size = q := ⟨_, rfl⟩
  have G2 : Hid (w.heap.size = g2) := Lib.hid h2
  rw [h2] at B2
  try rw [h2]
  clear h2
  generalize w1.heap.size = g3 at B2 ⊢
  go_upto_region 1 with (fail)
  refine wp_region_lit ?_
  refine wpL_pure (.int .i64 0) rfl (by kernel_rfl) ?_
  simp only [Act.put, List.setIfInBounds_toArray, List.set_cons_zero, List.set_cons_succ]
  go_wp2_with fail
  go_loopw [5] (fun s5 wr => ∃ k : Nat, s5 = .int .i64 (k : Int) ∧ Hid (k ≤ 16 ∧ Below g2 w wr ∧ Blk wr g2 34 (u8l xs).toArray ∧ Blk wr g3 34 (u8l ys).toArray ∧ ∀ j, j < k → xs.getD j 0 = ys.getD j 0)) (fun s5 _ => 16 - (intOf s5).toNat)
  case atStart => exact ⟨0, rfl, Lib.hid ⟨by omega, B2.out.2.2, B2.out.1, B2.out.2.1, fun j h => by omega⟩⟩
  case round =>
    obtain ⟨k, rfl, RI⟩ := hrel
    by_cases hlt : k < 16
    · have HK := Lib.hid hlt
      clear hlt
      go_upto_region 2 with (fail)
      refine wp_region_lit ?_
      refine wpL_pure (.int .i64 (k : Int)) rfl (by kernel_rfl) ?_
      simp only [Act.put, List.setIfInBounds_toArray, List.set_cons_zero, List.set_cons_succ]
      refine wpL_pure (.bool true) rfl (run_lti Try.underlying3 rfl rfl rfl (by have := HK.out; rw [decide_eq_true_eq]; omega)) ?_
      simp only [Act.put, List.setIfInBounds_toArray, List.set_cons_zero, List.set_cons_succ]
      obtain ⟨p, hp⟩ : ∃ p, xs.getD k 0 = p := ⟨_, rfl⟩
      obtain ⟨q, hq⟩ : ∃ q, ys.getD k 0 = q := ⟨_, rfl⟩
      have HP := Lib.hid hp
      have HQ := Lib.hid hq
      clear hp hq
      by_cases hc : p = q
      · have HC := Lib.hid hc
        clear hc
        go_upto_region 4 with (fail)
        refine region_held (fun X => Below g2 w X ∧ Blk X g2 34 (u8l xs).toArray ∧ Blk X g3 34 (u8l ys).toArray) 6 (by kernel_rfl) (by kernel_rfl) (by exact ⟨RI.out.2.1.drew, RI.out.2.2.1.drew, RI.out.2.2.2.1.drew⟩) ?_
        simp only [List.take_succ_cons, List.take_zero, List.drop_succ_cons, List.drop_zero]
        refine wpHeld_cons (.int .i64 (k : Int)) rfl (fun w h => heldRun_value (by kernel_rfl) h) ?_
        simp only [Act.put, List.setIfInBounds_toArray, List.set_cons_zero, List.set_cons_succ]
        refine wpHeld_cons (.pointer (some ⟨g2, k, none⟩)) rfl (fun w h => heldRun_value (run_idxt _ _ _ _ _ g2 k rfl rfl rfl HK.out) h) ?_
        simp only [Act.put, List.setIfInBounds_toArray, List.set_cons_zero, List.set_cons_succ]
        refine wpHeld_cons (.int .u8 p) rfl (fun w h => heldRun_value (run_load_one _ _ _ 5 _ _ rfl g2 k rfl (by rw [tok_cell h.2.1 (by rw [LX.out]; exact HK.out), HP.out]) (by kernel_rfl)) h) ?_
        simp only [Act.put, List.setIfInBounds_toArray, List.set_cons_zero, List.set_cons_succ]
        refine wpHeld_cons (.int .i64 (k : Int)) rfl (fun w h => heldRun_value (by kernel_rfl) h) ?_
        simp only [Act.put, List.setIfInBounds_toArray, List.set_cons_zero, List.set_cons_succ]
        refine wpHeld_cons (.pointer (some ⟨g3, k, none⟩)) rfl (fun w h => heldRun_value (run_idxt _ _ _ _ _ g3 k rfl rfl rfl HK.out) h) ?_
        simp only [Act.put, List.setIfInBounds_toArray, List.set_cons_zero, List.set_cons_succ]
        refine wpHeld_cons (.int .u8 q) rfl (fun w h => heldRun_value (run_load_one _ _ _ 5 _ _ rfl g3 k rfl (by rw [tok_cell h.2.2 (by rw [LY.out]; exact HK.out), HQ.out]) (by kernel_rfl)) h) ?_
        simp only [Act.put, List.setIfInBounds_toArray, List.set_cons_zero, List.set_cons_succ]
        refine wpHeld_nil ?_
        intro X h
        have HB := Lib.hid h
        clear h
        refine wpL_pure (.bool false) rfl (run_neu8 _ _ _ _ _ p q _ rfl rfl rfl (by simp [HC.out])) ?_
        simp only [Act.put, List.setIfInBounds_toArray, List.set_cons_zero, List.set_cons_succ]
        go_upto_region 3 with (fail)
        refine wp_region_lit ?_
        refine wpL_pure (.int .i64 (k : Int)) rfl (by kernel_rfl) ?_
        simp only [Act.put, List.setIfInBounds_toArray, List.set_cons_zero, List.set_cons_succ]
        refine wpL_pure (.int .i64 ((k + 1 : Nat) : Int)) rfl (run_addi Try.underlying3 rfl rfl rfl _ (by have := HK.out; rw [wrap_in _ (by omega) (by omega)]; omega)) ?_
        simp only [Act.put, List.setIfInBounds_toArray, List.set_cons_zero, List.set_cons_succ]
        refine wpL_pure (.int .i64 ((k + 1 : Nat) : Int)) rfl (by kernel_rfl) ?_
        simp only [Act.put, List.setIfInBounds_toArray, List.set_cons_zero, List.set_cons_succ]
        have NX : Hid ((k + 1) ≤ 16 ∧ Below g2 w X ∧ Blk X g2 34 (u8l xs).toArray ∧ Blk X g3 34 (u8l ys).toArray ∧ ∀ j, j < (k + 1) → xs.getD j 0 = ys.getD j 0) := Lib.hid ⟨HK.out, HB.out.1, HB.out.2.1, HB.out.2.2, fun j h1 => by
          by_cases hj : j < k
          · exact RI.out.2.2.2.2 j hj
          · obtain rfl : j = k := by omega
            rw [HP.out, HQ.out]; exact HC.out⟩
        unfold wpList
        go_roundw
        case rel => first | exact ⟨k + 1, rfl, NX⟩ | ((repeat apply Exists.intro); exact ⟨⟨k + 1, rfl, NX⟩, rfl⟩)
        case measure => simp [intOf]; have := HK.out; omega
      · have HC := Lib.hid hc
        clear hc
        go_upto_region 4 with (fail)
        refine region_held (fun X => Below g2 w X ∧ Blk X g2 34 (u8l xs).toArray ∧ Blk X g3 34 (u8l ys).toArray) 6 (by kernel_rfl) (by kernel_rfl) (by exact ⟨RI.out.2.1.drew, RI.out.2.2.1.drew, RI.out.2.2.2.1.drew⟩) ?_
        simp only [List.take_succ_cons, List.take_zero, List.drop_succ_cons, List.drop_zero]
        refine wpHeld_cons (.int .i64 (k : Int)) rfl (fun w h => heldRun_value (by kernel_rfl) h) ?_
        simp only [Act.put, List.setIfInBounds_toArray, List.set_cons_zero, List.set_cons_succ]
        refine wpHeld_cons (.pointer (some ⟨g2, k, none⟩)) rfl (fun w h => heldRun_value (run_idxt _ _ _ _ _ g2 k rfl rfl rfl HK.out) h) ?_
        simp only [Act.put, List.setIfInBounds_toArray, List.set_cons_zero, List.set_cons_succ]
        refine wpHeld_cons (.int .u8 p) rfl (fun w h => heldRun_value (run_load_one _ _ _ 5 _ _ rfl g2 k rfl (by rw [tok_cell h.2.1 (by rw [LX.out]; exact HK.out), HP.out]) (by kernel_rfl)) h) ?_
        simp only [Act.put, List.setIfInBounds_toArray, List.set_cons_zero, List.set_cons_succ]
        refine wpHeld_cons (.int .i64 (k : Int)) rfl (fun w h => heldRun_value (by kernel_rfl) h) ?_
        simp only [Act.put, List.setIfInBounds_toArray, List.set_cons_zero, List.set_cons_succ]
        refine wpHeld_cons (.pointer (some ⟨g3, k, none⟩)) rfl (fun w h => heldRun_value (run_idxt _ _ _ _ _ g3 k rfl rfl rfl HK.out) h) ?_
        simp only [Act.put, List.setIfInBounds_toArray, List.set_cons_zero, List.set_cons_succ]
        refine wpHeld_cons (.int .u8 q) rfl (fun w h => heldRun_value (run_load_one _ _ _ 5 _ _ rfl g3 k rfl (by rw [tok_cell h.2.2 (by rw [LY.out]; exact HK.out), HQ.out]) (by kernel_rfl)) h) ?_
        simp only [Act.put, List.setIfInBounds_toArray, List.set_cons_zero, List.set_cons_succ]
        refine wpHeld_nil ?_
        intro X h
        have HB := Lib.hid h
        clear h
        refine wpL_pure (.bool true) rfl (run_neu8 _ _ _ _ _ p q _ rfl rfl rfl (by simp [HC.out])) ?_
        simp only [Act.put, List.setIfInBounds_toArray, List.set_cons_zero, List.set_cons_succ]
        obtain ⟨z, hz⟩ : ∃ z, decide (p < q) = z := ⟨_, rfl⟩
        have HZ := Lib.hid hz
        clear hz
        go_upto_region 5 with (fail)
        refine region_held (fun X => Below g2 w X ∧ Blk X g2 34 (u8l xs).toArray ∧ Blk X g3 34 (u8l ys).toArray) 6 (by kernel_rfl) (by kernel_rfl) (by exact ⟨HB.out.1.drew, HB.out.2.1.drew, HB.out.2.2.drew⟩) ?_
        simp only [List.take_succ_cons, List.take_zero, List.drop_succ_cons, List.drop_zero]
        refine wpHeld_cons (.int .i64 (k : Int)) rfl (fun w h => heldRun_value (by kernel_rfl) h) ?_
        simp only [Act.put, List.setIfInBounds_toArray, List.set_cons_zero, List.set_cons_succ]
        refine wpHeld_cons (.pointer (some ⟨g2, k, none⟩)) rfl (fun w h => heldRun_value (run_idxt _ _ _ _ _ g2 k rfl rfl rfl HK.out) h) ?_
        simp only [Act.put, List.setIfInBounds_toArray, List.set_cons_zero, List.set_cons_succ]
        refine wpHeld_cons (.int .u8 p) rfl (fun w h => heldRun_value (run_load_one _ _ _ 5 _ _ rfl g2 k rfl (by rw [tok_cell h.2.1 (by rw [LX.out]; exact HK.out), HP.out]) (by kernel_rfl)) h) ?_
        simp only [Act.put, List.setIfInBounds_toArray, List.set_cons_zero, List.set_cons_succ]
        refine wpHeld_cons (.int .i64 (k : Int)) rfl (fun w h => heldRun_value (by kernel_rfl) h) ?_
        simp only [Act.put, List.setIfInBounds_toArray, List.set_cons_zero, List.set_cons_succ]
        refine wpHeld_cons (.pointer (some ⟨g3, k, none⟩)) rfl (fun w h => heldRun_value (run_idxt _ _ _ _ _ g3 k rfl rfl rfl HK.out) h) ?_
        simp only [Act.put, List.setIfInBounds_toArray, List.set_cons_zero, List.set_cons_succ]
        refine wpHeld_cons (.int .u8 q) rfl (fun w h => heldRun_value (run_load_one _ _ _ 5 _ _ rfl g3 k rfl (by rw [tok_cell h.2.2 (by rw [LY.out]; exact HK.out), HQ.out]) (by kernel_rfl)) h) ?_
        simp only [Act.put, List.setIfInBounds_toArray, List.set_cons_zero, List.set_cons_succ]
        refine wpHeld_nil ?_
        intro Y h
        have HY := Lib.hid h
        clear h
        refine wpL_pure (.bool z) rfl (run_lti Try.underlying5 rfl rfl rfl HZ.out) ?_
        simp only [Act.put, List.setIfInBounds_toArray, List.set_cons_zero, List.set_cons_succ]
        refine wpL_pure (.bool z) rfl (by kernel_rfl) ?_
        simp only [Act.put, List.setIfInBounds_toArray, List.set_cons_zero, List.set_cons_succ]
        go_wp2_with fail
        go_ret
        exact ⟨z, rfl, by rw [← HZ.out, decide_eq_true_eq, cmp_split xs ys k BX.out BY.out (by rw [LX.out]; exact HK.out) (by rw [LY.out]; exact HK.out) RI.out.2.2.2.2 (by rw [HP.out, HQ.out]; exact HC.out), HP.out, HQ.out], by rw [G2.out]; exact HY.out.1⟩
    · have HK := Lib.hid hlt
      clear hlt
      go_upto_region 2 with (fail)
      refine wp_region_lit ?_
      refine wpL_pure (.int .i64 (k : Int)) rfl (by kernel_rfl) ?_
      simp only [Act.put, List.setIfInBounds_toArray, List.set_cons_zero, List.set_cons_succ]
      refine wpL_pure (.bool false) rfl (run_lti Try.underlying3 rfl rfl rfl (by have := HK.out; rw [decide_eq_false_iff_not]; omega)) ?_
      simp only [Act.put, List.setIfInBounds_toArray, List.set_cons_zero, List.set_cons_succ]
      go_upto_region 6 with (fail)
      refine wp_region_lit ?_
      refine wpL_pure (.bool false) rfl (by kernel_rfl) ?_
      simp only [Act.put, List.setIfInBounds_toArray, List.set_cons_zero, List.set_cons_succ]
      go_wp2_with fail
      go_ret
      exact ⟨false, rfl, ⟨(fun h => by cases h), fun h => by
        have e : xs = ys := eq_of_getD LX.out LY.out (fun j hj => RI.out.2.2.2.2 j (by have := HK.out; omega))
        rw [e, cmp_eq0] at h; omega⟩, by rw [G2.out]; exact RI.out.2.1⟩
set_option maxHeartbeats 8000000 in
set_option maxRecDepth 100000 in
theorem refsorted_any (w : World) (a : Option Addr) (n c : Nat) (L : List (List Int)) (hL : Toks w a n L) (hn : n ≤ 4611686018427387904) :
    Calls Try.prog 32 #[.slice a n c] w fun e w' => SortPost n L w e w' := by
  have HL := Lib.hid hL
  have HN := Lib.hid hn
  clear hL hn
  go_enter Try.func32, Try.ntmps32
  go_upto_region 0 with (fail)
  refine wp_region_lit ?_
  refine wpL_pure (.bool false) rfl (by kernel_rfl) ?_
  simp only [Act.put, List.setIfInBounds_toArray, List.set_cons_zero, List.set_cons_succ]
  go_upto_region 1 with (fail)
  refine wp_region_lit ?_
  refine wpL_pure (.int .i64 0) rfl (by kernel_rfl) ?_
  simp only [Act.put, List.setIfInBounds_toArray, List.set_cons_zero, List.set_cons_succ]
  go_wp2_with fail
  go_loopw [3] (fun s3 wr => ∃ k : Nat, s3 = .int .i64 (k : Int) ∧ Hid ((k + 1 ≤ n ∨ k = 0) ∧ Below w.heap.size w wr ∧ ∀ j, 1 ≤ j → j ≤ k → cmpT (L.getD (j - 1) []) (L.getD j []) < 0)) (fun s3 _ => n - (intOf s3).toNat)
  case atStart => exact ⟨0, rfl, Lib.hid ⟨.inr rfl, Below.refl _ _, fun j h1 h2 => by omega⟩⟩
  case round =>
    obtain ⟨k, rfl, RI⟩ := hrel
    have KB : Hid (k ≤ 4611686018427387904) := Lib.hid (by
      have h1 := RI.out.1
      have h2 := HN.out
      omega)
    by_cases hlt : k + 1 < n
    · have HK := Lib.hid hlt
      clear hlt
      go_upto_region 2 with (fail)
      refine wp_region_lit ?_
      refine wpL_pure (.int .i64 (k : Int)) rfl (by kernel_rfl) ?_
      simp only [Act.put, List.setIfInBounds_toArray, List.set_cons_zero, List.set_cons_succ]
      refine wpL_pure (.int .i64 ((k + 1 : Nat) : Int)) rfl (run_addi Try.underlying3 rfl rfl rfl _ (by have := KB.out; rw [wrap_in _ (by omega) (by omega)]; omega)) ?_
      simp only [Act.put, List.setIfInBounds_toArray, List.set_cons_zero, List.set_cons_succ]
      refine wpL_pure (.slice a n c) rfl (by kernel_rfl) ?_
      simp only [Act.put, List.setIfInBounds_toArray, List.set_cons_zero, List.set_cons_succ]
      refine wpL_pure (.int .i64 (n : Int)) rfl (by kernel_rfl) ?_
      simp only [Act.put, List.setIfInBounds_toArray, List.set_cons_zero, List.set_cons_succ]
      refine wpL_pure (.bool true) rfl (run_lti Try.underlying3 rfl rfl rfl (by have := HK.out; rw [decide_eq_true_eq]; omega)) ?_
      simp only [Act.put, List.setIfInBounds_toArray, List.set_cons_zero, List.set_cons_succ]
      obtain ⟨g, o, ea, hm, ht⟩ := HL.out.2 (by have := HK.out; omega)
      have EA := Lib.hid ea
      have HM := Lib.hid hm
      have T0 : Hid (TokAt w g (o + k * 16) (L.getD k [])) := Lib.hid (ht k (by have := HK.out; omega))
      have T1 : Hid (TokAt w g (o + (k + 1) * 16) (L.getD (k + 1) [])) := Lib.hid (ht (k + 1) HK.out)
      clear ea hm ht
      obtain ⟨x, hx⟩ : ∃ x, L.getD k [] = x := ⟨_, rfl⟩
      obtain ⟨y, hy⟩ : ∃ y, L.getD (k + 1) [] = y := ⟨_, rfl⟩
      rw [hx] at T0
      rw [hy] at T1
      have HX := Lib.hid hx
      have HY := Lib.hid hy
      clear hx hy
      by_cases hc : cmpT x y < 0
      · have HC := Lib.hid hc
        clear hc
        go_upto_region 4 with (fail)
        refine region_held (fun X => Below w.heap.size w X) 9 (by kernel_rfl) (by kernel_rfl) (by exact RI.out.2.1.drew) ?_
        simp only [List.take_succ_cons, List.take_zero, List.drop_succ_cons, List.drop_zero]
        refine wpHeld_cons (.slice a n c) rfl (fun w h => heldRun_value (by kernel_rfl) h) ?_
        simp only [Act.put, List.setIfInBounds_toArray, List.set_cons_zero, List.set_cons_succ]
        refine wpHeld_cons (.int .i64 (k : Int)) rfl (fun w h => heldRun_value (by kernel_rfl) h) ?_
        simp only [Act.put, List.setIfInBounds_toArray, List.set_cons_zero, List.set_cons_succ]
        refine wpHeld_cons (.pointer (some ⟨g, o + k * 16, none⟩)) rfl (fun w h => heldRun_value (run_idx32 _ _ _ _ _ g o n c k rfl (by rw [EA.out]; rfl) rfl (by have := HK.out; omega) HM.out) h) ?_
        simp only [Act.put, List.setIfInBounds_toArray, List.set_cons_zero, List.set_cons_succ]
        refine wpHeld_cons (.agg (u8l x).toArray) rfl (fun w h => heldRun_value (run_load_mid _ _ _ 34 _ rfl g (o + k * 16) rfl (u8l x) _ (T0.out.keep h).2.2 Try.underlying34 rfl (by rw [u8l_len, T0.out.1]; kernel_rfl)) h) ?_
        simp only [Act.put, List.setIfInBounds_toArray, List.set_cons_zero, List.set_cons_succ]
        refine wpHeld_cons (.slice a n c) rfl (fun w h => heldRun_value (by kernel_rfl) h) ?_
        simp only [Act.put, List.setIfInBounds_toArray, List.set_cons_zero, List.set_cons_succ]
        refine wpHeld_cons (.int .i64 (k : Int)) rfl (fun w h => heldRun_value (by kernel_rfl) h) ?_
        simp only [Act.put, List.setIfInBounds_toArray, List.set_cons_zero, List.set_cons_succ]
        refine wpHeld_cons (.int .i64 ((k + 1 : Nat) : Int)) rfl (fun w h => heldRun_value (run_addi Try.underlying3 rfl rfl rfl _ (by have := KB.out; rw [wrap_in _ (by omega) (by omega)]; omega)) h) ?_
        simp only [Act.put, List.setIfInBounds_toArray, List.set_cons_zero, List.set_cons_succ]
        refine wpHeld_cons (.pointer (some ⟨g, o + (k + 1) * 16, none⟩)) rfl (fun w h => heldRun_value (run_idx32 _ _ _ _ _ g o n c (k + 1) rfl (by rw [EA.out]; rfl) rfl HK.out HM.out) h) ?_
        simp only [Act.put, List.setIfInBounds_toArray, List.set_cons_zero, List.set_cons_succ]
        refine wpHeld_cons (.agg (u8l y).toArray) rfl (fun w h => heldRun_value (run_load_mid _ _ _ 34 _ rfl g (o + (k + 1) * 16) rfl (u8l y) _ (T1.out.keep h).2.2 Try.underlying34 rfl (by rw [u8l_len, T1.out.1]; kernel_rfl)) h) ?_
        simp only [Act.put, List.setIfInBounds_toArray, List.set_cons_zero, List.set_cons_succ]
        refine wpHeld_nil ?_
        intro X h
        have HB := Lib.hid h
        clear h
        refine wpL_call 38 #[.agg (u8l x).toArray, .agg (u8l y).toArray] rfl (by kernel_rfl) (((less_any X x y T0.out.1 T1.out.1 T0.out.2.1 T1.out.2.1)).mono fun e w5 ⟨z, he, hz, hb⟩ => ⟨.bool true, (he.trans (by rw [hz.2 HC.out])), ?_⟩)
        simp only [Act.put, List.setIfInBounds_toArray, List.set_cons_zero, List.set_cons_succ]
        have HB5 : Hid (Below w.heap.size w w5) := Lib.hid (HB.out.trans (hb.mono HB.out.size))
        clear hb
        refine wpL_pure (.bool false) rfl (by kernel_rfl) ?_
        simp only [Act.put, List.setIfInBounds_toArray, List.set_cons_zero, List.set_cons_succ]
        go_upto_region 3 with (fail)
        refine wp_region_lit ?_
        refine wpL_pure (.int .i64 (k : Int)) rfl (by kernel_rfl) ?_
        simp only [Act.put, List.setIfInBounds_toArray, List.set_cons_zero, List.set_cons_succ]
        refine wpL_pure (.int .i64 ((k + 1 : Nat) : Int)) rfl (run_addi Try.underlying3 rfl rfl rfl _ (by have := KB.out; rw [wrap_in _ (by omega) (by omega)]; omega)) ?_
        simp only [Act.put, List.setIfInBounds_toArray, List.set_cons_zero, List.set_cons_succ]
        refine wpL_pure (.int .i64 ((k + 1 : Nat) : Int)) rfl (by kernel_rfl) ?_
        simp only [Act.put, List.setIfInBounds_toArray, List.set_cons_zero, List.set_cons_succ]
        have NX : Hid (((k + 1) + 1 ≤ n ∨ (k + 1) = 0) ∧ Below w.heap.size w w5 ∧ ∀ j, 1 ≤ j → j ≤ (k + 1) → cmpT (L.getD (j - 1) []) (L.getD j []) < 0) := Lib.hid ⟨.inl HK.out, HB5.out, fun j h1 h2 => by
          by_cases hj : j ≤ k
          · exact RI.out.2.2 j h1 hj
          · obtain rfl : j = k + 1 := by omega
            rw [Nat.add_sub_cancel, HX.out, HY.out]; exact HC.out⟩
        unfold wpList
        go_roundw
        case rel => first | exact ⟨k + 1, rfl, NX⟩ | ((repeat apply Exists.intro); exact ⟨⟨k + 1, rfl, NX⟩, rfl⟩)
        case measure => simp [intOf]; have := HK.out; omega
      · have HC := Lib.hid hc
        clear hc
        go_upto_region 4 with (fail)
        refine region_held (fun X => Below w.heap.size w X) 9 (by kernel_rfl) (by kernel_rfl) (by exact RI.out.2.1.drew) ?_
        simp only [List.take_succ_cons, List.take_zero, List.drop_succ_cons, List.drop_zero]
        refine wpHeld_cons (.slice a n c) rfl (fun w h => heldRun_value (by kernel_rfl) h) ?_
        simp only [Act.put, List.setIfInBounds_toArray, List.set_cons_zero, List.set_cons_succ]
        refine wpHeld_cons (.int .i64 (k : Int)) rfl (fun w h => heldRun_value (by kernel_rfl) h) ?_
        simp only [Act.put, List.setIfInBounds_toArray, List.set_cons_zero, List.set_cons_succ]
        refine wpHeld_cons (.pointer (some ⟨g, o + k * 16, none⟩)) rfl (fun w h => heldRun_value (run_idx32 _ _ _ _ _ g o n c k rfl (by rw [EA.out]; rfl) rfl (by have := HK.out; omega) HM.out) h) ?_
        simp only [Act.put, List.setIfInBounds_toArray, List.set_cons_zero, List.set_cons_succ]
        refine wpHeld_cons (.agg (u8l x).toArray) rfl (fun w h => heldRun_value (run_load_mid _ _ _ 34 _ rfl g (o + k * 16) rfl (u8l x) _ (T0.out.keep h).2.2 Try.underlying34 rfl (by rw [u8l_len, T0.out.1]; kernel_rfl)) h) ?_
        simp only [Act.put, List.setIfInBounds_toArray, List.set_cons_zero, List.set_cons_succ]
        refine wpHeld_cons (.slice a n c) rfl (fun w h => heldRun_value (by kernel_rfl) h) ?_
        simp only [Act.put, List.setIfInBounds_toArray, List.set_cons_zero, List.set_cons_succ]
        refine wpHeld_cons (.int .i64 (k : Int)) rfl (fun w h => heldRun_value (by kernel_rfl) h) ?_
        simp only [Act.put, List.setIfInBounds_toArray, List.set_cons_zero, List.set_cons_succ]
        refine wpHeld_cons (.int .i64 ((k + 1 : Nat) : Int)) rfl (fun w h => heldRun_value (run_addi Try.underlying3 rfl rfl rfl _ (by have := KB.out; rw [wrap_in _ (by omega) (by omega)]; omega)) h) ?_
        simp only [Act.put, List.setIfInBounds_toArray, List.set_cons_zero, List.set_cons_succ]
        refine wpHeld_cons (.pointer (some ⟨g, o + (k + 1) * 16, none⟩)) rfl (fun w h => heldRun_value (run_idx32 _ _ _ _ _ g o n c (k + 1) rfl (by rw [EA.out]; rfl) rfl HK.out HM.out) h) ?_
        simp only [Act.put, List.setIfInBounds_toArray, List.set_cons_zero, List.set_cons_succ]
        refine wpHeld_cons (.agg (u8l y).toArray) rfl (fun w h => heldRun_value (run_load_mid _ _ _ 34 _ rfl g (o + (k + 1) * 16) rfl (u8l y) _ (T1.out.keep h).2.2 Try.underlying34 rfl (by rw [u8l_len, T1.out.1]; kernel_rfl)) h) ?_
        simp only [Act.put, List.setIfInBounds_toArray, List.set_cons_zero, List.set_cons_succ]
        refine wpHeld_nil ?_
        intro X h
        have HB := Lib.hid h
        clear h
        refine wpL_call 38 #[.agg (u8l x).toArray, .agg (u8l y).toArray] rfl (by kernel_rfl) (((less_any X x y T0.out.1 T1.out.1 T0.out.2.1 T1.out.2.1)).mono fun e w5 ⟨z, he, hz, hb⟩ => ⟨.bool false, (he.trans (by rw [show z = false by cases z with | false => rfl | true => exact absurd (hz.1 rfl) HC.out])), ?_⟩)
        simp only [Act.put, List.setIfInBounds_toArray, List.set_cons_zero, List.set_cons_succ]
        have HB5 : Hid (Below w.heap.size w w5) := Lib.hid (HB.out.trans (hb.mono HB.out.size))
        clear hb
        refine wpL_pure (.bool true) rfl (by kernel_rfl) ?_
        simp only [Act.put, List.setIfInBounds_toArray, List.set_cons_zero, List.set_cons_succ]
        go_upto_region 5 with (fail)
        refine wp_region_lit ?_
        refine wpL_pure (.bool false) rfl (by kernel_rfl) ?_
        simp only [Act.put, List.setIfInBounds_toArray, List.set_cons_zero, List.set_cons_succ]
        go_wp2_with fail
        go_ret
        exact ⟨false, rfl, ⟨(fun h => by cases h), fun h => by have := h (k + 1) (by omega) HK.out; rw [Nat.add_sub_cancel, HX.out, HY.out] at this; have h2 := HC.out; omega⟩, HB5.out⟩
    · have HK := Lib.hid hlt
      clear hlt
      go_upto_region 2 with (fail)
      refine wp_region_lit ?_
      refine wpL_pure (.int .i64 (k : Int)) rfl (by kernel_rfl) ?_
      simp only [Act.put, List.setIfInBounds_toArray, List.set_cons_zero, List.set_cons_succ]
      refine wpL_pure (.int .i64 ((k + 1 : Nat) : Int)) rfl (run_addi Try.underlying3 rfl rfl rfl _ (by have := KB.out; rw [wrap_in _ (by omega) (by omega)]; omega)) ?_
      simp only [Act.put, List.setIfInBounds_toArray, List.set_cons_zero, List.set_cons_succ]
      refine wpL_pure (.slice a n c) rfl (by kernel_rfl) ?_
      simp only [Act.put, List.setIfInBounds_toArray, List.set_cons_zero, List.set_cons_succ]
      refine wpL_pure (.int .i64 (n : Int)) rfl (by kernel_rfl) ?_
      simp only [Act.put, List.setIfInBounds_toArray, List.set_cons_zero, List.set_cons_succ]
      refine wpL_pure (.bool false) rfl (run_lti Try.underlying3 rfl rfl rfl (by have := HK.out; rw [decide_eq_false_iff_not]; omega)) ?_
      simp only [Act.put, List.setIfInBounds_toArray, List.set_cons_zero, List.set_cons_succ]
      go_upto_region 6 with (fail)
      refine wp_region_lit ?_
      refine wpL_pure (.bool true) rfl (by kernel_rfl) ?_
      simp only [Act.put, List.setIfInBounds_toArray, List.set_cons_zero, List.set_cons_succ]
      go_wp2_with fail
      go_ret
      exact ⟨true, rfl, ⟨fun _ j h1 h2 => RI.out.2.2 j h1 (by have := HK.out; omega), fun _ => rfl⟩, RI.out.2.1⟩
end Go.Proofs.Ythkhlkiemldbaaa.K.Ha
