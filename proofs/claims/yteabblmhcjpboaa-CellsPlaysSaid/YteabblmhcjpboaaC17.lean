/- A head, as the reference tells it. -/
import Derived.Test.YteabblmhcjpboaaC16
namespace Go.Proofs.Yteabblmhcjpboaa.D
open Go Go.RowKit
set_option maxRecDepth 100000
/-- a head, as the reference tells it. -/
def fitM (most a c pl : Nat) : Bool := decide (a % 2 = pl) && decide (c ≤ most)
def hdT (most : Nat) (xs : List Int) (pl : Nat) : Value := if (whole xs && fitM most (srl xs) (cntL xs) pl) = true then .tuple #[.int .u64 ((srl xs : Nat) : Int), .int .u64 ((cntL xs : Nat) : Int), .agg (u8l (nteL xs)).toArray, .bool true] else .tuple #[.int .u64 0, .int .u64 0, .agg (u8l (List.replicate 16 0)).toArray, .bool false]
theorem whole_of_eq {xs : List Int} (hl : xs.length = 64) (h : ∀ j, j < 32 → xs.getD j 0 = xs.getD (32 + j) 0) : whole xs = true := by
  rw [whole_iff]
  apply List.ext_getElem?
  intro j
  rw [List.getElem?_take, List.getElem?_drop]
  by_cases q : j < 32
  · rw [if_pos q]
    have e := h j q
    rw [List.getD, List.getD, List.getElem?_eq_getElem (show j < xs.length by omega), List.getElem?_eq_getElem (show 32 + j < xs.length by omega)] at e
    rw [List.getElem?_eq_getElem (show j < xs.length by omega), List.getElem?_eq_getElem (show 32 + j < xs.length by omega)]
    simpa using e
  · rw [if_neg q, List.getElem?_eq_none (by omega)]
theorem whole_of_ne {xs : List Int} (hl : xs.length = 64) {k : Nat} (hk : k < 32) (h : ¬ xs.getD k 0 = xs.getD (32 + k) 0) : whole xs = false := by
  cases q : whole xs with
  | false => rfl
  | true =>
    exfalso
    have e := whole_get q k hk
    apply h
    simp only [List.getD_eq_getElem?_getD, e]
def ntC (xs : List Int) (k : Nat) : List Int := (nteL xs).take k ++ List.replicate (16 - k) 0
theorem ntC_all {xs : List Int} (hl : xs.length = 64) : ntC xs 16 = nteL xs := by
  unfold ntC
  rw [List.take_of_length_le (by simp [nteL, hl])]; simp
theorem ntC_len {xs : List Int} (hl : xs.length = 64) {k : Nat} (h : k ≤ 16) : (ntC xs k).length = 16 := by simp [ntC, nteL, hl]; omega
theorem ntC_some {xs : List Int} (hl : xs.length = 64) {k : Nat} (h : k < 16) : ((u8l (ntC xs k)).toArray[k]?).isSome = true := by
  rw [List.getElem?_toArray, List.getElem?_eq_getElem (by rw [u8l_len, ntC_len hl (by omega)]; exact h)]; rfl
theorem ntC_set {xs : List Int} (hl : xs.length = 64) {k : Nat} (h : k < 16) : (u8l (ntC xs k)).set k (.int .u8 (xs.getD (16 + k) 0)) = u8l (ntC xs (k + 1)) := by
  unfold u8l ntC
  rw [← List.map_set]
  congr 1
  have l : ((nteL xs).take k).length = k := by simp [nteL, hl]; omega
  rw [List.set_append_right _ _ (by omega), l, Nat.sub_self, show 16 - k = (16 - (k + 1)) + 1 by omega, List.replicate_succ, List.set_cons_zero]
  have e : (nteL xs).take (k + 1) = (nteL xs).take k ++ [xs.getD (16 + k) 0] := by
    have hk : k < (nteL xs).length := by simp [nteL, hl]; omega
    rw [List.take_add_one, List.getElem?_eq_getElem hk]
    congr 1
    simp [nteL, List.getD, List.getElem?_eq_getElem (show 16 + k < xs.length by omega)]
  rw [e, List.append_assoc]
  rfl
theorem run_sl816 (a : Act) (o : Oper) (w : World) (x i j : Operand) (g off c c8 : Nat) (ho : o.op = .slice 26 x (some i) (some j) none) (hx : a.eval x = .slice (some ⟨g, off, none⟩) 64 c) (hi : a.eval i = .int .i64 8) (hj : a.eval j = .int .i64 16) (hn : 64 ≤ c) (hc : c < 9223372036854775808) (h8 : c - 8 = c8) : (execOp a.eval o).run Try.prog w = .ok (.value (.slice (some ⟨g, off + 8, none⟩) 8 c8)) w := by
  subst h8
  have j1 : (16 : Int) ≤ (c : Int) := by omega
  have j2 : ¬ c = 8 := by omega
  unfold execOp
  simp only [ho, hx, Option.map_some, Option.map_none, hi, hj]
  go_simp
attribute [local irreducible] wpList
set_option maxHeartbeats 8000000
theorem refhead_any (w : World) (g o cx : Nat) (xs : List Int) (h : Row w (some ⟨g, o, none⟩) 64 xs) (hc : 64 ≤ cx ∧ cx < 9223372036854775808) (pl most : Nat) (hp : pl ≤ 1 ∧ most ≤ 1000000) : Calls Try.prog 40 #[.slice (some ⟨g, o, none⟩) 64 cx, .int .i64 ((pl : Nat) : Int), .int .i64 ((most : Nat) : Int)] w fun e w' => e = .returned (hdT most xs pl) ∧ Below w.heap.size w w' := by
  have HR := Lib.hid h
  have CX := Lib.hid hc
  have HP := Lib.hid hp
  clear h hc hp
  go_enter Try.func40, Try.ntmps40
  go_upto_region 0 with (fail)
  refine wp_region_lit ?_
  refine wpL_pure (.int .u64 0) rfl (by kernel_rfl) ?_
  simp only [Act.put, List.setIfInBounds_toArray, List.set_cons_zero, List.set_cons_succ]
  refine wpL_pure (.int .u64 0) rfl (by kernel_rfl) ?_
  simp only [Act.put, List.setIfInBounds_toArray, List.set_cons_zero, List.set_cons_succ]
  obtain ⟨W1, hW1⟩ : ∃ V, V = w.alloc (.cells (u8l (List.replicate 16 0)).toArray 32) := ⟨_, rfl⟩
  refine wpL_value (.pointer (some ⟨w.heap.size, 0, none⟩)) W1 rfl (by rw [hW1]; kernel_rfl) ?_
  simp only [Act.put, List.setIfInBounds_toArray, List.set_cons_zero, List.set_cons_succ]
  obtain ⟨g8, hg8⟩ : ∃ q, w.heap.size = q := ⟨_, rfl⟩
  have F1 : Hid (Below w.heap.size w W1 ∧ Blk W1 g8 32 (u8l (List.replicate 16 0)).toArray ∧ w.heap.size ≤ g8) := Lib.hid (by rw [hW1, ← hg8]; exact ⟨(Below.refl _ _).alloc (Nat.le_refl _) _, Blk.new _ _ _, Nat.le_refl _⟩)
  rw [hg8]
  clear hW1 hg8
  refine wpL_pure (.bool false) rfl (by kernel_rfl) ?_
  simp only [Act.put, List.setIfInBounds_toArray, List.set_cons_zero, List.set_cons_succ]
  go_upto_region 1 with (fail)
  refine wp_region_lit ?_
  obtain ⟨W2, hW2⟩ : ∃ V, V = W1.alloc (.cells (u8l (List.replicate 16 0)).toArray 32) := ⟨_, rfl⟩
  refine wpL_value (.pointer (some ⟨W1.heap.size, 0, none⟩)) W2 rfl (by rw [hW2]; kernel_rfl) ?_
  simp only [Act.put, List.setIfInBounds_toArray, List.set_cons_zero, List.set_cons_succ]
  obtain ⟨g10, hg10⟩ : ∃ q, W1.heap.size = q := ⟨_, rfl⟩
  have F2 : Hid (Below w.heap.size w W2 ∧ Blk W2 g8 32 (u8l (List.replicate 16 0)).toArray ∧ Blk W2 g10 32 (u8l (List.replicate 16 0)).toArray ∧ g8 ≠ g10 ∧ w.heap.size ≤ g8 ∧ w.heap.size ≤ g10) := Lib.hid (by have l := F1.out.2.1.lt; have z := F1.out.1.size; rw [hW2]; exact ⟨F1.out.1.alloc F1.out.1.size _, F1.out.2.1.alloc _, by rw [← hg10]; exact Blk.new _ _ _, by omega, F1.out.2.2, by omega⟩)
  rw [hg10]
  clear hW2 hg10
  go_upto_region 2 with (fail)
  refine wp_region_lit ?_
  refine wpL_pure (.int .i64 0) rfl (by kernel_rfl) ?_
  simp only [Act.put, List.setIfInBounds_toArray, List.set_cons_zero, List.set_cons_succ]
  unfold wpList
  go_wp2_with fail
  go_loopw [11] (fun s11 wr => ∃ k : Nat, s11 = .int .i64 (k : Int) ∧ Hid ((k ≤ 32 ∧ ∀ j, j < k → xs.getD j 0 = xs.getD (32 + j) 0) ∧ Below w.heap.size w wr ∧ Blk wr g8 32 (u8l (List.replicate 16 0)).toArray ∧ Blk wr g10 32 (u8l (List.replicate 16 0)).toArray)) (fun s11 _ => 32 - (intOf s11).toNat)
  case atStart => exact ⟨0, rfl, Lib.hid ⟨⟨by omega, fun j h => by omega⟩, F2.out.1, F2.out.2.1, F2.out.2.2.1⟩⟩
  case round =>
    obtain ⟨k, rfl, RI0⟩ := hrel
    have RK := Lib.hid RI0.out.1
    have RI := Lib.hid RI0.out.2
    clear RI0
    by_cases hlt : k < 32
    · have HK := Lib.hid hlt
      clear hlt
      go_upto_region 3 with (fail)
      refine wp_region_lit ?_
      refine wpL_pure (.int .i64 (k : Int)) rfl (by kernel_rfl) ?_
      simp only [Act.put, List.setIfInBounds_toArray, List.set_cons_zero, List.set_cons_succ]
      refine wpL_pure (.bool true) rfl (run_lti Try.underlying3 rfl rfl rfl (by have := HK.out; rw [decide_eq_true_eq]; omega)) ?_
      simp only [Act.put, List.setIfInBounds_toArray, List.set_cons_zero, List.set_cons_succ]
      by_cases he : xs.getD k 0 = xs.getD (32 + k) 0
      · have HE := Lib.hid he
        clear he
        go_upto_region 5 with (fail)
        refine region_anyT (fun X => Row X (some ⟨g, o, none⟩) 64 xs ∧ Below w.heap.size w X) (by kernel_rfl) 10 10 rfl ?_
        refine wpAnyT_take (i := 0) (oi := ⟨some 19, _, _, _, _, _⟩) (v := .slice (some ⟨g, o, none⟩) 64 cx) rfl (by kernel_rfl) (by kernel_rfl) (by kernel_rfl) (fun _ _ _ h => h) (by kernel_rfl) (Or.inl ⟨rfl, fun w h => by kernel_rfl⟩) (⟨HR.out.keep RI.out.1.drew, RI.out.1.drew⟩) ?_
        simp only [Act.put, List.setIfInBounds_toArray, List.set_cons_zero, List.set_cons_succ]
        refine wpAnyT_take (i := 1) (oi := ⟨some 20, _, _, _, _, _⟩) (v := .int .i64 (k : Int)) rfl (by kernel_rfl) (by kernel_rfl) (by kernel_rfl) (fun _ _ _ h => h) (by kernel_rfl) (Or.inl ⟨rfl, fun w h => by kernel_rfl⟩) (⟨HR.out.keep RI.out.1.drew, RI.out.1.drew⟩) ?_
        simp only [Act.put, List.setIfInBounds_toArray, List.set_cons_zero, List.set_cons_succ]
        refine wpAnyT_take (i := 2) (oi := ⟨some 21, _, _, _, _, _⟩) (v := .pointer (some ⟨g, o + k, none⟩)) rfl (by kernel_rfl) (by kernel_rfl) (by kernel_rfl) (fun _ _ _ h => h) (by kernel_rfl) (Or.inl ⟨rfl, fun w h => run_idx _ _ _ _ _ g o 64 cx k rfl rfl rfl (by have := HK.out; omega) (by simp [maxLen])⟩) (⟨HR.out.keep RI.out.1.drew, RI.out.1.drew⟩) ?_
        simp only [Act.put, List.setIfInBounds_toArray, List.set_cons_zero, List.set_cons_succ]
        refine wpAnyT_take (i := 3) (oi := ⟨some 22, _, _, _, _, _⟩) (v := .int .u8 (xs.getD k 0)) rfl (by kernel_rfl) (by kernel_rfl) (by kernel_rfl) (fun _ _ _ h => h) (by kernel_rfl) (Or.inl ⟨rfl, fun w h => run_load_one _ _ _ 5 _ _ rfl g (o + k) rfl (row_cell h.1 k (by have := HK.out; omega)) (by kernel_rfl)⟩) (⟨HR.out.keep RI.out.1.drew, RI.out.1.drew⟩) ?_
        simp only [Act.put, List.setIfInBounds_toArray, List.set_cons_zero, List.set_cons_succ]
        refine wpAnyT_take (i := 4) (oi := ⟨some 23, _, _, _, _, _⟩) (v := .slice (some ⟨g, o, none⟩) 64 cx) rfl (by kernel_rfl) (by kernel_rfl) (by kernel_rfl) (fun _ _ _ h => h) (by kernel_rfl) (Or.inl ⟨rfl, fun w h => by kernel_rfl⟩) (⟨HR.out.keep RI.out.1.drew, RI.out.1.drew⟩) ?_
        simp only [Act.put, List.setIfInBounds_toArray, List.set_cons_zero, List.set_cons_succ]
        refine wpAnyT_take (i := 5) (oi := ⟨some 24, _, _, _, _, _⟩) (v := .int .i64 (k : Int)) rfl (by kernel_rfl) (by kernel_rfl) (by kernel_rfl) (fun _ _ _ h => h) (by kernel_rfl) (Or.inl ⟨rfl, fun w h => by kernel_rfl⟩) (⟨HR.out.keep RI.out.1.drew, RI.out.1.drew⟩) ?_
        simp only [Act.put, List.setIfInBounds_toArray, List.set_cons_zero, List.set_cons_succ]
        refine wpAnyT_take (i := 6) (oi := ⟨some 25, _, _, _, _, _⟩) (v := .int .i64 ((32 + k : Nat) : Int)) rfl (by kernel_rfl) (by kernel_rfl) (by kernel_rfl) (fun _ _ _ h => h) (by kernel_rfl) (Or.inl ⟨rfl, fun w h => run_addi Try.underlying3 rfl rfl rfl _ (by have := HK.out; rw [wrap_in _ (by omega) (by omega)]; omega)⟩) (⟨HR.out.keep RI.out.1.drew, RI.out.1.drew⟩) ?_
        simp only [Act.put, List.setIfInBounds_toArray, List.set_cons_zero, List.set_cons_succ]
        refine wpAnyT_take (i := 7) (oi := ⟨some 26, _, _, _, _, _⟩) (v := .pointer (some ⟨g, o + (32 + k), none⟩)) rfl (by kernel_rfl) (by kernel_rfl) (by kernel_rfl) (fun _ _ _ h => h) (by kernel_rfl) (Or.inl ⟨rfl, fun w h => run_idx _ _ _ _ _ g o 64 cx (32 + k) rfl rfl rfl (by have := HK.out; omega) (by simp [maxLen])⟩) (⟨HR.out.keep RI.out.1.drew, RI.out.1.drew⟩) ?_
        simp only [Act.put, List.setIfInBounds_toArray, List.set_cons_zero, List.set_cons_succ]
        refine wpAnyT_take (i := 8) (oi := ⟨some 27, _, _, _, _, _⟩) (v := .int .u8 (xs.getD (32 + k) 0)) rfl (by kernel_rfl) (by kernel_rfl) (by kernel_rfl) (fun _ _ _ h => h) (by kernel_rfl) (Or.inl ⟨rfl, fun w h => run_load_one _ _ _ 5 _ _ rfl g (o + (32 + k)) rfl (row_cell h.1 (32 + k) (by have := HK.out; omega)) (by kernel_rfl)⟩) (⟨HR.out.keep RI.out.1.drew, RI.out.1.drew⟩) ?_
        simp only [Act.put, List.setIfInBounds_toArray, List.set_cons_zero, List.set_cons_succ]
        refine wpAnyT_take (i := 9) (oi := ⟨some 28, _, _, _, _, _⟩) (v := .bool false) rfl (by kernel_rfl) (by kernel_rfl) (by kernel_rfl) (fun _ _ _ h => h) (by kernel_rfl) (Or.inl ⟨rfl, fun w h => run_nei Try.underlying5 rfl rfl rfl (by have := HE.out; rw [decide_eq_false_iff_not]; omega)⟩) (⟨HR.out.keep RI.out.1.drew, RI.out.1.drew⟩) ?_
        simp only [Act.put, List.setIfInBounds_toArray, List.set_cons_zero, List.set_cons_succ]
        refine wpAnyT_done (by kernel_rfl) ?_ _
        go_upto_region 4 with (fail)
        refine wp_region_lit ?_
        refine wpL_pure (.int .i64 (k : Int)) rfl (by kernel_rfl) ?_
        simp only [Act.put, List.setIfInBounds_toArray, List.set_cons_zero, List.set_cons_succ]
        refine wpL_pure (.int .i64 ((k + 1 : Nat) : Int)) rfl (run_addi Try.underlying3 rfl rfl rfl _ (by have := HK.out; rw [wrap_in _ (by omega) (by omega)]; omega)) ?_
        simp only [Act.put, List.setIfInBounds_toArray, List.set_cons_zero, List.set_cons_succ]
        refine wpL_pure (.int .i64 ((k + 1 : Nat) : Int)) rfl (by kernel_rfl) ?_
        simp only [Act.put, List.setIfInBounds_toArray, List.set_cons_zero, List.set_cons_succ]
        have NX : Hid ((k + 1 ≤ 32 ∧ ∀ j, j < k + 1 → xs.getD j 0 = xs.getD (32 + j) 0) ∧ Below w.heap.size w wr.drew ∧ Blk wr.drew g8 32 (u8l (List.replicate 16 0)).toArray ∧ Blk wr.drew g10 32 (u8l (List.replicate 16 0)).toArray) := Lib.hid ⟨⟨HK.out, fun j h => by
              by_cases q : j < k
              · exact RK.out.2 j q
              · obtain rfl : j = k := by omega
                exact HE.out⟩, RI.out.1.drew, RI.out.2.1, RI.out.2.2⟩
        unfold wpList
        go_roundw
        case rel => first | exact ⟨_, rfl, NX⟩ | ((repeat apply Exists.intro); exact ⟨⟨_, rfl, NX⟩, rfl⟩)
        case measure => simp [intOf]; have := HK.out; omega
      · have HE := Lib.hid he
        clear he
        go_upto_region 5 with (fail)
        refine region_anyT (fun X => Row X (some ⟨g, o, none⟩) 64 xs ∧ Below w.heap.size w X) (by kernel_rfl) 10 10 rfl ?_
        refine wpAnyT_take (i := 0) (oi := ⟨some 19, _, _, _, _, _⟩) (v := .slice (some ⟨g, o, none⟩) 64 cx) rfl (by kernel_rfl) (by kernel_rfl) (by kernel_rfl) (fun _ _ _ h => h) (by kernel_rfl) (Or.inl ⟨rfl, fun w h => by kernel_rfl⟩) (⟨HR.out.keep RI.out.1.drew, RI.out.1.drew⟩) ?_
        simp only [Act.put, List.setIfInBounds_toArray, List.set_cons_zero, List.set_cons_succ]
        refine wpAnyT_take (i := 1) (oi := ⟨some 20, _, _, _, _, _⟩) (v := .int .i64 (k : Int)) rfl (by kernel_rfl) (by kernel_rfl) (by kernel_rfl) (fun _ _ _ h => h) (by kernel_rfl) (Or.inl ⟨rfl, fun w h => by kernel_rfl⟩) (⟨HR.out.keep RI.out.1.drew, RI.out.1.drew⟩) ?_
        simp only [Act.put, List.setIfInBounds_toArray, List.set_cons_zero, List.set_cons_succ]
        refine wpAnyT_take (i := 2) (oi := ⟨some 21, _, _, _, _, _⟩) (v := .pointer (some ⟨g, o + k, none⟩)) rfl (by kernel_rfl) (by kernel_rfl) (by kernel_rfl) (fun _ _ _ h => h) (by kernel_rfl) (Or.inl ⟨rfl, fun w h => run_idx _ _ _ _ _ g o 64 cx k rfl rfl rfl (by have := HK.out; omega) (by simp [maxLen])⟩) (⟨HR.out.keep RI.out.1.drew, RI.out.1.drew⟩) ?_
        simp only [Act.put, List.setIfInBounds_toArray, List.set_cons_zero, List.set_cons_succ]
        refine wpAnyT_take (i := 3) (oi := ⟨some 22, _, _, _, _, _⟩) (v := .int .u8 (xs.getD k 0)) rfl (by kernel_rfl) (by kernel_rfl) (by kernel_rfl) (fun _ _ _ h => h) (by kernel_rfl) (Or.inl ⟨rfl, fun w h => run_load_one _ _ _ 5 _ _ rfl g (o + k) rfl (row_cell h.1 k (by have := HK.out; omega)) (by kernel_rfl)⟩) (⟨HR.out.keep RI.out.1.drew, RI.out.1.drew⟩) ?_
        simp only [Act.put, List.setIfInBounds_toArray, List.set_cons_zero, List.set_cons_succ]
        refine wpAnyT_take (i := 4) (oi := ⟨some 23, _, _, _, _, _⟩) (v := .slice (some ⟨g, o, none⟩) 64 cx) rfl (by kernel_rfl) (by kernel_rfl) (by kernel_rfl) (fun _ _ _ h => h) (by kernel_rfl) (Or.inl ⟨rfl, fun w h => by kernel_rfl⟩) (⟨HR.out.keep RI.out.1.drew, RI.out.1.drew⟩) ?_
        simp only [Act.put, List.setIfInBounds_toArray, List.set_cons_zero, List.set_cons_succ]
        refine wpAnyT_take (i := 5) (oi := ⟨some 24, _, _, _, _, _⟩) (v := .int .i64 (k : Int)) rfl (by kernel_rfl) (by kernel_rfl) (by kernel_rfl) (fun _ _ _ h => h) (by kernel_rfl) (Or.inl ⟨rfl, fun w h => by kernel_rfl⟩) (⟨HR.out.keep RI.out.1.drew, RI.out.1.drew⟩) ?_
        simp only [Act.put, List.setIfInBounds_toArray, List.set_cons_zero, List.set_cons_succ]
        refine wpAnyT_take (i := 6) (oi := ⟨some 25, _, _, _, _, _⟩) (v := .int .i64 ((32 + k : Nat) : Int)) rfl (by kernel_rfl) (by kernel_rfl) (by kernel_rfl) (fun _ _ _ h => h) (by kernel_rfl) (Or.inl ⟨rfl, fun w h => run_addi Try.underlying3 rfl rfl rfl _ (by have := HK.out; rw [wrap_in _ (by omega) (by omega)]; omega)⟩) (⟨HR.out.keep RI.out.1.drew, RI.out.1.drew⟩) ?_
        simp only [Act.put, List.setIfInBounds_toArray, List.set_cons_zero, List.set_cons_succ]
        refine wpAnyT_take (i := 7) (oi := ⟨some 26, _, _, _, _, _⟩) (v := .pointer (some ⟨g, o + (32 + k), none⟩)) rfl (by kernel_rfl) (by kernel_rfl) (by kernel_rfl) (fun _ _ _ h => h) (by kernel_rfl) (Or.inl ⟨rfl, fun w h => run_idx _ _ _ _ _ g o 64 cx (32 + k) rfl rfl rfl (by have := HK.out; omega) (by simp [maxLen])⟩) (⟨HR.out.keep RI.out.1.drew, RI.out.1.drew⟩) ?_
        simp only [Act.put, List.setIfInBounds_toArray, List.set_cons_zero, List.set_cons_succ]
        refine wpAnyT_take (i := 8) (oi := ⟨some 27, _, _, _, _, _⟩) (v := .int .u8 (xs.getD (32 + k) 0)) rfl (by kernel_rfl) (by kernel_rfl) (by kernel_rfl) (fun _ _ _ h => h) (by kernel_rfl) (Or.inl ⟨rfl, fun w h => run_load_one _ _ _ 5 _ _ rfl g (o + (32 + k)) rfl (row_cell h.1 (32 + k) (by have := HK.out; omega)) (by kernel_rfl)⟩) (⟨HR.out.keep RI.out.1.drew, RI.out.1.drew⟩) ?_
        simp only [Act.put, List.setIfInBounds_toArray, List.set_cons_zero, List.set_cons_succ]
        refine wpAnyT_take (i := 9) (oi := ⟨some 28, _, _, _, _, _⟩) (v := .bool true) rfl (by kernel_rfl) (by kernel_rfl) (by kernel_rfl) (fun _ _ _ h => h) (by kernel_rfl) (Or.inl ⟨rfl, fun w h => run_nei Try.underlying5 rfl rfl rfl (by have := HE.out; rw [decide_eq_true_eq]; omega)⟩) (⟨HR.out.keep RI.out.1.drew, RI.out.1.drew⟩) ?_
        simp only [Act.put, List.setIfInBounds_toArray, List.set_cons_zero, List.set_cons_succ]
        refine wpAnyT_done (by kernel_rfl) ?_ _
        go_upto_region 6 with (fail)
        refine region_anyT (fun X => Blk X g10 32 (u8l (List.replicate 16 0)).toArray) (by kernel_rfl) 5 5 rfl ?_
        refine wpAnyT_take (i := 0) (oi := ⟨some 29, _, _, _, _, _⟩) (v := .agg (u8l (List.replicate 16 0)).toArray) rfl (by kernel_rfl) (by kernel_rfl) (by kernel_rfl) (fun _ _ _ h => h) (by kernel_rfl) (Or.inl ⟨rfl, fun w h => run_load_mid _ _ _ 32 _ rfl g10 0 rfl (u8l (List.replicate 16 0)) _ (blk_range h) Try.underlying32 rfl (by kernel_rfl)⟩) (RI.out.2.2) ?_
        simp only [Act.put, List.setIfInBounds_toArray, List.set_cons_zero, List.set_cons_succ]
        refine wpAnyT_take (i := 1) (oi := ⟨some 6, _, _, _, _, _⟩) (v := .int .u64 0) rfl (by kernel_rfl) (by kernel_rfl) (by kernel_rfl) (fun _ _ _ h => h) (by kernel_rfl) (Or.inl ⟨rfl, fun w h => by kernel_rfl⟩) (RI.out.2.2) ?_
        simp only [Act.put, List.setIfInBounds_toArray, List.set_cons_zero, List.set_cons_succ]
        refine wpAnyT_take (i := 2) (oi := ⟨some 7, _, _, _, _, _⟩) (v := .int .u64 0) rfl (by kernel_rfl) (by kernel_rfl) (by kernel_rfl) (fun _ _ _ h => h) (by kernel_rfl) (Or.inl ⟨rfl, fun w h => by kernel_rfl⟩) (RI.out.2.2) ?_
        simp only [Act.put, List.setIfInBounds_toArray, List.set_cons_zero, List.set_cons_succ]
        refine wpAnyT_one (i := 3) (by kernel_rfl) ?_
        obtain ⟨W6, hW6⟩ : ∃ V, V = wr.drew.drew.setRow g8 (u8l (List.replicate 16 0)).toArray := ⟨_, rfl⟩
        have F6 : Hid (Below w.heap.size w W6 ∧ Blk W6 g8 32 (u8l (List.replicate 16 0)).toArray ∧ Blk W6 g10 32 (u8l (List.replicate 16 0)).toArray) := Lib.hid (by rw [hW6]; exact ⟨below_setRow RI.out.1.drew.drew F2.out.2.2.2.2.1 _, setRow_heap _ _ _ _ _ _ RI.out.2.1, (setRow_other _ _ _ _ F2.out.2.2.2.1.symm).trans RI.out.2.2⟩)
        refine op_skip (o := ⟨none, _, _, _, _, _⟩) W6 rfl rfl (by rw [hW6]; exact run_store_row _ _ _ 32 _ _ rfl g8 (u8l (List.replicate 16 0)).toArray rfl rfl 32 _ RI.out.2.1 (by kernel_rfl) rfl (u8l_one _)) ?_
        refine ⟨fun _ => F6.out.2.2, ?_⟩
        simp only [Act.put, List.setIfInBounds_toArray, List.set_cons_zero, List.set_cons_succ]
        clear hW6
        refine wpAnyT_take (i := 4) (oi := ⟨some 9, _, _, _, _, _⟩) (v := .bool false) rfl (by kernel_rfl) (by kernel_rfl) (by kernel_rfl) (fun _ _ _ h => h) (by kernel_rfl) (Or.inl ⟨rfl, fun w h => by kernel_rfl⟩) (F6.out.2.2) ?_
        simp only [Act.put, List.setIfInBounds_toArray, List.set_cons_zero, List.set_cons_succ]
        refine wpAnyT_done (by kernel_rfl) ?_ _
        go_wp2_with fail
        exact bodyPost_ret (results_ttct rfl _ _ g8 32 _ (0, 0) _ rfl F6.out.2.1 Try.underlying32 rfl (by kernel_rfl)) rfl ⟨by rw [hdT, if_neg (by rw [whole_of_ne HR.out.1 HK.out HE.out]; simp)]; rfl, F6.out.1⟩
    · have HW : Hid (whole xs = true) := Lib.hid (whole_of_eq HR.out.1 (fun j hj => RK.out.2 j (by omega)))
      have RKK : Hid (k = 32) := Lib.hid (by have := RK.out.1; omega)
      clear hlt
      go_upto_region 3 with (fail)
      refine wp_region_lit ?_
      refine wpL_pure (.int .i64 (k : Int)) rfl (by kernel_rfl) ?_
      simp only [Act.put, List.setIfInBounds_toArray, List.set_cons_zero, List.set_cons_succ]
      refine wpL_pure (.bool false) rfl (run_lti Try.underlying3 rfl rfl rfl (by have := RKK.out; rw [decide_eq_false_iff_not]; omega)) ?_
      simp only [Act.put, List.setIfInBounds_toArray, List.set_cons_zero, List.set_cons_succ]
      go_upto_region 7 with (fail)
      refine wp_region_lit ?_
      refine wpL_pure (.int .i64 0) rfl (by kernel_rfl) ?_
      simp only [Act.put, List.setIfInBounds_toArray, List.set_cons_zero, List.set_cons_succ]
      unfold wpList
      go_wp2_with fail
      go_loopw [12] (fun s12 wr => ∃ i : Nat, s12 = .int .i64 (i : Int) ∧ Hid (i ≤ 16 ∧ Below w.heap.size w wr ∧ Blk wr g8 32 (u8l (List.replicate 16 0)).toArray ∧ Blk wr g10 32 (u8l (ntC xs i)).toArray)) (fun s12 _ => 16 - (intOf s12).toNat)
      case atStart => exact ⟨0, rfl, Lib.hid ⟨by omega, RI.out.1, RI.out.2.1, RI.out.2.2⟩⟩
      case round =>
        obtain ⟨i, rfl, RJ⟩ := hrel
        by_cases hlt : i < 16
        · have HI := Lib.hid hlt
          clear hlt
          go_upto_region 8 with (fail)
          refine wp_region_lit ?_
          refine wpL_pure (.int .i64 (i : Int)) rfl (by kernel_rfl) ?_
          simp only [Act.put, List.setIfInBounds_toArray, List.set_cons_zero, List.set_cons_succ]
          refine wpL_pure (.bool true) rfl (run_lti Try.underlying3 rfl rfl rfl (by have := HI.out; rw [decide_eq_true_eq]; omega)) ?_
          simp only [Act.put, List.setIfInBounds_toArray, List.set_cons_zero, List.set_cons_succ]
          go_upto_region 10 with (fail)
          refine wp_region_lit ?_
          refine wpL_pure (.int .i64 (i : Int)) rfl (by kernel_rfl) ?_
          simp only [Act.put, List.setIfInBounds_toArray, List.set_cons_zero, List.set_cons_succ]
          refine wpL_pure (.slice (some ⟨g, o, none⟩) 64 cx) rfl (by kernel_rfl) ?_
          simp only [Act.put, List.setIfInBounds_toArray, List.set_cons_zero, List.set_cons_succ]
          refine wpL_pure (.int .i64 (i : Int)) rfl (by kernel_rfl) ?_
          simp only [Act.put, List.setIfInBounds_toArray, List.set_cons_zero, List.set_cons_succ]
          refine wpL_pure (.int .i64 ((16 + i : Nat) : Int)) rfl (run_addi Try.underlying3 rfl rfl rfl _ (by have := HI.out; rw [wrap_in _ (by omega) (by omega)]; omega)) ?_
          simp only [Act.put, List.setIfInBounds_toArray, List.set_cons_zero, List.set_cons_succ]
          refine wpL_pure (.pointer (some ⟨g, o + (16 + i), none⟩)) rfl (run_idx _ _ _ _ _ g o 64 cx (16 + i) rfl rfl rfl (by have := HI.out; omega) (by simp [maxLen])) ?_
          simp only [Act.put, List.setIfInBounds_toArray, List.set_cons_zero, List.set_cons_succ]
          refine wpL_pure (.int .u8 (xs.getD (16 + i) 0)) rfl (run_load_one _ _ _ 5 _ _ rfl g (o + (16 + i)) rfl (row_cell (HR.out.keep RJ.out.2.1) (16 + i) (by have := HI.out; omega)) (by kernel_rfl)) ?_
          simp only [Act.put, List.setIfInBounds_toArray, List.set_cons_zero, List.set_cons_succ]
          refine wpL_pure (.pointer (some ⟨g10, i, none⟩)) rfl (run_idxn _ _ _ _ _ g10 i rfl rfl rfl HI.out) ?_
          simp only [Act.put, List.setIfInBounds_toArray, List.set_cons_zero, List.set_cons_succ]
          refine wpL_store_one rfl rfl (g10) (i) rfl (.int .u8 (xs.getD (16 + i) 0)) rfl rfl size5 (by rw [RJ.out.2.2.2.cell]; exact ntC_some HR.out.1 HI.out) (RJ.out.2.2.2.free _) ?_
          simp only [Act.put, List.setIfInBounds_toArray, List.set_cons_zero, List.set_cons_succ]
          obtain ⟨w2, hw2⟩ : ∃ V, V = wr.setCell ⟨g10, i, none⟩ (.int .u8 (xs.getD (16 + i) 0)) := ⟨_, rfl⟩
          rw [← hw2]
          have NX : Hid (i + 1 ≤ 16 ∧ Below w.heap.size w w2 ∧ Blk w2 g8 32 (u8l (List.replicate 16 0)).toArray ∧ Blk w2 g10 32 (u8l (ntC xs (i + 1))).toArray) := Lib.hid (by rw [hw2]; exact ⟨HI.out, RJ.out.2.1.setCell (p := ⟨g10, i, none⟩) F2.out.2.2.2.2.2 _, RJ.out.2.2.1.other _ _ F2.out.2.2.2.1, by have q := RJ.out.2.2.2.set i (.int .u8 (xs.getD (16 + i) 0)); rw [ntC_set HR.out.1 HI.out] at q; exact q⟩)
          clear hw2
          go_upto_region 9 with (fail)
          refine wp_region_lit ?_
          refine wpL_pure (.int .i64 (i : Int)) rfl (by kernel_rfl) ?_
          simp only [Act.put, List.setIfInBounds_toArray, List.set_cons_zero, List.set_cons_succ]
          refine wpL_pure (.int .i64 ((i + 1 : Nat) : Int)) rfl (run_addi Try.underlying3 rfl rfl rfl _ (by have := HI.out; rw [wrap_in _ (by omega) (by omega)]; omega)) ?_
          simp only [Act.put, List.setIfInBounds_toArray, List.set_cons_zero, List.set_cons_succ]
          refine wpL_pure (.int .i64 ((i + 1 : Nat) : Int)) rfl (by kernel_rfl) ?_
          simp only [Act.put, List.setIfInBounds_toArray, List.set_cons_zero, List.set_cons_succ]
          unfold wpList
          go_roundw
          case rel => first | exact ⟨_, rfl, NX⟩ | ((repeat apply Exists.intro); exact ⟨⟨_, rfl, NX⟩, rfl⟩)
          case measure => simp [intOf]; have := HI.out; omega
        · have EI : Hid (i = 16) := Lib.hid (by have := RJ.out.1; omega)
          clear hlt
          have F3 : Hid (Below w.heap.size w wr ∧ Blk wr g8 32 (u8l (List.replicate 16 0)).toArray ∧ Blk wr g10 32 (u8l (nteL xs)).toArray) := Lib.hid (by have q := RJ.out.2; rw [EI.out, ntC_all HR.out.1] at q; exact q)
          have NN : Hid ((nteL xs).length = 16) := Lib.hid (by simp [nteL, HR.out.1])
          go_upto_region 8 with (fail)
          refine wp_region_lit ?_
          refine wpL_pure (.int .i64 (i : Int)) rfl (by kernel_rfl) ?_
          simp only [Act.put, List.setIfInBounds_toArray, List.set_cons_zero, List.set_cons_succ]
          refine wpL_pure (.bool false) rfl (run_lti Try.underlying3 rfl rfl rfl (by have := EI.out; rw [decide_eq_false_iff_not]; omega)) ?_
          simp only [Act.put, List.setIfInBounds_toArray, List.set_cons_zero, List.set_cons_succ]
          obtain ⟨c8, hc8⟩ : ∃ q, cx - 8 = q := ⟨_, rfl⟩
          have HC8 := Lib.hid hc8
          clear hc8
          go_upto_region 11 with (fail)
          refine region_anyT (fun X => Row X (some ⟨g, o, none⟩) 64 xs) (by kernel_rfl) 8 8 rfl ?_
          refine wpAnyT_take (i := 0) (oi := ⟨some 41, _, _, _, _, _⟩) (v := .slice (some ⟨g, o, none⟩) 64 cx) rfl (by kernel_rfl) (by kernel_rfl) (by kernel_rfl) (fun _ _ _ h => h) (by kernel_rfl) (Or.inl ⟨rfl, fun w h => by kernel_rfl⟩) (HR.out.keep F3.out.1.drew) ?_
          simp only [Act.put, List.setIfInBounds_toArray, List.set_cons_zero, List.set_cons_succ]
          refine wpAnyT_take (i := 1) (oi := ⟨some 42, _, _, _, _, _⟩) (v := .slice (some ⟨g, o + 0, none⟩) 8 cx) rfl (by kernel_rfl) (by kernel_rfl) (by kernel_rfl) (fun _ _ _ h => h) (by kernel_rfl) (Or.inl ⟨rfl, fun w h => run_slto _ _ _ _ _ g o 64 cx 8 rfl rfl rfl CX.out.1 CX.out.2⟩) (HR.out.keep F3.out.1.drew) ?_
          simp only [Act.put, List.setIfInBounds_toArray, List.set_cons_zero, List.set_cons_succ]
          refine wpAnyT_take (i := 3) (oi := ⟨some 44, _, _, _, _, _⟩) (v := .slice (some ⟨g, o, none⟩) 64 cx) rfl (by kernel_rfl) (by kernel_rfl) (by kernel_rfl) (fun _ _ _ h => h) (by kernel_rfl) (Or.inl ⟨rfl, fun w h => by kernel_rfl⟩) (HR.out.keep F3.out.1.drew) ?_
          simp only [Act.put, List.setIfInBounds_toArray, List.set_cons_zero, List.set_cons_succ]
          refine wpAnyT_take (i := 4) (oi := ⟨some 45, _, _, _, _, _⟩) (v := .slice (some ⟨g, o + 8, none⟩) 8 c8) rfl (by kernel_rfl) (by kernel_rfl) (by kernel_rfl) (fun _ _ _ h => h) (by kernel_rfl) (Or.inl ⟨rfl, fun w h => run_sl816 _ _ _ _ _ _ g o cx c8 rfl rfl rfl rfl CX.out.1 CX.out.2 HC8.out⟩) (HR.out.keep F3.out.1.drew) ?_
          simp only [Act.put, List.setIfInBounds_toArray, List.set_cons_zero, List.set_cons_succ]
          refine wpAnyT_one (i := 2) (by kernel_rfl) ?_
          refine op_call (o := ⟨some 43, _, _, _, _, _⟩) 51 #[.slice (some ⟨g, o + 0, none⟩) 8 cx] rfl rfl (by kernel_rfl) ((refnumber_any _ (some ⟨g, o + 0, none⟩) 8 cx ((xs.drop 0).take 8) ((HR.out.keep F3.out.1.drew).sub 0 8 (by omega)) rfl).mono fun e X h => ⟨.int .u64 ((srl xs : Nat) : Int), h.1, ?_, ?_⟩)
          · exact fun _ => by rw [← h.2]; exact HR.out.keep F3.out.1.drew
          simp only [Act.put, List.setIfInBounds_toArray, List.set_cons_zero, List.set_cons_succ]
          obtain ⟨-, rfl⟩ := h
          refine wpAnyT_one (i := 5) (by kernel_rfl) ?_
          refine op_call (o := ⟨some 46, _, _, _, _, _⟩) 51 #[.slice (some ⟨g, o + 8, none⟩) 8 c8] rfl rfl (by kernel_rfl) ((refnumber_any _ (some ⟨g, o + 8, none⟩) 8 c8 ((xs.drop 8).take 8) ((HR.out.keep F3.out.1.drew).sub 8 8 (by omega)) rfl).mono fun e X h => ⟨.int .u64 ((cntL xs : Nat) : Int), h.1, ?_, ?_⟩)
          · exact fun _ => by rw [← h.2]; exact HR.out.keep F3.out.1.drew
          simp only [Act.put, List.setIfInBounds_toArray, List.set_cons_zero, List.set_cons_succ]
          obtain ⟨-, rfl⟩ := h
          refine wpAnyT_take (i := 6) (oi := ⟨some 13, _, _, _, _, _⟩) (v := .int .u64 ((srl xs : Nat) : Int)) rfl (by kernel_rfl) (by kernel_rfl) (by kernel_rfl) (fun _ _ _ h => h) (by kernel_rfl) (Or.inl ⟨rfl, fun w h => by kernel_rfl⟩) (HR.out.keep F3.out.1.drew) ?_
          simp only [Act.put, List.setIfInBounds_toArray, List.set_cons_zero, List.set_cons_succ]
          refine wpAnyT_take (i := 7) (oi := ⟨some 14, _, _, _, _, _⟩) (v := .int .u64 ((cntL xs : Nat) : Int)) rfl (by kernel_rfl) (by kernel_rfl) (by kernel_rfl) (fun _ _ _ h => h) (by kernel_rfl) (Or.inl ⟨rfl, fun w h => by kernel_rfl⟩) (HR.out.keep F3.out.1.drew) ?_
          simp only [Act.put, List.setIfInBounds_toArray, List.set_cons_zero, List.set_cons_succ]
          refine wpAnyT_done (by kernel_rfl) ?_ _
          have UU : Hid (srl xs < 18446744073709551616 ∧ cntL xs < 18446744073709551616) := Lib.hid ⟨srl_lt HR.out.2.2.1, cnt_lt HR.out.2.2.1⟩
          have F3 : Hid (Below w.heap.size w wr.drew ∧ Blk wr.drew g8 32 (u8l (List.replicate 16 0)).toArray ∧ Blk wr.drew g10 32 (u8l (nteL xs)).toArray) := Lib.hid ⟨F3.out.1.drew, F3.out.2.1, F3.out.2.2⟩
          by_cases h1 : srl xs % 2 = pl
          · by_cases h2 : cntL xs ≤ most
            · have HQ : Hid (srl xs % 2 = pl ∧ cntL xs ≤ most) := Lib.hid ⟨h1, h2⟩
              clear h1 h2
              go_upto_region 12 with (fail)
              refine wp_region_lit ?_
              refine wpL_pure (.int .u64 ((srl xs : Nat) : Int)) rfl (by kernel_rfl) ?_
              simp only [Act.put, List.setIfInBounds_toArray, List.set_cons_zero, List.set_cons_succ]
              refine wpL_pure (.int .u64 ((srl xs % 2 : Nat) : Int)) rfl (run_rem2 _ _ _ _ (srl xs) rfl rfl UU.out.1) ?_
              simp only [Act.put, List.setIfInBounds_toArray, List.set_cons_zero, List.set_cons_succ]
              refine wpL_pure (.int .i64 ((pl : Nat) : Int)) rfl (by kernel_rfl) ?_
              simp only [Act.put, List.setIfInBounds_toArray, List.set_cons_zero, List.set_cons_succ]
              refine wpL_pure (.int .u64 ((pl : Nat) : Int)) rfl (run_convi Try.underlying3 Try.underlying35 rfl rfl _ (by have := HP.out; rw [IntKind.wrap_u64]; omega)) ?_
              simp only [Act.put, List.setIfInBounds_toArray, List.set_cons_zero, List.set_cons_succ]
              refine wpL_pure (.bool false) rfl (run_nei Try.underlying35 rfl rfl rfl (by have := HQ.out; rw [decide_eq_false_iff_not]; omega)) ?_
              simp only [Act.put, List.setIfInBounds_toArray, List.set_cons_zero, List.set_cons_succ]
              refine wpL_pure (.bool false) rfl (by kernel_rfl) ?_
              simp only [Act.put, List.setIfInBounds_toArray, List.set_cons_zero, List.set_cons_succ]
              refine wpL_pure (.int .u64 ((cntL xs : Nat) : Int)) rfl (by kernel_rfl) ?_
              simp only [Act.put, List.setIfInBounds_toArray, List.set_cons_zero, List.set_cons_succ]
              refine wpL_pure (.int .i64 ((most : Nat) : Int)) rfl (by kernel_rfl) ?_
              simp only [Act.put, List.setIfInBounds_toArray, List.set_cons_zero, List.set_cons_succ]
              refine wpL_pure (.int .u64 ((most : Nat) : Int)) rfl (run_convi Try.underlying3 Try.underlying35 rfl rfl _ (by have := HP.out; rw [IntKind.wrap_u64]; omega)) ?_
              simp only [Act.put, List.setIfInBounds_toArray, List.set_cons_zero, List.set_cons_succ]
              refine wpL_pure (.bool false) rfl (run_gti Try.underlying35 rfl rfl rfl (by have := HQ.out; rw [decide_eq_false_iff_not]; omega)) ?_
              simp only [Act.put, List.setIfInBounds_toArray, List.set_cons_zero, List.set_cons_succ]
              refine wpL_pure (.bool false) rfl (by kernel_rfl) ?_
              simp only [Act.put, List.setIfInBounds_toArray, List.set_cons_zero, List.set_cons_succ]
              go_upto_region 14 with (fail)
              refine region_anyT (fun X => Blk X g10 32 (u8l (nteL xs)).toArray) (by kernel_rfl) 7 7 rfl ?_
              refine wpAnyT_take (i := 0) (oi := ⟨some 59, _, _, _, _, _⟩) (v := .int .u64 ((srl xs : Nat) : Int)) rfl (by kernel_rfl) (by kernel_rfl) (by kernel_rfl) (fun _ _ _ h => h) (by kernel_rfl) (Or.inl ⟨rfl, fun w h => by kernel_rfl⟩) (F3.out.2.2) ?_
              simp only [Act.put, List.setIfInBounds_toArray, List.set_cons_zero, List.set_cons_succ]
              refine wpAnyT_take (i := 1) (oi := ⟨some 60, _, _, _, _, _⟩) (v := .int .u64 ((cntL xs : Nat) : Int)) rfl (by kernel_rfl) (by kernel_rfl) (by kernel_rfl) (fun _ _ _ h => h) (by kernel_rfl) (Or.inl ⟨rfl, fun w h => by kernel_rfl⟩) (F3.out.2.2) ?_
              simp only [Act.put, List.setIfInBounds_toArray, List.set_cons_zero, List.set_cons_succ]
              refine wpAnyT_take (i := 2) (oi := ⟨some 61, _, _, _, _, _⟩) (v := .agg (u8l (nteL xs)).toArray) rfl (by kernel_rfl) (by kernel_rfl) (by kernel_rfl) (fun _ _ _ h => h) (by kernel_rfl) (Or.inl ⟨rfl, fun w h => run_load_mid _ _ _ 32 _ rfl g10 0 rfl (u8l (nteL xs)) _ (blk_range h) Try.underlying32 rfl (by simp only [List.size_toArray, u8l_len, NN.out] <;> kernel_rfl)⟩) (F3.out.2.2) ?_
              simp only [Act.put, List.setIfInBounds_toArray, List.set_cons_zero, List.set_cons_succ]
              refine wpAnyT_take (i := 3) (oi := ⟨some 6, _, _, _, _, _⟩) (v := .int .u64 ((srl xs : Nat) : Int)) rfl (by kernel_rfl) (by kernel_rfl) (by kernel_rfl) (fun _ _ _ h => h) (by kernel_rfl) (Or.inl ⟨rfl, fun w h => by kernel_rfl⟩) (F3.out.2.2) ?_
              simp only [Act.put, List.setIfInBounds_toArray, List.set_cons_zero, List.set_cons_succ]
              refine wpAnyT_take (i := 4) (oi := ⟨some 7, _, _, _, _, _⟩) (v := .int .u64 ((cntL xs : Nat) : Int)) rfl (by kernel_rfl) (by kernel_rfl) (by kernel_rfl) (fun _ _ _ h => h) (by kernel_rfl) (Or.inl ⟨rfl, fun w h => by kernel_rfl⟩) (F3.out.2.2) ?_
              simp only [Act.put, List.setIfInBounds_toArray, List.set_cons_zero, List.set_cons_succ]
              refine wpAnyT_one (i := 5) (by kernel_rfl) ?_
              obtain ⟨W7, hW7⟩ : ∃ V, V = wr.drew.drew.setRow g8 (u8l (nteL xs)).toArray := ⟨_, rfl⟩
              have F7 : Hid (Below w.heap.size w W7 ∧ Blk W7 g8 32 (u8l (nteL xs)).toArray ∧ Blk W7 g10 32 (u8l (nteL xs)).toArray) := Lib.hid (by rw [hW7]; exact ⟨below_setRow F3.out.1.drew F2.out.2.2.2.2.1 _, setRow_heap _ _ _ _ _ _ F3.out.2.1, (setRow_other _ _ _ _ F2.out.2.2.2.1.symm).trans F3.out.2.2⟩)
              refine op_skip (o := ⟨none, _, _, _, _, _⟩) W7 rfl rfl (by rw [hW7]; exact run_store_row _ _ _ 32 _ _ rfl g8 (u8l (nteL xs)).toArray rfl rfl 32 _ F3.out.2.1 (by simp only [List.size_toArray, u8l_len, NN.out] <;> kernel_rfl) (by simp only [List.size_toArray, u8l_len, NN.out, List.length_replicate]) (u8l_one _)) ?_
              refine ⟨fun _ => F7.out.2.2, ?_⟩
              simp only [Act.put, List.setIfInBounds_toArray, List.set_cons_zero, List.set_cons_succ]
              clear hW7
              refine wpAnyT_take (i := 6) (oi := ⟨some 9, _, _, _, _, _⟩) (v := .bool true) rfl (by kernel_rfl) (by kernel_rfl) (by kernel_rfl) (fun _ _ _ h => h) (by kernel_rfl) (Or.inl ⟨rfl, fun w h => by kernel_rfl⟩) (F7.out.2.2) ?_
              simp only [Act.put, List.setIfInBounds_toArray, List.set_cons_zero, List.set_cons_succ]
              refine wpAnyT_done (by kernel_rfl) ?_ _
              go_wp2_with fail
              exact bodyPost_ret (results_ttct rfl _ _ g8 32 _ (0, 0) _ rfl F7.out.2.1 Try.underlying32 rfl (by simp only [List.size_toArray, u8l_len, NN.out] <;> kernel_rfl)) rfl ⟨by rw [hdT, if_pos (by rw [HW.out, Bool.true_and, fitM]; have := HQ.out; simp; omega)]; rfl, F7.out.1⟩
            · have HQ : Hid (srl xs % 2 = pl ∧ ¬ cntL xs ≤ most) := Lib.hid ⟨h1, h2⟩
              clear h1 h2
              go_upto_region 12 with (fail)
              refine wp_region_lit ?_
              refine wpL_pure (.int .u64 ((srl xs : Nat) : Int)) rfl (by kernel_rfl) ?_
              simp only [Act.put, List.setIfInBounds_toArray, List.set_cons_zero, List.set_cons_succ]
              refine wpL_pure (.int .u64 ((srl xs % 2 : Nat) : Int)) rfl (run_rem2 _ _ _ _ (srl xs) rfl rfl UU.out.1) ?_
              simp only [Act.put, List.setIfInBounds_toArray, List.set_cons_zero, List.set_cons_succ]
              refine wpL_pure (.int .i64 ((pl : Nat) : Int)) rfl (by kernel_rfl) ?_
              simp only [Act.put, List.setIfInBounds_toArray, List.set_cons_zero, List.set_cons_succ]
              refine wpL_pure (.int .u64 ((pl : Nat) : Int)) rfl (run_convi Try.underlying3 Try.underlying35 rfl rfl _ (by have := HP.out; rw [IntKind.wrap_u64]; omega)) ?_
              simp only [Act.put, List.setIfInBounds_toArray, List.set_cons_zero, List.set_cons_succ]
              refine wpL_pure (.bool false) rfl (run_nei Try.underlying35 rfl rfl rfl (by have := HQ.out; rw [decide_eq_false_iff_not]; omega)) ?_
              simp only [Act.put, List.setIfInBounds_toArray, List.set_cons_zero, List.set_cons_succ]
              refine wpL_pure (.bool false) rfl (by kernel_rfl) ?_
              simp only [Act.put, List.setIfInBounds_toArray, List.set_cons_zero, List.set_cons_succ]
              refine wpL_pure (.int .u64 ((cntL xs : Nat) : Int)) rfl (by kernel_rfl) ?_
              simp only [Act.put, List.setIfInBounds_toArray, List.set_cons_zero, List.set_cons_succ]
              refine wpL_pure (.int .i64 ((most : Nat) : Int)) rfl (by kernel_rfl) ?_
              simp only [Act.put, List.setIfInBounds_toArray, List.set_cons_zero, List.set_cons_succ]
              refine wpL_pure (.int .u64 ((most : Nat) : Int)) rfl (run_convi Try.underlying3 Try.underlying35 rfl rfl _ (by have := HP.out; rw [IntKind.wrap_u64]; omega)) ?_
              simp only [Act.put, List.setIfInBounds_toArray, List.set_cons_zero, List.set_cons_succ]
              refine wpL_pure (.bool true) rfl (run_gti Try.underlying35 rfl rfl rfl (by have := HQ.out; rw [decide_eq_true_eq]; omega)) ?_
              simp only [Act.put, List.setIfInBounds_toArray, List.set_cons_zero, List.set_cons_succ]
              refine wpL_pure (.bool true) rfl (by kernel_rfl) ?_
              simp only [Act.put, List.setIfInBounds_toArray, List.set_cons_zero, List.set_cons_succ]
              go_upto_region 13 with (fail)
              refine wp_region_lit ?_
              refine wpL_pure (.agg (u8l (List.replicate 16 0)).toArray) rfl (by kernel_rfl) ?_
              simp only [Act.put, List.setIfInBounds_toArray, List.set_cons_zero, List.set_cons_succ]
              refine wpL_pure (.int .u64 0) rfl (by kernel_rfl) ?_
              simp only [Act.put, List.setIfInBounds_toArray, List.set_cons_zero, List.set_cons_succ]
              refine wpL_pure (.int .u64 0) rfl (by kernel_rfl) ?_
              simp only [Act.put, List.setIfInBounds_toArray, List.set_cons_zero, List.set_cons_succ]
              refine wpList_store_row rfl 32 _ _ rfl g8 (u8l (List.replicate 16 0)).toArray rfl rfl 32 _ (F3.out.2.1) (by simp only [List.size_toArray, u8l_len, List.length_replicate] <;> kernel_rfl) (by simp only [List.size_toArray, u8l_len, List.length_replicate] <;> rfl) (u8l_one _) ?_
              simp only [Act.put, List.setIfInBounds_toArray, List.set_cons_zero, List.set_cons_succ]
              obtain ⟨W7, hW7⟩ : ∃ V, V = wr.drew.setRow g8 (u8l (List.replicate 16 0)).toArray := ⟨_, rfl⟩
              rw [← hW7]
              have F7 : Hid (Below w.heap.size w W7 ∧ Blk W7 g8 32 (u8l (List.replicate 16 0)).toArray) := Lib.hid (by rw [hW7]; exact ⟨below_setRow F3.out.1 F2.out.2.2.2.2.1 _, setRow_heap _ _ _ _ _ _ F3.out.2.1⟩)
              clear hW7
              refine wpL_pure (.bool false) rfl (by kernel_rfl) ?_
              simp only [Act.put, List.setIfInBounds_toArray, List.set_cons_zero, List.set_cons_succ]
              go_wp2_with fail
              exact bodyPost_ret (results_ttct rfl _ _ g8 32 _ (0, 0) _ rfl F7.out.2 Try.underlying32 rfl (by kernel_rfl)) rfl ⟨by rw [hdT, if_neg (by rw [HW.out, Bool.true_and, fitM]; have := HQ.out; simp; omega)]; rfl, F7.out.1⟩
          · have HQ : Hid (¬ srl xs % 2 = pl) := Lib.hid h1
            clear h1
            go_upto_region 12 with (fail)
            refine wp_region_lit ?_
            refine wpL_pure (.int .u64 ((srl xs : Nat) : Int)) rfl (by kernel_rfl) ?_
            simp only [Act.put, List.setIfInBounds_toArray, List.set_cons_zero, List.set_cons_succ]
            refine wpL_pure (.int .u64 ((srl xs % 2 : Nat) : Int)) rfl (run_rem2 _ _ _ _ (srl xs) rfl rfl UU.out.1) ?_
            simp only [Act.put, List.setIfInBounds_toArray, List.set_cons_zero, List.set_cons_succ]
            refine wpL_pure (.int .i64 ((pl : Nat) : Int)) rfl (by kernel_rfl) ?_
            simp only [Act.put, List.setIfInBounds_toArray, List.set_cons_zero, List.set_cons_succ]
            refine wpL_pure (.int .u64 ((pl : Nat) : Int)) rfl (run_convi Try.underlying3 Try.underlying35 rfl rfl _ (by have := HP.out; rw [IntKind.wrap_u64]; omega)) ?_
            simp only [Act.put, List.setIfInBounds_toArray, List.set_cons_zero, List.set_cons_succ]
            refine wpL_pure (.bool true) rfl (run_nei Try.underlying35 rfl rfl rfl (by have := HQ.out; rw [decide_eq_true_eq]; omega)) ?_
            simp only [Act.put, List.setIfInBounds_toArray, List.set_cons_zero, List.set_cons_succ]
            refine wpL_pure (.bool true) rfl (by kernel_rfl) ?_
            simp only [Act.put, List.setIfInBounds_toArray, List.set_cons_zero, List.set_cons_succ]
            refine wpL_skip (by kernel_rfl) ?_
            simp only [Act.put, List.setIfInBounds_toArray, List.set_cons_zero, List.set_cons_succ]
            refine wpL_skip (by kernel_rfl) ?_
            simp only [Act.put, List.setIfInBounds_toArray, List.set_cons_zero, List.set_cons_succ]
            refine wpL_skip (by kernel_rfl) ?_
            simp only [Act.put, List.setIfInBounds_toArray, List.set_cons_zero, List.set_cons_succ]
            refine wpL_skip (by kernel_rfl) ?_
            simp only [Act.put, List.setIfInBounds_toArray, List.set_cons_zero, List.set_cons_succ]
            refine wpL_pure (.bool true) rfl (by kernel_rfl) ?_
            simp only [Act.put, List.setIfInBounds_toArray, List.set_cons_zero, List.set_cons_succ]
            go_upto_region 13 with (fail)
            refine wp_region_lit ?_
            refine wpL_pure (.agg (u8l (List.replicate 16 0)).toArray) rfl (by kernel_rfl) ?_
            simp only [Act.put, List.setIfInBounds_toArray, List.set_cons_zero, List.set_cons_succ]
            refine wpL_pure (.int .u64 0) rfl (by kernel_rfl) ?_
            simp only [Act.put, List.setIfInBounds_toArray, List.set_cons_zero, List.set_cons_succ]
            refine wpL_pure (.int .u64 0) rfl (by kernel_rfl) ?_
            simp only [Act.put, List.setIfInBounds_toArray, List.set_cons_zero, List.set_cons_succ]
            refine wpList_store_row rfl 32 _ _ rfl g8 (u8l (List.replicate 16 0)).toArray rfl rfl 32 _ (F3.out.2.1) (by simp only [List.size_toArray, u8l_len, List.length_replicate] <;> kernel_rfl) (by simp only [List.size_toArray, u8l_len, List.length_replicate] <;> rfl) (u8l_one _) ?_
            simp only [Act.put, List.setIfInBounds_toArray, List.set_cons_zero, List.set_cons_succ]
            obtain ⟨W7, hW7⟩ : ∃ V, V = wr.drew.setRow g8 (u8l (List.replicate 16 0)).toArray := ⟨_, rfl⟩
            rw [← hW7]
            have F7 : Hid (Below w.heap.size w W7 ∧ Blk W7 g8 32 (u8l (List.replicate 16 0)).toArray) := Lib.hid (by rw [hW7]; exact ⟨below_setRow F3.out.1 F2.out.2.2.2.2.1 _, setRow_heap _ _ _ _ _ _ F3.out.2.1⟩)
            clear hW7
            refine wpL_pure (.bool false) rfl (by kernel_rfl) ?_
            simp only [Act.put, List.setIfInBounds_toArray, List.set_cons_zero, List.set_cons_succ]
            go_wp2_with fail
            exact bodyPost_ret (results_ttct rfl _ _ g8 32 _ (0, 0) _ rfl F7.out.2 Try.underlying32 rfl (by kernel_rfl)) rfl ⟨by rw [hdT, if_neg (by rw [HW.out, Bool.true_and, fitM]; have := HQ.out; simp; omega)]; rfl, F7.out.1⟩
end Go.Proofs.Yteabblmhcjpboaa.D
