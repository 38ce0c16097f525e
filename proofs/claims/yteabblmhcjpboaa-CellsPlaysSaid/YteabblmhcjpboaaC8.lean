/- bytes.Repeat of one byte, 32 times; a blank. -/
import Derived.Test.YteabblmhcjpboaaC7
import Derived.Lib.MakeNoZero
namespace Go.Proofs.Yteabblmhcjpboaa.D
open Go Go.RowKit
set_option maxRecDepth 100000
theorem mul_1_32 (w : World) : Calls Try.prog 63 #[.int .u64 1, .int .u64 32] w fun e w' => e = .returned (.tuple #[.int .u64 0, .int .u64 32]) ∧ w = w' := by
  go_enter Try.func63, Try.ntmps63
  go_wp2
  all_goals (go_ret2; exact ⟨rfl, rfl⟩)
theorem nozero32 (w : World) : ∃ (cs : List Value) (W : World), (callFunc 64 #[.int .i64 32]).run Try.prog w = .ok (.value (.slice (some ⟨w.heap.size, 0, none⟩) 32 cs.length)) W ∧ W = w.drew.drew.alloc (.cells cs.toArray 5) ∧ 32 ≤ cs.length := by
  obtain ⟨cs, h1, h2, h3⟩ := Go.Lib.run_makeNoZero (P := Try.prog) w #[3] 26 5 Try.underlying26 32 (by omega)
  refine ⟨cs.toList, w.drew.drew.alloc (.cells cs 5), ?_, by simp, by simpa using h2⟩
  rw [run_callFunc_extern (fn := Try.f64) Try.func64 (by kernel_rfl) (by kernel_rfl) (by kernel_rfl) (e := Extern.BytealgMakeNoZero.makeNoZero #[3] #[26]) (by kernel_rfl)]
  have h1' : (Extern.BytealgMakeNoZero.makeNoZero #[3] #[26] #[.int .i64 32]).run Try.prog w = _ := h1
  rw [h1']
  simp
theorem run_sl3 (a : Act) (o : Oper) (w : World) (x i j : Operand) (g c : Nat) (ho : o.op = .slice 26 x none (some i) (some j)) (hx : a.eval x = .slice (some ⟨g, 0, none⟩) 32 c) (hi : a.eval i = .int .i64 32) (hj : a.eval j = .int .i64 32) (hc : 32 ≤ c) : (execOp a.eval o).run Try.prog w = .ok (.value (.slice (some ⟨g, 0, none⟩) 32 32)) w := by
  have j1 : (32 : Int) ≤ (c : Int) := by omega
  unfold execOp
  simp only [ho, hx, Option.map_some, Option.map_none, hi, hj]
  go_simp
theorem rep_row {w : World} {g m : Nat} {R : List Value} (h : Blk w g 5 (u8l (List.replicate m 255) ++ R).toArray) (hm : m ≤ 64) : Row w (some ⟨g, 0, none⟩) m (List.replicate m 255) :=
  ⟨by simp, by unfold maxLen; omega, fun x hx => by rw [List.eq_of_mem_replicate hx]; omega, fun j hj => ⟨g, 0, rfl, by
    rw [h.cell, Nat.zero_add, List.getElem?_toArray, List.getElem?_append_left (by simp [u8l]; exact hj)]
    simp [u8l, hj, List.getD]⟩⟩
theorem rep_copy (m : Nat) (R : List Value) : (u8l (List.replicate m 255) ++ R).take m ++ u8l ((List.replicate m 255).take m) ++ (u8l (List.replicate m 255) ++ R).drop (m + m) = u8l (List.replicate (m + m) 255) ++ R.drop m := by
  have e : (u8l (List.replicate m 255)).length = m := by simp [u8l]
  rw [List.take_append_of_le_length (by omega), List.take_of_length_le (by omega), List.take_of_length_le (by simp)]
  rw [List.drop_append, e, List.drop_of_length_le (by omega), List.nil_append, Nat.add_sub_cancel]
  congr 1
  unfold u8l
  rw [← List.map_append, List.replicate_append_replicate]
theorem run_not8 (a : Act) (o : Oper) (w : World) (x : Operand) (p : Int) (ho : o.op = .unOp .xor 5 x) (hx : a.eval x = .int .u8 p) (hp : 0 ≤ p ∧ p ≤ 255) : (execOp a.eval o).run Try.prog w = .ok (.value (.int .u8 (255 - p))) w := by
  obtain ⟨q, rfl⟩ : ∃ q : Nat, p = (q : Int) := ⟨p.toNat, by omega⟩
  have u := run_underlying Try.underlying5 w
  unfold execOp
  simp only [ho, hx]
  go_simp
  have e : (if IntKind.u8.signed = true then (-1 : Int) else IntKind.u8.max) = ((255 : Nat) : Int) := by kernel_rfl
  have k : ∀ q : Fin 256, bits .xor .u8 ((255 : Nat) : Int) ((q.val : Nat) : Int) = 255 - ((q.val : Nat) : Int) := by decide +kernel
  rw [e]
  exact k ⟨q, by omega⟩
theorem row_cell {w : World} {g o n : Nat} {xs : List Int} (h : Row w (some ⟨g, o, none⟩) n xs) (j : Nat) (hj : j < n) : w.cell? ⟨g, o + j, none⟩ = some (.int .u8 (xs.getD j 0)) := by
  obtain ⟨g', o', e, hc⟩ := h.2.2.2 j hj
  simp only [Option.some.injEq, Addr.mk.injEq, and_true] at e
  obtain ⟨rfl, rfl⟩ := e
  exact hc
/-- a blank's half. -/
def bbL (xs : List Int) : List Int := (255 - xs.getD 32 0) :: (List.replicate 30 255 ++ [255 - xs.getD 31 0])
def blankV (xs : List Int) : List Int := bbL xs ++ bbL xs
theorem bb_len (xs : List Int) : (bbL xs).length = 32 := by simp [bbL]
theorem bb_ok {xs : List Int} (h : ∀ x ∈ xs, 0 ≤ x ∧ x ≤ 255) : ∀ x ∈ bbL xs, 0 ≤ x ∧ x ≤ 255 := by
  intro x hx
  have h1 := getD_byte h 32
  have h2 := getD_byte h 31
  simp only [bbL, List.mem_cons, List.mem_append, List.mem_replicate, List.not_mem_nil, or_false] at hx
  rcases hx with rfl | ⟨_, rfl⟩ | rfl <;> omega
theorem blank_ok {xs : List Int} (h : ∀ x ∈ xs, 0 ≤ x ∧ x ≤ 255) : SOk (blankV xs) := ⟨by simp [blankV, bb_len], fun x hx => by
  rcases List.mem_append.1 hx with q | q <;> exact bb_ok h x q⟩
theorem bb_row {w w' : World} {g o gb : Nat} {xs : List Int} {R : List Value} (hx : Row w (some ⟨g, o, none⟩) 64 xs) (h : Blk w' gb 5 (((u8l (List.replicate 32 255) ++ R).set 0 (.int .u8 (255 - xs.getD 32 0))).set 31 (.int .u8 (255 - xs.getD 31 0))).toArray) : Row w' (some ⟨gb, 0, none⟩) 32 (bbL xs) := by
  have e : ((u8l (List.replicate 32 255) ++ R).set 0 (.int .u8 (255 - xs.getD 32 0))).set 31 (.int .u8 (255 - xs.getD 31 0)) = u8l (bbL xs) ++ R := by rfl
  rw [e] at h
  refine ⟨bb_len xs, by unfold maxLen; omega, bb_ok hx.2.2.1, fun j hj => ⟨gb, 0, rfl, ?_⟩⟩
  have hl : j < (bbL xs).length := by rw [bb_len]; exact hj
  rw [h.cell, Nat.zero_add, List.getElem?_toArray, List.getElem?_append_left (by simp only [u8l, List.length_map]; exact hl), u8l, List.getElem?_map, List.getElem?_eq_getElem hl]
  simp [List.getD, List.getElem?_eq_getElem hl]
attribute [local irreducible] wpList
set_option maxHeartbeats 8000000
theorem repeat_any (w : World) (g0 : Nat) (hr : Row w (some ⟨g0, 0, none⟩) 1 [255]) : Calls Try.prog 57 #[.slice (some ⟨g0, 0, none⟩) 1 1, .int .i64 32] w fun e w' => ∃ (g : Nat) (R : List Value), e = .returned (.slice (some ⟨g, 0, none⟩) 32 32) ∧ Below w.heap.size w w' ∧ w.heap.size ≤ g ∧ Blk w' g 5 (u8l (List.replicate 32 255) ++ R).toArray := by
  have HR := Lib.hid hr
  clear hr
  go_enter Try.func57, Try.ntmps57
  go_upto_region 0 with (fail)
  refine wp_region_lit ?_
  refine wpL_pure (.slice none 0 0) rfl (by kernel_rfl) ?_
  simp only [Act.put, List.setIfInBounds_toArray, List.set_cons_zero, List.set_cons_succ]
  go_upto_region 1 with (fail)
  refine wp_region_lit ?_
  refine wpL_pure (.int .i64 32) rfl (by kernel_rfl) ?_
  simp only [Act.put, List.setIfInBounds_toArray, List.set_cons_zero, List.set_cons_succ]
  refine wpL_pure (.bool false) rfl (by kernel_rfl) ?_
  simp only [Act.put, List.setIfInBounds_toArray, List.set_cons_zero, List.set_cons_succ]
  go_upto_region 3 with (fail)
  refine wp_region_lit ?_
  refine wpL_pure (.int .i64 32) rfl (by kernel_rfl) ?_
  simp only [Act.put, List.setIfInBounds_toArray, List.set_cons_zero, List.set_cons_succ]
  refine wpL_pure (.bool false) rfl (by kernel_rfl) ?_
  simp only [Act.put, List.setIfInBounds_toArray, List.set_cons_zero, List.set_cons_succ]
  go_upto_region 5 with (fail)
  refine wp_region_lit ?_
  refine wpL_pure (.slice (some ⟨g0, 0, none⟩) 1 1) rfl (by kernel_rfl) ?_
  simp only [Act.put, List.setIfInBounds_toArray, List.set_cons_zero, List.set_cons_succ]
  refine wpL_pure (.int .i64 1) rfl (by kernel_rfl) ?_
  simp only [Act.put, List.setIfInBounds_toArray, List.set_cons_zero, List.set_cons_succ]
  refine wpL_pure (.int .u64 1) rfl (by kernel_rfl) ?_
  simp only [Act.put, List.setIfInBounds_toArray, List.set_cons_zero, List.set_cons_succ]
  refine wpL_pure (.int .i64 32) rfl (by kernel_rfl) ?_
  simp only [Act.put, List.setIfInBounds_toArray, List.set_cons_zero, List.set_cons_succ]
  refine wpL_pure (.int .u64 32) rfl (by kernel_rfl) ?_
  simp only [Act.put, List.setIfInBounds_toArray, List.set_cons_zero, List.set_cons_succ]
  refine wpL_call 63 #[.int .u64 1, .int .u64 32] rfl (by kernel_rfl) ((mul_1_32 _).mono fun e X ⟨he, hx⟩ => ⟨.tuple #[.int .u64 0, .int .u64 32], he, ?_⟩)
  simp only [Act.put, List.setIfInBounds_toArray, List.set_cons_zero, List.set_cons_succ]
  subst hx
  refine wpL_pure (.tuple #[.int .u64 0, .int .u64 32]) rfl (by kernel_rfl) ?_
  simp only [Act.put, List.setIfInBounds_toArray, List.set_cons_zero, List.set_cons_succ]
  refine wpL_pure (.int .u64 0) rfl (by kernel_rfl) ?_
  simp only [Act.put, List.setIfInBounds_toArray, List.set_cons_zero, List.set_cons_succ]
  refine wpL_pure (.int .u64 32) rfl (by kernel_rfl) ?_
  simp only [Act.put, List.setIfInBounds_toArray, List.set_cons_zero, List.set_cons_succ]
  refine wpL_pure (.int .u64 0) rfl (by kernel_rfl) ?_
  simp only [Act.put, List.setIfInBounds_toArray, List.set_cons_zero, List.set_cons_succ]
  refine wpL_pure (.int .u64 32) rfl (by kernel_rfl) ?_
  simp only [Act.put, List.setIfInBounds_toArray, List.set_cons_zero, List.set_cons_succ]
  go_upto_region 6 with (fail)
  refine wp_region_lit ?_
  refine wpL_pure (.int .u64 0) rfl (by kernel_rfl) ?_
  simp only [Act.put, List.setIfInBounds_toArray, List.set_cons_zero, List.set_cons_succ]
  refine wpL_pure (.bool false) rfl (by kernel_rfl) ?_
  simp only [Act.put, List.setIfInBounds_toArray, List.set_cons_zero, List.set_cons_succ]
  refine wpL_pure (.bool false) rfl (by kernel_rfl) ?_
  simp only [Act.put, List.setIfInBounds_toArray, List.set_cons_zero, List.set_cons_succ]
  refine wpL_pure (.int .u64 32) rfl (by kernel_rfl) ?_
  simp only [Act.put, List.setIfInBounds_toArray, List.set_cons_zero, List.set_cons_succ]
  refine wpL_pure (.bool false) rfl (by kernel_rfl) ?_
  simp only [Act.put, List.setIfInBounds_toArray, List.set_cons_zero, List.set_cons_succ]
  refine wpL_pure (.bool false) rfl (by kernel_rfl) ?_
  simp only [Act.put, List.setIfInBounds_toArray, List.set_cons_zero, List.set_cons_succ]
  go_upto_region 8 with (fail)
  refine wp_region_lit ?_
  refine wpL_pure (.int .u64 32) rfl (by kernel_rfl) ?_
  simp only [Act.put, List.setIfInBounds_toArray, List.set_cons_zero, List.set_cons_succ]
  refine wpL_pure (.int .i64 32) rfl (by kernel_rfl) ?_
  simp only [Act.put, List.setIfInBounds_toArray, List.set_cons_zero, List.set_cons_succ]
  refine wpL_pure (.int .i64 32) rfl (by kernel_rfl) ?_
  simp only [Act.put, List.setIfInBounds_toArray, List.set_cons_zero, List.set_cons_succ]
  go_upto_region 9 with (fail)
  refine wp_region_lit ?_
  refine wpL_pure (.slice (some ⟨g0, 0, none⟩) 1 1) rfl (by kernel_rfl) ?_
  simp only [Act.put, List.setIfInBounds_toArray, List.set_cons_zero, List.set_cons_succ]
  refine wpL_pure (.int .i64 1) rfl (by kernel_rfl) ?_
  simp only [Act.put, List.setIfInBounds_toArray, List.set_cons_zero, List.set_cons_succ]
  refine wpL_pure (.bool false) rfl (by kernel_rfl) ?_
  simp only [Act.put, List.setIfInBounds_toArray, List.set_cons_zero, List.set_cons_succ]
  go_upto_region 11 with (fail)
  refine wp_region_lit ?_
  refine wpL_pure (.int .i64 32) rfl (by kernel_rfl) ?_
  simp only [Act.put, List.setIfInBounds_toArray, List.set_cons_zero, List.set_cons_succ]
  refine wpL_pure (.int .i64 32) rfl (by kernel_rfl) ?_
  simp only [Act.put, List.setIfInBounds_toArray, List.set_cons_zero, List.set_cons_succ]
  go_upto_region 12 with (fail)
  refine wp_region_lit ?_
  refine wpL_pure (.int .i64 32) rfl (by kernel_rfl) ?_
  simp only [Act.put, List.setIfInBounds_toArray, List.set_cons_zero, List.set_cons_succ]
  refine wpL_pure (.bool false) rfl (by kernel_rfl) ?_
  simp only [Act.put, List.setIfInBounds_toArray, List.set_cons_zero, List.set_cons_succ]
  go_upto_region 16 with (fail)
  refine wp_region_lit ?_
  refine wpL_pure (.int .i64 32) rfl (by kernel_rfl) ?_
  simp only [Act.put, List.setIfInBounds_toArray, List.set_cons_zero, List.set_cons_succ]
  obtain ⟨cs, W1, hm, hW1, hcs⟩ := nozero32 w
  have HM := Lib.hid hm
  obtain ⟨g, hg⟩ : ∃ q, w.heap.size = q := ⟨_, rfl⟩
  have G := Lib.hid hg
  have F1 : Hid (Below w.heap.size w W1 ∧ Blk W1 g 5 cs.toArray ∧ 32 ≤ cs.length) := Lib.hid (by rw [hW1, ← hg]; exact ⟨(((Below.refl _ _).drew).drew).alloc (Nat.le_refl _) _, Blk.new w.drew.drew 5 _, hcs⟩)
  clear hm hW1 hcs
  refine wpL_value (.slice (some ⟨w.heap.size, 0, none⟩) 32 cs.length) W1 rfl (Eq.trans (b := (callFunc 64 #[.int .i64 32]).run Try.prog _) (by kernel_rfl) HM.out) ?_
  simp only [Act.put, List.setIfInBounds_toArray, List.set_cons_zero, List.set_cons_succ]
  clear HM
  rw [hg]
  clear hg
  refine wpL_pure (.int .i64 32) rfl (by kernel_rfl) ?_
  simp only [Act.put, List.setIfInBounds_toArray, List.set_cons_zero, List.set_cons_succ]
  refine wpL_pure (.int .i64 32) rfl (by kernel_rfl) ?_
  simp only [Act.put, List.setIfInBounds_toArray, List.set_cons_zero, List.set_cons_succ]
  refine wpL_pure (.slice (some ⟨g, 0, none⟩) 32 32) rfl (run_sl3 _ _ _ _ _ _ g cs.length rfl rfl rfl rfl F1.out.2.2) ?_
  simp only [Act.put, List.setIfInBounds_toArray, List.set_cons_zero, List.set_cons_succ]
  refine wpL_pure (.slice (some ⟨g, 0, none⟩) 32 32) rfl (by kernel_rfl) ?_
  simp only [Act.put, List.setIfInBounds_toArray, List.set_cons_zero, List.set_cons_succ]
  go_upto_region 17 with (fail)
  refine wp_region_lit ?_
  refine wpL_pure (.slice (some ⟨g, 0, none⟩) 32 32) rfl (by kernel_rfl) ?_
  simp only [Act.put, List.setIfInBounds_toArray, List.set_cons_zero, List.set_cons_succ]
  refine wpL_pure (.slice (some ⟨g0, 0, none⟩) 1 1) rfl (by kernel_rfl) ?_
  simp only [Act.put, List.setIfInBounds_toArray, List.set_cons_zero, List.set_cons_succ]
  obtain ⟨W2, q1, q2, q3⟩ := copy_blk W1 g 5 0 32 32 cs (some ⟨g0, 0, none⟩) 1 1 [255] F1.out.2.1 (HR.out.keep F1.out.1) (by have := F1.out.2.2; omega) 1 rfl
  have Q1 := Lib.hid q1
  have F2 : Hid (Below w.heap.size w W2 ∧ ∃ R, Blk W2 g 5 (u8l (List.replicate 1 255) ++ R).toArray ∧ 32 ≤ 1 + R.length) := Lib.hid ⟨F1.out.1.grown q3 F1.out.1.size (fun j hj => by cases hj; exact Nat.le_of_eq G.out), _, q2, by have := F1.out.2.2; rw [List.length_drop]; omega⟩
  clear q1 q2 q3
  refine wpL_value (.int .i64 1) W2 rfl (run_cpy _ _ _ _ _ _ _ _ _ rfl rfl rfl rfl Q1.out) ?_
  simp only [Act.put, List.setIfInBounds_toArray, List.set_cons_zero, List.set_cons_succ]
  clear Q1 F1
  refine wpL_pure (.int .i64 1) rfl (by kernel_rfl) ?_
  simp only [Act.put, List.setIfInBounds_toArray, List.set_cons_zero, List.set_cons_succ]
  unfold wpList
  go_wp2_with fail
  refine wp_loop_rounds 6 ?_
  rw [rounds_succ]
  go_upto_region 18 with (fail)
  refine wp_region_lit ?_
  refine wpL_pure (.int .i64 1) rfl (by kernel_rfl) ?_
  simp only [Act.put, List.setIfInBounds_toArray, List.set_cons_zero, List.set_cons_succ]
  refine wpL_pure (.int .i64 32) rfl (by kernel_rfl) ?_
  simp only [Act.put, List.setIfInBounds_toArray, List.set_cons_zero, List.set_cons_succ]
  refine wpL_pure (.bool true) rfl (by kernel_rfl) ?_
  simp only [Act.put, List.setIfInBounds_toArray, List.set_cons_zero, List.set_cons_succ]
  go_upto_region 19 with (fail)
  refine wp_region_lit ?_
  refine wpL_pure (.int .i64 1) rfl (by kernel_rfl) ?_
  simp only [Act.put, List.setIfInBounds_toArray, List.set_cons_zero, List.set_cons_succ]
  refine wpL_pure (.int .i64 32) rfl (by kernel_rfl) ?_
  simp only [Act.put, List.setIfInBounds_toArray, List.set_cons_zero, List.set_cons_succ]
  refine wpL_pure (.int .i64 1) rfl (by kernel_rfl) ?_
  simp only [Act.put, List.setIfInBounds_toArray, List.set_cons_zero, List.set_cons_succ]
  refine wpL_pure (.int .i64 1) rfl (by kernel_rfl) ?_
  simp only [Act.put, List.setIfInBounds_toArray, List.set_cons_zero, List.set_cons_succ]
  go_upto_region 20 with (fail)
  refine region_anyT (fun _ => True) (by kernel_rfl) 10 10 rfl ?_
  refine wpAnyT_take (i := 0) (oi := ⟨some 67, _, _, _, _, _⟩) (v := .int .i64 1) rfl (by kernel_rfl) (by kernel_rfl) (by kernel_rfl) (fun _ _ _ h => h) (by kernel_rfl) (Or.inl ⟨rfl, fun w h => by kernel_rfl⟩) (trivial) ?_
  simp only [Act.put, List.setIfInBounds_toArray, List.set_cons_zero, List.set_cons_succ]
  refine wpAnyT_take (i := 1) (oi := ⟨some 68, _, _, _, _, _⟩) (v := .slice (some ⟨g, 0, none⟩) 32 32) rfl (by kernel_rfl) (by kernel_rfl) (by kernel_rfl) (fun _ _ _ h => h) (by kernel_rfl) (Or.inl ⟨rfl, fun w h => by kernel_rfl⟩) (trivial) ?_
  simp only [Act.put, List.setIfInBounds_toArray, List.set_cons_zero, List.set_cons_succ]
  refine wpAnyT_take (i := 2) (oi := ⟨some 69, _, _, _, _, _⟩) (v := .int .i64 1) rfl (by kernel_rfl) (by kernel_rfl) (by kernel_rfl) (fun _ _ _ h => h) (by kernel_rfl) (Or.inl ⟨rfl, fun w h => by kernel_rfl⟩) (trivial) ?_
  simp only [Act.put, List.setIfInBounds_toArray, List.set_cons_zero, List.set_cons_succ]
  refine wpAnyT_take (i := 3) (oi := ⟨some 70, _, _, _, _, _⟩) (v := .slice (some ⟨g, 1, none⟩) 31 31) rfl (by kernel_rfl) (by kernel_rfl) (by kernel_rfl) (fun _ _ _ h => h) (by kernel_rfl) (Or.inl ⟨rfl, fun w h => by kernel_rfl⟩) (trivial) ?_
  simp only [Act.put, List.setIfInBounds_toArray, List.set_cons_zero, List.set_cons_succ]
  refine wpAnyT_take (i := 4) (oi := ⟨some 71, _, _, _, _, _⟩) (v := .slice (some ⟨g, 0, none⟩) 32 32) rfl (by kernel_rfl) (by kernel_rfl) (by kernel_rfl) (fun _ _ _ h => h) (by kernel_rfl) (Or.inl ⟨rfl, fun w h => by kernel_rfl⟩) (trivial) ?_
  simp only [Act.put, List.setIfInBounds_toArray, List.set_cons_zero, List.set_cons_succ]
  refine wpAnyT_take (i := 5) (oi := ⟨some 72, _, _, _, _, _⟩) (v := .int .i64 1) rfl (by kernel_rfl) (by kernel_rfl) (by kernel_rfl) (fun _ _ _ h => h) (by kernel_rfl) (Or.inl ⟨rfl, fun w h => by kernel_rfl⟩) (trivial) ?_
  simp only [Act.put, List.setIfInBounds_toArray, List.set_cons_zero, List.set_cons_succ]
  refine wpAnyT_take (i := 6) (oi := ⟨some 73, _, _, _, _, _⟩) (v := .slice (some ⟨g, 0, none⟩) 1 32) rfl (by kernel_rfl) (by kernel_rfl) (by kernel_rfl) (fun _ _ _ h => h) (by kernel_rfl) (Or.inl ⟨rfl, fun w h => by kernel_rfl⟩) (trivial) ?_
  simp only [Act.put, List.setIfInBounds_toArray, List.set_cons_zero, List.set_cons_succ]
  refine wpAnyT_one (i := 7) (by kernel_rfl) ?_
  obtain ⟨R, hR, lR⟩ := F2.out.2
  obtain ⟨W3, q1, q2, q3⟩ := copy_blk W2.drew g 5 1 31 31 (u8l (List.replicate 1 255) ++ R) (some ⟨g, 0, none⟩) 1 32 (List.replicate 1 255) hR (rep_row hR (by omega)) (by simp [u8l]; omega) 1 rfl
  have Q1 := Lib.hid q1
  rw [rep_copy] at q2
  have F3 : Hid (Below w.heap.size w W3 ∧ ∃ R, Blk W3 g 5 (u8l (List.replicate 2 255) ++ R).toArray ∧ 32 ≤ 2 + R.length) := Lib.hid ⟨(F2.out.1.drew).grown q3 F2.out.1.size (fun j hj => by cases hj; exact Nat.le_of_eq G.out), _, q2, by rw [List.length_drop]; omega⟩
  clear q1 q2 q3 hR lR R
  refine op_valw (o := ⟨some 74, _, _, _, _, _⟩) (.int .i64 1) W3 rfl rfl (run_cpy _ _ _ _ _ _ _ _ _ rfl rfl rfl rfl Q1.out) ?_
  refine ⟨fun _ => trivial, ?_⟩
  simp only [Act.put, List.setIfInBounds_toArray, List.set_cons_zero, List.set_cons_succ]
  clear Q1 F2
  refine wpAnyT_take (i := 8) (oi := ⟨some 75, _, _, _, _, _⟩) (v := .int .i64 2) rfl (by kernel_rfl) (by kernel_rfl) (by kernel_rfl) (fun _ _ _ h => h) (by kernel_rfl) (Or.inl ⟨rfl, fun w h => by kernel_rfl⟩) (trivial) ?_
  simp only [Act.put, List.setIfInBounds_toArray, List.set_cons_zero, List.set_cons_succ]
  refine wpAnyT_take (i := 9) (oi := ⟨some 10, _, _, _, _, _⟩) (v := .int .i64 2) rfl (by kernel_rfl) (by kernel_rfl) (by kernel_rfl) (fun _ _ _ h => h) (by kernel_rfl) (Or.inl ⟨rfl, fun w h => by kernel_rfl⟩) (trivial) ?_
  simp only [Act.put, List.setIfInBounds_toArray, List.set_cons_zero, List.set_cons_succ]
  refine wpAnyT_done (by kernel_rfl) ?_ _
  go_wp2_with fail
  rw [rounds_succ]
  go_upto_region 18 with (fail)
  refine wp_region_lit ?_
  refine wpL_pure (.int .i64 2) rfl (by kernel_rfl) ?_
  simp only [Act.put, List.setIfInBounds_toArray, List.set_cons_zero, List.set_cons_succ]
  refine wpL_pure (.int .i64 32) rfl (by kernel_rfl) ?_
  simp only [Act.put, List.setIfInBounds_toArray, List.set_cons_zero, List.set_cons_succ]
  refine wpL_pure (.bool true) rfl (by kernel_rfl) ?_
  simp only [Act.put, List.setIfInBounds_toArray, List.set_cons_zero, List.set_cons_succ]
  go_upto_region 19 with (fail)
  refine wp_region_lit ?_
  refine wpL_pure (.int .i64 2) rfl (by kernel_rfl) ?_
  simp only [Act.put, List.setIfInBounds_toArray, List.set_cons_zero, List.set_cons_succ]
  refine wpL_pure (.int .i64 32) rfl (by kernel_rfl) ?_
  simp only [Act.put, List.setIfInBounds_toArray, List.set_cons_zero, List.set_cons_succ]
  refine wpL_pure (.int .i64 2) rfl (by kernel_rfl) ?_
  simp only [Act.put, List.setIfInBounds_toArray, List.set_cons_zero, List.set_cons_succ]
  refine wpL_pure (.int .i64 2) rfl (by kernel_rfl) ?_
  simp only [Act.put, List.setIfInBounds_toArray, List.set_cons_zero, List.set_cons_succ]
  go_upto_region 20 with (fail)
  refine region_anyT (fun _ => True) (by kernel_rfl) 10 10 rfl ?_
  refine wpAnyT_take (i := 0) (oi := ⟨some 67, _, _, _, _, _⟩) (v := .int .i64 2) rfl (by kernel_rfl) (by kernel_rfl) (by kernel_rfl) (fun _ _ _ h => h) (by kernel_rfl) (Or.inl ⟨rfl, fun w h => by kernel_rfl⟩) (trivial) ?_
  simp only [Act.put, List.setIfInBounds_toArray, List.set_cons_zero, List.set_cons_succ]
  refine wpAnyT_take (i := 1) (oi := ⟨some 68, _, _, _, _, _⟩) (v := .slice (some ⟨g, 0, none⟩) 32 32) rfl (by kernel_rfl) (by kernel_rfl) (by kernel_rfl) (fun _ _ _ h => h) (by kernel_rfl) (Or.inl ⟨rfl, fun w h => by kernel_rfl⟩) (trivial) ?_
  simp only [Act.put, List.setIfInBounds_toArray, List.set_cons_zero, List.set_cons_succ]
  refine wpAnyT_take (i := 2) (oi := ⟨some 69, _, _, _, _, _⟩) (v := .int .i64 2) rfl (by kernel_rfl) (by kernel_rfl) (by kernel_rfl) (fun _ _ _ h => h) (by kernel_rfl) (Or.inl ⟨rfl, fun w h => by kernel_rfl⟩) (trivial) ?_
  simp only [Act.put, List.setIfInBounds_toArray, List.set_cons_zero, List.set_cons_succ]
  refine wpAnyT_take (i := 3) (oi := ⟨some 70, _, _, _, _, _⟩) (v := .slice (some ⟨g, 2, none⟩) 30 30) rfl (by kernel_rfl) (by kernel_rfl) (by kernel_rfl) (fun _ _ _ h => h) (by kernel_rfl) (Or.inl ⟨rfl, fun w h => by kernel_rfl⟩) (trivial) ?_
  simp only [Act.put, List.setIfInBounds_toArray, List.set_cons_zero, List.set_cons_succ]
  refine wpAnyT_take (i := 4) (oi := ⟨some 71, _, _, _, _, _⟩) (v := .slice (some ⟨g, 0, none⟩) 32 32) rfl (by kernel_rfl) (by kernel_rfl) (by kernel_rfl) (fun _ _ _ h => h) (by kernel_rfl) (Or.inl ⟨rfl, fun w h => by kernel_rfl⟩) (trivial) ?_
  simp only [Act.put, List.setIfInBounds_toArray, List.set_cons_zero, List.set_cons_succ]
  refine wpAnyT_take (i := 5) (oi := ⟨some 72, _, _, _, _, _⟩) (v := .int .i64 2) rfl (by kernel_rfl) (by kernel_rfl) (by kernel_rfl) (fun _ _ _ h => h) (by kernel_rfl) (Or.inl ⟨rfl, fun w h => by kernel_rfl⟩) (trivial) ?_
  simp only [Act.put, List.setIfInBounds_toArray, List.set_cons_zero, List.set_cons_succ]
  refine wpAnyT_take (i := 6) (oi := ⟨some 73, _, _, _, _, _⟩) (v := .slice (some ⟨g, 0, none⟩) 2 32) rfl (by kernel_rfl) (by kernel_rfl) (by kernel_rfl) (fun _ _ _ h => h) (by kernel_rfl) (Or.inl ⟨rfl, fun w h => by kernel_rfl⟩) (trivial) ?_
  simp only [Act.put, List.setIfInBounds_toArray, List.set_cons_zero, List.set_cons_succ]
  refine wpAnyT_one (i := 7) (by kernel_rfl) ?_
  obtain ⟨R, hR, lR⟩ := F3.out.2
  obtain ⟨W4, q1, q2, q3⟩ := copy_blk W3.drew g 5 2 30 30 (u8l (List.replicate 2 255) ++ R) (some ⟨g, 0, none⟩) 2 32 (List.replicate 2 255) hR (rep_row hR (by omega)) (by simp [u8l]; omega) 2 rfl
  have Q1 := Lib.hid q1
  rw [rep_copy] at q2
  have F4 : Hid (Below w.heap.size w W4 ∧ ∃ R, Blk W4 g 5 (u8l (List.replicate 4 255) ++ R).toArray ∧ 32 ≤ 4 + R.length) := Lib.hid ⟨(F3.out.1.drew).grown q3 F3.out.1.size (fun j hj => by cases hj; exact Nat.le_of_eq G.out), _, q2, by rw [List.length_drop]; omega⟩
  clear q1 q2 q3 hR lR R
  refine op_valw (o := ⟨some 74, _, _, _, _, _⟩) (.int .i64 2) W4 rfl rfl (run_cpy _ _ _ _ _ _ _ _ _ rfl rfl rfl rfl Q1.out) ?_
  refine ⟨fun _ => trivial, ?_⟩
  simp only [Act.put, List.setIfInBounds_toArray, List.set_cons_zero, List.set_cons_succ]
  clear Q1 F3
  refine wpAnyT_take (i := 8) (oi := ⟨some 75, _, _, _, _, _⟩) (v := .int .i64 4) rfl (by kernel_rfl) (by kernel_rfl) (by kernel_rfl) (fun _ _ _ h => h) (by kernel_rfl) (Or.inl ⟨rfl, fun w h => by kernel_rfl⟩) (trivial) ?_
  simp only [Act.put, List.setIfInBounds_toArray, List.set_cons_zero, List.set_cons_succ]
  refine wpAnyT_take (i := 9) (oi := ⟨some 10, _, _, _, _, _⟩) (v := .int .i64 4) rfl (by kernel_rfl) (by kernel_rfl) (by kernel_rfl) (fun _ _ _ h => h) (by kernel_rfl) (Or.inl ⟨rfl, fun w h => by kernel_rfl⟩) (trivial) ?_
  simp only [Act.put, List.setIfInBounds_toArray, List.set_cons_zero, List.set_cons_succ]
  refine wpAnyT_done (by kernel_rfl) ?_ _
  go_wp2_with fail
  rw [rounds_succ]
  go_upto_region 18 with (fail)
  refine wp_region_lit ?_
  refine wpL_pure (.int .i64 4) rfl (by kernel_rfl) ?_
  simp only [Act.put, List.setIfInBounds_toArray, List.set_cons_zero, List.set_cons_succ]
  refine wpL_pure (.int .i64 32) rfl (by kernel_rfl) ?_
  simp only [Act.put, List.setIfInBounds_toArray, List.set_cons_zero, List.set_cons_succ]
  refine wpL_pure (.bool true) rfl (by kernel_rfl) ?_
  simp only [Act.put, List.setIfInBounds_toArray, List.set_cons_zero, List.set_cons_succ]
  go_upto_region 19 with (fail)
  refine wp_region_lit ?_
  refine wpL_pure (.int .i64 4) rfl (by kernel_rfl) ?_
  simp only [Act.put, List.setIfInBounds_toArray, List.set_cons_zero, List.set_cons_succ]
  refine wpL_pure (.int .i64 32) rfl (by kernel_rfl) ?_
  simp only [Act.put, List.setIfInBounds_toArray, List.set_cons_zero, List.set_cons_succ]
  refine wpL_pure (.int .i64 4) rfl (by kernel_rfl) ?_
  simp only [Act.put, List.setIfInBounds_toArray, List.set_cons_zero, List.set_cons_succ]
  refine wpL_pure (.int .i64 4) rfl (by kernel_rfl) ?_
  simp only [Act.put, List.setIfInBounds_toArray, List.set_cons_zero, List.set_cons_succ]
  go_upto_region 20 with (fail)
  refine region_anyT (fun _ => True) (by kernel_rfl) 10 10 rfl ?_
  refine wpAnyT_take (i := 0) (oi := ⟨some 67, _, _, _, _, _⟩) (v := .int .i64 4) rfl (by kernel_rfl) (by kernel_rfl) (by kernel_rfl) (fun _ _ _ h => h) (by kernel_rfl) (Or.inl ⟨rfl, fun w h => by kernel_rfl⟩) (trivial) ?_
  simp only [Act.put, List.setIfInBounds_toArray, List.set_cons_zero, List.set_cons_succ]
  refine wpAnyT_take (i := 1) (oi := ⟨some 68, _, _, _, _, _⟩) (v := .slice (some ⟨g, 0, none⟩) 32 32) rfl (by kernel_rfl) (by kernel_rfl) (by kernel_rfl) (fun _ _ _ h => h) (by kernel_rfl) (Or.inl ⟨rfl, fun w h => by kernel_rfl⟩) (trivial) ?_
  simp only [Act.put, List.setIfInBounds_toArray, List.set_cons_zero, List.set_cons_succ]
  refine wpAnyT_take (i := 2) (oi := ⟨some 69, _, _, _, _, _⟩) (v := .int .i64 4) rfl (by kernel_rfl) (by kernel_rfl) (by kernel_rfl) (fun _ _ _ h => h) (by kernel_rfl) (Or.inl ⟨rfl, fun w h => by kernel_rfl⟩) (trivial) ?_
  simp only [Act.put, List.setIfInBounds_toArray, List.set_cons_zero, List.set_cons_succ]
  refine wpAnyT_take (i := 3) (oi := ⟨some 70, _, _, _, _, _⟩) (v := .slice (some ⟨g, 4, none⟩) 28 28) rfl (by kernel_rfl) (by kernel_rfl) (by kernel_rfl) (fun _ _ _ h => h) (by kernel_rfl) (Or.inl ⟨rfl, fun w h => by kernel_rfl⟩) (trivial) ?_
  simp only [Act.put, List.setIfInBounds_toArray, List.set_cons_zero, List.set_cons_succ]
  refine wpAnyT_take (i := 4) (oi := ⟨some 71, _, _, _, _, _⟩) (v := .slice (some ⟨g, 0, none⟩) 32 32) rfl (by kernel_rfl) (by kernel_rfl) (by kernel_rfl) (fun _ _ _ h => h) (by kernel_rfl) (Or.inl ⟨rfl, fun w h => by kernel_rfl⟩) (trivial) ?_
  simp only [Act.put, List.setIfInBounds_toArray, List.set_cons_zero, List.set_cons_succ]
  refine wpAnyT_take (i := 5) (oi := ⟨some 72, _, _, _, _, _⟩) (v := .int .i64 4) rfl (by kernel_rfl) (by kernel_rfl) (by kernel_rfl) (fun _ _ _ h => h) (by kernel_rfl) (Or.inl ⟨rfl, fun w h => by kernel_rfl⟩) (trivial) ?_
  simp only [Act.put, List.setIfInBounds_toArray, List.set_cons_zero, List.set_cons_succ]
  refine wpAnyT_take (i := 6) (oi := ⟨some 73, _, _, _, _, _⟩) (v := .slice (some ⟨g, 0, none⟩) 4 32) rfl (by kernel_rfl) (by kernel_rfl) (by kernel_rfl) (fun _ _ _ h => h) (by kernel_rfl) (Or.inl ⟨rfl, fun w h => by kernel_rfl⟩) (trivial) ?_
  simp only [Act.put, List.setIfInBounds_toArray, List.set_cons_zero, List.set_cons_succ]
  refine wpAnyT_one (i := 7) (by kernel_rfl) ?_
  obtain ⟨R, hR, lR⟩ := F4.out.2
  obtain ⟨W5, q1, q2, q3⟩ := copy_blk W4.drew g 5 4 28 28 (u8l (List.replicate 4 255) ++ R) (some ⟨g, 0, none⟩) 4 32 (List.replicate 4 255) hR (rep_row hR (by omega)) (by simp [u8l]; omega) 4 rfl
  have Q1 := Lib.hid q1
  rw [rep_copy] at q2
  have F5 : Hid (Below w.heap.size w W5 ∧ ∃ R, Blk W5 g 5 (u8l (List.replicate 8 255) ++ R).toArray ∧ 32 ≤ 8 + R.length) := Lib.hid ⟨(F4.out.1.drew).grown q3 F4.out.1.size (fun j hj => by cases hj; exact Nat.le_of_eq G.out), _, q2, by rw [List.length_drop]; omega⟩
  clear q1 q2 q3 hR lR R
  refine op_valw (o := ⟨some 74, _, _, _, _, _⟩) (.int .i64 4) W5 rfl rfl (run_cpy _ _ _ _ _ _ _ _ _ rfl rfl rfl rfl Q1.out) ?_
  refine ⟨fun _ => trivial, ?_⟩
  simp only [Act.put, List.setIfInBounds_toArray, List.set_cons_zero, List.set_cons_succ]
  clear Q1 F4
  refine wpAnyT_take (i := 8) (oi := ⟨some 75, _, _, _, _, _⟩) (v := .int .i64 8) rfl (by kernel_rfl) (by kernel_rfl) (by kernel_rfl) (fun _ _ _ h => h) (by kernel_rfl) (Or.inl ⟨rfl, fun w h => by kernel_rfl⟩) (trivial) ?_
  simp only [Act.put, List.setIfInBounds_toArray, List.set_cons_zero, List.set_cons_succ]
  refine wpAnyT_take (i := 9) (oi := ⟨some 10, _, _, _, _, _⟩) (v := .int .i64 8) rfl (by kernel_rfl) (by kernel_rfl) (by kernel_rfl) (fun _ _ _ h => h) (by kernel_rfl) (Or.inl ⟨rfl, fun w h => by kernel_rfl⟩) (trivial) ?_
  simp only [Act.put, List.setIfInBounds_toArray, List.set_cons_zero, List.set_cons_succ]
  refine wpAnyT_done (by kernel_rfl) ?_ _
  go_wp2_with fail
  rw [rounds_succ]
  go_upto_region 18 with (fail)
  refine wp_region_lit ?_
  refine wpL_pure (.int .i64 8) rfl (by kernel_rfl) ?_
  simp only [Act.put, List.setIfInBounds_toArray, List.set_cons_zero, List.set_cons_succ]
  refine wpL_pure (.int .i64 32) rfl (by kernel_rfl) ?_
  simp only [Act.put, List.setIfInBounds_toArray, List.set_cons_zero, List.set_cons_succ]
  refine wpL_pure (.bool true) rfl (by kernel_rfl) ?_
  simp only [Act.put, List.setIfInBounds_toArray, List.set_cons_zero, List.set_cons_succ]
  go_upto_region 19 with (fail)
  refine wp_region_lit ?_
  refine wpL_pure (.int .i64 8) rfl (by kernel_rfl) ?_
  simp only [Act.put, List.setIfInBounds_toArray, List.set_cons_zero, List.set_cons_succ]
  refine wpL_pure (.int .i64 32) rfl (by kernel_rfl) ?_
  simp only [Act.put, List.setIfInBounds_toArray, List.set_cons_zero, List.set_cons_succ]
  refine wpL_pure (.int .i64 8) rfl (by kernel_rfl) ?_
  simp only [Act.put, List.setIfInBounds_toArray, List.set_cons_zero, List.set_cons_succ]
  refine wpL_pure (.int .i64 8) rfl (by kernel_rfl) ?_
  simp only [Act.put, List.setIfInBounds_toArray, List.set_cons_zero, List.set_cons_succ]
  go_upto_region 20 with (fail)
  refine region_anyT (fun _ => True) (by kernel_rfl) 10 10 rfl ?_
  refine wpAnyT_take (i := 0) (oi := ⟨some 67, _, _, _, _, _⟩) (v := .int .i64 8) rfl (by kernel_rfl) (by kernel_rfl) (by kernel_rfl) (fun _ _ _ h => h) (by kernel_rfl) (Or.inl ⟨rfl, fun w h => by kernel_rfl⟩) (trivial) ?_
  simp only [Act.put, List.setIfInBounds_toArray, List.set_cons_zero, List.set_cons_succ]
  refine wpAnyT_take (i := 1) (oi := ⟨some 68, _, _, _, _, _⟩) (v := .slice (some ⟨g, 0, none⟩) 32 32) rfl (by kernel_rfl) (by kernel_rfl) (by kernel_rfl) (fun _ _ _ h => h) (by kernel_rfl) (Or.inl ⟨rfl, fun w h => by kernel_rfl⟩) (trivial) ?_
  simp only [Act.put, List.setIfInBounds_toArray, List.set_cons_zero, List.set_cons_succ]
  refine wpAnyT_take (i := 2) (oi := ⟨some 69, _, _, _, _, _⟩) (v := .int .i64 8) rfl (by kernel_rfl) (by kernel_rfl) (by kernel_rfl) (fun _ _ _ h => h) (by kernel_rfl) (Or.inl ⟨rfl, fun w h => by kernel_rfl⟩) (trivial) ?_
  simp only [Act.put, List.setIfInBounds_toArray, List.set_cons_zero, List.set_cons_succ]
  refine wpAnyT_take (i := 3) (oi := ⟨some 70, _, _, _, _, _⟩) (v := .slice (some ⟨g, 8, none⟩) 24 24) rfl (by kernel_rfl) (by kernel_rfl) (by kernel_rfl) (fun _ _ _ h => h) (by kernel_rfl) (Or.inl ⟨rfl, fun w h => by kernel_rfl⟩) (trivial) ?_
  simp only [Act.put, List.setIfInBounds_toArray, List.set_cons_zero, List.set_cons_succ]
  refine wpAnyT_take (i := 4) (oi := ⟨some 71, _, _, _, _, _⟩) (v := .slice (some ⟨g, 0, none⟩) 32 32) rfl (by kernel_rfl) (by kernel_rfl) (by kernel_rfl) (fun _ _ _ h => h) (by kernel_rfl) (Or.inl ⟨rfl, fun w h => by kernel_rfl⟩) (trivial) ?_
  simp only [Act.put, List.setIfInBounds_toArray, List.set_cons_zero, List.set_cons_succ]
  refine wpAnyT_take (i := 5) (oi := ⟨some 72, _, _, _, _, _⟩) (v := .int .i64 8) rfl (by kernel_rfl) (by kernel_rfl) (by kernel_rfl) (fun _ _ _ h => h) (by kernel_rfl) (Or.inl ⟨rfl, fun w h => by kernel_rfl⟩) (trivial) ?_
  simp only [Act.put, List.setIfInBounds_toArray, List.set_cons_zero, List.set_cons_succ]
  refine wpAnyT_take (i := 6) (oi := ⟨some 73, _, _, _, _, _⟩) (v := .slice (some ⟨g, 0, none⟩) 8 32) rfl (by kernel_rfl) (by kernel_rfl) (by kernel_rfl) (fun _ _ _ h => h) (by kernel_rfl) (Or.inl ⟨rfl, fun w h => by kernel_rfl⟩) (trivial) ?_
  simp only [Act.put, List.setIfInBounds_toArray, List.set_cons_zero, List.set_cons_succ]
  refine wpAnyT_one (i := 7) (by kernel_rfl) ?_
  obtain ⟨R, hR, lR⟩ := F5.out.2
  obtain ⟨W6, q1, q2, q3⟩ := copy_blk W5.drew g 5 8 24 24 (u8l (List.replicate 8 255) ++ R) (some ⟨g, 0, none⟩) 8 32 (List.replicate 8 255) hR (rep_row hR (by omega)) (by simp [u8l]; omega) 8 rfl
  have Q1 := Lib.hid q1
  rw [rep_copy] at q2
  have F6 : Hid (Below w.heap.size w W6 ∧ ∃ R, Blk W6 g 5 (u8l (List.replicate 16 255) ++ R).toArray ∧ 32 ≤ 16 + R.length) := Lib.hid ⟨(F5.out.1.drew).grown q3 F5.out.1.size (fun j hj => by cases hj; exact Nat.le_of_eq G.out), _, q2, by rw [List.length_drop]; omega⟩
  clear q1 q2 q3 hR lR R
  refine op_valw (o := ⟨some 74, _, _, _, _, _⟩) (.int .i64 8) W6 rfl rfl (run_cpy _ _ _ _ _ _ _ _ _ rfl rfl rfl rfl Q1.out) ?_
  refine ⟨fun _ => trivial, ?_⟩
  simp only [Act.put, List.setIfInBounds_toArray, List.set_cons_zero, List.set_cons_succ]
  clear Q1 F5
  refine wpAnyT_take (i := 8) (oi := ⟨some 75, _, _, _, _, _⟩) (v := .int .i64 16) rfl (by kernel_rfl) (by kernel_rfl) (by kernel_rfl) (fun _ _ _ h => h) (by kernel_rfl) (Or.inl ⟨rfl, fun w h => by kernel_rfl⟩) (trivial) ?_
  simp only [Act.put, List.setIfInBounds_toArray, List.set_cons_zero, List.set_cons_succ]
  refine wpAnyT_take (i := 9) (oi := ⟨some 10, _, _, _, _, _⟩) (v := .int .i64 16) rfl (by kernel_rfl) (by kernel_rfl) (by kernel_rfl) (fun _ _ _ h => h) (by kernel_rfl) (Or.inl ⟨rfl, fun w h => by kernel_rfl⟩) (trivial) ?_
  simp only [Act.put, List.setIfInBounds_toArray, List.set_cons_zero, List.set_cons_succ]
  refine wpAnyT_done (by kernel_rfl) ?_ _
  go_wp2_with fail
  rw [rounds_succ]
  go_upto_region 18 with (fail)
  refine wp_region_lit ?_
  refine wpL_pure (.int .i64 16) rfl (by kernel_rfl) ?_
  simp only [Act.put, List.setIfInBounds_toArray, List.set_cons_zero, List.set_cons_succ]
  refine wpL_pure (.int .i64 32) rfl (by kernel_rfl) ?_
  simp only [Act.put, List.setIfInBounds_toArray, List.set_cons_zero, List.set_cons_succ]
  refine wpL_pure (.bool true) rfl (by kernel_rfl) ?_
  simp only [Act.put, List.setIfInBounds_toArray, List.set_cons_zero, List.set_cons_succ]
  go_upto_region 19 with (fail)
  refine wp_region_lit ?_
  refine wpL_pure (.int .i64 16) rfl (by kernel_rfl) ?_
  simp only [Act.put, List.setIfInBounds_toArray, List.set_cons_zero, List.set_cons_succ]
  refine wpL_pure (.int .i64 32) rfl (by kernel_rfl) ?_
  simp only [Act.put, List.setIfInBounds_toArray, List.set_cons_zero, List.set_cons_succ]
  refine wpL_pure (.int .i64 16) rfl (by kernel_rfl) ?_
  simp only [Act.put, List.setIfInBounds_toArray, List.set_cons_zero, List.set_cons_succ]
  refine wpL_pure (.int .i64 16) rfl (by kernel_rfl) ?_
  simp only [Act.put, List.setIfInBounds_toArray, List.set_cons_zero, List.set_cons_succ]
  go_upto_region 20 with (fail)
  refine region_anyT (fun _ => True) (by kernel_rfl) 10 10 rfl ?_
  refine wpAnyT_take (i := 0) (oi := ⟨some 67, _, _, _, _, _⟩) (v := .int .i64 16) rfl (by kernel_rfl) (by kernel_rfl) (by kernel_rfl) (fun _ _ _ h => h) (by kernel_rfl) (Or.inl ⟨rfl, fun w h => by kernel_rfl⟩) (trivial) ?_
  simp only [Act.put, List.setIfInBounds_toArray, List.set_cons_zero, List.set_cons_succ]
  refine wpAnyT_take (i := 1) (oi := ⟨some 68, _, _, _, _, _⟩) (v := .slice (some ⟨g, 0, none⟩) 32 32) rfl (by kernel_rfl) (by kernel_rfl) (by kernel_rfl) (fun _ _ _ h => h) (by kernel_rfl) (Or.inl ⟨rfl, fun w h => by kernel_rfl⟩) (trivial) ?_
  simp only [Act.put, List.setIfInBounds_toArray, List.set_cons_zero, List.set_cons_succ]
  refine wpAnyT_take (i := 2) (oi := ⟨some 69, _, _, _, _, _⟩) (v := .int .i64 16) rfl (by kernel_rfl) (by kernel_rfl) (by kernel_rfl) (fun _ _ _ h => h) (by kernel_rfl) (Or.inl ⟨rfl, fun w h => by kernel_rfl⟩) (trivial) ?_
  simp only [Act.put, List.setIfInBounds_toArray, List.set_cons_zero, List.set_cons_succ]
  refine wpAnyT_take (i := 3) (oi := ⟨some 70, _, _, _, _, _⟩) (v := .slice (some ⟨g, 16, none⟩) 16 16) rfl (by kernel_rfl) (by kernel_rfl) (by kernel_rfl) (fun _ _ _ h => h) (by kernel_rfl) (Or.inl ⟨rfl, fun w h => by kernel_rfl⟩) (trivial) ?_
  simp only [Act.put, List.setIfInBounds_toArray, List.set_cons_zero, List.set_cons_succ]
  refine wpAnyT_take (i := 4) (oi := ⟨some 71, _, _, _, _, _⟩) (v := .slice (some ⟨g, 0, none⟩) 32 32) rfl (by kernel_rfl) (by kernel_rfl) (by kernel_rfl) (fun _ _ _ h => h) (by kernel_rfl) (Or.inl ⟨rfl, fun w h => by kernel_rfl⟩) (trivial) ?_
  simp only [Act.put, List.setIfInBounds_toArray, List.set_cons_zero, List.set_cons_succ]
  refine wpAnyT_take (i := 5) (oi := ⟨some 72, _, _, _, _, _⟩) (v := .int .i64 16) rfl (by kernel_rfl) (by kernel_rfl) (by kernel_rfl) (fun _ _ _ h => h) (by kernel_rfl) (Or.inl ⟨rfl, fun w h => by kernel_rfl⟩) (trivial) ?_
  simp only [Act.put, List.setIfInBounds_toArray, List.set_cons_zero, List.set_cons_succ]
  refine wpAnyT_take (i := 6) (oi := ⟨some 73, _, _, _, _, _⟩) (v := .slice (some ⟨g, 0, none⟩) 16 32) rfl (by kernel_rfl) (by kernel_rfl) (by kernel_rfl) (fun _ _ _ h => h) (by kernel_rfl) (Or.inl ⟨rfl, fun w h => by kernel_rfl⟩) (trivial) ?_
  simp only [Act.put, List.setIfInBounds_toArray, List.set_cons_zero, List.set_cons_succ]
  refine wpAnyT_one (i := 7) (by kernel_rfl) ?_
  obtain ⟨R, hR, lR⟩ := F6.out.2
  obtain ⟨W7, q1, q2, q3⟩ := copy_blk W6.drew g 5 16 16 16 (u8l (List.replicate 16 255) ++ R) (some ⟨g, 0, none⟩) 16 32 (List.replicate 16 255) hR (rep_row hR (by omega)) (by simp [u8l]; omega) 16 rfl
  have Q1 := Lib.hid q1
  rw [rep_copy] at q2
  have F7 : Hid (Below w.heap.size w W7 ∧ ∃ R, Blk W7 g 5 (u8l (List.replicate 32 255) ++ R).toArray ∧ 32 ≤ 32 + R.length) := Lib.hid ⟨(F6.out.1.drew).grown q3 F6.out.1.size (fun j hj => by cases hj; exact Nat.le_of_eq G.out), _, q2, by rw [List.length_drop]; omega⟩
  clear q1 q2 q3 hR lR R
  refine op_valw (o := ⟨some 74, _, _, _, _, _⟩) (.int .i64 16) W7 rfl rfl (run_cpy _ _ _ _ _ _ _ _ _ rfl rfl rfl rfl Q1.out) ?_
  refine ⟨fun _ => trivial, ?_⟩
  simp only [Act.put, List.setIfInBounds_toArray, List.set_cons_zero, List.set_cons_succ]
  clear Q1 F6
  refine wpAnyT_take (i := 8) (oi := ⟨some 75, _, _, _, _, _⟩) (v := .int .i64 32) rfl (by kernel_rfl) (by kernel_rfl) (by kernel_rfl) (fun _ _ _ h => h) (by kernel_rfl) (Or.inl ⟨rfl, fun w h => by kernel_rfl⟩) (trivial) ?_
  simp only [Act.put, List.setIfInBounds_toArray, List.set_cons_zero, List.set_cons_succ]
  refine wpAnyT_take (i := 9) (oi := ⟨some 10, _, _, _, _, _⟩) (v := .int .i64 32) rfl (by kernel_rfl) (by kernel_rfl) (by kernel_rfl) (fun _ _ _ h => h) (by kernel_rfl) (Or.inl ⟨rfl, fun w h => by kernel_rfl⟩) (trivial) ?_
  simp only [Act.put, List.setIfInBounds_toArray, List.set_cons_zero, List.set_cons_succ]
  refine wpAnyT_done (by kernel_rfl) ?_ _
  go_wp2_with fail
  rw [rounds_succ]
  go_upto_region 18 with (fail)
  refine wp_region_lit ?_
  refine wpL_pure (.int .i64 32) rfl (by kernel_rfl) ?_
  simp only [Act.put, List.setIfInBounds_toArray, List.set_cons_zero, List.set_cons_succ]
  refine wpL_pure (.int .i64 32) rfl (by kernel_rfl) ?_
  simp only [Act.put, List.setIfInBounds_toArray, List.set_cons_zero, List.set_cons_succ]
  refine wpL_pure (.bool false) rfl (by kernel_rfl) ?_
  simp only [Act.put, List.setIfInBounds_toArray, List.set_cons_zero, List.set_cons_succ]
  go_upto_region 21 with (fail)
  refine wp_region_lit ?_
  refine wpL_pure (.slice (some ⟨g, 0, none⟩) 32 32) rfl (by kernel_rfl) ?_
  simp only [Act.put, List.setIfInBounds_toArray, List.set_cons_zero, List.set_cons_succ]
  refine wpL_pure (.slice (some ⟨g, 0, none⟩) 32 32) rfl (by kernel_rfl) ?_
  simp only [Act.put, List.setIfInBounds_toArray, List.set_cons_zero, List.set_cons_succ]
  go_wp2_with fail
  go_ret
  obtain ⟨R, hR, _⟩ := F7.out.2
  exact ⟨g, R, rfl, F7.out.1, Nat.le_of_eq G.out, hR⟩
theorem blank_any (w : World) (g o cx : Nat) (xs : List Int) (hr : Row w (some ⟨g, o, none⟩) 64 xs) : Calls Try.prog 49 #[.slice (some ⟨g, o, none⟩) 64 cx] w fun e w' => ∃ v, e = .returned v ∧ Below w.heap.size w w' ∧ Own w' w.heap.size v (blankV xs) := by
  have HR := Lib.hid hr
  clear hr
  go_enter Try.func49, Try.ntmps49
  go_upto_region 0 with (fail)
  refine wp_region_lit ?_
  refine wpL_pure (.slice none 0 0) rfl (by kernel_rfl) ?_
  simp only [Act.put, List.setIfInBounds_toArray, List.set_cons_zero, List.set_cons_succ]
  go_upto_region 1 with (fail)
  refine wp_region_lit ?_
  obtain ⟨W1, hW1⟩ : ∃ V, V = w.alloc (.cells #[.int .u8 255] 5) := ⟨_, rfl⟩
  refine wpL_value (.slice (some ⟨w.heap.size, 0, none⟩) 1 1) W1 rfl (by rw [hW1]; kernel_rfl) ?_
  simp only [Act.put, List.setIfInBounds_toArray, List.set_cons_zero, List.set_cons_succ]
  obtain ⟨h0, hh0⟩ : ∃ q, w.heap.size = q := ⟨_, rfl⟩
  have F1 : Hid (Below w.heap.size w W1 ∧ Row W1 (some ⟨h0, 0, none⟩) 1 [255]) := Lib.hid (by rw [hW1, ← hh0]; exact ⟨(Below.refl _ _).alloc (Nat.le_refl _) _, row_one w 255 (by omega) (by omega)⟩)
  rw [hh0]
  clear hW1 hh0
  refine wpL_call 57 #[.slice (some ⟨h0, 0, none⟩) 1 1, .int .i64 32] rfl (by kernel_rfl) ((repeat_any _ h0 F1.out.2).mono fun e W2 ⟨gb, R, he, bb, lb, hb⟩ => ⟨.slice (some ⟨gb, 0, none⟩) 32 32, he, ?_⟩)
  simp only [Act.put, List.setIfInBounds_toArray, List.set_cons_zero, List.set_cons_succ]
  have F2 : Hid (Below w.heap.size w W2 ∧ Blk W2 gb 5 (u8l (List.replicate 32 255) ++ R).toArray ∧ w.heap.size ≤ gb) := Lib.hid ⟨F1.out.1.trans (bb.mono F1.out.1.size), hb, Nat.le_trans F1.out.1.size lb⟩
  clear bb lb hb F1
  refine wpL_pure (.slice (some ⟨gb, 0, none⟩) 32 32) rfl (by kernel_rfl) ?_
  simp only [Act.put, List.setIfInBounds_toArray, List.set_cons_zero, List.set_cons_succ]
  have F2d : Hid (Below w.heap.size w W2.drew ∧ Blk W2.drew gb 5 (u8l (List.replicate 32 255) ++ R).toArray) := Lib.hid ⟨F2.out.1.drew, F2.out.2.1⟩
  go_upto_region 2 with (fail)
  refine region_anyT (fun X => Row X (some ⟨g, o, none⟩) 64 xs) (by kernel_rfl) 14 14 rfl ?_
  refine wpAnyT_take (i := 0) (oi := ⟨some 6, _, _, _, _, _⟩) (v := .slice (some ⟨gb, 0, none⟩) 32 32) rfl (by kernel_rfl) (by kernel_rfl) (by kernel_rfl) (fun _ _ _ h => h) (by kernel_rfl) (Or.inl ⟨rfl, fun w h => by kernel_rfl⟩) (HR.out.keep F2d.out.1) ?_
  simp only [Act.put, List.setIfInBounds_toArray, List.set_cons_zero, List.set_cons_succ]
  refine wpAnyT_take (i := 1) (oi := ⟨some 7, _, _, _, _, _⟩) (v := .slice (some ⟨gb, 0, none⟩) 32 32) rfl (by kernel_rfl) (by kernel_rfl) (by kernel_rfl) (fun _ _ _ h => h) (by kernel_rfl) (Or.inl ⟨rfl, fun w h => by kernel_rfl⟩) (HR.out.keep F2d.out.1) ?_
  simp only [Act.put, List.setIfInBounds_toArray, List.set_cons_zero, List.set_cons_succ]
  refine wpAnyT_take (i := 2) (oi := ⟨some 8, _, _, _, _, _⟩) (v := .slice (some ⟨g, o, none⟩) 64 cx) rfl (by kernel_rfl) (by kernel_rfl) (by kernel_rfl) (fun _ _ _ h => h) (by kernel_rfl) (Or.inl ⟨rfl, fun w h => by kernel_rfl⟩) (HR.out.keep F2d.out.1) ?_
  simp only [Act.put, List.setIfInBounds_toArray, List.set_cons_zero, List.set_cons_succ]
  refine wpAnyT_take (i := 3) (oi := ⟨some 9, _, _, _, _, _⟩) (v := .pointer (some ⟨g, o + 32, none⟩)) rfl (by kernel_rfl) (by kernel_rfl) (by kernel_rfl) (fun _ _ _ h => h) (by kernel_rfl) (Or.inl ⟨rfl, fun w h => run_idx _ _ _ _ _ g o 64 cx 32 rfl rfl rfl (by omega) (by simp [maxLen])⟩) (HR.out.keep F2d.out.1) ?_
  simp only [Act.put, List.setIfInBounds_toArray, List.set_cons_zero, List.set_cons_succ]
  refine wpAnyT_take (i := 4) (oi := ⟨some 10, _, _, _, _, _⟩) (v := .int .u8 (xs.getD 32 0)) rfl (by kernel_rfl) (by kernel_rfl) (by kernel_rfl) (fun _ _ _ h => h) (by kernel_rfl) (Or.inl ⟨rfl, fun w h => run_load_one _ _ _ 5 _ _ rfl g (o + 32) rfl (row_cell h 32 (by omega)) (by kernel_rfl)⟩) (HR.out.keep F2d.out.1) ?_
  simp only [Act.put, List.setIfInBounds_toArray, List.set_cons_zero, List.set_cons_succ]
  refine wpAnyT_take (i := 5) (oi := ⟨some 11, _, _, _, _, _⟩) (v := .int .u8 (255 - (xs.getD 32 0))) rfl (by kernel_rfl) (by kernel_rfl) (by kernel_rfl) (fun _ _ _ h => h) (by kernel_rfl) (Or.inl ⟨rfl, fun w h => run_not8 _ _ _ _ _ rfl rfl (getD_byte HR.out.2.2.1 32)⟩) (HR.out.keep F2d.out.1) ?_
  simp only [Act.put, List.setIfInBounds_toArray, List.set_cons_zero, List.set_cons_succ]
  refine wpAnyT_take (i := 6) (oi := ⟨some 12, _, _, _, _, _⟩) (v := .slice (some ⟨g, o, none⟩) 64 cx) rfl (by kernel_rfl) (by kernel_rfl) (by kernel_rfl) (fun _ _ _ h => h) (by kernel_rfl) (Or.inl ⟨rfl, fun w h => by kernel_rfl⟩) (HR.out.keep F2d.out.1) ?_
  simp only [Act.put, List.setIfInBounds_toArray, List.set_cons_zero, List.set_cons_succ]
  refine wpAnyT_take (i := 7) (oi := ⟨some 13, _, _, _, _, _⟩) (v := .pointer (some ⟨g, o + 31, none⟩)) rfl (by kernel_rfl) (by kernel_rfl) (by kernel_rfl) (fun _ _ _ h => h) (by kernel_rfl) (Or.inl ⟨rfl, fun w h => run_idx _ _ _ _ _ g o 64 cx 31 rfl rfl rfl (by omega) (by simp [maxLen])⟩) (HR.out.keep F2d.out.1) ?_
  simp only [Act.put, List.setIfInBounds_toArray, List.set_cons_zero, List.set_cons_succ]
  refine wpAnyT_take (i := 8) (oi := ⟨some 14, _, _, _, _, _⟩) (v := .int .u8 (xs.getD 31 0)) rfl (by kernel_rfl) (by kernel_rfl) (by kernel_rfl) (fun _ _ _ h => h) (by kernel_rfl) (Or.inl ⟨rfl, fun w h => run_load_one _ _ _ 5 _ _ rfl g (o + 31) rfl (row_cell h 31 (by omega)) (by kernel_rfl)⟩) (HR.out.keep F2d.out.1) ?_
  simp only [Act.put, List.setIfInBounds_toArray, List.set_cons_zero, List.set_cons_succ]
  refine wpAnyT_take (i := 9) (oi := ⟨some 15, _, _, _, _, _⟩) (v := .int .u8 (255 - (xs.getD 31 0))) rfl (by kernel_rfl) (by kernel_rfl) (by kernel_rfl) (fun _ _ _ h => h) (by kernel_rfl) (Or.inl ⟨rfl, fun w h => run_not8 _ _ _ _ _ rfl rfl (getD_byte HR.out.2.2.1 31)⟩) (HR.out.keep F2d.out.1) ?_
  simp only [Act.put, List.setIfInBounds_toArray, List.set_cons_zero, List.set_cons_succ]
  refine wpAnyT_take (i := 10) (oi := ⟨some 16, _, _, _, _, _⟩) (v := .pointer (some ⟨gb, 0, none⟩)) rfl (by kernel_rfl) (by kernel_rfl) (by kernel_rfl) (fun _ _ _ h => h) (by kernel_rfl) (Or.inl ⟨rfl, fun w h => by kernel_rfl⟩) (HR.out.keep F2d.out.1) ?_
  simp only [Act.put, List.setIfInBounds_toArray, List.set_cons_zero, List.set_cons_succ]
  refine wpAnyT_one (i := 11) (by kernel_rfl) ?_
  obtain ⟨W3, hW3⟩ : ∃ V, V = W2.drew.setCell ⟨gb, 0, none⟩ (.int .u8 (255 - (xs.getD 32 0))) := ⟨_, rfl⟩
  have F3 : Hid (Below w.heap.size w W3 ∧ Blk W3 gb 5 ((u8l (List.replicate 32 255) ++ R).set 0 (.int .u8 (255 - (xs.getD 32 0)))).toArray) := Lib.hid (by rw [hW3]; exact ⟨F2d.out.1.setCell (p := ⟨gb, 0, none⟩) F2.out.2.2 _, F2d.out.2.set 0 _⟩)
  refine op_skip (o := ⟨none, _, _, _, _, _⟩) W3 rfl rfl (by rw [hW3]; exact run_store_one _ _ _ 5 _ _ rfl gb 0 rfl _ rfl rfl size5 (by rw [F2d.out.2.cell]; rfl) (F2d.out.2.free _)) ?_
  refine ⟨fun _ => HR.out.keep F3.out.1, ?_⟩
  simp only [Act.put, List.setIfInBounds_toArray, List.set_cons_zero, List.set_cons_succ]
  clear hW3
  refine wpAnyT_take (i := 12) (oi := ⟨some 17, _, _, _, _, _⟩) (v := .pointer (some ⟨gb, 31, none⟩)) rfl (by kernel_rfl) (by kernel_rfl) (by kernel_rfl) (fun _ _ _ h => h) (by kernel_rfl) (Or.inl ⟨rfl, fun w h => by kernel_rfl⟩) (HR.out.keep F3.out.1) ?_
  simp only [Act.put, List.setIfInBounds_toArray, List.set_cons_zero, List.set_cons_succ]
  refine wpAnyT_one (i := 13) (by kernel_rfl) ?_
  obtain ⟨W4, hW4⟩ : ∃ V, V = W3.setCell ⟨gb, 31, none⟩ (.int .u8 (255 - (xs.getD 31 0))) := ⟨_, rfl⟩
  have F4 : Hid (Below w.heap.size w W4 ∧ Blk W4 gb 5 (((u8l (List.replicate 32 255) ++ R).set 0 (.int .u8 (255 - (xs.getD 32 0)))).set 31 (.int .u8 (255 - (xs.getD 31 0)))).toArray) := Lib.hid (by rw [hW4]; exact ⟨F3.out.1.setCell (p := ⟨gb, 31, none⟩) F2.out.2.2 _, F3.out.2.set 31 _⟩)
  refine op_skip (o := ⟨none, _, _, _, _, _⟩) W4 rfl rfl (by rw [hW4]; exact run_store_one _ _ _ 5 _ _ rfl gb 31 rfl _ rfl rfl size5 (by rw [F3.out.2.cell]; rfl) (F3.out.2.free _)) ?_
  refine ⟨fun _ => HR.out.keep F4.out.1, ?_⟩
  simp only [Act.put, List.setIfInBounds_toArray, List.set_cons_zero, List.set_cons_succ]
  clear hW4
  refine wpAnyT_done (by kernel_rfl) ?_ _
  have F5 : Hid (Below w.heap.size w W4 ∧ Row W4 (some ⟨gb, 0, none⟩) 32 (bbL xs)) := Lib.hid ⟨F4.out.1, bb_row HR.out F4.out.2⟩
  clear F2d F3 F4
  go_upto_region 3 with (fail)
  refine wp_region_lit ?_
  refine wpL_pure (.slice (some ⟨gb, 0, none⟩) 32 32) rfl (by kernel_rfl) ?_
  simp only [Act.put, List.setIfInBounds_toArray, List.set_cons_zero, List.set_cons_succ]
  refine wpL_pure (.slice (some ⟨gb, 0, none⟩) 32 32) rfl (by kernel_rfl) ?_
  simp only [Act.put, List.setIfInBounds_toArray, List.set_cons_zero, List.set_cons_succ]
  obtain ⟨W5, hW5⟩ : ∃ V, V = W4.alloc (.cells #[.slice (some ⟨gb, 0, none⟩) 32 32, .slice (some ⟨gb, 0, none⟩) 32 32] 26) := ⟨_, rfl⟩
  refine wpL_value (.slice (some ⟨W4.heap.size, 0, none⟩) 2 2) W5 rfl (by rw [hW5]; kernel_rfl) ?_
  simp only [Act.put, List.setIfInBounds_toArray, List.set_cons_zero, List.set_cons_succ]
  obtain ⟨p1, hp1⟩ : ∃ q, W4.heap.size = q := ⟨_, rfl⟩
  have F6 : Hid (Below w.heap.size w W5 ∧ Row W5 (some ⟨gb, 0, none⟩) 32 (bbL xs) ∧ Blk W5 p1 26 #[.slice (some ⟨gb, 0, none⟩) 32 32, .slice (some ⟨gb, 0, none⟩) 32 32]) := Lib.hid (by rw [hW5, ← hp1]; exact ⟨F5.out.1.alloc F5.out.1.size _, F5.out.2.keep ((Below.refl _ _).alloc (Nat.le_refl _) _), Blk.new _ _ _⟩)
  rw [hp1]
  clear hW5 hp1
  refine wpL_call 56 #[.slice (some ⟨p1, 0, none⟩) 2 2] rfl (by kernel_rfl) ((concat_any _ p1 _ _ 32 32 32 32 _ _ F6.out.2.2 F6.out.2.1 F6.out.2.1 (by omega)).mono fun e W6 ⟨v6, he, bb, ho⟩ => ⟨v6, he, ?_⟩)
  simp only [Act.put, List.setIfInBounds_toArray, List.set_cons_zero, List.set_cons_succ]
  have F7 : Hid (Below w.heap.size w W6 ∧ Own W6 w.heap.size v6 (blankV xs)) := Lib.hid ⟨F6.out.1.trans (bb.mono F6.out.1.size), ho.mono F6.out.1.size⟩
  clear bb ho
  refine wpL_pure (v6) rfl (by kernel_rfl) ?_
  simp only [Act.put, List.setIfInBounds_toArray, List.set_cons_zero, List.set_cons_succ]
  go_wp2_with fail
  go_ret
  exact ⟨_, rfl, F7.out⟩
end Go.Proofs.Yteabblmhcjpboaa.D
