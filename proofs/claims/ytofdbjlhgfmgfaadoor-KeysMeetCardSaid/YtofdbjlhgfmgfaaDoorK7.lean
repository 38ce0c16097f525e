/- Tokens in a slice. -/
import Derived.Test.YtofdbjlhgfmgfaaDoorK1
namespace Go.Proofs.YtofdbjlhgfmgfaaDoor.Ha
open Go Go.RowKit
set_option maxRecDepth 100000
theorem forIn_all (P : Program) (w : World) (n : Nat) (f : Nat → (Option Bool × Unit) → Sem (ForInStep (Option Bool × Unit))) (c : Nat → Bool) (hf : ∀ i, i < n → (f i (none, ())).run P w = .ok (if c i then .yield (none, ()) else .done (some false, ())) w) :
    ∀ k i, i + k ≤ n → (forIn (List.range' i k) (none, ()) f : Sem (Option Bool × Unit)).run P w = .ok (if (List.range' i k).all c then (none, ()) else (some false, ())) w
  | 0, i, _ => by simp [go_sem]
  | k + 1, i, h => by
    rw [List.range'_succ, List.forIn_cons, Sem.run_bind, hf i (by omega), Result.andThen_ok, List.all_cons]
    cases hc : c i with
    | true =>
      simp only [if_true, Bool.true_and]
      exact forIn_all P w n f c hf k (i + 1) (by omega)
    | false => simp [go_sem]
set_option maxRecDepth 100000 in
theorem eq16 (L M : List Int) (hl : L.length = 16) (hm : M.length = 16) (w : World) : (Op.equalIn 10000 35 (.agg (u8l L).toArray) (.agg (u8l M).toArray)).run Tryd.prog w = .ok (decide (L = M)) w := by
  have u3 := Tryd.underlying5
  have ia3 := Tryd.isAgg5
  have z3 := Tryd.sizeOf5
  rw [show (10000 : Nat) = 9999 + 1 from rfl, Op.equalIn]
  simp only [Sem.run_bind, run_underlying Tryd.underlying35, Result.andThen_ok]
  simp only [Std.Legacy.Range.forIn_eq_forIn_range', Std.Legacy.Range.size, Nat.sub_zero, Nat.add_sub_cancel, Nat.div_one]
  go_simp
  rw [forIn_all Tryd.prog w 16 _ (fun i => decide (L.getD i 0 = M.getD i 0)) ?_ 16 0 (by omega)]
  · have e : (List.range' 0 16).all (fun i => decide (L.getD i 0 = M.getD i 0)) = decide (L = M) := by
      rw [Bool.eq_iff_iff, List.all_eq_true, decide_eq_true_eq]
      constructor
      · intro h
        apply List.ext_getElem?
        intro i
        by_cases hi : i < 16
        · have q := of_decide_eq_true (h i (by simp [List.mem_range']; omega))
          rw [List.getD, List.getD, List.getElem?_eq_getElem (show i < L.length by omega), List.getElem?_eq_getElem (show i < M.length by omega)] at q
          rw [List.getElem?_eq_getElem (show i < L.length by omega), List.getElem?_eq_getElem (show i < M.length by omega)]
          simpa using q
        · rw [List.getElem?_eq_none (by omega), List.getElem?_eq_none (by omega)]
      · intro h i _
        rw [h]; simp
    rw [e]
    by_cases h : L = M
    · simp [h, go_sem]
    · simp [h, go_sem]
  · intro i hi
    have e1 : (u8l L)[i]? = some (.int .u8 (L.getD i 0)) := by simp [u8l, List.getD, List.getElem?_eq_getElem (show i < L.length by omega)]
    have e2 : (u8l M)[i]? = some (.int .u8 (M.getD i 0)) := by simp [u8l, List.getD, List.getElem?_eq_getElem (show i < M.length by omega)]
    rw [e1, e2]
    go_simp
    split <;> rfl
attribute [local go_sem] eq16
set_option maxRecDepth 100000 in
theorem run_eq16 (a : Act) (o : Oper) (w : World) (x y : Operand) (L M : List Int) (b : Bool) (hl : L.length = 16) (hm : M.length = 16) (ho : o.op = .binOp .eql 35 x y 35) (hx : a.eval x = .agg (u8l L).toArray) (hy : a.eval y = .agg (u8l M).toArray) (hb : b = decide (L = M)) : (execOp a.eval o).run Tryd.prog w = .ok (.value (.bool b)) w := by
  subst hb
  have h := eq16 L M hl hm w
  have g : (Tryd.prog.eqGuardType Tryd.prog.depth 35) = false := by kernel_rfl
  unfold execOp
  simp only [ho, hx, hy]
  go_simp
theorem Toks.keep {w w' : World} {a : Option Addr} {n : Nat} {L : List (List Int)} (h : Toks w a n L) (hb : Below w.heap.size w w') : Toks w' a n L :=
  ⟨h.1, fun hn => by
    obtain ⟨g, o, h1, h2, h3⟩ := h.2 hn
    exact ⟨g, o, h1, h2, fun k hk => (h3 k hk).keep hb⟩⟩
def InPost (n : Nat) (L : List (List Int)) (t : List Int) (w : World) (e : Ending) (w' : World) : Prop := ∃ z : Bool, e = .returned (.bool z) ∧ (z = true ↔ ∃ k, k < n ∧ L.getD k [] = t) ∧ Below w.heap.size w w'
def IxPost (n : Nat) (L : List (List Int)) (t : List Int) (w : World) (e : Ending) (w' : World) : Prop := ∃ v : Int, e = .returned (.int .i64 v) ∧ (0 ≤ v ↔ ∃ k, k < n ∧ L.getD k [] = t) ∧ Below w.heap.size w w'
attribute [local irreducible] wpList
set_option maxHeartbeats 8000000 in
set_option maxRecDepth 100000 in
theorem in_any (w : World) (a : Option Addr) (n c : Nat) (L : List (List Int)) (t : List Int) (hL : Toks w a n L) (ht : t.length = 16) :
    Calls Tryd.prog 20 #[.slice a n c, .agg (u8l t).toArray] w fun e w' => InPost n L t w e w' := by
  have HL := Lib.hid hL
  have TL := Lib.hid ht
  clear hL ht
  go_enter Tryd.func20, Tryd.ntmps20
  obtain ⟨w1, hw1⟩ : ∃ V, V = w.alloc (.cells (u8l t).toArray 35) := ⟨_, rfl⟩
  have B1 : Hid (Below w.heap.size w w1 ∧ Blk w1 w.heap.size 35 (u8l t).toArray) := Lib.hid (by rw [hw1]; exact ⟨(Below.refl _ _).alloc (Nat.le_refl _) _, Blk.new _ _ _⟩)
  go_upto_region 0 with (fail)
  refine wp_region_lit ?_
  refine wpL_value (.pointer (some ⟨w.heap.size, 0, none⟩)) (w1) rfl (run_box35 _ _ _ _ _ t rfl rfl TL.out hw1) ?_
  simp only [Act.put, List.setIfInBounds_toArray, List.set_cons_zero, List.set_cons_succ]
  refine wpL_pure (.bool false) rfl (by kernel_rfl) ?_
  simp only [Act.put, List.setIfInBounds_toArray, List.set_cons_zero, List.set_cons_succ]
  clear hw1
  obtain ⟨g3, h3⟩ : ∃ q, w.heap.size = q := ⟨_, rfl⟩
  have G3 : Hid (w.heap.size = g3) := Lib.hid h3
  rw [h3] at B1
  try rw [h3]
  clear h3
  go_upto_region 1 with (fail)
  refine wp_region_lit ?_
  refine wpL_pure (.int .i64 0) rfl (by kernel_rfl) ?_
  simp only [Act.put, List.setIfInBounds_toArray, List.set_cons_zero, List.set_cons_succ]
  go_wp2_with fail
  go_loopw [5] (fun s5 wr => ∃ k : Nat, s5 = .int .i64 (k : Int) ∧ Hid (1 = 1 ∧ k ≤ n ∧ Below g3 w wr ∧ Blk wr g3 35 (u8l t).toArray ∧ ∀ j, j < k → L.getD j [] ≠ t)) (fun s5 _ => n - (intOf s5).toNat)
  case atStart => exact ⟨0, rfl, Lib.hid ⟨rfl, by omega, B1.out.1, B1.out.2, fun j h => by omega⟩⟩
  case round =>
    obtain ⟨k, rfl, RI⟩ := hrel
    by_cases hlt : k < n
    · have HK := Lib.hid hlt
      clear hlt
      go_upto_region 2 with (fail)
      refine wp_region_lit ?_
      refine wpL_pure (.int .i64 (k : Int)) rfl (by kernel_rfl) ?_
      simp only [Act.put, List.setIfInBounds_toArray, List.set_cons_zero, List.set_cons_succ]
      refine wpL_pure (.slice a n c) rfl (by kernel_rfl) ?_
      simp only [Act.put, List.setIfInBounds_toArray, List.set_cons_zero, List.set_cons_succ]
      refine wpL_pure (.int .i64 (n : Int)) rfl (by kernel_rfl) ?_
      simp only [Act.put, List.setIfInBounds_toArray, List.set_cons_zero, List.set_cons_succ]
      refine wpL_pure (.bool true) rfl (run_lti Tryd.underlying3 rfl rfl rfl (by have := HK.out; rw [decide_eq_true_eq]; omega)) ?_
      simp only [Act.put, List.setIfInBounds_toArray, List.set_cons_zero, List.set_cons_succ]
      obtain ⟨g, o, ea, hm, ht⟩ := HL.out.2 (by have := HK.out; omega)
      have EA := Lib.hid ea
      have HM := Lib.hid hm
      have T1 : Hid (TokAt w g (o + k * 16) (L.getD k [])) := Lib.hid (ht k HK.out)
      clear ea hm ht
      obtain ⟨y, hy⟩ : ∃ y, L.getD k [] = y := ⟨_, rfl⟩
      rw [hy] at T1
      have HY := Lib.hid hy
      clear hy
      by_cases hc : y = t
      · have HC := Lib.hid hc
        clear hc
        go_upto_region 4 with (fail)
        refine region_held (fun X => Below g3 w X ∧ Blk X g3 35 (u8l t).toArray) 5 (by kernel_rfl) (by kernel_rfl) (by exact ⟨RI.out.2.2.1.drew, RI.out.2.2.2.1.drew⟩) ?_
        simp only [List.take_succ_cons, List.take_zero, List.drop_succ_cons, List.drop_zero]
        refine wpHeld_cons (.slice a n c) rfl (fun w h => heldRun_value (by kernel_rfl) h) ?_
        simp only [Act.put, List.setIfInBounds_toArray, List.set_cons_zero, List.set_cons_succ]
        refine wpHeld_cons (.int .i64 (k : Int)) rfl (fun w h => heldRun_value (by kernel_rfl) h) ?_
        simp only [Act.put, List.setIfInBounds_toArray, List.set_cons_zero, List.set_cons_succ]
        refine wpHeld_cons (.pointer (some ⟨g, o + k * 16, none⟩)) rfl (fun w h => heldRun_value (run_idx32 _ _ _ _ _ g o n c k rfl (by rw [EA.out]; rfl) rfl HK.out HM.out) h) ?_
        simp only [Act.put, List.setIfInBounds_toArray, List.set_cons_zero, List.set_cons_succ]
        refine wpHeld_cons (.agg (u8l y).toArray) rfl (fun w h => heldRun_value (run_load_mid _ _ _ 35 _ rfl g (o + k * 16) rfl (u8l y) _ (T1.out.keep (by rw [G3.out]; exact h.1)).2.2 Tryd.underlying35 rfl (by rw [u8l_len, T1.out.1]; kernel_rfl)) h) ?_
        simp only [Act.put, List.setIfInBounds_toArray, List.set_cons_zero, List.set_cons_succ]
        refine wpHeld_cons (.agg (u8l t).toArray) rfl (fun w h => heldRun_value (run_load_mid _ _ _ 35 _ rfl g3 0 rfl (u8l t) _ (blk_range h.2) Tryd.underlying35 rfl (by rw [u8l_len, TL.out]; kernel_rfl)) h) ?_
        simp only [Act.put, List.setIfInBounds_toArray, List.set_cons_zero, List.set_cons_succ]
        refine wpHeld_nil ?_
        intro X h
        have HB := Lib.hid h
        clear h
        refine wpL_pure (.bool true) rfl (run_eq16 _ _ _ _ _ y t true T1.out.1 TL.out rfl rfl rfl (by simp [HC.out])) ?_
        simp only [Act.put, List.setIfInBounds_toArray, List.set_cons_zero, List.set_cons_succ]
        go_upto_region 5 with (fail)
        refine wp_region_lit ?_
        refine wpL_pure (.bool true) rfl (by kernel_rfl) ?_
        simp only [Act.put, List.setIfInBounds_toArray, List.set_cons_zero, List.set_cons_succ]
        go_wp2_with fail
        go_ret
        exact ⟨true, rfl, ⟨fun _ => ⟨k, HK.out, by rw [HY.out]; exact HC.out⟩, fun _ => rfl⟩, by rw [G3.out]; exact HB.out.1⟩
      · have HC := Lib.hid hc
        clear hc
        go_upto_region 4 with (fail)
        refine region_held (fun X => Below g3 w X ∧ Blk X g3 35 (u8l t).toArray) 5 (by kernel_rfl) (by kernel_rfl) (by exact ⟨RI.out.2.2.1.drew, RI.out.2.2.2.1.drew⟩) ?_
        simp only [List.take_succ_cons, List.take_zero, List.drop_succ_cons, List.drop_zero]
        refine wpHeld_cons (.slice a n c) rfl (fun w h => heldRun_value (by kernel_rfl) h) ?_
        simp only [Act.put, List.setIfInBounds_toArray, List.set_cons_zero, List.set_cons_succ]
        refine wpHeld_cons (.int .i64 (k : Int)) rfl (fun w h => heldRun_value (by kernel_rfl) h) ?_
        simp only [Act.put, List.setIfInBounds_toArray, List.set_cons_zero, List.set_cons_succ]
        refine wpHeld_cons (.pointer (some ⟨g, o + k * 16, none⟩)) rfl (fun w h => heldRun_value (run_idx32 _ _ _ _ _ g o n c k rfl (by rw [EA.out]; rfl) rfl HK.out HM.out) h) ?_
        simp only [Act.put, List.setIfInBounds_toArray, List.set_cons_zero, List.set_cons_succ]
        refine wpHeld_cons (.agg (u8l y).toArray) rfl (fun w h => heldRun_value (run_load_mid _ _ _ 35 _ rfl g (o + k * 16) rfl (u8l y) _ (T1.out.keep (by rw [G3.out]; exact h.1)).2.2 Tryd.underlying35 rfl (by rw [u8l_len, T1.out.1]; kernel_rfl)) h) ?_
        simp only [Act.put, List.setIfInBounds_toArray, List.set_cons_zero, List.set_cons_succ]
        refine wpHeld_cons (.agg (u8l t).toArray) rfl (fun w h => heldRun_value (run_load_mid _ _ _ 35 _ rfl g3 0 rfl (u8l t) _ (blk_range h.2) Tryd.underlying35 rfl (by rw [u8l_len, TL.out]; kernel_rfl)) h) ?_
        simp only [Act.put, List.setIfInBounds_toArray, List.set_cons_zero, List.set_cons_succ]
        refine wpHeld_nil ?_
        intro X h
        have HB := Lib.hid h
        clear h
        refine wpL_pure (.bool false) rfl (run_eq16 _ _ _ _ _ y t false T1.out.1 TL.out rfl rfl rfl (by simp [HC.out])) ?_
        simp only [Act.put, List.setIfInBounds_toArray, List.set_cons_zero, List.set_cons_succ]
        go_upto_region 3 with (fail)
        refine wp_region_lit ?_
        refine wpL_pure (.int .i64 (k : Int)) rfl (by kernel_rfl) ?_
        simp only [Act.put, List.setIfInBounds_toArray, List.set_cons_zero, List.set_cons_succ]
        refine wpL_pure (.int .i64 ((k + 1 : Nat) : Int)) rfl (run_addi Tryd.underlying3 rfl rfl rfl _ (by have := HK.out; have := HM.out; unfold maxLen at this; rw [wrap_in _ (by omega) (by omega)]; omega)) ?_
        simp only [Act.put, List.setIfInBounds_toArray, List.set_cons_zero, List.set_cons_succ]
        refine wpL_pure (.int .i64 ((k + 1 : Nat) : Int)) rfl (by kernel_rfl) ?_
        simp only [Act.put, List.setIfInBounds_toArray, List.set_cons_zero, List.set_cons_succ]
        have NX : Hid (1 = 1 ∧ k + 1 ≤ n ∧ Below g3 w X ∧ Blk X g3 35 (u8l t).toArray ∧ ∀ j, j < k + 1 → L.getD j [] ≠ t) := Lib.hid ⟨rfl, HK.out, HB.out.1, HB.out.2, fun j h1 => by
          by_cases hj : j < k
          · exact RI.out.2.2.2.2 j hj
          · obtain rfl : j = k := by omega
            rw [HY.out]; exact HC.out⟩
        unfold wpList
        go_roundw
        case rel => first | exact ⟨k + 1, rfl, NX⟩ | ((repeat apply Exists.intro); exact ⟨⟨k + 1, rfl, NX⟩, rfl⟩)
        case measure => simp [intOf]; have := HK.out; omega
    · have HK := Lib.hid hlt
      clear hlt
      go_upto_region 2 with (fail)
      refine wp_region_lit ?_
      refine wpL_pure (.int .i64 (k : Int)) rfl (by kernel_rfl) ?_
      simp only [Act.put, List.setIfInBounds_toArray, List.set_cons_zero, List.set_cons_succ]
      refine wpL_pure (.slice a n c) rfl (by kernel_rfl) ?_
      simp only [Act.put, List.setIfInBounds_toArray, List.set_cons_zero, List.set_cons_succ]
      refine wpL_pure (.int .i64 (n : Int)) rfl (by kernel_rfl) ?_
      simp only [Act.put, List.setIfInBounds_toArray, List.set_cons_zero, List.set_cons_succ]
      refine wpL_pure (.bool false) rfl (run_lti Tryd.underlying3 rfl rfl rfl (by have := HK.out; rw [decide_eq_false_iff_not]; omega)) ?_
      simp only [Act.put, List.setIfInBounds_toArray, List.set_cons_zero, List.set_cons_succ]
      go_upto_region 6 with (fail)
      refine wp_region_lit ?_
      refine wpL_pure (.bool false) rfl (by kernel_rfl) ?_
      simp only [Act.put, List.setIfInBounds_toArray, List.set_cons_zero, List.set_cons_succ]
      go_wp2_with fail
      go_ret
      exact ⟨false, rfl, ⟨(fun h => by cases h), fun h => by obtain ⟨j, h1, h2⟩ := h; exact absurd h2 (RI.out.2.2.2.2 j (by have := HK.out; omega))⟩, by rw [G3.out]; exact RI.out.2.2.1⟩
set_option maxHeartbeats 8000000 in
set_option maxRecDepth 100000 in
theorem index_any (w : World) (a : Option Addr) (n c : Nat) (L : List (List Int)) (t : List Int) (hL : Toks w a n L) (ht : t.length = 16) :
    Calls Tryd.prog 53 #[.slice a n c, .agg (u8l t).toArray] w fun e w' => IxPost n L t w e w' := by
  have HL := Lib.hid hL
  have TL := Lib.hid ht
  clear hL ht
  go_enter Tryd.func53, Tryd.ntmps53
  obtain ⟨w1, hw1⟩ : ∃ V, V = w.alloc (.cells (u8l t).toArray 35) := ⟨_, rfl⟩
  have B1 : Hid (Below w.heap.size w w1 ∧ Blk w1 w.heap.size 35 (u8l t).toArray) := Lib.hid (by rw [hw1]; exact ⟨(Below.refl _ _).alloc (Nat.le_refl _) _, Blk.new _ _ _⟩)
  go_upto_region 0 with (fail)
  refine wp_region_lit ?_
  refine wpL_value (.pointer (some ⟨w.heap.size, 0, none⟩)) (w1) rfl (run_box35 _ _ _ _ _ t rfl rfl TL.out hw1) ?_
  simp only [Act.put, List.setIfInBounds_toArray, List.set_cons_zero, List.set_cons_succ]
  refine wpL_pure (.int .i64 0) rfl (by kernel_rfl) ?_
  simp only [Act.put, List.setIfInBounds_toArray, List.set_cons_zero, List.set_cons_succ]
  clear hw1
  obtain ⟨g3, h3⟩ : ∃ q, w.heap.size = q := ⟨_, rfl⟩
  have G3 : Hid (w.heap.size = g3) := Lib.hid h3
  rw [h3] at B1
  try rw [h3]
  clear h3
  go_upto_region 1 with (fail)
  refine wp_region_lit ?_
  refine wpL_pure (.slice a n c) rfl (by kernel_rfl) ?_
  simp only [Act.put, List.setIfInBounds_toArray, List.set_cons_zero, List.set_cons_succ]
  refine wpL_pure (.int .i64 (n : Int)) rfl (by kernel_rfl) ?_
  simp only [Act.put, List.setIfInBounds_toArray, List.set_cons_zero, List.set_cons_succ]
  refine wpL_pure (.int .i64 0) rfl (by kernel_rfl) ?_
  simp only [Act.put, List.setIfInBounds_toArray, List.set_cons_zero, List.set_cons_succ]
  go_wp2_with fail
  go_loopw [8] (fun s8 wr => ∃ k : Nat, s8 = .int .i64 (k : Int) ∧ Hid (1 = 1 ∧ k ≤ n ∧ Below g3 w wr ∧ Blk wr g3 35 (u8l t).toArray ∧ ∀ j, j < k → L.getD j [] ≠ t)) (fun s8 _ => n - (intOf s8).toNat)
  case atStart => exact ⟨0, rfl, Lib.hid ⟨rfl, by omega, B1.out.1, B1.out.2, fun j h => by omega⟩⟩
  case round =>
    obtain ⟨k, rfl, RI⟩ := hrel
    by_cases hlt : k < n
    · have HK := Lib.hid hlt
      clear hlt
      go_upto_region 2 with (fail)
      refine wp_region_lit ?_
      refine wpL_pure (.bool true) rfl (run_lti Tryd.underlying3 rfl rfl rfl (by have := HK.out; rw [decide_eq_true_eq]; omega)) ?_
      simp only [Act.put, List.setIfInBounds_toArray, List.set_cons_zero, List.set_cons_succ]
      go_upto_region 3 with (fail)
      refine wp_region_lit ?_
      refine wpL_pure (.int .i64 (k : Int)) rfl (by kernel_rfl) ?_
      simp only [Act.put, List.setIfInBounds_toArray, List.set_cons_zero, List.set_cons_succ]
      refine wpL_pure (.int .i64 (k : Int)) rfl (by kernel_rfl) ?_
      simp only [Act.put, List.setIfInBounds_toArray, List.set_cons_zero, List.set_cons_succ]
      obtain ⟨g, o, ea, hm, ht⟩ := HL.out.2 (by have := HK.out; omega)
      have EA := Lib.hid ea
      have HM := Lib.hid hm
      have T1 : Hid (TokAt w g (o + k * 16) (L.getD k [])) := Lib.hid (ht k HK.out)
      clear ea hm ht
      obtain ⟨y, hy⟩ : ∃ y, L.getD k [] = y := ⟨_, rfl⟩
      rw [hy] at T1
      have HY := Lib.hid hy
      clear hy
      by_cases hc : t = y
      · have HC := Lib.hid hc
        clear hc
        go_upto_region 4 with (fail)
        refine region_held (fun X => Below g3 w X ∧ Blk X g3 35 (u8l t).toArray) 5 (by kernel_rfl) (by kernel_rfl) (by exact ⟨RI.out.2.2.1.drew, RI.out.2.2.2.1.drew⟩) ?_
        simp only [List.take_succ_cons, List.take_zero, List.drop_succ_cons, List.drop_zero]
        refine wpHeld_cons (.agg (u8l t).toArray) rfl (fun w h => heldRun_value (run_load_mid _ _ _ 35 _ rfl g3 0 rfl (u8l t) _ (blk_range h.2) Tryd.underlying35 rfl (by rw [u8l_len, TL.out]; kernel_rfl)) h) ?_
        simp only [Act.put, List.setIfInBounds_toArray, List.set_cons_zero, List.set_cons_succ]
        refine wpHeld_cons (.slice a n c) rfl (fun w h => heldRun_value (by kernel_rfl) h) ?_
        simp only [Act.put, List.setIfInBounds_toArray, List.set_cons_zero, List.set_cons_succ]
        refine wpHeld_cons (.int .i64 (k : Int)) rfl (fun w h => heldRun_value (by kernel_rfl) h) ?_
        simp only [Act.put, List.setIfInBounds_toArray, List.set_cons_zero, List.set_cons_succ]
        refine wpHeld_cons (.pointer (some ⟨g, o + k * 16, none⟩)) rfl (fun w h => heldRun_value (run_idx32 _ _ _ _ _ g o n c k rfl (by rw [EA.out]; rfl) rfl HK.out HM.out) h) ?_
        simp only [Act.put, List.setIfInBounds_toArray, List.set_cons_zero, List.set_cons_succ]
        refine wpHeld_cons (.agg (u8l y).toArray) rfl (fun w h => heldRun_value (run_load_mid _ _ _ 35 _ rfl g (o + k * 16) rfl (u8l y) _ (T1.out.keep (by rw [G3.out]; exact h.1)).2.2 Tryd.underlying35 rfl (by rw [u8l_len, T1.out.1]; kernel_rfl)) h) ?_
        simp only [Act.put, List.setIfInBounds_toArray, List.set_cons_zero, List.set_cons_succ]
        refine wpHeld_nil ?_
        intro X h
        have HB := Lib.hid h
        clear h
        refine wpL_pure (.bool true) rfl (run_eq16 _ _ _ _ _ t y true TL.out T1.out.1 rfl rfl rfl (by simp [HC.out])) ?_
        simp only [Act.put, List.setIfInBounds_toArray, List.set_cons_zero, List.set_cons_succ]
        go_upto_region 5 with (fail)
        refine wp_region_lit ?_
        refine wpL_pure (.int .i64 (k : Int)) rfl (by kernel_rfl) ?_
        simp only [Act.put, List.setIfInBounds_toArray, List.set_cons_zero, List.set_cons_succ]
        refine wpL_pure (.int .i64 (k : Int)) rfl (by kernel_rfl) ?_
        simp only [Act.put, List.setIfInBounds_toArray, List.set_cons_zero, List.set_cons_succ]
        go_wp2_with fail
        go_ret
        exact ⟨(k : Int), rfl, ⟨fun _ => ⟨k, HK.out, by rw [HY.out]; exact HC.out.symm⟩, fun _ => by omega⟩, by rw [G3.out]; exact HB.out.1⟩
      · have HC := Lib.hid hc
        clear hc
        go_upto_region 4 with (fail)
        refine region_held (fun X => Below g3 w X ∧ Blk X g3 35 (u8l t).toArray) 5 (by kernel_rfl) (by kernel_rfl) (by exact ⟨RI.out.2.2.1.drew, RI.out.2.2.2.1.drew⟩) ?_
        simp only [List.take_succ_cons, List.take_zero, List.drop_succ_cons, List.drop_zero]
        refine wpHeld_cons (.agg (u8l t).toArray) rfl (fun w h => heldRun_value (run_load_mid _ _ _ 35 _ rfl g3 0 rfl (u8l t) _ (blk_range h.2) Tryd.underlying35 rfl (by rw [u8l_len, TL.out]; kernel_rfl)) h) ?_
        simp only [Act.put, List.setIfInBounds_toArray, List.set_cons_zero, List.set_cons_succ]
        refine wpHeld_cons (.slice a n c) rfl (fun w h => heldRun_value (by kernel_rfl) h) ?_
        simp only [Act.put, List.setIfInBounds_toArray, List.set_cons_zero, List.set_cons_succ]
        refine wpHeld_cons (.int .i64 (k : Int)) rfl (fun w h => heldRun_value (by kernel_rfl) h) ?_
        simp only [Act.put, List.setIfInBounds_toArray, List.set_cons_zero, List.set_cons_succ]
        refine wpHeld_cons (.pointer (some ⟨g, o + k * 16, none⟩)) rfl (fun w h => heldRun_value (run_idx32 _ _ _ _ _ g o n c k rfl (by rw [EA.out]; rfl) rfl HK.out HM.out) h) ?_
        simp only [Act.put, List.setIfInBounds_toArray, List.set_cons_zero, List.set_cons_succ]
        refine wpHeld_cons (.agg (u8l y).toArray) rfl (fun w h => heldRun_value (run_load_mid _ _ _ 35 _ rfl g (o + k * 16) rfl (u8l y) _ (T1.out.keep (by rw [G3.out]; exact h.1)).2.2 Tryd.underlying35 rfl (by rw [u8l_len, T1.out.1]; kernel_rfl)) h) ?_
        simp only [Act.put, List.setIfInBounds_toArray, List.set_cons_zero, List.set_cons_succ]
        refine wpHeld_nil ?_
        intro X h
        have HB := Lib.hid h
        clear h
        refine wpL_pure (.bool false) rfl (run_eq16 _ _ _ _ _ t y false TL.out T1.out.1 rfl rfl rfl (by simp [HC.out])) ?_
        simp only [Act.put, List.setIfInBounds_toArray, List.set_cons_zero, List.set_cons_succ]
        go_upto_region 6 with (fail)
        refine wp_region_lit ?_
        refine wpL_pure (.int .i64 ((k + 1 : Nat) : Int)) rfl (run_addi Tryd.underlying3 rfl rfl rfl _ (by have := HK.out; have := HM.out; unfold maxLen at this; rw [wrap_in _ (by omega) (by omega)]; omega)) ?_
        simp only [Act.put, List.setIfInBounds_toArray, List.set_cons_zero, List.set_cons_succ]
        refine wpL_pure (.int .i64 ((k + 1 : Nat) : Int)) rfl (by kernel_rfl) ?_
        simp only [Act.put, List.setIfInBounds_toArray, List.set_cons_zero, List.set_cons_succ]
        have NX : Hid (1 = 1 ∧ k + 1 ≤ n ∧ Below g3 w X ∧ Blk X g3 35 (u8l t).toArray ∧ ∀ j, j < k + 1 → L.getD j [] ≠ t) := Lib.hid ⟨rfl, HK.out, HB.out.1, HB.out.2, fun j h1 => by
          by_cases hj : j < k
          · exact RI.out.2.2.2.2 j hj
          · obtain rfl : j = k := by omega
            rw [HY.out]; exact fun q => HC.out q.symm⟩
        unfold wpList
        go_roundw
        case rel => first | exact ⟨k + 1, rfl, NX⟩ | ((repeat apply Exists.intro); exact ⟨⟨k + 1, rfl, NX⟩, rfl⟩)
        case measure => simp [intOf]; have := HK.out; omega
    · have HK := Lib.hid hlt
      clear hlt
      go_upto_region 2 with (fail)
      refine wp_region_lit ?_
      refine wpL_pure (.bool false) rfl (run_lti Tryd.underlying3 rfl rfl rfl (by have := HK.out; rw [decide_eq_false_iff_not]; omega)) ?_
      simp only [Act.put, List.setIfInBounds_toArray, List.set_cons_zero, List.set_cons_succ]
      go_upto_region 7 with (fail)
      refine wp_region_lit ?_
      refine wpL_pure (.int .i64 (-1)) rfl (by kernel_rfl) ?_
      simp only [Act.put, List.setIfInBounds_toArray, List.set_cons_zero, List.set_cons_succ]
      go_wp2_with fail
      go_ret
      exact ⟨(-1), rfl, ⟨(fun h => by omega), fun h => by obtain ⟨j, h1, h2⟩ := h; exact absurd h2 (RI.out.2.2.2.2 j (by have := HK.out; omega))⟩, by rw [G3.out]; exact RI.out.2.2.1⟩
set_option maxHeartbeats 8000000 in
set_option maxRecDepth 100000 in
theorem contains_any (w : World) (a : Option Addr) (n c : Nat) (L : List (List Int)) (t : List Int) (hL : Toks w a n L) (ht : t.length = 16) :
    Calls Tryd.prog 39 #[.slice a n c, .agg (u8l t).toArray] w fun e w' => InPost n L t w e w' := by
  have HL := Lib.hid hL
  have TL := Lib.hid ht
  clear hL ht
  go_enter Tryd.func39, Tryd.ntmps39
  obtain ⟨w1, hw1⟩ : ∃ V, V = w.alloc (.cells (u8l t).toArray 35) := ⟨_, rfl⟩
  have B1 : Hid (Below w.heap.size w w1 ∧ Blk w1 w.heap.size 35 (u8l t).toArray) := Lib.hid (by rw [hw1]; exact ⟨(Below.refl _ _).alloc (Nat.le_refl _) _, Blk.new _ _ _⟩)
  go_upto_region 0 with (fail)
  refine wp_region_lit ?_
  refine wpL_value (.pointer (some ⟨w.heap.size, 0, none⟩)) (w1) rfl (run_box35 _ _ _ _ _ t rfl rfl TL.out hw1) ?_
  simp only [Act.put, List.setIfInBounds_toArray, List.set_cons_zero, List.set_cons_succ]
  refine wpL_pure (.bool false) rfl (by kernel_rfl) ?_
  simp only [Act.put, List.setIfInBounds_toArray, List.set_cons_zero, List.set_cons_succ]
  clear hw1
  obtain ⟨g3, h3⟩ : ∃ q, w.heap.size = q := ⟨_, rfl⟩
  have G3 : Hid (w.heap.size = g3) := Lib.hid h3
  rw [h3] at B1
  try rw [h3]
  clear h3
  go_upto_region 1 with (fail)
  refine wp_region_lit ?_
  refine wpL_pure (.slice a n c) rfl (by kernel_rfl) ?_
  simp only [Act.put, List.setIfInBounds_toArray, List.set_cons_zero, List.set_cons_succ]
  refine wpL_pure (.agg (u8l t).toArray) rfl (run_load_mid _ _ _ 35 _ rfl g3 0 rfl (u8l t) _ (blk_range B1.out.2) Tryd.underlying35 rfl (by rw [u8l_len, TL.out]; kernel_rfl)) ?_
  simp only [Act.put, List.setIfInBounds_toArray, List.set_cons_zero, List.set_cons_succ]
  refine wpL_call 53 #[.slice a n c, .agg (u8l t).toArray] rfl (by kernel_rfl) (((index_any w1 a n c L t (HL.out.keep (by rw [G3.out]; exact B1.out.1)) TL.out)).mono fun e w2 ⟨v, he, hv, hb⟩ => ⟨.int .i64 v, he, ?_⟩)
  simp only [Act.put, List.setIfInBounds_toArray, List.set_cons_zero, List.set_cons_succ]
  have HV := Lib.hid hv
  have B2 : Hid (Below g3 w w2) := Lib.hid (B1.out.1.trans (hb.mono (by have := B1.out.2.lt; omega)))
  clear hv hb
  obtain ⟨z, hz⟩ : ∃ z, decide (0 ≤ v) = z := ⟨_, rfl⟩
  have HZ := Lib.hid hz
  clear hz
  refine wpL_pure (.bool z) rfl (run_gei Tryd.underlying3 rfl rfl rfl HZ.out) ?_
  simp only [Act.put, List.setIfInBounds_toArray, List.set_cons_zero, List.set_cons_succ]
  refine wpL_pure (.bool z) rfl (by kernel_rfl) ?_
  simp only [Act.put, List.setIfInBounds_toArray, List.set_cons_zero, List.set_cons_succ]
  go_wp2_with fail
  go_ret
  exact ⟨z, rfl, by rw [← HV.out, ← HZ.out, decide_eq_true_eq], by rw [G3.out]; exact B2.out⟩
end Go.Proofs.YtofdbjlhgfmgfaaDoor.Ha
