/- A program that is awake; arrays of twelve bytes that are, or aren't, the same. -/
import Derived.Test.YtlbfohpkngmaoaaS4
import Derived.Test.YtlbfohpkngmaoaaS1
import Derived.Test.YtlbfohpkngmaoaaChX8
import Derived.Lib.SlBytesConst
namespace Go.Proofs.Ytlbfohpkngmaoaa.Ch.B.Se
open Go Go.RowKit
theorem run_conv33 (a : Act) (o : Oper) (w w1 : World) (x : Operand) (C : Array Value) (n : Nat) (ho : o.op = .convert 33 33 x) (hx : a.eval x = .slice (some ⟨w.heap.size, 0, none⟩) n n) (h1 : w1 = w.alloc (.cells C 5 (C.size, C.size + 1))) : (execOp a.eval o).run Try.prog (w.alloc (.cells C 5)) = .ok (.value (.slice (some ⟨w.heap.size, 0, none⟩) n n)) w1 := by
 have q := Lib.run_convert_bytes_const (P := Try.prog) w 33 5 C n n Try.underlying33 Try.underlying5
 subst h1
 unfold execOp
 simp only [ho, hx, Sem.run_bind, q, Result.andThen_ok, Sem.run_pure]
theorem row_marked (w : World) (l : List Int) (n : Nat) (fr : Nat × Nat) (hl : l.length = n) (hn : n ≤ 100000) (hb : ∀ x ∈ l, 0 ≤ x ∧ x ≤ 255) : Row (w.alloc (.cells (ub l).toArray 5 fr)) (some ⟨w.heap.size, 0, none⟩) n l :=
 ⟨hl, by unfold maxLen; omega, hb, fun j hj => ⟨w.heap.size, 0, rfl, by
  rw [Nat.zero_add]
  have h : (w.alloc (.cells (ub l).toArray 5 fr)).heap[w.heap.size]? = some (.cells (ub l).toArray 5 fr) := heap_alloc_new w _
  rw [cell_of_row _ _ _ _ _ _ h]
  simp [ub, List.getD, List.getElem?_eq_getElem (show j < l.length by omega), show j < l.length by omega]⟩⟩
attribute [local irreducible] wpList wpAny in
set_option maxHeartbeats 1500000 in
set_option maxRecDepth 100000 in
theorem awake_any (w : World) : Calls Try.prog 6 #[] w fun e w' => e = .returned (.bool true) ∧ Below w.heap.size w w' := by
 obtain ⟨ks, hT⟩ := two_of (List.replicate 32 0) (List.replicate 12 0) (by simp) (by simp) (by simp) (by simp)
 have HT := Lib.hid hT
 clear hT
 go_enter Try.func6, Try.ntmps6
 go_upto_region 1 with (fail)
 refine wp_region_lit ?_
 refine zP (.agg (ub (List.replicate 32 0)).toArray) ?_
 refine zP (.agg (ub (List.replicate 12 0)).toArray) ?_
 refine zV (.slice (some ⟨w.heap.size, 0, none⟩) 5 5) (w.alloc (.cells (ub [104, 101, 108, 108, 111]).toArray 5)) (by kernel_rfl) ?_
 obtain ⟨W1, hW1⟩ : ∃ V, V = w.alloc (.cells (ub [104, 101, 108, 108, 111]).toArray 5 ((ub [104, 101, 108, 108, 111]).toArray.size, (ub [104, 101, 108, 108, 111]).toArray.size + 1)) := ⟨_, rfl⟩
 refine zV (.slice (some ⟨w.heap.size, 0, none⟩) 5 5) W1 (run_conv33 _ _ _ _ _ _ _ rfl rfl hW1) ?_
 have F1 : Hid (Below w.heap.size w W1 ∧ Row W1 (some ⟨w.heap.size, 0, none⟩) 5 [104, 101, 108, 108, 111]) := Lib.hid (by rw [hW1]; exact ⟨(Below.refl _ _).alloc (Nat.le_refl _) _, row_marked _ _ _ _ rfl (by decide) (by decide)⟩)
 clear hW1
 refine wpL_call 8 #[.agg (ub (List.replicate 32 0)).toArray, .agg (ub (List.replicate 12 0)).toArray, .slice (some ⟨w.heap.size, 0, none⟩) 5 5, .slice none 0 0] rfl (by kernel_rfl) (((seal_two HT.out (some ⟨w.heap.size, 0, none⟩) none 5 5 0 0 [104, 101, 108, 108, 111] [] (by decide) (by decide) ⟨by decide, by decide, fun h => absurd h (by decide)⟩ W1 F1.out.2 (Row.nil _ _))).mono fun e W2 ⟨a, cp, he, b2, o2⟩ => ⟨.slice a (5 + 16) cp, he, ?_⟩)
 simp only [Act.put, List.setIfInBounds_toArray, List.set_cons_zero, List.set_cons_succ]
 have F2 : Hid (Below w.heap.size w W2) := Lib.hid (F1.out.1.trans (b2.mono F1.out.1.size))
 clear b2 o2 F1
 refine zP (.int .i64 21) ?_
 refine zP (.bool true) ?_
 refine zP (.bool true) ?_
 go_wp2_with fail
 go_ret
 exact ⟨rfl, F2.out⟩
theorem forIn_all (P : Program) (w : World) (n : Nat) (f : Nat → (Option Bool × Unit) → Sem (ForInStep (Option Bool × Unit))) (c : Nat → Bool) (hf : ∀ i, i < n → (f i (none, ())).run P w = .ok (if c i then .yield (none, ()) else .done (some false, ())) w) :
  ∀ k i, i + k ≤ n → (forIn (List.range' i k) (none, ()) f : Sem (Option Bool × Unit)).run P w = .ok (if (List.range' i k).all c then (none, ()) else (some false, ())) w
 | 0, i, _ => by simp [go_sem]
 | k + 1, i, h => by
  rw [List.range'_succ, List.forIn_cons, Sem.run_bind, hf i (by omega), Result.andThen_ok, List.all_cons]
  cases hc : c i with
  | true =>
   simp only [if_true, Bool.true_and]
   exact forIn_all P w n f c hf k (i + 1) (by omega)
  | false => simp [go_sem]
set_option maxRecDepth 100000 in
theorem eq12 (L M : List Int) (hl : L.length = 12) (hm : M.length = 12) (w : World) : (Op.equalIn 10000 26 (.agg (ub L).toArray) (.agg (ub M).toArray)).run Try.prog w = .ok (decide (L = M)) w := by
 have u3 := Try.underlying5
 have ia3 := Try.isAgg5
 have z3 := Try.sizeOf5
 rw [show (10000 : Nat) = 9999 + 1 from rfl, Op.equalIn]
 simp only [Sem.run_bind, run_underlying Try.underlying26, Result.andThen_ok]
 simp only [Std.Legacy.Range.forIn_eq_forIn_range', Std.Legacy.Range.size, Nat.sub_zero, Nat.add_sub_cancel, Nat.div_one]
 go_simp
 rw [forIn_all Try.prog w 12 _ (fun i => decide (L.getD i 0 = M.getD i 0)) ?_ 12 0 (by omega)]
 ·have e : (List.range' 0 12).all (fun i => decide (L.getD i 0 = M.getD i 0)) = decide (L = M) := by
   rw [Bool.eq_iff_iff, List.all_eq_true, decide_eq_true_eq]
   constructor
   ·intro h
    apply List.ext_getElem?
    intro i
    by_cases hi : i < 12
    ·have q := of_decide_eq_true (h i (by simp [List.mem_range']; omega))
     rw [List.getD, List.getD, List.getElem?_eq_getElem (show i < L.length by omega), List.getElem?_eq_getElem (show i < M.length by omega)] at q
     rw [List.getElem?_eq_getElem (show i < L.length by omega), List.getElem?_eq_getElem (show i < M.length by omega)]
     simpa using q
    ·rw [List.getElem?_eq_none (by omega), List.getElem?_eq_none (by omega)]
   ·intro h i _
    rw [h]; simp
  rw [e]
  by_cases h : L = M
  ·simp [h, go_sem]
  ·simp [h, go_sem]
 ·intro i hi
  have e1 : (ub L)[i]? = some (.int .u8 (L.getD i 0)) := by simp [ub, List.getD, List.getElem?_eq_getElem (show i < L.length by omega)]
  have e2 : (ub M)[i]? = some (.int .u8 (M.getD i 0)) := by simp [ub, List.getD, List.getElem?_eq_getElem (show i < M.length by omega)]
  rw [e1, e2]
  go_simp
  split <;> rfl
attribute [local go_sem] eq12
set_option maxRecDepth 100000 in
theorem run_eq12 (a : Act) (o : Oper) (w : World) (x y : Operand) (L M : List Int) (b : Bool) (hl : L.length = 12) (hm : M.length = 12) (ho : o.op = .binOp .eql 26 x y 26) (hx : a.eval x = .agg (ub L).toArray) (hy : a.eval y = .agg (ub M).toArray) (hb : b = decide (L = M)) : (execOp a.eval o).run Try.prog w = .ok (.value (.bool b)) w := by
 subst hb
 have h := eq12 L M hl hm w
 have g : (Try.prog.eqGuardType Try.prog.depth 26) = false := by kernel_rfl
 unfold execOp
 simp only [ho, hx, hy]
 go_simp
end Go.Proofs.Ytlbfohpkngmaoaa.Ch.B.Se
