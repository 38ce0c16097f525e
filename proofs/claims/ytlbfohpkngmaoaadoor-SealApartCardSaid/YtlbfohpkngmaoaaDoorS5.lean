/- A program that is awake; arrays of twelve bytes that are, or aren't, the same. -/
import Derived.Test.YtlbfohpkngmaoaaDoorS4
import Derived.Test.YtlbfohpkngmaoaaDoorChX8
import Derived.Lib.SlBytesConst
namespace Go.Proofs.YtlbfohpkngmaoaaDoor.Ch.B.Se
open Go Go.RowKit
theorem run_conv33 (a : Act) (o : Oper) (w w1 : World) (x : Operand) (C : Array Value) (n : Nat) (ho : o.op = .convert 24 24 x) (hx : a.eval x = .slice (some ⟨w.heap.size, 0, none⟩) n n) (h1 : w1 = w.alloc (.cells C 5 (C.size, C.size + 1))) : (execOp a.eval o).run Tryd.prog (w.alloc (.cells C 5)) = .ok (.value (.slice (some ⟨w.heap.size, 0, none⟩) n n)) w1 := by
 have q := Lib.run_convert_bytes_const (P := Tryd.prog) w 24 5 C n n Tryd.underlying24 Tryd.underlying5
 subst h1
 unfold execOp
 simp only [ho, hx, Sem.run_bind, q, Result.andThen_ok, Sem.run_pure]
theorem row_marked (w : World) (l : List Int) (n : Nat) (fr : Nat × Nat) (hl : l.length = n) (hn : n ≤ 100000) (hb : ∀ x ∈ l, 0 ≤ x ∧ x ≤ 255) : Row (w.alloc (.cells (ub l).toArray 5 fr)) (some ⟨w.heap.size, 0, none⟩) n l :=
 ⟨hl, by unfold maxLen; omega, hb, fun j hj => ⟨w.heap.size, 0, rfl, by
  rw [Nat.zero_add]
  have h : (w.alloc (.cells (ub l).toArray 5 fr)).heap[w.heap.size]? = some (.cells (ub l).toArray 5 fr) := heap_alloc_new w _
  rw [cell_of_row _ _ _ _ _ _ h]
  simp [ub, List.getD, List.getElem?_eq_getElem (show j < l.length by omega), show j < l.length by omega]⟩⟩
attribute [local irreducible] wpList wpAny in
set_option maxHeartbeats 1500000 in
set_option maxRecDepth 100000 in
theorem awake_any (w : World) : Calls Tryd.prog 7 #[] w fun e w' => e = .returned (.bool true) ∧ Below w.heap.size w w' := by
 obtain ⟨ks, hT⟩ := two_of (List.replicate 32 0) (List.replicate 12 0) (by simp) (by simp) (by simp) (by simp)
 have HT := Lib.hid hT
 clear hT
 go_enter Tryd.func7, Tryd.ntmps7
 go_upto_region 1 with (fail)
 refine wp_region_lit ?_
 refine zP (.agg (ub (List.replicate 32 0)).toArray) ?_
 refine zP (.agg (ub (List.replicate 12 0)).toArray) ?_
 refine zV (.slice (some ⟨w.heap.size, 0, none⟩) 5 5) (w.alloc (.cells (ub [104, 101, 108, 108, 111]).toArray 5)) (by kernel_rfl) ?_
 obtain ⟨W1, hW1⟩ : ∃ V, V = w.alloc (.cells (ub [104, 101, 108, 108, 111]).toArray 5 ((ub [104, 101, 108, 108, 111]).toArray.size, (ub [104, 101, 108, 108, 111]).toArray.size + 1)) := ⟨_, rfl⟩
 refine zV (.slice (some ⟨w.heap.size, 0, none⟩) 5 5) W1 (run_conv33 _ _ _ _ _ _ _ rfl rfl hW1) ?_
 have F1 : Hid (Below w.heap.size w W1 ∧ Row W1 (some ⟨w.heap.size, 0, none⟩) 5 [104, 101, 108, 108, 111]) := Lib.hid (by rw [hW1]; exact ⟨(Below.refl _ _).alloc (Nat.le_refl _) _, row_marked _ _ _ _ rfl (by decide) (by decide)⟩)
 clear hW1
 refine wpL_call 8 #[.agg (ub (List.replicate 32 0)).toArray, .agg (ub (List.replicate 12 0)).toArray, .slice (some ⟨w.heap.size, 0, none⟩) 5 5, .slice none 0 0] rfl (by kernel_rfl) (((seal_two HT.out (some ⟨w.heap.size, 0, none⟩) none 5 5 0 0 [104, 101, 108, 108, 111] [] (by decide) (by decide) ⟨by decide, by decide, fun h => absurd h (by decide)⟩ W1 F1.out.2 (Row.nil _ _))).mono fun e W2 ⟨a, cp, he, b2, o2⟩ => ⟨.slice a (5 + 16) cp, he, ?_⟩)
 simp only [Act.put, List.setIfInBounds_toArray, List.set_cons_zero, List.set_cons_succ]
 have F2 : Hid (Below w.heap.size w W2) := Lib.hid (F1.out.1.trans (b2.mono F1.out.1.size))
 clear b2 o2 F1
 refine zP (.int .i64 21) ?_
 refine zP (.bool true) ?_
 refine zP (.bool true) ?_
 go_wp2_with fail
 go_ret
 exact ⟨rfl, F2.out⟩
end Go.Proofs.YtlbfohpkngmaoaaDoor.Ch.B.Se
