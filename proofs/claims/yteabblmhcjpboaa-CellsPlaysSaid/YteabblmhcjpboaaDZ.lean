/- Laws by row, each with the layout of the frame in it. -/
import Derived.Test.YteabblmhcjpboaaDGen
import Derived.Test.YteabblmhcjpboaaDHeldAll
namespace Go.Proofs.Yteabblmhcjpboaa.D

open Go Go.RowKit
section
variable {P : Program} {ops : Array Oper} {Q : Exit → Act → World → Prop} {a a' : Act} {w : World} {o : Oper} {rest : List Oper} {S : World → Prop} {Qh : Act → Prop}
theorem zP (v : Value) (h : wpList P ops Q rest a' w) (ha : a.put o.dst v = a' := by (simp only [Act.put, List.setIfInBounds_toArray, List.set_cons_zero, List.set_cons_succ]) <;> rfl) (hr : (execOp a.eval o).run P w = .ok (.value v) w := by kernel_rfl) (hw : Region.wanted o (yielded ops a.tmps) = true := by rfl) : wpList P ops Q (o :: rest) a w :=
  wpL_pure v hw hr (by rw [ha]; exact h)
theorem zQ (v : Value) (hr : (execOp a.eval o).run P w = .ok (.value v) w) (h : wpList P ops Q rest a' w) (ha : a.put o.dst v = a' := by (simp only [Act.put, List.setIfInBounds_toArray, List.set_cons_zero, List.set_cons_succ]) <;> rfl) (hw : Region.wanted o (yielded ops a.tmps) = true := by rfl) : wpList P ops Q (o :: rest) a w :=
  wpL_pure v hw hr (by rw [ha]; exact h)
theorem zV (v : Value) (W : World) (hr : (execOp a.eval o).run P w = .ok (.value v) W) (h : wpList P ops Q rest a' W) (ha : a.put o.dst v = a' := by (simp only [Act.put, List.setIfInBounds_toArray, List.set_cons_zero, List.set_cons_succ]) <;> rfl) (hw : Region.wanted o (yielded ops a.tmps) = true := by rfl) : wpList P ops Q (o :: rest) a w :=
  wpL_value v W hw hr (by rw [ha]; exact h)
theorem zS (h : wpList P ops Q rest a' w) (ha : a.put o.dst undef = a' := by (simp only [Act.put, List.setIfInBounds_toArray, List.set_cons_zero, List.set_cons_succ]) <;> rfl) (hw : Region.wanted o (yielded ops a.tmps) = false := by rfl) : wpList P ops Q (o :: rest) a w :=
  wpL_skip hw (by rw [ha]; exact h)
theorem zH (v : Value) (h : ∀ w, S w → HeldRun P S v ((execOp a.eval o).run P w)) (h2 : wpHeld P ops S Qh rest a') (ha : a.put o.dst v = a' := by (simp only [Act.put, List.setIfInBounds_toArray, List.set_cons_zero, List.set_cons_succ]) <;> rfl) (hw : Region.wanted o (yielded ops a.tmps) = true := by rfl) : wpHeld P ops S Qh (o :: rest) a :=
  wpHeld_cons v hw h (by rw [ha]; exact h2)
theorem zA {md : Region.Mode} {fuel : Nat} {listed : Array Bool} {p : Op} {ty : TypeId} {s : String} {e : Array Edge} {g : Option (Nat × Bool)} (i d : Nat) (v : Value) (h : wpAny P md ops Q fuel (listed.setIfInBounds i true) a' w) (ha : a.put (some d) v = a' := by (simp only [Act.put, List.setIfInBounds_toArray, List.set_cons_zero, List.set_cons_succ]) <;> rfl) (hi : ops[i]? = some ⟨some d, p, ty, s, e, g⟩ := by rfl)
    (hs : Region.noSelect ops = true := by kernel_rfl) (hf : Region.free md ops listed i = true := by kernel_rfl) (hr : (Region.ready md ops listed).contains i = true := by kernel_rfl) (hQ : ∀ c a w, Q (.panic c) (a.put (some d) v) w → Q (.panic c) a w := by exact fun _ _ _ h => h)
    (hw : Region.wanted ⟨some d, p, ty, s, e, g⟩ (yielded ops a.tmps) = true := by rfl) (hy : ∀ w, (execOp a.eval ⟨some d, p, ty, s, e, g⟩).run P w = .ok (.value v) w := by intro w; kernel_rfl) : wpAny P md ops Q (fuel + 1) listed a w :=
  wpAny_take (i := i) hi hs hf hr hQ (Or.inl ⟨hw, hy⟩) (by rw [ha]; exact h)
theorem zB {md : Region.Mode} {fuel : Nat} {listed : Array Bool} {p : Op} {ty : TypeId} {s : String} {e : Array Edge} {g : Option (Nat × Bool)} (i d : Nat) (v : Value) (hi : ops[i]? = some ⟨some d, p, ty, s, e, g⟩) (hy : ∀ w, (execOp a.eval ⟨some d, p, ty, s, e, g⟩).run P w = .ok (.value v) w) (h : wpAny P md ops Q fuel (listed.setIfInBounds i true) a' w) (ha : a.put (some d) v = a' := by (simp only [Act.put, List.setIfInBounds_toArray, List.set_cons_zero, List.set_cons_succ]) <;> rfl)
    (hs : Region.noSelect ops = true := by kernel_rfl) (hf : Region.free md ops listed i = true := by kernel_rfl) (hr : (Region.ready md ops listed).contains i = true := by kernel_rfl) (hQ : ∀ c a w, Q (.panic c) (a.put (some d) v) w → Q (.panic c) a w := by exact fun _ _ _ h => h)
    (hw : Region.wanted ⟨some d, p, ty, s, e, g⟩ (yielded ops a.tmps) = true := by rfl) : wpAny P md ops Q (fuel + 1) listed a w :=
  wpAny_take (i := i) hi hs hf hr hQ (Or.inl ⟨hw, hy⟩) (by rw [ha]; exact h)
end
end Go.Proofs.Yteabblmhcjpboaa.D
