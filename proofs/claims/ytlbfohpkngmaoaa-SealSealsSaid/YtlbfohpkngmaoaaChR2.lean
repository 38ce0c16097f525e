import Derived.Test.YtlbfohpkngmaoaaChR1
import Derived.TacticsIn
namespace Go.Proofs.Ytlbfohpkngmaoaa.Ch
open Go Go.RowKit
section
variable {F : Fence} {n : Nat} {P : Program} {ops : Array Oper} {Q : Exit → Act → World → Prop} {a : Act} {w : World} {rest : List Oper} {o : Oper}
theorem wpI_value (hF : ∀ f, F.fn f) (hd : ∀ c, o.op ≠ .defer c) (v : Value) (w' : World) (hw : Region.wanted o (yielded ops a.tmps) = true) (hr : (execOp a.eval o).run P w = .ok (.value v) w') (h : wpListIn F n P ops Q rest (a.put o.dst v) w') : wpListIn F n P ops Q (o :: rest) a w := by
 simp only [wpListIn]
 rw [if_pos hw]
 refine ⟨fun f _ => hF f, ?_⟩
 rw [Oper.semAt_eq _ _ _ hd, hr]
 exact h
theorem wpI_pure (hF : ∀ f, F.fn f) (hd : ∀ c, o.op ≠ .defer c) (v : Value) (hw : Region.wanted o (yielded ops a.tmps) = true) (hr : (execOp a.eval o).run P w = .ok (.value v) w) (h : wpListIn F n P ops Q rest (a.put o.dst v) w) : wpListIn F n P ops Q (o :: rest) a w :=
 wpI_value hF hd v w hw hr h
theorem wpI_call (hF : ∀ f, F.fn f) (hdep : F.depth = none) (hd : ∀ c, o.op ≠ .defer c) (f : FuncId) (args : Array Value) (hw : Region.wanted o (yielded ops a.tmps) = true) (hr : (execOp a.eval o).run P w = .ok (.enter f args) w)
  (h : CallsIn F (n - 1) P f args w fun e w' => ∃ v, e = .returned v ∧ wpListIn F n P ops Q rest (a.put o.dst v) w') : wpListIn F n P ops Q (o :: rest) a w := by
 simp only [wpListIn]
 rw [if_pos hw]
 refine ⟨fun f _ => hF f, ?_⟩
 rw [Oper.semAt_eq _ _ _ hd, hr]
 refine ⟨fun e => by simp [hdep] at e, h.mono fun e w' ⟨v, he, hq⟩ => ?_⟩
 subst he
 exact hq
theorem wpI_yield (hF : ∀ f, F.fn f) (hdep : F.depth = none) (hd : ∀ c, o.op ≠ .defer c) (l : Nat) (args : Array Value) {R : Ending → World → Prop} (hw : Region.wanted o (yielded ops a.tmps) = true) (hr : (execOp a.eval o).run P w = (Instr.yield l args).run P w)
  (hy : YieldAt F (n - 1) P l args w R) (h : ∀ e w', R e w' → ∃ v, e = .returned v ∧ wpListIn F n P ops Q rest (a.put o.dst v) w') : wpListIn F n P ops Q (o :: rest) a w := by
 obtain ⟨fn, tmps, assign, body, h1, h2⟩ := hy
 simp only [wpListIn]
 rw [if_pos hw]
 refine ⟨fun f _ => hF f, ?_⟩
 rw [Oper.semAt_eq _ _ _ hd, hr, h1]
 refine ⟨fun e => by simp [hdep] at e, h2.mono fun e w' hR => ?_⟩
 obtain ⟨v, he, hq⟩ := h e w' hR
 subst he
 exact hq
end
theorem wide_fn (f : FuncId) : Fence.wide.fn f := trivial
end Go.Proofs.Ytlbfohpkngmaoaa.Ch
