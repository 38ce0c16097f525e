import Derived.Test.YtfhjfpgfbeiacaaDoorHaH10
import Derived.Test.YtfhjfpgfbeiacaaDoorHaHeldAll
import Derived.Test.YtfhjfpgfbeiacaaDoorHaIdx
namespace Go.Proofs.YtfhjfpgfbeiacaaDoor.Ha
open Go Go.RowKit
set_option maxRecDepth 100000

section
variable {Pg : Program} {ops : Array Oper}
theorem op_valw {Q' : Exit → Act → World → Prop} {i : Nat} {o : Oper} {a : Act} {w : World} {K : Act → World → Prop} (v : Value) (w' : World) (ho : ops[i]? = some o) (hw : Region.wanted o (yielded ops a.tmps) = true) (hr : (execOp a.eval o).run Pg w = .ok (.value v) w') (hK : K (a.put o.dst v) w') : wpOp Pg ops Q' i K a w := by
  unfold wpOp
  simp only [ho, hw, if_true, Oper.wp, hr, Oper.upon]
  exact .inl hK
theorem op_call {Q' : Exit → Act → World → Prop} {i : Nat} {o : Oper} {a : Act} {w : World} {K : Act → World → Prop} (f : FuncId) (args : Array Value) (ho : ops[i]? = some o) (hw : Region.wanted o (yielded ops a.tmps) = true) (hr : (execOp a.eval o).run Pg w = .ok (.enter f args) w)
    (h : Calls Pg f args w fun e w' => ∃ v, e = .returned v ∧ K (a.put o.dst v) w') : wpOp Pg ops Q' i K a w := by
  unfold wpOp
  simp only [ho, hw, if_true, Oper.wp, hr, Oper.upon]
  refine .inl (Calls.mono h fun e w' ⟨v, he, hq⟩ => ?_)
  subst he
  exact hq
end
theorem forIn_yield (P : Program) (w : World) (n : Nat) (f : Nat → (Option Bool × Unit) → Sem (ForInStep (Option Bool × Unit))) (hf : ∀ i, i < n → (f i (none, ())).run P w = .ok (.yield (none, ())) w) :
    ∀ k i, i + k ≤ n → (forIn (List.range' i k) (none, ()) f : Sem (Option Bool × Unit)).run P w = .ok (none, ()) w
  | 0, i, _ => by simp [go_sem]
  | k + 1, i, h => by
    rw [List.range'_succ, List.forIn_cons, Sem.run_bind, hf i (by omega), Result.andThen_ok]
    exact forIn_yield P w n f hf k (i + 1) (by omega)
set_option maxRecDepth 100000 in
set_option maxHeartbeats 4000000 in
theorem eq26 (L : List Int) (hl : L.length = 32) (w : World) : (Op.equalIn 10000 23 (.agg (u8l L).toArray) (.agg (u8l L).toArray)).run Tryd.prog w = .ok true w := by
  have u3 := Tryd.underlying5
  have ia3 := Tryd.isAgg5
  have z3 := Tryd.sizeOf5
  rw [show (10000 : Nat) = 9999 + 1 from rfl, Op.equalIn]
  simp only [Sem.run_bind, run_underlying Tryd.underlying23, Result.andThen_ok]
  simp only [Std.Legacy.Range.forIn_eq_forIn_range', Std.Legacy.Range.size, Nat.sub_zero, Nat.add_sub_cancel, Nat.div_one]
  go_simp
  rw [forIn_yield Tryd.prog w 32 _ ?_ 32 0 (by omega)]
  · simp [go_sem]
  · intro i hi
    have e : (u8l L)[i]? = some (.int .u8 (L[i]'(by omega))) := by simp [u8l, List.getElem?_eq_getElem (show i < L.length by omega)]
    rw [e]
    go_simp
attribute [local go_sem] eq26
set_option maxRecDepth 100000 in
theorem run_eq26 (a : Act) (o : Oper) (w : World) (x y : Operand) (L : List Int) (hl : L.length = 32) (ho : o.op = .binOp .eql 23 x y 23) (hx : a.eval x = .agg (u8l L).toArray) (hy : a.eval y = .agg (u8l L).toArray) : (execOp a.eval o).run Tryd.prog w = .ok (.value (.bool true)) w := by
  have h := eq26 L hl w
  have g : (Tryd.prog.eqGuardType Tryd.prog.depth 23) = false := by kernel_rfl
  unfold execOp
  simp only [ho, hx, hy]
  go_simp
theorem nat_u16' {p : Int} (h : (Lit.int .u16 p).wf = true) : ∃ P : Nat, p = (P : Int) ∧ P < 65536 := by
  have h1 := bounds_u16 h
  exact ⟨p.toNat, by omega, by omega⟩
theorem run_remn (a : Act) (o : Oper) (w : World) (x y : Operand) (p q : Nat) (ho : o.op = .binOp .rem 3 x y 3) (hx : a.eval x = .int .i64 (p : Int)) (hy : a.eval y = .int .i64 (q : Int)) (hp : p < 4611686018427387904) (hq : 0 < q) (hq2 : q < 4611686018427387904) : (execOp a.eval o).run Tryd.prog w = .ok (.value (.int .i64 ((p % q : Nat) : Int))) w := by
  have u := run_underlying Tryd.underlying3 w
  have h0 : ¬ ((q : Int) = 0) := by omega
  have h1 : ¬ ((q : Int) = -1) := by omega
  have e : (p : Int).tmod (q : Int) = ((p % q : Nat) : Int) := by rw [Int.tmod_eq_emod_of_nonneg (by omega)]; rfl
  have hm := Nat.mod_lt p hq
  unfold execOp
  simp only [ho, hx, hy]
  go_simp
  all_goals first | omega | (simp [e]; done) | (rw [e, wrap_in _ (by omega) (by omega)])
theorem Sl.takeN {w : World} {a : Option Addr} {n c : Nat} {xs : List Int} (h : Sl w a n c xs) (k : Nat) (hk : k ≤ n) : Sl w a k c (xs.take k) := by
  obtain ⟨h1, h2, h3, h4⟩ := h
  have hl := h1.1
  refine ⟨⟨by rw [List.length_take]; omega, by have := h1.2.1; omega, fun x hx => h1.2.2.1 x (List.mem_of_mem_take hx), fun j hj => ?_⟩, by omega, h3, h4⟩
  obtain ⟨g, o, e, hc⟩ := h1.2.2.2 j (by omega)
  refine ⟨g, o, e, ?_⟩
  rw [hc, List.getD, List.getD, List.getElem?_take, if_pos hj]
theorem sl_nil (w : World) : Sl w none 0 0 [] := ⟨Row.nil _ _, by omega, by omega, fun h => absurd h (by omega)⟩
end Go.Proofs.YtfhjfpgfbeiacaaDoor.Ha
