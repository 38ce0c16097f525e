/- Arrays of bytes, compared. -/
import Derived.Test.YthkhlkiemldbaaaKK1
namespace Go.Proofs.Ythkhlkiemldbaaa.K.Ha
open Go Go.RowKit
set_option maxRecDepth 100000
theorem forIn_all (P : Program) (w : World) (n : Nat) (f : Nat → (Option Bool × Unit) → Sem (ForInStep (Option Bool × Unit))) (c : Nat → Bool) (hf : ∀ i, i < n → (f i (none, ())).run P w = .ok (if c i then .yield (none, ()) else .done (some false, ())) w) :
    ∀ k i, i + k ≤ n → (forIn (List.range' i k) (none, ()) f : Sem (Option Bool × Unit)).run P w = .ok (if (List.range' i k).all c then (none, ()) else (some false, ())) w
  | 0, i, _ => by simp [go_sem]
  | k + 1, i, h => by
    rw [List.range'_succ, List.forIn_cons, Sem.run_bind, hf i (by omega), Result.andThen_ok, List.all_cons]
    cases hc : c i with
    | true =>
      simp only [if_true, Bool.true_and]
      exact forIn_all P w n f c hf k (i + 1) (by omega)
    | false => simp [go_sem]
set_option maxRecDepth 100000 in
theorem eq16 (L M : List Int) (hl : L.length = 16) (hm : M.length = 16) (w : World) : (Op.equalIn 10000 34 (.agg (u8l L).toArray) (.agg (u8l M).toArray)).run Try.prog w = .ok (decide (L = M)) w := by
  have u3 := Try.underlying5
  have ia3 := Try.isAgg5
  have z3 := Try.sizeOf5
  rw [show (10000 : Nat) = 9999 + 1 from rfl, Op.equalIn]
  simp only [Sem.run_bind, run_underlying Try.underlying34, Result.andThen_ok]
  simp only [Std.Legacy.Range.forIn_eq_forIn_range', Std.Legacy.Range.size, Nat.sub_zero, Nat.add_sub_cancel, Nat.div_one]
  go_simp
  rw [forIn_all Try.prog w 16 _ (fun i => decide (L.getD i 0 = M.getD i 0)) ?_ 16 0 (by omega)]
  · have e : (List.range' 0 16).all (fun i => decide (L.getD i 0 = M.getD i 0)) = decide (L = M) := by
      rw [Bool.eq_iff_iff, List.all_eq_true, decide_eq_true_eq]
      constructor
      · intro h
        apply List.ext_getElem?
        intro i
        by_cases hi : i < 16
        · have q := of_decide_eq_true (h i (by simp [List.mem_range']; omega))
          rw [List.getD, List.getD, List.getElem?_eq_getElem (show i < L.length by omega), List.getElem?_eq_getElem (show i < M.length by omega)] at q
          rw [List.getElem?_eq_getElem (show i < L.length by omega), List.getElem?_eq_getElem (show i < M.length by omega)]
          simpa using q
        · rw [List.getElem?_eq_none (by omega), List.getElem?_eq_none (by omega)]
      · intro h i _
        rw [h]; simp
    rw [e]
    by_cases h : L = M
    · simp [h, go_sem]
    · simp [h, go_sem]
  · intro i hi
    have e1 : (u8l L)[i]? = some (.int .u8 (L.getD i 0)) := by simp [u8l, List.getD, List.getElem?_eq_getElem (show i < L.length by omega)]
    have e2 : (u8l M)[i]? = some (.int .u8 (M.getD i 0)) := by simp [u8l, List.getD, List.getElem?_eq_getElem (show i < M.length by omega)]
    rw [e1, e2]
    go_simp
    split <;> rfl
attribute [local go_sem] eq16
set_option maxRecDepth 100000 in
theorem run_eq16 (a : Act) (o : Oper) (w : World) (x y : Operand) (L M : List Int) (b : Bool) (hl : L.length = 16) (hm : M.length = 16) (ho : o.op = .binOp .eql 34 x y 34) (hx : a.eval x = .agg (u8l L).toArray) (hy : a.eval y = .agg (u8l M).toArray) (hb : b = decide (L = M)) : (execOp a.eval o).run Try.prog w = .ok (.value (.bool b)) w := by
  subst hb
  have h := eq16 L M hl hm w
  have g : (Try.prog.eqGuardType Try.prog.depth 34) = false := by kernel_rfl
  unfold execOp
  simp only [ho, hx, hy]
  go_simp
set_option maxRecDepth 100000 in
theorem run_ne16 (a : Act) (o : Oper) (w : World) (x y : Operand) (L M : List Int) (b : Bool) (hl : L.length = 16) (hm : M.length = 16) (ho : o.op = .binOp .neq 34 x y 34) (hx : a.eval x = .agg (u8l L).toArray) (hy : a.eval y = .agg (u8l M).toArray) (hb : b = !decide (L = M)) : (execOp a.eval o).run Try.prog w = .ok (.value (.bool b)) w := by
  subst hb
  have h := eq16 L M hl hm w
  have g : (Try.prog.eqGuardType Try.prog.depth 34) = false := by kernel_rfl
  unfold execOp
  simp only [ho, hx, hy]
  go_simp
set_option maxRecDepth 100000 in
theorem eq32 (L M : List Int) (hl : L.length = 32) (hm : M.length = 32) (w : World) : (Op.equalIn 10000 32 (.agg (u8l L).toArray) (.agg (u8l M).toArray)).run Try.prog w = .ok (decide (L = M)) w := by
  have u3 := Try.underlying5
  have ia3 := Try.isAgg5
  have z3 := Try.sizeOf5
  rw [show (10000 : Nat) = 9999 + 1 from rfl, Op.equalIn]
  simp only [Sem.run_bind, run_underlying Try.underlying32, Result.andThen_ok]
  simp only [Std.Legacy.Range.forIn_eq_forIn_range', Std.Legacy.Range.size, Nat.sub_zero, Nat.add_sub_cancel, Nat.div_one]
  go_simp
  rw [forIn_all Try.prog w 32 _ (fun i => decide (L.getD i 0 = M.getD i 0)) ?_ 32 0 (by omega)]
  · have e : (List.range' 0 32).all (fun i => decide (L.getD i 0 = M.getD i 0)) = decide (L = M) := by
      rw [Bool.eq_iff_iff, List.all_eq_true, decide_eq_true_eq]
      constructor
      · intro h
        apply List.ext_getElem?
        intro i
        by_cases hi : i < 32
        · have q := of_decide_eq_true (h i (by simp [List.mem_range']; omega))
          rw [List.getD, List.getD, List.getElem?_eq_getElem (show i < L.length by omega), List.getElem?_eq_getElem (show i < M.length by omega)] at q
          rw [List.getElem?_eq_getElem (show i < L.length by omega), List.getElem?_eq_getElem (show i < M.length by omega)]
          simpa using q
        · rw [List.getElem?_eq_none (by omega), List.getElem?_eq_none (by omega)]
      · intro h i _
        rw [h]; simp
    rw [e]
    by_cases h : L = M
    · simp [h, go_sem]
    · simp [h, go_sem]
  · intro i hi
    have e1 : (u8l L)[i]? = some (.int .u8 (L.getD i 0)) := by simp [u8l, List.getD, List.getElem?_eq_getElem (show i < L.length by omega)]
    have e2 : (u8l M)[i]? = some (.int .u8 (M.getD i 0)) := by simp [u8l, List.getD, List.getElem?_eq_getElem (show i < M.length by omega)]
    rw [e1, e2]
    go_simp
    split <;> rfl
attribute [local go_sem] eq32
set_option maxRecDepth 100000 in
theorem run_eq32 (a : Act) (o : Oper) (w : World) (x y : Operand) (L M : List Int) (b : Bool) (hl : L.length = 32) (hm : M.length = 32) (ho : o.op = .binOp .eql 32 x y 32) (hx : a.eval x = .agg (u8l L).toArray) (hy : a.eval y = .agg (u8l M).toArray) (hb : b = decide (L = M)) : (execOp a.eval o).run Try.prog w = .ok (.value (.bool b)) w := by
  subst hb
  have h := eq32 L M hl hm w
  have g : (Try.prog.eqGuardType Try.prog.depth 32) = false := by kernel_rfl
  unfold execOp
  simp only [ho, hx, hy]
  go_simp
set_option maxRecDepth 100000 in
theorem run_ne32 (a : Act) (o : Oper) (w : World) (x y : Operand) (L M : List Int) (b : Bool) (hl : L.length = 32) (hm : M.length = 32) (ho : o.op = .binOp .neq 32 x y 32) (hx : a.eval x = .agg (u8l L).toArray) (hy : a.eval y = .agg (u8l M).toArray) (hb : b = !decide (L = M)) : (execOp a.eval o).run Try.prog w = .ok (.value (.bool b)) w := by
  subst hb
  have h := eq32 L M hl hm w
  have g : (Try.prog.eqGuardType Try.prog.depth 32) = false := by kernel_rfl
  unfold execOp
  simp only [ho, hx, hy]
  go_simp
theorem Toks.keep {w w' : World} {a : Option Addr} {n : Nat} {L : List (List Int)} (h : Toks w a n L) (hb : Below w.heap.size w w') : Toks w' a n L :=
  ⟨h.1, fun hn => by
    obtain ⟨g, o, h1, h2, h3⟩ := h.2 hn
    exact ⟨g, o, h1, h2, fun k hk => (h3 k hk).keep hb⟩⟩
end Go.Proofs.Ythkhlkiemldbaaa.K.Ha
