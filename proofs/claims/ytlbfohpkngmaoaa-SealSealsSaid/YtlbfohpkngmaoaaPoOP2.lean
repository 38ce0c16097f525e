import Derived.Test.YtlbfohpkngmaoaaPoOP1
import Derived.Laws.Externs
namespace Go.Proofs.Ytlbfohpkngmaoaa.Po.O
open Go.RowKit
def Blk (w : World) (g : Nat) (t : TypeId) (cs : Array Value) : Prop := w.heap[g]? = some (.cells cs t (0, 0))
theorem Blk.cell {w : World} {g t : Nat} {cs : Array Value} (h : Blk w g t cs) (j : Nat) : w.cell? ⟨g, j, none⟩ = cs[j]? := cell_of_row w _ _ _ _ _ h
theorem Blk.free {w : World} {g t : Nat} {cs : Array Value} (h : Blk w g t cs) (j : Nat) : w.frozen? ⟨g, j, none⟩ = false := frozen_of_row w g j cs t h
theorem Blk.lt {w : World} {g t : Nat} {cs : Array Value} (h : Blk w g t cs) : g < w.heap.size := by
 rcases Nat.lt_or_ge g w.heap.size with h1 | h1
 ·exact h1
 ·unfold Blk at h; rw [Array.getElem?_eq_none h1] at h; cases h
theorem Blk.alloc {w : World} {g t : Nat} {cs : Array Value} (h : Blk w g t cs) (o : Obj) : Blk (w.alloc o) g t cs := (Below.heap_alloc w o g h.lt).trans h
theorem Blk.new (w : World) (t : TypeId) (cs : Array Value) : Blk (w.alloc (.cells cs t)) w.heap.size t cs := heap_alloc_new w _
theorem Blk.new' (w : World) (t : TypeId) (cs : Array Value) (n : Nat) (hn : n = w.heap.size) : Blk (w.alloc (.cells cs t)) n t cs := by rw [hn]; exact heap_alloc_new w _
theorem Blk.keep {w w1 : World} {B g t : Nat} {cs : Array Value} (h : Blk w g t cs) (hb : Below B w w1) (hg : g < B) : Blk w1 g t cs := (hb.block _ hg).trans h
theorem Blk.set {w : World} {g t : Nat} {l : List Value} (h : Blk w g t l.toArray) (o : Nat) (v : Value) : Blk (w.setCell ⟨g, o, none⟩ v) g t (l.set o v).toArray := by
 have e := heap_setCell_same w g o l.toArray t v h
 simpa [Blk] using e
theorem range_blk {w : World} {g t : Nat} {l : List Value} (h : Blk w g t l.toArray) : w.rangeAt g 0 l := by
 intro j v hj
 rw [Nat.zero_add, h.cell]
 simpa using hj
theorem below_setRow {B : Nat} {a w : World} (h : Below B a w) {g : Nat} (hg : B ≤ g) (cs : Array Value) : Below B a (w.setRow g cs) :=
 ⟨h.os, h.tape, h.output, by simpa using h.size, fun k hk => (setRow_other _ _ _ _ (by omega)).trans (h.block k hk)⟩
def by8 (n k : Nat) : Nat := n / 2 ^ (8 * k) % 256
def outb (a b k : Nat) : List Value := (List.range 16).map fun i => .int .u8 (((if i < 8 then (if i < k then by8 a i else 0) else (if i - 8 < k then by8 b (i - 8) else 0)) : Nat) : Int)
theorem outb_len (a b k : Nat) : (outb a b k).length = 16 := by simp [outb]
theorem outb_next (a b k : Nat) (hk : k < 8) : ((outb a b k).set k (.int .u8 (by8 a k : Nat))).set (8 + k) (.int .u8 (by8 b k : Nat)) = outb a b (k + 1) := by
 apply List.ext_getElem?
 intro i
 simp only [outb, List.getElem?_set, List.length_set, List.length_map, List.length_range, List.getElem?_map]
 by_cases hi : i < 16
 ·rw [List.getElem?_range hi]
  by_cases h1 : 8 + k = i
  ·subst h1
   have e1 : ¬ 8 + k < 8 := by omega
   have e2 : 8 + k - 8 = k := by omega
   simp [e1, e2]; omega
  ·by_cases h2 : k = i
   ·subst h2
    simp [h1, hk]; omega
   ·simp only [h1, h2, if_false, Option.map_some]
    by_cases h3 : i < 8
    ·have e1 : (i < k + 1) = (i < k) := by simp; omega
     simp [h3, e1]
    ·have e1 : (i - 8 < k + 1) = (i - 8 < k) := by simp; omega
     simp [h3, e1]
 ·have e1 : 8 + k ≠ i := by omega
  have e2 : k ≠ i := by omega
  simp only [e1, e2, if_false]
  rw [List.getElem?_eq_none (by simp; omega)]
  rfl
theorem outb_cell (a b k i : Nat) (hi : i < 16) : ∃ v, (outb a b k)[i]? = some v := by
 simp [outb, List.getElem?_range hi]
theorem run_shr (a : Act) (o : Oper) (w : World) (x y : Operand) (k b : Nat) (ho : o.op = .binOp .shr 24 x y 3) (hx : a.eval x = .int .u64 (b : Int)) (hy : a.eval y = .int .i64 ((8 * k : Nat) : Int)) (hk : k < 8) (hb : b < 18446744073709551616) : (execOp a.eval o).run Try.prog w = .ok (.value (.int .u64 ((b / 2 ^ (8 * k) : Nat) : Int))) w := by
 have b0 : (0 : Int) ≤ (b : Int) := by omega
 have b1 : (b : Int) < 18446744073709551616 := by omega
 unfold execOp
 simp only [ho, hx, hy]
 rcases (show k = 0 ∨ k = 1 ∨ k = 2 ∨ k = 3 ∨ k = 4 ∨ k = 5 ∨ k = 6 ∨ k = 7 by omega) with rfl | rfl | rfl | rfl | rfl | rfl | rfl | rfl
 all_goals go_simp
 all_goals (first | done | (rw [IntKind.wrap_u64]; omega) | omega)
theorem run_conv8 (a : Act) (o : Oper) (w : World) (x : Operand) (b : Nat) (ho : o.op = .convert 24 5 x) (hx : a.eval x = .int .u64 (b : Int)) : (execOp a.eval o).run Try.prog w = .ok (.value (.int .u8 ((b % 256 : Nat) : Int))) w := by
 unfold execOp
 simp only [ho, hx]
 go_simp
 rw [IntKind.wrap_u8]
theorem run_add8 (a : Act) (o : Oper) (w : World) (x : Operand) (k : Nat) (ho : o.op = .binOp .add 3 (.const (.int .i64 8)) x 3) (hx : a.eval x = .int .i64 (k : Int)) (hk : k < 8) : (execOp a.eval o).run Try.prog w = .ok (.value (.int .i64 ((8 + k : Nat) : Int))) w := by
 have hc : a.eval (.const (.int .i64 8)) = .int .i64 8 := rfl
 unfold execOp
 simp only [ho, hx, hc]
 rcases (show k = 0 ∨ k = 1 ∨ k = 2 ∨ k = 3 ∨ k = 4 ∨ k = 5 ∨ k = 6 ∨ k = 7 by omega) with rfl | rfl | rfl | rfl | rfl | rfl | rfl | rfl <;> go_simp <;> exact IntWalk.i64_in _ (by omega)
theorem run_idxa (a : Act) (o : Oper) (w : World) (x i : Operand) (g off k : Nat) (ho : o.op = .indexAddr 39 x i) (hx : a.eval x = .pointer (some ⟨g, off, none⟩)) (hi : a.eval i = .int .i64 (k : Int)) (hk : k < 16) : (execOp a.eval o).run Try.prog w = .ok (.value (.pointer (some ⟨g, off + k, none⟩))) w := by
 have j0 : (0 : Int) ≤ (k : Int) := by omega
 have j6 : (k : Int) < 16 := by omega
 unfold execOp
 simp only [ho, hx, hi]
 go_simp
end Go.Proofs.Ytlbfohpkngmaoaa.Po.O
