import Derived.Test.YtdhpgadhdgpbdaaG8
import Derived.IntWalk
namespace Go.Proofs.Ytdhpgadhdgpbdaa
open Go.RowKit

theorem run_sub1 (a : Act) (o : Oper) (w : World) (x : Operand) (j : Nat) (ho : o.op = .binOp .sub 3 x (.const (.int .i64 1)) 3) (hx : a.eval x = .int .i64 ((j : Int) + 1)) (hj : j < 6) : (execOp a.eval o).run Try.prog w = .ok (.value (.int .i64 (j : Int))) w := by
  have j0 : (0 : Int) ≤ (j : Int) := by omega
  have j6 : (j : Int) < 6 := by omega
  have hc : a.eval (.const (.int .i64 1)) = .int .i64 1 := rfl
  unfold execOp
  simp only [ho, hx, hc]
  go_simp
  exact IntWalk.i64_in _ (by omega)
theorem run_idx (a : Act) (o : Oper) (w : World) (T : TypeId) (hT : T = 25 ∨ T = 26) (x i : Operand) (b off j : Nat) (ho : o.op = .indexAddr T x i) (hx : a.eval x = .pointer (some ⟨b, off, none⟩)) (hi : a.eval i = .int .i64 (j : Int)) (hj : j < 6) : (execOp a.eval o).run Try.prog w = .ok (.value (.pointer (some ⟨b, off + j, none⟩))) w := by
  have j0 : (0 : Int) ≤ (j : Int) := by omega
  have j6 : (j : Int) < 6 := by omega
  rcases hT with rfl | rfl
  all_goals
    unfold execOp
    simp only [ho, hx, hi]
    go_simp
/-- what holds in the inner loop. -/
def SK (bg bn B : Nat) (w : World) (g g' : Grp) (X : World) : Prop := Below B w X ∧ IsG X bg g ∧ IsG X bn g'
theorem SK.step {bg bn B : Nat} {w X Y : World} {g g' : Grp} (h : SK bg bn B w g g' X) (hB : B ≤ w.heap.size) (hb : Below X.heap.size X Y) : SK bg bn B w g g' Y :=
  ⟨h.1.trans (hb.mono (Nat.le_trans hB h.1.size)), Blk.keep h.2.1 hb h.2.1.lt, Blk.keep h.2.2 hb h.2.2.lt⟩
end Go.Proofs.Ytdhpgadhdgpbdaa
