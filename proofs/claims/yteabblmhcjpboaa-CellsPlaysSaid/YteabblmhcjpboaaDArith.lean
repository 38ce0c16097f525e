/- What comparisons and sums of integers come to, for a type of whatever number. -/
import Derived.Test.YteabblmhcjpboaaDBase
namespace Go.Proofs.Yteabblmhcjpboaa.D
open Go Go.RowKit
section
variable {T : TypeId} {K : IntKind} {a : Act} {o : Oper} {w : World} {x y : Operand} {p q : Int} {b : Bool}
theorem run_eqi (hu : Try.prog.underlying T = some (.int K)) (ho : o.op = .binOp .eql T x y T) (hx : a.eval x = .int K p) (hy : a.eval y = .int K q) (hb : decide (p = q) = b) : (execOp a.eval o).run Try.prog w = .ok (.value (.bool b)) w := by
  have u := run_underlying hu w
  subst hb
  unfold execOp
  simp only [ho, hx, hy]
  go_simp
  try rfl
theorem run_nei (hu : Try.prog.underlying T = some (.int K)) (ho : o.op = .binOp .neq T x y T) (hx : a.eval x = .int K p) (hy : a.eval y = .int K q) (hb : decide (p ≠ q) = b) : (execOp a.eval o).run Try.prog w = .ok (.value (.bool b)) w := by
  have u := run_underlying hu w
  subst hb
  unfold execOp
  simp only [ho, hx, hy]
  go_simp
  try rfl
theorem run_lti (hu : Try.prog.underlying T = some (.int K)) (ho : o.op = .binOp .lss T x y T) (hx : a.eval x = .int K p) (hy : a.eval y = .int K q) (hb : decide (p < q) = b) : (execOp a.eval o).run Try.prog w = .ok (.value (.bool b)) w := by
  have u := run_underlying hu w
  subst hb
  unfold execOp
  simp only [ho, hx, hy]
  go_simp
theorem run_gti (hu : Try.prog.underlying T = some (.int K)) (ho : o.op = .binOp .gtr T x y T) (hx : a.eval x = .int K p) (hy : a.eval y = .int K q) (hb : decide (q < p) = b) : (execOp a.eval o).run Try.prog w = .ok (.value (.bool b)) w := by
  have u := run_underlying hu w
  subst hb
  unfold execOp
  simp only [ho, hx, hy]
  go_simp
theorem run_lei (hu : Try.prog.underlying T = some (.int K)) (ho : o.op = .binOp .leq T x y T) (hx : a.eval x = .int K p) (hy : a.eval y = .int K q) (hb : decide (p ≤ q) = b) : (execOp a.eval o).run Try.prog w = .ok (.value (.bool b)) w := by
  have u := run_underlying hu w
  subst hb
  unfold execOp
  simp only [ho, hx, hy]
  go_simp
theorem run_gei (hu : Try.prog.underlying T = some (.int K)) (ho : o.op = .binOp .geq T x y T) (hx : a.eval x = .int K p) (hy : a.eval y = .int K q) (hb : decide (q ≤ p) = b) : (execOp a.eval o).run Try.prog w = .ok (.value (.bool b)) w := by
  have u := run_underlying hu w
  subst hb
  unfold execOp
  simp only [ho, hx, hy]
  go_simp
theorem run_addi (hu : Try.prog.underlying T = some (.int K)) (ho : o.op = .binOp .add T x y T) (hx : a.eval x = .int K p) (hy : a.eval y = .int K q) (r : Int) (hr : K.wrap (p + q) = r) : (execOp a.eval o).run Try.prog w = .ok (.value (.int K r)) w := by
  have u := run_underlying hu w
  subst hr
  unfold execOp
  simp only [ho, hx, hy]
  go_simp
theorem run_subi (hu : Try.prog.underlying T = some (.int K)) (ho : o.op = .binOp .sub T x y T) (hx : a.eval x = .int K p) (hy : a.eval y = .int K q) (r : Int) (hr : K.wrap (p - q) = r) : (execOp a.eval o).run Try.prog w = .ok (.value (.int K r)) w := by
  have u := run_underlying hu w
  subst hr
  unfold execOp
  simp only [ho, hx, hy]
  go_simp
theorem run_muli (hu : Try.prog.underlying T = some (.int K)) (ho : o.op = .binOp .mul T x y T) (hx : a.eval x = .int K p) (hy : a.eval y = .int K q) (r : Int) (hr : K.wrap (p * q) = r) : (execOp a.eval o).run Try.prog w = .ok (.value (.int K r)) w := by
  have u := run_underlying hu w
  subst hr
  unfold execOp
  simp only [ho, hx, hy]
  go_simp
theorem run_biti {op : BinOp} (hop : op = .or ∨ op = .and ∨ op = .xor) (hu : Try.prog.underlying T = some (.int K)) (ho : o.op = .binOp op T x y T) (hx : a.eval x = .int K p) (hy : a.eval y = .int K q) (r : Int) (hr : bits op K p q = r) : (execOp a.eval o).run Try.prog w = .ok (.value (.int K r)) w := by
  have u := run_underlying hu w
  subst hr
  unfold execOp
  simp only [ho, hx, hy]
  rcases hop with rfl | rfl | rfl <;> go_simp
theorem run_convi {T' : TypeId} {K' : IntKind} (hu : Try.prog.underlying T = some (.int K)) (hu' : Try.prog.underlying T' = some (.int K')) (ho : o.op = .convert T T' x) (hx : a.eval x = .int K p) (r : Int) (hr : K'.wrap p = r) : (execOp a.eval o).run Try.prog w = .ok (.value (.int K' r)) w := by
  have u := run_underlying hu w
  have u' := run_underlying hu' w
  subst hr
  unfold execOp
  simp only [ho, hx]
  go_simp
  try rfl
theorem wrap_in (n : Int) (h0 : -9223372036854775808 ≤ n) (h1 : n ≤ 9223372036854775807) : IntKind.i64.wrap n = n := IntWalk.i64_in _ (by omega)
end
end Go.Proofs.Yteabblmhcjpboaa.D
