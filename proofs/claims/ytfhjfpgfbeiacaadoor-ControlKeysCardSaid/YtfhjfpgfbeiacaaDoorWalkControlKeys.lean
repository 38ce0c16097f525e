/- 'ControlKeys', from its arguments. -/
import Derived.Test.YtfhjfpgfbeiacaaDoorC2
import Derived.Test.YtfhjfpgfbeiacaaDoorOpen
namespace Go.Proofs.YtfhjfpgfbeiacaaDoor
open Go Go.RowKit
theorem walkControlKeys (xs : List Int) (a b : Int) (lx : xs.length = 32) (wx : ∀ x ∈ xs, (Lit.int .u8 x).wf = true) (_ : (Lit.int .i64 a).wf = true) (_ : (Lit.int .i64 b).wf = true) (w : World) (tabs : Ha.TabK w ∧ Ha.TabH w ∧ Ha.TabW w) :
    Calls Tryd.prog 3 #[.agg (xs.map (Value.int .u8)).toArray, .int .i64 a, .int .i64 b] w fun e w' => e = .returned (.bool true) ∧ Below w.heap.size w w' :=
  Ha.keys_any w xs lx (fun v hv => by have := bounds_u8 (wx v hv); omega) a b tabs.1 tabs.2.1 tabs.2.2
end Go.Proofs.YtfhjfpgfbeiacaaDoor
