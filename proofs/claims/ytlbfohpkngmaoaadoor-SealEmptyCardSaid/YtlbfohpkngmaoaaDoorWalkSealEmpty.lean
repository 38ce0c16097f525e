/- 'SealEmpty', from its arguments. -/
import Derived.Test.YtlbfohpkngmaoaaDoorS10
import Derived.Test.YtlbfohpkngmaoaaDoorSO
namespace Go.Proofs.YtlbfohpkngmaoaaDoor
open Go Go.RowKit Go.ChangeShapes Go.WideShapes Go.ChangeAt
theorem walkSealEmpty (xs : List Int) (b : Option Addr) (m e : Nat) (y : List Int) (lx : xs.length = 32) (wx : ∀ x ∈ xs, (Lit.int .u8 x).wf = true) (w : World) (h1 : IsRow .u8 w b m e y) (tabs : w.cell? ⟨0, 0, none⟩ = some (.iface 92 (.agg #[.pointer (some ⟨1, 42, none⟩)]))) :
  Calls Tryd.prog 3 #[.agg (xs.map (Value.int .u8)).toArray, .slice b m e] w fun e w' => e = .returned (.bool true) ∧ Below w.heap.size w w' := by
 have h1 : Ch.B.IsRow .u8 w b m e y := h1
 exact Ch.B.Se.empty_any xs lx (fun x hx => by have := bounds_u8 (wx x hx); omega) b m e _ (Ch.B.Se.fit_of h1) w (Ch.B.row_of h1) tabs
end Go.Proofs.YtlbfohpkngmaoaaDoor
