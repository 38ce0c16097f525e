/- 'SealApart', from its arguments. -/
import Derived.Test.YtlbfohpkngmaoaaDoorS13
import Derived.Test.YtlbfohpkngmaoaaDoorSO
namespace Go.Proofs.YtlbfohpkngmaoaaDoor
open Go Go.RowKit Go.ChangeShapes Go.WideShapes Go.ChangeAt
theorem walkSealApart (xs : List Int) (a : Option Addr) (n c : Nat) (z : List Int) (b : Option Addr) (m e : Nat) (y : List Int) (x : Int) (lx : xs.length = 32) (wx : ∀ x ∈ xs, (Lit.int .u8 x).wf = true) (wr : (Lit.int .u8 x).wf = true) (w : World) (hm : IsRow .u8 w a n c z ∧ IsRow .u8 w b m e y) (tabs : w.cell? ⟨0, 0, none⟩ = some (.iface 92 (.agg #[.pointer (some ⟨1, 42, none⟩)]))) :
    Calls Tryd.prog 6 #[.agg (xs.map (Value.int .u8)).toArray, .agg #[.slice a n c, .slice b m e], .int .u8 x] w fun e w' => e = .returned (.bool true) ∧ Below w.heap.size w w' := by
  have h0 : Ch.B.IsRow .u8 w a n c z := hm.1
  have h1 : Ch.B.IsRow .u8 w b m e y := hm.2
  have hr := bounds_u8 wr
  exact Ch.B.Se.apart_any xs lx (fun x hx => by have := bounds_u8 (wx x hx); omega) a b n c m e x _ _ (Ch.B.Se.fit_of h1) (by omega) w (Ch.B.row_of h0) (Ch.B.row_of h1) tabs
end Go.Proofs.YtlbfohpkngmaoaaDoor
