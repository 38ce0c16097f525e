import Derived.Test.YtfhjfpgfbeiacaaDoorHaH6
namespace Go.Proofs.YtfhjfpgfbeiacaaDoor.Ha
open Go Go.RowKit
/-- the reference's table: the block of its words. -/
def TabW (w : World) : Prop := ∀ i, i < 64 → w.cell? ⟨1, i, none⟩ = some (.int .u32 (kk.getD i 0 : Nat))
theorem TabW.grown {w w' : World} {r : Option Nat} (h : TabW w) (hb : w.grownBy w' r) (hr : some 1 ≠ r) : TabW w' := fun i hi => hb.cell (h i hi) hr
theorem TabW.below {w w' : World} (h : TabW w) (hb : Below w.heap.size w w') : TabW w' := h.grown (gb_of hb none) (by simp)
end Go.Proofs.YtfhjfpgfbeiacaaDoor.Ha
