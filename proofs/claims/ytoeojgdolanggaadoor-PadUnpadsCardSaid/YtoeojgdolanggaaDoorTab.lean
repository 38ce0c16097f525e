import Derived.Test.YtoeojgdolanggaaDoorCards
import Derived.Test.YtoeojgdolanggaaDoorTie
import Derived.WalkKit
import Derived.ProofKit
import Derived.OpenShut
import Derived.Deep.DeepHandedRow
namespace Go.Proofs.YtoeojgdolanggaaDoor
open Go Go.RowKit

theorem noTabs {p : Prop} (_ : p) : True := trivial
def litV {H : Type} : DataW H → List Value
  | .lit (.int k n) => [.int k n]
  | _ => []
def flat1 {H : Type} : DataW H → List Value
  | .agg ps => ps.flatMap litV
  | d => litV d
def flat2 {H : Type} : DataW H → List Value
  | .agg ps => ps.flatMap flat1
  | d => litV d
def putTab (h : Array Obj) (i : Nat) (cs : Array Value) : Array Obj := h.modify i fun o => match o with
  | .cells _ t frozen => .cells cs t frozen
  | o => o
theorem gA : Tryd.prog.globalNamed "unicode/utf8.acceptRanges" = some 1 := by kernel_rfl
theorem gF : Tryd.prog.globalNamed "unicode/utf8.first" = some 0 := by kernel_rfl
noncomputable def laidWorld (os : Os) : World :=
  { World.holding Tryd.prog os ⟨#[], #[], []⟩ with heap := putTab (putTab (World.holding Tryd.prog os ⟨#[], #[], []⟩).heap 1 (flat2 (Rows.laid_unicode_utf8_acceptRanges : DataW Unit)).toArray) 0 (flat2 Rows.laid_unicode_utf8_first).toArray }
end Go.Proofs.YtoeojgdolanggaaDoor
