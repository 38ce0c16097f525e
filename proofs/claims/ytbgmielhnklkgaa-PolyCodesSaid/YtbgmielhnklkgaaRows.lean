/-
  No cell of these rows narrows 'for every input' (looked for: loops, veiled, ifaces, maps, wideKeys, modest, calm, conditions, laid).
  DERIVED. THE GIVEN ROWS OF THIS SEAT. 6 by the template 'for every input the law returns true; each argument reads behind the call as it read before'; 0 by the template 'total and deterministic' (their statements: YtbgmielhnklkgaaTotals.lean).
  GIVEN WITH THE SEED: the statements are not yours to turn. If you find one false, say at which input.
  Laid BY PROGRAM, IN A SANDBOX (cutbox-rows.mjs): the forced cells as the released guide's own fill.sh prints them over the translation c670d9784690e71a… (all of the seat's roots in one cut). By AI agents, Wed Nov 11 2026. No macro, syntax, notation, axiom, sorry.
-/
import Derived.Test.YtbgmielhnklkgaaChecked
import GoSem.Claim
import GoSem.ClaimJoined
import GoSem.ClaimMapViews
import Derived.JoinedTies
import Derived.KernelRfl
namespace Go.Proofs.Ytbgmielhnklkgaa
/- THE CELL 'sum', in the pinned program and in every row, IS THE sha256 OF THE DUMP (.gsa) THAT YtbgmielhnklkgaaProg.lean LOADS. Nothing in Lean hashes anything: it is a label: what it is worth is what the hold of that sum in a sandbox is worth. -/
noncomputable def Try.pinned : Pinned := { name := "ytbgmielhnklkgaa", sum := "c670d9784690e71a42d062f29b3f6676e162122925b1b009c2da0a282c2749a2", checked := Try.checked }
namespace Rows
def none {H : Type} : Left H := { results := [], args := [] }

/-- 'jalousielaw03.PolyZero': WHATEVER THE INPUT: true; the input reads as it did. -/
def polyZeroSpec : ChangeSpec := { name := "polyZero", fn := fun _ => fun
  | [d1, d2] => { results := [.lit (.bool true)], args := [d1, d2] }
  | _ => none }
def polyZeroRow : OpenClaim := { program := "ytbgmielhnklkgaa", sum := "c670d9784690e71a42d062f29b3f6676e162122925b1b009c2da0a282c2749a2", func := "jalousie/jalousielaw03.PolyZero", spec := "polyZero", inPlace := ["math/bits.Add64", "math/bits.Sub64"], apart := false }
def PolyZeroSaid : Prop := polyZeroRow.holds Try.pinned (OpenSpec.ofChange polyZeroSpec)

/-- ITS FALSE NEIGHBOUR: 'it returns false'. Refute it at one input. -/
def polyZeroWrong : ChangeSpec := { name := "polyZero", fn := fun _ => fun
  | [d1, d2] => { results := [.lit (.bool false)], args := [d1, d2] }
  | _ => none }
def PolyZeroWrongFalsely : Prop := polyZeroRow.holds Try.pinned (OpenSpec.ofChange polyZeroWrong)

/-- 'jalousielaw03.PolyCodes': WHATEVER THE INPUT: true; the input reads as it did. -/
def polyCodesSpec : ChangeSpec := { name := "polyCodes", fn := fun _ => fun
  | [d1, d2] => { results := [.lit (.bool true)], args := [d1, d2] }
  | _ => none }
def polyCodesRow : OpenClaim := { program := "ytbgmielhnklkgaa", sum := "c670d9784690e71a42d062f29b3f6676e162122925b1b009c2da0a282c2749a2", func := "jalousie/jalousielaw03.PolyCodes", spec := "polyCodes", inPlace := ["math/bits.Add64", "math/bits.Sub64"], apart := false }
def PolyCodesSaid : Prop := polyCodesRow.holds Try.pinned (OpenSpec.ofChange polyCodesSpec)

/-- ITS FALSE NEIGHBOUR: 'it returns false'. Refute it at one input. -/
def polyCodesWrong : ChangeSpec := { name := "polyCodes", fn := fun _ => fun
  | [d1, d2] => { results := [.lit (.bool false)], args := [d1, d2] }
  | _ => none }
def PolyCodesWrongFalsely : Prop := polyCodesRow.holds Try.pinned (OpenSpec.ofChange polyCodesWrong)

/-- 'jalousielaw03.PolyParts': WHATEVER THE INPUT: true; the input reads as it did. -/
def polyPartsSpec : ChangeSpec := { name := "polyParts", fn := fun _ => fun
  | [d1, d2, d3] => { results := [.lit (.bool true)], args := [d1, d2, d3] }
  | _ => none }
def polyPartsRow : OpenClaim := { program := "ytbgmielhnklkgaa", sum := "c670d9784690e71a42d062f29b3f6676e162122925b1b009c2da0a282c2749a2", func := "jalousie/jalousielaw03.PolyParts", spec := "polyParts", inPlace := ["math/bits.Add64", "math/bits.Sub64"], apart := false }
def PolyPartsSaid : Prop := polyPartsRow.holds Try.pinned (OpenSpec.ofChange polyPartsSpec)

/-- ITS FALSE NEIGHBOUR: 'it returns false'. Refute it at one input. -/
def polyPartsWrong : ChangeSpec := { name := "polyParts", fn := fun _ => fun
  | [d1, d2, d3] => { results := [.lit (.bool false)], args := [d1, d2, d3] }
  | _ => none }
def PolyPartsWrongFalsely : Prop := polyPartsRow.holds Try.pinned (OpenSpec.ofChange polyPartsWrong)

/-- 'jalousielaw03.PolyEdges': WHATEVER THE INPUT: true; the input reads as it did. -/
def polyEdgesSpec : ChangeSpec := { name := "polyEdges", fn := fun _ => fun
  | [d1, d2, d3] => { results := [.lit (.bool true)], args := [d1, d2, d3] }
  | _ => none }
def polyEdgesRow : OpenClaim := { program := "ytbgmielhnklkgaa", sum := "c670d9784690e71a42d062f29b3f6676e162122925b1b009c2da0a282c2749a2", func := "jalousie/jalousielaw03.PolyEdges", spec := "polyEdges", inPlace := ["math/bits.Add64", "math/bits.Sub64"], apart := false }
def PolyEdgesSaid : Prop := polyEdgesRow.holds Try.pinned (OpenSpec.ofChange polyEdgesSpec)

/-- ITS FALSE NEIGHBOUR: 'it returns false'. Refute it at one input. -/
def polyEdgesWrong : ChangeSpec := { name := "polyEdges", fn := fun _ => fun
  | [d1, d2, d3] => { results := [.lit (.bool false)], args := [d1, d2, d3] }
  | _ => none }
def PolyEdgesWrongFalsely : Prop := polyEdgesRow.holds Try.pinned (OpenSpec.ofChange polyEdgesWrong)

/-- 'jalousielaw03.PolyShifts': WHATEVER THE INPUT: true; the input reads as it did. -/
def polyShiftsSpec : ChangeSpec := { name := "polyShifts", fn := fun _ => fun
  | [d1, d2] => { results := [.lit (.bool true)], args := [d1, d2] }
  | _ => none }
def polyShiftsRow : OpenClaim := { program := "ytbgmielhnklkgaa", sum := "c670d9784690e71a42d062f29b3f6676e162122925b1b009c2da0a282c2749a2", func := "jalousie/jalousielaw03.PolyShifts", spec := "polyShifts", inPlace := ["math/bits.Add64", "math/bits.Sub64"], apart := false }
def PolyShiftsSaid : Prop := polyShiftsRow.holds Try.pinned (OpenSpec.ofChange polyShiftsSpec)

/-- ITS FALSE NEIGHBOUR: 'it returns false'. Refute it at one input. -/
def polyShiftsWrong : ChangeSpec := { name := "polyShifts", fn := fun _ => fun
  | [d1, d2] => { results := [.lit (.bool false)], args := [d1, d2] }
  | _ => none }
def PolyShiftsWrongFalsely : Prop := polyShiftsRow.holds Try.pinned (OpenSpec.ofChange polyShiftsWrong)

/-- 'jalousielaw03.PolyEqual': WHATEVER THE INPUT: true; the input reads as it did. -/
def polyEqualSpec : ChangeSpec := { name := "polyEqual", fn := fun _ => fun
  | [d1, d2] => { results := [.lit (.bool true)], args := [d1, d2] }
  | _ => none }
def polyEqualRow : OpenClaim := { program := "ytbgmielhnklkgaa", sum := "c670d9784690e71a42d062f29b3f6676e162122925b1b009c2da0a282c2749a2", func := "jalousie/jalousielaw03.PolyEqual", spec := "polyEqual", inPlace := ["math/bits.Add64", "math/bits.Sub64"], apart := false }
def PolyEqualSaid : Prop := polyEqualRow.holds Try.pinned (OpenSpec.ofChange polyEqualSpec)

/-- ITS FALSE NEIGHBOUR: 'it returns false'. Refute it at one input. -/
def polyEqualWrong : ChangeSpec := { name := "polyEqual", fn := fun _ => fun
  | [d1, d2] => { results := [.lit (.bool false)], args := [d1, d2] }
  | _ => none }
def PolyEqualWrongFalsely : Prop := polyEqualRow.holds Try.pinned (OpenSpec.ofChange polyEqualWrong)

/- THE SECOND FORM. 'bulk': how many values and letters a reading holds, each counted each time it is reached (what is shared counts as often as it is met; a slice's spare places count too). A statement '..UptoSaid' is the law's where the arguments, and the package variables that the reading takes, are together of bulk at most 1048576: NARROWER than '..Said'. Prove '..Said' where nothing that the law and all that it calls make is longer than what came in: it says more and counts as full. Else prove '..UptoSaid'. A law counts once. -/
mutual
def uptoBulk {H : Type} : DataW H → Nat
  | .lit (.string bytes) => bytes.length + 1
  | .lit _ => 1
  | .nil => 1
  | .ptr d => uptoBulk d + 1
  | .slice elems spare => uptoBulkAll elems + uptoBulkAll spare + 1
  | .agg parts => uptoBulkAll parts + 1
  | .iface _ d => uptoBulk d + 1
  | .map entries => uptoBulkEntries entries + 1
  | .held _ => 1
def uptoBulkAll {H : Type} : List (DataW H) → Nat
  | [] => 0
  | d :: r => uptoBulk d + uptoBulkAll r
def uptoBulkEntries {H : Type} : List (Lit × DataW H) → Nat
  | [] => 0
  | x :: r => uptoBulkEntry x + uptoBulkEntries r
def uptoBulkEntry {H : Type} : Lit × DataW H → Nat
  | (.string bytes, d) => bytes.length + uptoBulk d + 1
  | (_, d) => uptoBulk d + 1
 end
def uptoSmall : (H : Type) → List (DataW H) → Bool := fun _ ds => decide (uptoBulkAll ds ≤ 1048576)
def OpenSpec.upto (s : _root_.Go.ChangeSpec) : _root_.Go.OpenSpec := { _root_.Go.OpenSpec.ofChange s with cond := some uptoSmall }

/-- 'jalousielaw03.PolyZero', WHERE WHAT IT READS IS OF BULK AT MOST 1048576: true; the input reads as it did. -/
def polyZeroUptoRow : OpenClaim := { program := "ytbgmielhnklkgaa", sum := "c670d9784690e71a42d062f29b3f6676e162122925b1b009c2da0a282c2749a2", func := "jalousie/jalousielaw03.PolyZero", spec := "polyZero", inPlace := ["math/bits.Add64", "math/bits.Sub64"], apart := false, narrowed := true }
def PolyZeroUptoSaid : Prop := polyZeroUptoRow.holds Try.pinned (OpenSpec.upto polyZeroSpec)

/-- 'jalousielaw03.PolyCodes', WHERE WHAT IT READS IS OF BULK AT MOST 1048576: true; the input reads as it did. -/
def polyCodesUptoRow : OpenClaim := { program := "ytbgmielhnklkgaa", sum := "c670d9784690e71a42d062f29b3f6676e162122925b1b009c2da0a282c2749a2", func := "jalousie/jalousielaw03.PolyCodes", spec := "polyCodes", inPlace := ["math/bits.Add64", "math/bits.Sub64"], apart := false, narrowed := true }
def PolyCodesUptoSaid : Prop := polyCodesUptoRow.holds Try.pinned (OpenSpec.upto polyCodesSpec)

/-- 'jalousielaw03.PolyParts', WHERE WHAT IT READS IS OF BULK AT MOST 1048576: true; the input reads as it did. -/
def polyPartsUptoRow : OpenClaim := { program := "ytbgmielhnklkgaa", sum := "c670d9784690e71a42d062f29b3f6676e162122925b1b009c2da0a282c2749a2", func := "jalousie/jalousielaw03.PolyParts", spec := "polyParts", inPlace := ["math/bits.Add64", "math/bits.Sub64"], apart := false, narrowed := true }
def PolyPartsUptoSaid : Prop := polyPartsUptoRow.holds Try.pinned (OpenSpec.upto polyPartsSpec)

/-- 'jalousielaw03.PolyEdges', WHERE WHAT IT READS IS OF BULK AT MOST 1048576: true; the input reads as it did. -/
def polyEdgesUptoRow : OpenClaim := { program := "ytbgmielhnklkgaa", sum := "c670d9784690e71a42d062f29b3f6676e162122925b1b009c2da0a282c2749a2", func := "jalousie/jalousielaw03.PolyEdges", spec := "polyEdges", inPlace := ["math/bits.Add64", "math/bits.Sub64"], apart := false, narrowed := true }
def PolyEdgesUptoSaid : Prop := polyEdgesUptoRow.holds Try.pinned (OpenSpec.upto polyEdgesSpec)

/-- 'jalousielaw03.PolyShifts', WHERE WHAT IT READS IS OF BULK AT MOST 1048576: true; the input reads as it did. -/
def polyShiftsUptoRow : OpenClaim := { program := "ytbgmielhnklkgaa", sum := "c670d9784690e71a42d062f29b3f6676e162122925b1b009c2da0a282c2749a2", func := "jalousie/jalousielaw03.PolyShifts", spec := "polyShifts", inPlace := ["math/bits.Add64", "math/bits.Sub64"], apart := false, narrowed := true }
def PolyShiftsUptoSaid : Prop := polyShiftsUptoRow.holds Try.pinned (OpenSpec.upto polyShiftsSpec)

/-- 'jalousielaw03.PolyEqual', WHERE WHAT IT READS IS OF BULK AT MOST 1048576: true; the input reads as it did. -/
def polyEqualUptoRow : OpenClaim := { program := "ytbgmielhnklkgaa", sum := "c670d9784690e71a42d062f29b3f6676e162122925b1b009c2da0a282c2749a2", func := "jalousie/jalousielaw03.PolyEqual", spec := "polyEqual", inPlace := ["math/bits.Add64", "math/bits.Sub64"], apart := false, narrowed := true }
def PolyEqualUptoSaid : Prop := polyEqualUptoRow.holds Try.pinned (OpenSpec.upto polyEqualSpec)

end Rows
end Go.Proofs.Ytbgmielhnklkgaa
