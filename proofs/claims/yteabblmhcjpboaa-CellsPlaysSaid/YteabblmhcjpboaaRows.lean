/-
  No cell of these rows narrows 'for every input' (looked for: loops, veiled, ifaces, maps, wideKeys, modest, calm, conditions, laid).
  DERIVED. THE GIVEN ROWS OF THIS SEAT. 5 by the template 'for every input the law returns true; each argument reads behind the call as it read before'; 0 by the template 'total and deterministic' (their statements: YteabblmhcjpboaaTotals.lean).
  GIVEN WITH THE SEED: the statements are not yours to turn. If you find one false, say at which input.
  Laid BY PROGRAM, IN A SANDBOX (cutbox-rows.mjs): the forced cells as the released guide's own fill.sh prints them over the translation a7509b505bd25cfb… (all of the seat's roots in one cut). By AI agents, Wed Nov 11 2026. No macro, syntax, notation, axiom, sorry.
-/
import Derived.Test.YteabblmhcjpboaaChecked
import GoSem.Claim
import GoSem.ClaimJoined
import GoSem.ClaimMapViews
import Derived.JoinedTies
import Derived.KernelRfl
namespace Go.Proofs.Yteabblmhcjpboaa
/- THE CELL 'sum', in the pinned program and in every row, IS THE sha256 OF THE DUMP (.gsa) THAT YteabblmhcjpboaaProg.lean LOADS. Nothing in Lean hashes anything: it is a label: what it is worth is what the hold of that sum in a sandbox is worth. -/
noncomputable def Try.pinned : Pinned := { name := "yteabblmhcjpboaa", sum := "a7509b505bd25cfb03230fd92f23bb241c65e9d09ce4f0324172fd7d1ef4dafc", checked := Try.checked }
namespace Rows
def none {H : Type} : Left H := { results := [], args := [] }

/-- 'jalousielaw08.CellsGrows': WHATEVER THE INPUT: true; the input reads as it did. -/
def cellsGrowsSpec : ChangeSpec := { name := "cellsGrows", fn := fun _ => fun
  | [d1, d2] => { results := [.lit (.bool true)], args := [d1, d2] }
  | _ => none }
def cellsGrowsRow : OpenClaim := { program := "yteabblmhcjpboaa", sum := "a7509b505bd25cfb03230fd92f23bb241c65e9d09ce4f0324172fd7d1ef4dafc", func := "jalousie/jalousielaw08.CellsGrows", spec := "cellsGrows", inPlace := ["internal/bytealg.MakeNoZero"], apart := false }
def CellsGrowsSaid : Prop := cellsGrowsRow.holds Try.pinned (OpenSpec.ofChange cellsGrowsSpec)

/-- ITS FALSE NEIGHBOUR: 'it returns false'. Refute it at one input. -/
def cellsGrowsWrong : ChangeSpec := { name := "cellsGrows", fn := fun _ => fun
  | [d1, d2] => { results := [.lit (.bool false)], args := [d1, d2] }
  | _ => none }
def CellsGrowsWrongFalsely : Prop := cellsGrowsRow.holds Try.pinned (OpenSpec.ofChange cellsGrowsWrong)

/-- 'jalousielaw08.CellsOpens': WHATEVER THE INPUT: true; the input reads as it did. -/
def cellsOpensSpec : ChangeSpec := { name := "cellsOpens", fn := fun _ => fun
  | [d1, d2, d3] => { results := [.lit (.bool true)], args := [d1, d2, d3] }
  | _ => none }
def cellsOpensRow : OpenClaim := { program := "yteabblmhcjpboaa", sum := "a7509b505bd25cfb03230fd92f23bb241c65e9d09ce4f0324172fd7d1ef4dafc", func := "jalousie/jalousielaw08.CellsOpens", spec := "cellsOpens", inPlace := ["internal/bytealg.MakeNoZero"], apart := false }
def CellsOpensSaid : Prop := cellsOpensRow.holds Try.pinned (OpenSpec.ofChange cellsOpensSpec)

/-- ITS FALSE NEIGHBOUR: 'it returns false'. Refute it at one input. -/
def cellsOpensWrong : ChangeSpec := { name := "cellsOpens", fn := fun _ => fun
  | [d1, d2, d3] => { results := [.lit (.bool false)], args := [d1, d2, d3] }
  | _ => none }
def CellsOpensWrongFalsely : Prop := cellsOpensRow.holds Try.pinned (OpenSpec.ofChange cellsOpensWrong)

/-- 'jalousielaw08.CellsPlays': WHATEVER THE INPUT: true; the input reads as it did. -/
def cellsPlaysSpec : ChangeSpec := { name := "cellsPlays", fn := fun _ => fun
  | [d1, d2] => { results := [.lit (.bool true)], args := [d1, d2] }
  | _ => none }
def cellsPlaysRow : OpenClaim := { program := "yteabblmhcjpboaa", sum := "a7509b505bd25cfb03230fd92f23bb241c65e9d09ce4f0324172fd7d1ef4dafc", func := "jalousie/jalousielaw08.CellsPlays", spec := "cellsPlays", inPlace := ["internal/bytealg.MakeNoZero"], unfollowed := true, recurses := true, apart := false }
def CellsPlaysSaid : Prop := cellsPlaysRow.holds Try.pinned (OpenSpec.ofChange cellsPlaysSpec)

/-- ITS FALSE NEIGHBOUR: 'it returns false'. Refute it at one input. -/
def cellsPlaysWrong : ChangeSpec := { name := "cellsPlays", fn := fun _ => fun
  | [d1, d2] => { results := [.lit (.bool false)], args := [d1, d2] }
  | _ => none }
def CellsPlaysWrongFalsely : Prop := cellsPlaysRow.holds Try.pinned (OpenSpec.ofChange cellsPlaysWrong)

/-- 'jalousielaw08.CellsCrashes': WHATEVER THE INPUT: true; the input reads as it did. -/
def cellsCrashesSpec : ChangeSpec := { name := "cellsCrashes", fn := fun _ => fun
  | [d1, d2] => { results := [.lit (.bool true)], args := [d1, d2] }
  | _ => none }
def cellsCrashesRow : OpenClaim := { program := "yteabblmhcjpboaa", sum := "a7509b505bd25cfb03230fd92f23bb241c65e9d09ce4f0324172fd7d1ef4dafc", func := "jalousie/jalousielaw08.CellsCrashes", spec := "cellsCrashes", inPlace := ["internal/bytealg.MakeNoZero"], unfollowed := true, recurses := true, apart := false }
def CellsCrashesSaid : Prop := cellsCrashesRow.holds Try.pinned (OpenSpec.ofChange cellsCrashesSpec)

/-- ITS FALSE NEIGHBOUR: 'it returns false'. Refute it at one input. -/
def cellsCrashesWrong : ChangeSpec := { name := "cellsCrashes", fn := fun _ => fun
  | [d1, d2] => { results := [.lit (.bool false)], args := [d1, d2] }
  | _ => none }
def CellsCrashesWrongFalsely : Prop := cellsCrashesRow.holds Try.pinned (OpenSpec.ofChange cellsCrashesWrong)

/-- 'jalousielaw08.CellsApart': WHATEVER THE INPUT: true; the input reads as it did. -/
def cellsApartSpec : ChangeSpec := { name := "cellsApart", fn := fun _ => fun
  | [d1, d2, d3] => { results := [.lit (.bool true)], args := [d1, d2, d3] }
  | _ => none }
def cellsApartRow : OpenClaim := { program := "yteabblmhcjpboaa", sum := "a7509b505bd25cfb03230fd92f23bb241c65e9d09ce4f0324172fd7d1ef4dafc", func := "jalousie/jalousielaw08.CellsApart", spec := "cellsApart", inPlace := ["internal/bytealg.MakeNoZero"], apart := false }
def CellsApartSaid : Prop := cellsApartRow.holds Try.pinned (OpenSpec.ofChange cellsApartSpec)

/-- ITS FALSE NEIGHBOUR: 'it returns false'. Refute it at one input. -/
def cellsApartWrong : ChangeSpec := { name := "cellsApart", fn := fun _ => fun
  | [d1, d2, d3] => { results := [.lit (.bool false)], args := [d1, d2, d3] }
  | _ => none }
def CellsApartWrongFalsely : Prop := cellsApartRow.holds Try.pinned (OpenSpec.ofChange cellsApartWrong)

/- THE SECOND FORM. 'bulk': how many values and letters a reading holds, each counted each time it is reached (what is shared counts as often as it is met; a slice's spare places count too). A statement '..UptoSaid' is the law's where the arguments, and the package variables that the reading takes, are together of bulk at most 1048576: NARROWER than '..Said'. Prove '..Said' where nothing that the law and all that it calls make is longer than what came in: it says more and counts as full. Else prove '..UptoSaid'. A law counts once. -/
mutual
def uptoBulk {H : Type} : DataW H → Nat
  | .lit (.string bytes) => bytes.length + 1
  | .lit _ => 1
  | .nil => 1
  | .ptr d => uptoBulk d + 1
  | .slice elems spare => uptoBulkAll elems + uptoBulkAll spare + 1
  | .agg parts => uptoBulkAll parts + 1
  | .iface _ d => uptoBulk d + 1
  | .map entries => uptoBulkEntries entries + 1
  | .held _ => 1
def uptoBulkAll {H : Type} : List (DataW H) → Nat
  | [] => 0
  | d :: r => uptoBulk d + uptoBulkAll r
def uptoBulkEntries {H : Type} : List (Lit × DataW H) → Nat
  | [] => 0
  | x :: r => uptoBulkEntry x + uptoBulkEntries r
def uptoBulkEntry {H : Type} : Lit × DataW H → Nat
  | (.string bytes, d) => bytes.length + uptoBulk d + 1
  | (_, d) => uptoBulk d + 1
 end
def uptoSmall : (H : Type) → List (DataW H) → Bool := fun _ ds => decide (uptoBulkAll ds ≤ 1048576)
def OpenSpec.upto (s : _root_.Go.ChangeSpec) : _root_.Go.OpenSpec := { _root_.Go.OpenSpec.ofChange s with cond := some uptoSmall }

/-- 'jalousielaw08.CellsGrows', WHERE WHAT IT READS IS OF BULK AT MOST 1048576: true; the input reads as it did. -/
def cellsGrowsUptoRow : OpenClaim := { program := "yteabblmhcjpboaa", sum := "a7509b505bd25cfb03230fd92f23bb241c65e9d09ce4f0324172fd7d1ef4dafc", func := "jalousie/jalousielaw08.CellsGrows", spec := "cellsGrows", inPlace := ["internal/bytealg.MakeNoZero"], apart := false, narrowed := true }
def CellsGrowsUptoSaid : Prop := cellsGrowsUptoRow.holds Try.pinned (OpenSpec.upto cellsGrowsSpec)

/-- 'jalousielaw08.CellsOpens', WHERE WHAT IT READS IS OF BULK AT MOST 1048576: true; the input reads as it did. -/
def cellsOpensUptoRow : OpenClaim := { program := "yteabblmhcjpboaa", sum := "a7509b505bd25cfb03230fd92f23bb241c65e9d09ce4f0324172fd7d1ef4dafc", func := "jalousie/jalousielaw08.CellsOpens", spec := "cellsOpens", inPlace := ["internal/bytealg.MakeNoZero"], apart := false, narrowed := true }
def CellsOpensUptoSaid : Prop := cellsOpensUptoRow.holds Try.pinned (OpenSpec.upto cellsOpensSpec)

/-- 'jalousielaw08.CellsPlays', WHERE WHAT IT READS IS OF BULK AT MOST 1048576: true; the input reads as it did. -/
def cellsPlaysUptoRow : OpenClaim := { program := "yteabblmhcjpboaa", sum := "a7509b505bd25cfb03230fd92f23bb241c65e9d09ce4f0324172fd7d1ef4dafc", func := "jalousie/jalousielaw08.CellsPlays", spec := "cellsPlays", inPlace := ["internal/bytealg.MakeNoZero"], unfollowed := true, recurses := true, apart := false, narrowed := true }
def CellsPlaysUptoSaid : Prop := cellsPlaysUptoRow.holds Try.pinned (OpenSpec.upto cellsPlaysSpec)

/-- 'jalousielaw08.CellsCrashes', WHERE WHAT IT READS IS OF BULK AT MOST 1048576: true; the input reads as it did. -/
def cellsCrashesUptoRow : OpenClaim := { program := "yteabblmhcjpboaa", sum := "a7509b505bd25cfb03230fd92f23bb241c65e9d09ce4f0324172fd7d1ef4dafc", func := "jalousie/jalousielaw08.CellsCrashes", spec := "cellsCrashes", inPlace := ["internal/bytealg.MakeNoZero"], unfollowed := true, recurses := true, apart := false, narrowed := true }
def CellsCrashesUptoSaid : Prop := cellsCrashesUptoRow.holds Try.pinned (OpenSpec.upto cellsCrashesSpec)

/-- 'jalousielaw08.CellsApart', WHERE WHAT IT READS IS OF BULK AT MOST 1048576: true; the input reads as it did. -/
def cellsApartUptoRow : OpenClaim := { program := "yteabblmhcjpboaa", sum := "a7509b505bd25cfb03230fd92f23bb241c65e9d09ce4f0324172fd7d1ef4dafc", func := "jalousie/jalousielaw08.CellsApart", spec := "cellsApart", inPlace := ["internal/bytealg.MakeNoZero"], apart := false, narrowed := true }
def CellsApartUptoSaid : Prop := cellsApartUptoRow.holds Try.pinned (OpenSpec.upto cellsApartSpec)

end Rows
end Go.Proofs.Yteabblmhcjpboaa
