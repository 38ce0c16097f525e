/-
  No cell of these rows narrows 'for every input' (looked for: loops, veiled, ifaces, maps, wideKeys, modest, calm, conditions, laid).
  DERIVED. THE GIVEN ROWS OF THIS SEAT. 6 by the template 'for every input the law returns true; each argument reads behind the call as it read before'; 0 by the template 'total and deterministic' (their statements: YthkhlkiemldbaaaTotals.lean).
  GIVEN WITH THE SEED: the statements are not yours to turn. If you find one false, say at which input.
  Laid BY PROGRAM, IN A SANDBOX (cutbox-rows.mjs): the forced cells as the released guide's own fill.sh prints them over the translation 778184034c03d931… (all of the seat's roots in one cut). By AI agents, Wed Nov 11 2026. No macro, syntax, notation, axiom, sorry.
-/
import Derived.Test.YthkhlkiemldbaaaChecked
import GoSem.Claim
import GoSem.ClaimJoined
import GoSem.ClaimMapViews
import Derived.JoinedTies
import Derived.KernelRfl
namespace Go.Proofs.Ythkhlkiemldbaaa
/- THE CELL 'sum', in the pinned program and in every row, IS THE sha256 OF THE DUMP (.gsa) THAT YthkhlkiemldbaaaProg.lean LOADS. Nothing in Lean hashes anything: it is a label: what it is worth is what the hold of that sum in a sandbox is worth. -/
noncomputable def Try.pinned : Pinned := { name := "ythkhlkiemldbaaa", sum := "778184034c03d9310ccab9c75310b0930ad0198df766f5a3e14d9d6270bda149", checked := Try.checked }
namespace Rows
def none {H : Type} : Left H := { results := [], args := [] }

/-- 'jalousielaw14.VectorJoins': WHATEVER THE INPUT: true; the input reads as it did. -/
def vectorJoinsSpec : ChangeSpec := { name := "vectorJoins", fn := fun _ => fun
  | [d1, d2, d3] => { results := [.lit (.bool true)], args := [d1, d2, d3] }
  | _ => none }
def vectorJoinsRow : OpenClaim := { program := "ythkhlkiemldbaaa", sum := "778184034c03d9310ccab9c75310b0930ad0198df766f5a3e14d9d6270bda149", func := "jalousie/jalousielaw14.VectorJoins", spec := "vectorJoins", plainKeys := false, apart := false }
def VectorJoinsSaid : Prop := vectorJoinsRow.holds Try.pinned (OpenSpec.ofChange vectorJoinsSpec)

/-- ITS FALSE NEIGHBOUR: 'it returns false'. Refute it at one input. -/
def vectorJoinsWrong : ChangeSpec := { name := "vectorJoins", fn := fun _ => fun
  | [d1, d2, d3] => { results := [.lit (.bool false)], args := [d1, d2, d3] }
  | _ => none }
def VectorJoinsWrongFalsely : Prop := vectorJoinsRow.holds Try.pinned (OpenSpec.ofChange vectorJoinsWrong)

/-- 'jalousielaw14.VectorReckons': WHATEVER THE INPUT: true; the input reads as it did. -/
def vectorReckonsSpec : ChangeSpec := { name := "vectorReckons", fn := fun _ => fun
  | [d1, d2] => { results := [.lit (.bool true)], args := [d1, d2] }
  | _ => none }
def vectorReckonsRow : OpenClaim := { program := "ythkhlkiemldbaaa", sum := "778184034c03d9310ccab9c75310b0930ad0198df766f5a3e14d9d6270bda149", func := "jalousie/jalousielaw14.VectorReckons", spec := "vectorReckons", plainKeys := false, apart := false }
def VectorReckonsSaid : Prop := vectorReckonsRow.holds Try.pinned (OpenSpec.ofChange vectorReckonsSpec)

/-- ITS FALSE NEIGHBOUR: 'it returns false'. Refute it at one input. -/
def vectorReckonsWrong : ChangeSpec := { name := "vectorReckons", fn := fun _ => fun
  | [d1, d2] => { results := [.lit (.bool false)], args := [d1, d2] }
  | _ => none }
def VectorReckonsWrongFalsely : Prop := vectorReckonsRow.holds Try.pinned (OpenSpec.ofChange vectorReckonsWrong)

/-- 'jalousielaw14.VectorReady': WHATEVER THE INPUT: true; the input reads as it did. -/
def vectorReadySpec : ChangeSpec := { name := "vectorReady", fn := fun _ => fun
  | [d1, d2] => { results := [.lit (.bool true)], args := [d1, d2] }
  | _ => none }
def vectorReadyRow : OpenClaim := { program := "ythkhlkiemldbaaa", sum := "778184034c03d9310ccab9c75310b0930ad0198df766f5a3e14d9d6270bda149", func := "jalousie/jalousielaw14.VectorReady", spec := "vectorReady", inPlace := ["internal/bytealg.Compare"], plainKeys := false, apart := false }
def VectorReadySaid : Prop := vectorReadyRow.holds Try.pinned (OpenSpec.ofChange vectorReadySpec)

/-- ITS FALSE NEIGHBOUR: 'it returns false'. Refute it at one input. -/
def vectorReadyWrong : ChangeSpec := { name := "vectorReady", fn := fun _ => fun
  | [d1, d2] => { results := [.lit (.bool false)], args := [d1, d2] }
  | _ => none }
def VectorReadyWrongFalsely : Prop := vectorReadyRow.holds Try.pinned (OpenSpec.ofChange vectorReadyWrong)

/-- 'jalousielaw14.VectorOrders': WHATEVER THE INPUT: true; the input reads as it did. -/
def vectorOrdersSpec : ChangeSpec := { name := "vectorOrders", fn := fun _ => fun
  | [d1, d2] => { results := [.lit (.bool true)], args := [d1, d2] }
  | _ => none }
def vectorOrdersRow : OpenClaim := { program := "ythkhlkiemldbaaa", sum := "778184034c03d9310ccab9c75310b0930ad0198df766f5a3e14d9d6270bda149", func := "jalousie/jalousielaw14.VectorOrders", spec := "vectorOrders", inPlace := ["internal/bytealg.Compare"], unfollowed := true, recurses := true, plainKeys := false, apart := false }
def VectorOrdersSaid : Prop := vectorOrdersRow.holds Try.pinned (OpenSpec.ofChange vectorOrdersSpec)

/-- ITS FALSE NEIGHBOUR: 'it returns false'. Refute it at one input. -/
def vectorOrdersWrong : ChangeSpec := { name := "vectorOrders", fn := fun _ => fun
  | [d1, d2] => { results := [.lit (.bool false)], args := [d1, d2] }
  | _ => none }
def VectorOrdersWrongFalsely : Prop := vectorOrdersRow.holds Try.pinned (OpenSpec.ofChange vectorOrdersWrong)

/-- 'jalousielaw14.VectorTurned': WHATEVER THE INPUT: true; the input reads as it did. -/
def vectorTurnedSpec : ChangeSpec := { name := "vectorTurned", fn := fun _ => fun
  | [d1, d2, d3] => { results := [.lit (.bool true)], args := [d1, d2, d3] }
  | _ => none }
def vectorTurnedRow : OpenClaim := { program := "ythkhlkiemldbaaa", sum := "778184034c03d9310ccab9c75310b0930ad0198df766f5a3e14d9d6270bda149", func := "jalousie/jalousielaw14.VectorTurned", spec := "vectorTurned", inPlace := ["internal/bytealg.Compare"], unfollowed := true, recurses := true, plainKeys := false, apart := false }
def VectorTurnedSaid : Prop := vectorTurnedRow.holds Try.pinned (OpenSpec.ofChange vectorTurnedSpec)

/-- ITS FALSE NEIGHBOUR: 'it returns false'. Refute it at one input. -/
def vectorTurnedWrong : ChangeSpec := { name := "vectorTurned", fn := fun _ => fun
  | [d1, d2, d3] => { results := [.lit (.bool false)], args := [d1, d2, d3] }
  | _ => none }
def VectorTurnedWrongFalsely : Prop := vectorTurnedRow.holds Try.pinned (OpenSpec.ofChange vectorTurnedWrong)

/-- 'jalousielaw14.VectorSteps': WHATEVER THE INPUT: true; the input reads as it did. -/
def vectorStepsSpec : ChangeSpec := { name := "vectorSteps", fn := fun _ => fun
  | [d1, d2] => { results := [.lit (.bool true)], args := [d1, d2] }
  | _ => none }
def vectorStepsRow : OpenClaim := { program := "ythkhlkiemldbaaa", sum := "778184034c03d9310ccab9c75310b0930ad0198df766f5a3e14d9d6270bda149", func := "jalousie/jalousielaw14.VectorSteps", spec := "vectorSteps", inPlace := ["internal/bytealg.Compare"], unfollowed := true, recurses := true, plainKeys := false, apart := false }
def VectorStepsSaid : Prop := vectorStepsRow.holds Try.pinned (OpenSpec.ofChange vectorStepsSpec)

/-- ITS FALSE NEIGHBOUR: 'it returns false'. Refute it at one input. -/
def vectorStepsWrong : ChangeSpec := { name := "vectorSteps", fn := fun _ => fun
  | [d1, d2] => { results := [.lit (.bool false)], args := [d1, d2] }
  | _ => none }
def VectorStepsWrongFalsely : Prop := vectorStepsRow.holds Try.pinned (OpenSpec.ofChange vectorStepsWrong)

/- THE SECOND FORM. 'bulk': how many values and letters a reading holds, each counted each time it is reached (what is shared counts as often as it is met; a slice's spare places count too). A statement '..UptoSaid' is the law's where the arguments, and the package variables that the reading takes, are together of bulk at most 1048576: NARROWER than '..Said'. Prove '..Said' where nothing that the law and all that it calls make is longer than what came in: it says more and counts as full. Else prove '..UptoSaid'. A law counts once. -/
mutual
def uptoBulk {H : Type} : DataW H → Nat
  | .lit (.string bytes) => bytes.length + 1
  | .lit _ => 1
  | .nil => 1
  | .ptr d => uptoBulk d + 1
  | .slice elems spare => uptoBulkAll elems + uptoBulkAll spare + 1
  | .agg parts => uptoBulkAll parts + 1
  | .iface _ d => uptoBulk d + 1
  | .map entries => uptoBulkEntries entries + 1
  | .held _ => 1
def uptoBulkAll {H : Type} : List (DataW H) → Nat
  | [] => 0
  | d :: r => uptoBulk d + uptoBulkAll r
def uptoBulkEntries {H : Type} : List (Lit × DataW H) → Nat
  | [] => 0
  | x :: r => uptoBulkEntry x + uptoBulkEntries r
def uptoBulkEntry {H : Type} : Lit × DataW H → Nat
  | (.string bytes, d) => bytes.length + uptoBulk d + 1
  | (_, d) => uptoBulk d + 1
 end
def uptoSmall : (H : Type) → List (DataW H) → Bool := fun _ ds => decide (uptoBulkAll ds ≤ 1048576)
def OpenSpec.upto (s : _root_.Go.ChangeSpec) : _root_.Go.OpenSpec := { _root_.Go.OpenSpec.ofChange s with cond := some uptoSmall }

/-- 'jalousielaw14.VectorJoins', WHERE WHAT IT READS IS OF BULK AT MOST 1048576: true; the input reads as it did. -/
def vectorJoinsUptoRow : OpenClaim := { program := "ythkhlkiemldbaaa", sum := "778184034c03d9310ccab9c75310b0930ad0198df766f5a3e14d9d6270bda149", func := "jalousie/jalousielaw14.VectorJoins", spec := "vectorJoins", plainKeys := false, apart := false, narrowed := true }
def VectorJoinsUptoSaid : Prop := vectorJoinsUptoRow.holds Try.pinned (OpenSpec.upto vectorJoinsSpec)

/-- 'jalousielaw14.VectorReckons', WHERE WHAT IT READS IS OF BULK AT MOST 1048576: true; the input reads as it did. -/
def vectorReckonsUptoRow : OpenClaim := { program := "ythkhlkiemldbaaa", sum := "778184034c03d9310ccab9c75310b0930ad0198df766f5a3e14d9d6270bda149", func := "jalousie/jalousielaw14.VectorReckons", spec := "vectorReckons", plainKeys := false, apart := false, narrowed := true }
def VectorReckonsUptoSaid : Prop := vectorReckonsUptoRow.holds Try.pinned (OpenSpec.upto vectorReckonsSpec)

/-- 'jalousielaw14.VectorReady', WHERE WHAT IT READS IS OF BULK AT MOST 1048576: true; the input reads as it did. -/
def vectorReadyUptoRow : OpenClaim := { program := "ythkhlkiemldbaaa", sum := "778184034c03d9310ccab9c75310b0930ad0198df766f5a3e14d9d6270bda149", func := "jalousie/jalousielaw14.VectorReady", spec := "vectorReady", inPlace := ["internal/bytealg.Compare"], plainKeys := false, apart := false, narrowed := true }
def VectorReadyUptoSaid : Prop := vectorReadyUptoRow.holds Try.pinned (OpenSpec.upto vectorReadySpec)

/-- 'jalousielaw14.VectorOrders', WHERE WHAT IT READS IS OF BULK AT MOST 1048576: true; the input reads as it did. -/
def vectorOrdersUptoRow : OpenClaim := { program := "ythkhlkiemldbaaa", sum := "778184034c03d9310ccab9c75310b0930ad0198df766f5a3e14d9d6270bda149", func := "jalousie/jalousielaw14.VectorOrders", spec := "vectorOrders", inPlace := ["internal/bytealg.Compare"], unfollowed := true, recurses := true, plainKeys := false, apart := false, narrowed := true }
def VectorOrdersUptoSaid : Prop := vectorOrdersUptoRow.holds Try.pinned (OpenSpec.upto vectorOrdersSpec)

/-- 'jalousielaw14.VectorTurned', WHERE WHAT IT READS IS OF BULK AT MOST 1048576: true; the input reads as it did. -/
def vectorTurnedUptoRow : OpenClaim := { program := "ythkhlkiemldbaaa", sum := "778184034c03d9310ccab9c75310b0930ad0198df766f5a3e14d9d6270bda149", func := "jalousie/jalousielaw14.VectorTurned", spec := "vectorTurned", inPlace := ["internal/bytealg.Compare"], unfollowed := true, recurses := true, plainKeys := false, apart := false, narrowed := true }
def VectorTurnedUptoSaid : Prop := vectorTurnedUptoRow.holds Try.pinned (OpenSpec.upto vectorTurnedSpec)

/-- 'jalousielaw14.VectorSteps', WHERE WHAT IT READS IS OF BULK AT MOST 1048576: true; the input reads as it did. -/
def vectorStepsUptoRow : OpenClaim := { program := "ythkhlkiemldbaaa", sum := "778184034c03d9310ccab9c75310b0930ad0198df766f5a3e14d9d6270bda149", func := "jalousie/jalousielaw14.VectorSteps", spec := "vectorSteps", inPlace := ["internal/bytealg.Compare"], unfollowed := true, recurses := true, plainKeys := false, apart := false, narrowed := true }
def VectorStepsUptoSaid : Prop := vectorStepsUptoRow.holds Try.pinned (OpenSpec.upto vectorStepsSpec)

end Rows
end Go.Proofs.Ythkhlkiemldbaaa
