/-
  NARROWER THAN 'FOR EVERY INPUT', by the rows' own cells (each row's printed sentence says how): ControlKeys: laid · ControlBytes: laid · ControlParses: laid · ControlSlots: laid · ControlHands: laid.
  DERIVED. THE GIVEN ROWS OF THIS SEAT. 5 by the template 'for every input the law returns true; each argument reads behind the call as it read before'; 0 by the template 'total and deterministic' (their statements: YtfhjfpgfbeiacaaDoorTotals.lean).
  GIVEN WITH THE SEED: the statements are not yours to turn. If you find one false, say at which input.
  Laid BY PROGRAM, IN A SANDBOX (cutbox-rows.mjs): the forced cells as the released guide's own fill.sh prints them over the translation abdc3463a3e80fa5… (all of the seat's roots in one cut). By AI agents, Wed Nov 11 2026. No macro, syntax, notation, axiom, sorry.
-/
import Derived.Test.YtfhjfpgfbeiacaaDoorChecked
import GoSem.Claim
import GoSem.ClaimJoined
import GoSem.ClaimMapViews
import Derived.JoinedTies
import Derived.KernelRfl
namespace Go.Proofs.YtfhjfpgfbeiacaaDoor
/- THE CELL 'sum', in the pinned program and in every row, IS THE sha256 OF THE DUMP (.gsa) THAT YtfhjfpgfbeiacaaDoorProg.lean LOADS. Nothing in Lean hashes anything: it is a label: what it is worth is what the hold of that sum in a sandbox is worth. -/
noncomputable def Tryd.pinned : Pinned := { name := "ytfhjfpgfbeiacaadoor", sum := "abdc3463a3e80fa5a62dba6d3f0a48894ad08ff9297a8aff31afde1b0d33ea32", checked := Tryd.checked }
namespace Rows
def none {H : Type} : Left H := { results := [], args := [] }

/- WHAT THE LISTED PACKAGE-LEVEL VARIABLES READ AS WHEN THE CALL BEGINS. Each datum BY PROGRAM (the guide's laid-datum.mjs) off the statement by which the dump's own 'gosem.cut.vars' lays the variable. In a bare row this is a premise. The card (YtfhjfpgfbeiacaaDoorCards.lean) ties it to the program's text. -/
def laid_jalousie_jalousieref01_words {H : Type} : DataW H := .agg [.lit (.int .u32 1116352408), .lit (.int .u32 1899447441), .lit (.int .u32 3049323471), .lit (.int .u32 3921009573), .lit (.int .u32 961987163), .lit (.int .u32 1508970993), .lit (.int .u32 2453635748), .lit (.int .u32 2870763221), .lit (.int .u32 3624381080), .lit (.int .u32 310598401), .lit (.int .u32 607225278), .lit (.int .u32 1426881987), .lit (.int .u32 1925078388), .lit (.int .u32 2162078206), .lit (.int .u32 2614888103), .lit (.int .u32 3248222580), .lit (.int .u32 3835390401), .lit (.int .u32 4022224774), .lit (.int .u32 264347078), .lit (.int .u32 604807628), .lit (.int .u32 770255983), .lit (.int .u32 1249150122), .lit (.int .u32 1555081692), .lit (.int .u32 1996064986), .lit (.int .u32 2554220882), .lit (.int .u32 2821834349), .lit (.int .u32 2952996808), .lit (.int .u32 3210313671), .lit (.int .u32 3336571891), .lit (.int .u32 3584528711), .lit (.int .u32 113926993), .lit (.int .u32 338241895), .lit (.int .u32 666307205), .lit (.int .u32 773529912), .lit (.int .u32 1294757372), .lit (.int .u32 1396182291), .lit (.int .u32 1695183700), .lit (.int .u32 1986661051), .lit (.int .u32 2177026350), .lit (.int .u32 2456956037), .lit (.int .u32 2730485921), .lit (.int .u32 2820302411), .lit (.int .u32 3259730800), .lit (.int .u32 3345764771), .lit (.int .u32 3516065817), .lit (.int .u32 3600352804), .lit (.int .u32 4094571909), .lit (.int .u32 275423344), .lit (.int .u32 430227734), .lit (.int .u32 506948616), .lit (.int .u32 659060556), .lit (.int .u32 883997877), .lit (.int .u32 958139571), .lit (.int .u32 1322822218), .lit (.int .u32 1537002063), .lit (.int .u32 1747873779), .lit (.int .u32 1955562222), .lit (.int .u32 2024104815), .lit (.int .u32 2227730452), .lit (.int .u32 2361852424), .lit (.int .u32 2428436474), .lit (.int .u32 2756734187), .lit (.int .u32 3204031479), .lit (.int .u32 3329325298)]
def laid_jalousie_hash_start {H : Type} : DataW H := .agg [.lit (.int .u32 1779033703), .lit (.int .u32 3144134277), .lit (.int .u32 1013904242), .lit (.int .u32 2773480762), .lit (.int .u32 1359893119), .lit (.int .u32 2600822924), .lit (.int .u32 528734635), .lit (.int .u32 1541459225)]
def laid_jalousie_hash_rounds {H : Type} : DataW H := .agg [.lit (.int .u32 1116352408), .lit (.int .u32 1899447441), .lit (.int .u32 3049323471), .lit (.int .u32 3921009573), .lit (.int .u32 961987163), .lit (.int .u32 1508970993), .lit (.int .u32 2453635748), .lit (.int .u32 2870763221), .lit (.int .u32 3624381080), .lit (.int .u32 310598401), .lit (.int .u32 607225278), .lit (.int .u32 1426881987), .lit (.int .u32 1925078388), .lit (.int .u32 2162078206), .lit (.int .u32 2614888103), .lit (.int .u32 3248222580), .lit (.int .u32 3835390401), .lit (.int .u32 4022224774), .lit (.int .u32 264347078), .lit (.int .u32 604807628), .lit (.int .u32 770255983), .lit (.int .u32 1249150122), .lit (.int .u32 1555081692), .lit (.int .u32 1996064986), .lit (.int .u32 2554220882), .lit (.int .u32 2821834349), .lit (.int .u32 2952996808), .lit (.int .u32 3210313671), .lit (.int .u32 3336571891), .lit (.int .u32 3584528711), .lit (.int .u32 113926993), .lit (.int .u32 338241895), .lit (.int .u32 666307205), .lit (.int .u32 773529912), .lit (.int .u32 1294757372), .lit (.int .u32 1396182291), .lit (.int .u32 1695183700), .lit (.int .u32 1986661051), .lit (.int .u32 2177026350), .lit (.int .u32 2456956037), .lit (.int .u32 2730485921), .lit (.int .u32 2820302411), .lit (.int .u32 3259730800), .lit (.int .u32 3345764771), .lit (.int .u32 3516065817), .lit (.int .u32 3600352804), .lit (.int .u32 4094571909), .lit (.int .u32 275423344), .lit (.int .u32 430227734), .lit (.int .u32 506948616), .lit (.int .u32 659060556), .lit (.int .u32 883997877), .lit (.int .u32 958139571), .lit (.int .u32 1322822218), .lit (.int .u32 1537002063), .lit (.int .u32 1747873779), .lit (.int .u32 1955562222), .lit (.int .u32 2024104815), .lit (.int .u32 2227730452), .lit (.int .u32 2361852424), .lit (.int .u32 2428436474), .lit (.int .u32 2756734187), .lit (.int .u32 3204031479), .lit (.int .u32 3329325298)]
def laid_errors_errorType {H : Type} : DataW H := .iface "internal/reflectlite.rtype" (.agg [.ptr (.lit (.string [101, 114, 114, 111, 114]))])

/-- 'jalousielaw16.ControlKeys': WHATEVER THE INPUT: true; the input reads as it did. -/
def controlKeysSpec : ChangeSpec := { name := "controlKeys", fn := fun _ => fun
  | [d1, d2, d3] => { results := [.lit (.bool true)], args := [d1, d2, d3] }
  | _ => none }
def controlKeysRow : OpenClaim := { program := "ytfhjfpgfbeiacaadoor", sum := "abdc3463a3e80fa5a62dba6d3f0a48894ad08ff9297a8aff31afde1b0d33ea32", func := "jalousie/jalousielaw16.ControlKeys", spec := "controlKeys", named := ["jalousie/hash.start", "jalousie/hash.rounds", "jalousie/jalousieref01.words"], plainKeys := false, apart := false, laid := [("jalousie/jalousieref01.words", laid_jalousie_jalousieref01_words), ("jalousie/hash.start", laid_jalousie_hash_start), ("jalousie/hash.rounds", laid_jalousie_hash_rounds)] }
def ControlKeysSaid : Prop := controlKeysRow.holds Tryd.pinned (OpenSpec.ofChange controlKeysSpec)

/-- ITS FALSE NEIGHBOUR: 'it returns false'. Refute it at one input. -/
def controlKeysWrong : ChangeSpec := { name := "controlKeys", fn := fun _ => fun
  | [d1, d2, d3] => { results := [.lit (.bool false)], args := [d1, d2, d3] }
  | _ => none }
def ControlKeysWrongFalsely : Prop := controlKeysRow.holds Tryd.pinned (OpenSpec.ofChange controlKeysWrong)

/-- 'jalousielaw16.ControlBytes': WHATEVER THE INPUT: true; the input reads as it did. -/
def controlBytesSpec : ChangeSpec := { name := "controlBytes", fn := fun _ => fun
  | [d] => { results := [.lit (.bool true)], args := [d] }
  | _ => none }
def controlBytesRow : OpenClaim := { program := "ytfhjfpgfbeiacaadoor", sum := "abdc3463a3e80fa5a62dba6d3f0a48894ad08ff9297a8aff31afde1b0d33ea32", func := "jalousie/jalousielaw16.ControlBytes", spec := "controlBytes", named := ["jalousie/hash.start", "jalousie/hash.rounds"], plainKeys := false, apart := false, laid := [("jalousie/hash.start", laid_jalousie_hash_start), ("jalousie/hash.rounds", laid_jalousie_hash_rounds)] }
def ControlBytesSaid : Prop := controlBytesRow.holds Tryd.pinned (OpenSpec.ofChange controlBytesSpec)

/-- ITS FALSE NEIGHBOUR: 'it returns false'. Refute it at one input. -/
def controlBytesWrong : ChangeSpec := { name := "controlBytes", fn := fun _ => fun
  | [d] => { results := [.lit (.bool false)], args := [d] }
  | _ => none }
def ControlBytesWrongFalsely : Prop := controlBytesRow.holds Tryd.pinned (OpenSpec.ofChange controlBytesWrong)

/-- 'jalousielaw16.ControlParses': WHATEVER THE INPUT: true; the input reads as it did. -/
def controlParsesSpec : ChangeSpec := { name := "controlParses", fn := fun _ => fun
  | [d] => { results := [.lit (.bool true)], args := [d] }
  | _ => none }
def controlParsesRow : OpenClaim := { program := "ytfhjfpgfbeiacaadoor", sum := "abdc3463a3e80fa5a62dba6d3f0a48894ad08ff9297a8aff31afde1b0d33ea32", func := "jalousie/jalousielaw16.ControlParses", spec := "controlParses", named := ["jalousie/hash.start", "jalousie/hash.rounds"], plainKeys := false, apart := false, laid := [("jalousie/hash.start", laid_jalousie_hash_start), ("jalousie/hash.rounds", laid_jalousie_hash_rounds)] }
def ControlParsesSaid : Prop := controlParsesRow.holds Tryd.pinned (OpenSpec.ofChange controlParsesSpec)

/-- ITS FALSE NEIGHBOUR: 'it returns false'. Refute it at one input. -/
def controlParsesWrong : ChangeSpec := { name := "controlParses", fn := fun _ => fun
  | [d] => { results := [.lit (.bool false)], args := [d] }
  | _ => none }
def ControlParsesWrongFalsely : Prop := controlParsesRow.holds Tryd.pinned (OpenSpec.ofChange controlParsesWrong)

/-- 'jalousielaw16.ControlSlots': WHATEVER THE INPUT: true; the input reads as it did. -/
def controlSlotsSpec : ChangeSpec := { name := "controlSlots", fn := fun _ => fun
  | [d1, d2, d3] => { results := [.lit (.bool true)], args := [d1, d2, d3] }
  | _ => none }
def controlSlotsRow : OpenClaim := { program := "ytfhjfpgfbeiacaadoor", sum := "abdc3463a3e80fa5a62dba6d3f0a48894ad08ff9297a8aff31afde1b0d33ea32", func := "jalousie/jalousielaw16.ControlSlots", spec := "controlSlots", inPlace := ["math/bits.Add64", "math/bits.Sub64", "internal/reflectlite.ValueOf", "(internal/reflectlite.Value).Type", "(internal/reflectlite.Value).IsNil", "internal/reflectlite.TypeOf", "(internal/reflectlite.Value).Elem", "(internal/reflectlite.Value).Set"], unfollowed := true, recurses := true, named := ["jalousie/hash.start", "jalousie/hash.rounds", "errors.errorType"], plainKeys := false, apart := false, laid := [("jalousie/hash.start", laid_jalousie_hash_start), ("jalousie/hash.rounds", laid_jalousie_hash_rounds), ("errors.errorType", laid_errors_errorType)] }
def ControlSlotsSaid : Prop := controlSlotsRow.holds Tryd.pinned (OpenSpec.ofChange controlSlotsSpec)

/-- ITS FALSE NEIGHBOUR: 'it returns false'. Refute it at one input. -/
def controlSlotsWrong : ChangeSpec := { name := "controlSlots", fn := fun _ => fun
  | [d1, d2, d3] => { results := [.lit (.bool false)], args := [d1, d2, d3] }
  | _ => none }
def ControlSlotsWrongFalsely : Prop := controlSlotsRow.holds Tryd.pinned (OpenSpec.ofChange controlSlotsWrong)

/-- 'jalousielaw16.ControlHands': WHATEVER THE INPUT: true; the input reads as it did. -/
def controlHandsSpec : ChangeSpec := { name := "controlHands", fn := fun _ => fun
  | [d1, d2, d3] => { results := [.lit (.bool true)], args := [d1, d2, d3] }
  | _ => none }
def controlHandsRow : OpenClaim := { program := "ytfhjfpgfbeiacaadoor", sum := "abdc3463a3e80fa5a62dba6d3f0a48894ad08ff9297a8aff31afde1b0d33ea32", func := "jalousie/jalousielaw16.ControlHands", spec := "controlHands", inPlace := ["math/bits.Add64", "math/bits.Sub64", "internal/reflectlite.ValueOf", "(internal/reflectlite.Value).Type", "(internal/reflectlite.Value).IsNil", "internal/reflectlite.TypeOf", "(internal/reflectlite.Value).Elem", "(internal/reflectlite.Value).Set"], unfollowed := true, recurses := true, named := ["jalousie/hash.start", "jalousie/hash.rounds", "errors.errorType"], plainKeys := false, apart := false, laid := [("jalousie/hash.start", laid_jalousie_hash_start), ("jalousie/hash.rounds", laid_jalousie_hash_rounds), ("errors.errorType", laid_errors_errorType)] }
def ControlHandsSaid : Prop := controlHandsRow.holds Tryd.pinned (OpenSpec.ofChange controlHandsSpec)

/-- ITS FALSE NEIGHBOUR: 'it returns false'. Refute it at one input. -/
def controlHandsWrong : ChangeSpec := { name := "controlHands", fn := fun _ => fun
  | [d1, d2, d3] => { results := [.lit (.bool false)], args := [d1, d2, d3] }
  | _ => none }
def ControlHandsWrongFalsely : Prop := controlHandsRow.holds Tryd.pinned (OpenSpec.ofChange controlHandsWrong)

/- THE SECOND FORM. 'bulk': how many values and letters a reading holds, each counted each time it is reached (what is shared counts as often as it is met; a slice's spare places count too). A statement '..UptoSaid' is the law's where the arguments, and the package variables that the reading takes, are together of bulk at most 1048576: NARROWER than '..Said'. Prove '..Said' where nothing that the law and all that it calls make is longer than what came in: it says more and counts as full. Else prove '..UptoSaid'. A law counts once. -/
mutual
def uptoBulk {H : Type} : DataW H → Nat
  | .lit (.string bytes) => bytes.length + 1
  | .lit _ => 1
  | .nil => 1
  | .ptr d => uptoBulk d + 1
  | .slice elems spare => uptoBulkAll elems + uptoBulkAll spare + 1
  | .agg parts => uptoBulkAll parts + 1
  | .iface _ d => uptoBulk d + 1
  | .map entries => uptoBulkEntries entries + 1
  | .held _ => 1
def uptoBulkAll {H : Type} : List (DataW H) → Nat
  | [] => 0
  | d :: r => uptoBulk d + uptoBulkAll r
def uptoBulkEntries {H : Type} : List (Lit × DataW H) → Nat
  | [] => 0
  | x :: r => uptoBulkEntry x + uptoBulkEntries r
def uptoBulkEntry {H : Type} : Lit × DataW H → Nat
  | (.string bytes, d) => bytes.length + uptoBulk d + 1
  | (_, d) => uptoBulk d + 1
 end
def uptoSmall : (H : Type) → List (DataW H) → Bool := fun _ ds => decide (uptoBulkAll ds ≤ 1048576)
def OpenSpec.upto (s : _root_.Go.ChangeSpec) : _root_.Go.OpenSpec := { _root_.Go.OpenSpec.ofChange s with cond := some uptoSmall }

/-- 'jalousielaw16.ControlKeys', WHERE WHAT IT READS IS OF BULK AT MOST 1048576: true; the input reads as it did. -/
def controlKeysUptoRow : OpenClaim := { program := "ytfhjfpgfbeiacaadoor", sum := "abdc3463a3e80fa5a62dba6d3f0a48894ad08ff9297a8aff31afde1b0d33ea32", func := "jalousie/jalousielaw16.ControlKeys", spec := "controlKeys", named := ["jalousie/hash.start", "jalousie/hash.rounds", "jalousie/jalousieref01.words"], plainKeys := false, apart := false, laid := [("jalousie/jalousieref01.words", laid_jalousie_jalousieref01_words), ("jalousie/hash.start", laid_jalousie_hash_start), ("jalousie/hash.rounds", laid_jalousie_hash_rounds)], narrowed := true }
def ControlKeysUptoSaid : Prop := controlKeysUptoRow.holds Tryd.pinned (OpenSpec.upto controlKeysSpec)

/-- 'jalousielaw16.ControlBytes', WHERE WHAT IT READS IS OF BULK AT MOST 1048576: true; the input reads as it did. -/
def controlBytesUptoRow : OpenClaim := { program := "ytfhjfpgfbeiacaadoor", sum := "abdc3463a3e80fa5a62dba6d3f0a48894ad08ff9297a8aff31afde1b0d33ea32", func := "jalousie/jalousielaw16.ControlBytes", spec := "controlBytes", named := ["jalousie/hash.start", "jalousie/hash.rounds"], plainKeys := false, apart := false, laid := [("jalousie/hash.start", laid_jalousie_hash_start), ("jalousie/hash.rounds", laid_jalousie_hash_rounds)], narrowed := true }
def ControlBytesUptoSaid : Prop := controlBytesUptoRow.holds Tryd.pinned (OpenSpec.upto controlBytesSpec)

/-- 'jalousielaw16.ControlParses', WHERE WHAT IT READS IS OF BULK AT MOST 1048576: true; the input reads as it did. -/
def controlParsesUptoRow : OpenClaim := { program := "ytfhjfpgfbeiacaadoor", sum := "abdc3463a3e80fa5a62dba6d3f0a48894ad08ff9297a8aff31afde1b0d33ea32", func := "jalousie/jalousielaw16.ControlParses", spec := "controlParses", named := ["jalousie/hash.start", "jalousie/hash.rounds"], plainKeys := false, apart := false, laid := [("jalousie/hash.start", laid_jalousie_hash_start), ("jalousie/hash.rounds", laid_jalousie_hash_rounds)], narrowed := true }
def ControlParsesUptoSaid : Prop := controlParsesUptoRow.holds Tryd.pinned (OpenSpec.upto controlParsesSpec)

/-- 'jalousielaw16.ControlSlots', WHERE WHAT IT READS IS OF BULK AT MOST 1048576: true; the input reads as it did. -/
def controlSlotsUptoRow : OpenClaim := { program := "ytfhjfpgfbeiacaadoor", sum := "abdc3463a3e80fa5a62dba6d3f0a48894ad08ff9297a8aff31afde1b0d33ea32", func := "jalousie/jalousielaw16.ControlSlots", spec := "controlSlots", inPlace := ["math/bits.Add64", "math/bits.Sub64", "internal/reflectlite.ValueOf", "(internal/reflectlite.Value).Type", "(internal/reflectlite.Value).IsNil", "internal/reflectlite.TypeOf", "(internal/reflectlite.Value).Elem", "(internal/reflectlite.Value).Set"], unfollowed := true, recurses := true, named := ["jalousie/hash.start", "jalousie/hash.rounds", "errors.errorType"], plainKeys := false, apart := false, laid := [("jalousie/hash.start", laid_jalousie_hash_start), ("jalousie/hash.rounds", laid_jalousie_hash_rounds), ("errors.errorType", laid_errors_errorType)], narrowed := true }
def ControlSlotsUptoSaid : Prop := controlSlotsUptoRow.holds Tryd.pinned (OpenSpec.upto controlSlotsSpec)

/-- 'jalousielaw16.ControlHands', WHERE WHAT IT READS IS OF BULK AT MOST 1048576: true; the input reads as it did. -/
def controlHandsUptoRow : OpenClaim := { program := "ytfhjfpgfbeiacaadoor", sum := "abdc3463a3e80fa5a62dba6d3f0a48894ad08ff9297a8aff31afde1b0d33ea32", func := "jalousie/jalousielaw16.ControlHands", spec := "controlHands", inPlace := ["math/bits.Add64", "math/bits.Sub64", "internal/reflectlite.ValueOf", "(internal/reflectlite.Value).Type", "(internal/reflectlite.Value).IsNil", "internal/reflectlite.TypeOf", "(internal/reflectlite.Value).Elem", "(internal/reflectlite.Value).Set"], unfollowed := true, recurses := true, named := ["jalousie/hash.start", "jalousie/hash.rounds", "errors.errorType"], plainKeys := false, apart := false, laid := [("jalousie/hash.start", laid_jalousie_hash_start), ("jalousie/hash.rounds", laid_jalousie_hash_rounds), ("errors.errorType", laid_errors_errorType)], narrowed := true }
def ControlHandsUptoSaid : Prop := controlHandsUptoRow.holds Tryd.pinned (OpenSpec.upto controlHandsSpec)

end Rows
end Go.Proofs.YtfhjfpgfbeiacaaDoor
