/-
  NARROWER THAN 'FOR EVERY INPUT', by the rows' own cells (each row's printed sentence says how): HashKeys: laid · HashGoes: laid · HashSums: laid · HashMacs: laid · HashExpands: laid · HashParts: laid · HashOwn: laid.
  DERIVED. THE GIVEN ROWS OF THIS SEAT. 7 by the template 'for every input the law returns true; each argument reads behind the call as it read before'; 0 by the template 'total and deterministic' (their statements: YtggbmajajpafnaaDoorTotals.lean).
  GIVEN WITH THE SEED: the statements are not yours to turn. If you find one false, say at which input.
  Laid BY PROGRAM, IN A SANDBOX (cutbox-rows.mjs): the forced cells as the released guide's own fill.sh prints them over the translation 190a628e30fb5b66… (all of the seat's roots in one cut). By AI agents, Wed Nov 11 2026. No macro, syntax, notation, axiom, sorry.
-/
import Derived.Test.YtggbmajajpafnaaDoorChecked
import GoSem.Claim
import GoSem.ClaimJoined
import GoSem.ClaimMapViews
import Derived.JoinedTies
import Derived.KernelRfl
namespace Go.Proofs.YtggbmajajpafnaaDoor
/- THE CELL 'sum', in the pinned program and in every row, IS THE sha256 OF THE DUMP (.gsa) THAT YtggbmajajpafnaaDoorProg.lean LOADS. Nothing in Lean hashes anything: it is a label: what it is worth is what the hold of that sum in a sandbox is worth. -/
noncomputable def Tryd.pinned : Pinned := { name := "ytggbmajajpafnaadoor", sum := "190a628e30fb5b661575e2084ce376fc95d8b0702ace3607d4bcfe844adec564", checked := Tryd.checked }
namespace Rows
def none {H : Type} : Left H := { results := [], args := [] }

/- WHAT THE LISTED PACKAGE-LEVEL VARIABLES READ AS WHEN THE CALL BEGINS. Each datum BY PROGRAM (the guide's laid-datum.mjs) off the statement by which the dump's own 'gosem.cut.vars' lays the variable. In a bare row this is a premise. The card (YtggbmajajpafnaaDoorCards.lean) ties it to the program's text. -/
def laid_jalousie_jalousieref01_words {H : Type} : DataW H := .agg [.lit (.int .u32 1116352408), .lit (.int .u32 1899447441), .lit (.int .u32 3049323471), .lit (.int .u32 3921009573), .lit (.int .u32 961987163), .lit (.int .u32 1508970993), .lit (.int .u32 2453635748), .lit (.int .u32 2870763221), .lit (.int .u32 3624381080), .lit (.int .u32 310598401), .lit (.int .u32 607225278), .lit (.int .u32 1426881987), .lit (.int .u32 1925078388), .lit (.int .u32 2162078206), .lit (.int .u32 2614888103), .lit (.int .u32 3248222580), .lit (.int .u32 3835390401), .lit (.int .u32 4022224774), .lit (.int .u32 264347078), .lit (.int .u32 604807628), .lit (.int .u32 770255983), .lit (.int .u32 1249150122), .lit (.int .u32 1555081692), .lit (.int .u32 1996064986), .lit (.int .u32 2554220882), .lit (.int .u32 2821834349), .lit (.int .u32 2952996808), .lit (.int .u32 3210313671), .lit (.int .u32 3336571891), .lit (.int .u32 3584528711), .lit (.int .u32 113926993), .lit (.int .u32 338241895), .lit (.int .u32 666307205), .lit (.int .u32 773529912), .lit (.int .u32 1294757372), .lit (.int .u32 1396182291), .lit (.int .u32 1695183700), .lit (.int .u32 1986661051), .lit (.int .u32 2177026350), .lit (.int .u32 2456956037), .lit (.int .u32 2730485921), .lit (.int .u32 2820302411), .lit (.int .u32 3259730800), .lit (.int .u32 3345764771), .lit (.int .u32 3516065817), .lit (.int .u32 3600352804), .lit (.int .u32 4094571909), .lit (.int .u32 275423344), .lit (.int .u32 430227734), .lit (.int .u32 506948616), .lit (.int .u32 659060556), .lit (.int .u32 883997877), .lit (.int .u32 958139571), .lit (.int .u32 1322822218), .lit (.int .u32 1537002063), .lit (.int .u32 1747873779), .lit (.int .u32 1955562222), .lit (.int .u32 2024104815), .lit (.int .u32 2227730452), .lit (.int .u32 2361852424), .lit (.int .u32 2428436474), .lit (.int .u32 2756734187), .lit (.int .u32 3204031479), .lit (.int .u32 3329325298)]
def laid_jalousie_hash_start {H : Type} : DataW H := .agg [.lit (.int .u32 1779033703), .lit (.int .u32 3144134277), .lit (.int .u32 1013904242), .lit (.int .u32 2773480762), .lit (.int .u32 1359893119), .lit (.int .u32 2600822924), .lit (.int .u32 528734635), .lit (.int .u32 1541459225)]
def laid_jalousie_hash_rounds {H : Type} : DataW H := .agg [.lit (.int .u32 1116352408), .lit (.int .u32 1899447441), .lit (.int .u32 3049323471), .lit (.int .u32 3921009573), .lit (.int .u32 961987163), .lit (.int .u32 1508970993), .lit (.int .u32 2453635748), .lit (.int .u32 2870763221), .lit (.int .u32 3624381080), .lit (.int .u32 310598401), .lit (.int .u32 607225278), .lit (.int .u32 1426881987), .lit (.int .u32 1925078388), .lit (.int .u32 2162078206), .lit (.int .u32 2614888103), .lit (.int .u32 3248222580), .lit (.int .u32 3835390401), .lit (.int .u32 4022224774), .lit (.int .u32 264347078), .lit (.int .u32 604807628), .lit (.int .u32 770255983), .lit (.int .u32 1249150122), .lit (.int .u32 1555081692), .lit (.int .u32 1996064986), .lit (.int .u32 2554220882), .lit (.int .u32 2821834349), .lit (.int .u32 2952996808), .lit (.int .u32 3210313671), .lit (.int .u32 3336571891), .lit (.int .u32 3584528711), .lit (.int .u32 113926993), .lit (.int .u32 338241895), .lit (.int .u32 666307205), .lit (.int .u32 773529912), .lit (.int .u32 1294757372), .lit (.int .u32 1396182291), .lit (.int .u32 1695183700), .lit (.int .u32 1986661051), .lit (.int .u32 2177026350), .lit (.int .u32 2456956037), .lit (.int .u32 2730485921), .lit (.int .u32 2820302411), .lit (.int .u32 3259730800), .lit (.int .u32 3345764771), .lit (.int .u32 3516065817), .lit (.int .u32 3600352804), .lit (.int .u32 4094571909), .lit (.int .u32 275423344), .lit (.int .u32 430227734), .lit (.int .u32 506948616), .lit (.int .u32 659060556), .lit (.int .u32 883997877), .lit (.int .u32 958139571), .lit (.int .u32 1322822218), .lit (.int .u32 1537002063), .lit (.int .u32 1747873779), .lit (.int .u32 1955562222), .lit (.int .u32 2024104815), .lit (.int .u32 2227730452), .lit (.int .u32 2361852424), .lit (.int .u32 2428436474), .lit (.int .u32 2756734187), .lit (.int .u32 3204031479), .lit (.int .u32 3329325298)]

/-- 'jalousielaw01.HashKeys': WHATEVER THE INPUT: true; the input reads as it did. -/
def hashKeysSpec : ChangeSpec := { name := "hashKeys", fn := fun _ => fun
  | [d1, d2] => { results := [.lit (.bool true)], args := [d1, d2] }
  | _ => none }
def hashKeysRow : OpenClaim := { program := "ytggbmajajpafnaadoor", sum := "190a628e30fb5b661575e2084ce376fc95d8b0702ace3607d4bcfe844adec564", func := "jalousie/jalousielaw01.HashKeys", spec := "hashKeys", named := ["jalousie/hash.start", "jalousie/hash.rounds", "jalousie/jalousieref01.words"], apart := false, laid := [("jalousie/jalousieref01.words", laid_jalousie_jalousieref01_words), ("jalousie/hash.start", laid_jalousie_hash_start), ("jalousie/hash.rounds", laid_jalousie_hash_rounds)] }
def HashKeysSaid : Prop := hashKeysRow.holds Tryd.pinned (OpenSpec.ofChange hashKeysSpec)

/-- ITS FALSE NEIGHBOUR: 'it returns false'. Refute it at one input. -/
def hashKeysWrong : ChangeSpec := { name := "hashKeys", fn := fun _ => fun
  | [d1, d2] => { results := [.lit (.bool false)], args := [d1, d2] }
  | _ => none }
def HashKeysWrongFalsely : Prop := hashKeysRow.holds Tryd.pinned (OpenSpec.ofChange hashKeysWrong)

/-- 'jalousielaw01.HashGoes': WHATEVER THE INPUT: true; the input reads as it did. -/
def hashGoesSpec : ChangeSpec := { name := "hashGoes", fn := fun _ => fun
  | [d1, d2, d3] => { results := [.lit (.bool true)], args := [d1, d2, d3] }
  | _ => none }
def hashGoesRow : OpenClaim := { program := "ytggbmajajpafnaadoor", sum := "190a628e30fb5b661575e2084ce376fc95d8b0702ace3607d4bcfe844adec564", func := "jalousie/jalousielaw01.HashGoes", spec := "hashGoes", named := ["jalousie/hash.start", "jalousie/hash.rounds"], apart := false, laid := [("jalousie/hash.start", laid_jalousie_hash_start), ("jalousie/hash.rounds", laid_jalousie_hash_rounds)] }
def HashGoesSaid : Prop := hashGoesRow.holds Tryd.pinned (OpenSpec.ofChange hashGoesSpec)

/-- ITS FALSE NEIGHBOUR: 'it returns false'. Refute it at one input. -/
def hashGoesWrong : ChangeSpec := { name := "hashGoes", fn := fun _ => fun
  | [d1, d2, d3] => { results := [.lit (.bool false)], args := [d1, d2, d3] }
  | _ => none }
def HashGoesWrongFalsely : Prop := hashGoesRow.holds Tryd.pinned (OpenSpec.ofChange hashGoesWrong)

/-- 'jalousielaw01.HashSums': WHATEVER THE INPUT: true; the input reads as it did. -/
def hashSumsSpec : ChangeSpec := { name := "hashSums", fn := fun _ => fun
  | [d] => { results := [.lit (.bool true)], args := [d] }
  | _ => none }
def hashSumsRow : OpenClaim := { program := "ytggbmajajpafnaadoor", sum := "190a628e30fb5b661575e2084ce376fc95d8b0702ace3607d4bcfe844adec564", func := "jalousie/jalousielaw01.HashSums", spec := "hashSums", named := ["jalousie/hash.start", "jalousie/hash.rounds", "jalousie/jalousieref01.words"], apart := false, laid := [("jalousie/jalousieref01.words", laid_jalousie_jalousieref01_words), ("jalousie/hash.start", laid_jalousie_hash_start), ("jalousie/hash.rounds", laid_jalousie_hash_rounds)] }
def HashSumsSaid : Prop := hashSumsRow.holds Tryd.pinned (OpenSpec.ofChange hashSumsSpec)

/-- ITS FALSE NEIGHBOUR: 'it returns false'. Refute it at one input. -/
def hashSumsWrong : ChangeSpec := { name := "hashSums", fn := fun _ => fun
  | [d] => { results := [.lit (.bool false)], args := [d] }
  | _ => none }
def HashSumsWrongFalsely : Prop := hashSumsRow.holds Tryd.pinned (OpenSpec.ofChange hashSumsWrong)

/-- 'jalousielaw01.HashMacs': WHATEVER THE INPUT: true; the input reads as it did. -/
def hashMacsSpec : ChangeSpec := { name := "hashMacs", fn := fun _ => fun
  | [d1, d2] => { results := [.lit (.bool true)], args := [d1, d2] }
  | _ => none }
def hashMacsRow : OpenClaim := { program := "ytggbmajajpafnaadoor", sum := "190a628e30fb5b661575e2084ce376fc95d8b0702ace3607d4bcfe844adec564", func := "jalousie/jalousielaw01.HashMacs", spec := "hashMacs", named := ["jalousie/hash.start", "jalousie/hash.rounds", "jalousie/jalousieref01.words"], apart := false, laid := [("jalousie/jalousieref01.words", laid_jalousie_jalousieref01_words), ("jalousie/hash.start", laid_jalousie_hash_start), ("jalousie/hash.rounds", laid_jalousie_hash_rounds)] }
def HashMacsSaid : Prop := hashMacsRow.holds Tryd.pinned (OpenSpec.ofChange hashMacsSpec)

/-- ITS FALSE NEIGHBOUR: 'it returns false'. Refute it at one input. -/
def hashMacsWrong : ChangeSpec := { name := "hashMacs", fn := fun _ => fun
  | [d1, d2] => { results := [.lit (.bool false)], args := [d1, d2] }
  | _ => none }
def HashMacsWrongFalsely : Prop := hashMacsRow.holds Tryd.pinned (OpenSpec.ofChange hashMacsWrong)

/-- 'jalousielaw01.HashExpands': WHATEVER THE INPUT: true; the input reads as it did. -/
def hashExpandsSpec : ChangeSpec := { name := "hashExpands", fn := fun _ => fun
  | [d1, d2, d3] => { results := [.lit (.bool true)], args := [d1, d2, d3] }
  | _ => none }
def hashExpandsRow : OpenClaim := { program := "ytggbmajajpafnaadoor", sum := "190a628e30fb5b661575e2084ce376fc95d8b0702ace3607d4bcfe844adec564", func := "jalousie/jalousielaw01.HashExpands", spec := "hashExpands", named := ["jalousie/hash.start", "jalousie/hash.rounds", "jalousie/jalousieref01.words"], apart := false, laid := [("jalousie/jalousieref01.words", laid_jalousie_jalousieref01_words), ("jalousie/hash.start", laid_jalousie_hash_start), ("jalousie/hash.rounds", laid_jalousie_hash_rounds)] }
def HashExpandsSaid : Prop := hashExpandsRow.holds Tryd.pinned (OpenSpec.ofChange hashExpandsSpec)

/-- ITS FALSE NEIGHBOUR: 'it returns false'. Refute it at one input. -/
def hashExpandsWrong : ChangeSpec := { name := "hashExpands", fn := fun _ => fun
  | [d1, d2, d3] => { results := [.lit (.bool false)], args := [d1, d2, d3] }
  | _ => none }
def HashExpandsWrongFalsely : Prop := hashExpandsRow.holds Tryd.pinned (OpenSpec.ofChange hashExpandsWrong)

/-- 'jalousielaw01.HashParts': WHATEVER THE INPUT: true; the input reads as it did. -/
def hashPartsSpec : ChangeSpec := { name := "hashParts", fn := fun _ => fun
  | [d1, d2, d3] => { results := [.lit (.bool true)], args := [d1, d2, d3] }
  | _ => none }
def hashPartsRow : OpenClaim := { program := "ytggbmajajpafnaadoor", sum := "190a628e30fb5b661575e2084ce376fc95d8b0702ace3607d4bcfe844adec564", func := "jalousie/jalousielaw01.HashParts", spec := "hashParts", named := ["jalousie/hash.start", "jalousie/hash.rounds"], apart := false, laid := [("jalousie/hash.start", laid_jalousie_hash_start), ("jalousie/hash.rounds", laid_jalousie_hash_rounds)] }
def HashPartsSaid : Prop := hashPartsRow.holds Tryd.pinned (OpenSpec.ofChange hashPartsSpec)

/-- ITS FALSE NEIGHBOUR: 'it returns false'. Refute it at one input. -/
def hashPartsWrong : ChangeSpec := { name := "hashParts", fn := fun _ => fun
  | [d1, d2, d3] => { results := [.lit (.bool false)], args := [d1, d2, d3] }
  | _ => none }
def HashPartsWrongFalsely : Prop := hashPartsRow.holds Tryd.pinned (OpenSpec.ofChange hashPartsWrong)

/-- 'jalousielaw01.HashOwn': WHATEVER THE INPUT: true; the input reads as it did. -/
def hashOwnSpec : ChangeSpec := { name := "hashOwn", fn := fun _ => fun
  | [d1, d2] => { results := [.lit (.bool true)], args := [d1, d2] }
  | _ => none }
def hashOwnRow : OpenClaim := { program := "ytggbmajajpafnaadoor", sum := "190a628e30fb5b661575e2084ce376fc95d8b0702ace3607d4bcfe844adec564", func := "jalousie/jalousielaw01.HashOwn", spec := "hashOwn", named := ["jalousie/hash.start", "jalousie/hash.rounds"], apart := false, laid := [("jalousie/hash.start", laid_jalousie_hash_start), ("jalousie/hash.rounds", laid_jalousie_hash_rounds)] }
def HashOwnSaid : Prop := hashOwnRow.holds Tryd.pinned (OpenSpec.ofChange hashOwnSpec)

/-- ITS FALSE NEIGHBOUR: 'it returns false'. Refute it at one input. -/
def hashOwnWrong : ChangeSpec := { name := "hashOwn", fn := fun _ => fun
  | [d1, d2] => { results := [.lit (.bool false)], args := [d1, d2] }
  | _ => none }
def HashOwnWrongFalsely : Prop := hashOwnRow.holds Tryd.pinned (OpenSpec.ofChange hashOwnWrong)

/- THE SECOND FORM. 'bulk': how many values and letters a reading holds, each counted each time it is reached (what is shared counts as often as it is met; a slice's spare places count too). A statement '..UptoSaid' is the law's where the arguments, and the package variables that the reading takes, are together of bulk at most 1048576: NARROWER than '..Said'. Prove '..Said' where nothing that the law and all that it calls make is longer than what came in: it says more and counts as full. Else prove '..UptoSaid'. A law counts once. -/
mutual
def uptoBulk {H : Type} : DataW H → Nat
  | .lit (.string bytes) => bytes.length + 1
  | .lit _ => 1
  | .nil => 1
  | .ptr d => uptoBulk d + 1
  | .slice elems spare => uptoBulkAll elems + uptoBulkAll spare + 1
  | .agg parts => uptoBulkAll parts + 1
  | .iface _ d => uptoBulk d + 1
  | .map entries => uptoBulkEntries entries + 1
  | .held _ => 1
def uptoBulkAll {H : Type} : List (DataW H) → Nat
  | [] => 0
  | d :: r => uptoBulk d + uptoBulkAll r
def uptoBulkEntries {H : Type} : List (Lit × DataW H) → Nat
  | [] => 0
  | x :: r => uptoBulkEntry x + uptoBulkEntries r
def uptoBulkEntry {H : Type} : Lit × DataW H → Nat
  | (.string bytes, d) => bytes.length + uptoBulk d + 1
  | (_, d) => uptoBulk d + 1
 end
def uptoSmall : (H : Type) → List (DataW H) → Bool := fun _ ds => decide (uptoBulkAll ds ≤ 1048576)
def OpenSpec.upto (s : _root_.Go.ChangeSpec) : _root_.Go.OpenSpec := { _root_.Go.OpenSpec.ofChange s with cond := some uptoSmall }

/-- 'jalousielaw01.HashKeys', WHERE WHAT IT READS IS OF BULK AT MOST 1048576: true; the input reads as it did. -/
def hashKeysUptoRow : OpenClaim := { program := "ytggbmajajpafnaadoor", sum := "190a628e30fb5b661575e2084ce376fc95d8b0702ace3607d4bcfe844adec564", func := "jalousie/jalousielaw01.HashKeys", spec := "hashKeys", named := ["jalousie/hash.start", "jalousie/hash.rounds", "jalousie/jalousieref01.words"], apart := false, laid := [("jalousie/jalousieref01.words", laid_jalousie_jalousieref01_words), ("jalousie/hash.start", laid_jalousie_hash_start), ("jalousie/hash.rounds", laid_jalousie_hash_rounds)], narrowed := true }
def HashKeysUptoSaid : Prop := hashKeysUptoRow.holds Tryd.pinned (OpenSpec.upto hashKeysSpec)

/-- 'jalousielaw01.HashGoes', WHERE WHAT IT READS IS OF BULK AT MOST 1048576: true; the input reads as it did. -/
def hashGoesUptoRow : OpenClaim := { program := "ytggbmajajpafnaadoor", sum := "190a628e30fb5b661575e2084ce376fc95d8b0702ace3607d4bcfe844adec564", func := "jalousie/jalousielaw01.HashGoes", spec := "hashGoes", named := ["jalousie/hash.start", "jalousie/hash.rounds"], apart := false, laid := [("jalousie/hash.start", laid_jalousie_hash_start), ("jalousie/hash.rounds", laid_jalousie_hash_rounds)], narrowed := true }
def HashGoesUptoSaid : Prop := hashGoesUptoRow.holds Tryd.pinned (OpenSpec.upto hashGoesSpec)

/-- 'jalousielaw01.HashSums', WHERE WHAT IT READS IS OF BULK AT MOST 1048576: true; the input reads as it did. -/
def hashSumsUptoRow : OpenClaim := { program := "ytggbmajajpafnaadoor", sum := "190a628e30fb5b661575e2084ce376fc95d8b0702ace3607d4bcfe844adec564", func := "jalousie/jalousielaw01.HashSums", spec := "hashSums", named := ["jalousie/hash.start", "jalousie/hash.rounds", "jalousie/jalousieref01.words"], apart := false, laid := [("jalousie/jalousieref01.words", laid_jalousie_jalousieref01_words), ("jalousie/hash.start", laid_jalousie_hash_start), ("jalousie/hash.rounds", laid_jalousie_hash_rounds)], narrowed := true }
def HashSumsUptoSaid : Prop := hashSumsUptoRow.holds Tryd.pinned (OpenSpec.upto hashSumsSpec)

/-- 'jalousielaw01.HashMacs', WHERE WHAT IT READS IS OF BULK AT MOST 1048576: true; the input reads as it did. -/
def hashMacsUptoRow : OpenClaim := { program := "ytggbmajajpafnaadoor", sum := "190a628e30fb5b661575e2084ce376fc95d8b0702ace3607d4bcfe844adec564", func := "jalousie/jalousielaw01.HashMacs", spec := "hashMacs", named := ["jalousie/hash.start", "jalousie/hash.rounds", "jalousie/jalousieref01.words"], apart := false, laid := [("jalousie/jalousieref01.words", laid_jalousie_jalousieref01_words), ("jalousie/hash.start", laid_jalousie_hash_start), ("jalousie/hash.rounds", laid_jalousie_hash_rounds)], narrowed := true }
def HashMacsUptoSaid : Prop := hashMacsUptoRow.holds Tryd.pinned (OpenSpec.upto hashMacsSpec)

/-- 'jalousielaw01.HashExpands', WHERE WHAT IT READS IS OF BULK AT MOST 1048576: true; the input reads as it did. -/
def hashExpandsUptoRow : OpenClaim := { program := "ytggbmajajpafnaadoor", sum := "190a628e30fb5b661575e2084ce376fc95d8b0702ace3607d4bcfe844adec564", func := "jalousie/jalousielaw01.HashExpands", spec := "hashExpands", named := ["jalousie/hash.start", "jalousie/hash.rounds", "jalousie/jalousieref01.words"], apart := false, laid := [("jalousie/jalousieref01.words", laid_jalousie_jalousieref01_words), ("jalousie/hash.start", laid_jalousie_hash_start), ("jalousie/hash.rounds", laid_jalousie_hash_rounds)], narrowed := true }
def HashExpandsUptoSaid : Prop := hashExpandsUptoRow.holds Tryd.pinned (OpenSpec.upto hashExpandsSpec)

/-- 'jalousielaw01.HashParts', WHERE WHAT IT READS IS OF BULK AT MOST 1048576: true; the input reads as it did. -/
def hashPartsUptoRow : OpenClaim := { program := "ytggbmajajpafnaadoor", sum := "190a628e30fb5b661575e2084ce376fc95d8b0702ace3607d4bcfe844adec564", func := "jalousie/jalousielaw01.HashParts", spec := "hashParts", named := ["jalousie/hash.start", "jalousie/hash.rounds"], apart := false, laid := [("jalousie/hash.start", laid_jalousie_hash_start), ("jalousie/hash.rounds", laid_jalousie_hash_rounds)], narrowed := true }
def HashPartsUptoSaid : Prop := hashPartsUptoRow.holds Tryd.pinned (OpenSpec.upto hashPartsSpec)

/-- 'jalousielaw01.HashOwn', WHERE WHAT IT READS IS OF BULK AT MOST 1048576: true; the input reads as it did. -/
def hashOwnUptoRow : OpenClaim := { program := "ytggbmajajpafnaadoor", sum := "190a628e30fb5b661575e2084ce376fc95d8b0702ace3607d4bcfe844adec564", func := "jalousie/jalousielaw01.HashOwn", spec := "hashOwn", named := ["jalousie/hash.start", "jalousie/hash.rounds"], apart := false, laid := [("jalousie/hash.start", laid_jalousie_hash_start), ("jalousie/hash.rounds", laid_jalousie_hash_rounds)], narrowed := true }
def HashOwnUptoSaid : Prop := hashOwnUptoRow.holds Tryd.pinned (OpenSpec.upto hashOwnSpec)

end Rows
end Go.Proofs.YtggbmajajpafnaaDoor
