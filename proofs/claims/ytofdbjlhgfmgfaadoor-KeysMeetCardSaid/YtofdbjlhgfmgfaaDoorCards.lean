/-
  DERIVED. GIVEN WITH THE SEED: THE CARDS: each row of YtofdbjlhgfmgfaaDoorRows.lean that lists a variable, with what it lists TIED to the program's text (the seventh form; the later family's looks); each row that meets fmt, with fmt's text TOLD by the authors' own Lean function (tested against real Go, not proved from fmt's source: count such statements apart). THE CARD IS WHAT COUNTS. Prove the row's statement (the work); the ties are given (YtofdbjlhgfmgfaaDoorTie.lean); close each card by the builder's one call (the guide's Derived/Test/ToyasCard.lean, 'card_holds'). Laid BY PROGRAM, IN A SANDBOX (cutbox-door.mjs). By AI agents, Wed Nov 11 2026. No macro, syntax, notation, axiom, sorry.
-/
import Derived.Test.YtofdbjlhgfmgfaaDoorRows
import GoSem.ClaimSeven
namespace Go.Proofs.YtofdbjlhgfmgfaaDoor
namespace Rows

/-- THE TIED CARD OF 'jalousielaw11.KeysOrder'. -/
def keysOrderCard : Claim7 := { stood := { row := keysOrderRow, standIns := [], harness := (true, "6e5629a693540dbbb18620bcfa00bb3ca1dac79aa1c5601c3326033680e00011"), looks := true }, kinds := [], alts := [], laidByText := true, laidKinds := [.data, .data], laidTests := true, laidLooks := .later }
def KeysOrderCardSaid : Prop := Claim7.holds Tryd.pinned (.plain (OpenSpec.ofChange keysOrderSpec)) keysOrderCard

/-- THE TIED CARD OF 'jalousielaw11.KeysSets'. -/
def keysSetsCard : Claim7 := { stood := { row := keysSetsRow, standIns := [], harness := (true, "6e5629a693540dbbb18620bcfa00bb3ca1dac79aa1c5601c3326033680e00011"), looks := true }, kinds := [], alts := [], laidByText := true, laidKinds := [.data, .data, .data], laidTests := true, laidLooks := .later }
def KeysSetsCardSaid : Prop := Claim7.holds Tryd.pinned (.plain (OpenSpec.ofChange keysSetsSpec)) keysSetsCard

/-- THE TIED CARD OF 'jalousielaw11.KeysTokens'. -/
def keysTokensCard : Claim7 := { stood := { row := keysTokensRow, standIns := [], harness := (true, "6e5629a693540dbbb18620bcfa00bb3ca1dac79aa1c5601c3326033680e00011"), looks := true }, kinds := [], alts := [], laidByText := true, laidKinds := [.data, .data, .data], laidTests := true, laidLooks := .later }
def KeysTokensCardSaid : Prop := Claim7.holds Tryd.pinned (.plain (OpenSpec.ofChange keysTokensSpec)) keysTokensCard

/-- THE TIED CARD OF 'jalousielaw11.KeysMeet'. -/
def keysMeetCard : Claim7 := { stood := { row := keysMeetRow, standIns := [], harness := (true, "6e5629a693540dbbb18620bcfa00bb3ca1dac79aa1c5601c3326033680e00011"), looks := true }, kinds := [], alts := [], laidByText := true, laidKinds := [.data, .data], laidTests := true, laidLooks := .later }
def KeysMeetCardSaid : Prop := Claim7.holds Tryd.pinned (.plain (OpenSpec.ofChange keysMeetSpec)) keysMeetCard

/-- THE TIED CARD OF 'jalousielaw11.KeysSlots'. -/
def keysSlotsCard : Claim7 := { stood := { row := keysSlotsRow, standIns := [], harness := (true, "6e5629a693540dbbb18620bcfa00bb3ca1dac79aa1c5601c3326033680e00011"), looks := true }, kinds := [], alts := [], laidByText := true, laidKinds := [.data, .data, .handle], laidTests := true, laidLooks := .later }
def KeysSlotsCardSaid : Prop := Claim7.holds Tryd.pinned (.plain (OpenSpec.ofChange keysSlotsSpec)) keysSlotsCard

/-- THE TIED CARD OF 'jalousielaw11.KeysLong'. -/
def keysLongCard : Claim7 := { stood := { row := keysLongRow, standIns := [], harness := (true, "6e5629a693540dbbb18620bcfa00bb3ca1dac79aa1c5601c3326033680e00011"), looks := true }, kinds := [], alts := [], laidByText := true, laidKinds := [.data, .data, .handle], laidTests := true, laidLooks := .later }
def KeysLongCardSaid : Prop := Claim7.holds Tryd.pinned (.plain (OpenSpec.ofChange keysLongSpec)) keysLongCard

/-- THE SECOND FORM's CARD OF 'jalousielaw11.KeysOrder'. -/
def keysOrderUptoCard : Claim7 := { stood := { row := keysOrderUptoRow, standIns := [], harness := (true, "6e5629a693540dbbb18620bcfa00bb3ca1dac79aa1c5601c3326033680e00011"), looks := true }, kinds := [], alts := [], laidByText := true, laidKinds := [.data, .data], laidTests := true, laidLooks := .later }
def KeysOrderUptoCardSaid : Prop := Claim7.holds Tryd.pinned (.plain (OpenSpec.upto keysOrderSpec)) keysOrderUptoCard

/-- THE SECOND FORM's CARD OF 'jalousielaw11.KeysSets'. -/
def keysSetsUptoCard : Claim7 := { stood := { row := keysSetsUptoRow, standIns := [], harness := (true, "6e5629a693540dbbb18620bcfa00bb3ca1dac79aa1c5601c3326033680e00011"), looks := true }, kinds := [], alts := [], laidByText := true, laidKinds := [.data, .data, .data], laidTests := true, laidLooks := .later }
def KeysSetsUptoCardSaid : Prop := Claim7.holds Tryd.pinned (.plain (OpenSpec.upto keysSetsSpec)) keysSetsUptoCard

/-- THE SECOND FORM's CARD OF 'jalousielaw11.KeysTokens'. -/
def keysTokensUptoCard : Claim7 := { stood := { row := keysTokensUptoRow, standIns := [], harness := (true, "6e5629a693540dbbb18620bcfa00bb3ca1dac79aa1c5601c3326033680e00011"), looks := true }, kinds := [], alts := [], laidByText := true, laidKinds := [.data, .data, .data], laidTests := true, laidLooks := .later }
def KeysTokensUptoCardSaid : Prop := Claim7.holds Tryd.pinned (.plain (OpenSpec.upto keysTokensSpec)) keysTokensUptoCard

/-- THE SECOND FORM's CARD OF 'jalousielaw11.KeysMeet'. -/
def keysMeetUptoCard : Claim7 := { stood := { row := keysMeetUptoRow, standIns := [], harness := (true, "6e5629a693540dbbb18620bcfa00bb3ca1dac79aa1c5601c3326033680e00011"), looks := true }, kinds := [], alts := [], laidByText := true, laidKinds := [.data, .data], laidTests := true, laidLooks := .later }
def KeysMeetUptoCardSaid : Prop := Claim7.holds Tryd.pinned (.plain (OpenSpec.upto keysMeetSpec)) keysMeetUptoCard

/-- THE SECOND FORM's CARD OF 'jalousielaw11.KeysSlots'. -/
def keysSlotsUptoCard : Claim7 := { stood := { row := keysSlotsUptoRow, standIns := [], harness := (true, "6e5629a693540dbbb18620bcfa00bb3ca1dac79aa1c5601c3326033680e00011"), looks := true }, kinds := [], alts := [], laidByText := true, laidKinds := [.data, .data, .handle], laidTests := true, laidLooks := .later }
def KeysSlotsUptoCardSaid : Prop := Claim7.holds Tryd.pinned (.plain (OpenSpec.upto keysSlotsSpec)) keysSlotsUptoCard

/-- THE SECOND FORM's CARD OF 'jalousielaw11.KeysLong'. -/
def keysLongUptoCard : Claim7 := { stood := { row := keysLongUptoRow, standIns := [], harness := (true, "6e5629a693540dbbb18620bcfa00bb3ca1dac79aa1c5601c3326033680e00011"), looks := true }, kinds := [], alts := [], laidByText := true, laidKinds := [.data, .data, .handle], laidTests := true, laidLooks := .later }
def KeysLongUptoCardSaid : Prop := Claim7.holds Tryd.pinned (.plain (OpenSpec.upto keysLongSpec)) keysLongUptoCard
end Rows
end Go.Proofs.YtofdbjlhgfmgfaaDoor
