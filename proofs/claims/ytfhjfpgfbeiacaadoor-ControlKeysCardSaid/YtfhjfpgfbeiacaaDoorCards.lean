/-
  DERIVED. GIVEN WITH THE SEED: THE CARDS: each row of YtfhjfpgfbeiacaaDoorRows.lean that lists a variable, with what it lists TIED to the program's text (the seventh form; the later family's looks); each row that meets fmt, with fmt's text TOLD by the authors' own Lean function (tested against real Go, not proved from fmt's source: count such statements apart). THE CARD IS WHAT COUNTS. Prove the row's statement (the work); the ties are given (YtfhjfpgfbeiacaaDoorTie.lean); close each card by the builder's one call (the guide's Derived/Test/ToyasCard.lean, 'card_holds'). Laid BY PROGRAM, IN A SANDBOX (cutbox-door.mjs). By AI agents, Wed Nov 11 2026. No macro, syntax, notation, axiom, sorry.
-/
import Derived.Test.YtfhjfpgfbeiacaaDoorRows
import GoSem.ClaimSeven
namespace Go.Proofs.YtfhjfpgfbeiacaaDoor
namespace Rows

/-- THE TIED CARD OF 'jalousielaw16.ControlKeys'. -/
def controlKeysCard : Claim7 := { stood := { row := controlKeysRow, standIns := [], harness := (true, "d9dbf0f93d05af71344dfbf1120dce3b42f9d7f83e47337f4ccb792dfc3a98b5"), looks := true }, kinds := [], alts := [], laidByText := true, laidKinds := [.data, .data, .data], laidTests := true, laidLooks := .later }
def ControlKeysCardSaid : Prop := Claim7.holds Tryd.pinned (.plain (OpenSpec.ofChange controlKeysSpec)) controlKeysCard

/-- THE TIED CARD OF 'jalousielaw16.ControlBytes'. -/
def controlBytesCard : Claim7 := { stood := { row := controlBytesRow, standIns := [], harness := (true, "d9dbf0f93d05af71344dfbf1120dce3b42f9d7f83e47337f4ccb792dfc3a98b5"), looks := true }, kinds := [], alts := [], laidByText := true, laidKinds := [.data, .data], laidTests := true, laidLooks := .later }
def ControlBytesCardSaid : Prop := Claim7.holds Tryd.pinned (.plain (OpenSpec.ofChange controlBytesSpec)) controlBytesCard

/-- THE TIED CARD OF 'jalousielaw16.ControlParses'. -/
def controlParsesCard : Claim7 := { stood := { row := controlParsesRow, standIns := [], harness := (true, "d9dbf0f93d05af71344dfbf1120dce3b42f9d7f83e47337f4ccb792dfc3a98b5"), looks := true }, kinds := [], alts := [], laidByText := true, laidKinds := [.data, .data], laidTests := true, laidLooks := .later }
def ControlParsesCardSaid : Prop := Claim7.holds Tryd.pinned (.plain (OpenSpec.ofChange controlParsesSpec)) controlParsesCard

/-- THE TIED CARD OF 'jalousielaw16.ControlSlots'. -/
def controlSlotsCard : Claim7 := { stood := { row := controlSlotsRow, standIns := [], harness := (true, "d9dbf0f93d05af71344dfbf1120dce3b42f9d7f83e47337f4ccb792dfc3a98b5"), looks := true }, kinds := [], alts := [], laidByText := true, laidKinds := [.data, .data, .handle], laidTests := true, laidLooks := .later }
def ControlSlotsCardSaid : Prop := Claim7.holds Tryd.pinned (.plain (OpenSpec.ofChange controlSlotsSpec)) controlSlotsCard

/-- THE TIED CARD OF 'jalousielaw16.ControlHands'. -/
def controlHandsCard : Claim7 := { stood := { row := controlHandsRow, standIns := [], harness := (true, "d9dbf0f93d05af71344dfbf1120dce3b42f9d7f83e47337f4ccb792dfc3a98b5"), looks := true }, kinds := [], alts := [], laidByText := true, laidKinds := [.data, .data, .handle], laidTests := true, laidLooks := .later }
def ControlHandsCardSaid : Prop := Claim7.holds Tryd.pinned (.plain (OpenSpec.ofChange controlHandsSpec)) controlHandsCard

/-- THE SECOND FORM's CARD OF 'jalousielaw16.ControlKeys'. -/
def controlKeysUptoCard : Claim7 := { stood := { row := controlKeysUptoRow, standIns := [], harness := (true, "d9dbf0f93d05af71344dfbf1120dce3b42f9d7f83e47337f4ccb792dfc3a98b5"), looks := true }, kinds := [], alts := [], laidByText := true, laidKinds := [.data, .data, .data], laidTests := true, laidLooks := .later }
def ControlKeysUptoCardSaid : Prop := Claim7.holds Tryd.pinned (.plain (OpenSpec.upto controlKeysSpec)) controlKeysUptoCard

/-- THE SECOND FORM's CARD OF 'jalousielaw16.ControlBytes'. -/
def controlBytesUptoCard : Claim7 := { stood := { row := controlBytesUptoRow, standIns := [], harness := (true, "d9dbf0f93d05af71344dfbf1120dce3b42f9d7f83e47337f4ccb792dfc3a98b5"), looks := true }, kinds := [], alts := [], laidByText := true, laidKinds := [.data, .data], laidTests := true, laidLooks := .later }
def ControlBytesUptoCardSaid : Prop := Claim7.holds Tryd.pinned (.plain (OpenSpec.upto controlBytesSpec)) controlBytesUptoCard

/-- THE SECOND FORM's CARD OF 'jalousielaw16.ControlParses'. -/
def controlParsesUptoCard : Claim7 := { stood := { row := controlParsesUptoRow, standIns := [], harness := (true, "d9dbf0f93d05af71344dfbf1120dce3b42f9d7f83e47337f4ccb792dfc3a98b5"), looks := true }, kinds := [], alts := [], laidByText := true, laidKinds := [.data, .data], laidTests := true, laidLooks := .later }
def ControlParsesUptoCardSaid : Prop := Claim7.holds Tryd.pinned (.plain (OpenSpec.upto controlParsesSpec)) controlParsesUptoCard

/-- THE SECOND FORM's CARD OF 'jalousielaw16.ControlSlots'. -/
def controlSlotsUptoCard : Claim7 := { stood := { row := controlSlotsUptoRow, standIns := [], harness := (true, "d9dbf0f93d05af71344dfbf1120dce3b42f9d7f83e47337f4ccb792dfc3a98b5"), looks := true }, kinds := [], alts := [], laidByText := true, laidKinds := [.data, .data, .handle], laidTests := true, laidLooks := .later }
def ControlSlotsUptoCardSaid : Prop := Claim7.holds Tryd.pinned (.plain (OpenSpec.upto controlSlotsSpec)) controlSlotsUptoCard

/-- THE SECOND FORM's CARD OF 'jalousielaw16.ControlHands'. -/
def controlHandsUptoCard : Claim7 := { stood := { row := controlHandsUptoRow, standIns := [], harness := (true, "d9dbf0f93d05af71344dfbf1120dce3b42f9d7f83e47337f4ccb792dfc3a98b5"), looks := true }, kinds := [], alts := [], laidByText := true, laidKinds := [.data, .data, .handle], laidTests := true, laidLooks := .later }
def ControlHandsUptoCardSaid : Prop := Claim7.holds Tryd.pinned (.plain (OpenSpec.upto controlHandsSpec)) controlHandsUptoCard
end Rows
end Go.Proofs.YtfhjfpgfbeiacaaDoor
