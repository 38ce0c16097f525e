import Derived.Test.YtfhjfpgfbeiacaaDoorCards
import Derived.Test.YtfhjfpgfbeiacaaDoorTie
import Derived.Test.YtfhjfpgfbeiacaaDoorHaTab
import Derived.WalkKit
import Derived.ProofKit
import Derived.OpenShut
import Derived.Deep.DeepHandedRow
import Derived.Lib.LaidTab
import Derived.Stop.LaidErr
namespace Go.Proofs.YtfhjfpgfbeiacaaDoor
open Go Go.RowKit Ha

theorem g0 : Tryd.prog.globalNamed "jalousie/jalousieref01.words" = some 1 := by kernel_rfl
theorem g1 : Tryd.prog.globalNamed "jalousie/hash.start" = some 0 := by kernel_rfl
theorem g2 : Tryd.prog.globalNamed "jalousie/hash.rounds" = some 3 := by kernel_rfl
theorem g0t : (Tryd.prog.globals[1]?).map (·.type) = some 126 := by kernel_rfl
theorem g1t : (Tryd.prog.globals[0]?).map (·.type) = some 95 := by kernel_rfl
theorem g2t : (Tryd.prog.globals[3]?).map (·.type) = some 126 := by kernel_rfl
theorem c48 : Tryd.prog.cellsOf 94 = 1 := by kernel_rfl
theorem c49 : Tryd.prog.cellsOf 95 = 8 := by kernel_rfl
theorem c50 : Tryd.prog.cellsOf 126 = 64 := by kernel_rfl
def hhI : List Int := hh0.map Int.ofNat
def kkI : List Int := kk.map Int.ofNat
theorem st_eq : (Rows.laid_jalousie_hash_start : DataW Unit) = Lib.tabData .u32 hhI := by kernel_rfl
theorem ro_eq : (Rows.laid_jalousie_hash_rounds : DataW Unit) = Lib.tabData .u32 kkI := by kernel_rfl
theorem wo_eq : (Rows.laid_jalousie_jalousieref01_words : DataW Unit) = Lib.tabData .u32 kkI := by kernel_rfl
theorem getD_ofNat (l : List Nat) (i : Nat) : (l.map Int.ofNat).getD i 0 = ((l.getD i 0 : Nat) : Int) := by
  simp only [List.getD, List.getElem?_map]
  cases l[i]? <;> rfl
theorem tabs2 {W : World} (h : laidMet Tryd.prog [("jalousie/hash.start", Rows.laid_jalousie_hash_start), ("jalousie/hash.rounds", Rows.laid_jalousie_hash_rounds)] W) : TabK W ∧ TabH W := by
  have h2 := h.tail
  rw [ro_eq] at h2
  rw [st_eq] at h
  have a := Lib.tabIs_of_head g1 g1t Tryd.underlying95 Tryd.underlying94 c48 c49 h
  have b := Lib.tabIs_of_head g2 g2t Tryd.underlying126 Tryd.underlying94 c48 c50 h2
  refine ⟨fun i hi => ?_, fun i hi => ?_⟩
  · rw [← getD_ofNat]; exact b.cell g2 i (by simpa [kkI, show kk.length = 64 from rfl] using hi)
  · rw [← getD_ofNat]; exact a.cell g1 i (by simpa [hhI, show hh0.length = 8 from rfl] using hi)
theorem tabs3 {W : World} (h : laidMet Tryd.prog [("jalousie/jalousieref01.words", Rows.laid_jalousie_jalousieref01_words), ("jalousie/hash.start", Rows.laid_jalousie_hash_start), ("jalousie/hash.rounds", Rows.laid_jalousie_hash_rounds)] W) : TabK W ∧ TabH W ∧ TabW W := by
  have h2 := tabs2 h.tail
  rw [wo_eq] at h
  have a := Lib.tabIs_of_head g0 g0t Tryd.underlying126 Tryd.underlying94 c48 c50 h
  exact ⟨h2.1, h2.2, fun i hi => by rw [← getD_ofNat]; exact a.cell g0 i (by simpa [kkI, show kk.length = 64 from rfl] using hi)⟩
def putTab (h : Array Obj) (i : Nat) (cs : Array Value) : Array Obj := h.modify i fun o => match o with
  | .cells _ t frozen => .cells cs t frozen
  | o => o
noncomputable def laidWorld (os : Os) : World :=
  { World.holding Tryd.prog os ⟨#[], #[], []⟩ with heap := putTab (putTab (putTab (World.holding Tryd.prog os ⟨#[], #[], []⟩).heap 1 (kkI.map (Value.int .u32)).toArray) 0 (hhI.map (Value.int .u32)).toArray) 3 (kkI.map (Value.int .u32)).toArray }
end Go.Proofs.YtfhjfpgfbeiacaaDoor
