/- 'KeysMeet', from its arguments. -/
import Derived.Test.YtofdbjlhgfmgfaaDoorK10
namespace Go.Proofs.YtofdbjlhgfmgfaaDoor
open Go Go.RowKit
theorem walkKeysMeet (a : Option Addr) (n c : Nat) (b : Option Addr) (m d : Nat) (w : World) (h0 : ∃ L, Ha.Toks w a n L) (h1 : ∃ L, Ha.Toks w b m L) (tabs : Ha.TabK w ∧ Ha.TabH w) :
    Calls Tryd.prog 6 #[.slice a n c, .slice b m d] w fun e w' => e = .returned (.bool true) ∧ Below w.heap.size w w' := by
  obtain ⟨L, hL⟩ := h0
  obtain ⟨M, hM⟩ := h1
  exact Ha.meets_any w a n c L b m d M hL hM tabs.1 tabs.2
end Go.Proofs.YtofdbjlhgfmgfaaDoor
