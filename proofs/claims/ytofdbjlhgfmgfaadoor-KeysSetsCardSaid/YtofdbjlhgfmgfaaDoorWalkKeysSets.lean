/- 'KeysSets', from its arguments. -/
import Derived.Test.YtofdbjlhgfmgfaaDoorK6
import Derived.Test.YtofdbjlhgfmgfaaDoorOpen
namespace Go.Proofs.YtofdbjlhgfmgfaaDoor
open Go Go.RowKit
theorem two_list {l : List Int} (h : l.length = 2) : ∃ x y, l = [x, y] := by
  match l, h with
  | [x, y], _ => exact ⟨x, y, rfl⟩
theorem walkKeysSets (xs ys zs : List Int) (lx : xs.length = 32) (wx : ∀ x ∈ xs, (Lit.int .u8 x).wf = true) (ly : ys.length = 32) (wy : ∀ x ∈ ys, (Lit.int .u8 x).wf = true) (lz : zs.length = 2) (_ : ∀ x ∈ zs, (Lit.int .i64 x).wf = true) (w : World) (tabs : Ha.TabK w ∧ Ha.TabH w ∧ Ha.TabW w) :
    Calls Tryd.prog 4 #[.agg (xs.map (Value.int .u8)).toArray, .agg (ys.map (Value.int .u8)).toArray, .agg (zs.map (Value.int .i64)).toArray] w fun e w' => e = .returned (.bool true) ∧ Below w.heap.size w w' := by
  obtain ⟨x, y, rfl⟩ := two_list lz
  exact Ha.sets_any w xs ys x y lx (fun v hv => by have := bounds_u8 (wx v hv); omega) ly (fun v hv => by have := bounds_u8 (wy v hv); omega) tabs.1 tabs.2.1 tabs.2.2
end Go.Proofs.YtofdbjlhgfmgfaaDoor
