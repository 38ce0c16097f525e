import Derived.Test.YtdhpgadhdgpbdaaG4
import Derived.Test.YtdhpgadhdgpbdaaHeld
namespace Go.Proofs.Ytdhpgadhdgpbdaa
open Go.RowKit

theorem range_blk {w : World} {g t : Nat} {l : List Value} (h : Blk w g t l.toArray) : w.rangeAt g 0 l := by
  intro j v hj
  rw [Nat.zero_add, h.cell]
  simpa using hj
def zg : Grp := ⟨0, 0, fun _ => false, fun _ => false, fun _ => 0, 0⟩
theorem awake_any (w : World) : Calls Try.prog 6 #[] w fun e w' => e = .returned (.bool true) ∧ Below w.heap.size w w' := by
  go_enter Try.func6, Try.ntmps6
  go_upto_region 1 with (fail)
  refine wp_region_lit ?_
  refine wpL_pure (.agg zg.cells.toArray) rfl (by kernel_rfl) ?_
  refine wpL_call 8 #[.agg zg.cells.toArray, .int .i64 2, .int .i64 1, .int .i64 0, .int .u64 0] rfl (by kernel_rfl) ((behind_any w zg 2 1 0 0 (by decide) (by decide) (by decide) (by decide)).mono ?_)
  rintro e w1 ⟨rfl, hb⟩
  refine ⟨_, rfl, ?_⟩
  have hg : behindG zg 2 1 0 0 = ⟨2, 1, upd (fun _ => false) 1 true, fun _ => false, fun _ => 0, 1⟩ := rfl
  rw [hg]
  have HB := Lib.hid hb
  clear hb hg
  obtain ⟨g, hg⟩ : ∃ g : Grp, g = ⟨2, 1, upd (fun _ => false) 1 true, fun _ => false, fun _ => 0, 1⟩ := ⟨_, rfl⟩
  rw [← hg]
  have HG := Lib.hid hg
  clear hg
  have KI : Hid (∀ w, Calls Try.prog 12 #[.agg g.cells.toArray, .int .i64 2] w fun e w' => e = .returned (.bool true) ∧ Below w.heap.size w w') := Lib.hid (fun w => by
    have h := is_yes w g 1 (by omega)
    rw [HG.out] at h ⊢
    exact h)
  have GO : Hid (g.o = 2) := Lib.hid (by rw [HG.out])
  have GE : Hid (g.e = 1) := Lib.hid (by rw [HG.out])
  clear HG
  have bn : Blk (w1.alloc (.cells #[.int .i64 0, .int .i64 0, .bool false, .bool false, .bool false, .bool false, .bool false, .bool false, .bool false, .bool false, .bool false, .bool false, .bool false, .bool false, .int .u64 0, .int .u64 0, .int .u64 0, .int .u64 0, .int .u64 0, .int .u64 0, .int .i64 0] 28)) w1.heap.size 28 #[.int .i64 0, .int .i64 0, .bool false, .bool false, .bool false, .bool false, .bool false, .bool false, .bool false, .bool false, .bool false, .bool false, .bool false, .bool false, .int .u64 0, .int .u64 0, .int .u64 0, .int .u64 0, .int .u64 0, .int .u64 0, .int .i64 0] := Blk.new _ _ _
  have BN := Lib.hid bn
  clear bn
  go_upto_region 2 with (refine wpList_store_row rfl 28 _ _ rfl w1.heap.size _ rfl rfl 28 _ BN.out (sizeG _) rfl (one_cells _) ?_)
  obtain ⟨W, hW⟩ : ∃ V, V = (w1.alloc (.cells #[.int .i64 0, .int .i64 0, .bool false, .bool false, .bool false, .bool false, .bool false, .bool false, .bool false, .bool false, .bool false, .bool false, .bool false, .bool false, .int .u64 0, .int .u64 0, .int .u64 0, .int .u64 0, .int .u64 0, .int .u64 0, .int .i64 0] 28)).setRow w1.heap.size g.cells.toArray := ⟨_, rfl⟩
  rw [← hW]
  have hrow : IsG W w1.heap.size g := by rw [hW]; exact setRow_heap _ _ _ _ _ _ BN.out
  have hbw : Below w.heap.size w W := by rw [hW]; exact below_setRow (HB.out.alloc HB.out.size _) HB.out.size _
  have HR := Lib.hid hrow
  have BW := Lib.hid hbw
  have LT : Hid (w.heap.size ≤ W.heap.size) := Lib.hid hbw.size
  have co : W.cell? ⟨w1.heap.size, 0, none⟩ = some (.int .i64 g.o) := hrow.o
  have ce : W.cell? ⟨w1.heap.size, 1, none⟩ = some (.int .i64 g.e) := hrow.e
  rw [GO.out] at co
  rw [GE.out] at ce
  clear hW BN hrow hbw HB
  generalize w1.heap.size = b at *
  go_wp2_with (refine wpL_load 28 _ rfl (by rfl) b 0 rfl g.cells _ (range_blk HR.out) Try.underlying28 rfl (sizeG _) ?_)
  refine (KI.out _).mono ?_
  rintro e w2 ⟨rfl, hb2⟩
  have B2 : Hid (Below w.heap.size w w2) := Lib.hid (BW.out.trans (hb2.mono LT.out))
  clear hb2
  go_wp2_with fail
  go_ret
  exact ⟨rfl, B2.out⟩
end Go.Proofs.Ytdhpgadhdgpbdaa
