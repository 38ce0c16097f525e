import Derived.Test.YtemmodflhoahkaaI2
import Derived.Deep.MidRow
import Derived.Test.YtemmodflhoahkaaHeld
namespace Go.Proofs.Ytemmodflhoahkaa
open Go.RowKit

theorem range_blk {w : World} {g t : Nat} {l : List Value} (h : Blk w g t l.toArray) : w.rangeAt g 0 l := by
  intro j v hj
  rw [Nat.zero_add, h.cell]
  simpa using hj
theorem range_keep {w w1 : World} {g : Nat} {l : List Value} (h : w.rangeAt g 0 l) (hb : Below w.heap.size w w1) : w1.rangeAt g 0 l := by
  intro j v hj
  have h1 := h j v hj
  rw [hb.cell (p := ⟨g, 0 + j, none⟩) (World.block_lt_of_cell? w _ h1)]
  exact h1
theorem sstep {g0 g1 g2 : Nat} {la lb lc : List Value} {w X w1 : World} (hg : g0 ≤ w.heap.size) (h : Below g0 w X ∧ X.rangeAt g0 0 la ∧ X.rangeAt g1 0 lb ∧ X.rangeAt g2 0 lc) (hb : Below X.heap.size X w1) :
    Below g0 w w1 ∧ w1.rangeAt g0 0 la ∧ w1.rangeAt g1 0 lb ∧ w1.rangeAt g2 0 lc :=
  ⟨h.1.trans (hb.mono (Nat.le_trans hg h.1.size)), range_keep h.2.1 hb, range_keep h.2.2.1 hb, range_keep h.2.2.2 hb⟩
def hdr (T : Int) : List Value := [.int .i64 0, .int .u64 0, .int .u8 0, .int .u8 0, .int .u8 0, .int .u8 0, .int .u8 0, .int .u8 0, .int .u8 0, .int .u8 0, .int .u8 0, .int .u8 0, .int .u8 0, .int .u8 0, .int .u8 0, .int .u8 0, .int .u8 0, .int .u8 0, .int .u8 0, .int .u8 0, .int .u8 0, .int .u8 0, .int .u8 0, .int .u8 0, .int .u8 0, .int .u8 0, .int .u8 0, .int .u8 0, .int .u8 0, .int .u8 0, .int .u8 0, .int .u8 0, .int .u8 0, .int .u8 0, .int .i64 0, .bool false, .int .u64 T, .int .u8 0, .int .u8 0, .int .u8 0, .int .u8 0, .int .u8 0, .int .u8 0, .int .u8 0, .int .u8 0, .int .u8 0, .int .u8 0, .int .u8 0, .int .u8 0, .int .u8 0, .int .u8 0, .int .u8 0, .int .u8 0, .slice none 0 0, .int .u64 0, .int .u64 0, .int .u64 0, .int .u64 0, .int .u64 0, .int .u64 0, .int .u8 0, .int .u8 0, .int .u8 0, .int .u8 0, .int .u8 0, .int .u8 0, .int .u8 0, .int .u8 0, .int .u8 0, .int .u8 0, .int .u8 0, .int .u8 0, .int .u8 0, .int .u8 0, .int .u8 0, .int .u8 0, .int .u8 0, .int .u8 0, .int .u8 0, .int .u8 0, .int .u8 0, .int .u8 0, .int .u8 0, .int .u8 0, .int .u8 0, .int .u8 0, .int .u8 0, .int .u8 0, .int .u8 0, .int .u8 0, .int .u8 0, .int .u8 0, .int .i64 0, .int .u8 0, .int .u8 0, .int .u8 0, .int .u8 0, .int .u8 0, .int .u8 0, .int .u8 0, .int .u8 0, .int .u8 0, .int .u8 0, .int .u8 0, .int .u8 0, .int .u8 0, .int .u8 0, .int .u8 0, .int .u8 0, .int .u8 0, .int .u8 0, .int .u8 0, .int .u8 0, .int .u8 0, .int .u8 0, .int .u8 0, .int .u8 0, .int .u8 0, .int .u8 0, .int .u8 0, .int .u8 0, .int .u8 0, .int .u8 0, .int .u8 0, .int .u8 0]
theorem hd_hdr (T : Int) : Hd (hdr T).toArray 0 0 T := ⟨rfl, rfl, rfl, rfl⟩
theorem later_late (ca cb : Array Value) (a b c x y z : Int) (ha : Hd ca a b c) (hb : Hd cb x y z) (w : World) :
    Calls Try.prog 4 #[.agg ca, .agg cb] w fun e w' => e = .returned (.bool (late a b c x y z)) ∧ Below w.heap.size w w' := by
  have h := later_any ca cb a b c x y z ha hb w
  rw [late_ord] at h
  exact h
set_option maxRecDepth 100000 in
theorem awake_any (w : World) : Calls Try.prog 5 #[] w fun e w' => e = .returned (.bool true) ∧ Below w.heap.size w w' := by
  go_enter Try.func5, Try.ntmps5
  go_upto_region 1 with (fail)
  refine wp_region_list ?_
  refine wpL_value (.agg (hdr 2).toArray) w rfl (by kernel_rfl) ?_
  refine wpL_value (.agg (hdr 1).toArray) w rfl (by kernel_rfl) ?_
  refine wpL_call 4 #[.agg (hdr 2).toArray, .agg (hdr 1).toArray] rfl (by kernel_rfl) ((later_late _ _ _ _ _ _ _ _ (hd_hdr 2) (hd_hdr 1) w).mono ?_)
  rintro e w' ⟨rfl, hb⟩
  refine ⟨_, rfl, ?_⟩
  go_wp2_with fail
  go_ret
  exact ⟨rfl, hb⟩
def SS (g0 g1 g2 : Nat) (w : World) (la lb lc : List Value) (X : World) : Prop := Below g0 w X ∧ X.rangeAt g0 0 la ∧ X.rangeAt g1 0 lb ∧ X.rangeAt g2 0 lc
theorem SS.step {g0 g1 g2 : Nat} {la lb lc : List Value} {w X w1 : World} (h : SS g0 g1 g2 w la lb lc X) (hg : g0 ≤ w.heap.size) (hb : Below X.heap.size X w1) : SS g0 g1 g2 w la lb lc w1 := sstep hg h hb
theorem late_trans (a b c x y z p q r : Int) (h1 : late a b c x y z = true) (h2 : late x y z p q r = true) : late a b c p q r = true := by
  unfold late at *
  repeat' split at h1
  all_goals repeat' split at h2
  all_goals simp only [decide_eq_true_eq] at h1 h2
  all_goals (repeat' split) <;> simp only [decide_eq_true_eq] <;> omega
theorem late_asymm (a b c x y z : Int) (h1 : late a b c x y z = true) : late x y z a b c = false := by
  unfold late at *
  repeat' split at h1
  all_goals simp only [decide_eq_true_eq] at h1
  all_goals (repeat' split) <;> simp only [decide_eq_false_iff_not] <;> omega
end Go.Proofs.Ytemmodflhoahkaa
