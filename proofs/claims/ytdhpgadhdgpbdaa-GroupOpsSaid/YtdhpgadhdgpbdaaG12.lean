import Derived.Test.YtdhpgadhdgpbdaaG9
namespace Go.Proofs.Ytdhpgadhdgpbdaa
open Go.RowKit

theorem wrong_any (wr op mb : Int) (w : World) : Calls Try.prog 16 #[.int .i64 wr, .int .i64 op, .int .i64 mb] w fun e w' => e = .returned (.bool (!askedB wr op mb)) ∧ w = w' := by
  by_cases c2 : op = 2 ∨ op = 3 ∨ op = 5
  · by_cases a1 : wr < 1
    · rcases c2 with rfl | rfl | rfl
      all_goals
        go_enter Try.func16, Try.ntmps16
        go_wp2
        go_ret
        exact ⟨ret_bool (by simp [askedB, knownB]; try omega), rfl⟩
    by_cases a2 : 6 < wr
    · have a1' : decide (wr < 1) = false := by simpa using a1
      rcases c2 with rfl | rfl | rfl
      all_goals
        go_enter Try.func16, Try.ntmps16
        go_wp2
        go_ret
        exact ⟨ret_bool (by simp [askedB, knownB]; try omega), rfl⟩
    have a1' : decide (wr < 1) = false := by simpa using a1
    have a2' : decide (6 < wr) = false := by simpa using a2
    by_cases b1 : mb < 1
    · rcases c2 with rfl | rfl | rfl
      all_goals
        go_enter Try.func16, Try.ntmps16
        go_wp2
        go_ret
        exact ⟨ret_bool (by simp [askedB, knownB]; try omega), rfl⟩
    have b1' : decide (mb < 1) = false := by simpa using b1
    by_cases b2 : 6 < mb
    · rcases c2 with rfl | rfl | rfl
      all_goals
        go_enter Try.func16, Try.ntmps16
        go_wp2
        go_ret
        exact ⟨ret_bool (by simp [askedB, knownB]; try omega), rfl⟩
    have b2' : decide (6 < mb) = false := by simpa using b2
    rcases c2 with rfl | rfl | rfl
    all_goals
      go_enter Try.func16, Try.ntmps16
      go_wp2
      go_ret
      exact ⟨ret_bool (by simp [askedB, knownB]; try omega), rfl⟩
  · have n2 : (op == 2) = false := by simp; omega
    have n3 : (op == 3) = false := by simp; omega
    have n5 : (op == 5) = false := by simp; omega
    have C2 := Lib.hid c2
    clear c2
    by_cases a1 : wr < 1
    · go_enter Try.func16, Try.ntmps16
      go_wp2
      go_ret
      exact ⟨ret_bool (by simp [askedB, knownB]; omega), rfl⟩
    have a1' : decide (wr < 1) = false := by simpa using a1
    by_cases a2 : 6 < wr
    · go_enter Try.func16, Try.ntmps16
      go_wp2
      go_ret
      exact ⟨ret_bool (by simp [askedB, knownB]; omega), rfl⟩
    have a2' : decide (6 < wr) = false := by simpa using a2
    by_cases d1 : op < 1
    · go_enter Try.func16, Try.ntmps16
      go_wp2
      go_ret
      exact ⟨ret_bool (by simp [askedB, knownB]; omega), rfl⟩
    have d1' : decide (op < 1) = false := by simpa using d1
    by_cases d2 : 5 < op
    · go_enter Try.func16, Try.ntmps16
      go_wp2
      go_ret
      exact ⟨ret_bool (by simp [askedB, knownB]; omega), rfl⟩
    have d2' : decide (5 < op) = false := by simpa using d2
    have hop : op = 1 ∨ op = 4 := by have := C2.out; omega
    clear n2 n3 n5 C2 d1 d2 d1' d2'
    by_cases b0 : mb = 0
    · subst b0
      rcases hop with rfl | rfl
      all_goals
        go_enter Try.func16, Try.ntmps16
        go_wp2
        go_ret
        exact ⟨ret_bool (by simp [askedB, knownB]; try omega), rfl⟩
    · have b0' : (mb != 0) = true := by simpa using b0
      have B0 := Lib.hid b0
      clear b0
      rcases hop with rfl | rfl
      all_goals
        go_enter Try.func16, Try.ntmps16
        go_wp2
        go_ret
        exact ⟨ret_bool (by simp [askedB, knownB, B0.out]), rfl⟩
/-- the members, or who is gone, by value. -/
def six6 (M : Nat → Bool) : List Value := [.bool (M 0), .bool (M 1), .bool (M 2), .bool (M 3), .bool (M 4), .bool (M 5)]
theorem in_any (M : Nat → Bool) (k : Nat) (hk : k < 6) (w : World) : Calls Try.prog 17 #[.agg (six6 M).toArray, .int .i64 ((k : Int) + 1)] w fun e w' => e = .returned (.bool (M k)) ∧ Below w.heap.size w w' := by
  have k0 : (0 : Int) ≤ (k : Int) := by omega
  have k6 : (k : Int) < 6 := by omega
  have k1 : (1 : Int) ≤ (k : Int) + 1 := by omega
  have k2 : (k : Int) + 1 ≤ 6 := by omega
  have HK := Lib.hid hk
  clear hk
  go_enter Try.func17, Try.ntmps17
  go_upto_region 1 with (fail)
  obtain ⟨W, hW⟩ : ∃ V, V = w.alloc (.cells (six6 M).toArray 25) := ⟨_, rfl⟩
  rw [← hW]
  have hB : Blk W w.heap.size 25 (six6 M).toArray := by rw [hW]; exact Blk.new _ _ _
  have BW : Hid (Below w.heap.size w W) := Lib.hid (by rw [hW]; exact (Below.refl _ _).alloc (Nat.le_refl _) _)
  clear hW
  have cm : W.cell? ⟨w.heap.size, k, none⟩ = some (.bool (M k)) := by
    rcases six HK.out with rfl | rfl | rfl | rfl | rfl | rfl <;> exact Blk.cell hB _
  clear hB
  generalize hb : w.heap.size = b at *
  have EB := Lib.hid hb
  generalize hm : M k = m at cm
  have HM := Lib.hid hm
  clear hb hm
  cases m
  all_goals
    go_wp2
    go_ret
    exact ⟨ret_bool (by rw [HM.out]), by rw [EB.out]; exact BW.out⟩
end Go.Proofs.Ytdhpgadhdgpbdaa
