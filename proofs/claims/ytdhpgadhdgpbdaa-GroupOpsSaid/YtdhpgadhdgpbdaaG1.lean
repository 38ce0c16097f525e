import Derived.Test.YtdhpgadhdgpbdaaRows
import Derived.WalkKit
import Derived.WalkLawsBesides
import Derived.Deep.QuietTactic
import Derived.BigQuiet
import Derived.RegionTactic
import Derived.Deep.DeepCutAuto
import Derived.Deep.LoopGhost
import Derived.Laws.Rows
import Derived.Laws.Tables
import Derived.Outline
import Derived.Lib.Hide
namespace Go.Proofs.Ytdhpgadhdgpbdaa
open Go.RowKit

def knownB (x : Int) : Bool := decide (1 ≤ x ∧ x ≤ 6)
def askedB (wr op mb : Int) : Bool := knownB wr && decide (1 ≤ op ∧ op ≤ 5) && (if op = 2 ∨ op = 3 ∨ op = 5 then knownB mb else decide (mb = 0))
theorem ret_bool {a b : Bool} (h : a = b) : Ending.returned (.bool a) = .returned (.bool b) := by rw [h]
theorem ret_i64 {a b : Int} (h : a = b) : Ending.returned (.int .i64 a) = .returned (.int .i64 b) := by rw [h]

theorem known_any (x : Int) (w : World) : Calls Try.prog 15 #[.int .i64 x] w fun e w' => e = .returned (.bool (knownB x)) ∧ w = w' := by
  by_cases h1 : 1 ≤ x
  · go_enter Try.func15, Try.ntmps15
    go_wp2
    go_ret
    exact ⟨ret_bool (by unfold knownB; simp [h1]), rfl⟩
  · have h1' : decide (1 ≤ x) = false := by simpa using h1
    go_enter Try.func15, Try.ntmps15
    go_wp2
    go_ret
    exact ⟨ret_bool (by unfold knownB; simp; omega), rfl⟩
theorem asked_any (wr op mb : Int) (w : World) : Calls Try.prog 13 #[.int .i64 wr, .int .i64 op, .int .i64 mb] w fun e w' => e = .returned (.bool (askedB wr op mb)) ∧ w = w' := by
  have hk : askedB wr op mb = (knownB wr && decide (1 ≤ op ∧ op ≤ 5) && (if op = 2 ∨ op = 3 ∨ op = 5 then knownB mb else decide (mb = 0))) := rfl
  have HK := Lib.hid hk
  clear hk
  cases hw : knownB wr
  · have kw := known_any wr
    rw [hw] at kw
    rw [hw] at HK
    have KW := Lib.hid kw
    clear hw kw
    go_enter Try.func13, Try.ntmps13
    go_wp2_with (go_at_call 15; refine (KW.out _).mono ?_; rintro e w' ⟨rfl, rfl⟩)
    go_ret
    exact ⟨ret_bool (by rw [HK.out]; simp), rfl⟩
  · have kw := known_any wr
    rw [hw] at kw
    rw [hw] at HK
    have KW := Lib.hid kw
    clear hw kw
    by_cases h1 : op < 1
    · go_enter Try.func13, Try.ntmps13
      go_wp2_with (go_at_call 15; refine (KW.out _).mono ?_; rintro e w' ⟨rfl, rfl⟩)
      go_ret
      exact ⟨ret_bool (by rw [HK.out]; simp; omega), rfl⟩
    by_cases h2 : 5 < op
    · have h1' : decide (op < 1) = false := by simpa using h1
      go_enter Try.func13, Try.ntmps13
      go_wp2_with (go_at_call 15; refine (KW.out _).mono ?_; rintro e w' ⟨rfl, rfl⟩)
      go_ret
      exact ⟨ret_bool (by rw [HK.out]; simp; omega), rfl⟩
    have hop : op = 1 ∨ op = 2 ∨ op = 3 ∨ op = 4 ∨ op = 5 := by omega
    clear h1 h2
    rcases hop with rfl | rfl | rfl | rfl | rfl
    all_goals
      go_enter Try.func13, Try.ntmps13
      go_wp2_with (go_at_call 15; first | ((with_reducible refine (KW.out _).mono ?_); rintro e w' ⟨rfl, rfl⟩) | ((with_reducible refine (known_any mb _).mono ?_); rintro e w' ⟨rfl, rfl⟩))
      go_ret
      exact ⟨ret_bool (by rw [HK.out]; simp; try rfl), rfl⟩
end Go.Proofs.Ytdhpgadhdgpbdaa
