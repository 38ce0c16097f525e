/- The reference's disk: its fuse. -/
import Derived.Test.YticjpjbmjnalhaaF2
namespace Go.Proofs.Yticjpjbmjnalhaa
open Go Go.RowKit
set_option maxRecDepth 100000
/-- does a change go through? -/
def chB (fz : Int) (go : Bool) : Bool := !go && decide (fz ≠ 0)
/-- the fuse behind it. -/
def chF (fz : Int) (go : Bool) : Int := if chB fz go = true ∧ 0 < fz then fz - 1 else fz
def RL (vN vW vI : Value) (fz : Int) (go : Bool) : List Value := [vN, vW, vI, .int .i64 fz, .bool go]
theorem RL.setGone {w : World} {r : Nat} {vN vW vI : Value} {fz : Int} {go : Bool} (h : Blk w r 59 (RL vN vW vI fz go).toArray) (z : Bool) : Blk (w.setCell ⟨r, 4, none⟩ (.bool z)) r 59 (RL vN vW vI fz z).toArray := h.set 4 (.bool z)
theorem RL.setFuse {w : World} {r : Nat} {vN vW vI : Value} {fz : Int} {go : Bool} (h : Blk w r 59 (RL vN vW vI fz go).toArray) (z : Int) : Blk (w.setCell ⟨r, 3, none⟩ (.int .i64 z)) r 59 (RL vN vW vI z go).toArray := h.set 3 (.int .i64 z)
set_option maxHeartbeats 2000000 in
theorem change_any (w : World) (r : Nat) (vN vW vI : Value) (fz : Int) (go : Bool) (h : Blk w r 59 (RL vN vW vI fz go).toArray) (hf : -1 ≤ fz ∧ fz ≤ 9223372036854775807) :
    Calls Try.prog 33 #[.pointer (some ⟨r, 0, none⟩)] w fun e w' => e = .returned (.bool (chB fz go)) ∧ Blk w' r 59 (RL vN vW vI (chF fz go) (!chB fz go)).toArray ∧ w.grownBy w' (some r) := by
  have c3 : w.cell? ⟨r, 3, none⟩ = some (.int .i64 fz) := by rw [h.cell]; rfl
  have c4 : w.cell? ⟨r, 4, none⟩ = some (.bool go) := by rw [h.cell]; rfl
  have f3 : w.frozen? ⟨r, 3, none⟩ = false := h.free 3
  have f4 : w.frozen? ⟨r, 4, none⟩ = false := h.free 4
  have H := Lib.hid h
  have HF := Lib.hid hf
  clear h hf
  go_enter Try.func33, Try.ntmps33
  cases go
  · by_cases hz : fz = 0
    · subst hz
      go_wp2
      go_ret
      exact ⟨rfl, RL.setGone H.out true, gb_set (gb_refl _ _) _ _⟩
    · have b1 : chB fz false = true := by simp [chB, hz]
      by_cases hp : 0 < fz
      · have e1 : chF fz false = fz - 1 := by simp [chF, b1, hp]
        have hw : IntKind.i64.wrap (fz - 1) = fz - 1 := wrap_in _ (by have := HF.out; omega) (by have := HF.out; omega)
        rw [b1, e1]
        go_wp2
        go_ret
        exact ⟨rfl, RL.setFuse H.out (fz - 1), gb_set (gb_refl _ _) _ _⟩
      · have e1 : chF fz false = fz := by simp [chF, hp]
        rw [b1, e1]
        go_wp2
        go_ret
        exact ⟨rfl, H.out, gb_refl _ _⟩
  · have e1 : chF fz true = fz := by simp [chF, chB]
    rw [e1]
    go_wp2
    go_ret
    exact ⟨rfl, RL.setGone H.out true, gb_set (gb_refl _ _) _ _⟩
end Go.Proofs.Yticjpjbmjnalhaa
