/- A disk's small calls. -/
import Derived.Test.YteabblmhcjpboaaDE1
namespace Go.Proofs.Yteabblmhcjpboaa.D
open Go Go.RowKit
variable {w : World} {b gs gm n c : Nat} {L : List (Int × List Int × Nat)} {S : List (List Int)} {fu go : Bool} {fz : Int}
/-- is there power for a change, and what is it then? -/
def mayB (fu : Bool) (fz : Int) (go : Bool) : Bool := !go && !(fu && decide (fz = 0))
def mayF (fu : Bool) (fz : Int) (go : Bool) : Int := if mayB fu fz go && fu then fz - 1 else fz
theorem DS.withB {w' : World} {fu' go' : Bool} {fz' : Int} (h : DS w b gs gm n L c S fu fz go) (q : w.grownBy w' (some b)) (hb : Blk w' b 62 #[.slice (some ⟨gs, 0, none⟩) n n, .map (some gm), .bool fu', .int .i64 fz', .bool go']) (h1 : fu' = true → 0 ≤ fz') (h2 : -9223372036854775808 ≤ fz' ∧ fz' ≤ 9223372036854775807) : DS w' b gs gm n L c S fu' fz' go' :=
  ⟨hb, h.2.1.grown q (by simpa using h.ne.1.symm), (q.block _ h.2.2.2.2.2.2.1 (by simpa using h.ne.2.1.symm)).trans h.2.2.1, h.2.2.2.1, h.2.2.2.2.1, h.2.2.2.2.2.1, Nat.lt_of_lt_of_le h.2.2.2.2.2.2.1 q.size, h.2.2.2.2.2.2.2.1, h1, h2⟩
theorem hasD (h : DS w b gs gm n L c S fu fz go) (i : Int) : Calls Try.prog 38 #[.pointer (some ⟨b, 0, none⟩), .int .i64 i] w fun e w' => e = .returned (.bool (decide (0 ≤ i ∧ i < (n : Int)))) ∧ w = w' := by
  have c0 := h.cells.1
  clear h
  go_enter Try.func38, Try.ntmps38
  by_cases h0 : 0 ≤ i
  · by_cases h1 : i < (n : Int)
    · go_wp2
      go_ret
      exact ⟨by simp [h0, h1], rfl⟩
    · go_wp2
      go_ret
      exact ⟨by simp [h0, h1], rfl⟩
  · go_wp2
    go_ret
    have hf : decide (0 ≤ i) = false := decide_eq_false (by omega)
    exact ⟨by rw [hf]; rfl, rfl⟩
theorem secD (h : DS w b gs gm n L c S fu fz go) : Calls Try.prog 29 #[.pointer (some ⟨b, 0, none⟩)] w fun e w' => e = .returned (.int .i64 (n : Int)) ∧ w = w' := by
  have c0 := h.cells.1
  clear h
  go_enter Try.func29, Try.ntmps29
  go_wp2
  go_ret
  exact ⟨rfl, rfl⟩
theorem mayD (h : DS w b gs gm n L c S fu fz go) : Calls Try.prog 39 #[.pointer (some ⟨b, 0, none⟩)] w fun e w' => e = .returned (.bool (mayB fu fz go)) ∧ DS w' b gs gm n L c S fu (mayF fu fz go) (!mayB fu fz go) ∧ Fd b gs gm w w' := by
  have c2 := h.cells.2.2.1
  have c3 := h.cells.2.2.2.1
  have c4 := h.cells.2.2.2.2
  have f3 : w.frozen? ⟨b, 3, none⟩ = false := h.1.free 3
  have f4 : w.frozen? ⟨b, 4, none⟩ = false := h.1.free 4
  have H := Lib.hid h
  have hp := Lib.hid h.2.2.2.2.2.2.2.2
  clear h
  go_enter Try.func39, Try.ntmps39
  cases go
  · cases fu
    · go_wp2
      go_ret
      exact ⟨rfl, H.out, Fd.refl _⟩
    · by_cases hz : fz = 0
      · subst hz
        go_wp2
        go_ret
        exact ⟨rfl, H.out.setB 4 (.bool true) true true 0 rfl (fun _ => by omega) ⟨by omega, by omega⟩, (Fd.refl w).setB 4 _⟩
      · have hz1 : 0 ≤ fz := hp.out.1 rfl
        have hz2 := hp.out.2
        have hw : IntKind.i64.wrap (fz - 1) = fz - 1 := wrap_in _ (by omega) (by omega)
        go_wp2
        go_ret
        refine ⟨by simp [mayB, hz], ?_, (Fd.refl w).setB 3 _⟩
        have e1 : mayB true fz false = true := by simp [mayB, hz]
        simp only [mayF, e1, Bool.and_self, if_true, Bool.not_true]
        exact H.out.setB 3 (.int .i64 (fz - 1)) true false (fz - 1) rfl (fun _ => by omega) ⟨by omega, by omega⟩
  · go_wp2
    go_ret
    exact ⟨rfl, H.out, Fd.refl _⟩
theorem fuseD (h : DS w b gs gm n L c S fu fz go) (k : Int) (hk : -9223372036854775808 ≤ k ∧ k ≤ 9223372036854775807) : Calls Try.prog 28 #[.pointer (some ⟨b, 0, none⟩), .int .i64 k] w fun e w' => e = .returned (.tuple #[]) ∧ DS w' b gs gm n L c S (decide (0 ≤ k)) k go ∧ Fd b gs gm w w' := by
  have c2 := h.cells.2.2.1
  have c3 := h.cells.2.2.2.1
  have f2 : w.frozen? ⟨b, 2, none⟩ = false := h.1.free 2
  have f3 : w.frozen? ⟨b, 3, none⟩ = false := h.1.free 3
  have H := Lib.hid h
  clear h
  go_enter Try.func28, Try.ntmps28
  go_wp2
  refine bodyPost_end (results_none rfl _ _ _) rfl ?_
  have q := gb_set (gb_set (gb_refl w (some b)) 2 (.bool (decide (0 ≤ k)))) 3 (.int .i64 k)
  have hb := (H.out.1.set 2 (.bool (decide (0 ≤ k)))).set 3 (.int .i64 k)
  exact ⟨rfl, H.out.withB q (by simpa using hb) (fun e => by simpa using e) hk, ((Fd.refl w).setB 2 _).setB 3 _⟩
end Go.Proofs.Yteabblmhcjpboaa.D
