/- A log's record; small functions of it. -/
import Derived.Test.YteabblmhcjpboaaDE6
import Derived.Test.YteabblmhcjpboaaDBT
namespace Go.Proofs.Yteabblmhcjpboaa.D
open Go Go.RowKit
set_option maxRecDepth 100000
theorem size3 (w' : World) : (sizeOf 3).run Try.prog w' = .ok 1 w' := by kernel_rfl
theorem size4 (w' : World) : (sizeOf 4).run Try.prog w' = .ok 1 w' := by kernel_rfl
theorem size5 (w' : World) : (sizeOf 5).run Try.prog w' = .ok 1 w' := by kernel_rfl
theorem size24 (w' : World) : (sizeOf 24).run Try.prog w' = .ok 1 w' := by kernel_rfl
theorem size26 (w' : World) : (sizeOf 26).run Try.prog w' = .ok 1 w' := by kernel_rfl
theorem size28 (w' : World) : (sizeOf 28).run Try.prog w' = .ok 1 w' := by kernel_rfl
theorem size35 (w' : World) : (sizeOf 35).run Try.prog w' = .ok 1 w' := by kernel_rfl
/-- a head's cells. -/
def hdV (s c : Nat) (nt : List Int) : List Value := .int .u64 ((s : Nat) : Int) :: .int .u64 ((c : Nat) : Int) :: nt.map (Value.int .u8)
def NtOk (nt : List Int) : Prop := nt.length = 16 ∧ ∀ x ∈ nt, 0 ≤ x ∧ x ≤ 255
def U64 (s : Nat) : Prop := s < 18446744073709551616
def lgV (b fr rm : Nat) (s c : Nat) (nt : List Int) (v : Value) (ov : Bool) : List Value := .pointer (some ⟨b, 0, none⟩) :: .int .i64 (fr : Int) :: .int .i64 (rm : Int) :: (hdV s c nt ++ [v, .bool ov])
def LS (w : World) (lb b fr rm : Nat) (s c : Nat) (nt : List Int) (v : Value) (ov : Bool) : Prop := Blk w lb 66 (lgV b fr rm s c nt v ov).toArray ∧ NtOk nt ∧ U64 s ∧ U64 c ∧ fr ≤ 1000 ∧ rm ≤ 1000
theorem hd_len {s c : Nat} {nt : List Int} (h : NtOk nt) : (hdV s c nt).length = 18 := by simp [hdV, h.1]
section
variable {w w' : World} {lb b fr rm : Nat} {s c : Nat} {nt : List Int} {v : Value} {ov : Bool}
theorem LS.below (h : LS w lb b fr rm s c nt v ov) (hb : Below w.heap.size w w') : LS w' lb b fr rm s c nt v ov := ⟨h.1.below hb, h.2⟩
theorem LS.grown {r : Nat} (h : LS w lb b fr rm s c nt v ov) (q : w.grownBy w' (some r)) (hr : r ≠ lb) : LS w' lb b fr rm s c nt v ov := ⟨h.1.grown q (by simpa using hr.symm), h.2⟩
theorem LS.fd {g1 g2 g3 : Nat} (h : LS w lb b fr rm s c nt v ov) (q : Fd g1 g2 g3 w w') (h1 : lb ≠ g1) (h2 : lb ≠ g2) (h3 : lb ≠ g3) : LS w' lb b fr rm s c nt v ov := ⟨by
  have k := q.2.2.2.2 lb h.1.lt h1 h2 h3
  unfold Blk at *
  rw [k]; exact h.1, h.2⟩
theorem lg_get (hn : NtOk nt) (j : Nat) : (lgV b fr rm s c nt v ov)[j]? = if j = 0 then some (.pointer (some ⟨b, 0, none⟩)) else if j = 1 then some (.int .i64 (fr : Int)) else if j = 2 then some (.int .i64 (rm : Int)) else if j < 21 then (hdV s c nt)[j - 3]? else if j = 21 then some v else if j = 22 then some (.bool ov) else none := by
  unfold lgV
  match j with
  | 0 => rfl
  | 1 => rfl
  | 2 => rfl
  | j + 3 =>
    have h1 : ¬ j + 3 = 0 := by omega
    have h2 : ¬ j + 3 = 1 := by omega
    have h3 : ¬ j + 3 = 2 := by omega
    rw [if_neg h1, if_neg h2, if_neg h3]
    simp only [List.getElem?_cons_succ]
    by_cases q : j < 18
    · rw [if_pos (by omega), List.getElem?_append_left (by rw [hd_len hn]; exact q)]; rfl
    · rw [if_neg (by omega), List.getElem?_append_right (by rw [hd_len hn]; omega), hd_len hn]
      by_cases q1 : j = 18
      · subst q1; rfl
      · by_cases q2 : j = 19
        · subst q2; rfl
        · rw [if_neg (by omega), if_neg (by omega)]
          apply List.getElem?_eq_none
          simp; omega
theorem LS.cell (h : LS w lb b fr rm s c nt v ov) (j : Nat) : w.cell? ⟨lb, j, none⟩ = (lgV b fr rm s c nt v ov)[j]? := by rw [h.1.cell, List.getElem?_toArray]
theorem LS.c0 (h : LS w lb b fr rm s c nt v ov) : w.cell? ⟨lb, 0, none⟩ = some (.pointer (some ⟨b, 0, none⟩)) := by rw [h.cell]; rfl
theorem LS.c1 (h : LS w lb b fr rm s c nt v ov) : w.cell? ⟨lb, 1, none⟩ = some (.int .i64 (fr : Int)) := by rw [h.cell]; rfl
theorem LS.c2 (h : LS w lb b fr rm s c nt v ov) : w.cell? ⟨lb, 2, none⟩ = some (.int .i64 (rm : Int)) := by rw [h.cell]; rfl
theorem LS.c3 (h : LS w lb b fr rm s c nt v ov) : w.cell? ⟨lb, 3, none⟩ = some (.int .u64 ((s : Nat) : Int)) := by rw [h.cell]; rfl
theorem LS.c4 (h : LS w lb b fr rm s c nt v ov) : w.cell? ⟨lb, 4, none⟩ = some (.int .u64 ((c : Nat) : Int)) := by rw [h.cell]; rfl
theorem LS.c21 (h : LS w lb b fr rm s c nt v ov) : w.cell? ⟨lb, 21, none⟩ = some v := by rw [h.cell, lg_get h.2.1]; rfl
theorem LS.c22 (h : LS w lb b fr rm s c nt v ov) : w.cell? ⟨lb, 22, none⟩ = some (.bool ov) := by rw [h.cell, lg_get h.2.1]; rfl
theorem LS.head (h : LS w lb b fr rm s c nt v ov) : w.rangeAt lb 3 (hdV s c nt) := by
  intro j u hj
  have hl : j < 18 := by
    rcases Nat.lt_or_ge j 18 with q | q
    · exact q
    · rw [List.getElem?_eq_none (by rw [hd_len h.2.1]; exact q)] at hj; cases hj
  rw [h.cell, lg_get h.2.1, if_neg (by omega), if_neg (by omega), if_neg (by omega), if_pos (by omega)]
  rw [Nat.add_sub_cancel_left]; exact hj
theorem LS.note (h : LS w lb b fr rm s c nt v ov) : w.rangeAt lb 5 (u8l nt) := by
  intro j u hj
  have q := h.head (j + 2) u (by simpa [hdV, u8l] using hj)
  rw [show 5 + j = 3 + (j + 2) by omega]; exact q
theorem overD (h : LS w lb b fr rm s c nt v ov) : Calls Try.prog 23 #[.pointer (some ⟨lb, 0, none⟩)] w fun e w' => e = .returned (.bool ov) ∧ w = w' := by
  have c0 := h.c0
  have c22 := h.c22
  clear h
  go_enter Try.func23, Try.ntmps23
  cases ov
  · go_wp2
    go_ret
    exact ⟨rfl, rfl⟩
  · go_wp2
    go_ret
    exact ⟨rfl, rfl⟩
theorem serialD (h : LS w lb b fr rm s c nt v ov) : Calls Try.prog 14 #[.pointer (some ⟨lb, 0, none⟩)] w fun e w' => e = .returned (.int .u64 ((s : Nat) : Int)) ∧ w = w' := by
  have c3 := h.c3
  clear h
  go_enter Try.func14, Try.ntmps14
  go_wp2
  go_ret
  exact ⟨rfl, rfl⟩
theorem sectorD (h : LS w lb b fr rm s c nt v ov) (i : Nat) (hi : i ≤ 1000000) : Calls Try.prog 33 #[.pointer (some ⟨lb, 0, none⟩), .int .i64 (i : Int)] w fun e w' => e = .returned (.int .i64 ((fr + 2 + i : Nat) : Int)) ∧ w = w' := by
  have c1 := h.c1
  have f0 := h.2.2.2.2.1
  clear h
  go_enter Try.func33, Try.ntmps33
  go_wp2
  go_ret
  exact ⟨by first | rfl | (congr 2; omega), rfl⟩
theorem endD (h : LS w lb b fr rm s c nt v ov) (x : Int) : Calls Try.prog 35 #[.pointer (some ⟨lb, 0, none⟩), .int .i64 x] w fun e w' => e = .returned (.int .i64 x) ∧ w' = w.setCell ⟨lb, 22, none⟩ (.bool true) := by
  have c22 := h.c22
  have f22 := h.1.free 22
  clear h
  go_enter Try.func35, Try.ntmps35
  go_wp2
  go_ret
  exact ⟨rfl, rfl⟩
theorem LS.over (h : LS w lb b fr rm s c nt v ov) : LS (w.setCell ⟨lb, 22, none⟩ (.bool true)) lb b fr rm s c nt v true := ⟨by
  have q := h.1.set 22 (.bool true)
  have e : (lgV b fr rm s c nt v ov).set 22 (.bool true) = lgV b fr rm s c nt v true := by
    have hl := hd_len (s := s) (c := c) h.2.1
    unfold lgV
    rw [List.set_cons_succ, List.set_cons_succ, List.set_cons_succ, List.set_append_right _ _ (by omega), hl]
    rfl
  rw [e] at q; exact q, h.2⟩
theorem roomD (h : LS w lb b fr rm s c nt v ov) (a : Option Addr) (n cx : Nat) (hv : v = .slice a n cx) (hn : n ≤ 1000000) : Calls Try.prog 22 #[.pointer (some ⟨lb, 0, none⟩)] w fun e w' => e = .returned (.int .i64 ((rm : Int) * 64 - (n : Int))) ∧ Below w.heap.size w w' := by
  have c2 := h.c2
  have c21 := h.c21
  rw [hv] at c21
  have f0 := h.2.2.2.2.2
  have H := Lib.hid h
  have F := Lib.hid (And.intro f0 hn)
  have C2 := Lib.hid c2
  have C21 := Lib.hid c21
  clear h f0 hn c2 c21 hv
  go_enter Try.func22, Try.ntmps22
  go_upto_region 0 with (fail)
  refine wp_region_lit ?_
  refine wpL_pure (.int .i64 0) rfl (by kernel_rfl) ?_
  simp only [Act.put, List.setIfInBounds_toArray, List.set_cons_zero, List.set_cons_succ]
  go_upto_region 1 with (fail)
  refine region_held_all (fun X => Below w.heap.size w X ∧ X.cell? ⟨lb, 2, none⟩ = some (.int .i64 (rm : Int)) ∧ X.cell? ⟨lb, 21, none⟩ = some (.slice a n cx)) (by kernel_rfl) (by kernel_rfl) (⟨(Below.refl _ _).drew, C2.out, C21.out⟩) ?_
  refine wpHeld_cons (.pointer (some ⟨lb, 0, none⟩)) rfl (fun w h => heldRun_value (by kernel_rfl) h) ?_
  simp only [Act.put, List.setIfInBounds_toArray, List.set_cons_zero, List.set_cons_succ]
  refine wpHeld_cons (.pointer (some ⟨lb, 0, none⟩)) rfl (fun w h => heldRun_value (by kernel_rfl) h) ?_
  simp only [Act.put, List.setIfInBounds_toArray, List.set_cons_zero, List.set_cons_succ]
  refine wpHeld_cons (.pointer (some ⟨lb, 2, none⟩)) rfl (fun w h => heldRun_value (by kernel_rfl) h) ?_
  simp only [Act.put, List.setIfInBounds_toArray, List.set_cons_zero, List.set_cons_succ]
  refine wpHeld_cons (.int .i64 (rm : Int)) rfl (fun w h => heldRun_value (run_load_one _ _ _ 3 _ _ rfl (lb) (2) rfl (h.2.1) (by kernel_rfl)) h) ?_
  simp only [Act.put, List.setIfInBounds_toArray, List.set_cons_zero, List.set_cons_succ]
  refine wpHeld_cons (.int .i64 ((rm : Int) * 64)) rfl (fun w h => heldRun_value (run_muli Try.underlying3 rfl rfl rfl _ (wrap_in _ (by have := F.out; omega) (by have := F.out; omega))) h) ?_
  simp only [Act.put, List.setIfInBounds_toArray, List.set_cons_zero, List.set_cons_succ]
  refine wpHeld_cons (.pointer (some ⟨lb, 0, none⟩)) rfl (fun w h => heldRun_value (by kernel_rfl) h) ?_
  simp only [Act.put, List.setIfInBounds_toArray, List.set_cons_zero, List.set_cons_succ]
  refine wpHeld_cons (.pointer (some ⟨lb, 0, none⟩)) rfl (fun w h => heldRun_value (by kernel_rfl) h) ?_
  simp only [Act.put, List.setIfInBounds_toArray, List.set_cons_zero, List.set_cons_succ]
  refine wpHeld_cons (.pointer (some ⟨lb, 21, none⟩)) rfl (fun w h => heldRun_value (by kernel_rfl) h) ?_
  simp only [Act.put, List.setIfInBounds_toArray, List.set_cons_zero, List.set_cons_succ]
  refine wpHeld_cons (.slice a n cx) rfl (fun w h => heldRun_value (run_load_one _ _ _ 26 _ _ rfl (lb) (21) rfl (h.2.2) (by kernel_rfl)) h) ?_
  simp only [Act.put, List.setIfInBounds_toArray, List.set_cons_zero, List.set_cons_succ]
  refine wpHeld_cons (.int .i64 (n : Int)) rfl (fun w h => heldRun_value (by kernel_rfl) h) ?_
  simp only [Act.put, List.setIfInBounds_toArray, List.set_cons_zero, List.set_cons_succ]
  refine wpHeld_cons (.int .i64 ((rm : Int) * 64 - (n : Int))) rfl (fun w h => heldRun_value (run_subi Try.underlying3 rfl rfl rfl _ (wrap_in _ (by have := F.out; omega) (by have := F.out; omega))) h) ?_
  simp only [Act.put, List.setIfInBounds_toArray, List.set_cons_zero, List.set_cons_succ]
  refine wpHeld_cons (.int .i64 ((rm : Int) * 64 - (n : Int))) rfl (fun w h => heldRun_value (by kernel_rfl) h) ?_
  simp only [Act.put, List.setIfInBounds_toArray, List.set_cons_zero, List.set_cons_succ]
  refine wpHeld_nil ?_
  intro X h
  go_wp2_with fail
  go_ret
  exact ⟨rfl, h.1⟩
end
end Go.Proofs.Yteabblmhcjpboaa.D
