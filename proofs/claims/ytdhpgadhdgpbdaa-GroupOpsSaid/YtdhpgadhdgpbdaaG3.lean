import Derived.Test.YtdhpgadhdgpbdaaG2
namespace Go.Proofs.Ytdhpgadhdgpbdaa
open Go.RowKit

theorem size28 : (Try.prog.info? 28).map (·.size) = some 21 := by kernel_rfl
theorem sizeG (g : Grp) : (Try.prog.info? 28).map (·.size) = some g.cells.toArray.size := size28
def mayI (g : Grp) (wr op mb : Int) : Int := if askedB wr op mb = false then 1 else if fitsB g wr op mb = false then 12 else if op ≠ 5 ∧ 255 ≤ g.e then 14 else 0
set_option maxHeartbeats 1000000 in
theorem may_any (w : World) (g : Grp) (wr op mb : Int) :
    Calls Try.prog 7 #[.agg g.cells.toArray, .int .i64 wr, .int .i64 op, .int .i64 mb] w fun e w' => e = .returned (.int .i64 (mayI g wr op mb)) ∧ Below w.heap.size w w' := by
  have ka := asked_any wr op mb
  have kf := fits_any (g := g) (wr := wr) (op := op) (mb := mb)
  have hr : mayI g wr op mb = if askedB wr op mb = false then 1 else if fitsB g wr op mb = false then 12 else if op ≠ 5 ∧ 255 ≤ g.e then 14 else 0 := rfl
  generalize askedB wr op mb = A at *
  generalize fitsB g wr op mb = F at *
  have KA := Lib.hid ka
  have KF := Lib.hid kf
  have HR := Lib.hid hr
  clear ka kf hr
  cases A
  · go_enter Try.func7, Try.ntmps7
    go_wp2_with (go_at_call 13; ((with_reducible refine (KA.out _).mono ?_); rintro e w' ⟨rfl, rfl⟩))
    go_ret
    exact ⟨ret_i64 (by rw [HR.out]; rfl), (Below.refl _ _).alloc (Nat.le_refl _) _⟩
  · by_cases h5 : op = 5
    · subst h5
      go_enter Try.func7, Try.ntmps7
      go_upto_region 1 with (fail)
      obtain ⟨W, hW⟩ : ∃ V, V = w.alloc (.cells g.cells.toArray 28) := ⟨_, rfl⟩
      rw [← hW]
      have hG : IsG W w.heap.size g := by rw [hW]; exact IsG.new w g
      have HG := Lib.hid hG
      have BW : Hid (Below w.heap.size w W) := Lib.hid (by rw [hW]; exact (Below.refl _ _).alloc (Nat.le_refl _) _)
      have LT : Hid (w.heap.size < W.heap.size) := Lib.hid hG.lt
      clear hW hG
      generalize hb : w.heap.size = b at *
      have HB := Lib.hid hb
      clear hb
      cases F
      all_goals
        go_wp2_with (first | (go_at_call 13; ((with_reducible refine (KA.out _).mono ?_); rintro e w' ⟨rfl, rfl⟩)) | (refine wpList_load_row rfl 28 _ rfl b rfl 28 _ (0, 0) _ HG.out Try.underlying28 rfl (sizeG g) ?_))
        refine (KF.out _ trivial).mono ?_
        rintro e w1 ⟨rfl, hb⟩
        have B1 : Hid (Below b w w1) := Lib.hid (BW.out.trans (hb.mono (Nat.le_of_lt LT.out)))
        clear hb
        go_wp2
        go_ret
        exact ⟨ret_i64 (by rw [HR.out]; rfl), by rw [HB.out]; exact B1.out⟩
    · have h5' : (op != 5) = true := by simpa using h5
      have H5 := Lib.hid h5
      clear h5
      go_enter Try.func7, Try.ntmps7
      go_upto_region 1 with (fail)
      obtain ⟨W, hW⟩ : ∃ V, V = w.alloc (.cells g.cells.toArray 28) := ⟨_, rfl⟩
      rw [← hW]
      have hG : IsG W w.heap.size g := by rw [hW]; exact IsG.new w g
      have HG := Lib.hid hG
      have BW : Hid (Below w.heap.size w W) := Lib.hid (by rw [hW]; exact (Below.refl _ _).alloc (Nat.le_refl _) _)
      have LT : Hid (w.heap.size < W.heap.size) := Lib.hid hG.lt
      clear hW hG
      generalize hb : w.heap.size = b at *
      have HB := Lib.hid hb
      clear hb
      cases F
      · go_wp2_with (first | (go_at_call 13; ((with_reducible refine (KA.out _).mono ?_); rintro e w' ⟨rfl, rfl⟩)) | (refine wpList_load_row rfl 28 _ rfl b rfl 28 _ (0, 0) _ HG.out Try.underlying28 rfl (sizeG g) ?_))
        refine (KF.out _ trivial).mono ?_
        rintro e w1 ⟨rfl, hb⟩
        have B1 : Hid (Below b w w1) := Lib.hid (BW.out.trans (hb.mono (Nat.le_of_lt LT.out)))
        clear hb
        go_wp2
        go_ret
        exact ⟨ret_i64 (by rw [HR.out]; rfl), by rw [HB.out]; exact B1.out⟩
      · go_wp2_with (first | (go_at_call 13; ((with_reducible refine (KA.out _).mono ?_); rintro e w' ⟨rfl, rfl⟩)) | (refine wpList_load_row rfl 28 _ rfl b rfl 28 _ (0, 0) _ HG.out Try.underlying28 rfl (sizeG g) ?_))
        refine (KF.out _ trivial).mono ?_
        rintro e w1 ⟨rfl, hb⟩
        have B1 : Hid (Below b w w1) := Lib.hid (BW.out.trans (hb.mono (Nat.le_of_lt LT.out)))
        have ce : w1.cell? ⟨b, 1, none⟩ = some (.int .i64 g.e) := (hb.cell (p := ⟨b, 1, none⟩) LT.out).trans HG.out.e
        clear hb
        by_cases h255 : 255 ≤ g.e
        · go_wp2
          go_ret
          exact ⟨ret_i64 (by rw [HR.out, if_neg (by simp), if_neg (by simp), if_pos ⟨H5.out, h255⟩]), by rw [HB.out]; exact B1.out⟩
        · have h255' : decide (255 ≤ g.e) = false := by simpa using h255
          go_wp2
          go_ret
          exact ⟨ret_i64 (by rw [HR.out, if_neg (by simp), if_neg (by simp), if_neg (fun h => by omega)]), by rw [HB.out]; exact B1.out⟩
end Go.Proofs.Ytdhpgadhdgpbdaa
