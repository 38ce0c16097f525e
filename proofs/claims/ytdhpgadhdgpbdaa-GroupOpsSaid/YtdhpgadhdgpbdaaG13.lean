import Derived.Test.YtdhpgadhdgpbdaaG12
import Derived.Test.YtdhpgadhdgpbdaaG6
import Derived.Test.YtdhpgadhdgpbdaaG7
namespace Go.Proofs.Ytdhpgadhdgpbdaa
open Go.RowKit

theorem size25 : (Try.prog.info? 25).map (·.size) = some 6 := by kernel_rfl
theorem IsG.rM {w : World} {b : Nat} {g : Grp} (h : IsG w b g) : w.rangeAt b 2 (six6 g.M) := by
  intro j v hj
  have hj6 : j < 6 := (List.getElem?_eq_some_iff.1 hj).1
  rw [h.cm j hj6]
  rcases six hj6 with rfl | rfl | rfl | rfl | rfl | rfl <;> exact hj
theorem IsG.rG {w : World} {b : Nat} {g : Grp} (h : IsG w b g) : w.rangeAt b 8 (six6 g.G) := by
  intro j v hj
  have hj6 : j < 6 := (List.getElem?_eq_some_iff.1 hj).1
  rw [h.cg j hj6]
  rcases six hj6 with rfl | rfl | rfl | rfl | rfl | rfl <;> exact hj
theorem in_at (M : Nat → Bool) (k : Nat) (hk : k < 6) (r : Bool) (hr : M k = r) (w : World) : Calls Try.prog 17 #[.agg (six6 M).toArray, .int .i64 ((k : Int) + 1)] w fun e w' => e = .returned (.bool r) ∧ Below w.heap.size w w' := by
  subst hr
  exact in_any M k hk w
set_option maxHeartbeats 1000000 in
theorem rmay_wrong (w : World) (g : Grp) (wr op mb : Int) (ha : askedB wr op mb = false) (r : Int) (hr : r = 1) :
    Calls Try.prog 10 #[.agg g.cells.toArray, .int .i64 wr, .int .i64 op, .int .i64 mb] w fun e w' => e = .returned (.int .i64 r) ∧ Below w.heap.size w w' := by
  have HRR := Lib.hid hr
  clear hr
  have ka := wrong_any wr op mb
  rw [ha] at ka
  have KA := Lib.hid ka
  clear ka ha
  go_enter Try.func10, Try.ntmps10
  go_upto_region 1 with (fail)
  obtain ⟨W, hW⟩ : ∃ V, V = w.alloc (.cells g.cells.toArray 28) := ⟨_, rfl⟩
  rw [← hW]
  have hG : IsG W w.heap.size g := by rw [hW]; exact IsG.new w g
  have HG := Lib.hid hG
  have BW : Hid (Below w.heap.size w W) := Lib.hid (by rw [hW]; exact (Below.refl _ _).alloc (Nat.le_refl _) _)
  clear hW hG
  generalize hb : w.heap.size = b at *
  have HB := Lib.hid hb
  have LE : Hid (b ≤ w.heap.size) := Lib.hid (by omega)
  clear hb
  go_wp2_with (go_at_call 16; ((with_reducible refine (KA.out _).mono ?_); rintro e w' ⟨rfl, rfl⟩))
  go_ret
  exact ⟨ret_i64 (by rw [HRR.out]; try rfl), by rw [HB.out]; exact BW.out⟩
set_option maxHeartbeats 1000000 in
theorem rmay_other (w : World) (g : Grp) (wr op mb : Int) (ha : askedB wr op mb = true) (h1 : op ≠ 1) (ho : wr ≠ g.o) (r : Int) (hr : r = 12) :
    Calls Try.prog 10 #[.agg g.cells.toArray, .int .i64 wr, .int .i64 op, .int .i64 mb] w fun e w' => e = .returned (.int .i64 r) ∧ Below w.heap.size w w' := by
  have HRR := Lib.hid hr
  clear hr
  have n1 : (op == 1) = false := by simpa using h1
  have n1' : (op != 1) = true := by simpa using h1
  have no : (g.o != wr) = true := by simpa using Ne.symm ho
  clear h1 ho
  have ka := wrong_any wr op mb
  rw [ha] at ka
  have KA := Lib.hid ka
  clear ka ha
  go_enter Try.func10, Try.ntmps10
  go_upto_region 1 with (fail)
  obtain ⟨W, hW⟩ : ∃ V, V = w.alloc (.cells g.cells.toArray 28) := ⟨_, rfl⟩
  rw [← hW]
  have hG : IsG W w.heap.size g := by rw [hW]; exact IsG.new w g
  have HG := Lib.hid hG
  have BW : Hid (Below w.heap.size w W) := Lib.hid (by rw [hW]; exact (Below.refl _ _).alloc (Nat.le_refl _) _)
  clear hW hG
  generalize hb : w.heap.size = b at *
  have HB := Lib.hid hb
  have LE : Hid (b ≤ w.heap.size) := Lib.hid (by omega)
  clear hb
  have co := HG.out.o
  go_wp2_with (go_at_call 16; ((with_reducible refine (KA.out _).mono ?_); rintro e w' ⟨rfl, rfl⟩))
  go_ret
  exact ⟨ret_i64 (by rw [HRR.out]; try rfl), by rw [HB.out]; exact BW.out⟩
set_option maxHeartbeats 1000000 in
theorem rmay_create_no (w : World) (g : Grp) (wr mb : Int) (ha : askedB wr 1 mb = true) (ho : g.o ≠ 0) (r : Int) (hr : r = 12) :
    Calls Try.prog 10 #[.agg g.cells.toArray, .int .i64 wr, .int .i64 1, .int .i64 mb] w fun e w' => e = .returned (.int .i64 r) ∧ Below w.heap.size w w' := by
  have HRR := Lib.hid hr
  clear hr
  have no : (g.o != 0) = true := by simpa using ho
  clear ho
  have ka := wrong_any wr 1 mb
  rw [ha] at ka
  have KA := Lib.hid ka
  clear ka ha
  go_enter Try.func10, Try.ntmps10
  go_upto_region 1 with (fail)
  obtain ⟨W, hW⟩ : ∃ V, V = w.alloc (.cells g.cells.toArray 28) := ⟨_, rfl⟩
  rw [← hW]
  have hG : IsG W w.heap.size g := by rw [hW]; exact IsG.new w g
  have HG := Lib.hid hG
  have BW : Hid (Below w.heap.size w W) := Lib.hid (by rw [hW]; exact (Below.refl _ _).alloc (Nat.le_refl _) _)
  clear hW hG
  generalize hb : w.heap.size = b at *
  have HB := Lib.hid hb
  have LE : Hid (b ≤ w.heap.size) := Lib.hid (by omega)
  clear hb
  have co := HG.out.o
  go_wp2_with (go_at_call 16; ((with_reducible refine (KA.out _).mono ?_); rintro e w' ⟨rfl, rfl⟩))
  go_ret
  exact ⟨ret_i64 (by rw [HRR.out]; try rfl), by rw [HB.out]; exact BW.out⟩
set_option maxHeartbeats 1000000 in
theorem rmay_create (w : World) (g : Grp) (wr mb : Int) (ha : askedB wr 1 mb = true) (ho : g.o = 0) (r : Int) (hr : r = (if 255 ≤ g.e then 14 else 0)) :
    Calls Try.prog 10 #[.agg g.cells.toArray, .int .i64 wr, .int .i64 1, .int .i64 mb] w fun e w' => e = .returned (.int .i64 r) ∧ Below w.heap.size w w' := by
  have HRR := Lib.hid hr
  clear hr
  have ka := wrong_any wr 1 mb
  rw [ha] at ka
  have KA := Lib.hid ka
  clear ka ha
  have HO := Lib.hid ho
  clear ho
  go_enter Try.func10, Try.ntmps10
  go_upto_region 1 with (fail)
  obtain ⟨W, hW⟩ : ∃ V, V = w.alloc (.cells g.cells.toArray 28) := ⟨_, rfl⟩
  rw [← hW]
  have hG : IsG W w.heap.size g := by rw [hW]; exact IsG.new w g
  have HG := Lib.hid hG
  have BW : Hid (Below w.heap.size w W) := Lib.hid (by rw [hW]; exact (Below.refl _ _).alloc (Nat.le_refl _) _)
  clear hW hG
  generalize hb : w.heap.size = b at *
  have HB := Lib.hid hb
  have LE : Hid (b ≤ w.heap.size) := Lib.hid (by omega)
  clear hb
  have co := HG.out.o
  rw [HO.out] at co
  have ce := HG.out.e
  by_cases h255 : 255 ≤ g.e
  · go_wp2_with (go_at_call 16; ((with_reducible refine (KA.out _).mono ?_); rintro e w' ⟨rfl, rfl⟩))
    go_ret
    exact ⟨ret_i64 (by rw [HRR.out]; simp [h255]), by rw [HB.out]; exact BW.out⟩
  · have h255' : decide (255 ≤ g.e) = false := by simpa using h255
    have H255 := Lib.hid h255
    clear h255
    go_wp2_with (go_at_call 16; ((with_reducible refine (KA.out _).mono ?_); rintro e w' ⟨rfl, rfl⟩))
    go_ret
    exact ⟨ret_i64 (by rw [HRR.out]; have := H255.out; simp; omega), by rw [HB.out]; exact BW.out⟩
set_option maxHeartbeats 1000000 in
theorem rmay_four (w : World) (g : Grp) (mb : Int) (ha : askedB g.o 4 mb = true) (r : Int) (hr : r = (if 255 ≤ g.e then 14 else 0)) :
    Calls Try.prog 10 #[.agg g.cells.toArray, .int .i64 g.o, .int .i64 4, .int .i64 mb] w fun e w' => e = .returned (.int .i64 r) ∧ Below w.heap.size w w' := by
  have HRR := Lib.hid hr
  clear hr
  have ka := wrong_any g.o 4 mb
  rw [ha] at ka
  have KA := Lib.hid ka
  clear ka ha
  go_enter Try.func10, Try.ntmps10
  go_upto_region 1 with (fail)
  obtain ⟨W, hW⟩ : ∃ V, V = w.alloc (.cells g.cells.toArray 28) := ⟨_, rfl⟩
  rw [← hW]
  have hG : IsG W w.heap.size g := by rw [hW]; exact IsG.new w g
  have HG := Lib.hid hG
  have BW : Hid (Below w.heap.size w W) := Lib.hid (by rw [hW]; exact (Below.refl _ _).alloc (Nat.le_refl _) _)
  clear hW hG
  generalize hb : w.heap.size = b at *
  have HB := Lib.hid hb
  have LE : Hid (b ≤ w.heap.size) := Lib.hid (by omega)
  clear hb
  have co := HG.out.o
  have ce := HG.out.e
  by_cases h255 : 255 ≤ g.e
  · go_wp2_with (go_at_call 16; ((with_reducible refine (KA.out _).mono ?_); rintro e w' ⟨rfl, rfl⟩))
    go_ret
    exact ⟨ret_i64 (by rw [HRR.out]; simp [h255]), by rw [HB.out]; exact BW.out⟩
  · have h255' : decide (255 ≤ g.e) = false := by simpa using h255
    have H255 := Lib.hid h255
    clear h255
    go_wp2_with (go_at_call 16; ((with_reducible refine (KA.out _).mono ?_); rintro e w' ⟨rfl, rfl⟩))
    go_ret
    exact ⟨ret_i64 (by rw [HRR.out]; have := H255.out; simp; omega), by rw [HB.out]; exact BW.out⟩
set_option maxHeartbeats 1000000 in
theorem rmay_add (w : World) (g : Grp) (k : Nat) (hk : k < 6) (ha : askedB g.o 2 ((k : Int) + 1) = true) (r : Int) (hr : r = (if g.M k || g.G k then 12 else if 255 ≤ g.e then 14 else 0)) :
    Calls Try.prog 10 #[.agg g.cells.toArray, .int .i64 g.o, .int .i64 2, .int .i64 ((k : Int) + 1)] w fun e w' => e = .returned (.int .i64 r) ∧ Below w.heap.size w w' := by
  have HRR := Lib.hid hr
  clear hr
  have ka := wrong_any g.o 2 ((k : Int) + 1)
  rw [ha] at ka
  have KA := Lib.hid ka
  clear ka ha
  have k0 : (0 : Int) ≤ (k : Int) := by omega
  have k6 : (k : Int) < 6 := by omega
  have HK := Lib.hid hk
  clear hk
  go_enter Try.func10, Try.ntmps10
  go_upto_region 1 with (fail)
  obtain ⟨W, hW⟩ : ∃ V, V = w.alloc (.cells g.cells.toArray 28) := ⟨_, rfl⟩
  rw [← hW]
  have hG : IsG W w.heap.size g := by rw [hW]; exact IsG.new w g
  have HG := Lib.hid hG
  have BW : Hid (Below w.heap.size w W) := Lib.hid (by rw [hW]; exact (Below.refl _ _).alloc (Nat.le_refl _) _)
  clear hW hG
  generalize hb : w.heap.size = b at *
  have HB := Lib.hid hb
  have LE : Hid (b ≤ w.heap.size) := Lib.hid (by omega)
  clear hb
  have co := HG.out.o
  have KM := Lib.hid (in_at g.M k HK.out)
  have KG := Lib.hid (in_at g.G k HK.out)
  generalize g.M k = m at KM HRR
  generalize g.G k = l at KG HRR
  cases m
  · go_wp2_with (first | (refine wpL_load 25 _ rfl (by rfl) b 2 rfl (six6 g.M) _ HG.out.rM Try.underlying25 rfl size25 ?_) | (refine wpL_load 25 _ rfl (by rfl) b 8 rfl (six6 g.G) _ HG.out.rG Try.underlying25 rfl size25 ?_) | (go_at_call 16; ((with_reducible refine (KA.out _).mono ?_); rintro e w' ⟨rfl, rfl⟩)))
    refine (KM.out false rfl _).mono ?_
    rintro e wn ⟨rfl, hbn⟩
    replace HG : Hid (IsG wn b g) := Lib.hid (Blk.keep HG.out hbn HG.out.lt)
    replace BW : Hid (Below b w wn) := Lib.hid (BW.out.trans (hbn.mono (by have := BW.out.size; have := LE.out; omega)))
    clear hbn
    cases l
    · go_wp2_with (first | (refine wpL_load 25 _ rfl (by rfl) b 2 rfl (six6 g.M) _ HG.out.rM Try.underlying25 rfl size25 ?_) | (refine wpL_load 25 _ rfl (by rfl) b 8 rfl (six6 g.G) _ HG.out.rG Try.underlying25 rfl size25 ?_) | (go_at_call 16; ((with_reducible refine (KA.out _).mono ?_); rintro e w' ⟨rfl, rfl⟩)))
      refine (KG.out false rfl _).mono ?_
      rintro e wn ⟨rfl, hbn⟩
      replace HG : Hid (IsG wn b g) := Lib.hid (Blk.keep HG.out hbn HG.out.lt)
      replace BW : Hid (Below b w wn) := Lib.hid (BW.out.trans (hbn.mono (by have := BW.out.size; have := LE.out; omega)))
      clear hbn
      have ce := HG.out.e
      by_cases h255 : 255 ≤ g.e
      · go_wp2_with (go_at_call 16; ((with_reducible refine (KA.out _).mono ?_); rintro e w' ⟨rfl, rfl⟩))
        go_ret
        exact ⟨ret_i64 (by rw [HRR.out]; simp [h255]), by rw [HB.out]; exact BW.out⟩
      · have h255' : decide (255 ≤ g.e) = false := by simpa using h255
        have H255 := Lib.hid h255
        clear h255
        go_wp2_with (go_at_call 16; ((with_reducible refine (KA.out _).mono ?_); rintro e w' ⟨rfl, rfl⟩))
        go_ret
        exact ⟨ret_i64 (by rw [HRR.out]; have := H255.out; simp; omega), by rw [HB.out]; exact BW.out⟩
    · go_wp2_with (first | (refine wpL_load 25 _ rfl (by rfl) b 2 rfl (six6 g.M) _ HG.out.rM Try.underlying25 rfl size25 ?_) | (refine wpL_load 25 _ rfl (by rfl) b 8 rfl (six6 g.G) _ HG.out.rG Try.underlying25 rfl size25 ?_) | (go_at_call 16; ((with_reducible refine (KA.out _).mono ?_); rintro e w' ⟨rfl, rfl⟩)))
      refine (KG.out true rfl _).mono ?_
      rintro e wn ⟨rfl, hbn⟩
      replace HG : Hid (IsG wn b g) := Lib.hid (Blk.keep HG.out hbn HG.out.lt)
      replace BW : Hid (Below b w wn) := Lib.hid (BW.out.trans (hbn.mono (by have := BW.out.size; have := LE.out; omega)))
      clear hbn
      go_wp2_with fail
      go_ret
      exact ⟨ret_i64 (by rw [HRR.out]; try rfl), by rw [HB.out]; exact BW.out⟩
  · go_wp2_with (first | (refine wpL_load 25 _ rfl (by rfl) b 2 rfl (six6 g.M) _ HG.out.rM Try.underlying25 rfl size25 ?_) | (refine wpL_load 25 _ rfl (by rfl) b 8 rfl (six6 g.G) _ HG.out.rG Try.underlying25 rfl size25 ?_) | (go_at_call 16; ((with_reducible refine (KA.out _).mono ?_); rintro e w' ⟨rfl, rfl⟩)))
    refine (KM.out true rfl _).mono ?_
    rintro e wn ⟨rfl, hbn⟩
    replace HG : Hid (IsG wn b g) := Lib.hid (Blk.keep HG.out hbn HG.out.lt)
    replace BW : Hid (Below b w wn) := Lib.hid (BW.out.trans (hbn.mono (by have := BW.out.size; have := LE.out; omega)))
    clear hbn
    go_wp2_with fail
    go_ret
    exact ⟨ret_i64 (by rw [HRR.out]; simp), by rw [HB.out]; exact BW.out⟩
set_option maxHeartbeats 1000000 in
theorem rmay_3 (w : World) (g : Grp) (k : Nat) (hk : k < 6) (ha : askedB g.o 3 ((k : Int) + 1) = true) (r : Int) (hr : r = (if g.M k && decide ((k : Int) + 1 ≠ g.o) then (if 255 ≤ g.e then 14 else 0) else 12)) :
    Calls Try.prog 10 #[.agg g.cells.toArray, .int .i64 g.o, .int .i64 3, .int .i64 ((k : Int) + 1)] w fun e w' => e = .returned (.int .i64 r) ∧ Below w.heap.size w w' := by
  have HRR := Lib.hid hr
  clear hr
  have ka := wrong_any g.o 3 ((k : Int) + 1)
  rw [ha] at ka
  have KA := Lib.hid ka
  clear ka ha
  have k0 : (0 : Int) ≤ (k : Int) := by omega
  have k6 : (k : Int) < 6 := by omega
  have HK := Lib.hid hk
  clear hk
  go_enter Try.func10, Try.ntmps10
  go_upto_region 1 with (fail)
  obtain ⟨W, hW⟩ : ∃ V, V = w.alloc (.cells g.cells.toArray 28) := ⟨_, rfl⟩
  rw [← hW]
  have hG : IsG W w.heap.size g := by rw [hW]; exact IsG.new w g
  have HG := Lib.hid hG
  have BW : Hid (Below w.heap.size w W) := Lib.hid (by rw [hW]; exact (Below.refl _ _).alloc (Nat.le_refl _) _)
  clear hW hG
  generalize hb : w.heap.size = b at *
  have HB := Lib.hid hb
  have LE : Hid (b ≤ w.heap.size) := Lib.hid (by omega)
  clear hb
  have co := HG.out.o
  have KM := Lib.hid (in_at g.M k HK.out)
  generalize g.M k = m at KM HRR
  go_upto_region 5 with (go_at_call 16; ((with_reducible refine (KA.out _).mono ?_); rintro e w' ⟨rfl, rfl⟩))
  clear co
  refine wp_region_lit ?_
  cases m
  · skip
    refine wpL_pure (.bool false) rfl (by kernel_rfl) ?_
    simp only [Act.put, List.setIfInBounds_toArray, List.set_cons_zero, List.set_cons_succ]
    refine wpL_pure (.bool false) rfl (by kernel_rfl) ?_
    simp only [Act.put, List.setIfInBounds_toArray, List.set_cons_zero, List.set_cons_succ]
    refine wpL_pure (.int .i64 3) rfl (by kernel_rfl) ?_
    simp only [Act.put, List.setIfInBounds_toArray, List.set_cons_zero, List.set_cons_succ]
    refine wpL_pure (.bool true) rfl (by kernel_rfl) ?_
    simp only [Act.put, List.setIfInBounds_toArray, List.set_cons_zero, List.set_cons_succ]
    refine wpL_pure (.bool true) rfl (by kernel_rfl) ?_
    simp only [Act.put, List.setIfInBounds_toArray, List.set_cons_zero, List.set_cons_succ]
    refine wpL_skip rfl ?_
    simp only [Act.put, List.setIfInBounds_toArray, List.set_cons_zero, List.set_cons_succ]
    refine wpL_skip rfl ?_
    simp only [Act.put, List.setIfInBounds_toArray, List.set_cons_zero, List.set_cons_succ]
    refine wpL_pure (.bool true) rfl (by kernel_rfl) ?_
    simp only [Act.put, List.setIfInBounds_toArray, List.set_cons_zero, List.set_cons_succ]
    refine wpL_pure (.bool true) rfl (by kernel_rfl) ?_
    simp only [Act.put, List.setIfInBounds_toArray, List.set_cons_zero, List.set_cons_succ]
    refine wpL_pure (.pointer (some ⟨b, 2, none⟩)) rfl (by kernel_rfl) ?_
    simp only [Act.put, List.setIfInBounds_toArray, List.set_cons_zero, List.set_cons_succ]
    refine wpL_load 25 _ rfl rfl b 2 rfl (six6 g.M) _ HG.out.rM Try.underlying25 rfl size25 ?_
    simp only [Act.put, List.setIfInBounds_toArray, List.set_cons_zero, List.set_cons_succ]
    refine wpL_pure (.int .i64 ((k : Int) + 1)) rfl (by kernel_rfl) ?_
    simp only [Act.put, List.setIfInBounds_toArray, List.set_cons_zero, List.set_cons_succ]
    refine wpL_call 17 #[.agg (six6 g.M).toArray, .int .i64 ((k : Int) + 1)] rfl (by kernel_rfl) ((KM.out false rfl _).mono ?_)
    rintro e wn ⟨rfl, hbn⟩
    refine ⟨_, rfl, ?_⟩
    simp only [Act.put, List.setIfInBounds_toArray, List.set_cons_zero, List.set_cons_succ]
    replace HG : Hid (IsG wn b g) := Lib.hid (Blk.keep HG.out hbn HG.out.lt)
    replace BW : Hid (Below b w wn) := Lib.hid (BW.out.trans (hbn.mono (by have := BW.out.size; have := LE.out; omega)))
    clear hbn
    refine wpL_pure (.bool true) rfl (by kernel_rfl) ?_
    simp only [Act.put, List.setIfInBounds_toArray, List.set_cons_zero, List.set_cons_succ]
    refine wpL_pure (.bool true) rfl (by kernel_rfl) ?_
    simp only [Act.put, List.setIfInBounds_toArray, List.set_cons_zero, List.set_cons_succ]
    refine wpL_skip rfl ?_
    simp only [Act.put, List.setIfInBounds_toArray, List.set_cons_zero, List.set_cons_succ]
    refine wpL_skip rfl ?_
    simp only [Act.put, List.setIfInBounds_toArray, List.set_cons_zero, List.set_cons_succ]
    refine wpL_skip rfl ?_
    simp only [Act.put, List.setIfInBounds_toArray, List.set_cons_zero, List.set_cons_succ]
    refine wpL_skip rfl ?_
    simp only [Act.put, List.setIfInBounds_toArray, List.set_cons_zero, List.set_cons_succ]
    refine wpL_pure (.bool true) rfl (by kernel_rfl) ?_
    simp only [Act.put, List.setIfInBounds_toArray, List.set_cons_zero, List.set_cons_succ]
    refine wpL_pure (.bool true) rfl (by kernel_rfl) ?_
    simp only [Act.put, List.setIfInBounds_toArray, List.set_cons_zero, List.set_cons_succ]
    refine wpL_pure (.bool true) rfl (by kernel_rfl) ?_
    simp only [Act.put, List.setIfInBounds_toArray, List.set_cons_zero, List.set_cons_succ]
    go_wp2_with fail
    go_ret
    exact ⟨ret_i64 (by rw [HRR.out]; simp), by rw [HB.out]; exact BW.out⟩
  · by_cases ho : (k : Int) + 1 = g.o
    · have ho' : ((k : Int) + 1 == g.o) = true := by simpa using ho
      have HO := Lib.hid ho
      clear ho
      refine wpL_pure (.bool false) rfl (by kernel_rfl) ?_
      simp only [Act.put, List.setIfInBounds_toArray, List.set_cons_zero, List.set_cons_succ]
      refine wpL_pure (.bool false) rfl (by kernel_rfl) ?_
      simp only [Act.put, List.setIfInBounds_toArray, List.set_cons_zero, List.set_cons_succ]
      refine wpL_pure (.int .i64 3) rfl (by kernel_rfl) ?_
      simp only [Act.put, List.setIfInBounds_toArray, List.set_cons_zero, List.set_cons_succ]
      refine wpL_pure (.bool true) rfl (by kernel_rfl) ?_
      simp only [Act.put, List.setIfInBounds_toArray, List.set_cons_zero, List.set_cons_succ]
      refine wpL_pure (.bool true) rfl (by kernel_rfl) ?_
      simp only [Act.put, List.setIfInBounds_toArray, List.set_cons_zero, List.set_cons_succ]
      refine wpL_skip rfl ?_
      simp only [Act.put, List.setIfInBounds_toArray, List.set_cons_zero, List.set_cons_succ]
      refine wpL_skip rfl ?_
      simp only [Act.put, List.setIfInBounds_toArray, List.set_cons_zero, List.set_cons_succ]
      refine wpL_pure (.bool true) rfl (by kernel_rfl) ?_
      simp only [Act.put, List.setIfInBounds_toArray, List.set_cons_zero, List.set_cons_succ]
      refine wpL_pure (.bool true) rfl (by kernel_rfl) ?_
      simp only [Act.put, List.setIfInBounds_toArray, List.set_cons_zero, List.set_cons_succ]
      refine wpL_pure (.pointer (some ⟨b, 2, none⟩)) rfl (by kernel_rfl) ?_
      simp only [Act.put, List.setIfInBounds_toArray, List.set_cons_zero, List.set_cons_succ]
      refine wpL_load 25 _ rfl rfl b 2 rfl (six6 g.M) _ HG.out.rM Try.underlying25 rfl size25 ?_
      simp only [Act.put, List.setIfInBounds_toArray, List.set_cons_zero, List.set_cons_succ]
      refine wpL_pure (.int .i64 ((k : Int) + 1)) rfl (by kernel_rfl) ?_
      simp only [Act.put, List.setIfInBounds_toArray, List.set_cons_zero, List.set_cons_succ]
      refine wpL_call 17 #[.agg (six6 g.M).toArray, .int .i64 ((k : Int) + 1)] rfl (by kernel_rfl) ((KM.out true rfl _).mono ?_)
      rintro e wn ⟨rfl, hbn⟩
      refine ⟨_, rfl, ?_⟩
      simp only [Act.put, List.setIfInBounds_toArray, List.set_cons_zero, List.set_cons_succ]
      replace HG : Hid (IsG wn b g) := Lib.hid (Blk.keep HG.out hbn HG.out.lt)
      replace BW : Hid (Below b w wn) := Lib.hid (BW.out.trans (hbn.mono (by have := BW.out.size; have := LE.out; omega)))
      clear hbn
      refine wpL_pure (.bool false) rfl (by kernel_rfl) ?_
      simp only [Act.put, List.setIfInBounds_toArray, List.set_cons_zero, List.set_cons_succ]
      refine wpL_pure (.bool false) rfl (by kernel_rfl) ?_
      simp only [Act.put, List.setIfInBounds_toArray, List.set_cons_zero, List.set_cons_succ]
      refine wpL_pure (.int .i64 ((k : Int) + 1)) rfl (by kernel_rfl) ?_
      simp only [Act.put, List.setIfInBounds_toArray, List.set_cons_zero, List.set_cons_succ]
      refine wpL_pure (.pointer (some ⟨b, 0, none⟩)) rfl (by kernel_rfl) ?_
      simp only [Act.put, List.setIfInBounds_toArray, List.set_cons_zero, List.set_cons_succ]
      refine wpL_pure (.int .i64 g.o) rfl (run_load_one _ _ _ 3 _ _ rfl b 0 rfl HG.out.o (by kernel_rfl)) ?_
      simp only [Act.put, List.setIfInBounds_toArray, List.set_cons_zero, List.set_cons_succ]
      refine wpL_pure (.bool true) rfl (by go_simp) ?_
      simp only [Act.put, List.setIfInBounds_toArray, List.set_cons_zero, List.set_cons_succ]
      refine wpL_pure (.bool true) rfl (by kernel_rfl) ?_
      simp only [Act.put, List.setIfInBounds_toArray, List.set_cons_zero, List.set_cons_succ]
      refine wpL_pure (.bool true) rfl (by kernel_rfl) ?_
      simp only [Act.put, List.setIfInBounds_toArray, List.set_cons_zero, List.set_cons_succ]
      refine wpL_pure (.bool true) rfl (by kernel_rfl) ?_
      simp only [Act.put, List.setIfInBounds_toArray, List.set_cons_zero, List.set_cons_succ]
      go_wp2_with fail
      go_ret
      exact ⟨ret_i64 (by rw [HRR.out]; simp [HO.out]), by rw [HB.out]; exact BW.out⟩
    · have ho' : ((k : Int) + 1 == g.o) = false := by simpa using ho
      have HO := Lib.hid ho
      clear ho
      refine wpL_pure (.bool false) rfl (by kernel_rfl) ?_
      simp only [Act.put, List.setIfInBounds_toArray, List.set_cons_zero, List.set_cons_succ]
      refine wpL_pure (.bool false) rfl (by kernel_rfl) ?_
      simp only [Act.put, List.setIfInBounds_toArray, List.set_cons_zero, List.set_cons_succ]
      refine wpL_pure (.int .i64 3) rfl (by kernel_rfl) ?_
      simp only [Act.put, List.setIfInBounds_toArray, List.set_cons_zero, List.set_cons_succ]
      refine wpL_pure (.bool true) rfl (by kernel_rfl) ?_
      simp only [Act.put, List.setIfInBounds_toArray, List.set_cons_zero, List.set_cons_succ]
      refine wpL_pure (.bool true) rfl (by kernel_rfl) ?_
      simp only [Act.put, List.setIfInBounds_toArray, List.set_cons_zero, List.set_cons_succ]
      refine wpL_skip rfl ?_
      simp only [Act.put, List.setIfInBounds_toArray, List.set_cons_zero, List.set_cons_succ]
      refine wpL_skip rfl ?_
      simp only [Act.put, List.setIfInBounds_toArray, List.set_cons_zero, List.set_cons_succ]
      refine wpL_pure (.bool true) rfl (by kernel_rfl) ?_
      simp only [Act.put, List.setIfInBounds_toArray, List.set_cons_zero, List.set_cons_succ]
      refine wpL_pure (.bool true) rfl (by kernel_rfl) ?_
      simp only [Act.put, List.setIfInBounds_toArray, List.set_cons_zero, List.set_cons_succ]
      refine wpL_pure (.pointer (some ⟨b, 2, none⟩)) rfl (by kernel_rfl) ?_
      simp only [Act.put, List.setIfInBounds_toArray, List.set_cons_zero, List.set_cons_succ]
      refine wpL_load 25 _ rfl rfl b 2 rfl (six6 g.M) _ HG.out.rM Try.underlying25 rfl size25 ?_
      simp only [Act.put, List.setIfInBounds_toArray, List.set_cons_zero, List.set_cons_succ]
      refine wpL_pure (.int .i64 ((k : Int) + 1)) rfl (by kernel_rfl) ?_
      simp only [Act.put, List.setIfInBounds_toArray, List.set_cons_zero, List.set_cons_succ]
      refine wpL_call 17 #[.agg (six6 g.M).toArray, .int .i64 ((k : Int) + 1)] rfl (by kernel_rfl) ((KM.out true rfl _).mono ?_)
      rintro e wn ⟨rfl, hbn⟩
      refine ⟨_, rfl, ?_⟩
      simp only [Act.put, List.setIfInBounds_toArray, List.set_cons_zero, List.set_cons_succ]
      replace HG : Hid (IsG wn b g) := Lib.hid (Blk.keep HG.out hbn HG.out.lt)
      replace BW : Hid (Below b w wn) := Lib.hid (BW.out.trans (hbn.mono (by have := BW.out.size; have := LE.out; omega)))
      clear hbn
      refine wpL_pure (.bool false) rfl (by kernel_rfl) ?_
      simp only [Act.put, List.setIfInBounds_toArray, List.set_cons_zero, List.set_cons_succ]
      refine wpL_pure (.bool false) rfl (by kernel_rfl) ?_
      simp only [Act.put, List.setIfInBounds_toArray, List.set_cons_zero, List.set_cons_succ]
      refine wpL_pure (.int .i64 ((k : Int) + 1)) rfl (by kernel_rfl) ?_
      simp only [Act.put, List.setIfInBounds_toArray, List.set_cons_zero, List.set_cons_succ]
      refine wpL_pure (.pointer (some ⟨b, 0, none⟩)) rfl (by kernel_rfl) ?_
      simp only [Act.put, List.setIfInBounds_toArray, List.set_cons_zero, List.set_cons_succ]
      refine wpL_pure (.int .i64 g.o) rfl (run_load_one _ _ _ 3 _ _ rfl b 0 rfl HG.out.o (by kernel_rfl)) ?_
      simp only [Act.put, List.setIfInBounds_toArray, List.set_cons_zero, List.set_cons_succ]
      refine wpL_pure (.bool false) rfl (by go_simp) ?_
      simp only [Act.put, List.setIfInBounds_toArray, List.set_cons_zero, List.set_cons_succ]
      refine wpL_pure (.bool false) rfl (by kernel_rfl) ?_
      simp only [Act.put, List.setIfInBounds_toArray, List.set_cons_zero, List.set_cons_succ]
      refine wpL_pure (.bool false) rfl (by kernel_rfl) ?_
      simp only [Act.put, List.setIfInBounds_toArray, List.set_cons_zero, List.set_cons_succ]
      refine wpL_pure (.bool false) rfl (by kernel_rfl) ?_
      simp only [Act.put, List.setIfInBounds_toArray, List.set_cons_zero, List.set_cons_succ]
      clear ho'
      have ce := HG.out.e
      by_cases h255 : 255 ≤ g.e
      · go_wp2_with (go_at_call 16; ((with_reducible refine (KA.out _).mono ?_); rintro e w' ⟨rfl, rfl⟩))
        go_ret
        exact ⟨ret_i64 (by rw [HRR.out]; simp [h255, HO.out]), by rw [HB.out]; exact BW.out⟩
      · have h255' : decide (255 ≤ g.e) = false := by simpa using h255
        have H255 := Lib.hid h255
        clear h255
        go_wp2_with (go_at_call 16; ((with_reducible refine (KA.out _).mono ?_); rintro e w' ⟨rfl, rfl⟩))
        go_ret
        exact ⟨ret_i64 (by rw [HRR.out]; have := H255.out; simp [HO.out]; try omega), by rw [HB.out]; exact BW.out⟩
set_option maxHeartbeats 1000000 in
theorem rmay_5 (w : World) (g : Grp) (k : Nat) (hk : k < 6) (ha : askedB g.o 5 ((k : Int) + 1) = true) (r : Int) (hr : r = (if g.M k && decide ((k : Int) + 1 ≠ g.o) then 0 else 12)) :
    Calls Try.prog 10 #[.agg g.cells.toArray, .int .i64 g.o, .int .i64 5, .int .i64 ((k : Int) + 1)] w fun e w' => e = .returned (.int .i64 r) ∧ Below w.heap.size w w' := by
  have HRR := Lib.hid hr
  clear hr
  have ka := wrong_any g.o 5 ((k : Int) + 1)
  rw [ha] at ka
  have KA := Lib.hid ka
  clear ka ha
  have k0 : (0 : Int) ≤ (k : Int) := by omega
  have k6 : (k : Int) < 6 := by omega
  have HK := Lib.hid hk
  clear hk
  go_enter Try.func10, Try.ntmps10
  go_upto_region 1 with (fail)
  obtain ⟨W, hW⟩ : ∃ V, V = w.alloc (.cells g.cells.toArray 28) := ⟨_, rfl⟩
  rw [← hW]
  have hG : IsG W w.heap.size g := by rw [hW]; exact IsG.new w g
  have HG := Lib.hid hG
  have BW : Hid (Below w.heap.size w W) := Lib.hid (by rw [hW]; exact (Below.refl _ _).alloc (Nat.le_refl _) _)
  clear hW hG
  generalize hb : w.heap.size = b at *
  have HB := Lib.hid hb
  have LE : Hid (b ≤ w.heap.size) := Lib.hid (by omega)
  clear hb
  have co := HG.out.o
  have KM := Lib.hid (in_at g.M k HK.out)
  generalize g.M k = m at KM HRR
  go_upto_region 5 with (go_at_call 16; ((with_reducible refine (KA.out _).mono ?_); rintro e w' ⟨rfl, rfl⟩))
  clear co
  refine wp_region_lit ?_
  cases m
  · skip
    refine wpL_pure (.bool false) rfl (by kernel_rfl) ?_
    simp only [Act.put, List.setIfInBounds_toArray, List.set_cons_zero, List.set_cons_succ]
    refine wpL_pure (.bool false) rfl (by kernel_rfl) ?_
    simp only [Act.put, List.setIfInBounds_toArray, List.set_cons_zero, List.set_cons_succ]
    refine wpL_pure (.int .i64 5) rfl (by kernel_rfl) ?_
    simp only [Act.put, List.setIfInBounds_toArray, List.set_cons_zero, List.set_cons_succ]
    refine wpL_pure (.bool false) rfl (by kernel_rfl) ?_
    simp only [Act.put, List.setIfInBounds_toArray, List.set_cons_zero, List.set_cons_succ]
    refine wpL_pure (.bool false) rfl (by kernel_rfl) ?_
    simp only [Act.put, List.setIfInBounds_toArray, List.set_cons_zero, List.set_cons_succ]
    refine wpL_pure (.int .i64 5) rfl (by kernel_rfl) ?_
    simp only [Act.put, List.setIfInBounds_toArray, List.set_cons_zero, List.set_cons_succ]
    refine wpL_pure (.bool true) rfl (by kernel_rfl) ?_
    simp only [Act.put, List.setIfInBounds_toArray, List.set_cons_zero, List.set_cons_succ]
    refine wpL_pure (.bool true) rfl (by kernel_rfl) ?_
    simp only [Act.put, List.setIfInBounds_toArray, List.set_cons_zero, List.set_cons_succ]
    refine wpL_pure (.bool true) rfl (by kernel_rfl) ?_
    simp only [Act.put, List.setIfInBounds_toArray, List.set_cons_zero, List.set_cons_succ]
    refine wpL_pure (.pointer (some ⟨b, 2, none⟩)) rfl (by kernel_rfl) ?_
    simp only [Act.put, List.setIfInBounds_toArray, List.set_cons_zero, List.set_cons_succ]
    refine wpL_load 25 _ rfl rfl b 2 rfl (six6 g.M) _ HG.out.rM Try.underlying25 rfl size25 ?_
    simp only [Act.put, List.setIfInBounds_toArray, List.set_cons_zero, List.set_cons_succ]
    refine wpL_pure (.int .i64 ((k : Int) + 1)) rfl (by kernel_rfl) ?_
    simp only [Act.put, List.setIfInBounds_toArray, List.set_cons_zero, List.set_cons_succ]
    refine wpL_call 17 #[.agg (six6 g.M).toArray, .int .i64 ((k : Int) + 1)] rfl (by kernel_rfl) ((KM.out false rfl _).mono ?_)
    rintro e wn ⟨rfl, hbn⟩
    refine ⟨_, rfl, ?_⟩
    simp only [Act.put, List.setIfInBounds_toArray, List.set_cons_zero, List.set_cons_succ]
    replace HG : Hid (IsG wn b g) := Lib.hid (Blk.keep HG.out hbn HG.out.lt)
    replace BW : Hid (Below b w wn) := Lib.hid (BW.out.trans (hbn.mono (by have := BW.out.size; have := LE.out; omega)))
    clear hbn
    refine wpL_pure (.bool true) rfl (by kernel_rfl) ?_
    simp only [Act.put, List.setIfInBounds_toArray, List.set_cons_zero, List.set_cons_succ]
    refine wpL_pure (.bool true) rfl (by kernel_rfl) ?_
    simp only [Act.put, List.setIfInBounds_toArray, List.set_cons_zero, List.set_cons_succ]
    refine wpL_skip rfl ?_
    simp only [Act.put, List.setIfInBounds_toArray, List.set_cons_zero, List.set_cons_succ]
    refine wpL_skip rfl ?_
    simp only [Act.put, List.setIfInBounds_toArray, List.set_cons_zero, List.set_cons_succ]
    refine wpL_skip rfl ?_
    simp only [Act.put, List.setIfInBounds_toArray, List.set_cons_zero, List.set_cons_succ]
    refine wpL_skip rfl ?_
    simp only [Act.put, List.setIfInBounds_toArray, List.set_cons_zero, List.set_cons_succ]
    refine wpL_pure (.bool true) rfl (by kernel_rfl) ?_
    simp only [Act.put, List.setIfInBounds_toArray, List.set_cons_zero, List.set_cons_succ]
    refine wpL_pure (.bool true) rfl (by kernel_rfl) ?_
    simp only [Act.put, List.setIfInBounds_toArray, List.set_cons_zero, List.set_cons_succ]
    refine wpL_pure (.bool true) rfl (by kernel_rfl) ?_
    simp only [Act.put, List.setIfInBounds_toArray, List.set_cons_zero, List.set_cons_succ]
    go_wp2_with fail
    go_ret
    exact ⟨ret_i64 (by rw [HRR.out]; simp), by rw [HB.out]; exact BW.out⟩
  · by_cases ho : (k : Int) + 1 = g.o
    · have ho' : ((k : Int) + 1 == g.o) = true := by simpa using ho
      have HO := Lib.hid ho
      clear ho
      refine wpL_pure (.bool false) rfl (by kernel_rfl) ?_
      simp only [Act.put, List.setIfInBounds_toArray, List.set_cons_zero, List.set_cons_succ]
      refine wpL_pure (.bool false) rfl (by kernel_rfl) ?_
      simp only [Act.put, List.setIfInBounds_toArray, List.set_cons_zero, List.set_cons_succ]
      refine wpL_pure (.int .i64 5) rfl (by kernel_rfl) ?_
      simp only [Act.put, List.setIfInBounds_toArray, List.set_cons_zero, List.set_cons_succ]
      refine wpL_pure (.bool false) rfl (by kernel_rfl) ?_
      simp only [Act.put, List.setIfInBounds_toArray, List.set_cons_zero, List.set_cons_succ]
      refine wpL_pure (.bool false) rfl (by kernel_rfl) ?_
      simp only [Act.put, List.setIfInBounds_toArray, List.set_cons_zero, List.set_cons_succ]
      refine wpL_pure (.int .i64 5) rfl (by kernel_rfl) ?_
      simp only [Act.put, List.setIfInBounds_toArray, List.set_cons_zero, List.set_cons_succ]
      refine wpL_pure (.bool true) rfl (by kernel_rfl) ?_
      simp only [Act.put, List.setIfInBounds_toArray, List.set_cons_zero, List.set_cons_succ]
      refine wpL_pure (.bool true) rfl (by kernel_rfl) ?_
      simp only [Act.put, List.setIfInBounds_toArray, List.set_cons_zero, List.set_cons_succ]
      refine wpL_pure (.bool true) rfl (by kernel_rfl) ?_
      simp only [Act.put, List.setIfInBounds_toArray, List.set_cons_zero, List.set_cons_succ]
      refine wpL_pure (.pointer (some ⟨b, 2, none⟩)) rfl (by kernel_rfl) ?_
      simp only [Act.put, List.setIfInBounds_toArray, List.set_cons_zero, List.set_cons_succ]
      refine wpL_load 25 _ rfl rfl b 2 rfl (six6 g.M) _ HG.out.rM Try.underlying25 rfl size25 ?_
      simp only [Act.put, List.setIfInBounds_toArray, List.set_cons_zero, List.set_cons_succ]
      refine wpL_pure (.int .i64 ((k : Int) + 1)) rfl (by kernel_rfl) ?_
      simp only [Act.put, List.setIfInBounds_toArray, List.set_cons_zero, List.set_cons_succ]
      refine wpL_call 17 #[.agg (six6 g.M).toArray, .int .i64 ((k : Int) + 1)] rfl (by kernel_rfl) ((KM.out true rfl _).mono ?_)
      rintro e wn ⟨rfl, hbn⟩
      refine ⟨_, rfl, ?_⟩
      simp only [Act.put, List.setIfInBounds_toArray, List.set_cons_zero, List.set_cons_succ]
      replace HG : Hid (IsG wn b g) := Lib.hid (Blk.keep HG.out hbn HG.out.lt)
      replace BW : Hid (Below b w wn) := Lib.hid (BW.out.trans (hbn.mono (by have := BW.out.size; have := LE.out; omega)))
      clear hbn
      refine wpL_pure (.bool false) rfl (by kernel_rfl) ?_
      simp only [Act.put, List.setIfInBounds_toArray, List.set_cons_zero, List.set_cons_succ]
      refine wpL_pure (.bool false) rfl (by kernel_rfl) ?_
      simp only [Act.put, List.setIfInBounds_toArray, List.set_cons_zero, List.set_cons_succ]
      refine wpL_pure (.int .i64 ((k : Int) + 1)) rfl (by kernel_rfl) ?_
      simp only [Act.put, List.setIfInBounds_toArray, List.set_cons_zero, List.set_cons_succ]
      refine wpL_pure (.pointer (some ⟨b, 0, none⟩)) rfl (by kernel_rfl) ?_
      simp only [Act.put, List.setIfInBounds_toArray, List.set_cons_zero, List.set_cons_succ]
      refine wpL_pure (.int .i64 g.o) rfl (run_load_one _ _ _ 3 _ _ rfl b 0 rfl HG.out.o (by kernel_rfl)) ?_
      simp only [Act.put, List.setIfInBounds_toArray, List.set_cons_zero, List.set_cons_succ]
      refine wpL_pure (.bool true) rfl (by go_simp) ?_
      simp only [Act.put, List.setIfInBounds_toArray, List.set_cons_zero, List.set_cons_succ]
      refine wpL_pure (.bool true) rfl (by kernel_rfl) ?_
      simp only [Act.put, List.setIfInBounds_toArray, List.set_cons_zero, List.set_cons_succ]
      refine wpL_pure (.bool true) rfl (by kernel_rfl) ?_
      simp only [Act.put, List.setIfInBounds_toArray, List.set_cons_zero, List.set_cons_succ]
      refine wpL_pure (.bool true) rfl (by kernel_rfl) ?_
      simp only [Act.put, List.setIfInBounds_toArray, List.set_cons_zero, List.set_cons_succ]
      go_wp2_with fail
      go_ret
      exact ⟨ret_i64 (by rw [HRR.out]; simp [HO.out]), by rw [HB.out]; exact BW.out⟩
    · have ho' : ((k : Int) + 1 == g.o) = false := by simpa using ho
      have HO := Lib.hid ho
      clear ho
      refine wpL_pure (.bool false) rfl (by kernel_rfl) ?_
      simp only [Act.put, List.setIfInBounds_toArray, List.set_cons_zero, List.set_cons_succ]
      refine wpL_pure (.bool false) rfl (by kernel_rfl) ?_
      simp only [Act.put, List.setIfInBounds_toArray, List.set_cons_zero, List.set_cons_succ]
      refine wpL_pure (.int .i64 5) rfl (by kernel_rfl) ?_
      simp only [Act.put, List.setIfInBounds_toArray, List.set_cons_zero, List.set_cons_succ]
      refine wpL_pure (.bool false) rfl (by kernel_rfl) ?_
      simp only [Act.put, List.setIfInBounds_toArray, List.set_cons_zero, List.set_cons_succ]
      refine wpL_pure (.bool false) rfl (by kernel_rfl) ?_
      simp only [Act.put, List.setIfInBounds_toArray, List.set_cons_zero, List.set_cons_succ]
      refine wpL_pure (.int .i64 5) rfl (by kernel_rfl) ?_
      simp only [Act.put, List.setIfInBounds_toArray, List.set_cons_zero, List.set_cons_succ]
      refine wpL_pure (.bool true) rfl (by kernel_rfl) ?_
      simp only [Act.put, List.setIfInBounds_toArray, List.set_cons_zero, List.set_cons_succ]
      refine wpL_pure (.bool true) rfl (by kernel_rfl) ?_
      simp only [Act.put, List.setIfInBounds_toArray, List.set_cons_zero, List.set_cons_succ]
      refine wpL_pure (.bool true) rfl (by kernel_rfl) ?_
      simp only [Act.put, List.setIfInBounds_toArray, List.set_cons_zero, List.set_cons_succ]
      refine wpL_pure (.pointer (some ⟨b, 2, none⟩)) rfl (by kernel_rfl) ?_
      simp only [Act.put, List.setIfInBounds_toArray, List.set_cons_zero, List.set_cons_succ]
      refine wpL_load 25 _ rfl rfl b 2 rfl (six6 g.M) _ HG.out.rM Try.underlying25 rfl size25 ?_
      simp only [Act.put, List.setIfInBounds_toArray, List.set_cons_zero, List.set_cons_succ]
      refine wpL_pure (.int .i64 ((k : Int) + 1)) rfl (by kernel_rfl) ?_
      simp only [Act.put, List.setIfInBounds_toArray, List.set_cons_zero, List.set_cons_succ]
      refine wpL_call 17 #[.agg (six6 g.M).toArray, .int .i64 ((k : Int) + 1)] rfl (by kernel_rfl) ((KM.out true rfl _).mono ?_)
      rintro e wn ⟨rfl, hbn⟩
      refine ⟨_, rfl, ?_⟩
      simp only [Act.put, List.setIfInBounds_toArray, List.set_cons_zero, List.set_cons_succ]
      replace HG : Hid (IsG wn b g) := Lib.hid (Blk.keep HG.out hbn HG.out.lt)
      replace BW : Hid (Below b w wn) := Lib.hid (BW.out.trans (hbn.mono (by have := BW.out.size; have := LE.out; omega)))
      clear hbn
      refine wpL_pure (.bool false) rfl (by kernel_rfl) ?_
      simp only [Act.put, List.setIfInBounds_toArray, List.set_cons_zero, List.set_cons_succ]
      refine wpL_pure (.bool false) rfl (by kernel_rfl) ?_
      simp only [Act.put, List.setIfInBounds_toArray, List.set_cons_zero, List.set_cons_succ]
      refine wpL_pure (.int .i64 ((k : Int) + 1)) rfl (by kernel_rfl) ?_
      simp only [Act.put, List.setIfInBounds_toArray, List.set_cons_zero, List.set_cons_succ]
      refine wpL_pure (.pointer (some ⟨b, 0, none⟩)) rfl (by kernel_rfl) ?_
      simp only [Act.put, List.setIfInBounds_toArray, List.set_cons_zero, List.set_cons_succ]
      refine wpL_pure (.int .i64 g.o) rfl (run_load_one _ _ _ 3 _ _ rfl b 0 rfl HG.out.o (by kernel_rfl)) ?_
      simp only [Act.put, List.setIfInBounds_toArray, List.set_cons_zero, List.set_cons_succ]
      refine wpL_pure (.bool false) rfl (by go_simp) ?_
      simp only [Act.put, List.setIfInBounds_toArray, List.set_cons_zero, List.set_cons_succ]
      refine wpL_pure (.bool false) rfl (by kernel_rfl) ?_
      simp only [Act.put, List.setIfInBounds_toArray, List.set_cons_zero, List.set_cons_succ]
      refine wpL_pure (.bool false) rfl (by kernel_rfl) ?_
      simp only [Act.put, List.setIfInBounds_toArray, List.set_cons_zero, List.set_cons_succ]
      refine wpL_pure (.bool false) rfl (by kernel_rfl) ?_
      simp only [Act.put, List.setIfInBounds_toArray, List.set_cons_zero, List.set_cons_succ]
      clear ho'
      have ce := HG.out.e
      go_wp2_with (go_at_call 16; ((with_reducible refine (KA.out _).mono ?_); rintro e w' ⟨rfl, rfl⟩))
      go_ret
      exact ⟨ret_i64 (by rw [HRR.out]; simp [HO.out]), by rw [HB.out]; exact BW.out⟩
theorem rmay_any (w : World) (g : Grp) (wr op mb : Int) :
    Calls Try.prog 10 #[.agg g.cells.toArray, .int .i64 wr, .int .i64 op, .int .i64 mb] w fun e w' => e = .returned (.int .i64 (mayI g wr op mb)) ∧ Below w.heap.size w w' := by
  unfold mayI
  cases h : askedB wr op mb
  · rw [if_pos rfl]
    exact rmay_wrong w g wr op mb h _ rfl
  rw [if_neg (by simp)]
  have h' := h
  unfold askedB at h'
  simp only [Bool.and_eq_true, decide_eq_true_eq] at h'
  obtain ⟨⟨hw, hop1, hop5⟩, hm⟩ := h'
  by_cases h1 : op = 1
  · subst h1
    by_cases ho : g.o = 0
    · have := rmay_create w g wr mb h ho _ rfl
      simpa [fitsB, ho] using this
    · have := rmay_create_no w g wr mb h ho _ rfl
      simpa [fitsB, ho] using this
  by_cases ho : wr = g.o
  · subst ho
    have hop : op = 2 ∨ op = 3 ∨ op = 4 ∨ op = 5 := by omega
    rcases hop with rfl | rfl | rfl | rfl
    · rw [if_pos (by simp)] at hm
      obtain ⟨k, hk, rfl⟩ := known_nat mb hm
      have := rmay_add w g k hk h _ rfl
      simp only [fitsB, kn]
      cases hM : g.M k <;> cases hG : g.G k <;> simpa [hM, hG] using this
    · rw [if_pos (by simp)] at hm
      obtain ⟨k, hk, rfl⟩ := known_nat mb hm
      have := rmay_3 w g k hk h _ rfl
      simp only [fitsB, kn]
      cases hM : g.M k <;> by_cases hc : (k : Int) + 1 = g.o <;> simpa [hM, hc] using this
    · have := rmay_four w g mb h _ rfl
      simpa [fitsB] using this
    · rw [if_pos (by simp)] at hm
      obtain ⟨k, hk, rfl⟩ := known_nat mb hm
      have := rmay_5 w g k hk h _ rfl
      simp only [fitsB, kn]
      cases hM : g.M k <;> by_cases hc : (k : Int) + 1 = g.o <;> simpa [hM, hc] using this
  · have := rmay_other w g wr op mb h h1 ho _ rfl
    simpa [fitsB, h1, ho] using this
end Go.Proofs.Ytdhpgadhdgpbdaa
