import Derived.Test.YtdhpgadhdgpbdaaG13
namespace Go.Proofs.Ytdhpgadhdgpbdaa
open Go.RowKit

/-- the group that came at b, a result at b + 1, the group under way at b + 2. -/
def BR (b : Nat) (w : World) (g g' : Grp) (W : World) : Prop := IsG W b g ∧ Blk W (b + 1) 28 #[.int .i64 0, .int .i64 0, .bool false, .bool false, .bool false, .bool false, .bool false, .bool false, .bool false, .bool false, .bool false, .bool false, .bool false, .bool false, .int .u64 0, .int .u64 0, .int .u64 0, .int .u64 0, .int .u64 0, .int .u64 0, .int .i64 0] ∧ IsG W (b + 1 + 1) g' ∧ Below b w W
theorem BR.set {b : Nat} {w W : World} {g g' g2 : Grp} (h : BR b w g g' W) (j : Nat) (v : Value) (hg : IsG (W.setCell ⟨b + 1 + 1, j, none⟩ v) (b + 1 + 1) g2) : BR b w g g2 (W.setCell ⟨b + 1 + 1, j, none⟩ v) :=
  ⟨(heap_setCell_other _ _ _ _ (by simp; omega)).trans h.1, (heap_setCell_other _ _ _ _ (by simp)).trans h.2.1, hg, h.2.2.2.setCell (show b ≤ b + 1 + 1 by omega) v⟩
theorem rbehind_no (w : World) (g : Grp) (wr op mb cut : Int) (ha : askedB wr op mb = false) :
    Calls Try.prog 11 #[.agg g.cells.toArray, .int .i64 wr, .int .i64 op, .int .i64 mb, .int .u64 cut] w fun e w' => e = .returned (.agg g.cells.toArray) ∧ Below w.heap.size w w' := by
  have ka := wrong_any wr op mb
  rw [ha] at ka
  have KA := Lib.hid ka
  clear ka ha
  go_enter Try.func11, Try.ntmps11
  go_upto_region 1 with (fail)
  obtain ⟨W, hW⟩ : ∃ V, V = (w.alloc (.cells g.cells.toArray 28)).alloc (.cells #[.int .i64 0, .int .i64 0, .bool false, .bool false, .bool false, .bool false, .bool false, .bool false, .bool false, .bool false, .bool false, .bool false, .bool false, .bool false, .int .u64 0, .int .u64 0, .int .u64 0, .int .u64 0, .int .u64 0, .int .u64 0, .int .i64 0] 28) := ⟨_, rfl⟩
  rw [← hW]
  have h0 : BH w.heap.size w g W := by rw [hW]; exact BH.new w g
  have sz : W.heap.size = w.heap.size + 1 + 1 := by rw [hW]; simp
  have H := Lib.hid h0
  have SZ := Lib.hid sz
  clear hW h0 sz
  generalize hb : w.heap.size = b at *
  have HB := Lib.hid hb
  clear hb
  go_upto_region 2 with (go_at_call 16; ((with_reducible refine (KA.out _).mono ?_); rintro e w' ⟨rfl, rfl⟩))
  go_wp2_with (first | (refine wpList_load_row rfl 28 _ rfl b rfl 28 _ (0, 0) _ H.out.1 Try.underlying28 rfl (sizeG _) ?_) | (refine wpList_store_row rfl 28 _ _ rfl (b + 1) _ rfl rfl 28 _ H.out.2.1 (sizeG _) rfl (one_cells _) ?_))
  refine bodyPost_ret (results_cell_row rfl _ _ (b + 1) 28 _ (0, 0) _ rfl (setRow_heap _ _ _ _ _ _ H.out.2.1) Try.underlying28 rfl (sizeG _)) rfl ⟨?_, ?_⟩
  · rfl
  · rw [HB.out]; exact below_setRow H.out.2.2 (Nat.le_succ _) _
set_option maxHeartbeats 1000000 in
theorem rbehind_create (w : World) (g : Grp) (k : Nat) (hk : k < 6) (mb cut : Int) (ha : askedB ((k : Int) + 1) 1 mb = true) (e0 : -1 ≤ g.e) (e1 : g.e ≤ 1000) (s0 : 0 ≤ g.s) (s1 : g.s ≤ 1000) :
    Calls Try.prog 11 #[.agg g.cells.toArray, .int .i64 ((k : Int) + 1), .int .i64 1, .int .i64 mb, .int .u64 cut] w fun e w' => e = .returned (.agg ({ g with o := (k : Int) + 1, M := upd g.M k true, e := g.e + 1, s := g.s + 1 }).cells.toArray) ∧ Below w.heap.size w w' := by
  have k0 : (0 : Int) ≤ (k : Int) := by omega
  have k6 : (k : Int) < 6 := by omega
  have HK := Lib.hid hk
  clear hk
  have ka := wrong_any ((k : Int) + 1) 1 mb
  rw [ha] at ka
  have KA := Lib.hid ka
  clear ka ha
  go_enter Try.func11, Try.ntmps11
  go_upto_region 1 with (fail)
  obtain ⟨W, hW⟩ : ∃ V, V = (w.alloc (.cells g.cells.toArray 28)).alloc (.cells #[.int .i64 0, .int .i64 0, .bool false, .bool false, .bool false, .bool false, .bool false, .bool false, .bool false, .bool false, .bool false, .bool false, .bool false, .bool false, .int .u64 0, .int .u64 0, .int .u64 0, .int .u64 0, .int .u64 0, .int .u64 0, .int .i64 0] 28) := ⟨_, rfl⟩
  rw [← hW]
  have h0 : BH w.heap.size w g W := by rw [hW]; exact BH.new w g
  have sz : W.heap.size = w.heap.size + 1 + 1 := by rw [hW]; simp
  have H := Lib.hid h0
  have SZ := Lib.hid sz
  clear hW h0 sz
  generalize hb : w.heap.size = b at *
  have HB := Lib.hid hb
  clear hb
  have bn0 : Blk (W.alloc (.cells #[.int .i64 0, .int .i64 0, .bool false, .bool false, .bool false, .bool false, .bool false, .bool false, .bool false, .bool false, .bool false, .bool false, .bool false, .bool false, .int .u64 0, .int .u64 0, .int .u64 0, .int .u64 0, .int .u64 0, .int .u64 0, .int .i64 0] 28)) (b + 1 + 1) 28 #[.int .i64 0, .int .i64 0, .bool false, .bool false, .bool false, .bool false, .bool false, .bool false, .bool false, .bool false, .bool false, .bool false, .bool false, .bool false, .int .u64 0, .int .u64 0, .int .u64 0, .int .u64 0, .int .u64 0, .int .u64 0, .int .i64 0] := Blk.new' _ _ _ _ SZ.out.symm
  have BN := Lib.hid bn0
  clear bn0
  go_upto_region 4 with (first | (go_at_call 16; ((with_reducible refine (KA.out _).mono ?_); rintro e w' ⟨rfl, rfl⟩)) | (refine wpList_load_row rfl 28 _ rfl b rfl 28 _ (0, 0) _ H.out.1 Try.underlying28 rfl (sizeG _) ?_) | (refine wpList_store_row rfl 28 _ _ rfl (b + 1 + 1) _ (by simp only [SZ.out]; rfl) rfl 28 _ BN.out (sizeG _) rfl (one_cells _) ?_))
  simp only [Act.put, List.setIfInBounds_toArray, List.set_cons_zero, List.set_cons_succ]
  obtain ⟨W0, hW⟩ : ∃ V, V = (W.alloc (.cells #[.int .i64 0, .int .i64 0, .bool false, .bool false, .bool false, .bool false, .bool false, .bool false, .bool false, .bool false, .bool false, .bool false, .bool false, .bool false, .int .u64 0, .int .u64 0, .int .u64 0, .int .u64 0, .int .u64 0, .int .u64 0, .int .i64 0] 28)).setRow (b + 1 + 1) g.cells.toArray := ⟨_, rfl⟩
  try rw [SZ.out]
  rw [← hW]
  have H0 : Hid (BR b w g g W0) := Lib.hid (by
    rw [hW]
    have hl := H.out.1.lt
    have hl2 := H.out.2.1.lt
    exact ⟨(setRow_other _ _ _ _ (by omega)).trans (Blk.alloc H.out.1 _), (setRow_other _ _ _ _ (by omega)).trans (Blk.alloc H.out.2.1 _), setRow_heap _ _ _ _ _ _ BN.out, below_setRow (H.out.2.2.alloc (by omega) _) (by omega) _⟩)
  clear hW BN H
  have q1 := H0.out.1.s
  have c1 := H0.out.2.2.1.s
  have f1 : W0.frozen? ⟨b + 1 + 1, 20, none⟩ = false := H0.out.2.2.1.fo _
  go_upto_region 6 with (fail)
  obtain ⟨W1, hW⟩ : ∃ V, V = W0.setCell ⟨b + 1 + 1, 20, none⟩ (.int .i64 (g.s + 1)) := ⟨_, rfl⟩
  rw [← hW]
  have H1 : Hid (BR b w g _ W1) := Lib.hid (by rw [hW]; exact BR.set H0.out _ _ (IsG.setS H0.out.2.2.1 _))
  clear hW c1 f1
  clear q1
  have q1 := H1.out.1.e
  have c1 := H1.out.2.2.1.e
  have f1 : W1.frozen? ⟨b + 1 + 1, 1, none⟩ = false := H1.out.2.2.1.fo _
  go_upto_region 8 with (fail)
  obtain ⟨W2, hW⟩ : ∃ V, V = W1.setCell ⟨b + 1 + 1, 1, none⟩ (.int .i64 (g.e + 1)) := ⟨_, rfl⟩
  rw [← hW]
  have H2 : Hid (BR b w g _ W2) := Lib.hid (by rw [hW]; exact BR.set H1.out _ _ (IsG.setE H1.out.2.2.1 _))
  clear hW c1 f1
  clear q1
  have c1 := H2.out.2.2.1.o
  have f1 : W2.frozen? ⟨b + 1 + 1, 0, none⟩ = false := H2.out.2.2.1.fo _
  go_upto_region 9 with (fail)
  obtain ⟨W3, hW⟩ : ∃ V, V = W2.setCell ⟨b + 1 + 1, 0, none⟩ (.int .i64 ((k : Int) + 1)) := ⟨_, rfl⟩
  rw [← hW]
  have H3 : Hid (BR b w g _ W3) := Lib.hid (by rw [hW]; exact BR.set H2.out _ _ (IsG.setO H2.out.2.2.1 _))
  clear hW c1 f1
  have c1 := H3.out.2.2.1.cm k HK.out
  have f1 : W3.frozen? ⟨b + 1 + 1, 2 + k, none⟩ = false := H3.out.2.2.1.fo _
  go_upto_region 10 with (fail)
  obtain ⟨W4, hW⟩ : ∃ V, V = W3.setCell ⟨b + 1 + 1, 2 + k, none⟩ (.bool true) := ⟨_, rfl⟩
  rw [← hW]
  have H4 : Hid (BR b w g _ W4) := Lib.hid (by rw [hW]; exact BR.set H3.out _ _ (IsG.setM H3.out.2.2.1 k HK.out true))
  clear hW c1 f1
  go_upto_region 18 with (fail)
  go_wp2_with (first | (refine wpList_load_row rfl 28 _ rfl (b + 1 + 1) rfl 28 _ (0, 0) _ H4.out.2.2.1 Try.underlying28 rfl (sizeG _) ?_) | (refine wpList_store_row rfl 28 _ _ rfl (b + 1) _ rfl rfl 28 _ H4.out.2.1 (sizeG _) rfl (one_cells _) ?_))
  refine bodyPost_ret (results_cell_row rfl _ _ (b + 1) 28 _ (0, 0) _ rfl (setRow_heap _ _ _ _ _ _ H4.out.2.1) Try.underlying28 rfl (sizeG _)) rfl ⟨?_, ?_⟩
  · rfl
  · rw [HB.out]; exact below_setRow H4.out.2.2.2 (Nat.le_succ _) _
set_option maxHeartbeats 1000000 in
theorem rbehind_add (w : World) (g : Grp) (k : Nat) (hk : k < 6) (wr cut : Int) (ha : askedB wr 2 ((k : Int) + 1) = true) (e0 : -1 ≤ g.e) (e1 : g.e ≤ 1000) (s0 : 0 ≤ g.s) (s1 : g.s ≤ 1000) :
    Calls Try.prog 11 #[.agg g.cells.toArray, .int .i64 wr, .int .i64 2, .int .i64 ((k : Int) + 1), .int .u64 cut] w fun e w' => e = .returned (.agg ({ g with M := upd g.M k true, e := g.e + 1, s := g.s + 1 }).cells.toArray) ∧ Below w.heap.size w w' := by
  have k0 : (0 : Int) ≤ (k : Int) := by omega
  have k6 : (k : Int) < 6 := by omega
  have HK := Lib.hid hk
  clear hk
  have ka := wrong_any wr 2 ((k : Int) + 1)
  rw [ha] at ka
  have KA := Lib.hid ka
  clear ka ha
  go_enter Try.func11, Try.ntmps11
  go_upto_region 1 with (fail)
  obtain ⟨W, hW⟩ : ∃ V, V = (w.alloc (.cells g.cells.toArray 28)).alloc (.cells #[.int .i64 0, .int .i64 0, .bool false, .bool false, .bool false, .bool false, .bool false, .bool false, .bool false, .bool false, .bool false, .bool false, .bool false, .bool false, .int .u64 0, .int .u64 0, .int .u64 0, .int .u64 0, .int .u64 0, .int .u64 0, .int .i64 0] 28) := ⟨_, rfl⟩
  rw [← hW]
  have h0 : BH w.heap.size w g W := by rw [hW]; exact BH.new w g
  have sz : W.heap.size = w.heap.size + 1 + 1 := by rw [hW]; simp
  have H := Lib.hid h0
  have SZ := Lib.hid sz
  clear hW h0 sz
  generalize hb : w.heap.size = b at *
  have HB := Lib.hid hb
  clear hb
  have bn0 : Blk (W.alloc (.cells #[.int .i64 0, .int .i64 0, .bool false, .bool false, .bool false, .bool false, .bool false, .bool false, .bool false, .bool false, .bool false, .bool false, .bool false, .bool false, .int .u64 0, .int .u64 0, .int .u64 0, .int .u64 0, .int .u64 0, .int .u64 0, .int .i64 0] 28)) (b + 1 + 1) 28 #[.int .i64 0, .int .i64 0, .bool false, .bool false, .bool false, .bool false, .bool false, .bool false, .bool false, .bool false, .bool false, .bool false, .bool false, .bool false, .int .u64 0, .int .u64 0, .int .u64 0, .int .u64 0, .int .u64 0, .int .u64 0, .int .i64 0] := Blk.new' _ _ _ _ SZ.out.symm
  have BN := Lib.hid bn0
  clear bn0
  go_upto_region 4 with (first | (go_at_call 16; ((with_reducible refine (KA.out _).mono ?_); rintro e w' ⟨rfl, rfl⟩)) | (refine wpList_load_row rfl 28 _ rfl b rfl 28 _ (0, 0) _ H.out.1 Try.underlying28 rfl (sizeG _) ?_) | (refine wpList_store_row rfl 28 _ _ rfl (b + 1 + 1) _ (by simp only [SZ.out]; rfl) rfl 28 _ BN.out (sizeG _) rfl (one_cells _) ?_))
  simp only [Act.put, List.setIfInBounds_toArray, List.set_cons_zero, List.set_cons_succ]
  obtain ⟨W0, hW⟩ : ∃ V, V = (W.alloc (.cells #[.int .i64 0, .int .i64 0, .bool false, .bool false, .bool false, .bool false, .bool false, .bool false, .bool false, .bool false, .bool false, .bool false, .bool false, .bool false, .int .u64 0, .int .u64 0, .int .u64 0, .int .u64 0, .int .u64 0, .int .u64 0, .int .i64 0] 28)).setRow (b + 1 + 1) g.cells.toArray := ⟨_, rfl⟩
  try rw [SZ.out]
  rw [← hW]
  have H0 : Hid (BR b w g g W0) := Lib.hid (by
    rw [hW]
    have hl := H.out.1.lt
    have hl2 := H.out.2.1.lt
    exact ⟨(setRow_other _ _ _ _ (by omega)).trans (Blk.alloc H.out.1 _), (setRow_other _ _ _ _ (by omega)).trans (Blk.alloc H.out.2.1 _), setRow_heap _ _ _ _ _ _ BN.out, below_setRow (H.out.2.2.alloc (by omega) _) (by omega) _⟩)
  clear hW BN H
  have q1 := H0.out.1.s
  have c1 := H0.out.2.2.1.s
  have f1 : W0.frozen? ⟨b + 1 + 1, 20, none⟩ = false := H0.out.2.2.1.fo _
  go_upto_region 6 with (fail)
  obtain ⟨W1, hW⟩ : ∃ V, V = W0.setCell ⟨b + 1 + 1, 20, none⟩ (.int .i64 (g.s + 1)) := ⟨_, rfl⟩
  rw [← hW]
  have H1 : Hid (BR b w g _ W1) := Lib.hid (by rw [hW]; exact BR.set H0.out _ _ (IsG.setS H0.out.2.2.1 _))
  clear hW c1 f1
  clear q1
  have q1 := H1.out.1.e
  have c1 := H1.out.2.2.1.e
  have f1 : W1.frozen? ⟨b + 1 + 1, 1, none⟩ = false := H1.out.2.2.1.fo _
  go_upto_region 11 with (fail)
  obtain ⟨W2, hW⟩ : ∃ V, V = W1.setCell ⟨b + 1 + 1, 1, none⟩ (.int .i64 (g.e + 1)) := ⟨_, rfl⟩
  rw [← hW]
  have H2 : Hid (BR b w g _ W2) := Lib.hid (by rw [hW]; exact BR.set H1.out _ _ (IsG.setE H1.out.2.2.1 _))
  clear hW c1 f1
  clear q1
  have c1 := H2.out.2.2.1.cm k HK.out
  have f1 : W2.frozen? ⟨b + 1 + 1, 2 + k, none⟩ = false := H2.out.2.2.1.fo _
  go_upto_region 12 with (fail)
  obtain ⟨W3, hW⟩ : ∃ V, V = W2.setCell ⟨b + 1 + 1, 2 + k, none⟩ (.bool true) := ⟨_, rfl⟩
  rw [← hW]
  have H3 : Hid (BR b w g _ W3) := Lib.hid (by rw [hW]; exact BR.set H2.out _ _ (IsG.setM H2.out.2.2.1 k HK.out true))
  clear hW c1 f1
  go_upto_region 18 with (fail)
  go_wp2_with (first | (refine wpList_load_row rfl 28 _ rfl (b + 1 + 1) rfl 28 _ (0, 0) _ H3.out.2.2.1 Try.underlying28 rfl (sizeG _) ?_) | (refine wpList_store_row rfl 28 _ _ rfl (b + 1) _ rfl rfl 28 _ H3.out.2.1 (sizeG _) rfl (one_cells _) ?_))
  refine bodyPost_ret (results_cell_row rfl _ _ (b + 1) 28 _ (0, 0) _ rfl (setRow_heap _ _ _ _ _ _ H3.out.2.1) Try.underlying28 rfl (sizeG _)) rfl ⟨?_, ?_⟩
  · rfl
  · rw [HB.out]; exact below_setRow H3.out.2.2.2 (Nat.le_succ _) _
set_option maxHeartbeats 1000000 in
theorem rbehind_remove (w : World) (g : Grp) (k : Nat) (hk : k < 6) (wr cut : Int) (ha : askedB wr 3 ((k : Int) + 1) = true) (e0 : -1 ≤ g.e) (e1 : g.e ≤ 1000) (s0 : 0 ≤ g.s) (s1 : g.s ≤ 1000) :
    Calls Try.prog 11 #[.agg g.cells.toArray, .int .i64 wr, .int .i64 3, .int .i64 ((k : Int) + 1), .int .u64 cut] w fun e w' => e = .returned (.agg ({ g with M := upd g.M k false, G := upd g.G k true, C := upd g.C k cut, e := g.e + 1, s := g.s + 1 }).cells.toArray) ∧ Below w.heap.size w w' := by
  have k0 : (0 : Int) ≤ (k : Int) := by omega
  have k6 : (k : Int) < 6 := by omega
  have HK := Lib.hid hk
  clear hk
  have ka := wrong_any wr 3 ((k : Int) + 1)
  rw [ha] at ka
  have KA := Lib.hid ka
  clear ka ha
  go_enter Try.func11, Try.ntmps11
  go_upto_region 1 with (fail)
  obtain ⟨W, hW⟩ : ∃ V, V = (w.alloc (.cells g.cells.toArray 28)).alloc (.cells #[.int .i64 0, .int .i64 0, .bool false, .bool false, .bool false, .bool false, .bool false, .bool false, .bool false, .bool false, .bool false, .bool false, .bool false, .bool false, .int .u64 0, .int .u64 0, .int .u64 0, .int .u64 0, .int .u64 0, .int .u64 0, .int .i64 0] 28) := ⟨_, rfl⟩
  rw [← hW]
  have h0 : BH w.heap.size w g W := by rw [hW]; exact BH.new w g
  have sz : W.heap.size = w.heap.size + 1 + 1 := by rw [hW]; simp
  have H := Lib.hid h0
  have SZ := Lib.hid sz
  clear hW h0 sz
  generalize hb : w.heap.size = b at *
  have HB := Lib.hid hb
  clear hb
  have bn0 : Blk (W.alloc (.cells #[.int .i64 0, .int .i64 0, .bool false, .bool false, .bool false, .bool false, .bool false, .bool false, .bool false, .bool false, .bool false, .bool false, .bool false, .bool false, .int .u64 0, .int .u64 0, .int .u64 0, .int .u64 0, .int .u64 0, .int .u64 0, .int .i64 0] 28)) (b + 1 + 1) 28 #[.int .i64 0, .int .i64 0, .bool false, .bool false, .bool false, .bool false, .bool false, .bool false, .bool false, .bool false, .bool false, .bool false, .bool false, .bool false, .int .u64 0, .int .u64 0, .int .u64 0, .int .u64 0, .int .u64 0, .int .u64 0, .int .i64 0] := Blk.new' _ _ _ _ SZ.out.symm
  have BN := Lib.hid bn0
  clear bn0
  go_upto_region 4 with (first | (go_at_call 16; ((with_reducible refine (KA.out _).mono ?_); rintro e w' ⟨rfl, rfl⟩)) | (refine wpList_load_row rfl 28 _ rfl b rfl 28 _ (0, 0) _ H.out.1 Try.underlying28 rfl (sizeG _) ?_) | (refine wpList_store_row rfl 28 _ _ rfl (b + 1 + 1) _ (by simp only [SZ.out]; rfl) rfl 28 _ BN.out (sizeG _) rfl (one_cells _) ?_))
  simp only [Act.put, List.setIfInBounds_toArray, List.set_cons_zero, List.set_cons_succ]
  obtain ⟨W0, hW⟩ : ∃ V, V = (W.alloc (.cells #[.int .i64 0, .int .i64 0, .bool false, .bool false, .bool false, .bool false, .bool false, .bool false, .bool false, .bool false, .bool false, .bool false, .bool false, .bool false, .int .u64 0, .int .u64 0, .int .u64 0, .int .u64 0, .int .u64 0, .int .u64 0, .int .i64 0] 28)).setRow (b + 1 + 1) g.cells.toArray := ⟨_, rfl⟩
  try rw [SZ.out]
  rw [← hW]
  have H0 : Hid (BR b w g g W0) := Lib.hid (by
    rw [hW]
    have hl := H.out.1.lt
    have hl2 := H.out.2.1.lt
    exact ⟨(setRow_other _ _ _ _ (by omega)).trans (Blk.alloc H.out.1 _), (setRow_other _ _ _ _ (by omega)).trans (Blk.alloc H.out.2.1 _), setRow_heap _ _ _ _ _ _ BN.out, below_setRow (H.out.2.2.alloc (by omega) _) (by omega) _⟩)
  clear hW BN H
  have q1 := H0.out.1.s
  have c1 := H0.out.2.2.1.s
  have f1 : W0.frozen? ⟨b + 1 + 1, 20, none⟩ = false := H0.out.2.2.1.fo _
  go_upto_region 6 with (fail)
  obtain ⟨W1, hW⟩ : ∃ V, V = W0.setCell ⟨b + 1 + 1, 20, none⟩ (.int .i64 (g.s + 1)) := ⟨_, rfl⟩
  rw [← hW]
  have H1 : Hid (BR b w g _ W1) := Lib.hid (by rw [hW]; exact BR.set H0.out _ _ (IsG.setS H0.out.2.2.1 _))
  clear hW c1 f1
  clear q1
  have q1 := H1.out.1.e
  have c1 := H1.out.2.2.1.e
  have f1 : W1.frozen? ⟨b + 1 + 1, 1, none⟩ = false := H1.out.2.2.1.fo _
  go_upto_region 13 with (fail)
  obtain ⟨W2, hW⟩ : ∃ V, V = W1.setCell ⟨b + 1 + 1, 1, none⟩ (.int .i64 (g.e + 1)) := ⟨_, rfl⟩
  rw [← hW]
  have H2 : Hid (BR b w g _ W2) := Lib.hid (by rw [hW]; exact BR.set H1.out _ _ (IsG.setE H1.out.2.2.1 _))
  clear hW c1 f1
  clear q1
  have c1 := H2.out.2.2.1.cm k HK.out
  have f1 : W2.frozen? ⟨b + 1 + 1, 2 + k, none⟩ = false := H2.out.2.2.1.fo _
  go_upto_region 14 with (fail)
  obtain ⟨W3, hW⟩ : ∃ V, V = W2.setCell ⟨b + 1 + 1, 2 + k, none⟩ (.bool false) := ⟨_, rfl⟩
  rw [← hW]
  have H3 : Hid (BR b w g _ W3) := Lib.hid (by rw [hW]; exact BR.set H2.out _ _ (IsG.setM H2.out.2.2.1 k HK.out false))
  clear hW c1 f1
  have c1 := H3.out.2.2.1.cg k HK.out
  have f1 : W3.frozen? ⟨b + 1 + 1, 8 + k, none⟩ = false := H3.out.2.2.1.fo _
  go_upto_region 15 with (fail)
  obtain ⟨W4, hW⟩ : ∃ V, V = W3.setCell ⟨b + 1 + 1, 8 + k, none⟩ (.bool true) := ⟨_, rfl⟩
  rw [← hW]
  have H4 : Hid (BR b w g _ W4) := Lib.hid (by rw [hW]; exact BR.set H3.out _ _ (IsG.setG H3.out.2.2.1 k HK.out true))
  clear hW c1 f1
  have c1 := H4.out.2.2.1.cc k HK.out
  have f1 : W4.frozen? ⟨b + 1 + 1, 14 + k, none⟩ = false := H4.out.2.2.1.fo _
  go_upto_region 16 with (fail)
  obtain ⟨W5, hW⟩ : ∃ V, V = W4.setCell ⟨b + 1 + 1, 14 + k, none⟩ (.int .u64 cut) := ⟨_, rfl⟩
  rw [← hW]
  have H5 : Hid (BR b w g _ W5) := Lib.hid (by rw [hW]; exact BR.set H4.out _ _ (IsG.setC H4.out.2.2.1 k HK.out cut))
  clear hW c1 f1
  go_upto_region 18 with (fail)
  go_wp2_with (first | (refine wpList_load_row rfl 28 _ rfl (b + 1 + 1) rfl 28 _ (0, 0) _ H5.out.2.2.1 Try.underlying28 rfl (sizeG _) ?_) | (refine wpList_store_row rfl 28 _ _ rfl (b + 1) _ rfl rfl 28 _ H5.out.2.1 (sizeG _) rfl (one_cells _) ?_))
  refine bodyPost_ret (results_cell_row rfl _ _ (b + 1) 28 _ (0, 0) _ rfl (setRow_heap _ _ _ _ _ _ H5.out.2.1) Try.underlying28 rfl (sizeG _)) rfl ⟨?_, ?_⟩
  · rfl
  · rw [HB.out]; exact below_setRow H5.out.2.2.2 (Nat.le_succ _) _
set_option maxHeartbeats 1000000 in
theorem rbehind_four (w : World) (g : Grp) (wr mb cut : Int) (ha : askedB wr 4 mb = true) (e0 : -1 ≤ g.e) (e1 : g.e ≤ 1000) (s0 : 0 ≤ g.s) (s1 : g.s ≤ 1000) :
    Calls Try.prog 11 #[.agg g.cells.toArray, .int .i64 wr, .int .i64 4, .int .i64 mb, .int .u64 cut] w fun e w' => e = .returned (.agg ({ g with e := g.e + 1, s := g.s + 1 }).cells.toArray) ∧ Below w.heap.size w w' := by
  have ka := wrong_any wr 4 mb
  rw [ha] at ka
  have KA := Lib.hid ka
  clear ka ha
  go_enter Try.func11, Try.ntmps11
  go_upto_region 1 with (fail)
  obtain ⟨W, hW⟩ : ∃ V, V = (w.alloc (.cells g.cells.toArray 28)).alloc (.cells #[.int .i64 0, .int .i64 0, .bool false, .bool false, .bool false, .bool false, .bool false, .bool false, .bool false, .bool false, .bool false, .bool false, .bool false, .bool false, .int .u64 0, .int .u64 0, .int .u64 0, .int .u64 0, .int .u64 0, .int .u64 0, .int .i64 0] 28) := ⟨_, rfl⟩
  rw [← hW]
  have h0 : BH w.heap.size w g W := by rw [hW]; exact BH.new w g
  have sz : W.heap.size = w.heap.size + 1 + 1 := by rw [hW]; simp
  have H := Lib.hid h0
  have SZ := Lib.hid sz
  clear hW h0 sz
  generalize hb : w.heap.size = b at *
  have HB := Lib.hid hb
  clear hb
  have bn0 : Blk (W.alloc (.cells #[.int .i64 0, .int .i64 0, .bool false, .bool false, .bool false, .bool false, .bool false, .bool false, .bool false, .bool false, .bool false, .bool false, .bool false, .bool false, .int .u64 0, .int .u64 0, .int .u64 0, .int .u64 0, .int .u64 0, .int .u64 0, .int .i64 0] 28)) (b + 1 + 1) 28 #[.int .i64 0, .int .i64 0, .bool false, .bool false, .bool false, .bool false, .bool false, .bool false, .bool false, .bool false, .bool false, .bool false, .bool false, .bool false, .int .u64 0, .int .u64 0, .int .u64 0, .int .u64 0, .int .u64 0, .int .u64 0, .int .i64 0] := Blk.new' _ _ _ _ SZ.out.symm
  have BN := Lib.hid bn0
  clear bn0
  go_upto_region 4 with (first | (go_at_call 16; ((with_reducible refine (KA.out _).mono ?_); rintro e w' ⟨rfl, rfl⟩)) | (refine wpList_load_row rfl 28 _ rfl b rfl 28 _ (0, 0) _ H.out.1 Try.underlying28 rfl (sizeG _) ?_) | (refine wpList_store_row rfl 28 _ _ rfl (b + 1 + 1) _ (by simp only [SZ.out]; rfl) rfl 28 _ BN.out (sizeG _) rfl (one_cells _) ?_))
  simp only [Act.put, List.setIfInBounds_toArray, List.set_cons_zero, List.set_cons_succ]
  obtain ⟨W0, hW⟩ : ∃ V, V = (W.alloc (.cells #[.int .i64 0, .int .i64 0, .bool false, .bool false, .bool false, .bool false, .bool false, .bool false, .bool false, .bool false, .bool false, .bool false, .bool false, .bool false, .int .u64 0, .int .u64 0, .int .u64 0, .int .u64 0, .int .u64 0, .int .u64 0, .int .i64 0] 28)).setRow (b + 1 + 1) g.cells.toArray := ⟨_, rfl⟩
  try rw [SZ.out]
  rw [← hW]
  have H0 : Hid (BR b w g g W0) := Lib.hid (by
    rw [hW]
    have hl := H.out.1.lt
    have hl2 := H.out.2.1.lt
    exact ⟨(setRow_other _ _ _ _ (by omega)).trans (Blk.alloc H.out.1 _), (setRow_other _ _ _ _ (by omega)).trans (Blk.alloc H.out.2.1 _), setRow_heap _ _ _ _ _ _ BN.out, below_setRow (H.out.2.2.alloc (by omega) _) (by omega) _⟩)
  clear hW BN H
  have q1 := H0.out.1.s
  have c1 := H0.out.2.2.1.s
  have f1 : W0.frozen? ⟨b + 1 + 1, 20, none⟩ = false := H0.out.2.2.1.fo _
  go_upto_region 6 with (fail)
  obtain ⟨W1, hW⟩ : ∃ V, V = W0.setCell ⟨b + 1 + 1, 20, none⟩ (.int .i64 (g.s + 1)) := ⟨_, rfl⟩
  rw [← hW]
  have H1 : Hid (BR b w g _ W1) := Lib.hid (by rw [hW]; exact BR.set H0.out _ _ (IsG.setS H0.out.2.2.1 _))
  clear hW c1 f1
  clear q1
  have q1 := H1.out.1.e
  have c1 := H1.out.2.2.1.e
  have f1 : W1.frozen? ⟨b + 1 + 1, 1, none⟩ = false := H1.out.2.2.1.fo _
  go_upto_region 18 with (fail)
  obtain ⟨W2, hW⟩ : ∃ V, V = W1.setCell ⟨b + 1 + 1, 1, none⟩ (.int .i64 (g.e + 1)) := ⟨_, rfl⟩
  rw [← hW]
  have H2 : Hid (BR b w g _ W2) := Lib.hid (by rw [hW]; exact BR.set H1.out _ _ (IsG.setE H1.out.2.2.1 _))
  clear hW c1 f1
  clear q1
  go_wp2_with (first | (refine wpList_load_row rfl 28 _ rfl (b + 1 + 1) rfl 28 _ (0, 0) _ H2.out.2.2.1 Try.underlying28 rfl (sizeG _) ?_) | (refine wpList_store_row rfl 28 _ _ rfl (b + 1) _ rfl rfl 28 _ H2.out.2.1 (sizeG _) rfl (one_cells _) ?_))
  refine bodyPost_ret (results_cell_row rfl _ _ (b + 1) 28 _ (0, 0) _ rfl (setRow_heap _ _ _ _ _ _ H2.out.2.1) Try.underlying28 rfl (sizeG _)) rfl ⟨?_, ?_⟩
  · rfl
  · rw [HB.out]; exact below_setRow H2.out.2.2.2 (Nat.le_succ _) _
set_option maxHeartbeats 1000000 in
theorem rbehind_hand (w : World) (g : Grp) (wr mb cut : Int) (ha : askedB wr 5 mb = true) (e0 : -1 ≤ g.e) (e1 : g.e ≤ 1000) (s0 : 0 ≤ g.s) (s1 : g.s ≤ 1000) :
    Calls Try.prog 11 #[.agg g.cells.toArray, .int .i64 wr, .int .i64 5, .int .i64 mb, .int .u64 cut] w fun e w' => e = .returned (.agg ({ g with o := mb, s := g.s + 1 }).cells.toArray) ∧ Below w.heap.size w w' := by
  have ka := wrong_any wr 5 mb
  rw [ha] at ka
  have KA := Lib.hid ka
  clear ka ha
  go_enter Try.func11, Try.ntmps11
  go_upto_region 1 with (fail)
  obtain ⟨W, hW⟩ : ∃ V, V = (w.alloc (.cells g.cells.toArray 28)).alloc (.cells #[.int .i64 0, .int .i64 0, .bool false, .bool false, .bool false, .bool false, .bool false, .bool false, .bool false, .bool false, .bool false, .bool false, .bool false, .bool false, .int .u64 0, .int .u64 0, .int .u64 0, .int .u64 0, .int .u64 0, .int .u64 0, .int .i64 0] 28) := ⟨_, rfl⟩
  rw [← hW]
  have h0 : BH w.heap.size w g W := by rw [hW]; exact BH.new w g
  have sz : W.heap.size = w.heap.size + 1 + 1 := by rw [hW]; simp
  have H := Lib.hid h0
  have SZ := Lib.hid sz
  clear hW h0 sz
  generalize hb : w.heap.size = b at *
  have HB := Lib.hid hb
  clear hb
  have bn0 : Blk (W.alloc (.cells #[.int .i64 0, .int .i64 0, .bool false, .bool false, .bool false, .bool false, .bool false, .bool false, .bool false, .bool false, .bool false, .bool false, .bool false, .bool false, .int .u64 0, .int .u64 0, .int .u64 0, .int .u64 0, .int .u64 0, .int .u64 0, .int .i64 0] 28)) (b + 1 + 1) 28 #[.int .i64 0, .int .i64 0, .bool false, .bool false, .bool false, .bool false, .bool false, .bool false, .bool false, .bool false, .bool false, .bool false, .bool false, .bool false, .int .u64 0, .int .u64 0, .int .u64 0, .int .u64 0, .int .u64 0, .int .u64 0, .int .i64 0] := Blk.new' _ _ _ _ SZ.out.symm
  have BN := Lib.hid bn0
  clear bn0
  go_upto_region 4 with (first | (go_at_call 16; ((with_reducible refine (KA.out _).mono ?_); rintro e w' ⟨rfl, rfl⟩)) | (refine wpList_load_row rfl 28 _ rfl b rfl 28 _ (0, 0) _ H.out.1 Try.underlying28 rfl (sizeG _) ?_) | (refine wpList_store_row rfl 28 _ _ rfl (b + 1 + 1) _ (by simp only [SZ.out]; rfl) rfl 28 _ BN.out (sizeG _) rfl (one_cells _) ?_))
  simp only [Act.put, List.setIfInBounds_toArray, List.set_cons_zero, List.set_cons_succ]
  obtain ⟨W0, hW⟩ : ∃ V, V = (W.alloc (.cells #[.int .i64 0, .int .i64 0, .bool false, .bool false, .bool false, .bool false, .bool false, .bool false, .bool false, .bool false, .bool false, .bool false, .bool false, .bool false, .int .u64 0, .int .u64 0, .int .u64 0, .int .u64 0, .int .u64 0, .int .u64 0, .int .i64 0] 28)).setRow (b + 1 + 1) g.cells.toArray := ⟨_, rfl⟩
  try rw [SZ.out]
  rw [← hW]
  have H0 : Hid (BR b w g g W0) := Lib.hid (by
    rw [hW]
    have hl := H.out.1.lt
    have hl2 := H.out.2.1.lt
    exact ⟨(setRow_other _ _ _ _ (by omega)).trans (Blk.alloc H.out.1 _), (setRow_other _ _ _ _ (by omega)).trans (Blk.alloc H.out.2.1 _), setRow_heap _ _ _ _ _ _ BN.out, below_setRow (H.out.2.2.alloc (by omega) _) (by omega) _⟩)
  clear hW BN H
  have q1 := H0.out.1.s
  have c1 := H0.out.2.2.1.s
  have f1 : W0.frozen? ⟨b + 1 + 1, 20, none⟩ = false := H0.out.2.2.1.fo _
  go_upto_region 17 with (fail)
  obtain ⟨W1, hW⟩ : ∃ V, V = W0.setCell ⟨b + 1 + 1, 20, none⟩ (.int .i64 (g.s + 1)) := ⟨_, rfl⟩
  rw [← hW]
  have H1 : Hid (BR b w g _ W1) := Lib.hid (by rw [hW]; exact BR.set H0.out _ _ (IsG.setS H0.out.2.2.1 _))
  clear hW c1 f1
  clear q1
  have c1 := H1.out.2.2.1.o
  have f1 : W1.frozen? ⟨b + 1 + 1, 0, none⟩ = false := H1.out.2.2.1.fo _
  go_upto_region 18 with (fail)
  obtain ⟨W2, hW⟩ : ∃ V, V = W1.setCell ⟨b + 1 + 1, 0, none⟩ (.int .i64 mb) := ⟨_, rfl⟩
  rw [← hW]
  have H2 : Hid (BR b w g _ W2) := Lib.hid (by rw [hW]; exact BR.set H1.out _ _ (IsG.setO H1.out.2.2.1 _))
  clear hW c1 f1
  go_wp2_with (first | (refine wpList_load_row rfl 28 _ rfl (b + 1 + 1) rfl 28 _ (0, 0) _ H2.out.2.2.1 Try.underlying28 rfl (sizeG _) ?_) | (refine wpList_store_row rfl 28 _ _ rfl (b + 1) _ rfl rfl 28 _ H2.out.2.1 (sizeG _) rfl (one_cells _) ?_))
  refine bodyPost_ret (results_cell_row rfl _ _ (b + 1) 28 _ (0, 0) _ rfl (setRow_heap _ _ _ _ _ _ H2.out.2.1) Try.underlying28 rfl (sizeG _)) rfl ⟨?_, ?_⟩
  · rfl
  · rw [HB.out]; exact below_setRow H2.out.2.2.2 (Nat.le_succ _) _
theorem rbehind_any (w : World) (g : Grp) (wr op mb cut : Int) (e0 : -1 ≤ g.e) (e1 : g.e ≤ 1000) (s0 : 0 ≤ g.s) (s1 : g.s ≤ 1000) :
    Calls Try.prog 11 #[.agg g.cells.toArray, .int .i64 wr, .int .i64 op, .int .i64 mb, .int .u64 cut] w fun e w' => e = .returned (.agg (behindG g wr op mb cut).cells.toArray) ∧ Below w.heap.size w w' := by
  cases h : askedB wr op mb
  · have := rbehind_no w g wr op mb cut h
    unfold behindG; rw [if_pos h]; exact this
  · unfold behindG
    rw [if_neg (by rw [h]; simp)]
    have h' := h
    unfold askedB at h'
    simp only [Bool.and_eq_true, decide_eq_true_eq] at h'
    obtain ⟨⟨hw, hop1, hop5⟩, hm⟩ := h'
    have hop : op = 1 ∨ op = 2 ∨ op = 3 ∨ op = 4 ∨ op = 5 := by omega
    rcases hop with rfl | rfl | rfl | rfl | rfl
    · obtain ⟨k, hk, rfl⟩ := known_nat wr hw
      have := rbehind_create w g k hk mb cut h e0 e1 s0 s1
      simpa [kn] using this
    · rw [if_pos (by simp)] at hm
      obtain ⟨k, hk, rfl⟩ := known_nat mb hm
      have := rbehind_add w g k hk wr cut h e0 e1 s0 s1
      simpa [kn] using this
    · rw [if_pos (by simp)] at hm
      obtain ⟨k, hk, rfl⟩ := known_nat mb hm
      have := rbehind_remove w g k hk wr cut h e0 e1 s0 s1
      simpa [kn] using this
    · have := rbehind_four w g wr mb cut h e0 e1 s0 s1
      simpa using this
    · have := rbehind_hand w g wr mb cut h e0 e1 s0 s1
      simpa using this
end Go.Proofs.Ytdhpgadhdgpbdaa
