import Derived.Test.YtdhpgadhdgpbdaaG3
namespace Go.Proofs.Ytdhpgadhdgpbdaa
open Go.RowKit

theorem IsG.setO {w : World} {b : Nat} {g : Grp} (h : IsG w b g) (x : Int) : IsG (w.setCell ⟨b, 0, none⟩ (.int .i64 x)) b { g with o := x } := Blk.set h 0 _
theorem IsG.setE {w : World} {b : Nat} {g : Grp} (h : IsG w b g) (x : Int) : IsG (w.setCell ⟨b, 1, none⟩ (.int .i64 x)) b { g with e := x } := Blk.set h 1 _
theorem IsG.setS {w : World} {b : Nat} {g : Grp} (h : IsG w b g) (x : Int) : IsG (w.setCell ⟨b, 20, none⟩ (.int .i64 x)) b { g with s := x } := Blk.set h 20 _
theorem IsG.setM {w : World} {b : Nat} {g : Grp} (h : IsG w b g) (k : Nat) (hk : k < 6) (v : Bool) : IsG (w.setCell ⟨b, 2 + k, none⟩ (.bool v)) b { g with M := upd g.M k v } := by
  have e := Blk.set h (2 + k) (.bool v)
  rcases six hk with rfl | rfl | rfl | rfl | rfl | rfl <;> exact e
theorem IsG.setG {w : World} {b : Nat} {g : Grp} (h : IsG w b g) (k : Nat) (hk : k < 6) (v : Bool) : IsG (w.setCell ⟨b, 8 + k, none⟩ (.bool v)) b { g with G := upd g.G k v } := by
  have e := Blk.set h (8 + k) (.bool v)
  rcases six hk with rfl | rfl | rfl | rfl | rfl | rfl <;> exact e
theorem IsG.setC {w : World} {b : Nat} {g : Grp} (h : IsG w b g) (k : Nat) (hk : k < 6) (v : Int) : IsG (w.setCell ⟨b, 14 + k, none⟩ (.int .u64 v)) b { g with C := upd g.C k v } := by
  have e := Blk.set h (14 + k) (.int .u64 v)
  rcases six hk with rfl | rfl | rfl | rfl | rfl | rfl <;> exact e
theorem IsG.fo {w : World} {b : Nat} {g : Grp} (h : IsG w b g) (j : Nat) : w.frozen? ⟨b, j, none⟩ = false := Blk.free h j
/-- the group at b, a result at b + 1 that isn't laid yet, and all else as it was. -/
def BH (b : Nat) (w : World) (g : Grp) (W : World) : Prop := IsG W b g ∧ Blk W (b + 1) 28 #[.int .i64 0, .int .i64 0, .bool false, .bool false, .bool false, .bool false, .bool false, .bool false, .bool false, .bool false, .bool false, .bool false, .bool false, .bool false, .int .u64 0, .int .u64 0, .int .u64 0, .int .u64 0, .int .u64 0, .int .u64 0, .int .i64 0] ∧ Below b w W
theorem BH.set {b : Nat} {w W : World} {g g' : Grp} (h : BH b w g W) (j : Nat) (v : Value) (hg : IsG (W.setCell ⟨b, j, none⟩ v) b g') : BH b w g' (W.setCell ⟨b, j, none⟩ v) :=
  ⟨hg, (heap_setCell_other _ _ _ _ (by simp)).trans h.2.1, h.2.2.setCell (Nat.le_refl _) v⟩
theorem BH.new (w : World) (g : Grp) : BH w.heap.size w g ((w.alloc (.cells g.cells.toArray 28)).alloc (.cells #[.int .i64 0, .int .i64 0, .bool false, .bool false, .bool false, .bool false, .bool false, .bool false, .bool false, .bool false, .bool false, .bool false, .bool false, .bool false, .int .u64 0, .int .u64 0, .int .u64 0, .int .u64 0, .int .u64 0, .int .u64 0, .int .i64 0] 28)) :=
  ⟨(Blk.new w 28 _).alloc _, Blk.new' (w.alloc _) 28 _ _ (by simp), ((Below.refl _ _).alloc (Nat.le_refl _) _).alloc (by simp) _⟩
theorem below_setRow {B : Nat} {a w : World} (h : Below B a w) {g : Nat} (hg : B ≤ g) (cs : Array Value) : Below B a (w.setRow g cs) :=
  ⟨h.os, h.tape, h.output, by simpa using h.size, fun k hk => (setRow_other _ _ _ _ (by omega)).trans (h.block k hk)⟩
theorem one_cells (g : Grp) : g.cells.toArray.all (·.oneCell') = true := by simp [Grp.cells, Value.oneCell']

/-- the group behind an op that could be. -/
def behindG (g : Grp) (wr op mb cut : Int) : Grp :=
  if askedB wr op mb = false then g else
  if op = 1 then { g with o := wr, M := upd g.M (wr - 1).toNat true, e := g.e + 1, s := g.s + 1 } else
  if op = 2 then { g with M := upd g.M (mb - 1).toNat true, e := g.e + 1, s := g.s + 1 } else
  if op = 3 then { g with M := upd g.M (mb - 1).toNat false, G := upd g.G (mb - 1).toNat true, C := upd g.C (mb - 1).toNat cut, e := g.e + 1, s := g.s + 1 } else
  if op = 5 then { g with o := mb, s := g.s + 1 } else
  { g with e := g.e + 1, s := g.s + 1 }
theorem ret_grp (g g' : Grp) (h : g = g') : Ending.returned (.agg g.cells.toArray) = .returned (.agg g'.cells.toArray) := by rw [h]
theorem behind_no (w : World) (g : Grp) (wr op mb cut : Int) (ha : askedB wr op mb = false) :
    Calls Try.prog 8 #[.agg g.cells.toArray, .int .i64 wr, .int .i64 op, .int .i64 mb, .int .u64 cut] w fun e w' => e = .returned (.agg g.cells.toArray) ∧ Below w.heap.size w w' := by
  have ka := asked_any wr op mb
  rw [ha] at ka
  have KA := Lib.hid ka
  clear ka ha
  go_enter Try.func8, Try.ntmps8
  go_upto_region 1 with (fail)
  obtain ⟨W, hW⟩ : ∃ V, V = (w.alloc (.cells g.cells.toArray 28)).alloc (.cells #[.int .i64 0, .int .i64 0, .bool false, .bool false, .bool false, .bool false, .bool false, .bool false, .bool false, .bool false, .bool false, .bool false, .bool false, .bool false, .int .u64 0, .int .u64 0, .int .u64 0, .int .u64 0, .int .u64 0, .int .u64 0, .int .i64 0] 28) := ⟨_, rfl⟩
  rw [← hW]
  have h0 : BH w.heap.size w g W := by rw [hW]; exact BH.new w g
  have H := Lib.hid h0
  clear hW h0
  generalize hb : w.heap.size = b at *
  have HB := Lib.hid hb
  clear hb
  obtain ⟨W0, hW0⟩ : ∃ V, V = W := ⟨_, rfl⟩
  rw [← hW0]
  have H0 : Hid (BH b w g W0) := by rw [hW0]; exact H
  clear hW0 H
  clear W
  go_upto_region 2 with (go_at_call 13; ((with_reducible refine (KA.out _).mono ?_); rintro e w' ⟨rfl, rfl⟩))
  go_wp2_with (first | (refine wpList_load_row rfl 28 _ rfl b rfl 28 _ (0, 0) _ H0.out.1 Try.underlying28 rfl (sizeG _) ?_) | (refine wpList_store_row rfl 28 _ _ rfl (b + 1) _ rfl rfl 28 _ H0.out.2.1 (sizeG _) rfl (one_cells _) ?_))
  refine bodyPost_ret (results_cell_row rfl _ _ (b + 1) 28 _ (0, 0) _ rfl (setRow_heap _ _ _ _ _ _ H0.out.2.1) Try.underlying28 rfl (sizeG _)) rfl ⟨?_, ?_⟩
  · rfl
  · rw [HB.out]; exact below_setRow H0.out.2.2 (Nat.le_succ _) _
set_option maxHeartbeats 1000000 in
theorem behind_create (w : World) (g : Grp) (k : Nat) (hk : k < 6) (mb cut : Int) (ha : askedB ((k : Int) + 1) 1 mb = true) (e0 : -1 ≤ g.e) (e1 : g.e ≤ 1000) (s0 : 0 ≤ g.s) (s1 : g.s ≤ 1000) :
    Calls Try.prog 8 #[.agg g.cells.toArray, .int .i64 ((k : Int) + 1), .int .i64 1, .int .i64 mb, .int .u64 cut] w fun e w' => e = .returned (.agg ({ g with o := (k : Int) + 1, M := upd g.M k true, e := g.e + 1, s := g.s + 1 }).cells.toArray) ∧ Below w.heap.size w w' := by
  have k0 : (0 : Int) ≤ (k : Int) := by omega
  have k6 : (k : Int) < 6 := by omega
  have HK := Lib.hid hk
  clear hk
  have ka := asked_any ((k : Int) + 1) 1 mb
  rw [ha] at ka
  have KA := Lib.hid ka
  clear ka ha
  go_enter Try.func8, Try.ntmps8
  go_upto_region 1 with (fail)
  obtain ⟨W, hW⟩ : ∃ V, V = (w.alloc (.cells g.cells.toArray 28)).alloc (.cells #[.int .i64 0, .int .i64 0, .bool false, .bool false, .bool false, .bool false, .bool false, .bool false, .bool false, .bool false, .bool false, .bool false, .bool false, .bool false, .int .u64 0, .int .u64 0, .int .u64 0, .int .u64 0, .int .u64 0, .int .u64 0, .int .i64 0] 28) := ⟨_, rfl⟩
  rw [← hW]
  have h0 : BH w.heap.size w g W := by rw [hW]; exact BH.new w g
  have H := Lib.hid h0
  clear hW h0
  generalize hb : w.heap.size = b at *
  have HB := Lib.hid hb
  clear hb
  obtain ⟨W0, hW0⟩ : ∃ V, V = W := ⟨_, rfl⟩
  rw [← hW0]
  have H0 : Hid (BH b w g W0) := by rw [hW0]; exact H
  clear hW0 H
  clear W
  go_upto_region 5 with (go_at_call 13; ((with_reducible refine (KA.out _).mono ?_); rintro e w' ⟨rfl, rfl⟩))
  have c1 := H0.out.1.o
  have f1 : W0.frozen? ⟨b, 0, none⟩ = false := H0.out.1.fo _
  go_upto_region 6 with (fail)
  obtain ⟨W1, hW⟩ : ∃ V, V = W0.setCell ⟨b, 0, none⟩ (.int .i64 ((k : Int) + 1)) := ⟨_, rfl⟩
  rw [← hW]
  have H1 : Hid (BH b w _ W1) := Lib.hid (by rw [hW]; exact BH.set H0.out _ _ (IsG.setO H0.out.1 _))
  clear hW c1 f1
  have c1 := H1.out.1.cm k HK.out
  have f1 : W1.frozen? ⟨b, 2 + k, none⟩ = false := H1.out.1.fo _
  go_upto_region 16 with (fail)
  obtain ⟨W2, hW⟩ : ∃ V, V = W1.setCell ⟨b, 2 + k, none⟩ (.bool true) := ⟨_, rfl⟩
  rw [← hW]
  have H2 : Hid (BH b w _ W2) := Lib.hid (by rw [hW]; exact BH.set H1.out _ _ (IsG.setM H1.out.1 k HK.out true))
  clear hW c1 f1
  have c1 := H2.out.1.e
  have f1 : W2.frozen? ⟨b, 1, none⟩ = false := H2.out.1.fo _
  go_upto_region 17 with (fail)
  obtain ⟨W3, hW⟩ : ∃ V, V = W2.setCell ⟨b, 1, none⟩ (.int .i64 (g.e + 1)) := ⟨_, rfl⟩
  rw [← hW]
  have H3 : Hid (BH b w _ W3) := Lib.hid (by rw [hW]; exact BH.set H2.out _ _ (IsG.setE H2.out.1 _))
  clear hW c1 f1
  have c1 := H3.out.1.s
  have f1 : W3.frozen? ⟨b, 20, none⟩ = false := H3.out.1.fo _
  go_upto_region 18 with (fail)
  obtain ⟨W4, hW⟩ : ∃ V, V = W3.setCell ⟨b, 20, none⟩ (.int .i64 (g.s + 1)) := ⟨_, rfl⟩
  rw [← hW]
  have H4 : Hid (BH b w _ W4) := Lib.hid (by rw [hW]; exact BH.set H3.out _ _ (IsG.setS H3.out.1 _))
  clear hW c1 f1
  go_wp2_with (first | (refine wpList_load_row rfl 28 _ rfl b rfl 28 _ (0, 0) _ H4.out.1 Try.underlying28 rfl (sizeG _) ?_) | (refine wpList_store_row rfl 28 _ _ rfl (b + 1) _ rfl rfl 28 _ H4.out.2.1 (sizeG _) rfl (one_cells _) ?_))
  refine bodyPost_ret (results_cell_row rfl _ _ (b + 1) 28 _ (0, 0) _ rfl (setRow_heap _ _ _ _ _ _ H4.out.2.1) Try.underlying28 rfl (sizeG _)) rfl ⟨?_, ?_⟩
  · rfl
  · rw [HB.out]; exact below_setRow H4.out.2.2 (Nat.le_succ _) _
set_option maxHeartbeats 1000000 in
theorem behind_add (w : World) (g : Grp) (k : Nat) (hk : k < 6) (wr cut : Int) (ha : askedB wr 2 ((k : Int) + 1) = true) (e0 : -1 ≤ g.e) (e1 : g.e ≤ 1000) (s0 : 0 ≤ g.s) (s1 : g.s ≤ 1000) :
    Calls Try.prog 8 #[.agg g.cells.toArray, .int .i64 wr, .int .i64 2, .int .i64 ((k : Int) + 1), .int .u64 cut] w fun e w' => e = .returned (.agg ({ g with M := upd g.M k true, e := g.e + 1, s := g.s + 1 }).cells.toArray) ∧ Below w.heap.size w w' := by
  have k0 : (0 : Int) ≤ (k : Int) := by omega
  have k6 : (k : Int) < 6 := by omega
  have HK := Lib.hid hk
  clear hk
  have ka := asked_any wr 2 ((k : Int) + 1)
  rw [ha] at ka
  have KA := Lib.hid ka
  clear ka ha
  go_enter Try.func8, Try.ntmps8
  go_upto_region 1 with (fail)
  obtain ⟨W, hW⟩ : ∃ V, V = (w.alloc (.cells g.cells.toArray 28)).alloc (.cells #[.int .i64 0, .int .i64 0, .bool false, .bool false, .bool false, .bool false, .bool false, .bool false, .bool false, .bool false, .bool false, .bool false, .bool false, .bool false, .int .u64 0, .int .u64 0, .int .u64 0, .int .u64 0, .int .u64 0, .int .u64 0, .int .i64 0] 28) := ⟨_, rfl⟩
  rw [← hW]
  have h0 : BH w.heap.size w g W := by rw [hW]; exact BH.new w g
  have H := Lib.hid h0
  clear hW h0
  generalize hb : w.heap.size = b at *
  have HB := Lib.hid hb
  clear hb
  obtain ⟨W0, hW0⟩ : ∃ V, V = W := ⟨_, rfl⟩
  rw [← hW0]
  have H0 : Hid (BH b w g W0) := by rw [hW0]; exact H
  clear hW0 H
  clear W
  go_upto_region 8 with (go_at_call 13; ((with_reducible refine (KA.out _).mono ?_); rintro e w' ⟨rfl, rfl⟩))
  have c1 := H0.out.1.cm k HK.out
  have f1 : W0.frozen? ⟨b, 2 + k, none⟩ = false := H0.out.1.fo _
  go_upto_region 16 with (fail)
  obtain ⟨W1, hW⟩ : ∃ V, V = W0.setCell ⟨b, 2 + k, none⟩ (.bool true) := ⟨_, rfl⟩
  rw [← hW]
  have H1 : Hid (BH b w _ W1) := Lib.hid (by rw [hW]; exact BH.set H0.out _ _ (IsG.setM H0.out.1 k HK.out true))
  clear hW c1 f1
  have c1 := H1.out.1.e
  have f1 : W1.frozen? ⟨b, 1, none⟩ = false := H1.out.1.fo _
  go_upto_region 17 with (fail)
  obtain ⟨W2, hW⟩ : ∃ V, V = W1.setCell ⟨b, 1, none⟩ (.int .i64 (g.e + 1)) := ⟨_, rfl⟩
  rw [← hW]
  have H2 : Hid (BH b w _ W2) := Lib.hid (by rw [hW]; exact BH.set H1.out _ _ (IsG.setE H1.out.1 _))
  clear hW c1 f1
  have c1 := H2.out.1.s
  have f1 : W2.frozen? ⟨b, 20, none⟩ = false := H2.out.1.fo _
  go_upto_region 18 with (fail)
  obtain ⟨W3, hW⟩ : ∃ V, V = W2.setCell ⟨b, 20, none⟩ (.int .i64 (g.s + 1)) := ⟨_, rfl⟩
  rw [← hW]
  have H3 : Hid (BH b w _ W3) := Lib.hid (by rw [hW]; exact BH.set H2.out _ _ (IsG.setS H2.out.1 _))
  clear hW c1 f1
  go_wp2_with (first | (refine wpList_load_row rfl 28 _ rfl b rfl 28 _ (0, 0) _ H3.out.1 Try.underlying28 rfl (sizeG _) ?_) | (refine wpList_store_row rfl 28 _ _ rfl (b + 1) _ rfl rfl 28 _ H3.out.2.1 (sizeG _) rfl (one_cells _) ?_))
  refine bodyPost_ret (results_cell_row rfl _ _ (b + 1) 28 _ (0, 0) _ rfl (setRow_heap _ _ _ _ _ _ H3.out.2.1) Try.underlying28 rfl (sizeG _)) rfl ⟨?_, ?_⟩
  · rfl
  · rw [HB.out]; exact below_setRow H3.out.2.2 (Nat.le_succ _) _
set_option maxHeartbeats 1000000 in
theorem behind_remove (w : World) (g : Grp) (k : Nat) (hk : k < 6) (wr cut : Int) (ha : askedB wr 3 ((k : Int) + 1) = true) (e0 : -1 ≤ g.e) (e1 : g.e ≤ 1000) (s0 : 0 ≤ g.s) (s1 : g.s ≤ 1000) :
    Calls Try.prog 8 #[.agg g.cells.toArray, .int .i64 wr, .int .i64 3, .int .i64 ((k : Int) + 1), .int .u64 cut] w fun e w' => e = .returned (.agg ({ g with M := upd g.M k false, G := upd g.G k true, C := upd g.C k cut, e := g.e + 1, s := g.s + 1 }).cells.toArray) ∧ Below w.heap.size w w' := by
  have k0 : (0 : Int) ≤ (k : Int) := by omega
  have k6 : (k : Int) < 6 := by omega
  have HK := Lib.hid hk
  clear hk
  have ka := asked_any wr 3 ((k : Int) + 1)
  rw [ha] at ka
  have KA := Lib.hid ka
  clear ka ha
  go_enter Try.func8, Try.ntmps8
  go_upto_region 1 with (fail)
  obtain ⟨W, hW⟩ : ∃ V, V = (w.alloc (.cells g.cells.toArray 28)).alloc (.cells #[.int .i64 0, .int .i64 0, .bool false, .bool false, .bool false, .bool false, .bool false, .bool false, .bool false, .bool false, .bool false, .bool false, .bool false, .bool false, .int .u64 0, .int .u64 0, .int .u64 0, .int .u64 0, .int .u64 0, .int .u64 0, .int .i64 0] 28) := ⟨_, rfl⟩
  rw [← hW]
  have h0 : BH w.heap.size w g W := by rw [hW]; exact BH.new w g
  have H := Lib.hid h0
  clear hW h0
  generalize hb : w.heap.size = b at *
  have HB := Lib.hid hb
  clear hb
  obtain ⟨W0, hW0⟩ : ∃ V, V = W := ⟨_, rfl⟩
  rw [← hW0]
  have H0 : Hid (BH b w g W0) := by rw [hW0]; exact H
  clear hW0 H
  clear W
  go_upto_region 10 with (go_at_call 13; ((with_reducible refine (KA.out _).mono ?_); rintro e w' ⟨rfl, rfl⟩))
  have c1 := H0.out.1.cm k HK.out
  have f1 : W0.frozen? ⟨b, 2 + k, none⟩ = false := H0.out.1.fo _
  go_upto_region 11 with (fail)
  obtain ⟨W1, hW⟩ : ∃ V, V = W0.setCell ⟨b, 2 + k, none⟩ (.bool false) := ⟨_, rfl⟩
  rw [← hW]
  have H1 : Hid (BH b w _ W1) := Lib.hid (by rw [hW]; exact BH.set H0.out _ _ (IsG.setM H0.out.1 k HK.out false))
  clear hW c1 f1
  have c1 := H1.out.1.cg k HK.out
  have f1 : W1.frozen? ⟨b, 8 + k, none⟩ = false := H1.out.1.fo _
  go_upto_region 12 with (fail)
  obtain ⟨W2, hW⟩ : ∃ V, V = W1.setCell ⟨b, 8 + k, none⟩ (.bool true) := ⟨_, rfl⟩
  rw [← hW]
  have H2 : Hid (BH b w _ W2) := Lib.hid (by rw [hW]; exact BH.set H1.out _ _ (IsG.setG H1.out.1 k HK.out true))
  clear hW c1 f1
  have c1 := H2.out.1.cc k HK.out
  have f1 : W2.frozen? ⟨b, 14 + k, none⟩ = false := H2.out.1.fo _
  go_upto_region 16 with (fail)
  obtain ⟨W3, hW⟩ : ∃ V, V = W2.setCell ⟨b, 14 + k, none⟩ (.int .u64 cut) := ⟨_, rfl⟩
  rw [← hW]
  have H3 : Hid (BH b w _ W3) := Lib.hid (by rw [hW]; exact BH.set H2.out _ _ (IsG.setC H2.out.1 k HK.out cut))
  clear hW c1 f1
  have c1 := H3.out.1.e
  have f1 : W3.frozen? ⟨b, 1, none⟩ = false := H3.out.1.fo _
  go_upto_region 17 with (fail)
  obtain ⟨W4, hW⟩ : ∃ V, V = W3.setCell ⟨b, 1, none⟩ (.int .i64 (g.e + 1)) := ⟨_, rfl⟩
  rw [← hW]
  have H4 : Hid (BH b w _ W4) := Lib.hid (by rw [hW]; exact BH.set H3.out _ _ (IsG.setE H3.out.1 _))
  clear hW c1 f1
  have c1 := H4.out.1.s
  have f1 : W4.frozen? ⟨b, 20, none⟩ = false := H4.out.1.fo _
  go_upto_region 18 with (fail)
  obtain ⟨W5, hW⟩ : ∃ V, V = W4.setCell ⟨b, 20, none⟩ (.int .i64 (g.s + 1)) := ⟨_, rfl⟩
  rw [← hW]
  have H5 : Hid (BH b w _ W5) := Lib.hid (by rw [hW]; exact BH.set H4.out _ _ (IsG.setS H4.out.1 _))
  clear hW c1 f1
  go_wp2_with (first | (refine wpList_load_row rfl 28 _ rfl b rfl 28 _ (0, 0) _ H5.out.1 Try.underlying28 rfl (sizeG _) ?_) | (refine wpList_store_row rfl 28 _ _ rfl (b + 1) _ rfl rfl 28 _ H5.out.2.1 (sizeG _) rfl (one_cells _) ?_))
  refine bodyPost_ret (results_cell_row rfl _ _ (b + 1) 28 _ (0, 0) _ rfl (setRow_heap _ _ _ _ _ _ H5.out.2.1) Try.underlying28 rfl (sizeG _)) rfl ⟨?_, ?_⟩
  · rfl
  · rw [HB.out]; exact below_setRow H5.out.2.2 (Nat.le_succ _) _
set_option maxHeartbeats 1000000 in
theorem behind_four (w : World) (g : Grp) (wr mb cut : Int) (ha : askedB wr 4 mb = true) (e0 : -1 ≤ g.e) (e1 : g.e ≤ 1000) (s0 : 0 ≤ g.s) (s1 : g.s ≤ 1000) :
    Calls Try.prog 8 #[.agg g.cells.toArray, .int .i64 wr, .int .i64 4, .int .i64 mb, .int .u64 cut] w fun e w' => e = .returned (.agg ({ g with e := g.e + 1, s := g.s + 1 }).cells.toArray) ∧ Below w.heap.size w w' := by
  have ka := asked_any wr 4 mb
  rw [ha] at ka
  have KA := Lib.hid ka
  clear ka ha
  go_enter Try.func8, Try.ntmps8
  go_upto_region 1 with (fail)
  obtain ⟨W, hW⟩ : ∃ V, V = (w.alloc (.cells g.cells.toArray 28)).alloc (.cells #[.int .i64 0, .int .i64 0, .bool false, .bool false, .bool false, .bool false, .bool false, .bool false, .bool false, .bool false, .bool false, .bool false, .bool false, .bool false, .int .u64 0, .int .u64 0, .int .u64 0, .int .u64 0, .int .u64 0, .int .u64 0, .int .i64 0] 28) := ⟨_, rfl⟩
  rw [← hW]
  have h0 : BH w.heap.size w g W := by rw [hW]; exact BH.new w g
  have H := Lib.hid h0
  clear hW h0
  generalize hb : w.heap.size = b at *
  have HB := Lib.hid hb
  clear hb
  obtain ⟨W0, hW0⟩ : ∃ V, V = W := ⟨_, rfl⟩
  rw [← hW0]
  have H0 : Hid (BH b w g W0) := by rw [hW0]; exact H
  clear hW0 H
  clear W
  go_upto_region 16 with (go_at_call 13; ((with_reducible refine (KA.out _).mono ?_); rintro e w' ⟨rfl, rfl⟩))
  have c1 := H0.out.1.e
  have f1 : W0.frozen? ⟨b, 1, none⟩ = false := H0.out.1.fo _
  go_upto_region 17 with (fail)
  obtain ⟨W1, hW⟩ : ∃ V, V = W0.setCell ⟨b, 1, none⟩ (.int .i64 (g.e + 1)) := ⟨_, rfl⟩
  rw [← hW]
  have H1 : Hid (BH b w _ W1) := Lib.hid (by rw [hW]; exact BH.set H0.out _ _ (IsG.setE H0.out.1 _))
  clear hW c1 f1
  have c1 := H1.out.1.s
  have f1 : W1.frozen? ⟨b, 20, none⟩ = false := H1.out.1.fo _
  go_upto_region 18 with (fail)
  obtain ⟨W2, hW⟩ : ∃ V, V = W1.setCell ⟨b, 20, none⟩ (.int .i64 (g.s + 1)) := ⟨_, rfl⟩
  rw [← hW]
  have H2 : Hid (BH b w _ W2) := Lib.hid (by rw [hW]; exact BH.set H1.out _ _ (IsG.setS H1.out.1 _))
  clear hW c1 f1
  go_wp2_with (first | (refine wpList_load_row rfl 28 _ rfl b rfl 28 _ (0, 0) _ H2.out.1 Try.underlying28 rfl (sizeG _) ?_) | (refine wpList_store_row rfl 28 _ _ rfl (b + 1) _ rfl rfl 28 _ H2.out.2.1 (sizeG _) rfl (one_cells _) ?_))
  refine bodyPost_ret (results_cell_row rfl _ _ (b + 1) 28 _ (0, 0) _ rfl (setRow_heap _ _ _ _ _ _ H2.out.2.1) Try.underlying28 rfl (sizeG _)) rfl ⟨?_, ?_⟩
  · rfl
  · rw [HB.out]; exact below_setRow H2.out.2.2 (Nat.le_succ _) _
set_option maxHeartbeats 1000000 in
theorem behind_hand (w : World) (g : Grp) (wr mb cut : Int) (ha : askedB wr 5 mb = true) (e0 : -1 ≤ g.e) (e1 : g.e ≤ 1000) (s0 : 0 ≤ g.s) (s1 : g.s ≤ 1000) :
    Calls Try.prog 8 #[.agg g.cells.toArray, .int .i64 wr, .int .i64 5, .int .i64 mb, .int .u64 cut] w fun e w' => e = .returned (.agg ({ g with o := mb, s := g.s + 1 }).cells.toArray) ∧ Below w.heap.size w w' := by
  have ka := asked_any wr 5 mb
  rw [ha] at ka
  have KA := Lib.hid ka
  clear ka ha
  go_enter Try.func8, Try.ntmps8
  go_upto_region 1 with (fail)
  obtain ⟨W, hW⟩ : ∃ V, V = (w.alloc (.cells g.cells.toArray 28)).alloc (.cells #[.int .i64 0, .int .i64 0, .bool false, .bool false, .bool false, .bool false, .bool false, .bool false, .bool false, .bool false, .bool false, .bool false, .bool false, .bool false, .int .u64 0, .int .u64 0, .int .u64 0, .int .u64 0, .int .u64 0, .int .u64 0, .int .i64 0] 28) := ⟨_, rfl⟩
  rw [← hW]
  have h0 : BH w.heap.size w g W := by rw [hW]; exact BH.new w g
  have H := Lib.hid h0
  clear hW h0
  generalize hb : w.heap.size = b at *
  have HB := Lib.hid hb
  clear hb
  obtain ⟨W0, hW0⟩ : ∃ V, V = W := ⟨_, rfl⟩
  rw [← hW0]
  have H0 : Hid (BH b w g W0) := by rw [hW0]; exact H
  clear hW0 H
  clear W
  go_upto_region 14 with (go_at_call 13; ((with_reducible refine (KA.out _).mono ?_); rintro e w' ⟨rfl, rfl⟩))
  have c1 := H0.out.1.o
  have f1 : W0.frozen? ⟨b, 0, none⟩ = false := H0.out.1.fo _
  go_upto_region 17 with (fail)
  obtain ⟨W1, hW⟩ : ∃ V, V = W0.setCell ⟨b, 0, none⟩ (.int .i64 mb) := ⟨_, rfl⟩
  rw [← hW]
  have H1 : Hid (BH b w _ W1) := Lib.hid (by rw [hW]; exact BH.set H0.out _ _ (IsG.setO H0.out.1 _))
  clear hW c1 f1
  have c1 := H1.out.1.s
  have f1 : W1.frozen? ⟨b, 20, none⟩ = false := H1.out.1.fo _
  go_upto_region 18 with (fail)
  obtain ⟨W2, hW⟩ : ∃ V, V = W1.setCell ⟨b, 20, none⟩ (.int .i64 (g.s + 1)) := ⟨_, rfl⟩
  rw [← hW]
  have H2 : Hid (BH b w _ W2) := Lib.hid (by rw [hW]; exact BH.set H1.out _ _ (IsG.setS H1.out.1 _))
  clear hW c1 f1
  go_wp2_with (first | (refine wpList_load_row rfl 28 _ rfl b rfl 28 _ (0, 0) _ H2.out.1 Try.underlying28 rfl (sizeG _) ?_) | (refine wpList_store_row rfl 28 _ _ rfl (b + 1) _ rfl rfl 28 _ H2.out.2.1 (sizeG _) rfl (one_cells _) ?_))
  refine bodyPost_ret (results_cell_row rfl _ _ (b + 1) 28 _ (0, 0) _ rfl (setRow_heap _ _ _ _ _ _ H2.out.2.1) Try.underlying28 rfl (sizeG _)) rfl ⟨?_, ?_⟩
  · rfl
  · rw [HB.out]; exact below_setRow H2.out.2.2 (Nat.le_succ _) _
theorem behind_any (w : World) (g : Grp) (wr op mb cut : Int) (e0 : -1 ≤ g.e) (e1 : g.e ≤ 1000) (s0 : 0 ≤ g.s) (s1 : g.s ≤ 1000) :
    Calls Try.prog 8 #[.agg g.cells.toArray, .int .i64 wr, .int .i64 op, .int .i64 mb, .int .u64 cut] w fun e w' => e = .returned (.agg (behindG g wr op mb cut).cells.toArray) ∧ Below w.heap.size w w' := by
  cases h : askedB wr op mb
  · have := behind_no w g wr op mb cut h
    unfold behindG; rw [if_pos h]; exact this
  · unfold behindG
    rw [if_neg (by rw [h]; simp)]
    have h' := h
    unfold askedB at h'
    simp only [Bool.and_eq_true, decide_eq_true_eq] at h'
    obtain ⟨⟨hw, hop1, hop5⟩, hm⟩ := h'
    have hop : op = 1 ∨ op = 2 ∨ op = 3 ∨ op = 4 ∨ op = 5 := by omega
    rcases hop with rfl | rfl | rfl | rfl | rfl
    · obtain ⟨k, hk, rfl⟩ := known_nat wr hw
      have := behind_create w g k hk mb cut h e0 e1 s0 s1
      have e : ((k : Int) + 1 - 1).toNat = k := by omega
      simpa [e] using this
    · rw [if_pos (by simp)] at hm
      obtain ⟨k, hk, rfl⟩ := known_nat mb hm
      have := behind_add w g k hk wr cut h e0 e1 s0 s1
      have e : ((k : Int) + 1 - 1).toNat = k := by omega
      simpa [e] using this
    · rw [if_pos (by simp)] at hm
      obtain ⟨k, hk, rfl⟩ := known_nat mb hm
      have := behind_remove w g k hk wr cut h e0 e1 s0 s1
      have e : ((k : Int) + 1 - 1).toNat = k := by omega
      simpa [e] using this
    · have := behind_four w g wr mb cut h e0 e1 s0 s1
      simpa using this
    · have := behind_hand w g wr mb cut h e0 e1 s0 s1
      simpa using this
end Go.Proofs.Ytdhpgadhdgpbdaa
