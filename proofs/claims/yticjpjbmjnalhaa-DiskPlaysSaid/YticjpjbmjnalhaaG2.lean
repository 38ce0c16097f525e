/- do: a call on both disks. -/
import Derived.Test.YticjpjbmjnalhaaG1
namespace Go.Proofs.Yticjpjbmjnalhaa
open Go Go.RowKit
set_option maxRecDepth 100000
theorem row_fd {w w' : World} {b gs gm : Nat} {a : Option Addr} {m : Nat} {xs : List Int} (f : Fd b gs gm w w') (hr : Row w a m xs) (ng : 0 < m → ∀ p, a = some p → p.block ≠ b ∧ p.block ≠ gs ∧ p.block ≠ gm) : Row w' a m xs := by
  rcases Nat.eq_zero_or_pos m with h | h
  · exact row_zero hr h
  · exact f.row hr (ng h)
theorem full_ok (x : Int) (xs : List Int) (hx : 0 ≤ x ∧ x ≤ 255) (hs : ∀ y ∈ xs, 0 ≤ y ∧ y ≤ 255) : SOk (fullL x xs 64) :=
  ⟨fullL_len _ _ _, fun y hy => by
    unfold fullL at hy
    obtain ⟨i, _, rfl⟩ := List.mem_map.1 hy
    split
    · exact getD_byte hs i
    · exact hx⟩
theorem run_maxm1 (a : Act) (o : Oper) (w : World) (x : Operand) (k : Int) (ho : o.op = .call { callee := .builtin .max, args := #[x, .const (.int .i64 (-1))], argTypes := #[3, 3] }) (ht : o.type = 3) (hx : a.eval x = .int .i64 k) :
    (execOp a.eval o).run Try.prog w = .ok (.value (.int .i64 (maxF k))) w := by
  have hc : a.eval (.const (.int .i64 (-1))) = .int .i64 (-1) := rfl
  have q : (Builtin.max_ #[3, 3] 3 #[.int .i64 k, .int .i64 (-1)]).run Try.prog w = .ok (.int .i64 (maxF k)) w := by
    rw [run_max_int2]
    unfold maxF
    congr 2
  unfold execOp
  simp only [ho, resolve, invoke, builtin, Sem.run_bind, Sem.run_pure, Result.andThen_ok, List.map_toArray, List.map_cons, List.map_nil, hx, hc, ht, q]
attribute [local irreducible] wpList
set_option maxHeartbeats 4000000 in
theorem do_any (w : World) (base b gs gm r n : Nat) (h : LK w base b gs gm r n) (hb : base ≤ w.heap.size) (q i x : Int) (a : Option Addr) (m c : Nat) (xs : List Int) (hi : -9223372036854775808 ≤ i ∧ i ≤ 9223372036854775807) (hx : 0 ≤ x ∧ x ≤ 255) (hr : Row w a m xs) (ha : 0 < m → ∀ p, a = some p → p.block < base) :
    Calls Try.prog 15 #[.pointer (some ⟨b, 0, none⟩), .pointer (some ⟨r, 0, none⟩), .agg #[.int .u8 q, .int .i64 i, .int .u8 x, .slice a m c]] w fun e w' => e = .returned (.bool true) ∧ LK w' base b gs gm r n ∧ Below base w w' := by
  have H := Lib.hid h
  have HB := Lib.hid hb
  have HI := Lib.hid hi
  have HX := Lib.hid hx
  have HR := Lib.hid hr
  have HA := Lib.hid ha
  clear h hb hi hx hr ha
  go_enter Try.func15, Try.ntmps15
  go_upto_region 0 with (fail)
  refine wp_region_lit ?_
  obtain ⟨W1, hW1⟩ : ∃ V, V = w.alloc (.cells #[.int .u8 q, .int .i64 i, .int .u8 x, .slice a m c] 38) := ⟨_, rfl⟩
  obtain ⟨bx, hbx⟩ : ∃ q, w.heap.size = q := ⟨_, rfl⟩
  refine wpL_value (.pointer (some ⟨bx, 0, none⟩)) W1 rfl (by rw [hW1, ← hbx]; kernel_rfl) ?_
  simp only [Act.put, List.setIfInBounds_toArray, List.set_cons_zero, List.set_cons_succ]
  have A0 : Below w.heap.size w W1 := by rw [hW1]; exact (Below.refl _ _).alloc (Nat.le_refl _) _
  have F0 : Hid (LK W1 base b gs gm r n ∧ Row W1 a m xs ∧ Blk W1 bx 38 #[.int .u8 q, .int .i64 i, .int .u8 x, .slice a m c] ∧ Below base w W1 ∧ base ≤ W1.heap.size) := Lib.hid ⟨H.out.below A0, HR.out.keep A0, by rw [hW1, ← hbx]; exact Blk.new _ _ _, A0.mono HB.out, Nat.le_trans HB.out A0.size⟩
  clear hW1 A0 H HR
  refine wpL_pure (.bool false) rfl (by kernel_rfl) ?_
  simp only [Act.put, List.setIfInBounds_toArray, List.set_cons_zero, List.set_cons_succ]
  unfold wpList
  go_upto_region 1 with (fail)
  refine wp_region_lit ?_
  refine wpL_pure (.pointer (some ⟨bx, 0, none⟩)) rfl (by kernel_rfl) ?_
  simp only [Act.put, List.setIfInBounds_toArray, List.set_cons_zero, List.set_cons_succ]
  refine wpL_pure (.int .u8 q) rfl (run_load_one _ _ _ 5 _ _ rfl (bx) (0) rfl (by rw [F0.out.2.2.1.cell]; rfl) (by kernel_rfl)) ?_
  simp only [Act.put, List.setIfInBounds_toArray, List.set_cons_zero, List.set_cons_succ]
  by_cases h0 : q = 0
  · have HQ := Lib.hid h0
    clear h0
    go_upto_region 2 with (fail)
    refine wp_region_lit ?_
    refine wpL_pure (.bool true) rfl (run_eqi Try.underlying5 rfl rfl rfl (by have := HQ.out; rw [decide_eq_true_eq]; omega)) ?_
    simp only [Act.put, List.setIfInBounds_toArray, List.set_cons_zero, List.set_cons_succ]
    refine wpL_pure (.bool true) rfl (by kernel_rfl) ?_
    simp only [Act.put, List.setIfInBounds_toArray, List.set_cons_zero, List.set_cons_succ]
    go_upto_region 3 with (fail)
    refine wp_region_lit ?_
    refine wpL_pure (.pointer (some ⟨bx, 2, none⟩)) rfl (by kernel_rfl) ?_
    simp only [Act.put, List.setIfInBounds_toArray, List.set_cons_zero, List.set_cons_succ]
    refine wpL_pure (.int .u8 x) rfl (run_load_one _ _ _ 5 _ _ rfl (bx) (2) rfl (by rw [F0.out.2.2.1.cell]; rfl) (by kernel_rfl)) ?_
    simp only [Act.put, List.setIfInBounds_toArray, List.set_cons_zero, List.set_cons_succ]
    refine wpL_pure (.pointer (some ⟨bx, 3, none⟩)) rfl (by kernel_rfl) ?_
    simp only [Act.put, List.setIfInBounds_toArray, List.set_cons_zero, List.set_cons_succ]
    refine wpL_pure (.slice a m c) rfl (run_load_one _ _ _ 22 _ _ rfl (bx) (3) rfl (by rw [F0.out.2.2.1.cell]; rfl) (by kernel_rfl)) ?_
    simp only [Act.put, List.setIfInBounds_toArray, List.set_cons_zero, List.set_cons_succ]
    refine wpL_call 10 #[.int .u8 x, .slice a m c] rfl (by kernel_rfl) ((full_any W1 x HX.out a m c xs F0.out.2.1).mono ?_)
    rintro e W2 ⟨v, rfl, o2, b2⟩
    obtain ⟨g2, c2, hv, bp2, lg2, _⟩ := own_bp o2 (full_ok x xs HX.out F0.out.2.1.2.2.1)
    subst hv
    have F3 : Hid (LK W2 base b gs gm r n ∧ Row W2 (some ⟨g2, 0, none⟩) 64 (fullL x xs 64) ∧ Blk W2 bx 38 #[.int .u8 q, .int .i64 i, .int .u8 x, .slice a m c] ∧ Below base w W2 ∧ base ≤ W2.heap.size) := Lib.hid ⟨F0.out.1.below b2, bp2.row (full_ok x xs HX.out F0.out.2.1.2.2.1), F0.out.2.2.1.below b2, F0.out.2.2.2.1.trans (b2.mono F0.out.2.2.2.2), Nat.le_trans F0.out.2.2.2.2 b2.size⟩
    have NG : Hid (g2 ≠ b ∧ g2 ≠ gs ∧ g2 ≠ gm ∧ g2 ≠ r) := Lib.hid (by have := F0.out.1.ns.1; omega)
    have FB : Hid (bx ≠ b ∧ bx ≠ gs ∧ bx ≠ gm) := Lib.hid (F3.out.1.far F3.out.2.2.1 (by decide))
    clear o2 b2 bp2 lg2 F0
    refine ⟨_, rfl, ?_⟩
    simp only [Act.put, List.setIfInBounds_toArray, List.set_cons_zero, List.set_cons_succ]
    refine wpL_pure (.slice (some ⟨g2, 0, none⟩) 64 c2) rfl (by kernel_rfl) ?_
    simp only [Act.put, List.setIfInBounds_toArray, List.set_cons_zero, List.set_cons_succ]
    unfold wpList
    go_upto_region 4 with (fail)
    refine region_anyT (fun X => Blk X bx 38 #[.int .u8 q, .int .i64 i, .int .u8 x, .slice a m c]) (by kernel_rfl) 12 12 rfl ?_
    refine wpAnyT_take (i := 0) (oi := ⟨some 17, _, _, _, _, _⟩) (v := .pointer (some ⟨b, 0, none⟩)) rfl (by kernel_rfl) (by kernel_rfl) (by kernel_rfl) (fun _ _ _ h => h) (by kernel_rfl) (Or.inl ⟨rfl, fun w h => by kernel_rfl⟩) (show Blk W2.drew bx 38 _ from F3.out.2.2.1) ?_
    simp only [Act.put, List.setIfInBounds_toArray, List.set_cons_zero, List.set_cons_succ]
    refine wpAnyT_take (i := 1) (oi := ⟨some 18, _, _, _, _, _⟩) (v := .pointer (some ⟨bx, 1, none⟩)) rfl (by kernel_rfl) (by kernel_rfl) (by kernel_rfl) (fun _ _ _ h => h) (by kernel_rfl) (Or.inl ⟨rfl, fun w h => by kernel_rfl⟩) (show Blk W2.drew bx 38 _ from F3.out.2.2.1) ?_
    simp only [Act.put, List.setIfInBounds_toArray, List.set_cons_zero, List.set_cons_succ]
    refine wpAnyT_take (i := 2) (oi := ⟨some 19, _, _, _, _, _⟩) (v := .int .i64 i) rfl (by kernel_rfl) (by kernel_rfl) (by kernel_rfl) (fun _ _ _ h => h) (by kernel_rfl) (Or.inl ⟨rfl, fun w h => run_load_one _ _ _ 3 _ _ rfl (bx) (1) rfl (by rw [h.cell]; rfl) (by kernel_rfl)⟩) (show Blk W2.drew bx 38 _ from F3.out.2.2.1) ?_
    simp only [Act.put, List.setIfInBounds_toArray, List.set_cons_zero, List.set_cons_succ]
    refine wpAnyT_take (i := 3) (oi := ⟨some 20, _, _, _, _, _⟩) (v := .slice (some ⟨g2, 0, none⟩) 64 c2) rfl (by kernel_rfl) (by kernel_rfl) (by kernel_rfl) (fun _ _ _ h => h) (by kernel_rfl) (Or.inl ⟨rfl, fun w h => by kernel_rfl⟩) (show Blk W2.drew bx 38 _ from F3.out.2.2.1) ?_
    simp only [Act.put, List.setIfInBounds_toArray, List.set_cons_zero, List.set_cons_succ]
    refine wpAnyT_take (i := 5) (oi := ⟨some 22, _, _, _, _, _⟩) (v := .pointer (some ⟨r, 0, none⟩)) rfl (by kernel_rfl) (by kernel_rfl) (by kernel_rfl) (fun _ _ _ h => h) (by kernel_rfl) (Or.inl ⟨rfl, fun w h => by kernel_rfl⟩) (show Blk W2.drew bx 38 _ from F3.out.2.2.1) ?_
    simp only [Act.put, List.setIfInBounds_toArray, List.set_cons_zero, List.set_cons_succ]
    refine wpAnyT_take (i := 6) (oi := ⟨some 23, _, _, _, _, _⟩) (v := .pointer (some ⟨bx, 1, none⟩)) rfl (by kernel_rfl) (by kernel_rfl) (by kernel_rfl) (fun _ _ _ h => h) (by kernel_rfl) (Or.inl ⟨rfl, fun w h => by kernel_rfl⟩) (show Blk W2.drew bx 38 _ from F3.out.2.2.1) ?_
    simp only [Act.put, List.setIfInBounds_toArray, List.set_cons_zero, List.set_cons_succ]
    refine wpAnyT_take (i := 7) (oi := ⟨some 24, _, _, _, _, _⟩) (v := .int .i64 i) rfl (by kernel_rfl) (by kernel_rfl) (by kernel_rfl) (fun _ _ _ h => h) (by kernel_rfl) (Or.inl ⟨rfl, fun w h => run_load_one _ _ _ 3 _ _ rfl (bx) (1) rfl (by rw [h.cell]; rfl) (by kernel_rfl)⟩) (show Blk W2.drew bx 38 _ from F3.out.2.2.1) ?_
    simp only [Act.put, List.setIfInBounds_toArray, List.set_cons_zero, List.set_cons_succ]
    refine wpAnyT_take (i := 8) (oi := ⟨some 25, _, _, _, _, _⟩) (v := .slice (some ⟨g2, 0, none⟩) 64 c2) rfl (by kernel_rfl) (by kernel_rfl) (by kernel_rfl) (fun _ _ _ h => h) (by kernel_rfl) (Or.inl ⟨rfl, fun w h => by kernel_rfl⟩) (show Blk W2.drew bx 38 _ from F3.out.2.2.1) ?_
    simp only [Act.put, List.setIfInBounds_toArray, List.set_cons_zero, List.set_cons_succ]
    refine wpAnyT_one (i := 4) (by kernel_rfl) ?_
    refine op_call (o := ⟨some 21, _, _, _, _, _⟩) 11 #[.pointer (some ⟨b, 0, none⟩), .int .i64 i, .slice (some ⟨g2, 0, none⟩) 64 c2] rfl rfl (by kernel_rfl) ((mid_write (w := W2.drew) (F3.out.1.below (Below.drew (Below.refl _ _))) i _ _ _ (fullL x xs 64) F3.out.2.1 (fun _ p hp => by cases hp; exact ⟨NG.out.1, NG.out.2.1, NG.out.2.2.1⟩)).mono fun e X1 hx => ?_)
    obtain ⟨z, rfl, mw, f1⟩ := hx
    have F1 : Hid (MidW X1 base b gs gm r n i 64 (fullL x xs 64) z ∧ Blk X1 bx 38 #[.int .u8 q, .int .i64 i, .int .u8 x, .slice a m c] ∧ Below base w X1 ∧ base ≤ X1.heap.size ∧ Row X1 (some ⟨g2, 0, none⟩) 64 (fullL x xs 64)) := Lib.hid ⟨mw, Fd.blk f1 (show Blk W2.drew bx 38 _ from F3.out.2.2.1) FB.out.1 FB.out.2.1 FB.out.2.2, F3.out.2.2.2.1.trans ((Fd.toB f1 ⟨F3.out.1.ns.2.1.1, F3.out.1.ns.2.1.2.1, F3.out.1.ns.2.1.2.2.1⟩ (show base ≤ W2.drew.heap.size from F3.out.2.2.2.2))), Nat.le_trans (show base ≤ W2.drew.heap.size from F3.out.2.2.2.2) f1.2.2.2.1, row_fd f1 F3.out.2.1 (fun _ p hp => by cases hp; exact ⟨NG.out.1, NG.out.2.1, NG.out.2.2.1⟩)⟩
    clear mw f1
    refine ⟨.int .i64 z, rfl, ?_⟩
    refine ⟨fun _ => F1.out.2.1, ?_⟩
    simp only [Act.put, List.setIfInBounds_toArray, List.set_cons_zero, List.set_cons_succ]
    refine wpAnyT_one (i := 9) (by kernel_rfl) ?_
    refine op_call (o := ⟨some 26, _, _, _, _, _⟩) 26 #[.pointer (some ⟨r, 0, none⟩), .int .i64 i, .slice (some ⟨g2, 0, none⟩) 64 c2] rfl rfl (by kernel_rfl) ((ref_write F1.out.1 F1.out.2.2.2.1 _ _ F1.out.2.2.2.2 (fun _ p hp => by cases hp; exact NG.out.2.2.2)).mono fun e X2 hx => ?_)
    obtain ⟨rfl, lk, f2⟩ := hx
    have F2 : Hid (LK X2 base b gs gm r n ∧ Blk X2 bx 38 #[.int .u8 q, .int .i64 i, .int .u8 x, .slice a m c] ∧ Below base w X2) := Lib.hid ⟨lk, f2.blk F1.out.2.1 (by decide), F1.out.2.2.1.trans (f2.toB F1.out.2.2.2.1)⟩
    clear lk f2 F1
    refine ⟨.int .i64 z, rfl, ?_⟩
    refine ⟨fun _ => F2.out.2.1, ?_⟩
    simp only [Act.put, List.setIfInBounds_toArray, List.set_cons_zero, List.set_cons_succ]
    refine wpAnyT_take (i := 10) (oi := ⟨some 27, _, _, _, _, _⟩) (v := .bool true) rfl (by kernel_rfl) (by kernel_rfl) (by kernel_rfl) (fun _ _ _ h => h) (by kernel_rfl) (Or.inl ⟨rfl, fun w h => run_eqi Try.underlying27 rfl rfl rfl (by simp)⟩) (F2.out.2.1) ?_
    simp only [Act.put, List.setIfInBounds_toArray, List.set_cons_zero, List.set_cons_succ]
    refine wpAnyT_take (i := 11) (oi := ⟨some 6, _, _, _, _, _⟩) (v := .bool true) rfl (by kernel_rfl) (by kernel_rfl) (by kernel_rfl) (fun _ _ _ h => h) (by kernel_rfl) (Or.inl ⟨rfl, fun w h => by kernel_rfl⟩) (F2.out.2.1) ?_
    simp only [Act.put, List.setIfInBounds_toArray, List.set_cons_zero, List.set_cons_succ]
    refine wpAnyT_done (by kernel_rfl) ?_ _
    go_wp2_with fail
    go_ret
    exact ⟨rfl, F2.out.1, F2.out.2.2⟩
  · have HQ := Lib.hid h0
    clear h0
    go_upto_region 2 with (fail)
    refine wp_region_lit ?_
    refine wpL_pure (.bool false) rfl (run_eqi Try.underlying5 rfl rfl rfl (by have := HQ.out; rw [decide_eq_false_iff_not]; omega)) ?_
    simp only [Act.put, List.setIfInBounds_toArray, List.set_cons_zero, List.set_cons_succ]
    refine wpL_pure (.bool false) rfl (by kernel_rfl) ?_
    simp only [Act.put, List.setIfInBounds_toArray, List.set_cons_zero, List.set_cons_succ]
    by_cases h1 : q = 1
    · have HQ1 := Lib.hid h1
      clear h1
      go_upto_region 5 with (fail)
      refine wp_region_lit ?_
      refine wpL_pure (.bool true) rfl (run_eqi Try.underlying5 rfl rfl rfl (by have := HQ1.out; rw [decide_eq_true_eq]; omega)) ?_
      simp only [Act.put, List.setIfInBounds_toArray, List.set_cons_zero, List.set_cons_succ]
      refine wpL_pure (.bool true) rfl (by kernel_rfl) ?_
      simp only [Act.put, List.setIfInBounds_toArray, List.set_cons_zero, List.set_cons_succ]
      go_upto_region 6 with (fail)
      refine wp_region_lit ?_
      refine wpL_pure (.pointer (some ⟨b, 0, none⟩)) rfl (by kernel_rfl) ?_
      simp only [Act.put, List.setIfInBounds_toArray, List.set_cons_zero, List.set_cons_succ]
      refine wpL_call 17 #[.pointer (some ⟨b, 0, none⟩)] rfl (by kernel_rfl) ((mid_sync F0.out.1).mono ?_)
      rintro e X1 ⟨z, rfl, mw, f1⟩
      have F1 : Hid (MidS X1 base b gs gm r n z ∧ Below base w X1 ∧ base ≤ X1.heap.size) := Lib.hid ⟨mw, F0.out.2.2.2.1.trans (Fd.toB f1 ⟨F0.out.1.ns.2.1.1, F0.out.1.ns.2.1.2.1, F0.out.1.ns.2.1.2.2.1⟩ F0.out.2.2.2.2), Nat.le_trans F0.out.2.2.2.2 f1.2.2.2.1⟩
      clear mw f1
      refine ⟨_, rfl, ?_⟩
      simp only [Act.put, List.setIfInBounds_toArray, List.set_cons_zero, List.set_cons_succ]
      refine wpL_pure (.pointer (some ⟨r, 0, none⟩)) rfl (by kernel_rfl) ?_
      simp only [Act.put, List.setIfInBounds_toArray, List.set_cons_zero, List.set_cons_succ]
      refine wpL_call 27 #[.pointer (some ⟨r, 0, none⟩)] rfl (by kernel_rfl) ((ref_sync F1.out.1 F1.out.2.2).mono ?_)
      rintro e X2 ⟨rfl, lk, f2⟩
      have F2 : Hid (LK X2 base b gs gm r n ∧ Below base w X2) := Lib.hid ⟨lk, F1.out.2.1.trans (f2.toB F1.out.2.2)⟩
      clear lk f2 F1
      refine ⟨_, rfl, ?_⟩
      simp only [Act.put, List.setIfInBounds_toArray, List.set_cons_zero, List.set_cons_succ]
      refine wpL_pure (.bool true) rfl (run_eqi Try.underlying27 rfl rfl rfl (by simp)) ?_
      simp only [Act.put, List.setIfInBounds_toArray, List.set_cons_zero, List.set_cons_succ]
      refine wpL_pure (.bool true) rfl (by kernel_rfl) ?_
      simp only [Act.put, List.setIfInBounds_toArray, List.set_cons_zero, List.set_cons_succ]
      unfold wpList
      go_wp2_with fail
      go_ret
      exact ⟨rfl, F2.out.1, F2.out.2⟩
    · have HQ1 := Lib.hid h1
      clear h1
      go_upto_region 5 with (fail)
      refine wp_region_lit ?_
      refine wpL_pure (.bool false) rfl (run_eqi Try.underlying5 rfl rfl rfl (by have := HQ1.out; rw [decide_eq_false_iff_not]; omega)) ?_
      simp only [Act.put, List.setIfInBounds_toArray, List.set_cons_zero, List.set_cons_succ]
      refine wpL_pure (.bool false) rfl (by kernel_rfl) ?_
      simp only [Act.put, List.setIfInBounds_toArray, List.set_cons_zero, List.set_cons_succ]
      by_cases h2 : q = 2
      · have HQ2 := Lib.hid h2
        clear h2
        go_upto_region 7 with (fail)
        refine wp_region_lit ?_
        refine wpL_pure (.bool true) rfl (run_eqi Try.underlying5 rfl rfl rfl (by have := HQ2.out; rw [decide_eq_true_eq]; omega)) ?_
        simp only [Act.put, List.setIfInBounds_toArray, List.set_cons_zero, List.set_cons_succ]
        refine wpL_pure (.bool true) rfl (by kernel_rfl) ?_
        simp only [Act.put, List.setIfInBounds_toArray, List.set_cons_zero, List.set_cons_succ]
        go_upto_region 8 with (fail)
        refine wp_region_lit ?_
        refine wpL_pure (.pointer (some ⟨b, 0, none⟩)) rfl (by kernel_rfl) ?_
        simp only [Act.put, List.setIfInBounds_toArray, List.set_cons_zero, List.set_cons_succ]
        refine wpL_pure (.pointer (some ⟨bx, 1, none⟩)) rfl (by kernel_rfl) ?_
        simp only [Act.put, List.setIfInBounds_toArray, List.set_cons_zero, List.set_cons_succ]
        refine wpL_pure (.int .i64 i) rfl (run_load_one _ _ _ 3 _ _ rfl (bx) (1) rfl (by rw [F0.out.2.2.1.cell]; rfl) (by kernel_rfl)) ?_
        simp only [Act.put, List.setIfInBounds_toArray, List.set_cons_zero, List.set_cons_succ]
        have FB : Hid (bx ≠ b ∧ bx ≠ gs ∧ bx ≠ gm) := Lib.hid (F0.out.1.far F0.out.2.2.1 (by decide))
        refine wpL_call 21 #[.pointer (some ⟨b, 0, none⟩), .int .i64 i] rfl (by kernel_rfl) ((mid_fuse F0.out.1 i HI.out).mono ?_)
        rintro e X1 ⟨rfl, mw, f1⟩
        have F1 : Hid (MidF X1 base b gs gm r n i ∧ Below base w X1 ∧ base ≤ X1.heap.size ∧ Blk X1 bx 38 #[.int .u8 q, .int .i64 i, .int .u8 x, .slice a m c]) := Lib.hid ⟨mw, F0.out.2.2.2.1.trans (Fd.toB f1 ⟨F0.out.1.ns.2.1.1, F0.out.1.ns.2.1.2.1, F0.out.1.ns.2.1.2.2.1⟩ F0.out.2.2.2.2), Nat.le_trans F0.out.2.2.2.2 f1.2.2.2.1, Fd.blk f1 F0.out.2.2.1 FB.out.1 FB.out.2.1 FB.out.2.2⟩
        clear mw f1
        refine ⟨_, rfl, ?_⟩
        simp only [Act.put, List.setIfInBounds_toArray, List.set_cons_zero, List.set_cons_succ]
        unfold wpList
        go_upto_region 9 with (fail)
        refine wp_region_lit ?_
        refine wpL_pure (.pointer (some ⟨r, 0, none⟩)) rfl (by kernel_rfl) ?_
        simp only [Act.put, List.setIfInBounds_toArray, List.set_cons_zero, List.set_cons_succ]
        refine wpL_pure (.pointer (some ⟨bx, 1, none⟩)) rfl (by kernel_rfl) ?_
        simp only [Act.put, List.setIfInBounds_toArray, List.set_cons_zero, List.set_cons_succ]
        refine wpL_pure (.int .i64 i) rfl (run_load_one _ _ _ 3 _ _ rfl (bx) (1) rfl (by rw [F1.out.2.2.2.cell]; rfl) (by kernel_rfl)) ?_
        simp only [Act.put, List.setIfInBounds_toArray, List.set_cons_zero, List.set_cons_succ]
        refine wpL_pure (.int .i64 (maxF i)) rfl (run_maxm1 _ _ _ _ i rfl rfl rfl) ?_
        simp only [Act.put, List.setIfInBounds_toArray, List.set_cons_zero, List.set_cons_succ]
        refine wpL_pure (.pointer (some ⟨r, 0, none⟩)) rfl (by kernel_rfl) ?_
        simp only [Act.put, List.setIfInBounds_toArray, List.set_cons_zero, List.set_cons_succ]
        refine wpL_pure (.pointer (some ⟨r, 3, none⟩)) rfl (by kernel_rfl) ?_
        simp only [Act.put, List.setIfInBounds_toArray, List.set_cons_zero, List.set_cons_succ]
        refine wpL_store_one rfl rfl r 3 rfl (.int .i64 (maxF i)) rfl rfl size3 (ref_fuse F1.out.1 HI.out.2).1 (ref_fuse F1.out.1 HI.out.2).2.1 ?_
        obtain ⟨X2, hX2⟩ : ∃ V, V = X1.setCell ⟨r, 3, none⟩ (.int .i64 (maxF i)) := ⟨_, rfl⟩
        rw [← hX2]
        have F2 : Hid (LK X2 base b gs gm r n ∧ Below base w X2) := Lib.hid (by rw [hX2]; exact ⟨(ref_fuse F1.out.1 HI.out.2).2.2.1, F1.out.2.1.trans ((ref_fuse F1.out.1 HI.out.2).2.2.2.toB F1.out.2.2.1)⟩)
        clear hX2 F1
        go_upto_region 10 with (fail)
        refine wp_region_lit ?_
        refine wpL_pure (.bool true) rfl (by kernel_rfl) ?_
        simp only [Act.put, List.setIfInBounds_toArray, List.set_cons_zero, List.set_cons_succ]
        go_wp2_with fail
        go_ret
        exact ⟨rfl, F2.out.1, F2.out.2⟩
      · have HQ2 := Lib.hid h2
        clear h2
        go_upto_region 7 with (fail)
        refine wp_region_lit ?_
        refine wpL_pure (.bool false) rfl (run_eqi Try.underlying5 rfl rfl rfl (by have := HQ2.out; rw [decide_eq_false_iff_not]; omega)) ?_
        simp only [Act.put, List.setIfInBounds_toArray, List.set_cons_zero, List.set_cons_succ]
        refine wpL_pure (.bool false) rfl (by kernel_rfl) ?_
        simp only [Act.put, List.setIfInBounds_toArray, List.set_cons_zero, List.set_cons_succ]
        by_cases h3 : q = 3
        · have HQ3 := Lib.hid h3
          clear h3
          go_upto_region 11 with (fail)
          refine wp_region_lit ?_
          refine wpL_pure (.bool true) rfl (run_eqi Try.underlying5 rfl rfl rfl (by have := HQ3.out; rw [decide_eq_true_eq]; omega)) ?_
          simp only [Act.put, List.setIfInBounds_toArray, List.set_cons_zero, List.set_cons_succ]
          refine wpL_pure (.bool true) rfl (by kernel_rfl) ?_
          simp only [Act.put, List.setIfInBounds_toArray, List.set_cons_zero, List.set_cons_succ]
          have FB : Hid (bx ≠ b ∧ bx ≠ gs ∧ bx ≠ gm) := Lib.hid (F0.out.1.far F0.out.2.2.1 (by decide))
          have NG : Hid (0 < m → ∀ p, a = some p → p.block ≠ b ∧ p.block ≠ gs ∧ p.block ≠ gm) := Lib.hid (fun h p hp => by have q1 := HA.out h p hp; have q2 := F0.out.1.ns.2.1; omega)
          go_upto_region 12 with (fail)
          refine wp_region_lit ?_
          refine wpL_pure (.pointer (some ⟨b, 0, none⟩)) rfl (by kernel_rfl) ?_
          simp only [Act.put, List.setIfInBounds_toArray, List.set_cons_zero, List.set_cons_succ]
          refine wpL_pure (.pointer (some ⟨bx, 3, none⟩)) rfl (by kernel_rfl) ?_
          simp only [Act.put, List.setIfInBounds_toArray, List.set_cons_zero, List.set_cons_succ]
          refine wpL_pure (.slice a m c) rfl (run_load_one _ _ _ 22 _ _ rfl (bx) (3) rfl (by rw [F0.out.2.2.1.cell]; rfl) (by kernel_rfl)) ?_
          simp only [Act.put, List.setIfInBounds_toArray, List.set_cons_zero, List.set_cons_succ]
          refine wpL_call 18 #[.pointer (some ⟨b, 0, none⟩), .slice a m c] rfl (by kernel_rfl) ((mid_crash F0.out.1 a m c xs F0.out.2.1 NG.out).mono ?_)
          rintro e X1 ⟨rfl, mw, f1⟩
          have F1 : Hid (MidC X1 base b gs gm r n xs ∧ Below base w X1 ∧ base ≤ X1.heap.size ∧ Blk X1 bx 38 #[.int .u8 q, .int .i64 i, .int .u8 x, .slice a m c] ∧ Row X1 a m xs) := Lib.hid ⟨mw, F0.out.2.2.2.1.trans (Fd.toB f1 ⟨F0.out.1.ns.2.1.1, F0.out.1.ns.2.1.2.1, F0.out.1.ns.2.1.2.2.1⟩ F0.out.2.2.2.2), Nat.le_trans F0.out.2.2.2.2 f1.2.2.2.1, Fd.blk f1 F0.out.2.2.1 FB.out.1 FB.out.2.1 FB.out.2.2, row_fd f1 F0.out.2.1 NG.out⟩
          clear mw f1
          refine ⟨_, rfl, ?_⟩
          simp only [Act.put, List.setIfInBounds_toArray, List.set_cons_zero, List.set_cons_succ]
          unfold wpList
          go_upto_region 13 with (fail)
          refine wp_region_lit ?_
          refine wpL_pure (.pointer (some ⟨r, 0, none⟩)) rfl (by kernel_rfl) ?_
          simp only [Act.put, List.setIfInBounds_toArray, List.set_cons_zero, List.set_cons_succ]
          refine wpL_pure (.pointer (some ⟨bx, 3, none⟩)) rfl (by kernel_rfl) ?_
          simp only [Act.put, List.setIfInBounds_toArray, List.set_cons_zero, List.set_cons_succ]
          refine wpL_pure (.slice a m c) rfl (run_load_one _ _ _ 22 _ _ rfl (bx) (3) rfl (by rw [F1.out.2.2.2.1.cell]; rfl) (by kernel_rfl)) ?_
          simp only [Act.put, List.setIfInBounds_toArray, List.set_cons_zero, List.set_cons_succ]
          refine wpL_call 28 #[.pointer (some ⟨r, 0, none⟩), .slice a m c] rfl (by kernel_rfl) ((ref_crash F1.out.1 F1.out.2.2.1 a m c F1.out.2.2.2.2 HA.out).mono ?_)
          rintro e X2 ⟨rfl, lk, f2⟩
          have F2 : Hid (LK X2 base b gs gm r n ∧ Below base w X2) := Lib.hid ⟨lk, F1.out.2.1.trans (f2.toB F1.out.2.2.1)⟩
          clear lk f2 F1
          refine ⟨_, rfl, ?_⟩
          simp only [Act.put, List.setIfInBounds_toArray, List.set_cons_zero, List.set_cons_succ]
          unfold wpList
          go_upto_region 14 with (fail)
          refine wp_region_lit ?_
          refine wpL_pure (.bool true) rfl (by kernel_rfl) ?_
          simp only [Act.put, List.setIfInBounds_toArray, List.set_cons_zero, List.set_cons_succ]
          go_wp2_with fail
          go_ret
          exact ⟨rfl, F2.out.1, F2.out.2⟩
        · have HQ3 := Lib.hid h3
          clear h3
          go_upto_region 11 with (fail)
          refine wp_region_lit ?_
          refine wpL_pure (.bool false) rfl (run_eqi Try.underlying5 rfl rfl rfl (by have := HQ3.out; rw [decide_eq_false_iff_not]; omega)) ?_
          simp only [Act.put, List.setIfInBounds_toArray, List.set_cons_zero, List.set_cons_succ]
          refine wpL_pure (.bool false) rfl (by kernel_rfl) ?_
          simp only [Act.put, List.setIfInBounds_toArray, List.set_cons_zero, List.set_cons_succ]
          have FB : Hid (bx ≠ b ∧ bx ≠ gs ∧ bx ≠ gm) := Lib.hid (F0.out.1.far F0.out.2.2.1 (by decide))
          have NG : Hid (0 < m → ∀ p, a = some p → (p.block ≠ b ∧ p.block ≠ gs ∧ p.block ≠ gm) ∧ p.block ≠ r) := Lib.hid (fun h p hp => by have q1 := HA.out h p hp; have q2 := F0.out.1.ns.2.1; omega)
          go_upto_region 15 with (fail)
          refine region_anyT (fun X => Blk X bx 38 #[.int .u8 q, .int .i64 i, .int .u8 x, .slice a m c]) (by kernel_rfl) 14 14 rfl ?_
          refine wpAnyT_take (i := 0) (oi := ⟨some 57, _, _, _, _, _⟩) (v := .pointer (some ⟨b, 0, none⟩)) rfl (by kernel_rfl) (by kernel_rfl) (by kernel_rfl) (fun _ _ _ h => h) (by kernel_rfl) (Or.inl ⟨rfl, fun w h => by kernel_rfl⟩) (show Blk W1.drew bx 38 _ from F0.out.2.2.1) ?_
          simp only [Act.put, List.setIfInBounds_toArray, List.set_cons_zero, List.set_cons_succ]
          refine wpAnyT_take (i := 1) (oi := ⟨some 58, _, _, _, _, _⟩) (v := .pointer (some ⟨bx, 1, none⟩)) rfl (by kernel_rfl) (by kernel_rfl) (by kernel_rfl) (fun _ _ _ h => h) (by kernel_rfl) (Or.inl ⟨rfl, fun w h => by kernel_rfl⟩) (show Blk W1.drew bx 38 _ from F0.out.2.2.1) ?_
          simp only [Act.put, List.setIfInBounds_toArray, List.set_cons_zero, List.set_cons_succ]
          refine wpAnyT_take (i := 2) (oi := ⟨some 59, _, _, _, _, _⟩) (v := .int .i64 i) rfl (by kernel_rfl) (by kernel_rfl) (by kernel_rfl) (fun _ _ _ h => h) (by kernel_rfl) (Or.inl ⟨rfl, fun w h => run_load_one _ _ _ 3 _ _ rfl (bx) (1) rfl (by rw [h.cell]; rfl) (by kernel_rfl)⟩) (show Blk W1.drew bx 38 _ from F0.out.2.2.1) ?_
          simp only [Act.put, List.setIfInBounds_toArray, List.set_cons_zero, List.set_cons_succ]
          refine wpAnyT_take (i := 3) (oi := ⟨some 60, _, _, _, _, _⟩) (v := .pointer (some ⟨bx, 3, none⟩)) rfl (by kernel_rfl) (by kernel_rfl) (by kernel_rfl) (fun _ _ _ h => h) (by kernel_rfl) (Or.inl ⟨rfl, fun w h => by kernel_rfl⟩) (show Blk W1.drew bx 38 _ from F0.out.2.2.1) ?_
          simp only [Act.put, List.setIfInBounds_toArray, List.set_cons_zero, List.set_cons_succ]
          refine wpAnyT_take (i := 4) (oi := ⟨some 61, _, _, _, _, _⟩) (v := .slice a m c) rfl (by kernel_rfl) (by kernel_rfl) (by kernel_rfl) (fun _ _ _ h => h) (by kernel_rfl) (Or.inl ⟨rfl, fun w h => run_load_one _ _ _ 22 _ _ rfl (bx) (3) rfl (by rw [h.cell]; rfl) (by kernel_rfl)⟩) (show Blk W1.drew bx 38 _ from F0.out.2.2.1) ?_
          simp only [Act.put, List.setIfInBounds_toArray, List.set_cons_zero, List.set_cons_succ]
          refine wpAnyT_take (i := 6) (oi := ⟨some 63, _, _, _, _, _⟩) (v := .pointer (some ⟨r, 0, none⟩)) rfl (by kernel_rfl) (by kernel_rfl) (by kernel_rfl) (fun _ _ _ h => h) (by kernel_rfl) (Or.inl ⟨rfl, fun w h => by kernel_rfl⟩) (show Blk W1.drew bx 38 _ from F0.out.2.2.1) ?_
          simp only [Act.put, List.setIfInBounds_toArray, List.set_cons_zero, List.set_cons_succ]
          refine wpAnyT_take (i := 7) (oi := ⟨some 64, _, _, _, _, _⟩) (v := .pointer (some ⟨bx, 1, none⟩)) rfl (by kernel_rfl) (by kernel_rfl) (by kernel_rfl) (fun _ _ _ h => h) (by kernel_rfl) (Or.inl ⟨rfl, fun w h => by kernel_rfl⟩) (show Blk W1.drew bx 38 _ from F0.out.2.2.1) ?_
          simp only [Act.put, List.setIfInBounds_toArray, List.set_cons_zero, List.set_cons_succ]
          refine wpAnyT_take (i := 8) (oi := ⟨some 65, _, _, _, _, _⟩) (v := .int .i64 i) rfl (by kernel_rfl) (by kernel_rfl) (by kernel_rfl) (fun _ _ _ h => h) (by kernel_rfl) (Or.inl ⟨rfl, fun w h => run_load_one _ _ _ 3 _ _ rfl (bx) (1) rfl (by rw [h.cell]; rfl) (by kernel_rfl)⟩) (show Blk W1.drew bx 38 _ from F0.out.2.2.1) ?_
          simp only [Act.put, List.setIfInBounds_toArray, List.set_cons_zero, List.set_cons_succ]
          refine wpAnyT_take (i := 9) (oi := ⟨some 66, _, _, _, _, _⟩) (v := .pointer (some ⟨bx, 3, none⟩)) rfl (by kernel_rfl) (by kernel_rfl) (by kernel_rfl) (fun _ _ _ h => h) (by kernel_rfl) (Or.inl ⟨rfl, fun w h => by kernel_rfl⟩) (show Blk W1.drew bx 38 _ from F0.out.2.2.1) ?_
          simp only [Act.put, List.setIfInBounds_toArray, List.set_cons_zero, List.set_cons_succ]
          refine wpAnyT_take (i := 10) (oi := ⟨some 67, _, _, _, _, _⟩) (v := .slice a m c) rfl (by kernel_rfl) (by kernel_rfl) (by kernel_rfl) (fun _ _ _ h => h) (by kernel_rfl) (Or.inl ⟨rfl, fun w h => run_load_one _ _ _ 22 _ _ rfl (bx) (3) rfl (by rw [h.cell]; rfl) (by kernel_rfl)⟩) (show Blk W1.drew bx 38 _ from F0.out.2.2.1) ?_
          simp only [Act.put, List.setIfInBounds_toArray, List.set_cons_zero, List.set_cons_succ]
          refine wpAnyT_one (i := 5) (by kernel_rfl) ?_
          refine op_call (o := ⟨some 62, _, _, _, _, _⟩) 11 #[.pointer (some ⟨b, 0, none⟩), .int .i64 i, .slice a m c] rfl rfl (by kernel_rfl) ((mid_write (w := W1.drew) (F0.out.1.below (Below.drew (Below.refl _ _))) i _ _ _ xs F0.out.2.1 (fun h p hp => (NG.out h p hp).1)).mono fun e X1 hx => ?_)
          obtain ⟨z, rfl, mw, f1⟩ := hx
          have F1 : Hid (MidW X1 base b gs gm r n i m xs z ∧ Blk X1 bx 38 #[.int .u8 q, .int .i64 i, .int .u8 x, .slice a m c] ∧ Below base w X1 ∧ base ≤ X1.heap.size ∧ Row X1 a m xs) := Lib.hid ⟨mw, Fd.blk f1 (show Blk W1.drew bx 38 _ from F0.out.2.2.1) FB.out.1 FB.out.2.1 FB.out.2.2, F0.out.2.2.2.1.trans ((Fd.toB f1 ⟨F0.out.1.ns.2.1.1, F0.out.1.ns.2.1.2.1, F0.out.1.ns.2.1.2.2.1⟩ (show base ≤ W1.drew.heap.size from F0.out.2.2.2.2))), Nat.le_trans (show base ≤ W1.drew.heap.size from F0.out.2.2.2.2) f1.2.2.2.1, row_fd f1 F0.out.2.1 (fun h p hp => (NG.out h p hp).1)⟩
          clear mw f1
          refine ⟨.int .i64 z, rfl, ?_⟩
          refine ⟨fun _ => F1.out.2.1, ?_⟩
          simp only [Act.put, List.setIfInBounds_toArray, List.set_cons_zero, List.set_cons_succ]
          refine wpAnyT_one (i := 11) (by kernel_rfl) ?_
          refine op_call (o := ⟨some 68, _, _, _, _, _⟩) 26 #[.pointer (some ⟨r, 0, none⟩), .int .i64 i, .slice a m c] rfl rfl (by kernel_rfl) ((ref_write F1.out.1 F1.out.2.2.2.1 _ _ F1.out.2.2.2.2 (fun h p hp => (NG.out h p hp).2)).mono fun e X2 hx => ?_)
          obtain ⟨rfl, lk, f2⟩ := hx
          have F2 : Hid (LK X2 base b gs gm r n ∧ Blk X2 bx 38 #[.int .u8 q, .int .i64 i, .int .u8 x, .slice a m c] ∧ Below base w X2) := Lib.hid ⟨lk, f2.blk F1.out.2.1 (by decide), F1.out.2.2.1.trans (f2.toB F1.out.2.2.2.1)⟩
          clear lk f2 F1
          refine ⟨.int .i64 z, rfl, ?_⟩
          refine ⟨fun _ => F2.out.2.1, ?_⟩
          simp only [Act.put, List.setIfInBounds_toArray, List.set_cons_zero, List.set_cons_succ]
          refine wpAnyT_take (i := 12) (oi := ⟨some 69, _, _, _, _, _⟩) (v := .bool true) rfl (by kernel_rfl) (by kernel_rfl) (by kernel_rfl) (fun _ _ _ h => h) (by kernel_rfl) (Or.inl ⟨rfl, fun w h => run_eqi Try.underlying27 rfl rfl rfl (by simp)⟩) (F2.out.2.1) ?_
          simp only [Act.put, List.setIfInBounds_toArray, List.set_cons_zero, List.set_cons_succ]
          refine wpAnyT_take (i := 13) (oi := ⟨some 6, _, _, _, _, _⟩) (v := .bool true) rfl (by kernel_rfl) (by kernel_rfl) (by kernel_rfl) (fun _ _ _ h => h) (by kernel_rfl) (Or.inl ⟨rfl, fun w h => by kernel_rfl⟩) (F2.out.2.1) ?_
          simp only [Act.put, List.setIfInBounds_toArray, List.set_cons_zero, List.set_cons_succ]
          refine wpAnyT_done (by kernel_rfl) ?_ _
          go_wp2_with fail
          go_ret
          exact ⟨rfl, F2.out.1, F2.out.2.2⟩
end Go.Proofs.Yticjpjbmjnalhaa
