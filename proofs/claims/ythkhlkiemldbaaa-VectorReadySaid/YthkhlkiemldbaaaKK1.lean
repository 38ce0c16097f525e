/- Tokens are compared; and whether they rise. -/
import Derived.Test.YthkhlkiemldbaaaKT0
import Derived.Lib.BytesEntry
namespace Go.Proofs.Ythkhlkiemldbaaa.K.Ha
open Go Go.RowKit
set_option maxRecDepth 100000
def cmpT (xs ys : List Int) : Int := Lib.compareBytes (Lib.bytesOf xs) (Lib.bytesOf ys)
theorem run_compareSlice (w : World) (g o n c g1 o1 n1 c1 : Nat) (xs ys : List Int) (hx : xs.length = n) (hy : ys.length = n1) (rx : Row w (some ⟨g, o, none⟩) n xs) (ry : Row w (some ⟨g1, o1, none⟩) n1 ys) :
    (Extern.BytealgCompare.compare #[.slice (some ⟨g, o, none⟩) n c, .slice (some ⟨g1, o1, none⟩) n1 c1]).run Try.prog w = .ok (.int .i64 (cmpT xs ys)) w := by
  have key : ∀ (g o n : Nat) (xs : List Int), xs.length = n → Row w (some ⟨g, o, none⟩) n xs → (Extern.Bytes.loadBytes ⟨g, o, none⟩ n .empty).run Try.prog w = .ok ⟨(Lib.bytesOf xs).toArray⟩ w := by
    intro g o n xs hx rx
    have h := Lib.run_loadBytesX (P := Try.prog) w xs ⟨g, o, none⟩ .empty (fun j x hj => by
      have hjl : j < xs.length := (List.getElem?_eq_some_iff.1 hj).1
      obtain ⟨g', o', e, hc⟩ := rx.2.2.2 j (by omega)
      cases e
      have e : (⟨g, o, none⟩ : Addr).add j = ⟨g, o + j, none⟩ := by unfold Addr.add; split <;> simp_all
      rw [e, hc, List.getD_eq_getElem?_getD, hj]
      rfl)
    rw [hx] at h
    rw [h]
    congr 1
    apply ByteArray.ext
    show (#[] : Array UInt8) ++ (Lib.bytesOf xs).toArray = (Lib.bytesOf xs).toArray
    simp
  change Sem.run Try.prog (do pure (goInt (Extern.BytealgCompare.cmp (← Extern.Bytes.bytesOf (.slice (some ⟨g, o, none⟩) n c)) (← Extern.Bytes.bytesOf (.slice (some ⟨g1, o1, none⟩) n1 c1))))) w = _
  simp only [Extern.Bytes.bytesOf, Sem.run_bind, key g o n xs hx rx, key g1 o1 n1 ys hy ry, Result.andThen, Sem.run_pure]
  rw [Lib.cmp_eq]
  rfl
theorem run_box35 (a : Act) (o : Oper) (w w1 : World) (x : Operand) (ks : List Int) (ho : o.op = .box 34 x) (hx : a.eval x = .agg (u8l ks).toArray) (hl : ks.length = 16) (h1 : w1 = w.alloc (.cells (u8l ks).toArray 34)) :
    (execOp a.eval o).run Try.prog w = .ok (.value (.pointer (some ⟨w.heap.size, 0, none⟩))) w1 := by
  have h : ¬ (u8l ks).length = 0 := by simp [u8l, hl]
  subst h1
  unfold execOp
  simp [ho, hx, Instr.box, newVar, newRow, Value.cells, h]
theorem run_idx32 (a : Act) (o : Oper) (w : World) (x i : Operand) (g off n c k : Nat) (ho : o.op = .indexAddr 35 x i) (hx : a.eval x = .slice (some ⟨g, off, none⟩) n c) (hi : a.eval i = .int .i64 (k : Int)) (hk : k < n) (hn : n ≤ maxLen) : (execOp a.eval o).run Try.prog w = .ok (.value (.pointer (some ⟨g, off + k * 16, none⟩))) w := by
  unfold maxLen at hn
  have j0 : (0 : Int) ≤ (k : Int) := by omega
  have j6 : (k : Int) < (n : Int) := by omega
  unfold execOp
  simp only [ho, hx, hi]
  go_simp
/-- a token that lies at a place. -/
def TokAt (w : World) (g o : Nat) (t : List Int) : Prop := t.length = 16 ∧ (∀ x ∈ t, 0 ≤ x ∧ x ≤ 255) ∧ w.rangeAt g o (u8l t)
theorem TokAt.keep {w w' : World} {g o : Nat} {t : List Int} (h : TokAt w g o t) (hb : Below w.heap.size w w') : TokAt w' g o t := by
  refine ⟨h.1, h.2.1, fun j v hj => ?_⟩
  have hc := h.2.2 j v hj
  rw [hb.cell (World.block_lt_of_cell? w _ hc)]
  exact hc
/-- what Sorted comes to. -/
def SortPost (n : Nat) (L : List (List Int)) (w : World) (e : Ending) (w' : World) : Prop := ∃ z : Bool, e = .returned (.bool z) ∧ (z = true ↔ ∀ j, 1 ≤ j → j < n → cmpT (L.getD (j - 1) []) (L.getD j []) < 0) ∧ Below w.heap.size w w'
/-- a slice of tokens. -/
def Toks (w : World) (a : Option Addr) (n : Nat) (L : List (List Int)) : Prop := L.length = n ∧ (0 < n → ∃ g o, a = some ⟨g, o, none⟩ ∧ n ≤ maxLen ∧ ∀ k, k < n → TokAt w g (o + k * 16) (L.getD k []))
attribute [local irreducible] wpList
set_option maxHeartbeats 8000000 in
set_option maxRecDepth 100000 in
theorem bcompare_any (w : World) (g o n c g1 o1 n1 c1 : Nat) (xs ys : List Int) (hx : xs.length = n) (hy : ys.length = n1) (rx : Row w (some ⟨g, o, none⟩) n xs) (ry : Row w (some ⟨g1, o1, none⟩) n1 ys) :
    Calls Try.prog 41 #[.slice (some ⟨g, o, none⟩) n c, .slice (some ⟨g1, o1, none⟩) n1 c1] w fun e w' => e = .returned (.int .i64 (cmpT xs ys)) ∧ w = w' := by
  obtain ⟨z, hz⟩ : ∃ z, cmpT xs ys = z := ⟨_, rfl⟩
  have HCMP : Hid ((callFunc 42 #[.slice (some ⟨g, o, none⟩) n c, .slice (some ⟨g1, o1, none⟩) n1 c1]).run Try.prog w = .ok (.value (.int .i64 z)) w) := Lib.hid (by
    rw [run_callFunc_extern (fn := Try.f42) Try.func42 (by kernel_rfl) (by kernel_rfl) (by kernel_rfl) (e := Extern.BytealgCompare.compare) (by kernel_rfl), run_compareSlice w g o n c g1 o1 n1 c1 xs ys hx hy rx ry, hz]
    rfl)
  rw [hz]
  clear hx hy rx ry hz
  go_enter Try.func41, Try.ntmps41
  go_upto_region 0 with (fail)
  refine wp_region_lit ?_
  refine wpL_pure (.int .i64 0) rfl (by kernel_rfl) ?_
  simp only [Act.put, List.setIfInBounds_toArray, List.set_cons_zero, List.set_cons_succ]
  go_upto_region 1 with (fail)
  refine wp_region_lit ?_
  refine wpL_pure (.slice (some ⟨g, o, none⟩) n c) rfl (by kernel_rfl) ?_
  simp only [Act.put, List.setIfInBounds_toArray, List.set_cons_zero, List.set_cons_succ]
  refine wpL_pure (.slice (some ⟨g1, o1, none⟩) n1 c1) rfl (by kernel_rfl) ?_
  simp only [Act.put, List.setIfInBounds_toArray, List.set_cons_zero, List.set_cons_succ]
  refine wpL_pure (.int .i64 z) rfl (Eq.trans (b := (callFunc 42 #[.slice (some ⟨g, o, none⟩) n c, .slice (some ⟨g1, o1, none⟩) n1 c1]).run Try.prog _) (by kernel_rfl) HCMP.out) ?_
  simp only [Act.put, List.setIfInBounds_toArray, List.set_cons_zero, List.set_cons_succ]
  refine wpL_pure (.int .i64 z) rfl (by kernel_rfl) ?_
  simp only [Act.put, List.setIfInBounds_toArray, List.set_cons_zero, List.set_cons_succ]
  go_wp2_with fail
  go_ret
  exact ⟨rfl, rfl⟩
set_option maxHeartbeats 8000000 in
set_option maxRecDepth 100000 in
theorem compare_any (w : World) (xs ys : List Int) (hx : xs.length = 16) (hy : ys.length = 16) (bx : ∀ x ∈ xs, 0 ≤ x ∧ x ≤ 255) (bY : ∀ x ∈ ys, 0 ≤ x ∧ x ≤ 255) :
    Calls Try.prog 37 #[.agg (u8l xs).toArray, .agg (u8l ys).toArray] w fun e w' => e = .returned (.int .i64 (cmpT xs ys)) ∧ Below w.heap.size w w' := by
  have LX := Lib.hid hx
  have LY := Lib.hid hy
  have BX := Lib.hid bx
  have BY := Lib.hid bY
  clear hx hy bx bY
  go_enter Try.func37, Try.ntmps37
  obtain ⟨w1, hw1⟩ : ∃ V, V = w.alloc (.cells (u8l xs).toArray 34) := ⟨_, rfl⟩
  obtain ⟨w2, hw2⟩ : ∃ V, V = w1.alloc (.cells (u8l ys).toArray 34) := ⟨_, rfl⟩
  have B2 : Hid (Blk w2 w.heap.size 34 (u8l xs).toArray ∧ Blk w2 w1.heap.size 34 (u8l ys).toArray ∧ Below w.heap.size w w2) := Lib.hid (by
    have q1 : Below w.heap.size w w1 := by rw [hw1]; exact (Below.refl _ _).alloc (Nat.le_refl _) _
    have q2 : Below w1.heap.size w1 w2 := by rw [hw2]; exact (Below.refl _ _).alloc (Nat.le_refl _) _
    have b1 : Blk w1 w.heap.size 34 (u8l xs).toArray := by rw [hw1]; exact Blk.new _ _ _
    exact ⟨b1.below q2, by rw [hw2]; exact Blk.new _ _ _, q1.trans (q2.mono q1.size)⟩)
  go_upto_region 0 with (fail)
  refine wp_region_lit ?_
  refine wpL_value (.pointer (some ⟨w.heap.size, 0, none⟩)) (w1) rfl (run_box35 _ _ _ _ _ xs rfl rfl LX.out hw1) ?_
  simp only [Act.put, List.setIfInBounds_toArray, List.set_cons_zero, List.set_cons_succ]
  refine wpL_value (.pointer (some ⟨w1.heap.size, 0, none⟩)) (w2) rfl (run_box35 _ _ _ _ _ ys rfl rfl LY.out hw2) ?_
  simp only [Act.put, List.setIfInBounds_toArray, List.set_cons_zero, List.set_cons_succ]
  refine wpL_pure (.int .i64 0) rfl (by kernel_rfl) ?_
  simp only [Act.put, List.setIfInBounds_toArray, List.set_cons_zero, List.set_cons_succ]
  clear hw1 hw2
  obtain ⟨g2, h2⟩ : ∃ q, w.heap.size = q := ⟨_, rfl⟩
  have G2 : Hid (w.heap.size = g2) := Lib.hid h2
  rw [h2] at B2
  try rw [h2]
  clear h2
  generalize w1.heap.size = g3 at B2 ⊢
  go_upto_region 1 with (fail)
  refine region_held (fun X => Below g2 w X ∧ Blk X g2 34 (u8l xs).toArray ∧ Blk X g3 34 (u8l ys).toArray) 2 (by kernel_rfl) (by kernel_rfl) (by exact ⟨B2.out.2.2.drew, B2.out.1.drew, B2.out.2.1.drew⟩) ?_
  simp only [List.take_succ_cons, List.take_zero, List.drop_succ_cons, List.drop_zero]
  refine wpHeld_cons (.slice (some ⟨g2, 0, none⟩) 16 16) rfl (fun w h => heldRun_value (by kernel_rfl) h) ?_
  simp only [Act.put, List.setIfInBounds_toArray, List.set_cons_zero, List.set_cons_succ]
  refine wpHeld_cons (.slice (some ⟨g3, 0, none⟩) 16 16) rfl (fun w h => heldRun_value (by kernel_rfl) h) ?_
  simp only [Act.put, List.setIfInBounds_toArray, List.set_cons_zero, List.set_cons_succ]
  refine wpHeld_nil ?_
  intro X h
  have HX := Lib.hid h
  clear h
  refine wpL_call 41 #[.slice (some ⟨g2, 0, none⟩) 16 16, .slice (some ⟨g3, 0, none⟩) 16 16] rfl (by kernel_rfl) (((bcompare_any X g2 0 16 16 g3 0 16 16 xs ys LX.out LY.out (sl_blk HX.out.2.1 LX.out BX.out (by omega)).1 (sl_blk HX.out.2.2 LY.out BY.out (by omega)).1)).mono fun e w5 ⟨he, hb⟩ => ⟨.int .i64 (cmpT xs ys), he, ?_⟩)
  simp only [Act.put, List.setIfInBounds_toArray, List.set_cons_zero, List.set_cons_succ]
  have HB := Lib.hid hb
  clear hb
  refine wpL_pure (.int .i64 (cmpT xs ys)) rfl (by kernel_rfl) ?_
  simp only [Act.put, List.setIfInBounds_toArray, List.set_cons_zero, List.set_cons_succ]
  go_wp2_with fail
  go_ret
  exact ⟨rfl, by rw [G2.out]; have h := HX.out.1; rw [HB.out] at h; exact h⟩
set_option maxHeartbeats 8000000 in
set_option maxRecDepth 100000 in
theorem sorted_any (w : World) (a : Option Addr) (n c : Nat) (L : List (List Int)) (hL : Toks w a n L) :
    Calls Try.prog 29 #[.slice a n c] w fun e w' => SortPost n L w e w' := by
  have HL := Lib.hid hL
  clear hL
  go_enter Try.func29, Try.ntmps29
  go_upto_region 0 with (fail)
  refine wp_region_lit ?_
  refine wpL_pure (.bool false) rfl (by kernel_rfl) ?_
  simp only [Act.put, List.setIfInBounds_toArray, List.set_cons_zero, List.set_cons_succ]
  go_upto_region 1 with (fail)
  refine wp_region_lit ?_
  refine wpL_pure (.int .i64 1) rfl (by kernel_rfl) ?_
  simp only [Act.put, List.setIfInBounds_toArray, List.set_cons_zero, List.set_cons_succ]
  go_wp2_with fail
  go_loopw [3] (fun s3 wr => ∃ k : Nat, s3 = .int .i64 (k : Int) ∧ Hid (1 ≤ k ∧ (k ≤ n ∨ k = 1) ∧ Below w.heap.size w wr ∧ ∀ j, 1 ≤ j → j < k → cmpT (L.getD (j - 1) []) (L.getD j []) < 0)) (fun s3 _ => n - (intOf s3).toNat)
  case atStart => exact ⟨1, rfl, Lib.hid ⟨by omega, .inr rfl, Below.refl _ _, fun j h1 h2 => by omega⟩⟩
  case round =>
    obtain ⟨k, rfl, RI⟩ := hrel
    by_cases hlt : k < n
    · have HK := Lib.hid hlt
      clear hlt
      go_upto_region 2 with (fail)
      refine wp_region_lit ?_
      refine wpL_pure (.int .i64 (k : Int)) rfl (by kernel_rfl) ?_
      simp only [Act.put, List.setIfInBounds_toArray, List.set_cons_zero, List.set_cons_succ]
      refine wpL_pure (.slice a n c) rfl (by kernel_rfl) ?_
      simp only [Act.put, List.setIfInBounds_toArray, List.set_cons_zero, List.set_cons_succ]
      refine wpL_pure (.int .i64 (n : Int)) rfl (by kernel_rfl) ?_
      simp only [Act.put, List.setIfInBounds_toArray, List.set_cons_zero, List.set_cons_succ]
      refine wpL_pure (.bool true) rfl (run_lti Try.underlying3 rfl rfl rfl (by have := HK.out; rw [decide_eq_true_eq]; omega)) ?_
      simp only [Act.put, List.setIfInBounds_toArray, List.set_cons_zero, List.set_cons_succ]
      obtain ⟨g, o, ea, hm, ht⟩ := HL.out.2 (by have := HK.out; omega)
      have EA := Lib.hid ea
      have HM := Lib.hid hm
      have T0 : Hid (TokAt w g (o + (k - 1) * 16) (L.getD (k - 1) [])) := Lib.hid (ht (k - 1) (by have := HK.out; omega))
      have T1 : Hid (TokAt w g (o + k * 16) (L.getD k [])) := Lib.hid (ht k HK.out)
      clear ea hm ht
      obtain ⟨x, hx⟩ : ∃ x, L.getD (k - 1) [] = x := ⟨_, rfl⟩
      obtain ⟨y, hy⟩ : ∃ y, L.getD k [] = y := ⟨_, rfl⟩
      rw [hx] at T0
      rw [hy] at T1
      have HX := Lib.hid hx
      have HY := Lib.hid hy
      clear hx hy
      obtain ⟨m, hm⟩ : ∃ m, k - 1 = m := ⟨_, rfl⟩
      rw [hm] at T0 HX
      have HMK : Hid (k = m + 1) := Lib.hid (by have := RI.out.1; omega)
      clear hm
      by_cases hc : cmpT x y < 0
      · have HC := Lib.hid hc
        clear hc
        go_upto_region 4 with (fail)
        refine region_held (fun X => Below w.heap.size w X) 9 (by kernel_rfl) (by kernel_rfl) (by exact RI.out.2.2.1.drew) ?_
        simp only [List.take_succ_cons, List.take_zero, List.drop_succ_cons, List.drop_zero]
        refine wpHeld_cons (.slice a n c) rfl (fun w h => heldRun_value (by kernel_rfl) h) ?_
        simp only [Act.put, List.setIfInBounds_toArray, List.set_cons_zero, List.set_cons_succ]
        refine wpHeld_cons (.int .i64 (k : Int)) rfl (fun w h => heldRun_value (by kernel_rfl) h) ?_
        simp only [Act.put, List.setIfInBounds_toArray, List.set_cons_zero, List.set_cons_succ]
        refine wpHeld_cons (.int .i64 (m : Int)) rfl (fun w h => heldRun_value (run_subi Try.underlying3 rfl rfl rfl _ (by have := HMK.out; have := HK.out; have := HM.out; unfold maxLen at this; rw [wrap_in _ (by omega) (by omega)]; omega)) h) ?_
        simp only [Act.put, List.setIfInBounds_toArray, List.set_cons_zero, List.set_cons_succ]
        refine wpHeld_cons (.pointer (some ⟨g, o + m * 16, none⟩)) rfl (fun w h => heldRun_value (run_idx32 _ _ _ _ _ g o n c m rfl (by rw [EA.out]; rfl) rfl (by have := HK.out; have := HMK.out; omega) HM.out) h) ?_
        simp only [Act.put, List.setIfInBounds_toArray, List.set_cons_zero, List.set_cons_succ]
        refine wpHeld_cons (.agg (u8l x).toArray) rfl (fun w h => heldRun_value (run_load_mid _ _ _ 34 _ rfl g (o + m * 16) rfl (u8l x) _ (T0.out.keep h).2.2 Try.underlying34 rfl (by rw [u8l_len, T0.out.1]; kernel_rfl)) h) ?_
        simp only [Act.put, List.setIfInBounds_toArray, List.set_cons_zero, List.set_cons_succ]
        refine wpHeld_cons (.slice a n c) rfl (fun w h => heldRun_value (by kernel_rfl) h) ?_
        simp only [Act.put, List.setIfInBounds_toArray, List.set_cons_zero, List.set_cons_succ]
        refine wpHeld_cons (.int .i64 (k : Int)) rfl (fun w h => heldRun_value (by kernel_rfl) h) ?_
        simp only [Act.put, List.setIfInBounds_toArray, List.set_cons_zero, List.set_cons_succ]
        refine wpHeld_cons (.pointer (some ⟨g, o + k * 16, none⟩)) rfl (fun w h => heldRun_value (run_idx32 _ _ _ _ _ g o n c k rfl (by rw [EA.out]; rfl) rfl HK.out HM.out) h) ?_
        simp only [Act.put, List.setIfInBounds_toArray, List.set_cons_zero, List.set_cons_succ]
        refine wpHeld_cons (.agg (u8l y).toArray) rfl (fun w h => heldRun_value (run_load_mid _ _ _ 34 _ rfl g (o + k * 16) rfl (u8l y) _ (T1.out.keep h).2.2 Try.underlying34 rfl (by rw [u8l_len, T1.out.1]; kernel_rfl)) h) ?_
        simp only [Act.put, List.setIfInBounds_toArray, List.set_cons_zero, List.set_cons_succ]
        refine wpHeld_nil ?_
        intro X h
        have HB := Lib.hid h
        clear h
        refine wpL_call 37 #[.agg (u8l x).toArray, .agg (u8l y).toArray] rfl (by kernel_rfl) (((compare_any X x y T0.out.1 T1.out.1 T0.out.2.1 T1.out.2.1)).mono fun e w5 ⟨he, hb⟩ => ⟨.int .i64 (cmpT x y), he, ?_⟩)
        simp only [Act.put, List.setIfInBounds_toArray, List.set_cons_zero, List.set_cons_succ]
        have HB5 : Hid (Below w.heap.size w w5) := Lib.hid (HB.out.trans (hb.mono HB.out.size))
        clear hb
        refine wpL_pure (.bool false) rfl (run_gei Try.underlying3 rfl rfl rfl (by have := HC.out; rw [decide_eq_false_iff_not]; omega)) ?_
        simp only [Act.put, List.setIfInBounds_toArray, List.set_cons_zero, List.set_cons_succ]
        go_upto_region 3 with (fail)
        refine wp_region_lit ?_
        refine wpL_pure (.int .i64 (k : Int)) rfl (by kernel_rfl) ?_
        simp only [Act.put, List.setIfInBounds_toArray, List.set_cons_zero, List.set_cons_succ]
        refine wpL_pure (.int .i64 ((k + 1 : Nat) : Int)) rfl (run_addi Try.underlying3 rfl rfl rfl _ (by have := HK.out; have := HM.out; unfold maxLen at this; rw [wrap_in _ (by omega) (by omega)]; omega)) ?_
        simp only [Act.put, List.setIfInBounds_toArray, List.set_cons_zero, List.set_cons_succ]
        refine wpL_pure (.int .i64 ((k + 1 : Nat) : Int)) rfl (by kernel_rfl) ?_
        simp only [Act.put, List.setIfInBounds_toArray, List.set_cons_zero, List.set_cons_succ]
        have NX : Hid (1 ≤ k + 1 ∧ (k + 1 ≤ n ∨ k + 1 = 1) ∧ Below w.heap.size w w5 ∧ ∀ j, 1 ≤ j → j < k + 1 → cmpT (L.getD (j - 1) []) (L.getD j []) < 0) := Lib.hid ⟨by omega, .inl HK.out, HB5.out, fun j h1 h2 => by
          by_cases hj : j < k
          · exact RI.out.2.2.2 j h1 hj
          · obtain rfl : j = k := by omega
            rw [show j - 1 = m by have := HMK.out; omega, HX.out, HY.out]; exact HC.out⟩
        unfold wpList
        go_roundw
        case rel => first | exact ⟨k + 1, rfl, NX⟩ | ((repeat apply Exists.intro); exact ⟨⟨k + 1, rfl, NX⟩, rfl⟩)
        case measure => simp [intOf]; have := HK.out; omega
      · have HC := Lib.hid hc
        clear hc
        go_upto_region 4 with (fail)
        refine region_held (fun X => Below w.heap.size w X) 9 (by kernel_rfl) (by kernel_rfl) (by exact RI.out.2.2.1.drew) ?_
        simp only [List.take_succ_cons, List.take_zero, List.drop_succ_cons, List.drop_zero]
        refine wpHeld_cons (.slice a n c) rfl (fun w h => heldRun_value (by kernel_rfl) h) ?_
        simp only [Act.put, List.setIfInBounds_toArray, List.set_cons_zero, List.set_cons_succ]
        refine wpHeld_cons (.int .i64 (k : Int)) rfl (fun w h => heldRun_value (by kernel_rfl) h) ?_
        simp only [Act.put, List.setIfInBounds_toArray, List.set_cons_zero, List.set_cons_succ]
        refine wpHeld_cons (.int .i64 (m : Int)) rfl (fun w h => heldRun_value (run_subi Try.underlying3 rfl rfl rfl _ (by have := HMK.out; have := HK.out; have := HM.out; unfold maxLen at this; rw [wrap_in _ (by omega) (by omega)]; omega)) h) ?_
        simp only [Act.put, List.setIfInBounds_toArray, List.set_cons_zero, List.set_cons_succ]
        refine wpHeld_cons (.pointer (some ⟨g, o + m * 16, none⟩)) rfl (fun w h => heldRun_value (run_idx32 _ _ _ _ _ g o n c m rfl (by rw [EA.out]; rfl) rfl (by have := HK.out; have := HMK.out; omega) HM.out) h) ?_
        simp only [Act.put, List.setIfInBounds_toArray, List.set_cons_zero, List.set_cons_succ]
        refine wpHeld_cons (.agg (u8l x).toArray) rfl (fun w h => heldRun_value (run_load_mid _ _ _ 34 _ rfl g (o + m * 16) rfl (u8l x) _ (T0.out.keep h).2.2 Try.underlying34 rfl (by rw [u8l_len, T0.out.1]; kernel_rfl)) h) ?_
        simp only [Act.put, List.setIfInBounds_toArray, List.set_cons_zero, List.set_cons_succ]
        refine wpHeld_cons (.slice a n c) rfl (fun w h => heldRun_value (by kernel_rfl) h) ?_
        simp only [Act.put, List.setIfInBounds_toArray, List.set_cons_zero, List.set_cons_succ]
        refine wpHeld_cons (.int .i64 (k : Int)) rfl (fun w h => heldRun_value (by kernel_rfl) h) ?_
        simp only [Act.put, List.setIfInBounds_toArray, List.set_cons_zero, List.set_cons_succ]
        refine wpHeld_cons (.pointer (some ⟨g, o + k * 16, none⟩)) rfl (fun w h => heldRun_value (run_idx32 _ _ _ _ _ g o n c k rfl (by rw [EA.out]; rfl) rfl HK.out HM.out) h) ?_
        simp only [Act.put, List.setIfInBounds_toArray, List.set_cons_zero, List.set_cons_succ]
        refine wpHeld_cons (.agg (u8l y).toArray) rfl (fun w h => heldRun_value (run_load_mid _ _ _ 34 _ rfl g (o + k * 16) rfl (u8l y) _ (T1.out.keep h).2.2 Try.underlying34 rfl (by rw [u8l_len, T1.out.1]; kernel_rfl)) h) ?_
        simp only [Act.put, List.setIfInBounds_toArray, List.set_cons_zero, List.set_cons_succ]
        refine wpHeld_nil ?_
        intro X h
        have HB := Lib.hid h
        clear h
        refine wpL_call 37 #[.agg (u8l x).toArray, .agg (u8l y).toArray] rfl (by kernel_rfl) (((compare_any X x y T0.out.1 T1.out.1 T0.out.2.1 T1.out.2.1)).mono fun e w5 ⟨he, hb⟩ => ⟨.int .i64 (cmpT x y), he, ?_⟩)
        simp only [Act.put, List.setIfInBounds_toArray, List.set_cons_zero, List.set_cons_succ]
        have HB5 : Hid (Below w.heap.size w w5) := Lib.hid (HB.out.trans (hb.mono HB.out.size))
        clear hb
        refine wpL_pure (.bool true) rfl (run_gei Try.underlying3 rfl rfl rfl (by have := HC.out; rw [decide_eq_true_eq]; omega)) ?_
        simp only [Act.put, List.setIfInBounds_toArray, List.set_cons_zero, List.set_cons_succ]
        go_upto_region 5 with (fail)
        refine wp_region_lit ?_
        refine wpL_pure (.bool false) rfl (by kernel_rfl) ?_
        simp only [Act.put, List.setIfInBounds_toArray, List.set_cons_zero, List.set_cons_succ]
        go_wp2_with fail
        go_ret
        exact ⟨false, rfl, ⟨(fun h => by cases h), fun h => by have := h k RI.out.1 HK.out; rw [show k - 1 = m by have := HMK.out; omega, HX.out, HY.out] at this; have h2 := HC.out; omega⟩, HB5.out⟩
    · have HK := Lib.hid hlt
      clear hlt
      go_upto_region 2 with (fail)
      refine wp_region_lit ?_
      refine wpL_pure (.int .i64 (k : Int)) rfl (by kernel_rfl) ?_
      simp only [Act.put, List.setIfInBounds_toArray, List.set_cons_zero, List.set_cons_succ]
      refine wpL_pure (.slice a n c) rfl (by kernel_rfl) ?_
      simp only [Act.put, List.setIfInBounds_toArray, List.set_cons_zero, List.set_cons_succ]
      refine wpL_pure (.int .i64 (n : Int)) rfl (by kernel_rfl) ?_
      simp only [Act.put, List.setIfInBounds_toArray, List.set_cons_zero, List.set_cons_succ]
      refine wpL_pure (.bool false) rfl (run_lti Try.underlying3 rfl rfl rfl (by have := HK.out; rw [decide_eq_false_iff_not]; omega)) ?_
      simp only [Act.put, List.setIfInBounds_toArray, List.set_cons_zero, List.set_cons_succ]
      go_upto_region 6 with (fail)
      refine wp_region_lit ?_
      refine wpL_pure (.bool true) rfl (by kernel_rfl) ?_
      simp only [Act.put, List.setIfInBounds_toArray, List.set_cons_zero, List.set_cons_succ]
      go_wp2_with fail
      go_ret
      exact ⟨true, rfl, ⟨fun _ j h1 h2 => RI.out.2.2.2 j h1 (by have := HK.out; omega), fun _ => rfl⟩, RI.out.2.2.1⟩
end Go.Proofs.Ythkhlkiemldbaaa.K.Ha
