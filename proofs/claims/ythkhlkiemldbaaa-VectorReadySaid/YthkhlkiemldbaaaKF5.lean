/- 'VectorReady'. -/
import Derived.Test.YthkhlkiemldbaaaKF4
import Derived.Test.YthkhlkiemldbaaaV1
namespace Go.Proofs.Ythkhlkiemldbaaa.K.Ha
open Go Go.RowKit
set_option maxRecDepth 100000
theorem run_idx24 (a : Act) (o : Oper) (w : World) (x i : Operand) (g b k : Nat) (ho : o.op = .indexAddr 24 x i) (hx : a.eval x = .pointer (some ⟨g, b, none⟩)) (hi : a.eval i = .int .i64 (k : Int)) (hk : k < 6) : (execOp a.eval o).run Try.prog w = .ok (.value (.pointer (some ⟨g, b + k, none⟩))) w := by
  have j0 : (0 : Int) ≤ (k : Int) := by omega
  have j6 : (k : Int) < 6 := by omega
  unfold execOp
  simp only [ho, hx, hi]
  go_simp
theorem run_boxv (a : Act) (o : Oper) (w w1 : World) (x : Operand) (vs : List Int) (hv : vs.length = 6 ∧ ∀ x ∈ vs, 0 ≤ x ∧ x < 18446744073709551616) (ho : o.op = .box 24 x) (hx : a.eval x = .agg (vs.map (Value.int .u64)).toArray) (h1 : w1 = w.alloc (.cells (vs.map (Value.int .u64)).toArray 24)) :
    (execOp a.eval o).run Try.prog w = .ok (.value (.pointer (some ⟨w.heap.size, 0, none⟩))) w1 := by
  have e : ¬ (vs.map (Value.int .u64)).length = 0 := by rw [List.length_map, hv.1]; decide
  have e2 : ¬ vs.length = 0 := by rw [hv.1]; decide
  subst h1
  unfold execOp
  simp [ho, hx, Instr.box, newVar, newRow, Value.cells, e2]
theorem getD_u64 {xs : List Int} (h : ∀ x ∈ xs, 0 ≤ x ∧ x < 18446744073709551616) (j : Nat) : 0 ≤ xs.getD j 0 ∧ xs.getD j 0 < 18446744073709551616 := by
  rw [List.getD]
  cases q : xs[j]? with
  | none => simp
  | some x => exact h x (List.mem_of_getElem? q)
theorem vcell {w : World} {g k : Nat} {vs : List Int} (b : Blk w g 24 (vs.map (Value.int .u64)).toArray) (hl : vs.length = 6) (hk : k < 6) : w.cell? ⟨g, 0 + k, none⟩ = some (.int .u64 (vs.getD k 0)) := by
  rw [Nat.zero_add, b.cell, List.getElem?_toArray, List.getElem?_map]
  simp [List.getD, List.getElem?_eq_getElem (show k < vs.length by omega)]
theorem wrap_inc {v s : Int} (h : 0 ≤ v ∧ v < 18446744073709551616) (hs : 1 ≤ s ∧ s ≤ 1048576) : IntKind.u64.wrap (v + 1) = s ↔ v = s - 1 := by
  simp [IntKind.wrap, IntKind.bits, IntKind.signed]
  omega
open Classical in
noncomputable def fmB (hd : Hdr) (T : List (List Int)) : Bool := decide (FmP hd T)
theorem fmB_iff (hd : Hdr) (T : List (List Int)) : fmB hd T = true ↔ FmP hd T := by unfold fmB; simp
theorem fm_b {hd : Hdr} {T : List (List Int)} {z : Bool} (h : z = true ↔ FmP hd T) : z = fmB hd T := by
  rw [Bool.eq_iff_iff, h, fmB_iff]
theorem formed_b (w : World) (hd : Hdr) (ho : HOk hd) (T : List (List Int)) (ht : Toks w hd.ta hd.tn T) : Calls Try.prog 22 #[.agg hd.L.toArray] w fun e w' => e = .returned (.bool (fmB hd T)) ∧ Below w.heap.size w w' :=
  (formed_any w hd ho T ht).mono fun e w' ⟨z, he, hz, hb⟩ => ⟨by rw [he, fm_b hz], hb⟩
theorem refformed_b (w : World) (hd : Hdr) (ho : HOk hd) (T : List (List Int)) (ht : Toks w hd.ta hd.tn T) : Calls Try.prog 23 #[.agg hd.L.toArray] w fun e w' => e = .returned (.bool (fmB hd T)) ∧ Below w.heap.size w w' :=
  (refformed_any w hd ho T ht).mono fun e w' ⟨z, he, hz, hb⟩ => ⟨by rw [he, fm_b hz], hb⟩
/-- a header may come behind a vector. -/
def RdP (vs : List Int) (hd : Hdr) (T : List (List Int)) : Prop := FmP hd T ∧ vs.getD (hd.wr - 1).toNat 0 = hd.sq - 1 ∧ ∀ j, j < 6 → hd.kn.getD j 0 ≤ vs.getD j 0
open Classical in
noncomputable def rdB (vs : List Int) (hd : Hdr) (T : List (List Int)) : Bool := decide (RdP vs hd T)
def grB (vs ks : List Int) : Bool := decide (ks.getD 0 0 ≤ vs.getD 0 0 ∧ ks.getD 1 0 ≤ vs.getD 1 0 ∧ ks.getD 2 0 ≤ vs.getD 2 0 ∧ ks.getD 3 0 ≤ vs.getD 3 0 ∧ ks.getD 4 0 ≤ vs.getD 4 0 ∧ ks.getD 5 0 ≤ vs.getD 5 0)
theorem grB_iff (vs ks : List Int) : grB vs ks = true ↔ ∀ j, j < 6 → ks.getD j 0 ≤ vs.getD j 0 := by
  unfold grB
  rw [decide_eq_true_eq]
  constructor
  · rintro ⟨h0, h1, h2, h3, h4, h5⟩ j hj
    match j, hj with
    | 0, _ => exact h0
    | 1, _ => exact h1
    | 2, _ => exact h2
    | 3, _ => exact h3
    | 4, _ => exact h4
    | 5, _ => exact h5
  · intro h
    exact ⟨h 0 (by omega), h 1 (by omega), h 2 (by omega), h 3 (by omega), h 4 (by omega), h 5 (by omega)⟩
theorem list6 {l : List Int} (h : l.length = 6) : ∃ a b c d e f, l = [a, b, c, d, e, f] := by
  match l, h with
  | [a, b, c, d, e, f], _ => exact ⟨a, b, c, d, e, f, rfl⟩
theorem great_l (vs ks : List Int) (hv : vs.length = 6) (hk : ks.length = 6) (w : World) : Calls Try.prog 11 #[.agg (vs.map (Value.int .u64)).toArray, .agg (ks.map (Value.int .u64)).toArray] w fun e w' => e = .returned (.bool (grB vs ks)) ∧ Below w.heap.size w w' := by
  obtain ⟨a0, a1, a2, a3, a4, a5, rfl⟩ := list6 hv
  obtain ⟨b0, b1, b2, b3, b4, b5, rfl⟩ := list6 hk
  exact great_any a0 a1 a2 a3 a4 a5 b0 b1 b2 b3 b4 b5 w
theorem rd_not {vs : List Int} {hd : Hdr} {T : List (List Int)} (h : ¬ RdP vs hd T) : rdB vs hd T = false := by unfold rdB; simp [h]
theorem rd_yes {vs : List Int} {hd : Hdr} {T : List (List Int)} (h : RdP vs hd T) : rdB vs hd T = true := by unfold rdB; simp [h]
theorem rd_false {vs : List Int} {hd : Hdr} {T : List (List Int)} (h : fmB hd T = false) : rdB vs hd T = false := rd_not fun q => by rw [(fmB_iff hd T).2 q.1] at h; cases h
theorem rd_true {vs : List Int} {hd : Hdr} {T : List (List Int)} (h : fmB hd T = true) (h2 : vs.getD (hd.wr - 1).toNat 0 = hd.sq - 1) : rdB vs hd T = grB vs hd.kn := by
  rw [Bool.eq_iff_iff, grB_iff]
  constructor
  · intro q
    have r : RdP vs hd T := by unfold rdB at q; simpa using q
    exact r.2.2
  · exact fun q => rd_yes ⟨(fmB_iff hd T).1 h, h2, q⟩
attribute [local irreducible] wpList
set_option maxHeartbeats 8000000 in
theorem ready_any (w : World) (vs : List Int) (hv : vs.length = 6 ∧ ∀ x ∈ vs, 0 ≤ x ∧ x < 18446744073709551616) (hd : Hdr) (ho : HOk hd) (T : List (List Int)) (ht : Toks w hd.ta hd.tn T) :
    Calls Try.prog 16 #[.agg (vs.map (Value.int .u64)).toArray, .agg hd.L.toArray] w fun e w' => e = .returned (.bool (rdB vs hd T)) ∧ Below w.heap.size w w' := by
  have VL := Lib.hid hv
  have HO := Lib.hid ho
  have HT := Lib.hid ht
  clear hv ho ht
  go_enter Try.func16, Try.ntmps16
  obtain ⟨w1, hw1⟩ : ∃ V, V = w.alloc (.cells (vs.map (Value.int .u64)).toArray 24) := ⟨_, rfl⟩
  obtain ⟨g2, hg2⟩ : ∃ q, w.heap.size = q := ⟨_, rfl⟩
  obtain ⟨w2, hw2⟩ : ∃ V, V = w1.alloc (.cells hd.L.toArray 37) := ⟨_, rfl⟩
  obtain ⟨g, hg⟩ : ∃ q, w1.heap.size = q := ⟨_, rfl⟩
  have A0 : Below w.heap.size w w1 := by rw [hw1]; exact (Below.refl _ _).alloc (Nat.le_refl _) _
  have A1 : Below w1.heap.size w1 w2 := by rw [hw2]; exact (Below.refl _ _).alloc (Nat.le_refl _) _
  have A2 : Blk w1 g2 24 (vs.map (Value.int .u64)).toArray := by rw [hw1, ← hg2]; exact Blk.new _ _ _
  have F1 : Hid (Blk w2 g2 24 (vs.map (Value.int .u64)).toArray ∧ Blk w2 g 37 hd.L.toArray ∧ Below w.heap.size w w2 ∧ Toks w2 hd.ta hd.tn T) := Lib.hid ⟨A2.below A1, by rw [hw2, ← hg]; exact Blk.new _ _ _, A0.trans (A1.mono A0.size), (HT.out.keep A0).keep A1⟩
  clear A0 A1 A2
  go_upto_region 0 with (fail)
  refine wp_region_lit ?_
  refine wpL_value (.pointer (some ⟨g2, 0, none⟩)) (w1) rfl (by rw [← hg2]; exact run_boxv _ _ _ _ _ vs VL.out rfl rfl hw1) ?_
  simp only [Act.put, List.setIfInBounds_toArray, List.set_cons_zero, List.set_cons_succ]
  refine wpL_value (.pointer (some ⟨g, 0, none⟩)) (w2) rfl (by rw [← hg]; exact run_boxh _ _ _ _ _ hd HO.out rfl rfl hw2) ?_
  simp only [Act.put, List.setIfInBounds_toArray, List.set_cons_zero, List.set_cons_succ]
  refine wpL_pure (.bool false) rfl (by kernel_rfl) ?_
  simp only [Act.put, List.setIfInBounds_toArray, List.set_cons_zero, List.set_cons_succ]
  clear hw1 hg2 hw2 hg
  obtain ⟨fb, hfb⟩ : ∃ q, fmB hd T = q := ⟨_, rfl⟩
  have FB := Lib.hid hfb
  clear hfb
  cases fb
  · go_upto_region 1 with (fail)
    refine region_held_all (fun X => Blk X g2 24 (vs.map (Value.int .u64)).toArray ∧ Blk X g 37 hd.L.toArray ∧ Below w.heap.size w X ∧ Toks X hd.ta hd.tn T) (by kernel_rfl) (by kernel_rfl) (by exact ⟨F1.out.1.below (Below.drew (Below.refl _ _)), F1.out.2.1.below (Below.drew (Below.refl _ _)), F1.out.2.2.1.trans (Below.drew (Below.refl _ _)), F1.out.2.2.2.keep (Below.drew (Below.refl _ _))⟩) ?_
    refine wpHeld_cons (.agg hd.L.toArray) rfl (fun w h => heldRun_value (run_load_mid _ _ _ 37 _ rfl g 0 rfl hd.L _ (blk_range h.2.1) Try.underlying37 rfl (by rw [Hdr.len HO.out]; kernel_rfl)) h) ?_
    simp only [Act.put, List.setIfInBounds_toArray, List.set_cons_zero, List.set_cons_succ]
    refine wpHeld_call (.bool false) 22 #[.agg hd.L.toArray] rfl (fun w => by kernel_rfl) (fun X h => (formed_b X hd HO.out T h.2.2.2).mono fun e V he => ⟨by rw [he.1, FB.out], ⟨h.1.below he.2, h.2.1.below he.2, h.2.2.1.trans (he.2.mono h.2.2.1.size), h.2.2.2.keep he.2⟩⟩) ?_
    simp only [Act.put, List.setIfInBounds_toArray, List.set_cons_zero, List.set_cons_succ]
    refine wpHeld_cons (.bool false) rfl (fun w h => heldRun_value (by kernel_rfl) h) ?_
    simp only [Act.put, List.setIfInBounds_toArray, List.set_cons_zero, List.set_cons_succ]
    refine wpHeld_skip rfl ?_
    simp only [Act.put, List.setIfInBounds_toArray, List.set_cons_zero, List.set_cons_succ]
    refine wpHeld_skip rfl ?_
    simp only [Act.put, List.setIfInBounds_toArray, List.set_cons_zero, List.set_cons_succ]
    refine wpHeld_skip rfl ?_
    simp only [Act.put, List.setIfInBounds_toArray, List.set_cons_zero, List.set_cons_succ]
    refine wpHeld_skip rfl ?_
    simp only [Act.put, List.setIfInBounds_toArray, List.set_cons_zero, List.set_cons_succ]
    refine wpHeld_skip rfl ?_
    simp only [Act.put, List.setIfInBounds_toArray, List.set_cons_zero, List.set_cons_succ]
    refine wpHeld_skip rfl ?_
    simp only [Act.put, List.setIfInBounds_toArray, List.set_cons_zero, List.set_cons_succ]
    refine wpHeld_skip rfl ?_
    simp only [Act.put, List.setIfInBounds_toArray, List.set_cons_zero, List.set_cons_succ]
    refine wpHeld_skip rfl ?_
    simp only [Act.put, List.setIfInBounds_toArray, List.set_cons_zero, List.set_cons_succ]
    refine wpHeld_skip rfl ?_
    simp only [Act.put, List.setIfInBounds_toArray, List.set_cons_zero, List.set_cons_succ]
    refine wpHeld_cons (.bool false) rfl (fun w h => heldRun_value (by kernel_rfl) h) ?_
    simp only [Act.put, List.setIfInBounds_toArray, List.set_cons_zero, List.set_cons_succ]
    refine wpHeld_cons (.bool false) rfl (fun w h => heldRun_value (by kernel_rfl) h) ?_
    simp only [Act.put, List.setIfInBounds_toArray, List.set_cons_zero, List.set_cons_succ]
    refine wpHeld_skip rfl ?_
    simp only [Act.put, List.setIfInBounds_toArray, List.set_cons_zero, List.set_cons_succ]
    refine wpHeld_skip rfl ?_
    simp only [Act.put, List.setIfInBounds_toArray, List.set_cons_zero, List.set_cons_succ]
    refine wpHeld_skip rfl ?_
    simp only [Act.put, List.setIfInBounds_toArray, List.set_cons_zero, List.set_cons_succ]
    refine wpHeld_skip rfl ?_
    simp only [Act.put, List.setIfInBounds_toArray, List.set_cons_zero, List.set_cons_succ]
    refine wpHeld_cons (.bool false) rfl (fun w h => heldRun_value (by kernel_rfl) h) ?_
    simp only [Act.put, List.setIfInBounds_toArray, List.set_cons_zero, List.set_cons_succ]
    refine wpHeld_cons (.bool false) rfl (fun w h => heldRun_value (by kernel_rfl) h) ?_
    simp only [Act.put, List.setIfInBounds_toArray, List.set_cons_zero, List.set_cons_succ]
    refine wpHeld_nil ?_
    intro X h
    have F2 := Lib.hid h
    clear h F1
    go_wp2_with fail
    go_ret
    exact ⟨by rw [rd_false FB.out]; rfl, F2.out.2.2.1⟩
  · have FM : Hid (FmP hd T) := Lib.hid ((fmB_iff hd T).1 FB.out)
    obtain ⟨kw, hkw⟩ : ∃ k : Nat, hd.wr - 1 = (k : Int) := ⟨(hd.wr - 1).toNat, by have := FM.out.wr; omega⟩
    have KW : Hid (hd.wr - 1 = (kw : Int) ∧ kw < 6 ∧ (hd.wr - 1).toNat = kw) := Lib.hid ⟨hkw, by have := FM.out.wr; omega, by omega⟩
    clear hkw
    obtain ⟨vv, hvv⟩ : ∃ q, vs.getD kw 0 = q := ⟨_, rfl⟩
    have VV : Hid (vs.getD kw 0 = vv ∧ 0 ≤ vv ∧ vv < 18446744073709551616) := Lib.hid ⟨hvv, by rw [← hvv]; exact getD_u64 VL.out.2 kw⟩
    clear hvv
    by_cases c0 : vv = hd.sq - 1
    · have K1 := Lib.hid c0
      clear c0
      obtain ⟨gb, hgb⟩ : ∃ q, grB vs hd.kn = q := ⟨_, rfl⟩
      have GB := Lib.hid hgb
      clear hgb
      go_upto_region 1 with (fail)
      refine region_held_all (fun X => Blk X g2 24 (vs.map (Value.int .u64)).toArray ∧ Blk X g 37 hd.L.toArray ∧ Below w.heap.size w X ∧ Toks X hd.ta hd.tn T) (by kernel_rfl) (by kernel_rfl) (by exact ⟨F1.out.1.below (Below.drew (Below.refl _ _)), F1.out.2.1.below (Below.drew (Below.refl _ _)), F1.out.2.2.1.trans (Below.drew (Below.refl _ _)), F1.out.2.2.2.keep (Below.drew (Below.refl _ _))⟩) ?_
      refine wpHeld_cons (.agg hd.L.toArray) rfl (fun w h => heldRun_value (run_load_mid _ _ _ 37 _ rfl g 0 rfl hd.L _ (blk_range h.2.1) Try.underlying37 rfl (by rw [Hdr.len HO.out]; kernel_rfl)) h) ?_
      simp only [Act.put, List.setIfInBounds_toArray, List.set_cons_zero, List.set_cons_succ]
      refine wpHeld_call (.bool true) 22 #[.agg hd.L.toArray] rfl (fun w => by kernel_rfl) (fun X h => (formed_b X hd HO.out T h.2.2.2).mono fun e V he => ⟨by rw [he.1, FB.out], ⟨h.1.below he.2, h.2.1.below he.2, h.2.2.1.trans (he.2.mono h.2.2.1.size), h.2.2.2.keep he.2⟩⟩) ?_
      simp only [Act.put, List.setIfInBounds_toArray, List.set_cons_zero, List.set_cons_succ]
      refine wpHeld_cons (.bool true) rfl (fun w h => heldRun_value (by kernel_rfl) h) ?_
      simp only [Act.put, List.setIfInBounds_toArray, List.set_cons_zero, List.set_cons_succ]
      refine wpHeld_cons (.pointer (some ⟨g, 0, none⟩)) rfl (fun w h => heldRun_value (by kernel_rfl) h) ?_
      simp only [Act.put, List.setIfInBounds_toArray, List.set_cons_zero, List.set_cons_succ]
      refine wpHeld_cons (.int .i64 hd.wr) rfl (fun w h => heldRun_value (run_load_one _ _ _ 3 _ _ rfl (g) (0) rfl (hcell h.2.1 (Hdr.c0)) (by kernel_rfl)) h) ?_
      simp only [Act.put, List.setIfInBounds_toArray, List.set_cons_zero, List.set_cons_succ]
      refine wpHeld_cons (.int .i64 (kw : Int)) rfl (fun w h => heldRun_value (run_subi Try.underlying3 rfl rfl rfl _ (by rw [KW.out.1]; have := KW.out.2.1; exact wrap_in _ (by omega) (by omega))) h) ?_
      simp only [Act.put, List.setIfInBounds_toArray, List.set_cons_zero, List.set_cons_succ]
      refine wpHeld_cons (.pointer (some ⟨g2, 0 + kw, none⟩)) rfl (fun w h => heldRun_value (run_idx24 _ _ _ _ _ g2 0 kw rfl rfl rfl KW.out.2.1) h) ?_
      simp only [Act.put, List.setIfInBounds_toArray, List.set_cons_zero, List.set_cons_succ]
      refine wpHeld_cons (.int .u64 vv) rfl (fun w h => heldRun_value (run_load_one _ _ _ 22 _ _ rfl (g2) (0 + kw) rfl ((vcell h.1 VL.out.1 KW.out.2.1).trans (by rw [VV.out.1])) (by kernel_rfl)) h) ?_
      simp only [Act.put, List.setIfInBounds_toArray, List.set_cons_zero, List.set_cons_succ]
      refine wpHeld_cons (.pointer (some ⟨g, 1, none⟩)) rfl (fun w h => heldRun_value (by kernel_rfl) h) ?_
      simp only [Act.put, List.setIfInBounds_toArray, List.set_cons_zero, List.set_cons_succ]
      refine wpHeld_cons (.int .u64 hd.sq) rfl (fun w h => heldRun_value (run_load_one _ _ _ 22 _ _ rfl (g) (1) rfl (hcell h.2.1 (Hdr.c1)) (by kernel_rfl)) h) ?_
      simp only [Act.put, List.setIfInBounds_toArray, List.set_cons_zero, List.set_cons_succ]
      refine wpHeld_cons (.int .u64 (hd.sq - 1)) rfl (fun w h => heldRun_value (run_subi Try.underlying22 rfl rfl rfl _ (wrap_u64 _ (by have := FM.out.sq; omega) (by have := HO.out.sb; omega))) h) ?_
      simp only [Act.put, List.setIfInBounds_toArray, List.set_cons_zero, List.set_cons_succ]
      refine wpHeld_cons (.bool true) rfl (fun w h => heldRun_value (run_eqi Try.underlying22 rfl rfl rfl (by have := K1.out; rw [decide_eq_true_eq]; omega)) h) ?_
      simp only [Act.put, List.setIfInBounds_toArray, List.set_cons_zero, List.set_cons_succ]
      refine wpHeld_cons (.bool true) rfl (fun w h => heldRun_value (by kernel_rfl) h) ?_
      simp only [Act.put, List.setIfInBounds_toArray, List.set_cons_zero, List.set_cons_succ]
      refine wpHeld_cons (.bool true) rfl (fun w h => heldRun_value (by kernel_rfl) h) ?_
      simp only [Act.put, List.setIfInBounds_toArray, List.set_cons_zero, List.set_cons_succ]
      refine wpHeld_cons (.agg (vs.map (Value.int .u64)).toArray) rfl (fun w h => heldRun_value (run_load_mid _ _ _ 24 _ rfl g2 0 rfl (vs.map (Value.int .u64)) _ (blk_range h.1) Try.underlying24 rfl (by rw [List.length_map, VL.out.1]; kernel_rfl)) h) ?_
      simp only [Act.put, List.setIfInBounds_toArray, List.set_cons_zero, List.set_cons_succ]
      refine wpHeld_cons (.pointer (some ⟨g, 54, none⟩)) rfl (fun w h => heldRun_value (by kernel_rfl) h) ?_
      simp only [Act.put, List.setIfInBounds_toArray, List.set_cons_zero, List.set_cons_succ]
      refine wpHeld_cons (.agg (hd.kn.map (Value.int .u64)).toArray) rfl (fun w h => heldRun_value (run_load_mid _ _ _ 23 _ rfl g 54 rfl (hd.kn.map (Value.int .u64)) _ (Hdr.rkn HO.out h.2.1) Try.underlying23 rfl (by rw [List.length_map, HO.out.kl]; kernel_rfl)) h) ?_
      simp only [Act.put, List.setIfInBounds_toArray, List.set_cons_zero, List.set_cons_succ]
      refine wpHeld_call (.bool gb) 11 #[.agg (vs.map (Value.int .u64)).toArray, .agg (hd.kn.map (Value.int .u64)).toArray] rfl (fun w => by kernel_rfl) (fun X h => (great_l vs hd.kn VL.out.1 HO.out.kl X).mono fun e V he => ⟨by rw [he.1, GB.out], ⟨h.1.below he.2, h.2.1.below he.2, h.2.2.1.trans (he.2.mono h.2.2.1.size), h.2.2.2.keep he.2⟩⟩) ?_
      simp only [Act.put, List.setIfInBounds_toArray, List.set_cons_zero, List.set_cons_succ]
      refine wpHeld_cons (.bool gb) rfl (fun w h => heldRun_value (by kernel_rfl) h) ?_
      simp only [Act.put, List.setIfInBounds_toArray, List.set_cons_zero, List.set_cons_succ]
      refine wpHeld_cons (.bool gb) rfl (fun w h => heldRun_value (by kernel_rfl) h) ?_
      simp only [Act.put, List.setIfInBounds_toArray, List.set_cons_zero, List.set_cons_succ]
      refine wpHeld_nil ?_
      intro X h
      have F2 := Lib.hid h
      clear h F1
      go_wp2_with fail
      go_ret
      exact ⟨by rw [rd_true FB.out (by rw [KW.out.2.2, VV.out.1]; exact K1.out), GB.out]; rfl, F2.out.2.2.1⟩
    · have K1 := Lib.hid c0
      clear c0
      go_upto_region 1 with (fail)
      refine region_held_all (fun X => Blk X g2 24 (vs.map (Value.int .u64)).toArray ∧ Blk X g 37 hd.L.toArray ∧ Below w.heap.size w X ∧ Toks X hd.ta hd.tn T) (by kernel_rfl) (by kernel_rfl) (by exact ⟨F1.out.1.below (Below.drew (Below.refl _ _)), F1.out.2.1.below (Below.drew (Below.refl _ _)), F1.out.2.2.1.trans (Below.drew (Below.refl _ _)), F1.out.2.2.2.keep (Below.drew (Below.refl _ _))⟩) ?_
      refine wpHeld_cons (.agg hd.L.toArray) rfl (fun w h => heldRun_value (run_load_mid _ _ _ 37 _ rfl g 0 rfl hd.L _ (blk_range h.2.1) Try.underlying37 rfl (by rw [Hdr.len HO.out]; kernel_rfl)) h) ?_
      simp only [Act.put, List.setIfInBounds_toArray, List.set_cons_zero, List.set_cons_succ]
      refine wpHeld_call (.bool true) 22 #[.agg hd.L.toArray] rfl (fun w => by kernel_rfl) (fun X h => (formed_b X hd HO.out T h.2.2.2).mono fun e V he => ⟨by rw [he.1, FB.out], ⟨h.1.below he.2, h.2.1.below he.2, h.2.2.1.trans (he.2.mono h.2.2.1.size), h.2.2.2.keep he.2⟩⟩) ?_
      simp only [Act.put, List.setIfInBounds_toArray, List.set_cons_zero, List.set_cons_succ]
      refine wpHeld_cons (.bool true) rfl (fun w h => heldRun_value (by kernel_rfl) h) ?_
      simp only [Act.put, List.setIfInBounds_toArray, List.set_cons_zero, List.set_cons_succ]
      refine wpHeld_cons (.pointer (some ⟨g, 0, none⟩)) rfl (fun w h => heldRun_value (by kernel_rfl) h) ?_
      simp only [Act.put, List.setIfInBounds_toArray, List.set_cons_zero, List.set_cons_succ]
      refine wpHeld_cons (.int .i64 hd.wr) rfl (fun w h => heldRun_value (run_load_one _ _ _ 3 _ _ rfl (g) (0) rfl (hcell h.2.1 (Hdr.c0)) (by kernel_rfl)) h) ?_
      simp only [Act.put, List.setIfInBounds_toArray, List.set_cons_zero, List.set_cons_succ]
      refine wpHeld_cons (.int .i64 (kw : Int)) rfl (fun w h => heldRun_value (run_subi Try.underlying3 rfl rfl rfl _ (by rw [KW.out.1]; have := KW.out.2.1; exact wrap_in _ (by omega) (by omega))) h) ?_
      simp only [Act.put, List.setIfInBounds_toArray, List.set_cons_zero, List.set_cons_succ]
      refine wpHeld_cons (.pointer (some ⟨g2, 0 + kw, none⟩)) rfl (fun w h => heldRun_value (run_idx24 _ _ _ _ _ g2 0 kw rfl rfl rfl KW.out.2.1) h) ?_
      simp only [Act.put, List.setIfInBounds_toArray, List.set_cons_zero, List.set_cons_succ]
      refine wpHeld_cons (.int .u64 vv) rfl (fun w h => heldRun_value (run_load_one _ _ _ 22 _ _ rfl (g2) (0 + kw) rfl ((vcell h.1 VL.out.1 KW.out.2.1).trans (by rw [VV.out.1])) (by kernel_rfl)) h) ?_
      simp only [Act.put, List.setIfInBounds_toArray, List.set_cons_zero, List.set_cons_succ]
      refine wpHeld_cons (.pointer (some ⟨g, 1, none⟩)) rfl (fun w h => heldRun_value (by kernel_rfl) h) ?_
      simp only [Act.put, List.setIfInBounds_toArray, List.set_cons_zero, List.set_cons_succ]
      refine wpHeld_cons (.int .u64 hd.sq) rfl (fun w h => heldRun_value (run_load_one _ _ _ 22 _ _ rfl (g) (1) rfl (hcell h.2.1 (Hdr.c1)) (by kernel_rfl)) h) ?_
      simp only [Act.put, List.setIfInBounds_toArray, List.set_cons_zero, List.set_cons_succ]
      refine wpHeld_cons (.int .u64 (hd.sq - 1)) rfl (fun w h => heldRun_value (run_subi Try.underlying22 rfl rfl rfl _ (wrap_u64 _ (by have := FM.out.sq; omega) (by have := HO.out.sb; omega))) h) ?_
      simp only [Act.put, List.setIfInBounds_toArray, List.set_cons_zero, List.set_cons_succ]
      refine wpHeld_cons (.bool false) rfl (fun w h => heldRun_value (run_eqi Try.underlying22 rfl rfl rfl (by have := K1.out; rw [decide_eq_false_iff_not]; omega)) h) ?_
      simp only [Act.put, List.setIfInBounds_toArray, List.set_cons_zero, List.set_cons_succ]
      refine wpHeld_cons (.bool false) rfl (fun w h => heldRun_value (by kernel_rfl) h) ?_
      simp only [Act.put, List.setIfInBounds_toArray, List.set_cons_zero, List.set_cons_succ]
      refine wpHeld_cons (.bool false) rfl (fun w h => heldRun_value (by kernel_rfl) h) ?_
      simp only [Act.put, List.setIfInBounds_toArray, List.set_cons_zero, List.set_cons_succ]
      refine wpHeld_skip rfl ?_
      simp only [Act.put, List.setIfInBounds_toArray, List.set_cons_zero, List.set_cons_succ]
      refine wpHeld_skip rfl ?_
      simp only [Act.put, List.setIfInBounds_toArray, List.set_cons_zero, List.set_cons_succ]
      refine wpHeld_skip rfl ?_
      simp only [Act.put, List.setIfInBounds_toArray, List.set_cons_zero, List.set_cons_succ]
      refine wpHeld_skip rfl ?_
      simp only [Act.put, List.setIfInBounds_toArray, List.set_cons_zero, List.set_cons_succ]
      refine wpHeld_cons (.bool false) rfl (fun w h => heldRun_value (by kernel_rfl) h) ?_
      simp only [Act.put, List.setIfInBounds_toArray, List.set_cons_zero, List.set_cons_succ]
      refine wpHeld_cons (.bool false) rfl (fun w h => heldRun_value (by kernel_rfl) h) ?_
      simp only [Act.put, List.setIfInBounds_toArray, List.set_cons_zero, List.set_cons_succ]
      refine wpHeld_nil ?_
      intro X h
      have F2 := Lib.hid h
      clear h F1
      go_wp2_with fail
      go_ret
      exact ⟨by rw [rd_not (vs := vs) (hd := hd) (T := T) (fun q => K1.out (by rw [← VV.out.1, ← KW.out.2.2]; exact q.2.1))]; rfl, F2.out.2.2.1⟩
set_option maxHeartbeats 8000000 in
theorem refready_any (w : World) (vs : List Int) (hv : vs.length = 6 ∧ ∀ x ∈ vs, 0 ≤ x ∧ x < 18446744073709551616) (hd : Hdr) (ho : HOk hd) (T : List (List Int)) (ht : Toks w hd.ta hd.tn T) :
    Calls Try.prog 17 #[.agg (vs.map (Value.int .u64)).toArray, .agg hd.L.toArray] w fun e w' => e = .returned (.bool (rdB vs hd T)) ∧ Below w.heap.size w w' := by
  have VL := Lib.hid hv
  have HO := Lib.hid ho
  have HT := Lib.hid ht
  clear hv ho ht
  go_enter Try.func17, Try.ntmps17
  obtain ⟨w1, hw1⟩ : ∃ V, V = w.alloc (.cells (vs.map (Value.int .u64)).toArray 24) := ⟨_, rfl⟩
  obtain ⟨g2, hg2⟩ : ∃ q, w.heap.size = q := ⟨_, rfl⟩
  obtain ⟨w2, hw2⟩ : ∃ V, V = w1.alloc (.cells hd.L.toArray 37) := ⟨_, rfl⟩
  obtain ⟨g, hg⟩ : ∃ q, w1.heap.size = q := ⟨_, rfl⟩
  have A0 : Below w.heap.size w w1 := by rw [hw1]; exact (Below.refl _ _).alloc (Nat.le_refl _) _
  have A1 : Below w1.heap.size w1 w2 := by rw [hw2]; exact (Below.refl _ _).alloc (Nat.le_refl _) _
  have A2 : Blk w1 g2 24 (vs.map (Value.int .u64)).toArray := by rw [hw1, ← hg2]; exact Blk.new _ _ _
  have F1 : Hid (Blk w2 g2 24 (vs.map (Value.int .u64)).toArray ∧ Blk w2 g 37 hd.L.toArray ∧ Below w.heap.size w w2 ∧ Toks w2 hd.ta hd.tn T) := Lib.hid ⟨A2.below A1, by rw [hw2, ← hg]; exact Blk.new _ _ _, A0.trans (A1.mono A0.size), (HT.out.keep A0).keep A1⟩
  clear A0 A1 A2
  go_upto_region 0 with (fail)
  refine wp_region_lit ?_
  refine wpL_value (.pointer (some ⟨g2, 0, none⟩)) (w1) rfl (by rw [← hg2]; exact run_boxv _ _ _ _ _ vs VL.out rfl rfl hw1) ?_
  simp only [Act.put, List.setIfInBounds_toArray, List.set_cons_zero, List.set_cons_succ]
  refine wpL_value (.pointer (some ⟨g, 0, none⟩)) (w2) rfl (by rw [← hg]; exact run_boxh _ _ _ _ _ hd HO.out rfl rfl hw2) ?_
  simp only [Act.put, List.setIfInBounds_toArray, List.set_cons_zero, List.set_cons_succ]
  refine wpL_pure (.bool false) rfl (by kernel_rfl) ?_
  simp only [Act.put, List.setIfInBounds_toArray, List.set_cons_zero, List.set_cons_succ]
  clear hw1 hg2 hw2 hg
  obtain ⟨fb, hfb⟩ : ∃ q, fmB hd T = q := ⟨_, rfl⟩
  have FB := Lib.hid hfb
  clear hfb
  cases fb
  · go_upto_region 1 with (fail)
    refine region_held_all (fun X => Blk X g2 24 (vs.map (Value.int .u64)).toArray ∧ Blk X g 37 hd.L.toArray ∧ Below w.heap.size w X ∧ Toks X hd.ta hd.tn T) (by kernel_rfl) (by kernel_rfl) (by exact ⟨F1.out.1.below (Below.drew (Below.refl _ _)), F1.out.2.1.below (Below.drew (Below.refl _ _)), F1.out.2.2.1.trans (Below.drew (Below.refl _ _)), F1.out.2.2.2.keep (Below.drew (Below.refl _ _))⟩) ?_
    refine wpHeld_cons (.agg hd.L.toArray) rfl (fun w h => heldRun_value (run_load_mid _ _ _ 37 _ rfl g 0 rfl hd.L _ (blk_range h.2.1) Try.underlying37 rfl (by rw [Hdr.len HO.out]; kernel_rfl)) h) ?_
    simp only [Act.put, List.setIfInBounds_toArray, List.set_cons_zero, List.set_cons_succ]
    refine wpHeld_call (.bool false) 23 #[.agg hd.L.toArray] rfl (fun w => by kernel_rfl) (fun X h => (refformed_b X hd HO.out T h.2.2.2).mono fun e V he => ⟨by rw [he.1, FB.out], ⟨h.1.below he.2, h.2.1.below he.2, h.2.2.1.trans (he.2.mono h.2.2.1.size), h.2.2.2.keep he.2⟩⟩) ?_
    simp only [Act.put, List.setIfInBounds_toArray, List.set_cons_zero, List.set_cons_succ]
    refine wpHeld_cons (.bool true) rfl (fun w h => heldRun_value (by kernel_rfl) h) ?_
    simp only [Act.put, List.setIfInBounds_toArray, List.set_cons_zero, List.set_cons_succ]
    refine wpHeld_cons (.bool true) rfl (fun w h => heldRun_value (by kernel_rfl) h) ?_
    simp only [Act.put, List.setIfInBounds_toArray, List.set_cons_zero, List.set_cons_succ]
    refine wpHeld_skip rfl ?_
    simp only [Act.put, List.setIfInBounds_toArray, List.set_cons_zero, List.set_cons_succ]
    refine wpHeld_skip rfl ?_
    simp only [Act.put, List.setIfInBounds_toArray, List.set_cons_zero, List.set_cons_succ]
    refine wpHeld_skip rfl ?_
    simp only [Act.put, List.setIfInBounds_toArray, List.set_cons_zero, List.set_cons_succ]
    refine wpHeld_skip rfl ?_
    simp only [Act.put, List.setIfInBounds_toArray, List.set_cons_zero, List.set_cons_succ]
    refine wpHeld_skip rfl ?_
    simp only [Act.put, List.setIfInBounds_toArray, List.set_cons_zero, List.set_cons_succ]
    refine wpHeld_skip rfl ?_
    simp only [Act.put, List.setIfInBounds_toArray, List.set_cons_zero, List.set_cons_succ]
    refine wpHeld_skip rfl ?_
    simp only [Act.put, List.setIfInBounds_toArray, List.set_cons_zero, List.set_cons_succ]
    refine wpHeld_skip rfl ?_
    simp only [Act.put, List.setIfInBounds_toArray, List.set_cons_zero, List.set_cons_succ]
    refine wpHeld_skip rfl ?_
    simp only [Act.put, List.setIfInBounds_toArray, List.set_cons_zero, List.set_cons_succ]
    refine wpHeld_cons (.bool true) rfl (fun w h => heldRun_value (by kernel_rfl) h) ?_
    simp only [Act.put, List.setIfInBounds_toArray, List.set_cons_zero, List.set_cons_succ]
    refine wpHeld_nil ?_
    intro X h
    have F2 := Lib.hid h
    clear h F1
    go_upto_region 2 with (fail)
    refine wp_region_lit ?_
    refine wpL_pure (.bool false) rfl (by kernel_rfl) ?_
    simp only [Act.put, List.setIfInBounds_toArray, List.set_cons_zero, List.set_cons_succ]
    go_wp2_with fail
    go_ret
    exact ⟨by rw [rd_false FB.out]; rfl, F2.out.2.2.1⟩
  · have FM : Hid (FmP hd T) := Lib.hid ((fmB_iff hd T).1 FB.out)
    obtain ⟨kw, hkw⟩ : ∃ k : Nat, hd.wr - 1 = (k : Int) := ⟨(hd.wr - 1).toNat, by have := FM.out.wr; omega⟩
    have KW : Hid (hd.wr - 1 = (kw : Int) ∧ kw < 6 ∧ (hd.wr - 1).toNat = kw) := Lib.hid ⟨hkw, by have := FM.out.wr; omega, by omega⟩
    clear hkw
    obtain ⟨vv, hvv⟩ : ∃ q, vs.getD kw 0 = q := ⟨_, rfl⟩
    have VV : Hid (vs.getD kw 0 = vv ∧ 0 ≤ vv ∧ vv < 18446744073709551616) := Lib.hid ⟨hvv, by rw [← hvv]; exact getD_u64 VL.out.2 kw⟩
    clear hvv
    obtain ⟨v1, hv1⟩ : ∃ q, IntKind.u64.wrap (vv + 1) = q := ⟨_, rfl⟩
    have V1 := Lib.hid hv1
    clear hv1
    by_cases c0 : vv = hd.sq - 1
    · have K1 := Lib.hid c0
      clear c0
      go_upto_region 1 with (fail)
      refine region_held_all (fun X => Blk X g2 24 (vs.map (Value.int .u64)).toArray ∧ Blk X g 37 hd.L.toArray ∧ Below w.heap.size w X ∧ Toks X hd.ta hd.tn T) (by kernel_rfl) (by kernel_rfl) (by exact ⟨F1.out.1.below (Below.drew (Below.refl _ _)), F1.out.2.1.below (Below.drew (Below.refl _ _)), F1.out.2.2.1.trans (Below.drew (Below.refl _ _)), F1.out.2.2.2.keep (Below.drew (Below.refl _ _))⟩) ?_
      refine wpHeld_cons (.agg hd.L.toArray) rfl (fun w h => heldRun_value (run_load_mid _ _ _ 37 _ rfl g 0 rfl hd.L _ (blk_range h.2.1) Try.underlying37 rfl (by rw [Hdr.len HO.out]; kernel_rfl)) h) ?_
      simp only [Act.put, List.setIfInBounds_toArray, List.set_cons_zero, List.set_cons_succ]
      refine wpHeld_call (.bool true) 23 #[.agg hd.L.toArray] rfl (fun w => by kernel_rfl) (fun X h => (refformed_b X hd HO.out T h.2.2.2).mono fun e V he => ⟨by rw [he.1, FB.out], ⟨h.1.below he.2, h.2.1.below he.2, h.2.2.1.trans (he.2.mono h.2.2.1.size), h.2.2.2.keep he.2⟩⟩) ?_
      simp only [Act.put, List.setIfInBounds_toArray, List.set_cons_zero, List.set_cons_succ]
      refine wpHeld_cons (.bool false) rfl (fun w h => heldRun_value (by kernel_rfl) h) ?_
      simp only [Act.put, List.setIfInBounds_toArray, List.set_cons_zero, List.set_cons_succ]
      refine wpHeld_cons (.bool false) rfl (fun w h => heldRun_value (by kernel_rfl) h) ?_
      simp only [Act.put, List.setIfInBounds_toArray, List.set_cons_zero, List.set_cons_succ]
      refine wpHeld_cons (.pointer (some ⟨g, 0, none⟩)) rfl (fun w h => heldRun_value (by kernel_rfl) h) ?_
      simp only [Act.put, List.setIfInBounds_toArray, List.set_cons_zero, List.set_cons_succ]
      refine wpHeld_cons (.int .i64 hd.wr) rfl (fun w h => heldRun_value (run_load_one _ _ _ 3 _ _ rfl (g) (0) rfl (hcell h.2.1 (Hdr.c0)) (by kernel_rfl)) h) ?_
      simp only [Act.put, List.setIfInBounds_toArray, List.set_cons_zero, List.set_cons_succ]
      refine wpHeld_cons (.int .i64 (kw : Int)) rfl (fun w h => heldRun_value (run_subi Try.underlying3 rfl rfl rfl _ (by rw [KW.out.1]; have := KW.out.2.1; exact wrap_in _ (by omega) (by omega))) h) ?_
      simp only [Act.put, List.setIfInBounds_toArray, List.set_cons_zero, List.set_cons_succ]
      refine wpHeld_cons (.pointer (some ⟨g2, 0 + kw, none⟩)) rfl (fun w h => heldRun_value (run_idx24 _ _ _ _ _ g2 0 kw rfl rfl rfl KW.out.2.1) h) ?_
      simp only [Act.put, List.setIfInBounds_toArray, List.set_cons_zero, List.set_cons_succ]
      refine wpHeld_cons (.int .u64 vv) rfl (fun w h => heldRun_value (run_load_one _ _ _ 22 _ _ rfl (g2) (0 + kw) rfl ((vcell h.1 VL.out.1 KW.out.2.1).trans (by rw [VV.out.1])) (by kernel_rfl)) h) ?_
      simp only [Act.put, List.setIfInBounds_toArray, List.set_cons_zero, List.set_cons_succ]
      refine wpHeld_cons (.int .u64 v1) rfl (fun w h => heldRun_value (run_addi Try.underlying22 rfl rfl rfl _ (V1.out)) h) ?_
      simp only [Act.put, List.setIfInBounds_toArray, List.set_cons_zero, List.set_cons_succ]
      refine wpHeld_cons (.pointer (some ⟨g, 1, none⟩)) rfl (fun w h => heldRun_value (by kernel_rfl) h) ?_
      simp only [Act.put, List.setIfInBounds_toArray, List.set_cons_zero, List.set_cons_succ]
      refine wpHeld_cons (.int .u64 hd.sq) rfl (fun w h => heldRun_value (run_load_one _ _ _ 22 _ _ rfl (g) (1) rfl (hcell h.2.1 (Hdr.c1)) (by kernel_rfl)) h) ?_
      simp only [Act.put, List.setIfInBounds_toArray, List.set_cons_zero, List.set_cons_succ]
      refine wpHeld_cons (.bool false) rfl (fun w h => heldRun_value (run_nei Try.underlying22 rfl rfl rfl (by have e := wrap_inc VV.out.2 FM.out.sq; rw [V1.out] at e; rw [decide_eq_false_iff_not]; exact fun q => q (e.2 K1.out))) h) ?_
      simp only [Act.put, List.setIfInBounds_toArray, List.set_cons_zero, List.set_cons_succ]
      refine wpHeld_cons (.bool false) rfl (fun w h => heldRun_value (by kernel_rfl) h) ?_
      simp only [Act.put, List.setIfInBounds_toArray, List.set_cons_zero, List.set_cons_succ]
      refine wpHeld_nil ?_
      intro X h
      have F2 := Lib.hid h
      clear h F1
      go_upto_region 3 with (fail)
      refine wp_region_lit ?_
      refine wpL_pure (.int .i64 0) rfl (by kernel_rfl) ?_
      simp only [Act.put, List.setIfInBounds_toArray, List.set_cons_zero, List.set_cons_succ]
      go_wp2_with fail
      go_loopw [5] (fun s5 wr => ∃ k : Nat, s5 = .int .i64 (k : Int) ∧ Hid (k ≤ 6 ∧ (∀ j, j < k → hd.kn.getD j 0 ≤ vs.getD j 0) ∧ Blk wr g2 24 (vs.map (Value.int .u64)).toArray ∧ Blk wr g 37 hd.L.toArray ∧ Below w.heap.size w wr ∧ Toks wr hd.ta hd.tn T)) (fun s5 _ => 6 - (intOf s5).toNat)
      case atStart => exact ⟨0, rfl, Lib.hid ⟨by omega, fun j h => by omega, F2.out⟩⟩
      case round =>
        clear F2
        obtain ⟨k, rfl, RI⟩ := hrel
        by_cases hlt : k < 6
        · have HK := Lib.hid hlt
          clear hlt
          obtain ⟨kv, hkv⟩ : ∃ q, hd.kn.getD k 0 = q := ⟨_, rfl⟩
          have KV := Lib.hid hkv
          obtain ⟨vk, hvk⟩ : ∃ q, vs.getD k 0 = q := ⟨_, rfl⟩
          have VK := Lib.hid hvk
          clear hkv hvk
          go_upto_region 4 with (fail)
          refine wp_region_lit ?_
          refine wpL_pure (.int .i64 (k : Int)) rfl (by kernel_rfl) ?_
          simp only [Act.put, List.setIfInBounds_toArray, List.set_cons_zero, List.set_cons_succ]
          refine wpL_pure (.bool true) rfl (run_lti Try.underlying3 rfl rfl rfl (by have := HK.out; rw [decide_eq_true_eq]; omega)) ?_
          simp only [Act.put, List.setIfInBounds_toArray, List.set_cons_zero, List.set_cons_succ]
          have F3 : Hid (Blk wr g2 24 (vs.map (Value.int .u64)).toArray ∧ Blk wr g 37 hd.L.toArray ∧ Below w.heap.size w wr ∧ Toks wr hd.ta hd.tn T) := Lib.hid RI.out.2.2
          by_cases c0 : vk < kv
          · have K0 := Lib.hid c0
            clear c0
            go_upto_region 6 with (fail)
            refine region_held_all (fun X => Blk X g2 24 (vs.map (Value.int .u64)).toArray ∧ Blk X g 37 hd.L.toArray ∧ Below w.heap.size w X ∧ Toks X hd.ta hd.tn T) (by kernel_rfl) (by kernel_rfl) (by exact ⟨F3.out.1.below (Below.drew (Below.refl _ _)), F3.out.2.1.below (Below.drew (Below.refl _ _)), F3.out.2.2.1.trans (Below.drew (Below.refl _ _)), F3.out.2.2.2.keep (Below.drew (Below.refl _ _))⟩) ?_
            refine wpHeld_cons (.int .i64 (k : Int)) rfl (fun w h => heldRun_value (by kernel_rfl) h) ?_
            simp only [Act.put, List.setIfInBounds_toArray, List.set_cons_zero, List.set_cons_succ]
            refine wpHeld_cons (.pointer (some ⟨g2, 0 + k, none⟩)) rfl (fun w h => heldRun_value (run_idx24 _ _ _ _ _ g2 0 k rfl rfl rfl HK.out) h) ?_
            simp only [Act.put, List.setIfInBounds_toArray, List.set_cons_zero, List.set_cons_succ]
            refine wpHeld_cons (.int .u64 vk) rfl (fun w h => heldRun_value (run_load_one _ _ _ 22 _ _ rfl (g2) (0 + k) rfl ((vcell h.1 VL.out.1 HK.out).trans (by rw [VK.out])) (by kernel_rfl)) h) ?_
            simp only [Act.put, List.setIfInBounds_toArray, List.set_cons_zero, List.set_cons_succ]
            refine wpHeld_cons (.int .i64 (k : Int)) rfl (fun w h => heldRun_value (by kernel_rfl) h) ?_
            simp only [Act.put, List.setIfInBounds_toArray, List.set_cons_zero, List.set_cons_succ]
            refine wpHeld_cons (.pointer (some ⟨g, 54, none⟩)) rfl (fun w h => heldRun_value (by kernel_rfl) h) ?_
            simp only [Act.put, List.setIfInBounds_toArray, List.set_cons_zero, List.set_cons_succ]
            refine wpHeld_cons (.pointer (some ⟨g, 54 + k, none⟩)) rfl (fun w h => heldRun_value (run_idx23 _ _ _ _ _ g 54 k rfl rfl rfl HK.out) h) ?_
            simp only [Act.put, List.setIfInBounds_toArray, List.set_cons_zero, List.set_cons_succ]
            refine wpHeld_cons (.int .u64 kv) rfl (fun w h => heldRun_value (run_load_one _ _ _ 22 _ _ rfl (g) (54 + k) rfl ((hcell h.2.1 (Hdr.ck HO.out k HK.out)).trans (by rw [KV.out])) (by kernel_rfl)) h) ?_
            simp only [Act.put, List.setIfInBounds_toArray, List.set_cons_zero, List.set_cons_succ]
            refine wpHeld_cons (.bool true) rfl (fun w h => heldRun_value (run_lti Try.underlying22 rfl rfl rfl (by have := K0.out; rw [decide_eq_true_eq]; omega)) h) ?_
            simp only [Act.put, List.setIfInBounds_toArray, List.set_cons_zero, List.set_cons_succ]
            refine wpHeld_nil ?_
            intro Y h
            have F4 := Lib.hid h
            clear h F3
            go_upto_region 7 with (fail)
            refine wp_region_lit ?_
            refine wpL_pure (.bool false) rfl (by kernel_rfl) ?_
            simp only [Act.put, List.setIfInBounds_toArray, List.set_cons_zero, List.set_cons_succ]
            go_wp2_with fail
            go_ret
            exact ⟨by rw [rd_not (vs := vs) (hd := hd) (T := T) (fun q => by have r := q.2.2 k HK.out; rw [KV.out, VK.out] at r; have := K0.out; omega)]; rfl, F4.out.2.2.1⟩
          · have K0 := Lib.hid c0
            clear c0
            go_upto_region 6 with (fail)
            refine region_held_all (fun X => Blk X g2 24 (vs.map (Value.int .u64)).toArray ∧ Blk X g 37 hd.L.toArray ∧ Below w.heap.size w X ∧ Toks X hd.ta hd.tn T) (by kernel_rfl) (by kernel_rfl) (by exact ⟨F3.out.1.below (Below.drew (Below.refl _ _)), F3.out.2.1.below (Below.drew (Below.refl _ _)), F3.out.2.2.1.trans (Below.drew (Below.refl _ _)), F3.out.2.2.2.keep (Below.drew (Below.refl _ _))⟩) ?_
            refine wpHeld_cons (.int .i64 (k : Int)) rfl (fun w h => heldRun_value (by kernel_rfl) h) ?_
            simp only [Act.put, List.setIfInBounds_toArray, List.set_cons_zero, List.set_cons_succ]
            refine wpHeld_cons (.pointer (some ⟨g2, 0 + k, none⟩)) rfl (fun w h => heldRun_value (run_idx24 _ _ _ _ _ g2 0 k rfl rfl rfl HK.out) h) ?_
            simp only [Act.put, List.setIfInBounds_toArray, List.set_cons_zero, List.set_cons_succ]
            refine wpHeld_cons (.int .u64 vk) rfl (fun w h => heldRun_value (run_load_one _ _ _ 22 _ _ rfl (g2) (0 + k) rfl ((vcell h.1 VL.out.1 HK.out).trans (by rw [VK.out])) (by kernel_rfl)) h) ?_
            simp only [Act.put, List.setIfInBounds_toArray, List.set_cons_zero, List.set_cons_succ]
            refine wpHeld_cons (.int .i64 (k : Int)) rfl (fun w h => heldRun_value (by kernel_rfl) h) ?_
            simp only [Act.put, List.setIfInBounds_toArray, List.set_cons_zero, List.set_cons_succ]
            refine wpHeld_cons (.pointer (some ⟨g, 54, none⟩)) rfl (fun w h => heldRun_value (by kernel_rfl) h) ?_
            simp only [Act.put, List.setIfInBounds_toArray, List.set_cons_zero, List.set_cons_succ]
            refine wpHeld_cons (.pointer (some ⟨g, 54 + k, none⟩)) rfl (fun w h => heldRun_value (run_idx23 _ _ _ _ _ g 54 k rfl rfl rfl HK.out) h) ?_
            simp only [Act.put, List.setIfInBounds_toArray, List.set_cons_zero, List.set_cons_succ]
            refine wpHeld_cons (.int .u64 kv) rfl (fun w h => heldRun_value (run_load_one _ _ _ 22 _ _ rfl (g) (54 + k) rfl ((hcell h.2.1 (Hdr.ck HO.out k HK.out)).trans (by rw [KV.out])) (by kernel_rfl)) h) ?_
            simp only [Act.put, List.setIfInBounds_toArray, List.set_cons_zero, List.set_cons_succ]
            refine wpHeld_cons (.bool false) rfl (fun w h => heldRun_value (run_lti Try.underlying22 rfl rfl rfl (by have := K0.out; rw [decide_eq_false_iff_not]; omega)) h) ?_
            simp only [Act.put, List.setIfInBounds_toArray, List.set_cons_zero, List.set_cons_succ]
            refine wpHeld_nil ?_
            intro Y h
            have F4 := Lib.hid h
            clear h F3
            go_upto_region 5 with (fail)
            refine wp_region_lit ?_
            refine wpL_pure (.int .i64 (k : Int)) rfl (by kernel_rfl) ?_
            simp only [Act.put, List.setIfInBounds_toArray, List.set_cons_zero, List.set_cons_succ]
            refine wpL_pure (.int .i64 ((k + 1 : Nat) : Int)) rfl (run_addi Try.underlying3 rfl rfl rfl _ (by have := HK.out; rw [wrap_in _ (by omega) (by omega)]; omega)) ?_
            simp only [Act.put, List.setIfInBounds_toArray, List.set_cons_zero, List.set_cons_succ]
            refine wpL_pure (.int .i64 ((k + 1 : Nat) : Int)) rfl (by kernel_rfl) ?_
            simp only [Act.put, List.setIfInBounds_toArray, List.set_cons_zero, List.set_cons_succ]
            have NX : Hid (k + 1 ≤ 6 ∧ (∀ j, j < k + 1 → hd.kn.getD j 0 ≤ vs.getD j 0) ∧ Blk Y g2 24 (vs.map (Value.int .u64)).toArray ∧ Blk Y g 37 hd.L.toArray ∧ Below w.heap.size w Y ∧ Toks Y hd.ta hd.tn T) := Lib.hid ⟨HK.out, fun j hj => by
              by_cases e : j = k
              · rw [e, KV.out, VK.out]; have := K0.out; omega
              · exact RI.out.2.1 j (by omega), F4.out⟩
            unfold wpList
            go_roundw
            case rel => first | exact ⟨k + 1, rfl, NX⟩ | ((repeat apply Exists.intro); exact ⟨⟨k + 1, rfl, NX⟩, rfl⟩)
            case measure => simp [intOf]; have := HK.out; omega
        · have HK := Lib.hid hlt
          clear hlt
          go_upto_region 4 with (fail)
          refine wp_region_lit ?_
          refine wpL_pure (.int .i64 (k : Int)) rfl (by kernel_rfl) ?_
          simp only [Act.put, List.setIfInBounds_toArray, List.set_cons_zero, List.set_cons_succ]
          refine wpL_pure (.bool false) rfl (run_lti Try.underlying3 rfl rfl rfl (by have := HK.out; rw [decide_eq_false_iff_not]; omega)) ?_
          simp only [Act.put, List.setIfInBounds_toArray, List.set_cons_zero, List.set_cons_succ]
          go_upto_region 8 with (fail)
          refine wp_region_lit ?_
          refine wpL_pure (.bool true) rfl (by kernel_rfl) ?_
          simp only [Act.put, List.setIfInBounds_toArray, List.set_cons_zero, List.set_cons_succ]
          go_wp2_with fail
          go_ret
          exact ⟨by rw [rd_yes (vs := vs) (hd := hd) (T := T) ⟨FM.out, by rw [KW.out.2.2, VV.out.1]; exact K1.out, fun j hj => RI.out.2.1 j (by have := HK.out; omega)⟩]; rfl, RI.out.2.2.2.2.1⟩
    · have K1 := Lib.hid c0
      clear c0
      go_upto_region 1 with (fail)
      refine region_held_all (fun X => Blk X g2 24 (vs.map (Value.int .u64)).toArray ∧ Blk X g 37 hd.L.toArray ∧ Below w.heap.size w X ∧ Toks X hd.ta hd.tn T) (by kernel_rfl) (by kernel_rfl) (by exact ⟨F1.out.1.below (Below.drew (Below.refl _ _)), F1.out.2.1.below (Below.drew (Below.refl _ _)), F1.out.2.2.1.trans (Below.drew (Below.refl _ _)), F1.out.2.2.2.keep (Below.drew (Below.refl _ _))⟩) ?_
      refine wpHeld_cons (.agg hd.L.toArray) rfl (fun w h => heldRun_value (run_load_mid _ _ _ 37 _ rfl g 0 rfl hd.L _ (blk_range h.2.1) Try.underlying37 rfl (by rw [Hdr.len HO.out]; kernel_rfl)) h) ?_
      simp only [Act.put, List.setIfInBounds_toArray, List.set_cons_zero, List.set_cons_succ]
      refine wpHeld_call (.bool true) 23 #[.agg hd.L.toArray] rfl (fun w => by kernel_rfl) (fun X h => (refformed_b X hd HO.out T h.2.2.2).mono fun e V he => ⟨by rw [he.1, FB.out], ⟨h.1.below he.2, h.2.1.below he.2, h.2.2.1.trans (he.2.mono h.2.2.1.size), h.2.2.2.keep he.2⟩⟩) ?_
      simp only [Act.put, List.setIfInBounds_toArray, List.set_cons_zero, List.set_cons_succ]
      refine wpHeld_cons (.bool false) rfl (fun w h => heldRun_value (by kernel_rfl) h) ?_
      simp only [Act.put, List.setIfInBounds_toArray, List.set_cons_zero, List.set_cons_succ]
      refine wpHeld_cons (.bool false) rfl (fun w h => heldRun_value (by kernel_rfl) h) ?_
      simp only [Act.put, List.setIfInBounds_toArray, List.set_cons_zero, List.set_cons_succ]
      refine wpHeld_cons (.pointer (some ⟨g, 0, none⟩)) rfl (fun w h => heldRun_value (by kernel_rfl) h) ?_
      simp only [Act.put, List.setIfInBounds_toArray, List.set_cons_zero, List.set_cons_succ]
      refine wpHeld_cons (.int .i64 hd.wr) rfl (fun w h => heldRun_value (run_load_one _ _ _ 3 _ _ rfl (g) (0) rfl (hcell h.2.1 (Hdr.c0)) (by kernel_rfl)) h) ?_
      simp only [Act.put, List.setIfInBounds_toArray, List.set_cons_zero, List.set_cons_succ]
      refine wpHeld_cons (.int .i64 (kw : Int)) rfl (fun w h => heldRun_value (run_subi Try.underlying3 rfl rfl rfl _ (by rw [KW.out.1]; have := KW.out.2.1; exact wrap_in _ (by omega) (by omega))) h) ?_
      simp only [Act.put, List.setIfInBounds_toArray, List.set_cons_zero, List.set_cons_succ]
      refine wpHeld_cons (.pointer (some ⟨g2, 0 + kw, none⟩)) rfl (fun w h => heldRun_value (run_idx24 _ _ _ _ _ g2 0 kw rfl rfl rfl KW.out.2.1) h) ?_
      simp only [Act.put, List.setIfInBounds_toArray, List.set_cons_zero, List.set_cons_succ]
      refine wpHeld_cons (.int .u64 vv) rfl (fun w h => heldRun_value (run_load_one _ _ _ 22 _ _ rfl (g2) (0 + kw) rfl ((vcell h.1 VL.out.1 KW.out.2.1).trans (by rw [VV.out.1])) (by kernel_rfl)) h) ?_
      simp only [Act.put, List.setIfInBounds_toArray, List.set_cons_zero, List.set_cons_succ]
      refine wpHeld_cons (.int .u64 v1) rfl (fun w h => heldRun_value (run_addi Try.underlying22 rfl rfl rfl _ (V1.out)) h) ?_
      simp only [Act.put, List.setIfInBounds_toArray, List.set_cons_zero, List.set_cons_succ]
      refine wpHeld_cons (.pointer (some ⟨g, 1, none⟩)) rfl (fun w h => heldRun_value (by kernel_rfl) h) ?_
      simp only [Act.put, List.setIfInBounds_toArray, List.set_cons_zero, List.set_cons_succ]
      refine wpHeld_cons (.int .u64 hd.sq) rfl (fun w h => heldRun_value (run_load_one _ _ _ 22 _ _ rfl (g) (1) rfl (hcell h.2.1 (Hdr.c1)) (by kernel_rfl)) h) ?_
      simp only [Act.put, List.setIfInBounds_toArray, List.set_cons_zero, List.set_cons_succ]
      refine wpHeld_cons (.bool true) rfl (fun w h => heldRun_value (run_nei Try.underlying22 rfl rfl rfl (by have e := wrap_inc VV.out.2 FM.out.sq; rw [V1.out] at e; rw [decide_eq_true_eq]; exact fun q => K1.out (e.1 q))) h) ?_
      simp only [Act.put, List.setIfInBounds_toArray, List.set_cons_zero, List.set_cons_succ]
      refine wpHeld_cons (.bool true) rfl (fun w h => heldRun_value (by kernel_rfl) h) ?_
      simp only [Act.put, List.setIfInBounds_toArray, List.set_cons_zero, List.set_cons_succ]
      refine wpHeld_nil ?_
      intro X h
      have F2 := Lib.hid h
      clear h F1
      go_upto_region 2 with (fail)
      refine wp_region_lit ?_
      refine wpL_pure (.bool false) rfl (by kernel_rfl) ?_
      simp only [Act.put, List.setIfInBounds_toArray, List.set_cons_zero, List.set_cons_succ]
      go_wp2_with fail
      go_ret
      exact ⟨by rw [rd_not (vs := vs) (hd := hd) (T := T) (fun q => K1.out (by rw [← VV.out.1, ← KW.out.2.2]; exact q.2.1))]; rfl, F2.out.2.2.1⟩
set_option maxHeartbeats 8000000 in
theorem vready_any (w : World) (vs : List Int) (hv : vs.length = 6 ∧ ∀ x ∈ vs, 0 ≤ x ∧ x < 18446744073709551616) (hd : Hdr) (ho : HOk hd) (T : List (List Int)) (ht : Toks w hd.ta hd.tn T) :
    Calls Try.prog 5 #[.agg (vs.map (Value.int .u64)).toArray, .agg hd.L.toArray] w fun e w' => e = .returned (.bool true) ∧ Below w.heap.size w w' := by
  have VL := Lib.hid hv
  have HO := Lib.hid ho
  have HT := Lib.hid ht
  clear hv ho ht
  go_enter Try.func5, Try.ntmps5
  obtain ⟨w1, hw1⟩ : ∃ V, V = w.alloc (.cells (vs.map (Value.int .u64)).toArray 24) := ⟨_, rfl⟩
  obtain ⟨g2, hg2⟩ : ∃ q, w.heap.size = q := ⟨_, rfl⟩
  obtain ⟨w2, hw2⟩ : ∃ V, V = w1.alloc (.cells hd.L.toArray 37) := ⟨_, rfl⟩
  obtain ⟨g, hg⟩ : ∃ q, w1.heap.size = q := ⟨_, rfl⟩
  have A0 : Below w.heap.size w w1 := by rw [hw1]; exact (Below.refl _ _).alloc (Nat.le_refl _) _
  have A1 : Below w1.heap.size w1 w2 := by rw [hw2]; exact (Below.refl _ _).alloc (Nat.le_refl _) _
  have A2 : Blk w1 g2 24 (vs.map (Value.int .u64)).toArray := by rw [hw1, ← hg2]; exact Blk.new _ _ _
  have F1 : Hid (Blk w2 g2 24 (vs.map (Value.int .u64)).toArray ∧ Blk w2 g 37 hd.L.toArray ∧ Below w.heap.size w w2 ∧ Toks w2 hd.ta hd.tn T) := Lib.hid ⟨A2.below A1, by rw [hw2, ← hg]; exact Blk.new _ _ _, A0.trans (A1.mono A0.size), (HT.out.keep A0).keep A1⟩
  clear A0 A1 A2
  go_upto_region 0 with (fail)
  refine wp_region_lit ?_
  refine wpL_value (.pointer (some ⟨g2, 0, none⟩)) (w1) rfl (by rw [← hg2]; exact run_boxv _ _ _ _ _ vs VL.out rfl rfl hw1) ?_
  simp only [Act.put, List.setIfInBounds_toArray, List.set_cons_zero, List.set_cons_succ]
  refine wpL_value (.pointer (some ⟨g, 0, none⟩)) (w2) rfl (by rw [← hg]; exact run_boxh _ _ _ _ _ hd HO.out rfl rfl hw2) ?_
  simp only [Act.put, List.setIfInBounds_toArray, List.set_cons_zero, List.set_cons_succ]
  refine wpL_pure (.bool false) rfl (by kernel_rfl) ?_
  simp only [Act.put, List.setIfInBounds_toArray, List.set_cons_zero, List.set_cons_succ]
  clear hw1 hg2 hw2 hg
  obtain ⟨rb, hrb⟩ : ∃ q, rdB vs hd T = q := ⟨_, rfl⟩
  have RB := Lib.hid hrb
  clear hrb
  by_cases c0 : 20 < hd.tn
  · have T1 := Lib.hid c0
    clear c0
    go_upto_region 1 with (fail)
    refine region_held_all (fun X => Blk X g2 24 (vs.map (Value.int .u64)).toArray ∧ Blk X g 37 hd.L.toArray ∧ Below w.heap.size w X ∧ Toks X hd.ta hd.tn T) (by kernel_rfl) (by kernel_rfl) (by exact ⟨F1.out.1.below (Below.drew (Below.refl _ _)), F1.out.2.1.below (Below.drew (Below.refl _ _)), F1.out.2.2.1.trans (Below.drew (Below.refl _ _)), F1.out.2.2.2.keep (Below.drew (Below.refl _ _))⟩) ?_
    refine wpHeld_call (.bool true) 12 #[] rfl (fun w => by kernel_rfl) (fun X h => (awake14 X).mono fun e V he => ⟨he.1, ⟨h.1.below he.2, h.2.1.below he.2, h.2.2.1.trans (he.2.mono h.2.2.1.size), h.2.2.2.keep he.2⟩⟩) ?_
    simp only [Act.put, List.setIfInBounds_toArray, List.set_cons_zero, List.set_cons_succ]
    refine wpHeld_cons (.bool true) rfl (fun w h => heldRun_value (by kernel_rfl) h) ?_
    simp only [Act.put, List.setIfInBounds_toArray, List.set_cons_zero, List.set_cons_succ]
    refine wpHeld_cons (.pointer (some ⟨g, 53, none⟩)) rfl (fun w h => heldRun_value (by kernel_rfl) h) ?_
    simp only [Act.put, List.setIfInBounds_toArray, List.set_cons_zero, List.set_cons_succ]
    refine wpHeld_cons (.slice hd.ta hd.tn hd.tc) rfl (fun w h => heldRun_value (run_load_one _ _ _ 35 _ _ rfl (g) (53) rfl (hcell h.2.1 (Hdr.c53 HO.out)) (by kernel_rfl)) h) ?_
    simp only [Act.put, List.setIfInBounds_toArray, List.set_cons_zero, List.set_cons_succ]
    refine wpHeld_cons (.int .i64 (hd.tn : Int)) rfl (fun w h => heldRun_value (by kernel_rfl) h) ?_
    simp only [Act.put, List.setIfInBounds_toArray, List.set_cons_zero, List.set_cons_succ]
    refine wpHeld_cons (.bool true) rfl (fun w h => heldRun_value (run_gti Try.underlying3 rfl rfl rfl (by have := T1.out; rw [decide_eq_true_eq]; omega)) h) ?_
    simp only [Act.put, List.setIfInBounds_toArray, List.set_cons_zero, List.set_cons_succ]
    refine wpHeld_cons (.bool true) rfl (fun w h => heldRun_value (by kernel_rfl) h) ?_
    simp only [Act.put, List.setIfInBounds_toArray, List.set_cons_zero, List.set_cons_succ]
    refine wpHeld_skip rfl ?_
    simp only [Act.put, List.setIfInBounds_toArray, List.set_cons_zero, List.set_cons_succ]
    refine wpHeld_skip rfl ?_
    simp only [Act.put, List.setIfInBounds_toArray, List.set_cons_zero, List.set_cons_succ]
    refine wpHeld_skip rfl ?_
    simp only [Act.put, List.setIfInBounds_toArray, List.set_cons_zero, List.set_cons_succ]
    refine wpHeld_skip rfl ?_
    simp only [Act.put, List.setIfInBounds_toArray, List.set_cons_zero, List.set_cons_succ]
    refine wpHeld_skip rfl ?_
    simp only [Act.put, List.setIfInBounds_toArray, List.set_cons_zero, List.set_cons_succ]
    refine wpHeld_skip rfl ?_
    simp only [Act.put, List.setIfInBounds_toArray, List.set_cons_zero, List.set_cons_succ]
    refine wpHeld_skip rfl ?_
    simp only [Act.put, List.setIfInBounds_toArray, List.set_cons_zero, List.set_cons_succ]
    refine wpHeld_cons (.bool true) rfl (fun w h => heldRun_value (by kernel_rfl) h) ?_
    simp only [Act.put, List.setIfInBounds_toArray, List.set_cons_zero, List.set_cons_succ]
    refine wpHeld_cons (.bool true) rfl (fun w h => heldRun_value (by kernel_rfl) h) ?_
    simp only [Act.put, List.setIfInBounds_toArray, List.set_cons_zero, List.set_cons_succ]
    refine wpHeld_cons (.bool true) rfl (fun w h => heldRun_value (by kernel_rfl) h) ?_
    simp only [Act.put, List.setIfInBounds_toArray, List.set_cons_zero, List.set_cons_succ]
    refine wpHeld_nil ?_
    intro X h
    have F2 := Lib.hid h
    clear h F1
    go_wp2_with fail
    go_ret
    exact ⟨rfl, F2.out.2.2.1⟩
  · have T1 := Lib.hid c0
    clear c0
    go_upto_region 1 with (fail)
    refine region_held_all (fun X => Blk X g2 24 (vs.map (Value.int .u64)).toArray ∧ Blk X g 37 hd.L.toArray ∧ Below w.heap.size w X ∧ Toks X hd.ta hd.tn T) (by kernel_rfl) (by kernel_rfl) (by exact ⟨F1.out.1.below (Below.drew (Below.refl _ _)), F1.out.2.1.below (Below.drew (Below.refl _ _)), F1.out.2.2.1.trans (Below.drew (Below.refl _ _)), F1.out.2.2.2.keep (Below.drew (Below.refl _ _))⟩) ?_
    refine wpHeld_call (.bool true) 12 #[] rfl (fun w => by kernel_rfl) (fun X h => (awake14 X).mono fun e V he => ⟨he.1, ⟨h.1.below he.2, h.2.1.below he.2, h.2.2.1.trans (he.2.mono h.2.2.1.size), h.2.2.2.keep he.2⟩⟩) ?_
    simp only [Act.put, List.setIfInBounds_toArray, List.set_cons_zero, List.set_cons_succ]
    refine wpHeld_cons (.bool true) rfl (fun w h => heldRun_value (by kernel_rfl) h) ?_
    simp only [Act.put, List.setIfInBounds_toArray, List.set_cons_zero, List.set_cons_succ]
    refine wpHeld_cons (.pointer (some ⟨g, 53, none⟩)) rfl (fun w h => heldRun_value (by kernel_rfl) h) ?_
    simp only [Act.put, List.setIfInBounds_toArray, List.set_cons_zero, List.set_cons_succ]
    refine wpHeld_cons (.slice hd.ta hd.tn hd.tc) rfl (fun w h => heldRun_value (run_load_one _ _ _ 35 _ _ rfl (g) (53) rfl (hcell h.2.1 (Hdr.c53 HO.out)) (by kernel_rfl)) h) ?_
    simp only [Act.put, List.setIfInBounds_toArray, List.set_cons_zero, List.set_cons_succ]
    refine wpHeld_cons (.int .i64 (hd.tn : Int)) rfl (fun w h => heldRun_value (by kernel_rfl) h) ?_
    simp only [Act.put, List.setIfInBounds_toArray, List.set_cons_zero, List.set_cons_succ]
    refine wpHeld_cons (.bool false) rfl (fun w h => heldRun_value (run_gti Try.underlying3 rfl rfl rfl (by have := T1.out; rw [decide_eq_false_iff_not]; omega)) h) ?_
    simp only [Act.put, List.setIfInBounds_toArray, List.set_cons_zero, List.set_cons_succ]
    refine wpHeld_cons (.bool false) rfl (fun w h => heldRun_value (by kernel_rfl) h) ?_
    simp only [Act.put, List.setIfInBounds_toArray, List.set_cons_zero, List.set_cons_succ]
    refine wpHeld_cons (.agg (vs.map (Value.int .u64)).toArray) rfl (fun w h => heldRun_value (run_load_mid _ _ _ 24 _ rfl g2 0 rfl (vs.map (Value.int .u64)) _ (blk_range h.1) Try.underlying24 rfl (by rw [List.length_map, VL.out.1]; kernel_rfl)) h) ?_
    simp only [Act.put, List.setIfInBounds_toArray, List.set_cons_zero, List.set_cons_succ]
    refine wpHeld_cons (.agg hd.L.toArray) rfl (fun w h => heldRun_value (run_load_mid _ _ _ 37 _ rfl g 0 rfl hd.L _ (blk_range h.2.1) Try.underlying37 rfl (by rw [Hdr.len HO.out]; kernel_rfl)) h) ?_
    simp only [Act.put, List.setIfInBounds_toArray, List.set_cons_zero, List.set_cons_succ]
    refine wpHeld_call (.bool rb) 16 #[.agg (vs.map (Value.int .u64)).toArray, .agg hd.L.toArray] rfl (fun w => by kernel_rfl) (fun X h => (ready_any X vs VL.out hd HO.out T h.2.2.2).mono fun e V he => ⟨by rw [he.1, RB.out], ⟨h.1.below he.2, h.2.1.below he.2, h.2.2.1.trans (he.2.mono h.2.2.1.size), h.2.2.2.keep he.2⟩⟩) ?_
    simp only [Act.put, List.setIfInBounds_toArray, List.set_cons_zero, List.set_cons_succ]
    refine wpHeld_cons (.agg (vs.map (Value.int .u64)).toArray) rfl (fun w h => heldRun_value (run_load_mid _ _ _ 24 _ rfl g2 0 rfl (vs.map (Value.int .u64)) _ (blk_range h.1) Try.underlying24 rfl (by rw [List.length_map, VL.out.1]; kernel_rfl)) h) ?_
    simp only [Act.put, List.setIfInBounds_toArray, List.set_cons_zero, List.set_cons_succ]
    refine wpHeld_cons (.agg hd.L.toArray) rfl (fun w h => heldRun_value (run_load_mid _ _ _ 37 _ rfl g 0 rfl hd.L _ (blk_range h.2.1) Try.underlying37 rfl (by rw [Hdr.len HO.out]; kernel_rfl)) h) ?_
    simp only [Act.put, List.setIfInBounds_toArray, List.set_cons_zero, List.set_cons_succ]
    refine wpHeld_call (.bool rb) 17 #[.agg (vs.map (Value.int .u64)).toArray, .agg hd.L.toArray] rfl (fun w => by kernel_rfl) (fun X h => (refready_any X vs VL.out hd HO.out T h.2.2.2).mono fun e V he => ⟨by rw [he.1, RB.out], ⟨h.1.below he.2, h.2.1.below he.2, h.2.2.1.trans (he.2.mono h.2.2.1.size), h.2.2.2.keep he.2⟩⟩) ?_
    simp only [Act.put, List.setIfInBounds_toArray, List.set_cons_zero, List.set_cons_succ]
    refine wpHeld_cons (.bool true) rfl (fun w h => heldRun_value (by cases rb <;> kernel_rfl) h) ?_
    simp only [Act.put, List.setIfInBounds_toArray, List.set_cons_zero, List.set_cons_succ]
    refine wpHeld_cons (.bool true) rfl (fun w h => heldRun_value (by kernel_rfl) h) ?_
    simp only [Act.put, List.setIfInBounds_toArray, List.set_cons_zero, List.set_cons_succ]
    refine wpHeld_cons (.bool true) rfl (fun w h => heldRun_value (by kernel_rfl) h) ?_
    simp only [Act.put, List.setIfInBounds_toArray, List.set_cons_zero, List.set_cons_succ]
    refine wpHeld_cons (.bool true) rfl (fun w h => heldRun_value (by kernel_rfl) h) ?_
    simp only [Act.put, List.setIfInBounds_toArray, List.set_cons_zero, List.set_cons_succ]
    refine wpHeld_nil ?_
    intro X h
    have F2 := Lib.hid h
    clear h F1
    go_wp2_with fail
    go_ret
    exact ⟨rfl, F2.out.2.2.1⟩
end Go.Proofs.Ythkhlkiemldbaaa.K.Ha
