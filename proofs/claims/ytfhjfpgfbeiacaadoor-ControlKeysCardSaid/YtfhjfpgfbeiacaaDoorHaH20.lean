import Derived.Test.YtfhjfpgfbeiacaaDoorHaH18
import Derived.Laws.IdiomStrings
namespace Go.Proofs.YtfhjfpgfbeiacaaDoor.Ha
open Go Go.RowKit
set_option maxRecDepth 100000

theorem op_val {Pg : Program} {ops : Array Oper} {Q' : Exit → Act → World → Prop} {i : Nat} {o : Oper} {a : Act} {w : World} {K : Act → World → Prop} (v : Value) (ho : ops[i]? = some o) (hw : Region.wanted o (yielded ops a.tmps) = true) (hr : (execOp a.eval o).run Pg w = .ok (.value v) w) (hK : K (a.put o.dst v) w) : wpOp Pg ops Q' i K a w := op_valw v w ho hw hr hK
theorem run_box24 (a : Act) (o : Oper) (w w1 : World) (x : Operand) (ks : List Int) (ho : o.op = .box 22 x) (hx : a.eval x = .agg (u8l ks).toArray) (hl : ks.length = 32) (h1 : w1 = w.alloc (.cells (u8l ks).toArray 22)) :
    (execOp a.eval o).run Tryd.prog w = .ok (.value (.pointer (some ⟨w.heap.size, 0, none⟩))) w1 := by
  have h : ¬ (u8l ks).length = 0 := by simp [u8l, hl]
  subst h1
  unfold execOp
  simp [ho, hx, Instr.box, newVar, newRow, Value.cells, h]
theorem conv_bytes (w : World) (bs : List Int) (hb : ∀ x ∈ bs, 0 ≤ x ∧ x ≤ 255) (hn : bs.length ≤ 100000) :
    ∃ a c W', (convert 9 32 (.string (strOfNums bs))).run Tryd.prog w = .ok (.slice a bs.length c) W' ∧ Sl W' a bs.length c bs ∧ Below w.heap.size w W' := by
  have hs : (strOfNums bs).size = bs.length := by simp [strOfNums, ByteArray.size]
  have r := run_bytes_of_string (P := Tryd.prog) w 9 32 5 (strOfNums bs) Tryd.underlying9 Tryd.underlying32 Tryd.underlying5
  have hc := grownCap_ge w (strOfNums bs).size 0 5
  have hm := grownCap_le_maxLen w (strOfNums bs).size 0 5 (by rw [hs]; unfold maxLen; omega)
  rw [hs] at r hc hm
  refine ⟨_, _, _, r, ⟨⟨rfl, by unfold maxLen; omega, hb, fun j hj => ⟨w.heap.size, 0, rfl, ?_⟩⟩, hc, by unfold maxLen at hm; omega, fun _ p hp => by cases hp; rfl⟩, (Below.refl _ _).drew.alloc (Nat.le_refl _) _⟩
  have hx := hb _ (List.getElem_mem hj)
  unfold World.cell?
  have hh : (w.drew.alloc (.cells (bytesRow (strOfNums bs) (grownCap w bs.length 0 5)) 5 ((bytesRow (strOfNums bs) (grownCap w bs.length 0 5)).size, (bytesRow (strOfNums bs) (grownCap w bs.length 0 5)).size + 1))).heap[w.heap.size]? = some (.cells (bytesRow (strOfNums bs) (grownCap w bs.length 0 5)) 5 ((bytesRow (strOfNums bs) (grownCap w bs.length 0 5)).size, (bytesRow (strOfNums bs) (grownCap w bs.length 0 5)).size + 1)) := heap_alloc_new w.drew _
  rw [hh]
  simp only [Nat.zero_add]
  unfold bytesRow
  rw [Array.getElem?_append_left (by simp [strOfNums]; exact hj)]
  simp only [strOfNums, List.map_toArray, List.getElem?_toArray, List.getElem?_map, List.getElem?_eq_getElem hj, List.getD, Option.map_some, Option.getD_some]
  simp
  omega
theorem run_cvb (a : Act) (o : Oper) (w w' : World) (x : Operand) (s : ByteArray) (r : Value) (ho : o.op = .convert 9 32 x) (hx : a.eval x = .string s) (h : (convert 9 32 (.string s)).run Tryd.prog w = .ok r w') : (execOp a.eval o).run Tryd.prog w = .ok (.value r) w' := by
  unfold execOp
  simp only [ho, hx, Sem.run_bind, h, Result.andThen_ok, Sem.run_pure]
theorem joined_sl (w : World) (a : Option Addr) (ln lc : Nat) (L : List (List Int)) (h : PSl w a ln L) (h8 : ln ≤ 100) (hF : L.flatten.length ≤ 100000) :
    Calls Tryd.prog 52 #[.slice a ln lc] w fun e w' => ∃ va vc, e = .returned (.slice va L.flatten.length vc) ∧ Sl w' va L.flatten.length vc L.flatten ∧ Below w.heap.size w w' :=
  (joined_any w a ln lc L h h8 hF).mono fun e w' ⟨v, he, ho, hb⟩ => by
    obtain ⟨va, vc, ev, vs⟩ := own_sl ho
    subst ev
    exact ⟨va, vc, he, vs, hb⟩
theorem own_len {w : World} {b n c : Nat} {a : Option Addr} {xs : List Int} (h : Own w b (.slice a n c) xs) : xs.length = n := h.row.1.1
theorem own_sl' {w : World} {b n c : Nat} {a : Option Addr} {xs : List Int} (h : Own w b (.slice a n c) xs) : Sl w a n c xs := by
  obtain ⟨a9, c9, e, s⟩ := own_sl h
  simp only [Value.slice.injEq] at e
  obtain ⟨rfl, h2, rfl⟩ := e
  rw [h2]
  exact s
theorem own_setRow {w : World} {b g : Nat} {v : Value} {xs : List Int} {cs : Array Value} (h : Own w b v xs) (hg : v.ownBlock ≠ some g) : Own (w.setRow g cs) b v xs := by
  have q := below_setRow (B := 0) (Below.refl 0 w) (g := g) (Nat.zero_le _) cs
  refine h.grown (r := some g) ⟨q.os, q.tape, q.output, q.size, fun k hk hr => setRow_other _ _ _ _ (fun e => hr (congrArg some e))⟩ ?_
  exact .inr hg
theorem blk_setRow {w : World} {g g' t : Nat} {cs cs' : Array Value} (h : Blk w g t cs) (hg : g ≠ g') : Blk (w.setRow g' cs') g t cs := (setRow_other _ _ _ _ hg).trans h
theorem own_ne24 {w : World} {b g : Nat} {v : Value} {xs : List Int} {cs : Array Value} (h : Own w b v xs) (hB : Blk w g 22 cs) (e : v.ownBlock = some g) : False := by
  rcases h.form with ⟨h1, _⟩ | ⟨g', cap, cur, h1, h2, h3, _⟩
  · rw [h1] at e; cases e
  · rw [h1] at e
    obtain rfl : g' = g := by cases e; rfl
    unfold Blk at hB h3
    rw [h3] at hB
    cases hB
attribute [local irreducible] wpList
set_option maxHeartbeats 8000000 in
set_option maxRecDepth 100000 in
theorem expand_err (w : World) (ks : List Int) (hk : ks.length = 32) (a : Option Addr) (n c : Nat) (v : Int) (hv : v < 0 ∨ 8160 < v) :
    Calls Tryd.prog 61 #[.agg (u8l ks).toArray, .slice a n c, .int .i64 v] w fun e w' => e = .returned (.tuple #[.slice none 0 0, .int .i64 1]) ∧ Below w.heap.size w w' := by
  have HKL := Lib.hid hk
  have HV := Lib.hid hv
  clear hk hv
  go_enter Tryd.func61, Tryd.ntmps61
  obtain ⟨w1, hw1⟩ : ∃ V, V = w.alloc (.cells (u8l ks).toArray 23) := ⟨_, rfl⟩
  have B1 : Hid (Below w.heap.size w w1) := Lib.hid (by rw [hw1]; exact (Below.refl _ _).alloc (Nat.le_refl _) _)
  go_upto_region 0 with (fail)
  refine wp_region_lit ?_
  refine wpL_value (.pointer (some ⟨w.heap.size, 0, none⟩)) (w1) rfl (run_box26 _ _ _ _ _ ks rfl rfl HKL.out hw1) ?_
  simp only [Act.put, List.setIfInBounds_toArray, List.set_cons_zero, List.set_cons_succ]
  refine wpL_pure (.slice none 0 0) rfl (by kernel_rfl) ?_
  simp only [Act.put, List.setIfInBounds_toArray, List.set_cons_zero, List.set_cons_succ]
  refine wpL_pure (.int .i64 0) rfl (by kernel_rfl) ?_
  simp only [Act.put, List.setIfInBounds_toArray, List.set_cons_zero, List.set_cons_succ]
  clear hw1
  by_cases h0 : v < 0
  · have H0 := Lib.hid h0
    clear h0
    go_upto_region 1 with (fail)
    refine wp_region_lit ?_
    refine wpL_pure (.int .i64 v) rfl (by kernel_rfl) ?_
    simp only [Act.put, List.setIfInBounds_toArray, List.set_cons_zero, List.set_cons_succ]
    refine wpL_pure (.bool true) rfl (run_lti Tryd.underlying3 rfl rfl rfl (by have := H0.out; rw [decide_eq_true_eq]; omega)) ?_
    simp only [Act.put, List.setIfInBounds_toArray, List.set_cons_zero, List.set_cons_succ]
    refine wpL_pure (.bool true) rfl (by kernel_rfl) ?_
    simp only [Act.put, List.setIfInBounds_toArray, List.set_cons_zero, List.set_cons_succ]
    refine wpL_skip (by kernel_rfl) ?_
    simp only [Act.put, List.setIfInBounds_toArray, List.set_cons_zero, List.set_cons_succ]
    refine wpL_skip (by kernel_rfl) ?_
    simp only [Act.put, List.setIfInBounds_toArray, List.set_cons_zero, List.set_cons_succ]
    refine wpL_pure (.bool true) rfl (by kernel_rfl) ?_
    simp only [Act.put, List.setIfInBounds_toArray, List.set_cons_zero, List.set_cons_succ]
    go_upto_region 2 with (fail)
    refine wp_region_lit ?_
    refine wpL_pure (.slice none 0 0) rfl (by kernel_rfl) ?_
    simp only [Act.put, List.setIfInBounds_toArray, List.set_cons_zero, List.set_cons_succ]
    refine wpL_pure (.int .i64 1) rfl (by kernel_rfl) ?_
    simp only [Act.put, List.setIfInBounds_toArray, List.set_cons_zero, List.set_cons_succ]
    go_wp2_with fail
    refine bodyPost_ret (v := .tuple #[.slice none 0 0, .int .i64 1]) (by kernel_rfl) rfl ?_
    exact ⟨rfl, B1.out⟩
  · have H0 := Lib.hid h0
    clear h0
    have H1 : Hid (8160 < v) := Lib.hid (by have := HV.out; have := H0.out; omega)
    go_upto_region 1 with (fail)
    refine wp_region_lit ?_
    refine wpL_pure (.int .i64 v) rfl (by kernel_rfl) ?_
    simp only [Act.put, List.setIfInBounds_toArray, List.set_cons_zero, List.set_cons_succ]
    refine wpL_pure (.bool false) rfl (run_lti Tryd.underlying3 rfl rfl rfl (by have := H0.out; rw [decide_eq_false_iff_not]; omega)) ?_
    simp only [Act.put, List.setIfInBounds_toArray, List.set_cons_zero, List.set_cons_succ]
    refine wpL_pure (.bool false) rfl (by kernel_rfl) ?_
    simp only [Act.put, List.setIfInBounds_toArray, List.set_cons_zero, List.set_cons_succ]
    refine wpL_pure (.int .i64 v) rfl (by kernel_rfl) ?_
    simp only [Act.put, List.setIfInBounds_toArray, List.set_cons_zero, List.set_cons_succ]
    refine wpL_pure (.bool true) rfl (run_gti Tryd.underlying3 rfl rfl rfl (by have := H1.out; rw [decide_eq_true_eq]; omega)) ?_
    simp only [Act.put, List.setIfInBounds_toArray, List.set_cons_zero, List.set_cons_succ]
    refine wpL_pure (.bool true) rfl (by kernel_rfl) ?_
    simp only [Act.put, List.setIfInBounds_toArray, List.set_cons_zero, List.set_cons_succ]
    go_upto_region 2 with (fail)
    refine wp_region_lit ?_
    refine wpL_pure (.slice none 0 0) rfl (by kernel_rfl) ?_
    simp only [Act.put, List.setIfInBounds_toArray, List.set_cons_zero, List.set_cons_succ]
    refine wpL_pure (.int .i64 1) rfl (by kernel_rfl) ?_
    simp only [Act.put, List.setIfInBounds_toArray, List.set_cons_zero, List.set_cons_succ]
    go_wp2_with fail
    refine bodyPost_ret (v := .tuple #[.slice none 0 0, .int .i64 1]) (by kernel_rfl) rfl ?_
    exact ⟨rfl, B1.out⟩
set_option maxHeartbeats 8000000 in
set_option maxRecDepth 100000 in
/-- hash.Derive. -/
theorem derive_any (w : World) (ks bs : List Int) (hk : ks.length = 32) (hkb : ∀ x ∈ ks, 0 ≤ x ∧ x ≤ 255) (hb : ∀ x ∈ bs, 0 ≤ x ∧ x ≤ 255) (hn : bs.length ≤ 100000) (hT : TabK w) (hH : TabH w) :
    Calls Tryd.prog 24 #[.agg (u8l ks).toArray, .string (strOfNums bs)] w fun e w' => e = .returned (.agg (u8l (macS ks (bs ++ [1]))).toArray) ∧ Below w.heap.size w w' := by
  have HKL := Lib.hid hk
  have HKB := Lib.hid hkb
  have HB := Lib.hid hb
  have HBL := Lib.hid hn
  have HT := Lib.hid hT
  have HH := Lib.hid hH
  clear hk hkb hb hn hT hH
  go_enter Tryd.func24, Tryd.ntmps24
  obtain ⟨w1, hw1⟩ : ∃ V, V = w.alloc (.cells (u8l ks).toArray 23) := ⟨_, rfl⟩
  obtain ⟨w2, hw2⟩ : ∃ V, V = w1.alloc (.cells (u8l (List.replicate 32 0)).toArray 23) := ⟨_, rfl⟩
  have B2 : Hid (Blk w2 w.heap.size 23 (u8l ks).toArray ∧ Blk w2 w1.heap.size 23 (u8l (List.replicate 32 0)).toArray ∧ Below w.heap.size w w2 ∧ w.heap.size < w1.heap.size ∧ w1.heap.size < w2.heap.size) := Lib.hid (by
    have q1 : Below w.heap.size w w1 := by rw [hw1]; exact (Below.refl _ _).alloc (Nat.le_refl _) _
    have q2 : Below w1.heap.size w1 w2 := by rw [hw2]; exact (Below.refl _ _).alloc (Nat.le_refl _) _
    have b1 : Blk w1 w.heap.size 23 (u8l ks).toArray := by rw [hw1]; exact Blk.new _ _ _
    exact ⟨b1.below q2, by rw [hw2]; exact Blk.new _ _ _, q1.trans (q2.mono q1.size), b1.lt, by rw [hw2]; simp⟩)
  go_upto_region 0 with (fail)
  refine wp_region_lit ?_
  refine wpL_value (.pointer (some ⟨w.heap.size, 0, none⟩)) (w1) rfl (run_box26 _ _ _ _ _ ks rfl rfl HKL.out hw1) ?_
  simp only [Act.put, List.setIfInBounds_toArray, List.set_cons_zero, List.set_cons_succ]
  refine wpL_value (.pointer (some ⟨w1.heap.size, 0, none⟩)) (w2) rfl (by rw [hw2]; kernel_rfl) ?_
  simp only [Act.put, List.setIfInBounds_toArray, List.set_cons_zero, List.set_cons_succ]
  clear hw1 hw2
  obtain ⟨g2, h2⟩ : ∃ q, w.heap.size = q := ⟨_, rfl⟩
  have G2 : Hid (w.heap.size = g2) := Lib.hid h2
  rw [h2] at B2
  try rw [h2]
  clear h2
  generalize w1.heap.size = g4 at B2 ⊢
  obtain ⟨sa, sc, w3, r1, r2, r3⟩ := conv_bytes w2 bs HB.out HBL.out
  have CV := Lib.hid r1
  have B3 : Hid (Blk w3 g2 23 (u8l ks).toArray ∧ Blk w3 g4 23 (u8l (List.replicate 32 0)).toArray ∧ Below g2 w w3 ∧ Sl w3 sa bs.length sc bs) := Lib.hid ⟨B2.out.1.below r3, B2.out.2.1.below r3, B2.out.2.2.1.trans (r3.mono (by have := B2.out.2.2.2; omega)), r2⟩
  clear r1 r2 r3
  obtain ⟨w4, hw4⟩ : ∃ V, V = w3.alloc (.cells #[.int .u8 1] 5) := ⟨_, rfl⟩
  obtain ⟨w5, hw5⟩ : ∃ V, V = w4.alloc (.cells #[.slice sa bs.length sc, .slice (some ⟨w3.heap.size, 0, none⟩) 1 1] 32) := ⟨_, rfl⟩
  have B5 : Hid (Blk w5 g2 23 (u8l ks).toArray ∧ Blk w5 g4 23 (u8l (List.replicate 32 0)).toArray ∧ Below g2 w w5 ∧ PSl w5 (some ⟨w4.heap.size, 0, none⟩) 2 [bs, [1]]) := Lib.hid (by
    have q1 : Below w3.heap.size w3 w4 := by rw [hw4]; exact (Below.refl _ _).alloc (Nat.le_refl _) _
    have q2 : Below w4.heap.size w4 w5 := by rw [hw5]; exact (Below.refl _ _).alloc (Nat.le_refl _) _
    have q : Below w3.heap.size w3 w5 := q1.trans (q2.mono q1.size)
    exact ⟨B3.out.1.below q, B3.out.2.1.below q, B3.out.2.2.1.trans (q.mono (by have := B3.out.1.lt; omega)), psl_two (by rw [hw5]; exact Blk.new _ _ _) (B3.out.2.2.2.below q) (Sl.below (by rw [hw4]; exact sl_one w3 (by omega)) q2) (by have := HBL.out; omega) (by omega)⟩)
  go_upto_region 1 with (fail)
  refine wp_region_lit ?_
  refine wpL_pure (.slice (some ⟨g2, 0, none⟩) 32 32) rfl (by kernel_rfl) ?_
  simp only [Act.put, List.setIfInBounds_toArray, List.set_cons_zero, List.set_cons_succ]
  refine wpL_pure (.string (strOfNums bs)) rfl (by kernel_rfl) ?_
  simp only [Act.put, List.setIfInBounds_toArray, List.set_cons_zero, List.set_cons_succ]
  refine wpL_value (.slice sa bs.length sc) (w3) rfl (run_cvb _ _ _ _ _ _ _ rfl rfl CV.out) ?_
  simp only [Act.put, List.setIfInBounds_toArray, List.set_cons_zero, List.set_cons_succ]
  refine wpL_value (.slice (some ⟨w3.heap.size, 0, none⟩) 1 1) (w4) rfl (by rw [hw4]; kernel_rfl) ?_
  simp only [Act.put, List.setIfInBounds_toArray, List.set_cons_zero, List.set_cons_succ]
  refine wpL_value (.slice (some ⟨w4.heap.size, 0, none⟩) 2 2) (w5) rfl (by rw [hw5]; kernel_rfl) ?_
  simp only [Act.put, List.setIfInBounds_toArray, List.set_cons_zero, List.set_cons_succ]
  refine wpL_call 38 #[.slice (some ⟨g2, 0, none⟩) 32 32, .slice (some ⟨w4.heap.size, 0, none⟩) 2 2] rfl (by kernel_rfl) (((mac_any w5 (some ⟨g2, 0, none⟩) 32 32 ks (some ⟨w4.heap.size, 0, none⟩) 2 2 [bs, [1]] (sl_blk B5.out.1 HKL.out HKB.out (by omega)) (by omega) B5.out.2.2.2 (by omega) (HT.out.below (by rw [G2.out]; exact B5.out.2.2.1)) (HH.out.below (by rw [G2.out]; exact B5.out.2.2.1)))).mono fun e w6 ⟨he, hb⟩ => ⟨.agg (u8l (macS ks (bs ++ [1]))).toArray, (he.trans (by simp)), ?_⟩)
  simp only [Act.put, List.setIfInBounds_toArray, List.set_cons_zero, List.set_cons_succ]
  have B6 : Hid (Blk w6 g4 23 (u8l (List.replicate 32 0)).toArray ∧ Below g2 w w6) := Lib.hid ⟨B5.out.2.1.below hb, B5.out.2.2.1.trans (hb.mono (by have := B5.out.1.lt; omega))⟩
  clear hb
  refine wpList_store_rowTo rfl 23 _ _ rfl rfl g4 (u8l (macS ks (bs ++ [1]))).toArray rfl rfl 23 _ B6.out.1 (by simp only [List.size_toArray, u8l_len, macS_len]; kernel_rfl) (by simp [u8l_len, macS_len]) (u8l_one _) ?_
  go_wp2_with fail
  refine bodyPost_ret (results_cell_row rfl _ _ g4 23 _ (0, 0) _ rfl (setRow_heap _ _ _ _ _ _ B6.out.1) Tryd.underlying23 rfl (by simp only [List.size_toArray, u8l_len, macS_len]; kernel_rfl)) rfl ?_
  exact ⟨rfl, by rw [G2.out]; exact below_setRow B6.out.2 (by have := B2.out.2.2.2; omega) _⟩
set_option maxHeartbeats 8000000 in
set_option maxRecDepth 100000 in
/-- the reference's Expand. -/
theorem refexpand_any (w : World) (ks : List Int) (hk : ks.length = 32) (hkb : ∀ x ∈ ks, 0 ≤ x ∧ x ≤ 255) (a : Option Addr) (n c : Nat) (info : List Int) (hi : Sl w a n c info) (hn : n ≤ 10000) (m : Nat) (hm : m ≤ 8160) (hTW : TabW w) :
    Calls Tryd.prog 39 #[.agg (u8l ks).toArray, .slice a n c, .int .i64 (m : Int)] w fun e w' => ∃ va vc, e = .returned (.slice va m vc) ∧ Sl w' va m vc (expS ks info m) ∧ Below w.heap.size w w' ∧ ∀ p, va = some p → w.heap.size ≤ p.block := by
  have HKL := Lib.hid hk
  have HKB := Lib.hid hkb
  have HI := Lib.hid hi
  have HN := Lib.hid hn
  have HM := Lib.hid hm
  have HW := Lib.hid hTW
  clear hk hkb hi hn hm hTW
  go_enter Tryd.func39, Tryd.ntmps39
  obtain ⟨w1, hw1⟩ : ∃ V, V = w.alloc (.cells (u8l ks).toArray 22) := ⟨_, rfl⟩
  have B1 : Hid (Blk w1 w.heap.size 22 (u8l ks).toArray ∧ Below w.heap.size w w1 ∧ w.heap.size < w1.heap.size) := Lib.hid (by rw [hw1]; exact ⟨Blk.new _ _ _, (Below.refl _ _).alloc (Nat.le_refl _) _, by simp⟩)
  go_upto_region 0 with (fail)
  refine wp_region_lit ?_
  refine wpL_value (.pointer (some ⟨w.heap.size, 0, none⟩)) (w1) rfl (run_box24 _ _ _ _ _ ks rfl rfl HKL.out hw1) ?_
  simp only [Act.put, List.setIfInBounds_toArray, List.set_cons_zero, List.set_cons_succ]
  refine wpL_pure (.slice none 0 0) rfl (by kernel_rfl) ?_
  simp only [Act.put, List.setIfInBounds_toArray, List.set_cons_zero, List.set_cons_succ]
  clear hw1
  obtain ⟨g3, h3⟩ : ∃ q, w.heap.size = q := ⟨_, rfl⟩
  have G3 : Hid (w.heap.size = g3) := Lib.hid h3
  rw [h3] at B1
  try rw [h3]
  clear h3
  go_upto_region 1 with (fail)
  refine wp_region_lit ?_
  refine wpL_pure (.slice none 0 0) rfl (by kernel_rfl) ?_
  simp only [Act.put, List.setIfInBounds_toArray, List.set_cons_zero, List.set_cons_succ]
  refine wpL_pure (.slice none 0 0) rfl (by kernel_rfl) ?_
  simp only [Act.put, List.setIfInBounds_toArray, List.set_cons_zero, List.set_cons_succ]
  go_upto_region 2 with (fail)
  refine wp_region_lit ?_
  refine wpL_pure (.int .i64 1) rfl (by kernel_rfl) ?_
  simp only [Act.put, List.setIfInBounds_toArray, List.set_cons_zero, List.set_cons_succ]
  go_wp2_with fail
  go_loopw [7, 8, 9] (fun s7 s8 s9 wr => ∃ (k : Nat) (va : Option Addr) (vc : Nat) (la : Option Addr) (ln lc : Nat), s7 = .slice va (32 * k) vc ∧ s8 = .slice la ln lc ∧ s9 = .int .i64 ((k + 1 : Nat) : Int) ∧ Hid (32 * k < m + 32 ∧ Own wr (g3 + 1) (.slice va (32 * k) vc) (expN ks info k).1 ∧ Below g3 w wr ∧ Sl wr la ln lc (expN ks info k).2 ∧ ln ≤ 32 ∧ Blk wr g3 22 (u8l ks).toArray)) (fun s7 _ _ _ => m + 32 - lenOf s7)
  case atStart => exact ⟨0, none, 0, none, 0, 0, rfl, rfl, rfl, Lib.hid ⟨by omega, Own.nil _ _, B1.out.2.1, sl_nil _, by omega, B1.out.1⟩⟩
  case round =>
    obtain ⟨k, va, vc, la, ln, lc, rfl, rfl, rfl, RI⟩ := hrel
    by_cases hlt : 32 * k < m
    · have HK := Lib.hid hlt
      clear hlt
      go_upto_region 3 with (fail)
      refine wp_region_lit ?_
      refine wpL_pure (.slice va (32 * k) vc) rfl (by kernel_rfl) ?_
      simp only [Act.put, List.setIfInBounds_toArray, List.set_cons_zero, List.set_cons_succ]
      refine wpL_pure (.int .i64 ((32 * k : Nat) : Int)) rfl (by kernel_rfl) ?_
      simp only [Act.put, List.setIfInBounds_toArray, List.set_cons_zero, List.set_cons_succ]
      refine wpL_pure (.int .i64 (m : Int)) rfl (by kernel_rfl) ?_
      simp only [Act.put, List.setIfInBounds_toArray, List.set_cons_zero, List.set_cons_succ]
      refine wpL_pure (.bool true) rfl (run_lti Tryd.underlying3 rfl rfl rfl (by have := HK.out; rw [decide_eq_true_eq]; omega)) ?_
      simp only [Act.put, List.setIfInBounds_toArray, List.set_cons_zero, List.set_cons_succ]
      have A0 : Hid (Below g3 w wr.drew ∧ Blk wr.drew g3 22 (u8l ks).toArray ∧ Own wr.drew (g3 + 1) (.slice va (32 * k) vc) (expN ks info k).1 ∧ Sl wr.drew la ln lc (expN ks info k).2) := Lib.hid ⟨RI.out.2.2.1.drew, RI.out.2.2.2.2.2, RI.out.2.1.drew, RI.out.2.2.2.1⟩
      obtain ⟨mb, hmb⟩ : ∃ q, macS ks (List.flatten [(expN ks info k).2, info, [(((k + 1) % 256 : Nat) : Int)]]) = q := ⟨_, rfl⟩
      have EN : Hid ((expN ks info (k + 1)).1 = (expN ks info k).1 ++ mb ∧ (expN ks info (k + 1)).2 = mb ∧ mb.length = 32 ∧ ∀ x ∈ mb, 0 ≤ x ∧ x ≤ 255) := Lib.hid (by subst hmb; exact ⟨by simp [expN], by simp [expN], macS_len _ _, macS_byte _ _⟩)
      have HMB := Lib.hid hmb
      clear hmb
      go_upto_region 5 with (fail)
      refine region_any (by kernel_rfl) 11 rfl ?_
      refine wpAny_take (i := 0) (oi := ⟨some 17, _, _, _, _, _⟩) (v := (.slice (some ⟨g3, 0, none⟩) 32 32)) rfl (by kernel_rfl) (by kernel_rfl) (by kernel_rfl) (fun _ _ _ h => h) (Or.inl ⟨rfl, fun w => by kernel_rfl⟩) ?_
      simp only [Act.put, List.setIfInBounds_toArray, List.set_cons_zero, List.set_cons_succ]
      refine wpAny_take (i := 1) (oi := ⟨some 18, _, _, _, _, _⟩) (v := (.slice la ln lc)) rfl (by kernel_rfl) (by kernel_rfl) (by kernel_rfl) (fun _ _ _ h => h) (Or.inl ⟨rfl, fun w => by kernel_rfl⟩) ?_
      simp only [Act.put, List.setIfInBounds_toArray, List.set_cons_zero, List.set_cons_succ]
      refine wpAny_take (i := 2) (oi := ⟨some 19, _, _, _, _, _⟩) (v := (.slice a n c)) rfl (by kernel_rfl) (by kernel_rfl) (by kernel_rfl) (fun _ _ _ h => h) (Or.inl ⟨rfl, fun w => by kernel_rfl⟩) ?_
      simp only [Act.put, List.setIfInBounds_toArray, List.set_cons_zero, List.set_cons_succ]
      refine wpAny_take (i := 3) (oi := ⟨some 20, _, _, _, _, _⟩) (v := (.int .i64 ((k + 1 : Nat) : Int))) rfl (by kernel_rfl) (by kernel_rfl) (by kernel_rfl) (fun _ _ _ h => h) (Or.inl ⟨rfl, fun w => by kernel_rfl⟩) ?_
      simp only [Act.put, List.setIfInBounds_toArray, List.set_cons_zero, List.set_cons_succ]
      refine wpAny_take (i := 4) (oi := ⟨some 21, _, _, _, _, _⟩) (v := (.int .u8 (((k + 1) % 256 : Nat) : Int))) rfl (by kernel_rfl) (by kernel_rfl) (by kernel_rfl) (fun _ _ _ h => h) (Or.inl ⟨rfl, fun w => run_convi Tryd.underlying3 Tryd.underlying5 rfl rfl _ (by rw [IntKind.wrap_u8]; omega)⟩) ?_
      simp only [Act.put, List.setIfInBounds_toArray, List.set_cons_zero, List.set_cons_succ]
      refine wpAny_all (rs := [5, 9]) (by kernel_rfl) (by simp) ?_
      intro i hi
      simp only [List.mem_cons, List.not_mem_nil, or_false] at hi
      rcases hi with rfl | rfl
      · obtain ⟨z1, hz1⟩ : ∃ V, V = wr.drew.alloc (.cells #[.int .u8 (((k + 1) % 256 : Nat) : Int)] 5) := ⟨_, rfl⟩
        obtain ⟨gz1, kz1⟩ : ∃ q, wr.drew.heap.size = q := ⟨_, rfl⟩
        have qz1 : Below wr.drew.heap.size wr.drew z1 := by rw [hz1]; exact (Below.refl _ _).alloc (Nat.le_refl _) _
        have bz1 : Blk z1 gz1 5 #[.int .u8 (((k + 1) % 256 : Nat) : Int)] := by rw [hz1, ← kz1]; exact Blk.new _ _ _
        have Fz10 := Lib.hid (show Below g3 w z1 ∧ Blk z1 g3 22 (u8l ks).toArray ∧ Own z1 (g3 + 1) (.slice va (32 * k) vc) (expN ks info k).1 ∧ Sl z1 la ln lc (expN ks info k).2 from ⟨A0.out.1.trans (qz1.mono (by have := (A0.out.2.1).lt; omega)), A0.out.2.1.below qz1, A0.out.2.2.1.below qz1, A0.out.2.2.2.below qz1⟩)
        have Fz1 := Lib.hid (show Below g3 w z1 ∧ Blk z1 g3 22 (u8l ks).toArray ∧ Own z1 (g3 + 1) (.slice va (32 * k) vc) (expN ks info k).1 ∧ Sl z1 la ln lc (expN ks info k).2 ∧ Sl z1 (some ⟨gz1, 0, none⟩) 1 1 [(((k + 1) % 256 : Nat) : Int)] from ⟨Fz10.out.1, Fz10.out.2.1, Fz10.out.2.2.1, Fz10.out.2.2.2, sl_blk (xs := [(((k + 1) % 256 : Nat) : Int)]) bz1 rfl (by intro x hx; simp at hx; omega) (by omega)⟩)
        clear qz1 bz1 Fz10
        refine op_valw (o := ⟨some 22, _, _, _, _, _⟩) (.slice (some ⟨gz1, 0, none⟩) 1 1) z1 rfl rfl (by rw [hz1, ← kz1]; kernel_rfl) ?_
        simp only [Act.put, List.setIfInBounds_toArray, List.set_cons_zero, List.set_cons_succ]
        clear hz1 kz1
        refine wpAny_all (rs := [6, 9]) (by kernel_rfl) (by simp) ?_
        intro i hi
        simp only [List.mem_cons, List.not_mem_nil, or_false] at hi
        rcases hi with rfl | rfl
        · obtain ⟨z2, hz2⟩ : ∃ V, V = z1.alloc (.cells #[.slice la ln lc, .slice a n c, .slice (some ⟨gz1, 0, none⟩) 1 1] 32) := ⟨_, rfl⟩
          obtain ⟨gz2, kz2⟩ : ∃ q, z1.heap.size = q := ⟨_, rfl⟩
          have qz2 : Below z1.heap.size z1 z2 := by rw [hz2]; exact (Below.refl _ _).alloc (Nat.le_refl _) _
          have bz2 : Blk z2 gz2 32 #[.slice la ln lc, .slice a n c, .slice (some ⟨gz1, 0, none⟩) 1 1] := by rw [hz2, ← kz2]; exact Blk.new _ _ _
          have Fz20 := Lib.hid (show Below g3 w z2 ∧ Blk z2 g3 22 (u8l ks).toArray ∧ Own z2 (g3 + 1) (.slice va (32 * k) vc) (expN ks info k).1 ∧ Sl z2 la ln lc (expN ks info k).2 ∧ Sl z2 (some ⟨gz1, 0, none⟩) 1 1 [(((k + 1) % 256 : Nat) : Int)] from ⟨Fz1.out.1.trans (qz2.mono (by have := (Fz1.out.2.1).lt; omega)), Fz1.out.2.1.below qz2, Fz1.out.2.2.1.below qz2, Fz1.out.2.2.2.1.below qz2, Fz1.out.2.2.2.2.below qz2⟩)
          have Fz2 := Lib.hid (show Below g3 w z2 ∧ Blk z2 g3 22 (u8l ks).toArray ∧ Own z2 (g3 + 1) (.slice va (32 * k) vc) (expN ks info k).1 ∧ Sl z2 la ln lc (expN ks info k).2 ∧ Sl z2 (some ⟨gz1, 0, none⟩) 1 1 [(((k + 1) % 256 : Nat) : Int)] ∧ PSl z2 (some ⟨gz2, 0, none⟩) 3 [(expN ks info k).2, info, [(((k + 1) % 256 : Nat) : Int)]] from ⟨Fz20.out.1, Fz20.out.2.1, Fz20.out.2.2.1, Fz20.out.2.2.2.1, Fz20.out.2.2.2.2, psl_three bz2 Fz20.out.2.2.2.1 (HI.out.below (by rw [G3.out]; exact Fz20.out.1)) Fz20.out.2.2.2.2 (by have := RI.out.2.2.2.2.1; omega) (by have := HN.out; omega) (by omega)⟩)
          clear qz2 bz2 Fz20
          refine op_valw (o := ⟨some 23, _, _, _, _, _⟩) (.slice (some ⟨gz2, 0, none⟩) 3 3) z2 rfl rfl (by rw [hz2, ← kz2]; kernel_rfl) ?_
          simp only [Act.put, List.setIfInBounds_toArray, List.set_cons_zero, List.set_cons_succ]
          clear hz2 kz2
          refine wpAny_all (rs := [7, 9]) (by kernel_rfl) (by simp) ?_
          intro i hi
          simp only [List.mem_cons, List.not_mem_nil, or_false] at hi
          rcases hi with rfl | rfl
          · refine op_call (o := ⟨some 24, _, _, _, _, _⟩) 52 #[.slice (some ⟨gz2, 0, none⟩) 3 3] rfl rfl (by kernel_rfl) (((joined_sl z2 (some ⟨gz2, 0, none⟩) 3 3 [(expN ks info k).2, info, [(((k + 1) % 256 : Nat) : Int)]] Fz2.out.2.2.2.2.2 (by omega) (by have := HN.out; have := HI.out.1.1; have := RI.out.2.2.2.2.1; have := RI.out.2.2.2.1.1.1; simp; omega))).mono fun e z3 ⟨az3, cz3, he, sz3, qz3⟩ => ⟨.slice az3 (List.flatten [(expN ks info k).2, info, [(((k + 1) % 256 : Nat) : Int)]]).length cz3, he, ?_⟩)
            simp only [Act.put, List.setIfInBounds_toArray, List.set_cons_zero, List.set_cons_succ]
            have Fz3 := Lib.hid (show Below g3 w z3 ∧ Blk z3 g3 22 (u8l ks).toArray ∧ Own z3 (g3 + 1) (.slice va (32 * k) vc) (expN ks info k).1 ∧ Sl z3 la ln lc (expN ks info k).2 ∧ Sl z3 (some ⟨gz1, 0, none⟩) 1 1 [(((k + 1) % 256 : Nat) : Int)] ∧ PSl z3 (some ⟨gz2, 0, none⟩) 3 [(expN ks info k).2, info, [(((k + 1) % 256 : Nat) : Int)]] ∧ Sl z3 az3 (List.flatten [(expN ks info k).2, info, [(((k + 1) % 256 : Nat) : Int)]]).length cz3 (List.flatten [(expN ks info k).2, info, [(((k + 1) % 256 : Nat) : Int)]]) from ⟨Fz2.out.1.trans (qz3.mono (by have := (Fz2.out.2.1).lt; omega)), Fz2.out.2.1.below qz3, Fz2.out.2.2.1.below qz3, Fz2.out.2.2.2.1.below qz3, Fz2.out.2.2.2.2.1.below qz3, Fz2.out.2.2.2.2.2.below qz3, sz3⟩)
            clear qz3
            refine wpAny_all (rs := [8, 9]) (by kernel_rfl) (by simp) ?_
            intro i hi
            simp only [List.mem_cons, List.not_mem_nil, or_false] at hi
            rcases hi with rfl | rfl
            · refine op_call (o := ⟨some 25, _, _, _, _, _⟩) 51 #[.slice (some ⟨g3, 0, none⟩) 32 32, .slice az3 (List.flatten [(expN ks info k).2, info, [(((k + 1) % 256 : Nat) : Int)]]).length cz3] rfl rfl (by kernel_rfl) (((refmac_any z3 (some ⟨g3, 0, none⟩) 32 32 ks az3 (List.flatten [(expN ks info k).2, info, [(((k + 1) % 256 : Nat) : Int)]]).length cz3 (List.flatten [(expN ks info k).2, info, [(((k + 1) % 256 : Nat) : Int)]]) (sl_blk Fz3.out.2.1 HKL.out HKB.out (by omega)) (by omega) Fz3.out.2.2.2.2.2.2 (by have := HN.out; have := HI.out.1.1; have := RI.out.2.2.2.2.1; have := RI.out.2.2.2.1.1.1; simp; omega) (HW.out.below (by rw [G3.out]; exact Fz3.out.1)))).mono fun e z4 ⟨he, qz4⟩ => ⟨.agg (u8l mb).toArray, (he.trans (by rw [HMB.out])), ?_⟩)
              simp only [Act.put, List.setIfInBounds_toArray, List.set_cons_zero, List.set_cons_succ]
              have Fz4 := Lib.hid (show Below g3 w z4 ∧ Blk z4 g3 22 (u8l ks).toArray ∧ Own z4 (g3 + 1) (.slice va (32 * k) vc) (expN ks info k).1 ∧ Sl z4 la ln lc (expN ks info k).2 ∧ Sl z4 (some ⟨gz1, 0, none⟩) 1 1 [(((k + 1) % 256 : Nat) : Int)] ∧ PSl z4 (some ⟨gz2, 0, none⟩) 3 [(expN ks info k).2, info, [(((k + 1) % 256 : Nat) : Int)]] ∧ Sl z4 az3 (List.flatten [(expN ks info k).2, info, [(((k + 1) % 256 : Nat) : Int)]]).length cz3 (List.flatten [(expN ks info k).2, info, [(((k + 1) % 256 : Nat) : Int)]]) from ⟨Fz3.out.1.trans (qz4.mono (by have := (Fz3.out.2.1).lt; omega)), Fz3.out.2.1.below qz4, Fz3.out.2.2.1.below qz4, Fz3.out.2.2.2.1.below qz4, Fz3.out.2.2.2.2.1.below qz4, Fz3.out.2.2.2.2.2.1.below qz4, Fz3.out.2.2.2.2.2.2.below qz4⟩)
              clear qz4
              refine wpAny_all (rs := [9]) (by kernel_rfl) (by simp) ?_
              intro i hi
              simp only [List.mem_cons, List.not_mem_nil, or_false] at hi
              subst hi
              obtain ⟨z5, hz5⟩ : ∃ V, V = z4.alloc (.cells (u8l (List.replicate 32 0)).toArray 22) := ⟨_, rfl⟩
              obtain ⟨gz5, kz5⟩ : ∃ q, z4.heap.size = q := ⟨_, rfl⟩
              have qz5 : Below z4.heap.size z4 z5 := by rw [hz5]; exact (Below.refl _ _).alloc (Nat.le_refl _) _
              have bz5 : Blk z5 gz5 22 (u8l (List.replicate 32 0)).toArray := by rw [hz5, ← kz5]; exact Blk.new _ _ _
              have Fz5 := Lib.hid (show Below g3 w z5 ∧ Blk z5 g3 22 (u8l ks).toArray ∧ Own z5 (g3 + 1) (.slice va (32 * k) vc) (expN ks info k).1 ∧ Sl z5 la ln lc (expN ks info k).2 ∧ Sl z5 (some ⟨gz1, 0, none⟩) 1 1 [(((k + 1) % 256 : Nat) : Int)] ∧ PSl z5 (some ⟨gz2, 0, none⟩) 3 [(expN ks info k).2, info, [(((k + 1) % 256 : Nat) : Int)]] ∧ Sl z5 az3 (List.flatten [(expN ks info k).2, info, [(((k + 1) % 256 : Nat) : Int)]]).length cz3 (List.flatten [(expN ks info k).2, info, [(((k + 1) % 256 : Nat) : Int)]]) ∧ (Blk z5 gz5 22 (u8l (List.replicate 32 0)).toArray ∧ g3 < gz5) from ⟨Fz4.out.1.trans (qz5.mono (by have := (Fz4.out.2.1).lt; omega)), Fz4.out.2.1.below qz5, Fz4.out.2.2.1.below qz5, Fz4.out.2.2.2.1.below qz5, Fz4.out.2.2.2.2.1.below qz5, Fz4.out.2.2.2.2.2.1.below qz5, Fz4.out.2.2.2.2.2.2.below qz5, ⟨bz5, by have h1 := (Fz4.out.2.1).lt; omega⟩⟩)
              clear qz5 bz5
              refine op_valw (o := ⟨some 10, _, _, _, _, _⟩) (.pointer (some ⟨gz5, 0, none⟩)) z5 rfl rfl (by rw [hz5, ← kz5]; kernel_rfl) ?_
              simp only [Act.put, List.setIfInBounds_toArray, List.set_cons_zero, List.set_cons_succ]
              clear hz5 kz5
              refine wpAny_of_idx [10] [_] _ _ _ (by rfl) (by kernel_rfl) ?_
              obtain ⟨x4, hx4⟩ : ∃ V, V = z5.setRow gz5 (u8l mb).toArray := ⟨_, rfl⟩
              have gl : g3 < gz5 := Fz5.out.2.2.2.2.2.2.2.2
              have GL := Lib.hid gl
              have bw : Below g3 w x4 := by rw [hx4]; exact below_setRow Fz5.out.1 (by omega) _
              have X4 : Hid (Own x4 (g3 + 1) (.slice va (32 * k) vc) (expN ks info k).1 ∧ Below g3 w x4 ∧ Blk x4 g3 22 (u8l ks).toArray ∧ Blk x4 gz5 22 (u8l mb).toArray) := Lib.hid ⟨by rw [hx4]; exact own_setRow Fz5.out.2.2.1 (fun e => own_ne24 Fz5.out.2.2.1 Fz5.out.2.2.2.2.2.2.2.1 e), bw, by rw [hx4]; exact blk_setRow Fz5.out.2.1 (by omega), by rw [hx4]; exact setRow_heap _ _ _ _ _ _ Fz5.out.2.2.2.2.2.2.2.1⟩
              clear bw gl
              refine wpList_store_rowTo rfl 22 _ _ rfl rfl gz5 (u8l mb).toArray rfl rfl 22 _ Fz5.out.2.2.2.2.2.2.2.1 (by simp only [List.size_toArray, u8l_len, EN.out.2.2.1]; kernel_rfl) (by simp [u8l_len, EN.out.2.2.1]) (u8l_one _) ?_
              rw [← hx4]
              clear hx4
              go_upto_region 6 with (fail)
              refine wp_region_lit ?_
              refine wpL_pure (.slice (some ⟨gz5, 0, none⟩) 32 32) rfl (by kernel_rfl) ?_
              simp only [Act.put, List.setIfInBounds_toArray, List.set_cons_zero, List.set_cons_succ]
              refine wpL_pure (.slice (some ⟨gz5, 0, none⟩) 32 32) rfl (by kernel_rfl) ?_
              simp only [Act.put, List.setIfInBounds_toArray, List.set_cons_zero, List.set_cons_succ]
              obtain ⟨v2, x5, r1, r2, r3, r4, r5⟩ := append_own x4 (g3 + 1) (.slice va (32 * k) vc) (expN ks info k).1 mb (some ⟨gz5, 0, none⟩) 32 32 X4.out.1 (sl_blk X4.out.2.2.2 EN.out.2.2.1 EN.out.2.2.2 (by omega)).1 (by have := own_len X4.out.1; have := HK.out; have := HM.out; omega) (by have := X4.out.2.2.1.lt; omega)
              obtain ⟨ga, ca, ev, _⟩ := own_sl r2
              have EL : ((expN ks info k).1 ++ mb).length = 32 * (k + 1) := by rw [List.length_append, EN.out.2.2.1, own_len X4.out.1]; omega
              rw [EL] at ev
              subst ev
              have AP := Lib.hid r1
              have NX : Hid (32 * (k + 1) < m + 32 ∧ Own x5 (g3 + 1) (.slice ga (32 * (k + 1)) ca) (expN ks info (k + 1)).1 ∧ Below g3 w x5 ∧ Sl x5 (some ⟨gz5, 0, none⟩) 32 32 (expN ks info (k + 1)).2 ∧ 32 ≤ 32 ∧ Blk x5 g3 22 (u8l ks).toArray) := Lib.hid ⟨by have := HK.out; omega, by rw [EN.out.1]; exact r2, X4.out.2.1.trans (gb_own (X4.out.1.mono (Nat.le_succ _)) r3 (by have := X4.out.2.2.1.lt; omega)), by rw [EN.out.2.1]; exact sl_blk (X4.out.2.2.2.grown r3 (fun e => own_ne24 X4.out.1 X4.out.2.2.2 e.symm)) EN.out.2.2.1 EN.out.2.2.2 (by omega), by omega, X4.out.2.2.1.grown r3 (fun e => by have := (X4.out.1).lt g3 e.symm; omega)⟩
              clear r1 r2 r3 r4 r5 EL
              go_upto_region 7 with (fail)
              refine wp_region_lit ?_
              refine wpL_pure (.slice va (32 * k) vc) rfl (by kernel_rfl) ?_
              simp only [Act.put, List.setIfInBounds_toArray, List.set_cons_zero, List.set_cons_succ]
              refine wpL_pure (.slice (some ⟨gz5, 0, none⟩) 32 32) rfl (by kernel_rfl) ?_
              simp only [Act.put, List.setIfInBounds_toArray, List.set_cons_zero, List.set_cons_succ]
              refine wpL_value (.slice ga (32 * (k + 1)) ca) (x5) rfl (run_app _ _ _ _ _ _ _ _ _ rfl rfl rfl rfl AP.out) ?_
              simp only [Act.put, List.setIfInBounds_toArray, List.set_cons_zero, List.set_cons_succ]
              refine wpL_pure (.slice ga (32 * (k + 1)) ca) rfl (by kernel_rfl) ?_
              simp only [Act.put, List.setIfInBounds_toArray, List.set_cons_zero, List.set_cons_succ]
              go_upto_region 4 with (fail)
              refine wp_region_lit ?_
              refine wpL_pure (.int .i64 ((k + 1 : Nat) : Int)) rfl (by kernel_rfl) ?_
              simp only [Act.put, List.setIfInBounds_toArray, List.set_cons_zero, List.set_cons_succ]
              refine wpL_pure (.int .i64 ((k + 1 + 1 : Nat) : Int)) rfl (run_addi Tryd.underlying3 rfl rfl rfl _ (by have := HK.out; have := HM.out; rw [wrap_in _ (by omega) (by omega)]; omega)) ?_
              simp only [Act.put, List.setIfInBounds_toArray, List.set_cons_zero, List.set_cons_succ]
              refine wpL_pure (.int .i64 ((k + 1 + 1 : Nat) : Int)) rfl (by kernel_rfl) ?_
              simp only [Act.put, List.setIfInBounds_toArray, List.set_cons_zero, List.set_cons_succ]
              unfold wpList
              go_roundw
              case rel => first | exact ⟨k + 1, _, _, _, _, _, rfl, rfl, rfl, NX⟩ | ((repeat apply Exists.intro); exact ⟨⟨k + 1, _, _, _, _, _, rfl, rfl, rfl, NX⟩, rfl⟩)
              case measure => simp [lenOf]; have := HK.out; omega
            · obtain ⟨z6, hz6⟩ : ∃ V, V = z3.alloc (.cells (u8l (List.replicate 32 0)).toArray 22) := ⟨_, rfl⟩
              obtain ⟨gz6, kz6⟩ : ∃ q, z3.heap.size = q := ⟨_, rfl⟩
              have qz6 : Below z3.heap.size z3 z6 := by rw [hz6]; exact (Below.refl _ _).alloc (Nat.le_refl _) _
              have bz6 : Blk z6 gz6 22 (u8l (List.replicate 32 0)).toArray := by rw [hz6, ← kz6]; exact Blk.new _ _ _
              have Fz6 := Lib.hid (show Below g3 w z6 ∧ Blk z6 g3 22 (u8l ks).toArray ∧ Own z6 (g3 + 1) (.slice va (32 * k) vc) (expN ks info k).1 ∧ Sl z6 la ln lc (expN ks info k).2 ∧ Sl z6 (some ⟨gz1, 0, none⟩) 1 1 [(((k + 1) % 256 : Nat) : Int)] ∧ PSl z6 (some ⟨gz2, 0, none⟩) 3 [(expN ks info k).2, info, [(((k + 1) % 256 : Nat) : Int)]] ∧ Sl z6 az3 (List.flatten [(expN ks info k).2, info, [(((k + 1) % 256 : Nat) : Int)]]).length cz3 (List.flatten [(expN ks info k).2, info, [(((k + 1) % 256 : Nat) : Int)]]) ∧ (Blk z6 gz6 22 (u8l (List.replicate 32 0)).toArray ∧ g3 < gz6) from ⟨Fz3.out.1.trans (qz6.mono (by have := (Fz3.out.2.1).lt; omega)), Fz3.out.2.1.below qz6, Fz3.out.2.2.1.below qz6, Fz3.out.2.2.2.1.below qz6, Fz3.out.2.2.2.2.1.below qz6, Fz3.out.2.2.2.2.2.1.below qz6, Fz3.out.2.2.2.2.2.2.below qz6, ⟨bz6, by have h1 := (Fz3.out.2.1).lt; omega⟩⟩)
              clear qz6 bz6
              refine op_valw (o := ⟨some 10, _, _, _, _, _⟩) (.pointer (some ⟨gz6, 0, none⟩)) z6 rfl rfl (by rw [hz6, ← kz6]; kernel_rfl) ?_
              simp only [Act.put, List.setIfInBounds_toArray, List.set_cons_zero, List.set_cons_succ]
              clear hz6 kz6
              refine wpAny_all (rs := [8]) (by kernel_rfl) (by simp) ?_
              intro i hi
              simp only [List.mem_cons, List.not_mem_nil, or_false] at hi
              subst hi
              refine op_call (o := ⟨some 25, _, _, _, _, _⟩) 51 #[.slice (some ⟨g3, 0, none⟩) 32 32, .slice az3 (List.flatten [(expN ks info k).2, info, [(((k + 1) % 256 : Nat) : Int)]]).length cz3] rfl rfl (by kernel_rfl) (((refmac_any z6 (some ⟨g3, 0, none⟩) 32 32 ks az3 (List.flatten [(expN ks info k).2, info, [(((k + 1) % 256 : Nat) : Int)]]).length cz3 (List.flatten [(expN ks info k).2, info, [(((k + 1) % 256 : Nat) : Int)]]) (sl_blk Fz6.out.2.1 HKL.out HKB.out (by omega)) (by omega) Fz6.out.2.2.2.2.2.2.1 (by have := HN.out; have := HI.out.1.1; have := RI.out.2.2.2.2.1; have := RI.out.2.2.2.1.1.1; simp; omega) (HW.out.below (by rw [G3.out]; exact Fz6.out.1)))).mono fun e z7 ⟨he, qz7⟩ => ⟨.agg (u8l mb).toArray, (he.trans (by rw [HMB.out])), ?_⟩)
              simp only [Act.put, List.setIfInBounds_toArray, List.set_cons_zero, List.set_cons_succ]
              have Fz7 := Lib.hid (show Below g3 w z7 ∧ Blk z7 g3 22 (u8l ks).toArray ∧ Own z7 (g3 + 1) (.slice va (32 * k) vc) (expN ks info k).1 ∧ Sl z7 la ln lc (expN ks info k).2 ∧ Sl z7 (some ⟨gz1, 0, none⟩) 1 1 [(((k + 1) % 256 : Nat) : Int)] ∧ PSl z7 (some ⟨gz2, 0, none⟩) 3 [(expN ks info k).2, info, [(((k + 1) % 256 : Nat) : Int)]] ∧ Sl z7 az3 (List.flatten [(expN ks info k).2, info, [(((k + 1) % 256 : Nat) : Int)]]).length cz3 (List.flatten [(expN ks info k).2, info, [(((k + 1) % 256 : Nat) : Int)]]) ∧ (Blk z7 gz6 22 (u8l (List.replicate 32 0)).toArray ∧ g3 < gz6) from ⟨Fz6.out.1.trans (qz7.mono (by have := (Fz6.out.2.1).lt; omega)), Fz6.out.2.1.below qz7, Fz6.out.2.2.1.below qz7, Fz6.out.2.2.2.1.below qz7, Fz6.out.2.2.2.2.1.below qz7, Fz6.out.2.2.2.2.2.1.below qz7, Fz6.out.2.2.2.2.2.2.1.below qz7, ⟨Fz6.out.2.2.2.2.2.2.2.1.below qz7, Fz6.out.2.2.2.2.2.2.2.2⟩⟩)
              clear qz7
              refine wpAny_of_idx [10] [_] _ _ _ (by rfl) (by kernel_rfl) ?_
              obtain ⟨x4, hx4⟩ : ∃ V, V = z7.setRow gz6 (u8l mb).toArray := ⟨_, rfl⟩
              have gl : g3 < gz6 := Fz7.out.2.2.2.2.2.2.2.2
              have GL := Lib.hid gl
              have bw : Below g3 w x4 := by rw [hx4]; exact below_setRow Fz7.out.1 (by omega) _
              have X4 : Hid (Own x4 (g3 + 1) (.slice va (32 * k) vc) (expN ks info k).1 ∧ Below g3 w x4 ∧ Blk x4 g3 22 (u8l ks).toArray ∧ Blk x4 gz6 22 (u8l mb).toArray) := Lib.hid ⟨by rw [hx4]; exact own_setRow Fz7.out.2.2.1 (fun e => own_ne24 Fz7.out.2.2.1 Fz7.out.2.2.2.2.2.2.2.1 e), bw, by rw [hx4]; exact blk_setRow Fz7.out.2.1 (by omega), by rw [hx4]; exact setRow_heap _ _ _ _ _ _ Fz7.out.2.2.2.2.2.2.2.1⟩
              clear bw gl
              refine wpList_store_rowTo rfl 22 _ _ rfl rfl gz6 (u8l mb).toArray rfl rfl 22 _ Fz7.out.2.2.2.2.2.2.2.1 (by simp only [List.size_toArray, u8l_len, EN.out.2.2.1]; kernel_rfl) (by simp [u8l_len, EN.out.2.2.1]) (u8l_one _) ?_
              rw [← hx4]
              clear hx4
              go_upto_region 6 with (fail)
              refine wp_region_lit ?_
              refine wpL_pure (.slice (some ⟨gz6, 0, none⟩) 32 32) rfl (by kernel_rfl) ?_
              simp only [Act.put, List.setIfInBounds_toArray, List.set_cons_zero, List.set_cons_succ]
              refine wpL_pure (.slice (some ⟨gz6, 0, none⟩) 32 32) rfl (by kernel_rfl) ?_
              simp only [Act.put, List.setIfInBounds_toArray, List.set_cons_zero, List.set_cons_succ]
              obtain ⟨v2, x5, r1, r2, r3, r4, r5⟩ := append_own x4 (g3 + 1) (.slice va (32 * k) vc) (expN ks info k).1 mb (some ⟨gz6, 0, none⟩) 32 32 X4.out.1 (sl_blk X4.out.2.2.2 EN.out.2.2.1 EN.out.2.2.2 (by omega)).1 (by have := own_len X4.out.1; have := HK.out; have := HM.out; omega) (by have := X4.out.2.2.1.lt; omega)
              obtain ⟨ga, ca, ev, _⟩ := own_sl r2
              have EL : ((expN ks info k).1 ++ mb).length = 32 * (k + 1) := by rw [List.length_append, EN.out.2.2.1, own_len X4.out.1]; omega
              rw [EL] at ev
              subst ev
              have AP := Lib.hid r1
              have NX : Hid (32 * (k + 1) < m + 32 ∧ Own x5 (g3 + 1) (.slice ga (32 * (k + 1)) ca) (expN ks info (k + 1)).1 ∧ Below g3 w x5 ∧ Sl x5 (some ⟨gz6, 0, none⟩) 32 32 (expN ks info (k + 1)).2 ∧ 32 ≤ 32 ∧ Blk x5 g3 22 (u8l ks).toArray) := Lib.hid ⟨by have := HK.out; omega, by rw [EN.out.1]; exact r2, X4.out.2.1.trans (gb_own (X4.out.1.mono (Nat.le_succ _)) r3 (by have := X4.out.2.2.1.lt; omega)), by rw [EN.out.2.1]; exact sl_blk (X4.out.2.2.2.grown r3 (fun e => own_ne24 X4.out.1 X4.out.2.2.2 e.symm)) EN.out.2.2.1 EN.out.2.2.2 (by omega), by omega, X4.out.2.2.1.grown r3 (fun e => by have := (X4.out.1).lt g3 e.symm; omega)⟩
              clear r1 r2 r3 r4 r5 EL
              go_upto_region 7 with (fail)
              refine wp_region_lit ?_
              refine wpL_pure (.slice va (32 * k) vc) rfl (by kernel_rfl) ?_
              simp only [Act.put, List.setIfInBounds_toArray, List.set_cons_zero, List.set_cons_succ]
              refine wpL_pure (.slice (some ⟨gz6, 0, none⟩) 32 32) rfl (by kernel_rfl) ?_
              simp only [Act.put, List.setIfInBounds_toArray, List.set_cons_zero, List.set_cons_succ]
              refine wpL_value (.slice ga (32 * (k + 1)) ca) (x5) rfl (run_app _ _ _ _ _ _ _ _ _ rfl rfl rfl rfl AP.out) ?_
              simp only [Act.put, List.setIfInBounds_toArray, List.set_cons_zero, List.set_cons_succ]
              refine wpL_pure (.slice ga (32 * (k + 1)) ca) rfl (by kernel_rfl) ?_
              simp only [Act.put, List.setIfInBounds_toArray, List.set_cons_zero, List.set_cons_succ]
              go_upto_region 4 with (fail)
              refine wp_region_lit ?_
              refine wpL_pure (.int .i64 ((k + 1 : Nat) : Int)) rfl (by kernel_rfl) ?_
              simp only [Act.put, List.setIfInBounds_toArray, List.set_cons_zero, List.set_cons_succ]
              refine wpL_pure (.int .i64 ((k + 1 + 1 : Nat) : Int)) rfl (run_addi Tryd.underlying3 rfl rfl rfl _ (by have := HK.out; have := HM.out; rw [wrap_in _ (by omega) (by omega)]; omega)) ?_
              simp only [Act.put, List.setIfInBounds_toArray, List.set_cons_zero, List.set_cons_succ]
              refine wpL_pure (.int .i64 ((k + 1 + 1 : Nat) : Int)) rfl (by kernel_rfl) ?_
              simp only [Act.put, List.setIfInBounds_toArray, List.set_cons_zero, List.set_cons_succ]
              unfold wpList
              go_roundw
              case rel => first | exact ⟨k + 1, _, _, _, _, _, rfl, rfl, rfl, NX⟩ | ((repeat apply Exists.intro); exact ⟨⟨k + 1, _, _, _, _, _, rfl, rfl, rfl, NX⟩, rfl⟩)
              case measure => simp [lenOf]; have := HK.out; omega
          · obtain ⟨z8, hz8⟩ : ∃ V, V = z2.alloc (.cells (u8l (List.replicate 32 0)).toArray 22) := ⟨_, rfl⟩
            obtain ⟨gz8, kz8⟩ : ∃ q, z2.heap.size = q := ⟨_, rfl⟩
            have qz8 : Below z2.heap.size z2 z8 := by rw [hz8]; exact (Below.refl _ _).alloc (Nat.le_refl _) _
            have bz8 : Blk z8 gz8 22 (u8l (List.replicate 32 0)).toArray := by rw [hz8, ← kz8]; exact Blk.new _ _ _
            have Fz8 := Lib.hid (show Below g3 w z8 ∧ Blk z8 g3 22 (u8l ks).toArray ∧ Own z8 (g3 + 1) (.slice va (32 * k) vc) (expN ks info k).1 ∧ Sl z8 la ln lc (expN ks info k).2 ∧ Sl z8 (some ⟨gz1, 0, none⟩) 1 1 [(((k + 1) % 256 : Nat) : Int)] ∧ PSl z8 (some ⟨gz2, 0, none⟩) 3 [(expN ks info k).2, info, [(((k + 1) % 256 : Nat) : Int)]] ∧ (Blk z8 gz8 22 (u8l (List.replicate 32 0)).toArray ∧ g3 < gz8) from ⟨Fz2.out.1.trans (qz8.mono (by have := (Fz2.out.2.1).lt; omega)), Fz2.out.2.1.below qz8, Fz2.out.2.2.1.below qz8, Fz2.out.2.2.2.1.below qz8, Fz2.out.2.2.2.2.1.below qz8, Fz2.out.2.2.2.2.2.below qz8, ⟨bz8, by have h1 := (Fz2.out.2.1).lt; omega⟩⟩)
            clear qz8 bz8
            refine op_valw (o := ⟨some 10, _, _, _, _, _⟩) (.pointer (some ⟨gz8, 0, none⟩)) z8 rfl rfl (by rw [hz8, ← kz8]; kernel_rfl) ?_
            simp only [Act.put, List.setIfInBounds_toArray, List.set_cons_zero, List.set_cons_succ]
            clear hz8 kz8
            refine wpAny_all (rs := [7]) (by kernel_rfl) (by simp) ?_
            intro i hi
            simp only [List.mem_cons, List.not_mem_nil, or_false] at hi
            subst hi
            refine op_call (o := ⟨some 24, _, _, _, _, _⟩) 52 #[.slice (some ⟨gz2, 0, none⟩) 3 3] rfl rfl (by kernel_rfl) (((joined_sl z8 (some ⟨gz2, 0, none⟩) 3 3 [(expN ks info k).2, info, [(((k + 1) % 256 : Nat) : Int)]] Fz8.out.2.2.2.2.2.1 (by omega) (by have := HN.out; have := HI.out.1.1; have := RI.out.2.2.2.2.1; have := RI.out.2.2.2.1.1.1; simp; omega))).mono fun e z9 ⟨az9, cz9, he, sz9, qz9⟩ => ⟨.slice az9 (List.flatten [(expN ks info k).2, info, [(((k + 1) % 256 : Nat) : Int)]]).length cz9, he, ?_⟩)
            simp only [Act.put, List.setIfInBounds_toArray, List.set_cons_zero, List.set_cons_succ]
            have Fz9 := Lib.hid (show Below g3 w z9 ∧ Blk z9 g3 22 (u8l ks).toArray ∧ Own z9 (g3 + 1) (.slice va (32 * k) vc) (expN ks info k).1 ∧ Sl z9 la ln lc (expN ks info k).2 ∧ Sl z9 (some ⟨gz1, 0, none⟩) 1 1 [(((k + 1) % 256 : Nat) : Int)] ∧ PSl z9 (some ⟨gz2, 0, none⟩) 3 [(expN ks info k).2, info, [(((k + 1) % 256 : Nat) : Int)]] ∧ (Blk z9 gz8 22 (u8l (List.replicate 32 0)).toArray ∧ g3 < gz8) ∧ Sl z9 az9 (List.flatten [(expN ks info k).2, info, [(((k + 1) % 256 : Nat) : Int)]]).length cz9 (List.flatten [(expN ks info k).2, info, [(((k + 1) % 256 : Nat) : Int)]]) from ⟨Fz8.out.1.trans (qz9.mono (by have := (Fz8.out.2.1).lt; omega)), Fz8.out.2.1.below qz9, Fz8.out.2.2.1.below qz9, Fz8.out.2.2.2.1.below qz9, Fz8.out.2.2.2.2.1.below qz9, Fz8.out.2.2.2.2.2.1.below qz9, ⟨Fz8.out.2.2.2.2.2.2.1.below qz9, Fz8.out.2.2.2.2.2.2.2⟩, sz9⟩)
            clear qz9
            refine wpAny_all (rs := [8]) (by kernel_rfl) (by simp) ?_
            intro i hi
            simp only [List.mem_cons, List.not_mem_nil, or_false] at hi
            subst hi
            refine op_call (o := ⟨some 25, _, _, _, _, _⟩) 51 #[.slice (some ⟨g3, 0, none⟩) 32 32, .slice az9 (List.flatten [(expN ks info k).2, info, [(((k + 1) % 256 : Nat) : Int)]]).length cz9] rfl rfl (by kernel_rfl) (((refmac_any z9 (some ⟨g3, 0, none⟩) 32 32 ks az9 (List.flatten [(expN ks info k).2, info, [(((k + 1) % 256 : Nat) : Int)]]).length cz9 (List.flatten [(expN ks info k).2, info, [(((k + 1) % 256 : Nat) : Int)]]) (sl_blk Fz9.out.2.1 HKL.out HKB.out (by omega)) (by omega) Fz9.out.2.2.2.2.2.2.2 (by have := HN.out; have := HI.out.1.1; have := RI.out.2.2.2.2.1; have := RI.out.2.2.2.1.1.1; simp; omega) (HW.out.below (by rw [G3.out]; exact Fz9.out.1)))).mono fun e z10 ⟨he, qz10⟩ => ⟨.agg (u8l mb).toArray, (he.trans (by rw [HMB.out])), ?_⟩)
            simp only [Act.put, List.setIfInBounds_toArray, List.set_cons_zero, List.set_cons_succ]
            have Fz10 := Lib.hid (show Below g3 w z10 ∧ Blk z10 g3 22 (u8l ks).toArray ∧ Own z10 (g3 + 1) (.slice va (32 * k) vc) (expN ks info k).1 ∧ Sl z10 la ln lc (expN ks info k).2 ∧ Sl z10 (some ⟨gz1, 0, none⟩) 1 1 [(((k + 1) % 256 : Nat) : Int)] ∧ PSl z10 (some ⟨gz2, 0, none⟩) 3 [(expN ks info k).2, info, [(((k + 1) % 256 : Nat) : Int)]] ∧ (Blk z10 gz8 22 (u8l (List.replicate 32 0)).toArray ∧ g3 < gz8) ∧ Sl z10 az9 (List.flatten [(expN ks info k).2, info, [(((k + 1) % 256 : Nat) : Int)]]).length cz9 (List.flatten [(expN ks info k).2, info, [(((k + 1) % 256 : Nat) : Int)]]) from ⟨Fz9.out.1.trans (qz10.mono (by have := (Fz9.out.2.1).lt; omega)), Fz9.out.2.1.below qz10, Fz9.out.2.2.1.below qz10, Fz9.out.2.2.2.1.below qz10, Fz9.out.2.2.2.2.1.below qz10, Fz9.out.2.2.2.2.2.1.below qz10, ⟨Fz9.out.2.2.2.2.2.2.1.1.below qz10, Fz9.out.2.2.2.2.2.2.1.2⟩, Fz9.out.2.2.2.2.2.2.2.below qz10⟩)
            clear qz10
            refine wpAny_of_idx [10] [_] _ _ _ (by rfl) (by kernel_rfl) ?_
            obtain ⟨x4, hx4⟩ : ∃ V, V = z10.setRow gz8 (u8l mb).toArray := ⟨_, rfl⟩
            have gl : g3 < gz8 := Fz10.out.2.2.2.2.2.2.1.2
            have GL := Lib.hid gl
            have bw : Below g3 w x4 := by rw [hx4]; exact below_setRow Fz10.out.1 (by omega) _
            have X4 : Hid (Own x4 (g3 + 1) (.slice va (32 * k) vc) (expN ks info k).1 ∧ Below g3 w x4 ∧ Blk x4 g3 22 (u8l ks).toArray ∧ Blk x4 gz8 22 (u8l mb).toArray) := Lib.hid ⟨by rw [hx4]; exact own_setRow Fz10.out.2.2.1 (fun e => own_ne24 Fz10.out.2.2.1 Fz10.out.2.2.2.2.2.2.1.1 e), bw, by rw [hx4]; exact blk_setRow Fz10.out.2.1 (by omega), by rw [hx4]; exact setRow_heap _ _ _ _ _ _ Fz10.out.2.2.2.2.2.2.1.1⟩
            clear bw gl
            refine wpList_store_rowTo rfl 22 _ _ rfl rfl gz8 (u8l mb).toArray rfl rfl 22 _ Fz10.out.2.2.2.2.2.2.1.1 (by simp only [List.size_toArray, u8l_len, EN.out.2.2.1]; kernel_rfl) (by simp [u8l_len, EN.out.2.2.1]) (u8l_one _) ?_
            rw [← hx4]
            clear hx4
            go_upto_region 6 with (fail)
            refine wp_region_lit ?_
            refine wpL_pure (.slice (some ⟨gz8, 0, none⟩) 32 32) rfl (by kernel_rfl) ?_
            simp only [Act.put, List.setIfInBounds_toArray, List.set_cons_zero, List.set_cons_succ]
            refine wpL_pure (.slice (some ⟨gz8, 0, none⟩) 32 32) rfl (by kernel_rfl) ?_
            simp only [Act.put, List.setIfInBounds_toArray, List.set_cons_zero, List.set_cons_succ]
            obtain ⟨v2, x5, r1, r2, r3, r4, r5⟩ := append_own x4 (g3 + 1) (.slice va (32 * k) vc) (expN ks info k).1 mb (some ⟨gz8, 0, none⟩) 32 32 X4.out.1 (sl_blk X4.out.2.2.2 EN.out.2.2.1 EN.out.2.2.2 (by omega)).1 (by have := own_len X4.out.1; have := HK.out; have := HM.out; omega) (by have := X4.out.2.2.1.lt; omega)
            obtain ⟨ga, ca, ev, _⟩ := own_sl r2
            have EL : ((expN ks info k).1 ++ mb).length = 32 * (k + 1) := by rw [List.length_append, EN.out.2.2.1, own_len X4.out.1]; omega
            rw [EL] at ev
            subst ev
            have AP := Lib.hid r1
            have NX : Hid (32 * (k + 1) < m + 32 ∧ Own x5 (g3 + 1) (.slice ga (32 * (k + 1)) ca) (expN ks info (k + 1)).1 ∧ Below g3 w x5 ∧ Sl x5 (some ⟨gz8, 0, none⟩) 32 32 (expN ks info (k + 1)).2 ∧ 32 ≤ 32 ∧ Blk x5 g3 22 (u8l ks).toArray) := Lib.hid ⟨by have := HK.out; omega, by rw [EN.out.1]; exact r2, X4.out.2.1.trans (gb_own (X4.out.1.mono (Nat.le_succ _)) r3 (by have := X4.out.2.2.1.lt; omega)), by rw [EN.out.2.1]; exact sl_blk (X4.out.2.2.2.grown r3 (fun e => own_ne24 X4.out.1 X4.out.2.2.2 e.symm)) EN.out.2.2.1 EN.out.2.2.2 (by omega), by omega, X4.out.2.2.1.grown r3 (fun e => by have := (X4.out.1).lt g3 e.symm; omega)⟩
            clear r1 r2 r3 r4 r5 EL
            go_upto_region 7 with (fail)
            refine wp_region_lit ?_
            refine wpL_pure (.slice va (32 * k) vc) rfl (by kernel_rfl) ?_
            simp only [Act.put, List.setIfInBounds_toArray, List.set_cons_zero, List.set_cons_succ]
            refine wpL_pure (.slice (some ⟨gz8, 0, none⟩) 32 32) rfl (by kernel_rfl) ?_
            simp only [Act.put, List.setIfInBounds_toArray, List.set_cons_zero, List.set_cons_succ]
            refine wpL_value (.slice ga (32 * (k + 1)) ca) (x5) rfl (run_app _ _ _ _ _ _ _ _ _ rfl rfl rfl rfl AP.out) ?_
            simp only [Act.put, List.setIfInBounds_toArray, List.set_cons_zero, List.set_cons_succ]
            refine wpL_pure (.slice ga (32 * (k + 1)) ca) rfl (by kernel_rfl) ?_
            simp only [Act.put, List.setIfInBounds_toArray, List.set_cons_zero, List.set_cons_succ]
            go_upto_region 4 with (fail)
            refine wp_region_lit ?_
            refine wpL_pure (.int .i64 ((k + 1 : Nat) : Int)) rfl (by kernel_rfl) ?_
            simp only [Act.put, List.setIfInBounds_toArray, List.set_cons_zero, List.set_cons_succ]
            refine wpL_pure (.int .i64 ((k + 1 + 1 : Nat) : Int)) rfl (run_addi Tryd.underlying3 rfl rfl rfl _ (by have := HK.out; have := HM.out; rw [wrap_in _ (by omega) (by omega)]; omega)) ?_
            simp only [Act.put, List.setIfInBounds_toArray, List.set_cons_zero, List.set_cons_succ]
            refine wpL_pure (.int .i64 ((k + 1 + 1 : Nat) : Int)) rfl (by kernel_rfl) ?_
            simp only [Act.put, List.setIfInBounds_toArray, List.set_cons_zero, List.set_cons_succ]
            unfold wpList
            go_roundw
            case rel => first | exact ⟨k + 1, _, _, _, _, _, rfl, rfl, rfl, NX⟩ | ((repeat apply Exists.intro); exact ⟨⟨k + 1, _, _, _, _, _, rfl, rfl, rfl, NX⟩, rfl⟩)
            case measure => simp [lenOf]; have := HK.out; omega
        · obtain ⟨z11, hz11⟩ : ∃ V, V = z1.alloc (.cells (u8l (List.replicate 32 0)).toArray 22) := ⟨_, rfl⟩
          obtain ⟨gz11, kz11⟩ : ∃ q, z1.heap.size = q := ⟨_, rfl⟩
          have qz11 : Below z1.heap.size z1 z11 := by rw [hz11]; exact (Below.refl _ _).alloc (Nat.le_refl _) _
          have bz11 : Blk z11 gz11 22 (u8l (List.replicate 32 0)).toArray := by rw [hz11, ← kz11]; exact Blk.new _ _ _
          have Fz11 := Lib.hid (show Below g3 w z11 ∧ Blk z11 g3 22 (u8l ks).toArray ∧ Own z11 (g3 + 1) (.slice va (32 * k) vc) (expN ks info k).1 ∧ Sl z11 la ln lc (expN ks info k).2 ∧ Sl z11 (some ⟨gz1, 0, none⟩) 1 1 [(((k + 1) % 256 : Nat) : Int)] ∧ (Blk z11 gz11 22 (u8l (List.replicate 32 0)).toArray ∧ g3 < gz11) from ⟨Fz1.out.1.trans (qz11.mono (by have := (Fz1.out.2.1).lt; omega)), Fz1.out.2.1.below qz11, Fz1.out.2.2.1.below qz11, Fz1.out.2.2.2.1.below qz11, Fz1.out.2.2.2.2.below qz11, ⟨bz11, by have h1 := (Fz1.out.2.1).lt; omega⟩⟩)
          clear qz11 bz11
          refine op_valw (o := ⟨some 10, _, _, _, _, _⟩) (.pointer (some ⟨gz11, 0, none⟩)) z11 rfl rfl (by rw [hz11, ← kz11]; kernel_rfl) ?_
          simp only [Act.put, List.setIfInBounds_toArray, List.set_cons_zero, List.set_cons_succ]
          clear hz11 kz11
          refine wpAny_all (rs := [6]) (by kernel_rfl) (by simp) ?_
          intro i hi
          simp only [List.mem_cons, List.not_mem_nil, or_false] at hi
          subst hi
          obtain ⟨z12, hz12⟩ : ∃ V, V = z11.alloc (.cells #[.slice la ln lc, .slice a n c, .slice (some ⟨gz1, 0, none⟩) 1 1] 32) := ⟨_, rfl⟩
          obtain ⟨gz12, kz12⟩ : ∃ q, z11.heap.size = q := ⟨_, rfl⟩
          have qz12 : Below z11.heap.size z11 z12 := by rw [hz12]; exact (Below.refl _ _).alloc (Nat.le_refl _) _
          have bz12 : Blk z12 gz12 32 #[.slice la ln lc, .slice a n c, .slice (some ⟨gz1, 0, none⟩) 1 1] := by rw [hz12, ← kz12]; exact Blk.new _ _ _
          have Fz120 := Lib.hid (show Below g3 w z12 ∧ Blk z12 g3 22 (u8l ks).toArray ∧ Own z12 (g3 + 1) (.slice va (32 * k) vc) (expN ks info k).1 ∧ Sl z12 la ln lc (expN ks info k).2 ∧ Sl z12 (some ⟨gz1, 0, none⟩) 1 1 [(((k + 1) % 256 : Nat) : Int)] ∧ (Blk z12 gz11 22 (u8l (List.replicate 32 0)).toArray ∧ g3 < gz11) from ⟨Fz11.out.1.trans (qz12.mono (by have := (Fz11.out.2.1).lt; omega)), Fz11.out.2.1.below qz12, Fz11.out.2.2.1.below qz12, Fz11.out.2.2.2.1.below qz12, Fz11.out.2.2.2.2.1.below qz12, ⟨Fz11.out.2.2.2.2.2.1.below qz12, Fz11.out.2.2.2.2.2.2⟩⟩)
          have Fz12 := Lib.hid (show Below g3 w z12 ∧ Blk z12 g3 22 (u8l ks).toArray ∧ Own z12 (g3 + 1) (.slice va (32 * k) vc) (expN ks info k).1 ∧ Sl z12 la ln lc (expN ks info k).2 ∧ Sl z12 (some ⟨gz1, 0, none⟩) 1 1 [(((k + 1) % 256 : Nat) : Int)] ∧ (Blk z12 gz11 22 (u8l (List.replicate 32 0)).toArray ∧ g3 < gz11) ∧ PSl z12 (some ⟨gz12, 0, none⟩) 3 [(expN ks info k).2, info, [(((k + 1) % 256 : Nat) : Int)]] from ⟨Fz120.out.1, Fz120.out.2.1, Fz120.out.2.2.1, Fz120.out.2.2.2.1, Fz120.out.2.2.2.2.1, Fz120.out.2.2.2.2.2, psl_three bz12 Fz120.out.2.2.2.1 (HI.out.below (by rw [G3.out]; exact Fz120.out.1)) Fz120.out.2.2.2.2.1 (by have := RI.out.2.2.2.2.1; omega) (by have := HN.out; omega) (by omega)⟩)
          clear qz12 bz12 Fz120
          refine op_valw (o := ⟨some 23, _, _, _, _, _⟩) (.slice (some ⟨gz12, 0, none⟩) 3 3) z12 rfl rfl (by rw [hz12, ← kz12]; kernel_rfl) ?_
          simp only [Act.put, List.setIfInBounds_toArray, List.set_cons_zero, List.set_cons_succ]
          clear hz12 kz12
          refine wpAny_all (rs := [7]) (by kernel_rfl) (by simp) ?_
          intro i hi
          simp only [List.mem_cons, List.not_mem_nil, or_false] at hi
          subst hi
          refine op_call (o := ⟨some 24, _, _, _, _, _⟩) 52 #[.slice (some ⟨gz12, 0, none⟩) 3 3] rfl rfl (by kernel_rfl) (((joined_sl z12 (some ⟨gz12, 0, none⟩) 3 3 [(expN ks info k).2, info, [(((k + 1) % 256 : Nat) : Int)]] Fz12.out.2.2.2.2.2.2 (by omega) (by have := HN.out; have := HI.out.1.1; have := RI.out.2.2.2.2.1; have := RI.out.2.2.2.1.1.1; simp; omega))).mono fun e z13 ⟨az13, cz13, he, sz13, qz13⟩ => ⟨.slice az13 (List.flatten [(expN ks info k).2, info, [(((k + 1) % 256 : Nat) : Int)]]).length cz13, he, ?_⟩)
          simp only [Act.put, List.setIfInBounds_toArray, List.set_cons_zero, List.set_cons_succ]
          have Fz13 := Lib.hid (show Below g3 w z13 ∧ Blk z13 g3 22 (u8l ks).toArray ∧ Own z13 (g3 + 1) (.slice va (32 * k) vc) (expN ks info k).1 ∧ Sl z13 la ln lc (expN ks info k).2 ∧ Sl z13 (some ⟨gz1, 0, none⟩) 1 1 [(((k + 1) % 256 : Nat) : Int)] ∧ (Blk z13 gz11 22 (u8l (List.replicate 32 0)).toArray ∧ g3 < gz11) ∧ PSl z13 (some ⟨gz12, 0, none⟩) 3 [(expN ks info k).2, info, [(((k + 1) % 256 : Nat) : Int)]] ∧ Sl z13 az13 (List.flatten [(expN ks info k).2, info, [(((k + 1) % 256 : Nat) : Int)]]).length cz13 (List.flatten [(expN ks info k).2, info, [(((k + 1) % 256 : Nat) : Int)]]) from ⟨Fz12.out.1.trans (qz13.mono (by have := (Fz12.out.2.1).lt; omega)), Fz12.out.2.1.below qz13, Fz12.out.2.2.1.below qz13, Fz12.out.2.2.2.1.below qz13, Fz12.out.2.2.2.2.1.below qz13, ⟨Fz12.out.2.2.2.2.2.1.1.below qz13, Fz12.out.2.2.2.2.2.1.2⟩, Fz12.out.2.2.2.2.2.2.below qz13, sz13⟩)
          clear qz13
          refine wpAny_all (rs := [8]) (by kernel_rfl) (by simp) ?_
          intro i hi
          simp only [List.mem_cons, List.not_mem_nil, or_false] at hi
          subst hi
          refine op_call (o := ⟨some 25, _, _, _, _, _⟩) 51 #[.slice (some ⟨g3, 0, none⟩) 32 32, .slice az13 (List.flatten [(expN ks info k).2, info, [(((k + 1) % 256 : Nat) : Int)]]).length cz13] rfl rfl (by kernel_rfl) (((refmac_any z13 (some ⟨g3, 0, none⟩) 32 32 ks az13 (List.flatten [(expN ks info k).2, info, [(((k + 1) % 256 : Nat) : Int)]]).length cz13 (List.flatten [(expN ks info k).2, info, [(((k + 1) % 256 : Nat) : Int)]]) (sl_blk Fz13.out.2.1 HKL.out HKB.out (by omega)) (by omega) Fz13.out.2.2.2.2.2.2.2 (by have := HN.out; have := HI.out.1.1; have := RI.out.2.2.2.2.1; have := RI.out.2.2.2.1.1.1; simp; omega) (HW.out.below (by rw [G3.out]; exact Fz13.out.1)))).mono fun e z14 ⟨he, qz14⟩ => ⟨.agg (u8l mb).toArray, (he.trans (by rw [HMB.out])), ?_⟩)
          simp only [Act.put, List.setIfInBounds_toArray, List.set_cons_zero, List.set_cons_succ]
          have Fz14 := Lib.hid (show Below g3 w z14 ∧ Blk z14 g3 22 (u8l ks).toArray ∧ Own z14 (g3 + 1) (.slice va (32 * k) vc) (expN ks info k).1 ∧ Sl z14 la ln lc (expN ks info k).2 ∧ Sl z14 (some ⟨gz1, 0, none⟩) 1 1 [(((k + 1) % 256 : Nat) : Int)] ∧ (Blk z14 gz11 22 (u8l (List.replicate 32 0)).toArray ∧ g3 < gz11) ∧ PSl z14 (some ⟨gz12, 0, none⟩) 3 [(expN ks info k).2, info, [(((k + 1) % 256 : Nat) : Int)]] ∧ Sl z14 az13 (List.flatten [(expN ks info k).2, info, [(((k + 1) % 256 : Nat) : Int)]]).length cz13 (List.flatten [(expN ks info k).2, info, [(((k + 1) % 256 : Nat) : Int)]]) from ⟨Fz13.out.1.trans (qz14.mono (by have := (Fz13.out.2.1).lt; omega)), Fz13.out.2.1.below qz14, Fz13.out.2.2.1.below qz14, Fz13.out.2.2.2.1.below qz14, Fz13.out.2.2.2.2.1.below qz14, ⟨Fz13.out.2.2.2.2.2.1.1.below qz14, Fz13.out.2.2.2.2.2.1.2⟩, Fz13.out.2.2.2.2.2.2.1.below qz14, Fz13.out.2.2.2.2.2.2.2.below qz14⟩)
          clear qz14
          refine wpAny_of_idx [10] [_] _ _ _ (by rfl) (by kernel_rfl) ?_
          obtain ⟨x4, hx4⟩ : ∃ V, V = z14.setRow gz11 (u8l mb).toArray := ⟨_, rfl⟩
          have gl : g3 < gz11 := Fz14.out.2.2.2.2.2.1.2
          have GL := Lib.hid gl
          have bw : Below g3 w x4 := by rw [hx4]; exact below_setRow Fz14.out.1 (by omega) _
          have X4 : Hid (Own x4 (g3 + 1) (.slice va (32 * k) vc) (expN ks info k).1 ∧ Below g3 w x4 ∧ Blk x4 g3 22 (u8l ks).toArray ∧ Blk x4 gz11 22 (u8l mb).toArray) := Lib.hid ⟨by rw [hx4]; exact own_setRow Fz14.out.2.2.1 (fun e => own_ne24 Fz14.out.2.2.1 Fz14.out.2.2.2.2.2.1.1 e), bw, by rw [hx4]; exact blk_setRow Fz14.out.2.1 (by omega), by rw [hx4]; exact setRow_heap _ _ _ _ _ _ Fz14.out.2.2.2.2.2.1.1⟩
          clear bw gl
          refine wpList_store_rowTo rfl 22 _ _ rfl rfl gz11 (u8l mb).toArray rfl rfl 22 _ Fz14.out.2.2.2.2.2.1.1 (by simp only [List.size_toArray, u8l_len, EN.out.2.2.1]; kernel_rfl) (by simp [u8l_len, EN.out.2.2.1]) (u8l_one _) ?_
          rw [← hx4]
          clear hx4
          go_upto_region 6 with (fail)
          refine wp_region_lit ?_
          refine wpL_pure (.slice (some ⟨gz11, 0, none⟩) 32 32) rfl (by kernel_rfl) ?_
          simp only [Act.put, List.setIfInBounds_toArray, List.set_cons_zero, List.set_cons_succ]
          refine wpL_pure (.slice (some ⟨gz11, 0, none⟩) 32 32) rfl (by kernel_rfl) ?_
          simp only [Act.put, List.setIfInBounds_toArray, List.set_cons_zero, List.set_cons_succ]
          obtain ⟨v2, x5, r1, r2, r3, r4, r5⟩ := append_own x4 (g3 + 1) (.slice va (32 * k) vc) (expN ks info k).1 mb (some ⟨gz11, 0, none⟩) 32 32 X4.out.1 (sl_blk X4.out.2.2.2 EN.out.2.2.1 EN.out.2.2.2 (by omega)).1 (by have := own_len X4.out.1; have := HK.out; have := HM.out; omega) (by have := X4.out.2.2.1.lt; omega)
          obtain ⟨ga, ca, ev, _⟩ := own_sl r2
          have EL : ((expN ks info k).1 ++ mb).length = 32 * (k + 1) := by rw [List.length_append, EN.out.2.2.1, own_len X4.out.1]; omega
          rw [EL] at ev
          subst ev
          have AP := Lib.hid r1
          have NX : Hid (32 * (k + 1) < m + 32 ∧ Own x5 (g3 + 1) (.slice ga (32 * (k + 1)) ca) (expN ks info (k + 1)).1 ∧ Below g3 w x5 ∧ Sl x5 (some ⟨gz11, 0, none⟩) 32 32 (expN ks info (k + 1)).2 ∧ 32 ≤ 32 ∧ Blk x5 g3 22 (u8l ks).toArray) := Lib.hid ⟨by have := HK.out; omega, by rw [EN.out.1]; exact r2, X4.out.2.1.trans (gb_own (X4.out.1.mono (Nat.le_succ _)) r3 (by have := X4.out.2.2.1.lt; omega)), by rw [EN.out.2.1]; exact sl_blk (X4.out.2.2.2.grown r3 (fun e => own_ne24 X4.out.1 X4.out.2.2.2 e.symm)) EN.out.2.2.1 EN.out.2.2.2 (by omega), by omega, X4.out.2.2.1.grown r3 (fun e => by have := (X4.out.1).lt g3 e.symm; omega)⟩
          clear r1 r2 r3 r4 r5 EL
          go_upto_region 7 with (fail)
          refine wp_region_lit ?_
          refine wpL_pure (.slice va (32 * k) vc) rfl (by kernel_rfl) ?_
          simp only [Act.put, List.setIfInBounds_toArray, List.set_cons_zero, List.set_cons_succ]
          refine wpL_pure (.slice (some ⟨gz11, 0, none⟩) 32 32) rfl (by kernel_rfl) ?_
          simp only [Act.put, List.setIfInBounds_toArray, List.set_cons_zero, List.set_cons_succ]
          refine wpL_value (.slice ga (32 * (k + 1)) ca) (x5) rfl (run_app _ _ _ _ _ _ _ _ _ rfl rfl rfl rfl AP.out) ?_
          simp only [Act.put, List.setIfInBounds_toArray, List.set_cons_zero, List.set_cons_succ]
          refine wpL_pure (.slice ga (32 * (k + 1)) ca) rfl (by kernel_rfl) ?_
          simp only [Act.put, List.setIfInBounds_toArray, List.set_cons_zero, List.set_cons_succ]
          go_upto_region 4 with (fail)
          refine wp_region_lit ?_
          refine wpL_pure (.int .i64 ((k + 1 : Nat) : Int)) rfl (by kernel_rfl) ?_
          simp only [Act.put, List.setIfInBounds_toArray, List.set_cons_zero, List.set_cons_succ]
          refine wpL_pure (.int .i64 ((k + 1 + 1 : Nat) : Int)) rfl (run_addi Tryd.underlying3 rfl rfl rfl _ (by have := HK.out; have := HM.out; rw [wrap_in _ (by omega) (by omega)]; omega)) ?_
          simp only [Act.put, List.setIfInBounds_toArray, List.set_cons_zero, List.set_cons_succ]
          refine wpL_pure (.int .i64 ((k + 1 + 1 : Nat) : Int)) rfl (by kernel_rfl) ?_
          simp only [Act.put, List.setIfInBounds_toArray, List.set_cons_zero, List.set_cons_succ]
          unfold wpList
          go_roundw
          case rel => first | exact ⟨k + 1, _, _, _, _, _, rfl, rfl, rfl, NX⟩ | ((repeat apply Exists.intro); exact ⟨⟨k + 1, _, _, _, _, _, rfl, rfl, rfl, NX⟩, rfl⟩)
          case measure => simp [lenOf]; have := HK.out; omega
      · obtain ⟨z15, hz15⟩ : ∃ V, V = wr.drew.alloc (.cells (u8l (List.replicate 32 0)).toArray 22) := ⟨_, rfl⟩
        obtain ⟨gz15, kz15⟩ : ∃ q, wr.drew.heap.size = q := ⟨_, rfl⟩
        have qz15 : Below wr.drew.heap.size wr.drew z15 := by rw [hz15]; exact (Below.refl _ _).alloc (Nat.le_refl _) _
        have bz15 : Blk z15 gz15 22 (u8l (List.replicate 32 0)).toArray := by rw [hz15, ← kz15]; exact Blk.new _ _ _
        have Fz15 := Lib.hid (show Below g3 w z15 ∧ Blk z15 g3 22 (u8l ks).toArray ∧ Own z15 (g3 + 1) (.slice va (32 * k) vc) (expN ks info k).1 ∧ Sl z15 la ln lc (expN ks info k).2 ∧ (Blk z15 gz15 22 (u8l (List.replicate 32 0)).toArray ∧ g3 < gz15) from ⟨A0.out.1.trans (qz15.mono (by have := (A0.out.2.1).lt; omega)), A0.out.2.1.below qz15, A0.out.2.2.1.below qz15, A0.out.2.2.2.below qz15, ⟨bz15, by have h1 := (A0.out.2.1).lt; omega⟩⟩)
        clear qz15 bz15
        refine op_valw (o := ⟨some 10, _, _, _, _, _⟩) (.pointer (some ⟨gz15, 0, none⟩)) z15 rfl rfl (by rw [hz15, ← kz15]; kernel_rfl) ?_
        simp only [Act.put, List.setIfInBounds_toArray, List.set_cons_zero, List.set_cons_succ]
        clear hz15 kz15
        refine wpAny_all (rs := [5]) (by kernel_rfl) (by simp) ?_
        intro i hi
        simp only [List.mem_cons, List.not_mem_nil, or_false] at hi
        subst hi
        obtain ⟨z16, hz16⟩ : ∃ V, V = z15.alloc (.cells #[.int .u8 (((k + 1) % 256 : Nat) : Int)] 5) := ⟨_, rfl⟩
        obtain ⟨gz16, kz16⟩ : ∃ q, z15.heap.size = q := ⟨_, rfl⟩
        have qz16 : Below z15.heap.size z15 z16 := by rw [hz16]; exact (Below.refl _ _).alloc (Nat.le_refl _) _
        have bz16 : Blk z16 gz16 5 #[.int .u8 (((k + 1) % 256 : Nat) : Int)] := by rw [hz16, ← kz16]; exact Blk.new _ _ _
        have Fz160 := Lib.hid (show Below g3 w z16 ∧ Blk z16 g3 22 (u8l ks).toArray ∧ Own z16 (g3 + 1) (.slice va (32 * k) vc) (expN ks info k).1 ∧ Sl z16 la ln lc (expN ks info k).2 ∧ (Blk z16 gz15 22 (u8l (List.replicate 32 0)).toArray ∧ g3 < gz15) from ⟨Fz15.out.1.trans (qz16.mono (by have := (Fz15.out.2.1).lt; omega)), Fz15.out.2.1.below qz16, Fz15.out.2.2.1.below qz16, Fz15.out.2.2.2.1.below qz16, ⟨Fz15.out.2.2.2.2.1.below qz16, Fz15.out.2.2.2.2.2⟩⟩)
        have Fz16 := Lib.hid (show Below g3 w z16 ∧ Blk z16 g3 22 (u8l ks).toArray ∧ Own z16 (g3 + 1) (.slice va (32 * k) vc) (expN ks info k).1 ∧ Sl z16 la ln lc (expN ks info k).2 ∧ (Blk z16 gz15 22 (u8l (List.replicate 32 0)).toArray ∧ g3 < gz15) ∧ Sl z16 (some ⟨gz16, 0, none⟩) 1 1 [(((k + 1) % 256 : Nat) : Int)] from ⟨Fz160.out.1, Fz160.out.2.1, Fz160.out.2.2.1, Fz160.out.2.2.2.1, Fz160.out.2.2.2.2, sl_blk (xs := [(((k + 1) % 256 : Nat) : Int)]) bz16 rfl (by intro x hx; simp at hx; omega) (by omega)⟩)
        clear qz16 bz16 Fz160
        refine op_valw (o := ⟨some 22, _, _, _, _, _⟩) (.slice (some ⟨gz16, 0, none⟩) 1 1) z16 rfl rfl (by rw [hz16, ← kz16]; kernel_rfl) ?_
        simp only [Act.put, List.setIfInBounds_toArray, List.set_cons_zero, List.set_cons_succ]
        clear hz16 kz16
        refine wpAny_all (rs := [6]) (by kernel_rfl) (by simp) ?_
        intro i hi
        simp only [List.mem_cons, List.not_mem_nil, or_false] at hi
        subst hi
        obtain ⟨z17, hz17⟩ : ∃ V, V = z16.alloc (.cells #[.slice la ln lc, .slice a n c, .slice (some ⟨gz16, 0, none⟩) 1 1] 32) := ⟨_, rfl⟩
        obtain ⟨gz17, kz17⟩ : ∃ q, z16.heap.size = q := ⟨_, rfl⟩
        have qz17 : Below z16.heap.size z16 z17 := by rw [hz17]; exact (Below.refl _ _).alloc (Nat.le_refl _) _
        have bz17 : Blk z17 gz17 32 #[.slice la ln lc, .slice a n c, .slice (some ⟨gz16, 0, none⟩) 1 1] := by rw [hz17, ← kz17]; exact Blk.new _ _ _
        have Fz170 := Lib.hid (show Below g3 w z17 ∧ Blk z17 g3 22 (u8l ks).toArray ∧ Own z17 (g3 + 1) (.slice va (32 * k) vc) (expN ks info k).1 ∧ Sl z17 la ln lc (expN ks info k).2 ∧ (Blk z17 gz15 22 (u8l (List.replicate 32 0)).toArray ∧ g3 < gz15) ∧ Sl z17 (some ⟨gz16, 0, none⟩) 1 1 [(((k + 1) % 256 : Nat) : Int)] from ⟨Fz16.out.1.trans (qz17.mono (by have := (Fz16.out.2.1).lt; omega)), Fz16.out.2.1.below qz17, Fz16.out.2.2.1.below qz17, Fz16.out.2.2.2.1.below qz17, ⟨Fz16.out.2.2.2.2.1.1.below qz17, Fz16.out.2.2.2.2.1.2⟩, Fz16.out.2.2.2.2.2.below qz17⟩)
        have Fz17 := Lib.hid (show Below g3 w z17 ∧ Blk z17 g3 22 (u8l ks).toArray ∧ Own z17 (g3 + 1) (.slice va (32 * k) vc) (expN ks info k).1 ∧ Sl z17 la ln lc (expN ks info k).2 ∧ (Blk z17 gz15 22 (u8l (List.replicate 32 0)).toArray ∧ g3 < gz15) ∧ Sl z17 (some ⟨gz16, 0, none⟩) 1 1 [(((k + 1) % 256 : Nat) : Int)] ∧ PSl z17 (some ⟨gz17, 0, none⟩) 3 [(expN ks info k).2, info, [(((k + 1) % 256 : Nat) : Int)]] from ⟨Fz170.out.1, Fz170.out.2.1, Fz170.out.2.2.1, Fz170.out.2.2.2.1, Fz170.out.2.2.2.2.1, Fz170.out.2.2.2.2.2, psl_three bz17 Fz170.out.2.2.2.1 (HI.out.below (by rw [G3.out]; exact Fz170.out.1)) Fz170.out.2.2.2.2.2 (by have := RI.out.2.2.2.2.1; omega) (by have := HN.out; omega) (by omega)⟩)
        clear qz17 bz17 Fz170
        refine op_valw (o := ⟨some 23, _, _, _, _, _⟩) (.slice (some ⟨gz17, 0, none⟩) 3 3) z17 rfl rfl (by rw [hz17, ← kz17]; kernel_rfl) ?_
        simp only [Act.put, List.setIfInBounds_toArray, List.set_cons_zero, List.set_cons_succ]
        clear hz17 kz17
        refine wpAny_all (rs := [7]) (by kernel_rfl) (by simp) ?_
        intro i hi
        simp only [List.mem_cons, List.not_mem_nil, or_false] at hi
        subst hi
        refine op_call (o := ⟨some 24, _, _, _, _, _⟩) 52 #[.slice (some ⟨gz17, 0, none⟩) 3 3] rfl rfl (by kernel_rfl) (((joined_sl z17 (some ⟨gz17, 0, none⟩) 3 3 [(expN ks info k).2, info, [(((k + 1) % 256 : Nat) : Int)]] Fz17.out.2.2.2.2.2.2 (by omega) (by have := HN.out; have := HI.out.1.1; have := RI.out.2.2.2.2.1; have := RI.out.2.2.2.1.1.1; simp; omega))).mono fun e z18 ⟨az18, cz18, he, sz18, qz18⟩ => ⟨.slice az18 (List.flatten [(expN ks info k).2, info, [(((k + 1) % 256 : Nat) : Int)]]).length cz18, he, ?_⟩)
        simp only [Act.put, List.setIfInBounds_toArray, List.set_cons_zero, List.set_cons_succ]
        have Fz18 := Lib.hid (show Below g3 w z18 ∧ Blk z18 g3 22 (u8l ks).toArray ∧ Own z18 (g3 + 1) (.slice va (32 * k) vc) (expN ks info k).1 ∧ Sl z18 la ln lc (expN ks info k).2 ∧ (Blk z18 gz15 22 (u8l (List.replicate 32 0)).toArray ∧ g3 < gz15) ∧ Sl z18 (some ⟨gz16, 0, none⟩) 1 1 [(((k + 1) % 256 : Nat) : Int)] ∧ PSl z18 (some ⟨gz17, 0, none⟩) 3 [(expN ks info k).2, info, [(((k + 1) % 256 : Nat) : Int)]] ∧ Sl z18 az18 (List.flatten [(expN ks info k).2, info, [(((k + 1) % 256 : Nat) : Int)]]).length cz18 (List.flatten [(expN ks info k).2, info, [(((k + 1) % 256 : Nat) : Int)]]) from ⟨Fz17.out.1.trans (qz18.mono (by have := (Fz17.out.2.1).lt; omega)), Fz17.out.2.1.below qz18, Fz17.out.2.2.1.below qz18, Fz17.out.2.2.2.1.below qz18, ⟨Fz17.out.2.2.2.2.1.1.below qz18, Fz17.out.2.2.2.2.1.2⟩, Fz17.out.2.2.2.2.2.1.below qz18, Fz17.out.2.2.2.2.2.2.below qz18, sz18⟩)
        clear qz18
        refine wpAny_all (rs := [8]) (by kernel_rfl) (by simp) ?_
        intro i hi
        simp only [List.mem_cons, List.not_mem_nil, or_false] at hi
        subst hi
        refine op_call (o := ⟨some 25, _, _, _, _, _⟩) 51 #[.slice (some ⟨g3, 0, none⟩) 32 32, .slice az18 (List.flatten [(expN ks info k).2, info, [(((k + 1) % 256 : Nat) : Int)]]).length cz18] rfl rfl (by kernel_rfl) (((refmac_any z18 (some ⟨g3, 0, none⟩) 32 32 ks az18 (List.flatten [(expN ks info k).2, info, [(((k + 1) % 256 : Nat) : Int)]]).length cz18 (List.flatten [(expN ks info k).2, info, [(((k + 1) % 256 : Nat) : Int)]]) (sl_blk Fz18.out.2.1 HKL.out HKB.out (by omega)) (by omega) Fz18.out.2.2.2.2.2.2.2 (by have := HN.out; have := HI.out.1.1; have := RI.out.2.2.2.2.1; have := RI.out.2.2.2.1.1.1; simp; omega) (HW.out.below (by rw [G3.out]; exact Fz18.out.1)))).mono fun e z19 ⟨he, qz19⟩ => ⟨.agg (u8l mb).toArray, (he.trans (by rw [HMB.out])), ?_⟩)
        simp only [Act.put, List.setIfInBounds_toArray, List.set_cons_zero, List.set_cons_succ]
        have Fz19 := Lib.hid (show Below g3 w z19 ∧ Blk z19 g3 22 (u8l ks).toArray ∧ Own z19 (g3 + 1) (.slice va (32 * k) vc) (expN ks info k).1 ∧ Sl z19 la ln lc (expN ks info k).2 ∧ (Blk z19 gz15 22 (u8l (List.replicate 32 0)).toArray ∧ g3 < gz15) ∧ Sl z19 (some ⟨gz16, 0, none⟩) 1 1 [(((k + 1) % 256 : Nat) : Int)] ∧ PSl z19 (some ⟨gz17, 0, none⟩) 3 [(expN ks info k).2, info, [(((k + 1) % 256 : Nat) : Int)]] ∧ Sl z19 az18 (List.flatten [(expN ks info k).2, info, [(((k + 1) % 256 : Nat) : Int)]]).length cz18 (List.flatten [(expN ks info k).2, info, [(((k + 1) % 256 : Nat) : Int)]]) from ⟨Fz18.out.1.trans (qz19.mono (by have := (Fz18.out.2.1).lt; omega)), Fz18.out.2.1.below qz19, Fz18.out.2.2.1.below qz19, Fz18.out.2.2.2.1.below qz19, ⟨Fz18.out.2.2.2.2.1.1.below qz19, Fz18.out.2.2.2.2.1.2⟩, Fz18.out.2.2.2.2.2.1.below qz19, Fz18.out.2.2.2.2.2.2.1.below qz19, Fz18.out.2.2.2.2.2.2.2.below qz19⟩)
        clear qz19
        refine wpAny_of_idx [10] [_] _ _ _ (by rfl) (by kernel_rfl) ?_
        obtain ⟨x4, hx4⟩ : ∃ V, V = z19.setRow gz15 (u8l mb).toArray := ⟨_, rfl⟩
        have gl : g3 < gz15 := Fz19.out.2.2.2.2.1.2
        have GL := Lib.hid gl
        have bw : Below g3 w x4 := by rw [hx4]; exact below_setRow Fz19.out.1 (by omega) _
        have X4 : Hid (Own x4 (g3 + 1) (.slice va (32 * k) vc) (expN ks info k).1 ∧ Below g3 w x4 ∧ Blk x4 g3 22 (u8l ks).toArray ∧ Blk x4 gz15 22 (u8l mb).toArray) := Lib.hid ⟨by rw [hx4]; exact own_setRow Fz19.out.2.2.1 (fun e => own_ne24 Fz19.out.2.2.1 Fz19.out.2.2.2.2.1.1 e), bw, by rw [hx4]; exact blk_setRow Fz19.out.2.1 (by omega), by rw [hx4]; exact setRow_heap _ _ _ _ _ _ Fz19.out.2.2.2.2.1.1⟩
        clear bw gl
        refine wpList_store_rowTo rfl 22 _ _ rfl rfl gz15 (u8l mb).toArray rfl rfl 22 _ Fz19.out.2.2.2.2.1.1 (by simp only [List.size_toArray, u8l_len, EN.out.2.2.1]; kernel_rfl) (by simp [u8l_len, EN.out.2.2.1]) (u8l_one _) ?_
        rw [← hx4]
        clear hx4
        go_upto_region 6 with (fail)
        refine wp_region_lit ?_
        refine wpL_pure (.slice (some ⟨gz15, 0, none⟩) 32 32) rfl (by kernel_rfl) ?_
        simp only [Act.put, List.setIfInBounds_toArray, List.set_cons_zero, List.set_cons_succ]
        refine wpL_pure (.slice (some ⟨gz15, 0, none⟩) 32 32) rfl (by kernel_rfl) ?_
        simp only [Act.put, List.setIfInBounds_toArray, List.set_cons_zero, List.set_cons_succ]
        obtain ⟨v2, x5, r1, r2, r3, r4, r5⟩ := append_own x4 (g3 + 1) (.slice va (32 * k) vc) (expN ks info k).1 mb (some ⟨gz15, 0, none⟩) 32 32 X4.out.1 (sl_blk X4.out.2.2.2 EN.out.2.2.1 EN.out.2.2.2 (by omega)).1 (by have := own_len X4.out.1; have := HK.out; have := HM.out; omega) (by have := X4.out.2.2.1.lt; omega)
        obtain ⟨ga, ca, ev, _⟩ := own_sl r2
        have EL : ((expN ks info k).1 ++ mb).length = 32 * (k + 1) := by rw [List.length_append, EN.out.2.2.1, own_len X4.out.1]; omega
        rw [EL] at ev
        subst ev
        have AP := Lib.hid r1
        have NX : Hid (32 * (k + 1) < m + 32 ∧ Own x5 (g3 + 1) (.slice ga (32 * (k + 1)) ca) (expN ks info (k + 1)).1 ∧ Below g3 w x5 ∧ Sl x5 (some ⟨gz15, 0, none⟩) 32 32 (expN ks info (k + 1)).2 ∧ 32 ≤ 32 ∧ Blk x5 g3 22 (u8l ks).toArray) := Lib.hid ⟨by have := HK.out; omega, by rw [EN.out.1]; exact r2, X4.out.2.1.trans (gb_own (X4.out.1.mono (Nat.le_succ _)) r3 (by have := X4.out.2.2.1.lt; omega)), by rw [EN.out.2.1]; exact sl_blk (X4.out.2.2.2.grown r3 (fun e => own_ne24 X4.out.1 X4.out.2.2.2 e.symm)) EN.out.2.2.1 EN.out.2.2.2 (by omega), by omega, X4.out.2.2.1.grown r3 (fun e => by have := (X4.out.1).lt g3 e.symm; omega)⟩
        clear r1 r2 r3 r4 r5 EL
        go_upto_region 7 with (fail)
        refine wp_region_lit ?_
        refine wpL_pure (.slice va (32 * k) vc) rfl (by kernel_rfl) ?_
        simp only [Act.put, List.setIfInBounds_toArray, List.set_cons_zero, List.set_cons_succ]
        refine wpL_pure (.slice (some ⟨gz15, 0, none⟩) 32 32) rfl (by kernel_rfl) ?_
        simp only [Act.put, List.setIfInBounds_toArray, List.set_cons_zero, List.set_cons_succ]
        refine wpL_value (.slice ga (32 * (k + 1)) ca) (x5) rfl (run_app _ _ _ _ _ _ _ _ _ rfl rfl rfl rfl AP.out) ?_
        simp only [Act.put, List.setIfInBounds_toArray, List.set_cons_zero, List.set_cons_succ]
        refine wpL_pure (.slice ga (32 * (k + 1)) ca) rfl (by kernel_rfl) ?_
        simp only [Act.put, List.setIfInBounds_toArray, List.set_cons_zero, List.set_cons_succ]
        go_upto_region 4 with (fail)
        refine wp_region_lit ?_
        refine wpL_pure (.int .i64 ((k + 1 : Nat) : Int)) rfl (by kernel_rfl) ?_
        simp only [Act.put, List.setIfInBounds_toArray, List.set_cons_zero, List.set_cons_succ]
        refine wpL_pure (.int .i64 ((k + 1 + 1 : Nat) : Int)) rfl (run_addi Tryd.underlying3 rfl rfl rfl _ (by have := HK.out; have := HM.out; rw [wrap_in _ (by omega) (by omega)]; omega)) ?_
        simp only [Act.put, List.setIfInBounds_toArray, List.set_cons_zero, List.set_cons_succ]
        refine wpL_pure (.int .i64 ((k + 1 + 1 : Nat) : Int)) rfl (by kernel_rfl) ?_
        simp only [Act.put, List.setIfInBounds_toArray, List.set_cons_zero, List.set_cons_succ]
        unfold wpList
        go_roundw
        case rel => first | exact ⟨k + 1, _, _, _, _, _, rfl, rfl, rfl, NX⟩ | ((repeat apply Exists.intro); exact ⟨⟨k + 1, _, _, _, _, _, rfl, rfl, rfl, NX⟩, rfl⟩)
        case measure => simp [lenOf]; have := HK.out; omega
    · have HK := Lib.hid hlt
      clear hlt
      go_upto_region 3 with (fail)
      refine wp_region_lit ?_
      refine wpL_pure (.slice va (32 * k) vc) rfl (by kernel_rfl) ?_
      simp only [Act.put, List.setIfInBounds_toArray, List.set_cons_zero, List.set_cons_succ]
      refine wpL_pure (.int .i64 ((32 * k : Nat) : Int)) rfl (by kernel_rfl) ?_
      simp only [Act.put, List.setIfInBounds_toArray, List.set_cons_zero, List.set_cons_succ]
      refine wpL_pure (.int .i64 (m : Int)) rfl (by kernel_rfl) ?_
      simp only [Act.put, List.setIfInBounds_toArray, List.set_cons_zero, List.set_cons_succ]
      refine wpL_pure (.bool false) rfl (run_lti Tryd.underlying3 rfl rfl rfl (by have := HK.out; rw [decide_eq_false_iff_not]; omega)) ?_
      simp only [Act.put, List.setIfInBounds_toArray, List.set_cons_zero, List.set_cons_succ]
      have FI : Hid (Sl wr va (32 * k) vc (expN ks info k).1 ∧ Below g3 w wr) := Lib.hid ⟨own_sl' RI.out.2.1, RI.out.2.2.1⟩
      go_upto_region 8 with (fail)
      refine wp_region_lit ?_
      refine wpL_pure (.slice va (32 * k) vc) rfl (by kernel_rfl) ?_
      simp only [Act.put, List.setIfInBounds_toArray, List.set_cons_zero, List.set_cons_succ]
      refine wpL_pure (.int .i64 (m : Int)) rfl (by kernel_rfl) ?_
      simp only [Act.put, List.setIfInBounds_toArray, List.set_cons_zero, List.set_cons_succ]
      refine wpL_pure (.slice va m vc) rfl (run_slto _ _ _ _ _ va (32 * k) vc m rfl rfl rfl (by have := FI.out.1.2.1; have := HK.out; omega) FI.out.1.2.2.1 FI.out.1.2.2.2) ?_
      simp only [Act.put, List.setIfInBounds_toArray, List.set_cons_zero, List.set_cons_succ]
      refine wpL_pure (.slice va m vc) rfl (by kernel_rfl) ?_
      simp only [Act.put, List.setIfInBounds_toArray, List.set_cons_zero, List.set_cons_succ]
      go_wp2_with fail
      go_ret
      exact ⟨va, vc, rfl, by have h := FI.out.1.takeN m (by have := HK.out; omega); unfold expS; rw [show (m + 31) / 32 = k by have := HK.out; have := RI.out.1; omega]; exact h, by rw [G3.out]; exact FI.out.2, fun p hp => by have := (RI.out.2.1.lt p.block (by subst hp; rfl)).1; have := G3.out; omega⟩
end Go.Proofs.YtfhjfpgfbeiacaaDoor.Ha
