/- Same; Turn. -/
import Derived.Test.YtoeojgdolanggaaP5
namespace Go.Proofs.Ytoeojgdolanggaa
open Go Go.RowKit
set_option maxRecDepth 100000
theorem flat_set (ls : List Ltr) (k : Nat) (l m : Ltr) (hl : ls[k]? = some l) (hf : m.f = l.f) (ht : m.t = l.t) : flat (ls.set k m) = (flat ls).set (k * 3 + 2) m.v := by
  induction ls generalizing k with
  | nil => simp at hl
  | cons q ls ih =>
    cases k with
    | zero =>
      simp at hl
      subst hl
      simp [flat, Ltr.cells, hf, ht]
    | succ k =>
      have e : (k + 1) * 3 = k * 3 + 2 + 1 := by omega
      have h := ih k (by simpa using hl)
      simp [flat, Ltr.cells] at h ⊢
      rw [e]
      simp [h]
theorem net_put {w W : World} {b gs sc k : Nat} {ls : List Ltr} {l : Ltr} {u : Value} {xs : List Int} (h : NetSt W b (.slice (some ⟨gs, 0, none⟩) ls.length sc) ls) (hb : Below w.heap.size w W) (hl : ls[k]? = some l) (hu : Own W w.heap.size u xs) (hx : xs.length ≤ 16384) (hB : b + 1 ≤ w.heap.size) :
    NetSt (W.setCell ⟨gs, k * 3 + 2, none⟩ u) b (.slice (some ⟨gs, 0, none⟩) ls.length sc) (ls.set k (⟨l.f, l.t, u, xs⟩ : Ltr)) ∧ FrN w (W.setCell ⟨gs, k * 3 + 2, none⟩ u) b (.slice (some ⟨gs, 0, none⟩) ls.length sc) (.slice (some ⟨gs, 0, none⟩) ls.length sc) := by
  have r := World.ownsRow.stored h.2.1.1 (k * 3 + 2) u
  have ONE : u.oneCell' = true := by obtain ⟨a, c, e⟩ := hu.slice; rw [e]; rfl
  have nb : gs ≠ b := fun e => row_ne h.2.1 h.1 (by decide) (by rw [← e]; rfl)
  have hbs : b + 1 ≤ W.heap.size := h.1.lt
  have oo : ∀ {B : Nat} {v : Value} {ys : List Int}, Own W B v ys → Own (W.setCell ⟨gs, k * 3 + 2, none⟩ u) B v ys := fun ho => ho.other _ _ (fun e => bytes_ne h.2.1 ho gs e rfl)
  refine ⟨⟨h.1.other _ _ (fun e => nb e.symm), ?_, fun m hm => ?_⟩, ?_⟩
  · rw [flat_set ls k l ⟨l.f, l.t, u, xs⟩ hl rfl rfl, List.length_set]
    exact ⟨r.1, fun x hx => (List.mem_or_eq_of_mem_set hx).elim (h.2.1.2 x) (fun e => by rw [e]; exact ONE)⟩
  · rcases List.mem_or_eq_of_mem_set hm with hm | hm
    · exact ⟨oo (h.2.2 m hm).1, (h.2.2 m hm).2⟩
    · subst hm
      exact ⟨(oo hu).mono hB, hx⟩
  · exact FrN.grown (w1 := W) hb r.2 (.inl rfl)
theorem ref_put {W0 W : World} {r gs sc k : Nat} {rs : List Ltr} {l : Ltr} {u : Value} {xs : List Int} (h : RefSt W0 W r (.slice (some ⟨gs, 0, none⟩) rs.length sc) rs) (hl : rs[k]? = some l) (hu : Inp W0 u xs) (hx : xs.length ≤ 16384) :
    RefSt W0 (W.setCell ⟨gs, k * 3 + 2, none⟩ u) r (.slice (some ⟨gs, 0, none⟩) rs.length sc) (rs.set k (⟨l.f, l.t, u, xs⟩ : Ltr)) ∧ FrN W (W.setCell ⟨gs, k * 3 + 2, none⟩ u) r (.slice (some ⟨gs, 0, none⟩) rs.length sc) (.slice (some ⟨gs, 0, none⟩) rs.length sc) := by
  have r1 := World.ownsRow.stored h.2.2.1.1 (k * 3 + 2) u
  have ONE : u.oneCell' = true := by obtain ⟨a, n, c, e, _⟩ := hu; rw [e]; rfl
  have nb : gs ≠ r := fun e => row_ne h.2.2.1 h.1 (by decide) (by rw [← e]; rfl)
  refine ⟨⟨h.1.other _ _ (fun e => nb e.symm), h.2.1, ?_, fun m hm => ?_⟩, ?_⟩
  · rw [flat_set rs k l ⟨l.f, l.t, u, xs⟩ hl rfl rfl, List.length_set]
    exact ⟨r1.1, fun x hx => (List.mem_or_eq_of_mem_set hx).elim (h.2.2.1.2 x) (fun e => by rw [e]; exact ONE)⟩
  · rcases List.mem_or_eq_of_mem_set hm with hm | hm
    · exact h.2.2.2 m hm
    · subst hm
      exact ⟨hu, hx⟩
  · exact FrN.grown (w1 := W) (Below.refl _ _) r1.2 (.inl rfl)
attribute [local irreducible] wpList
set_option maxHeartbeats 2000000 in
theorem same_any (w : World) (f1 t1 f2 t2 : Int) (a b : Option Addr) (n c m d : Nat) (xs ys : List Int) (hx : Row w a n xs) (hy : Row w b m ys) :
    Calls Try.prog 24 #[.agg #[.int .i64 f1, .int .i64 t1, .slice a n c], .agg #[.int .i64 f2, .int .i64 t2, .slice b m d]] w fun e w' => e = .returned (.bool (decide (f1 = f2 ∧ t1 = t2 ∧ xs = ys))) ∧ Below w.heap.size w w' := by
  have HX := Lib.hid hx
  have HY := Lib.hid hy
  clear hx hy
  go_enter Try.func24, Try.ntmps24
  go_upto_region 0 with (fail)
  refine wp_region_lit ?_
  obtain ⟨w1, hw1⟩ : ∃ V, V = w.alloc (.cells #[.int .i64 f1, .int .i64 t1, .slice a n c] 43) := ⟨_, rfl⟩
  obtain ⟨g1, hg1⟩ : ∃ q, w.heap.size = q := ⟨_, rfl⟩
  refine wpL_value (.pointer (some ⟨g1, 0, none⟩)) (w1) rfl (by rw [hw1, ← hg1]; kernel_rfl) ?_
  simp only [Act.put, List.setIfInBounds_toArray, List.set_cons_zero, List.set_cons_succ]
  obtain ⟨w2, hw2⟩ : ∃ V, V = w1.alloc (.cells #[.int .i64 f2, .int .i64 t2, .slice b m d] 43) := ⟨_, rfl⟩
  obtain ⟨g2, hg2⟩ : ∃ q, w1.heap.size = q := ⟨_, rfl⟩
  refine wpL_value (.pointer (some ⟨g2, 0, none⟩)) (w2) rfl (by rw [hw2, ← hg2]; kernel_rfl) ?_
  simp only [Act.put, List.setIfInBounds_toArray, List.set_cons_zero, List.set_cons_succ]
  refine wpL_pure (.bool false) rfl (by kernel_rfl) ?_
  simp only [Act.put, List.setIfInBounds_toArray, List.set_cons_zero, List.set_cons_succ]
  have F : Hid (Blk w2 g1 43 #[.int .i64 f1, .int .i64 t1, .slice a n c] ∧ Blk w2 g2 43 #[.int .i64 f2, .int .i64 t2, .slice b m d] ∧ Below w.heap.size w w2 ∧ Row w2 a n xs ∧ Row w2 b m ys) := Lib.hid (by
    have h1 : Below w.heap.size w w1 := by rw [hw1]; exact (Below.refl _ _).alloc (Nat.le_refl _) _
    have h2 : Below w1.heap.size w1 w2 := by rw [hw2]; exact (Below.refl _ _).alloc (Nat.le_refl _) _
    have b1 : Blk w1 g1 43 #[.int .i64 f1, .int .i64 t1, .slice a n c] := by rw [hw1, ← hg1]; exact Blk.new _ _ _
    have h3 := h1.trans (h2.mono h1.size)
    exact ⟨b1.below h2, by rw [hw2, ← hg2]; exact Blk.new _ _ _, h3, HX.out.keep h3, HY.out.keep h3⟩)
  clear hw1 hg1 hw2 hg2
  unfold wpList
  by_cases h0 : f1 = f2
  · have H0 := Lib.hid h0
    clear h0
    by_cases h1 : t1 = t2
    · have H1 := Lib.hid h1
      clear h1
      obtain ⟨z, hz⟩ : ∃ z, z = decide (xs = ys) := ⟨_, rfl⟩
      have HZ := Lib.hid hz
      clear hz
      go_upto_region 1 with (fail)
      refine wp_region_lit ?_
      refine wpL_pure (.pointer (some ⟨g1, 0, none⟩)) rfl (by kernel_rfl) ?_
      simp only [Act.put, List.setIfInBounds_toArray, List.set_cons_zero, List.set_cons_succ]
      refine wpL_pure (.int .i64 f1) rfl (run_load_one _ _ _ 3 _ _ rfl (g1) (0) rfl (by rw [F.out.1.cell]; rfl) (by kernel_rfl)) ?_
      simp only [Act.put, List.setIfInBounds_toArray, List.set_cons_zero, List.set_cons_succ]
      refine wpL_pure (.pointer (some ⟨g2, 0, none⟩)) rfl (by kernel_rfl) ?_
      simp only [Act.put, List.setIfInBounds_toArray, List.set_cons_zero, List.set_cons_succ]
      refine wpL_pure (.int .i64 f2) rfl (run_load_one _ _ _ 3 _ _ rfl (g2) (0) rfl (by rw [F.out.2.1.cell]; rfl) (by kernel_rfl)) ?_
      simp only [Act.put, List.setIfInBounds_toArray, List.set_cons_zero, List.set_cons_succ]
      refine wpL_pure (.bool true) rfl (run_eqi Try.underlying3 rfl rfl rfl (by have := H0.out; rw [decide_eq_true_eq]; omega)) ?_
      simp only [Act.put, List.setIfInBounds_toArray, List.set_cons_zero, List.set_cons_succ]
      refine wpL_pure (.bool true) rfl (by kernel_rfl) ?_
      simp only [Act.put, List.setIfInBounds_toArray, List.set_cons_zero, List.set_cons_succ]
      refine wpL_pure (.pointer (some ⟨g1, 1, none⟩)) rfl (by kernel_rfl) ?_
      simp only [Act.put, List.setIfInBounds_toArray, List.set_cons_zero, List.set_cons_succ]
      refine wpL_pure (.int .i64 t1) rfl (run_load_one _ _ _ 3 _ _ rfl (g1) (1) rfl (by rw [F.out.1.cell]; rfl) (by kernel_rfl)) ?_
      simp only [Act.put, List.setIfInBounds_toArray, List.set_cons_zero, List.set_cons_succ]
      refine wpL_pure (.pointer (some ⟨g2, 1, none⟩)) rfl (by kernel_rfl) ?_
      simp only [Act.put, List.setIfInBounds_toArray, List.set_cons_zero, List.set_cons_succ]
      refine wpL_pure (.int .i64 t2) rfl (run_load_one _ _ _ 3 _ _ rfl (g2) (1) rfl (by rw [F.out.2.1.cell]; rfl) (by kernel_rfl)) ?_
      simp only [Act.put, List.setIfInBounds_toArray, List.set_cons_zero, List.set_cons_succ]
      refine wpL_pure (.bool true) rfl (run_eqi Try.underlying3 rfl rfl rfl (by have := H1.out; rw [decide_eq_true_eq]; omega)) ?_
      simp only [Act.put, List.setIfInBounds_toArray, List.set_cons_zero, List.set_cons_succ]
      refine wpL_pure (.bool true) rfl (by kernel_rfl) ?_
      simp only [Act.put, List.setIfInBounds_toArray, List.set_cons_zero, List.set_cons_succ]
      refine wpL_pure (.bool true) rfl (by kernel_rfl) ?_
      simp only [Act.put, List.setIfInBounds_toArray, List.set_cons_zero, List.set_cons_succ]
      refine wpL_pure (.pointer (some ⟨g1, 2, none⟩)) rfl (by kernel_rfl) ?_
      simp only [Act.put, List.setIfInBounds_toArray, List.set_cons_zero, List.set_cons_succ]
      refine wpL_pure (.slice a n c) rfl (run_load_one _ _ _ 30 _ _ rfl (g1) (2) rfl (by rw [F.out.1.cell]; rfl) (by kernel_rfl)) ?_
      simp only [Act.put, List.setIfInBounds_toArray, List.set_cons_zero, List.set_cons_succ]
      refine wpL_pure (.string (strOfNums xs)) rfl (run_conv_str _ _ _ _ a n c xs rfl rfl F.out.2.2.2.1) ?_
      simp only [Act.put, List.setIfInBounds_toArray, List.set_cons_zero, List.set_cons_succ]
      refine wpL_pure (.pointer (some ⟨g2, 2, none⟩)) rfl (by kernel_rfl) ?_
      simp only [Act.put, List.setIfInBounds_toArray, List.set_cons_zero, List.set_cons_succ]
      refine wpL_pure (.slice b m d) rfl (run_load_one _ _ _ 30 _ _ rfl (g2) (2) rfl (by rw [F.out.2.1.cell]; rfl) (by kernel_rfl)) ?_
      simp only [Act.put, List.setIfInBounds_toArray, List.set_cons_zero, List.set_cons_succ]
      refine wpL_pure (.string (strOfNums ys)) rfl (run_conv_str _ _ _ _ b m d ys rfl rfl F.out.2.2.2.2) ?_
      simp only [Act.put, List.setIfInBounds_toArray, List.set_cons_zero, List.set_cons_succ]
      refine wpL_pure (.bool z) rfl (run_str_eql _ _ _ _ _ xs ys z rfl rfl rfl HZ.out F.out.2.2.2.1.2.2.1 F.out.2.2.2.2.2.2.1) ?_
      simp only [Act.put, List.setIfInBounds_toArray, List.set_cons_zero, List.set_cons_succ]
      refine wpL_pure (.bool z) rfl (by kernel_rfl) ?_
      simp only [Act.put, List.setIfInBounds_toArray, List.set_cons_zero, List.set_cons_succ]
      refine wpL_pure (.bool z) rfl (by kernel_rfl) ?_
      simp only [Act.put, List.setIfInBounds_toArray, List.set_cons_zero, List.set_cons_succ]
      go_wp2_with fail
      go_ret
      exact ⟨congrArg (fun z => Ending.returned (.bool z)) (show z = decide _ from by rw [HZ.out]; exact decide_eq_decide.2 ⟨fun q => ⟨H0.out, H1.out, q⟩, fun q => q.2.2⟩), F.out.2.2.1⟩
    · have H1 := Lib.hid h1
      clear h1
      go_upto_region 1 with (fail)
      refine wp_region_lit ?_
      refine wpL_pure (.pointer (some ⟨g1, 0, none⟩)) rfl (by kernel_rfl) ?_
      simp only [Act.put, List.setIfInBounds_toArray, List.set_cons_zero, List.set_cons_succ]
      refine wpL_pure (.int .i64 f1) rfl (run_load_one _ _ _ 3 _ _ rfl (g1) (0) rfl (by rw [F.out.1.cell]; rfl) (by kernel_rfl)) ?_
      simp only [Act.put, List.setIfInBounds_toArray, List.set_cons_zero, List.set_cons_succ]
      refine wpL_pure (.pointer (some ⟨g2, 0, none⟩)) rfl (by kernel_rfl) ?_
      simp only [Act.put, List.setIfInBounds_toArray, List.set_cons_zero, List.set_cons_succ]
      refine wpL_pure (.int .i64 f2) rfl (run_load_one _ _ _ 3 _ _ rfl (g2) (0) rfl (by rw [F.out.2.1.cell]; rfl) (by kernel_rfl)) ?_
      simp only [Act.put, List.setIfInBounds_toArray, List.set_cons_zero, List.set_cons_succ]
      refine wpL_pure (.bool true) rfl (run_eqi Try.underlying3 rfl rfl rfl (by have := H0.out; rw [decide_eq_true_eq]; omega)) ?_
      simp only [Act.put, List.setIfInBounds_toArray, List.set_cons_zero, List.set_cons_succ]
      refine wpL_pure (.bool true) rfl (by kernel_rfl) ?_
      simp only [Act.put, List.setIfInBounds_toArray, List.set_cons_zero, List.set_cons_succ]
      refine wpL_pure (.pointer (some ⟨g1, 1, none⟩)) rfl (by kernel_rfl) ?_
      simp only [Act.put, List.setIfInBounds_toArray, List.set_cons_zero, List.set_cons_succ]
      refine wpL_pure (.int .i64 t1) rfl (run_load_one _ _ _ 3 _ _ rfl (g1) (1) rfl (by rw [F.out.1.cell]; rfl) (by kernel_rfl)) ?_
      simp only [Act.put, List.setIfInBounds_toArray, List.set_cons_zero, List.set_cons_succ]
      refine wpL_pure (.pointer (some ⟨g2, 1, none⟩)) rfl (by kernel_rfl) ?_
      simp only [Act.put, List.setIfInBounds_toArray, List.set_cons_zero, List.set_cons_succ]
      refine wpL_pure (.int .i64 t2) rfl (run_load_one _ _ _ 3 _ _ rfl (g2) (1) rfl (by rw [F.out.2.1.cell]; rfl) (by kernel_rfl)) ?_
      simp only [Act.put, List.setIfInBounds_toArray, List.set_cons_zero, List.set_cons_succ]
      refine wpL_pure (.bool false) rfl (run_eqi Try.underlying3 rfl rfl rfl (by have := H1.out; rw [decide_eq_false_iff_not]; omega)) ?_
      simp only [Act.put, List.setIfInBounds_toArray, List.set_cons_zero, List.set_cons_succ]
      refine wpL_pure (.bool false) rfl (by kernel_rfl) ?_
      simp only [Act.put, List.setIfInBounds_toArray, List.set_cons_zero, List.set_cons_succ]
      refine wpL_pure (.bool false) rfl (by kernel_rfl) ?_
      simp only [Act.put, List.setIfInBounds_toArray, List.set_cons_zero, List.set_cons_succ]
      refine wpL_skip (by kernel_rfl) ?_
      simp only [Act.put, List.setIfInBounds_toArray, List.set_cons_zero, List.set_cons_succ]
      refine wpL_skip (by kernel_rfl) ?_
      simp only [Act.put, List.setIfInBounds_toArray, List.set_cons_zero, List.set_cons_succ]
      refine wpL_skip (by kernel_rfl) ?_
      simp only [Act.put, List.setIfInBounds_toArray, List.set_cons_zero, List.set_cons_succ]
      refine wpL_skip (by kernel_rfl) ?_
      simp only [Act.put, List.setIfInBounds_toArray, List.set_cons_zero, List.set_cons_succ]
      refine wpL_skip (by kernel_rfl) ?_
      simp only [Act.put, List.setIfInBounds_toArray, List.set_cons_zero, List.set_cons_succ]
      refine wpL_skip (by kernel_rfl) ?_
      simp only [Act.put, List.setIfInBounds_toArray, List.set_cons_zero, List.set_cons_succ]
      refine wpL_skip (by kernel_rfl) ?_
      simp only [Act.put, List.setIfInBounds_toArray, List.set_cons_zero, List.set_cons_succ]
      refine wpL_pure (.bool false) rfl (by kernel_rfl) ?_
      simp only [Act.put, List.setIfInBounds_toArray, List.set_cons_zero, List.set_cons_succ]
      refine wpL_pure (.bool false) rfl (by kernel_rfl) ?_
      simp only [Act.put, List.setIfInBounds_toArray, List.set_cons_zero, List.set_cons_succ]
      go_wp2_with fail
      go_ret
      exact ⟨congrArg (fun z => Ending.returned (.bool z)) (show false = decide _ from (decide_eq_false (fun q => H1.out q.2.1)).symm), F.out.2.2.1⟩
  · have H0 := Lib.hid h0
    clear h0
    go_upto_region 1 with (fail)
    refine wp_region_lit ?_
    refine wpL_pure (.pointer (some ⟨g1, 0, none⟩)) rfl (by kernel_rfl) ?_
    simp only [Act.put, List.setIfInBounds_toArray, List.set_cons_zero, List.set_cons_succ]
    refine wpL_pure (.int .i64 f1) rfl (run_load_one _ _ _ 3 _ _ rfl (g1) (0) rfl (by rw [F.out.1.cell]; rfl) (by kernel_rfl)) ?_
    simp only [Act.put, List.setIfInBounds_toArray, List.set_cons_zero, List.set_cons_succ]
    refine wpL_pure (.pointer (some ⟨g2, 0, none⟩)) rfl (by kernel_rfl) ?_
    simp only [Act.put, List.setIfInBounds_toArray, List.set_cons_zero, List.set_cons_succ]
    refine wpL_pure (.int .i64 f2) rfl (run_load_one _ _ _ 3 _ _ rfl (g2) (0) rfl (by rw [F.out.2.1.cell]; rfl) (by kernel_rfl)) ?_
    simp only [Act.put, List.setIfInBounds_toArray, List.set_cons_zero, List.set_cons_succ]
    refine wpL_pure (.bool false) rfl (run_eqi Try.underlying3 rfl rfl rfl (by have := H0.out; rw [decide_eq_false_iff_not]; omega)) ?_
    simp only [Act.put, List.setIfInBounds_toArray, List.set_cons_zero, List.set_cons_succ]
    refine wpL_pure (.bool false) rfl (by kernel_rfl) ?_
    simp only [Act.put, List.setIfInBounds_toArray, List.set_cons_zero, List.set_cons_succ]
    refine wpL_skip (by kernel_rfl) ?_
    simp only [Act.put, List.setIfInBounds_toArray, List.set_cons_zero, List.set_cons_succ]
    refine wpL_skip (by kernel_rfl) ?_
    simp only [Act.put, List.setIfInBounds_toArray, List.set_cons_zero, List.set_cons_succ]
    refine wpL_skip (by kernel_rfl) ?_
    simp only [Act.put, List.setIfInBounds_toArray, List.set_cons_zero, List.set_cons_succ]
    refine wpL_skip (by kernel_rfl) ?_
    simp only [Act.put, List.setIfInBounds_toArray, List.set_cons_zero, List.set_cons_succ]
    refine wpL_skip (by kernel_rfl) ?_
    simp only [Act.put, List.setIfInBounds_toArray, List.set_cons_zero, List.set_cons_succ]
    refine wpL_pure (.bool false) rfl (by kernel_rfl) ?_
    simp only [Act.put, List.setIfInBounds_toArray, List.set_cons_zero, List.set_cons_succ]
    refine wpL_pure (.bool false) rfl (by kernel_rfl) ?_
    simp only [Act.put, List.setIfInBounds_toArray, List.set_cons_zero, List.set_cons_succ]
    refine wpL_skip (by kernel_rfl) ?_
    simp only [Act.put, List.setIfInBounds_toArray, List.set_cons_zero, List.set_cons_succ]
    refine wpL_skip (by kernel_rfl) ?_
    simp only [Act.put, List.setIfInBounds_toArray, List.set_cons_zero, List.set_cons_succ]
    refine wpL_skip (by kernel_rfl) ?_
    simp only [Act.put, List.setIfInBounds_toArray, List.set_cons_zero, List.set_cons_succ]
    refine wpL_skip (by kernel_rfl) ?_
    simp only [Act.put, List.setIfInBounds_toArray, List.set_cons_zero, List.set_cons_succ]
    refine wpL_skip (by kernel_rfl) ?_
    simp only [Act.put, List.setIfInBounds_toArray, List.set_cons_zero, List.set_cons_succ]
    refine wpL_skip (by kernel_rfl) ?_
    simp only [Act.put, List.setIfInBounds_toArray, List.set_cons_zero, List.set_cons_succ]
    refine wpL_skip (by kernel_rfl) ?_
    simp only [Act.put, List.setIfInBounds_toArray, List.set_cons_zero, List.set_cons_succ]
    refine wpL_pure (.bool false) rfl (by kernel_rfl) ?_
    simp only [Act.put, List.setIfInBounds_toArray, List.set_cons_zero, List.set_cons_succ]
    refine wpL_pure (.bool false) rfl (by kernel_rfl) ?_
    simp only [Act.put, List.setIfInBounds_toArray, List.set_cons_zero, List.set_cons_succ]
    go_wp2_with fail
    go_ret
    exact ⟨congrArg (fun z => Ending.returned (.bool z)) (show false = decide _ from (decide_eq_false (fun q => H0.out q.1)).symm), F.out.2.2.1⟩

def PTurn (w : World) (b : Nat) (s : Value) (ls : List Ltr) (i : Int) (n : Nat) (xs : List Int) (e : Ending) (w' : World) : Prop :=
  (16384 < n ∧ e = .returned (.bool false) ∧ w = w') ∨
  (n ≤ 16384 ∧ e = .returned (.bool true) ∧ ∃ l u, ls[plc i ls.length]? = some l ∧ NetSt w' b s (ls.set (plc i ls.length) (⟨l.f, l.t, u, xs⟩ : Ltr)) ∧ FrN w w' b s s)
theorem turn_none (w : World) (b : Nat) (i : Int) (s : Value) (a : Option Addr) (n c : Nat) (h : NetSt w b s []) : Calls Try.prog 26 #[.pointer (some ⟨b, 0, none⟩), .int .i64 i, .slice a n c] w fun e w' => e = .returned (.bool false) ∧ w = w' := by
  obtain ⟨sa, sc, rfl, _⟩ := h.2.1.slice
  have H : Hid (NetSt w b (.slice sa 0 sc) []) := Lib.hid h
  clear h
  show Calls Try.prog 26 #[.pointer (some ⟨b, 0, none⟩), .int .i64 i, .slice a n c] w fun e w' => e = .returned (.bool false) ∧ w = w'
  go_enter Try.func26, Try.ntmps26
  go_upto_region 0 with (fail)
  refine wp_region_lit ?_
  refine wpL_pure (.bool false) rfl (by kernel_rfl) ?_
  simp only [Act.put, List.setIfInBounds_toArray, List.set_cons_zero, List.set_cons_succ]
  go_upto_region 1 with (fail)
  refine wp_region_lit ?_
  refine wpL_pure (.pointer (some ⟨b, 0, none⟩)) rfl (by kernel_rfl) ?_
  simp only [Act.put, List.setIfInBounds_toArray, List.set_cons_zero, List.set_cons_succ]
  refine wpL_pure (.pointer (some ⟨b, 0, none⟩)) rfl (by kernel_rfl) ?_
  simp only [Act.put, List.setIfInBounds_toArray, List.set_cons_zero, List.set_cons_succ]
  refine wpL_pure (.pointer (some ⟨b, 0, none⟩)) rfl (by kernel_rfl) ?_
  simp only [Act.put, List.setIfInBounds_toArray, List.set_cons_zero, List.set_cons_succ]
  refine wpL_pure (.slice sa 0 sc) rfl (run_load_one _ _ _ 39 _ _ rfl (b) (0) rfl (by rw [H.out.1.cell]; rfl) (by kernel_rfl)) ?_
  simp only [Act.put, List.setIfInBounds_toArray, List.set_cons_zero, List.set_cons_succ]
  refine wpL_pure (.int .i64 (0 : Int)) rfl (by kernel_rfl) ?_
  simp only [Act.put, List.setIfInBounds_toArray, List.set_cons_zero, List.set_cons_succ]
  refine wpL_pure (.bool true) rfl (by kernel_rfl) ?_
  simp only [Act.put, List.setIfInBounds_toArray, List.set_cons_zero, List.set_cons_succ]
  refine wpL_pure (.bool true) rfl (by kernel_rfl) ?_
  simp only [Act.put, List.setIfInBounds_toArray, List.set_cons_zero, List.set_cons_succ]
  refine wpL_skip (by kernel_rfl) ?_
  simp only [Act.put, List.setIfInBounds_toArray, List.set_cons_zero, List.set_cons_succ]
  refine wpL_skip (by kernel_rfl) ?_
  simp only [Act.put, List.setIfInBounds_toArray, List.set_cons_zero, List.set_cons_succ]
  refine wpL_skip (by kernel_rfl) ?_
  simp only [Act.put, List.setIfInBounds_toArray, List.set_cons_zero, List.set_cons_succ]
  refine wpL_pure (.bool true) rfl (by kernel_rfl) ?_
  simp only [Act.put, List.setIfInBounds_toArray, List.set_cons_zero, List.set_cons_succ]
  go_upto_region 2 with (fail)
  refine wp_region_lit ?_
  refine wpL_pure (.bool false) rfl (by kernel_rfl) ?_
  simp only [Act.put, List.setIfInBounds_toArray, List.set_cons_zero, List.set_cons_succ]
  go_wp2_with fail
  go_ret
  exact ⟨rfl, rfl⟩

set_option maxHeartbeats 4000000 in
theorem turn_any (w : World) (b : Nat) (i : Int) (s : Value) (ls : List Ltr) (a : Option Addr) (n c : Nat) (xs : List Int) (h : NetSt w b s ls) (hn : 0 < ls.length) (h3 : ls.length ≤ 300) (hr : Row w a n xs ∧ (a = none → c = 0)) : Calls Try.prog 26 #[.pointer (some ⟨b, 0, none⟩), .int .i64 i, .slice a n c] w fun e w' => PTurn w b s ls i n xs e w' := by
  obtain ⟨k, hk⟩ : ∃ k, plc i ls.length = k := ⟨_, rfl⟩
  have hlt : k < ls.length := by rw [← hk]; exact plc_lt i _ hn
  obtain ⟨l, hl⟩ : ∃ l, ls[k]? = some l := ⟨_, List.getElem?_eq_getElem hlt⟩
  rcases h.2.1.forms with ⟨_, e, _⟩ | ⟨gs, sc, cur, rfl, _⟩
  · omega
  have H := Lib.hid h
  have HE := Lib.hid hk
  have HL := Lib.hid hl
  have HR := Lib.hid hr
  have HN : Hid (k < ls.length ∧ ls.length ≤ 300) := Lib.hid ⟨hlt, h3⟩
  clear h hn h3 hr hlt hl hk
  go_enter Try.func26, Try.ntmps26
  go_upto_region 0 with (fail)
  refine wp_region_lit ?_
  refine wpL_pure (.bool false) rfl (by kernel_rfl) ?_
  simp only [Act.put, List.setIfInBounds_toArray, List.set_cons_zero, List.set_cons_succ]
  by_cases h0 : 16384 < n
  · have H0 := Lib.hid h0
    clear h0
    go_upto_region 1 with (fail)
    refine wp_region_lit ?_
    refine wpL_pure (.pointer (some ⟨b, 0, none⟩)) rfl (by kernel_rfl) ?_
    simp only [Act.put, List.setIfInBounds_toArray, List.set_cons_zero, List.set_cons_succ]
    refine wpL_pure (.pointer (some ⟨b, 0, none⟩)) rfl (by kernel_rfl) ?_
    simp only [Act.put, List.setIfInBounds_toArray, List.set_cons_zero, List.set_cons_succ]
    refine wpL_pure (.pointer (some ⟨b, 0, none⟩)) rfl (by kernel_rfl) ?_
    simp only [Act.put, List.setIfInBounds_toArray, List.set_cons_zero, List.set_cons_succ]
    refine wpL_pure (.slice (some ⟨gs, 0, none⟩) ls.length sc) rfl (run_load_one _ _ _ 39 _ _ rfl (b) (0) rfl (by rw [H.out.1.cell]; rfl) (by kernel_rfl)) ?_
    simp only [Act.put, List.setIfInBounds_toArray, List.set_cons_zero, List.set_cons_succ]
    refine wpL_pure (.int .i64 (ls.length : Int)) rfl (by kernel_rfl) ?_
    simp only [Act.put, List.setIfInBounds_toArray, List.set_cons_zero, List.set_cons_succ]
    refine wpL_pure (.bool false) rfl (run_eqi Try.underlying3 rfl rfl rfl (by have := HN.out; rw [decide_eq_false_iff_not]; omega)) ?_
    simp only [Act.put, List.setIfInBounds_toArray, List.set_cons_zero, List.set_cons_succ]
    refine wpL_pure (.bool false) rfl (by kernel_rfl) ?_
    simp only [Act.put, List.setIfInBounds_toArray, List.set_cons_zero, List.set_cons_succ]
    refine wpL_pure (.slice a n c) rfl (by kernel_rfl) ?_
    simp only [Act.put, List.setIfInBounds_toArray, List.set_cons_zero, List.set_cons_succ]
    refine wpL_pure (.int .i64 (n : Int)) rfl (by kernel_rfl) ?_
    simp only [Act.put, List.setIfInBounds_toArray, List.set_cons_zero, List.set_cons_succ]
    refine wpL_pure (.bool true) rfl (run_gti Try.underlying3 rfl rfl rfl (by have := H0.out; rw [decide_eq_true_eq]; omega)) ?_
    simp only [Act.put, List.setIfInBounds_toArray, List.set_cons_zero, List.set_cons_succ]
    refine wpL_pure (.bool true) rfl (by kernel_rfl) ?_
    simp only [Act.put, List.setIfInBounds_toArray, List.set_cons_zero, List.set_cons_succ]
    go_upto_region 2 with (fail)
    refine wp_region_lit ?_
    refine wpL_pure (.bool false) rfl (by kernel_rfl) ?_
    simp only [Act.put, List.setIfInBounds_toArray, List.set_cons_zero, List.set_cons_succ]
    go_wp2_with fail
    go_ret
    exact .inl ⟨H0.out, rfl, rfl⟩
  · have H0 := Lib.hid h0
    clear h0
    go_upto_region 1 with (fail)
    refine wp_region_lit ?_
    refine wpL_pure (.pointer (some ⟨b, 0, none⟩)) rfl (by kernel_rfl) ?_
    simp only [Act.put, List.setIfInBounds_toArray, List.set_cons_zero, List.set_cons_succ]
    refine wpL_pure (.pointer (some ⟨b, 0, none⟩)) rfl (by kernel_rfl) ?_
    simp only [Act.put, List.setIfInBounds_toArray, List.set_cons_zero, List.set_cons_succ]
    refine wpL_pure (.pointer (some ⟨b, 0, none⟩)) rfl (by kernel_rfl) ?_
    simp only [Act.put, List.setIfInBounds_toArray, List.set_cons_zero, List.set_cons_succ]
    refine wpL_pure (.slice (some ⟨gs, 0, none⟩) ls.length sc) rfl (run_load_one _ _ _ 39 _ _ rfl (b) (0) rfl (by rw [H.out.1.cell]; rfl) (by kernel_rfl)) ?_
    simp only [Act.put, List.setIfInBounds_toArray, List.set_cons_zero, List.set_cons_succ]
    refine wpL_pure (.int .i64 (ls.length : Int)) rfl (by kernel_rfl) ?_
    simp only [Act.put, List.setIfInBounds_toArray, List.set_cons_zero, List.set_cons_succ]
    refine wpL_pure (.bool false) rfl (run_eqi Try.underlying3 rfl rfl rfl (by have := HN.out; rw [decide_eq_false_iff_not]; omega)) ?_
    simp only [Act.put, List.setIfInBounds_toArray, List.set_cons_zero, List.set_cons_succ]
    refine wpL_pure (.bool false) rfl (by kernel_rfl) ?_
    simp only [Act.put, List.setIfInBounds_toArray, List.set_cons_zero, List.set_cons_succ]
    refine wpL_pure (.slice a n c) rfl (by kernel_rfl) ?_
    simp only [Act.put, List.setIfInBounds_toArray, List.set_cons_zero, List.set_cons_succ]
    refine wpL_pure (.int .i64 (n : Int)) rfl (by kernel_rfl) ?_
    simp only [Act.put, List.setIfInBounds_toArray, List.set_cons_zero, List.set_cons_succ]
    refine wpL_pure (.bool false) rfl (run_gti Try.underlying3 rfl rfl rfl (by have := H0.out; rw [decide_eq_false_iff_not]; omega)) ?_
    simp only [Act.put, List.setIfInBounds_toArray, List.set_cons_zero, List.set_cons_succ]
    refine wpL_pure (.bool false) rfl (by kernel_rfl) ?_
    simp only [Act.put, List.setIfInBounds_toArray, List.set_cons_zero, List.set_cons_succ]
    go_upto_region 3 with (fail)
    refine region_anyT (fun X => X.cell? ⟨b, 0, none⟩ = some (.slice (some ⟨gs, 0, none⟩) ls.length sc)) (by kernel_rfl) 12 12 rfl ?_
    refine wpAnyT_take (i := 0) (oi := ⟨some 18, _, _, _, _, _⟩) (v := .pointer (some ⟨b, 0, none⟩)) rfl (by kernel_rfl) (by kernel_rfl) (by kernel_rfl) (fun _ _ _ h => h) (by kernel_rfl) (Or.inl ⟨rfl, fun w h => by kernel_rfl⟩) ((by rw [H.out.1.cell]; rfl : w.cell? ⟨b, 0, none⟩ = _)) ?_
    simp only [Act.put, List.setIfInBounds_toArray, List.set_cons_zero, List.set_cons_succ]
    refine wpAnyT_take (i := 1) (oi := ⟨some 19, _, _, _, _, _⟩) (v := .pointer (some ⟨b, 0, none⟩)) rfl (by kernel_rfl) (by kernel_rfl) (by kernel_rfl) (fun _ _ _ h => h) (by kernel_rfl) (Or.inl ⟨rfl, fun w h => by kernel_rfl⟩) ((by rw [H.out.1.cell]; rfl : w.cell? ⟨b, 0, none⟩ = _)) ?_
    simp only [Act.put, List.setIfInBounds_toArray, List.set_cons_zero, List.set_cons_succ]
    refine wpAnyT_take (i := 2) (oi := ⟨some 20, _, _, _, _, _⟩) (v := .pointer (some ⟨b, 0, none⟩)) rfl (by kernel_rfl) (by kernel_rfl) (by kernel_rfl) (fun _ _ _ h => h) (by kernel_rfl) (Or.inl ⟨rfl, fun w h => by kernel_rfl⟩) ((by rw [H.out.1.cell]; rfl : w.cell? ⟨b, 0, none⟩ = _)) ?_
    simp only [Act.put, List.setIfInBounds_toArray, List.set_cons_zero, List.set_cons_succ]
    refine wpAnyT_take (i := 3) (oi := ⟨some 21, _, _, _, _, _⟩) (v := .slice (some ⟨gs, 0, none⟩) ls.length sc) rfl (by kernel_rfl) (by kernel_rfl) (by kernel_rfl) (fun _ _ _ h => h) (by kernel_rfl) (Or.inl ⟨rfl, fun w h => run_load_one _ _ _ 39 _ _ rfl (b) (0) rfl (h) (by kernel_rfl)⟩) ((by rw [H.out.1.cell]; rfl : w.cell? ⟨b, 0, none⟩ = _)) ?_
    simp only [Act.put, List.setIfInBounds_toArray, List.set_cons_zero, List.set_cons_succ]
    refine wpAnyT_take (i := 4) (oi := ⟨some 22, _, _, _, _, _⟩) (v := .pointer (some ⟨b, 0, none⟩)) rfl (by kernel_rfl) (by kernel_rfl) (by kernel_rfl) (fun _ _ _ h => h) (by kernel_rfl) (Or.inl ⟨rfl, fun w h => by kernel_rfl⟩) ((by rw [H.out.1.cell]; rfl : w.cell? ⟨b, 0, none⟩ = _)) ?_
    simp only [Act.put, List.setIfInBounds_toArray, List.set_cons_zero, List.set_cons_succ]
    refine wpAnyT_take (i := 5) (oi := ⟨some 23, _, _, _, _, _⟩) (v := .int .i64 i) rfl (by kernel_rfl) (by kernel_rfl) (by kernel_rfl) (fun _ _ _ h => h) (by kernel_rfl) (Or.inl ⟨rfl, fun w h => by kernel_rfl⟩) ((by rw [H.out.1.cell]; rfl : w.cell? ⟨b, 0, none⟩ = _)) ?_
    simp only [Act.put, List.setIfInBounds_toArray, List.set_cons_zero, List.set_cons_succ]
    refine wpAnyT_take (i := 7) (oi := ⟨some 25, _, _, _, _, _⟩) (v := .slice a n c) rfl (by kernel_rfl) (by kernel_rfl) (by kernel_rfl) (fun _ _ _ h => h) (by kernel_rfl) (Or.inl ⟨rfl, fun w h => by kernel_rfl⟩) ((by rw [H.out.1.cell]; rfl : w.cell? ⟨b, 0, none⟩ = _)) ?_
    simp only [Act.put, List.setIfInBounds_toArray, List.set_cons_zero, List.set_cons_succ]
    refine wpAnyT_one (i := 6) (by kernel_rfl) ?_
    refine op_call (o := ⟨some 24, _, _, _, _, _⟩) 31 #[.pointer (some ⟨b, 0, none⟩), .int .i64 i] rfl rfl (by kernel_rfl) ((place_any w.drew b i _ ls (H.out.below (Below.drew (Below.refl _ _))) (by have := HN.out; omega)).mono fun e X1 hx => ?_)
    obtain ⟨rfl, hx⟩ := hx
    subst hx
    refine ⟨.int .i64 ((plc i ls.length : Nat) : Int), rfl, ?_⟩
    refine ⟨fun _ => (by rw [H.out.1.cell]; rfl : w.cell? ⟨b, 0, none⟩ = _), ?_⟩
    simp only [Act.put, List.setIfInBounds_toArray, List.set_cons_zero, List.set_cons_succ]
    try rw [HE.out]
    refine wpAnyT_one (i := 8) (by kernel_rfl) ?_
    refine op_call (o := ⟨some 26, _, _, _, _, _⟩) 34 #[.slice a n c] rfl rfl (by kernel_rfl) ((clone_any w.drew a n c xs HR.out.1 (by have := H0.out; omega) HR.out.2).mono fun e X1 hx => ?_)
    obtain ⟨u, rfl, u1, u2, _⟩ := hx
    have u2 : Below w.heap.size w X1 := (Below.drew (Below.refl _ _)).trans u2
    have F2 : Hid (NetSt X1 b (.slice (some ⟨gs, 0, none⟩) ls.length sc) ls ∧ Below w.heap.size w X1 ∧ Own X1 w.heap.size u xs) := Lib.hid ⟨H.out.below u2, u2, u1⟩
    clear u1 u2
    refine ⟨u, rfl, ?_⟩
    refine ⟨fun _ => by rw [F2.out.1.1.cell]; rfl, ?_⟩
    simp only [Act.put, List.setIfInBounds_toArray, List.set_cons_zero, List.set_cons_succ]
    refine wpAnyT_take (i := 9) (oi := ⟨some 27, _, _, _, _, _⟩) (v := .pointer (some ⟨gs, k * 3, none⟩)) rfl (by kernel_rfl) (by kernel_rfl) (by kernel_rfl) (fun _ _ _ h => h) (by kernel_rfl) (Or.inl ⟨rfl, fun w h => run_idxl _ _ _ _ _ gs ls.length sc k rfl rfl rfl (by have := HN.out; omega) (by have := HN.out; unfold maxLen; omega)⟩) (by rw [F2.out.1.1.cell]; rfl) ?_
    simp only [Act.put, List.setIfInBounds_toArray, List.set_cons_zero, List.set_cons_succ]
    refine wpAnyT_take (i := 10) (oi := ⟨some 28, _, _, _, _, _⟩) (v := .pointer (some ⟨gs, k * 3 + 2, none⟩)) rfl (by kernel_rfl) (by kernel_rfl) (by kernel_rfl) (fun _ _ _ h => h) (by kernel_rfl) (Or.inl ⟨rfl, fun w h => by kernel_rfl⟩) (by rw [F2.out.1.1.cell]; rfl) ?_
    simp only [Act.put, List.setIfInBounds_toArray, List.set_cons_zero, List.set_cons_succ]
    refine wpAnyT_one (i := 11) (by kernel_rfl) ?_
    have ONE : u.oneCell' = true := by obtain ⟨a, c, e⟩ := F2.out.2.2.slice; rw [e]; rfl
    obtain ⟨W3, hW3⟩ : ∃ V, V = X1.setCell ⟨gs, k * 3 + 2, none⟩ u := ⟨_, rfl⟩
    have F3 : Hid (NetSt W3 b (.slice (some ⟨gs, 0, none⟩) ls.length sc) (ls.set k (⟨l.f, l.t, u, xs⟩ : Ltr)) ∧ FrN w W3 b (.slice (some ⟨gs, 0, none⟩) ls.length sc) (.slice (some ⟨gs, 0, none⟩) ls.length sc)) := Lib.hid (by rw [hW3]; exact net_put F2.out.1 F2.out.2.1 HL.out F2.out.2.2 (by have := H0.out; rw [HR.out.1.1]; omega) H.out.1.lt)
    refine op_skip (o := ⟨none, _, _, _, _, _⟩) W3 rfl rfl (by rw [hW3]; exact run_store_one _ _ _ 30 _ _ rfl gs (k * 3 + 2) rfl _ rfl ONE size30 (by rw [F2.out.1.2.1.cell _ (by have := HN.out; omega), List.getElem?_eq_getElem (by rw [flat_len]; have := HN.out; omega)]; rfl) (F2.out.1.2.1.1.frozenAt _)) ?_
    refine ⟨fun _ => by rw [F3.out.1.1.cell]; rfl, ?_⟩
    simp only [Act.put, List.setIfInBounds_toArray, List.set_cons_zero, List.set_cons_succ]
    clear hW3 F2 ONE
    refine wpAnyT_done (by kernel_rfl) ?_ _
    go_upto_region 4 with (fail)
    refine wp_region_lit ?_
    refine wpL_pure (.bool true) rfl (by kernel_rfl) ?_
    simp only [Act.put, List.setIfInBounds_toArray, List.set_cons_zero, List.set_cons_succ]
    go_wp2_with fail
    go_ret
    exact .inr ⟨by have := H0.out; omega, rfl, l, u, by rw [HE.out]; exact HL.out, by rw [HE.out]; exact F3.out.1, F3.out.2⟩

end Go.Proofs.Ytoeojgdolanggaa
