/- Keys of epochs. -/
import Derived.Test.YtfhjfpgfbeiacaaDoorK4
namespace Go.Proofs.YtfhjfpgfbeiacaaDoor.Ha
open Go Go.RowKit
set_option maxRecDepth 100000
theorem results_ct {P : Program} {fn : Func} {p u : Tmp} {ty : TypeId} (h : fn.results = #[.cell p ty, .tmp u]) (tmps : Array Value) (w : World) (g : Nat) (t : TypeId) (cs : Array Value) (fr : Nat × Nat) (d : TypeDesc)
    (hp : tmps.getD p undef = .pointer (some ⟨g, 0, none⟩)) (hg : w.heap[g]? = some (.cells cs t fr)) (hu : P.underlying ty = some d) (hd : (match d with | .struct _ | .array _ _ => true | _ => false) = true) (hi : (P.info? ty).map (·.size) = some cs.size) :
    (results fn tmps).run P w = .ok (.tuple #[.agg cs, tmps.getD u undef]) w := by
  rw [results_cell_tmp h, hp]
  simp [asAddr, run_loadVar_row w g t ty cs fr d hg hu hd hi]
def bsB : List Int := [106, 97, 108, 111, 117, 115, 105, 101, 32, 98, 97, 99, 107]
def stepD (k : List Int) : List Int := macS k (bsB ++ [1])
theorem stepD_len (k : List Int) : (stepD k).length = 32 := macS_len _ _
def itD : Nat → List Int → List Int
  | 0, k => k
  | n + 1, k => stepD (itD n k)
theorem itD_len {ks : List Int} (h : ks.length = 32) : ∀ n, (itD n ks).length = 32
  | 0 => h
  | n + 1 => macS_len _ _
theorem itD_byte {ks : List Int} (h : ∀ x ∈ ks, 0 ≤ x ∧ x ≤ 255) : ∀ n, ∀ x ∈ itD n ks, 0 ≤ x ∧ x ≤ 255
  | 0 => h
  | n + 1 => macS_byte _ _
theorem itD_add (ks : List Int) (b : Nat) : ∀ a, itD a (itD b ks) = itD (a + b) ks
  | 0 => by rw [Nat.zero_add]; rfl
  | a + 1 => by rw [itD, itD_add ks b a, show a + 1 + b = (a + b) + 1 by omega, itD]
theorem derive_bs (w : World) (ks : List Int) (hk : ks.length = 32) (hkb : ∀ x ∈ ks, 0 ≤ x ∧ x ≤ 255) (hT : TabK w) (hH : TabH w) : Calls Tryd.prog 24 #[.agg (u8l ks).toArray, .string { data := #[106, 97, 108, 111, 117, 115, 105, 101, 32, 98, 97, 99, 107] }] w fun e w' => e = .returned (.agg (u8l (stepD ks)).toArray) ∧ Below w.heap.size w w' := by
  have q := derive_any w ks bsB hk hkb (by decide) (by decide) hT hH
  have e : (.string { data := #[106, 97, 108, 111, 117, 115, 105, 101, 32, 98, 97, 99, 107] } : Value) = .string (strOfNums bsB) := by kernel_rfl
  rw [e]
  exact q
theorem refderive_bs (w : World) (ks : List Int) (hk : ks.length = 32) (hkb : ∀ x ∈ ks, 0 ≤ x ∧ x ≤ 255) (hT : TabW w) : Calls Tryd.prog 25 #[.agg (u8l ks).toArray, .string { data := #[106, 97, 108, 111, 117, 115, 105, 101, 32, 98, 97, 99, 107] }] w fun e w' => e = .returned (.agg (u8l (stepD ks)).toArray) ∧ Below w.heap.size w w' := by
  have q := refderive_any w ks bsB hk hkb (by decide) (by decide) hT
  have e : (.string { data := #[106, 97, 108, 111, 117, 115, 105, 101, 32, 98, 97, 99, 107] } : Value) = .string (strOfNums bsB) := by kernel_rfl
  rw [e]
  exact q
/-- what Back comes to. -/
def bkV (ks : List Int) (x y : Int) : List Int × Int := if y < 0 ∨ x < y ∨ 255 < x then (List.replicate 32 0, 1) else (itD (x - y).toNat ks, 0)
def bkR (ks : List Int) (x y : Int) : Value := if y < 0 ∨ x < y ∨ 255 < x then .tuple #[.agg (u8l (List.replicate 32 0)).toArray, .int .i64 1] else .tuple #[.agg (u8l (itD (x - y).toNat ks)).toArray, .int .i64 0]
theorem bk_eq (ks : List Int) (x y : Int) : bkR ks x y = .tuple #[.agg (u8l (bkV ks x y).1).toArray, .int .i64 (bkV ks x y).2] := by
  unfold bkR bkV
  split <;> rfl
theorem bkV_len {ks : List Int} {x y : Int} (h : ks.length = 32) : (bkV ks x y).1.length = 32 := by
  unfold bkV
  split
  · exact List.length_replicate
  · exact itD_len h _
attribute [local irreducible] wpList
set_option maxHeartbeats 4000000 in
theorem back_any (w : World) (ks : List Int) (hk : ks.length = 32) (hkb : ∀ x ∈ ks, 0 ≤ x ∧ x ≤ 255) (x y : Int) (hT : TabK w) (hH : TabH w) :
    Calls Tryd.prog 10 #[.agg (u8l ks).toArray, .int .i64 x, .int .i64 y] w fun e w' => e = .returned (bkR ks x y) ∧ Below w.heap.size w w' := by
  have HKL := Lib.hid hk
  have HKB := Lib.hid hkb
  have HT := Lib.hid hT
  have HH := Lib.hid hH
  clear hk hkb hT hH
  go_enter Tryd.func10, Tryd.ntmps10
  obtain ⟨w1, hw1⟩ : ∃ V, V = w.alloc (.cells (u8l ks).toArray 23) := ⟨_, rfl⟩
  obtain ⟨w2, hw2⟩ : ∃ V, V = w1.alloc (.cells (u8l (List.replicate 32 0)).toArray 23) := ⟨_, rfl⟩
  have B2 : Hid (Blk w2 w.heap.size 23 (u8l ks).toArray ∧ Blk w2 w1.heap.size 23 (u8l (List.replicate 32 0)).toArray ∧ Below w.heap.size w w2 ∧ w.heap.size < w1.heap.size) := Lib.hid (by
    have q1 : Below w.heap.size w w1 := by rw [hw1]; exact (Below.refl _ _).alloc (Nat.le_refl _) _
    have q2 : Below w1.heap.size w1 w2 := by rw [hw2]; exact (Below.refl _ _).alloc (Nat.le_refl _) _
    have b1 : Blk w1 w.heap.size 23 (u8l ks).toArray := by rw [hw1]; exact Blk.new _ _ _
    exact ⟨b1.below q2, by rw [hw2]; exact Blk.new _ _ _, q1.trans (q2.mono q1.size), b1.lt⟩)
  go_upto_region 0 with (fail)
  refine wp_region_lit ?_
  refine wpL_value (.pointer (some ⟨w.heap.size, 0, none⟩)) (w1) rfl (run_box26 _ _ _ _ _ ks rfl rfl HKL.out hw1) ?_
  simp only [Act.put, List.setIfInBounds_toArray, List.set_cons_zero, List.set_cons_succ]
  refine wpL_value (.pointer (some ⟨w1.heap.size, 0, none⟩)) (w2) rfl (by rw [hw2]; kernel_rfl) ?_
  simp only [Act.put, List.setIfInBounds_toArray, List.set_cons_zero, List.set_cons_succ]
  refine wpL_pure (.int .i64 0) rfl (by kernel_rfl) ?_
  simp only [Act.put, List.setIfInBounds_toArray, List.set_cons_zero, List.set_cons_succ]
  clear hw1 hw2
  obtain ⟨g2, h2⟩ : ∃ q, w.heap.size = q := ⟨_, rfl⟩
  have G2 : Hid (w.heap.size = g2) := Lib.hid h2
  rw [h2] at B2
  try rw [h2]
  clear h2
  generalize w1.heap.size = g4 at B2 ⊢
  by_cases h0 : y < 0
  · have H0 := Lib.hid h0
    clear h0
    go_upto_region 1 with (fail)
    refine wp_region_lit ?_
    refine wpL_pure (.int .i64 y) rfl (by kernel_rfl) ?_
    simp only [Act.put, List.setIfInBounds_toArray, List.set_cons_zero, List.set_cons_succ]
    refine wpL_pure (.bool true) rfl (run_lti Tryd.underlying3 rfl rfl rfl (by have := H0.out; rw [decide_eq_true_eq]; omega)) ?_
    simp only [Act.put, List.setIfInBounds_toArray, List.set_cons_zero, List.set_cons_succ]
    refine wpL_pure (.bool true) rfl (by kernel_rfl) ?_
    simp only [Act.put, List.setIfInBounds_toArray, List.set_cons_zero, List.set_cons_succ]
    refine wpL_skip (by kernel_rfl) ?_
    simp only [Act.put, List.setIfInBounds_toArray, List.set_cons_zero, List.set_cons_succ]
    refine wpL_skip (by kernel_rfl) ?_
    simp only [Act.put, List.setIfInBounds_toArray, List.set_cons_zero, List.set_cons_succ]
    refine wpL_skip (by kernel_rfl) ?_
    simp only [Act.put, List.setIfInBounds_toArray, List.set_cons_zero, List.set_cons_succ]
    refine wpL_pure (.bool true) rfl (by kernel_rfl) ?_
    simp only [Act.put, List.setIfInBounds_toArray, List.set_cons_zero, List.set_cons_succ]
    refine wpL_pure (.bool true) rfl (by kernel_rfl) ?_
    simp only [Act.put, List.setIfInBounds_toArray, List.set_cons_zero, List.set_cons_succ]
    refine wpL_skip (by kernel_rfl) ?_
    simp only [Act.put, List.setIfInBounds_toArray, List.set_cons_zero, List.set_cons_succ]
    refine wpL_skip (by kernel_rfl) ?_
    simp only [Act.put, List.setIfInBounds_toArray, List.set_cons_zero, List.set_cons_succ]
    refine wpL_pure (.bool true) rfl (by kernel_rfl) ?_
    simp only [Act.put, List.setIfInBounds_toArray, List.set_cons_zero, List.set_cons_succ]
    go_upto_region 2 with (fail)
    refine wp_region_lit ?_
    refine wpL_pure (.agg (u8l (List.replicate 32 0)).toArray) rfl (by kernel_rfl) ?_
    simp only [Act.put, List.setIfInBounds_toArray, List.set_cons_zero, List.set_cons_succ]
    refine wpList_store_rowTo rfl 23 _ _ rfl rfl g4 (u8l (List.replicate 32 0)).toArray rfl rfl 23 _ B2.out.2.1 (by simp only [List.size_toArray, u8l_len, List.length_replicate]; kernel_rfl) (by simp [u8l_len, List.length_replicate]) (u8l_one _) ?_
    refine wpL_pure (.int .i64 1) rfl (by kernel_rfl) ?_
    simp only [Act.put, List.setIfInBounds_toArray, List.set_cons_zero, List.set_cons_succ]
    go_wp2_with fail
    refine bodyPost_ret (results_ct rfl _ _ g4 23 _ (0, 0) _ rfl (setRow_heap _ _ _ _ _ _ B2.out.2.1) Tryd.underlying23 rfl (by kernel_rfl)) rfl ?_
    exact ⟨by have := H0.out; unfold bkR; rw [if_pos (by omega)]; rfl, by rw [G2.out]; exact below_setRow B2.out.2.2.1 (by have := B2.out.2.2.2; omega) _⟩
  · have H0 := Lib.hid h0
    clear h0
    by_cases h1 : x < y
    · have H1 := Lib.hid h1
      clear h1
      go_upto_region 1 with (fail)
      refine wp_region_lit ?_
      refine wpL_pure (.int .i64 y) rfl (by kernel_rfl) ?_
      simp only [Act.put, List.setIfInBounds_toArray, List.set_cons_zero, List.set_cons_succ]
      refine wpL_pure (.bool false) rfl (run_lti Tryd.underlying3 rfl rfl rfl (by have := H0.out; rw [decide_eq_false_iff_not]; omega)) ?_
      simp only [Act.put, List.setIfInBounds_toArray, List.set_cons_zero, List.set_cons_succ]
      refine wpL_pure (.bool false) rfl (by kernel_rfl) ?_
      simp only [Act.put, List.setIfInBounds_toArray, List.set_cons_zero, List.set_cons_succ]
      refine wpL_pure (.int .i64 y) rfl (by kernel_rfl) ?_
      simp only [Act.put, List.setIfInBounds_toArray, List.set_cons_zero, List.set_cons_succ]
      refine wpL_pure (.int .i64 x) rfl (by kernel_rfl) ?_
      simp only [Act.put, List.setIfInBounds_toArray, List.set_cons_zero, List.set_cons_succ]
      refine wpL_pure (.bool true) rfl (run_gti Tryd.underlying3 rfl rfl rfl (by have := H1.out; rw [decide_eq_true_eq]; omega)) ?_
      simp only [Act.put, List.setIfInBounds_toArray, List.set_cons_zero, List.set_cons_succ]
      refine wpL_pure (.bool true) rfl (by kernel_rfl) ?_
      simp only [Act.put, List.setIfInBounds_toArray, List.set_cons_zero, List.set_cons_succ]
      refine wpL_pure (.bool true) rfl (by kernel_rfl) ?_
      simp only [Act.put, List.setIfInBounds_toArray, List.set_cons_zero, List.set_cons_succ]
      refine wpL_skip (by kernel_rfl) ?_
      simp only [Act.put, List.setIfInBounds_toArray, List.set_cons_zero, List.set_cons_succ]
      refine wpL_skip (by kernel_rfl) ?_
      simp only [Act.put, List.setIfInBounds_toArray, List.set_cons_zero, List.set_cons_succ]
      refine wpL_pure (.bool true) rfl (by kernel_rfl) ?_
      simp only [Act.put, List.setIfInBounds_toArray, List.set_cons_zero, List.set_cons_succ]
      go_upto_region 2 with (fail)
      refine wp_region_lit ?_
      refine wpL_pure (.agg (u8l (List.replicate 32 0)).toArray) rfl (by kernel_rfl) ?_
      simp only [Act.put, List.setIfInBounds_toArray, List.set_cons_zero, List.set_cons_succ]
      refine wpList_store_rowTo rfl 23 _ _ rfl rfl g4 (u8l (List.replicate 32 0)).toArray rfl rfl 23 _ B2.out.2.1 (by simp only [List.size_toArray, u8l_len, List.length_replicate]; kernel_rfl) (by simp [u8l_len, List.length_replicate]) (u8l_one _) ?_
      refine wpL_pure (.int .i64 1) rfl (by kernel_rfl) ?_
      simp only [Act.put, List.setIfInBounds_toArray, List.set_cons_zero, List.set_cons_succ]
      go_wp2_with fail
      refine bodyPost_ret (results_ct rfl _ _ g4 23 _ (0, 0) _ rfl (setRow_heap _ _ _ _ _ _ B2.out.2.1) Tryd.underlying23 rfl (by kernel_rfl)) rfl ?_
      exact ⟨by have := H1.out; unfold bkR; rw [if_pos (by omega)]; rfl, by rw [G2.out]; exact below_setRow B2.out.2.2.1 (by have := B2.out.2.2.2; omega) _⟩
    · have H1 := Lib.hid h1
      clear h1
      by_cases h3 : 255 < x
      · have H3 := Lib.hid h3
        clear h3
        go_upto_region 1 with (fail)
        refine wp_region_lit ?_
        refine wpL_pure (.int .i64 y) rfl (by kernel_rfl) ?_
        simp only [Act.put, List.setIfInBounds_toArray, List.set_cons_zero, List.set_cons_succ]
        refine wpL_pure (.bool false) rfl (run_lti Tryd.underlying3 rfl rfl rfl (by have := H0.out; rw [decide_eq_false_iff_not]; omega)) ?_
        simp only [Act.put, List.setIfInBounds_toArray, List.set_cons_zero, List.set_cons_succ]
        refine wpL_pure (.bool false) rfl (by kernel_rfl) ?_
        simp only [Act.put, List.setIfInBounds_toArray, List.set_cons_zero, List.set_cons_succ]
        refine wpL_pure (.int .i64 y) rfl (by kernel_rfl) ?_
        simp only [Act.put, List.setIfInBounds_toArray, List.set_cons_zero, List.set_cons_succ]
        refine wpL_pure (.int .i64 x) rfl (by kernel_rfl) ?_
        simp only [Act.put, List.setIfInBounds_toArray, List.set_cons_zero, List.set_cons_succ]
        refine wpL_pure (.bool false) rfl (run_gti Tryd.underlying3 rfl rfl rfl (by have := H1.out; rw [decide_eq_false_iff_not]; omega)) ?_
        simp only [Act.put, List.setIfInBounds_toArray, List.set_cons_zero, List.set_cons_succ]
        refine wpL_pure (.bool false) rfl (by kernel_rfl) ?_
        simp only [Act.put, List.setIfInBounds_toArray, List.set_cons_zero, List.set_cons_succ]
        refine wpL_pure (.bool false) rfl (by kernel_rfl) ?_
        simp only [Act.put, List.setIfInBounds_toArray, List.set_cons_zero, List.set_cons_succ]
        refine wpL_pure (.int .i64 x) rfl (by kernel_rfl) ?_
        simp only [Act.put, List.setIfInBounds_toArray, List.set_cons_zero, List.set_cons_succ]
        refine wpL_pure (.bool true) rfl (run_gti Tryd.underlying3 rfl rfl rfl (by have := H3.out; rw [decide_eq_true_eq]; omega)) ?_
        simp only [Act.put, List.setIfInBounds_toArray, List.set_cons_zero, List.set_cons_succ]
        refine wpL_pure (.bool true) rfl (by kernel_rfl) ?_
        simp only [Act.put, List.setIfInBounds_toArray, List.set_cons_zero, List.set_cons_succ]
        go_upto_region 2 with (fail)
        refine wp_region_lit ?_
        refine wpL_pure (.agg (u8l (List.replicate 32 0)).toArray) rfl (by kernel_rfl) ?_
        simp only [Act.put, List.setIfInBounds_toArray, List.set_cons_zero, List.set_cons_succ]
        refine wpList_store_rowTo rfl 23 _ _ rfl rfl g4 (u8l (List.replicate 32 0)).toArray rfl rfl 23 _ B2.out.2.1 (by simp only [List.size_toArray, u8l_len, List.length_replicate]; kernel_rfl) (by simp [u8l_len, List.length_replicate]) (u8l_one _) ?_
        refine wpL_pure (.int .i64 1) rfl (by kernel_rfl) ?_
        simp only [Act.put, List.setIfInBounds_toArray, List.set_cons_zero, List.set_cons_succ]
        go_wp2_with fail
        refine bodyPost_ret (results_ct rfl _ _ g4 23 _ (0, 0) _ rfl (setRow_heap _ _ _ _ _ _ B2.out.2.1) Tryd.underlying23 rfl (by kernel_rfl)) rfl ?_
        exact ⟨by have := H3.out; unfold bkR; rw [if_pos (by omega)]; rfl, by rw [G2.out]; exact below_setRow B2.out.2.2.1 (by have := B2.out.2.2.2; omega) _⟩
      · have H3 := Lib.hid h3
        clear h3
        obtain ⟨n, hn⟩ : ∃ n : Nat, x - y = (n : Int) := ⟨(x - y).toNat, by have := H1.out; omega⟩
        have HN : Hid (x - y = (n : Int) ∧ n ≤ 255) := Lib.hid ⟨hn, by have := H0.out; have := H3.out; omega⟩
        clear hn
        go_upto_region 1 with (fail)
        refine wp_region_lit ?_
        refine wpL_pure (.int .i64 y) rfl (by kernel_rfl) ?_
        simp only [Act.put, List.setIfInBounds_toArray, List.set_cons_zero, List.set_cons_succ]
        refine wpL_pure (.bool false) rfl (run_lti Tryd.underlying3 rfl rfl rfl (by have := H0.out; rw [decide_eq_false_iff_not]; omega)) ?_
        simp only [Act.put, List.setIfInBounds_toArray, List.set_cons_zero, List.set_cons_succ]
        refine wpL_pure (.bool false) rfl (by kernel_rfl) ?_
        simp only [Act.put, List.setIfInBounds_toArray, List.set_cons_zero, List.set_cons_succ]
        refine wpL_pure (.int .i64 y) rfl (by kernel_rfl) ?_
        simp only [Act.put, List.setIfInBounds_toArray, List.set_cons_zero, List.set_cons_succ]
        refine wpL_pure (.int .i64 x) rfl (by kernel_rfl) ?_
        simp only [Act.put, List.setIfInBounds_toArray, List.set_cons_zero, List.set_cons_succ]
        refine wpL_pure (.bool false) rfl (run_gti Tryd.underlying3 rfl rfl rfl (by have := H1.out; rw [decide_eq_false_iff_not]; omega)) ?_
        simp only [Act.put, List.setIfInBounds_toArray, List.set_cons_zero, List.set_cons_succ]
        refine wpL_pure (.bool false) rfl (by kernel_rfl) ?_
        simp only [Act.put, List.setIfInBounds_toArray, List.set_cons_zero, List.set_cons_succ]
        refine wpL_pure (.bool false) rfl (by kernel_rfl) ?_
        simp only [Act.put, List.setIfInBounds_toArray, List.set_cons_zero, List.set_cons_succ]
        refine wpL_pure (.int .i64 x) rfl (by kernel_rfl) ?_
        simp only [Act.put, List.setIfInBounds_toArray, List.set_cons_zero, List.set_cons_succ]
        refine wpL_pure (.bool false) rfl (run_gti Tryd.underlying3 rfl rfl rfl (by have := H3.out; rw [decide_eq_false_iff_not]; omega)) ?_
        simp only [Act.put, List.setIfInBounds_toArray, List.set_cons_zero, List.set_cons_succ]
        refine wpL_pure (.bool false) rfl (by kernel_rfl) ?_
        simp only [Act.put, List.setIfInBounds_toArray, List.set_cons_zero, List.set_cons_succ]
        go_upto_region 3 with (fail)
        refine wp_region_lit ?_
        refine wpL_pure (.int .i64 x) rfl (by kernel_rfl) ?_
        simp only [Act.put, List.setIfInBounds_toArray, List.set_cons_zero, List.set_cons_succ]
        refine wpL_pure (.int .i64 y) rfl (by kernel_rfl) ?_
        simp only [Act.put, List.setIfInBounds_toArray, List.set_cons_zero, List.set_cons_succ]
        refine wpL_pure (.int .i64 (n : Int)) rfl (run_subi Tryd.underlying3 rfl rfl rfl _ (by rw [HN.out.1]; have := HN.out.2; exact wrap_in _ (by omega) (by omega))) ?_
        simp only [Act.put, List.setIfInBounds_toArray, List.set_cons_zero, List.set_cons_succ]
        refine wpL_pure (.int .i64 0) rfl (by kernel_rfl) ?_
        simp only [Act.put, List.setIfInBounds_toArray, List.set_cons_zero, List.set_cons_succ]
        go_wp2_with fail
        go_loopw [23] (fun s wr => ∃ k : Nat, s = .int .i64 (k : Int) ∧ Hid (k ≤ n ∧ Blk wr g2 23 (u8l (itD k ks)).toArray ∧ Blk wr g4 23 (u8l (List.replicate 32 0)).toArray ∧ Below g2 w wr)) (fun s _ => n - (intOf s).toNat)
        case atStart => exact ⟨0, rfl, Lib.hid ⟨Nat.zero_le _, B2.out.1, B2.out.2.1, B2.out.2.2.1⟩⟩
        case round =>
          obtain ⟨k, rfl, RI⟩ := hrel
          obtain ⟨kk, hkk⟩ : ∃ q, itD k ks = q := ⟨_, rfl⟩
          have KK : Hid (itD k ks = kk ∧ kk.length = 32 ∧ ∀ x ∈ kk, 0 ≤ x ∧ x ≤ 255) := Lib.hid ⟨hkk, by rw [← hkk]; exact itD_len HKL.out k, by rw [← hkk]; exact itD_byte HKB.out k⟩
          rw [hkk] at RI
          clear hkk
          by_cases hlt : k < n
          · have HK := Lib.hid hlt
            clear hlt
            go_upto_region 4 with (fail)
            refine wp_region_lit ?_
            refine wpL_pure (.bool true) rfl (run_lti Tryd.underlying3 rfl rfl rfl (by have := HK.out; rw [decide_eq_true_eq]; omega)) ?_
            simp only [Act.put, List.setIfInBounds_toArray, List.set_cons_zero, List.set_cons_succ]
            go_upto_region 5 with (fail)
            refine wp_region_lit ?_
            refine wpL_pure (.agg (u8l kk).toArray) rfl (run_load_mid _ _ _ 23 _ rfl g2 0 rfl (u8l kk) _ (blk_range RI.out.2.1) Tryd.underlying23 rfl (by simp only [u8l_len, KK.out.2.1]; kernel_rfl)) ?_
            simp only [Act.put, List.setIfInBounds_toArray, List.set_cons_zero, List.set_cons_succ]
            refine wpL_call 24 #[.agg (u8l kk).toArray, .string { data := #[106, 97, 108, 111, 117, 115, 105, 101, 32, 98, 97, 99, 107] }] rfl (by kernel_rfl) (((derive_bs wr kk KK.out.2.1 KK.out.2.2 (HT.out.below (by rw [G2.out]; exact RI.out.2.2.2)) (HH.out.below (by rw [G2.out]; exact RI.out.2.2.2)))).mono fun e w5 ⟨he, hb⟩ => ⟨.agg (u8l (stepD kk)).toArray, he, ?_⟩)
            simp only [Act.put, List.setIfInBounds_toArray, List.set_cons_zero, List.set_cons_succ]
            have B5 : Hid (Blk w5 g2 23 (u8l kk).toArray ∧ Blk w5 g4 23 (u8l (List.replicate 32 0)).toArray ∧ Below g2 w w5) := Lib.hid ⟨RI.out.2.1.below hb, RI.out.2.2.1.below hb, RI.out.2.2.2.trans (hb.mono (by have := RI.out.2.1.lt; omega))⟩
            clear hb
            refine wpList_store_rowTo rfl 23 _ _ rfl rfl g2 (u8l (stepD kk)).toArray rfl rfl 23 _ B5.out.1 (by simp only [List.size_toArray, u8l_len, stepD_len, KK.out.2.1]; kernel_rfl) (by simp [u8l_len, stepD_len, KK.out.2.1]) (u8l_one _) ?_
            obtain ⟨w6, hw6⟩ : ∃ V, V = w5.setRow g2 (u8l (stepD kk)).toArray := ⟨_, rfl⟩
            rw [← hw6]
            have NX : Hid (k + 1 ≤ n ∧ Blk w6 g2 23 (u8l (itD (k + 1) ks)).toArray ∧ Blk w6 g4 23 (u8l (List.replicate 32 0)).toArray ∧ Below g2 w w6) := Lib.hid (by rw [hw6, itD, KK.out.1]; exact ⟨HK.out, setRow_heap _ _ _ _ _ _ B5.out.1, (setRow_other _ _ _ _ (by have := B2.out.2.2.2; omega)).trans B5.out.2.1, below_setRow B5.out.2.2 (Nat.le_refl _) _⟩)
            clear hw6 B5
            go_upto_region 6 with (fail)
            refine wp_region_lit ?_
            refine wpL_pure (.int .i64 ((k + 1 : Nat) : Int)) rfl (run_addi Tryd.underlying3 rfl rfl rfl _ (by have := HK.out; have := HN.out.2; rw [wrap_in _ (by omega) (by omega)]; omega)) ?_
            simp only [Act.put, List.setIfInBounds_toArray, List.set_cons_zero, List.set_cons_succ]
            refine wpL_pure (.int .i64 ((k + 1 : Nat) : Int)) rfl (by kernel_rfl) ?_
            simp only [Act.put, List.setIfInBounds_toArray, List.set_cons_zero, List.set_cons_succ]
            unfold wpList
            go_roundw
            case rel => first | exact ⟨k + 1, rfl, NX⟩ | ((repeat apply Exists.intro); exact ⟨⟨k + 1, rfl, NX⟩, rfl⟩)
            case measure => simp [intOf]; have := HK.out; omega
          · have HK := Lib.hid hlt
            clear hlt
            go_upto_region 4 with (fail)
            refine wp_region_lit ?_
            refine wpL_pure (.bool false) rfl (run_lti Tryd.underlying3 rfl rfl rfl (by have := HK.out; rw [decide_eq_false_iff_not]; omega)) ?_
            simp only [Act.put, List.setIfInBounds_toArray, List.set_cons_zero, List.set_cons_succ]
            go_upto_region 7 with (fail)
            refine wp_region_lit ?_
            refine wpL_pure (.agg (u8l kk).toArray) rfl (run_load_mid _ _ _ 23 _ rfl g2 0 rfl (u8l kk) _ (blk_range RI.out.2.1) Tryd.underlying23 rfl (by simp only [u8l_len, KK.out.2.1]; kernel_rfl)) ?_
            simp only [Act.put, List.setIfInBounds_toArray, List.set_cons_zero, List.set_cons_succ]
            refine wpList_store_rowTo rfl 23 _ _ rfl rfl g4 (u8l kk).toArray rfl rfl 23 _ RI.out.2.2.1 (by simp only [List.size_toArray, u8l_len, KK.out.2.1]; kernel_rfl) (by simp [u8l_len, KK.out.2.1]) (u8l_one _) ?_
            refine wpL_pure (.int .i64 0) rfl (by kernel_rfl) ?_
            simp only [Act.put, List.setIfInBounds_toArray, List.set_cons_zero, List.set_cons_succ]
            go_wp2_with fail
            refine bodyPost_ret (results_ct rfl _ _ g4 23 _ (0, 0) _ rfl (setRow_heap _ _ _ _ _ _ RI.out.2.2.1) Tryd.underlying23 rfl (by simp only [List.size_toArray, u8l_len, KK.out.2.1]; kernel_rfl)) rfl ?_
            have EK : k = n := by have := RI.out.1; have := HK.out; omega
            exact ⟨by unfold bkR; rw [if_neg (by have := H0.out; have := H1.out; have := H3.out; omega), HN.out.1, Int.toNat_natCast, ← EK, KK.out.1]; rfl, by rw [G2.out]; exact below_setRow RI.out.2.2.2 (by have := B2.out.2.2.2; omega) _⟩
set_option maxHeartbeats 4000000 in
theorem key_any (w : World) (ks : List Int) (hk : ks.length = 32) (hkb : ∀ x ∈ ks, 0 ≤ x ∧ x ≤ 255) (y : Int) (hT : TabK w) (hH : TabH w) :
    Calls Tryd.prog 8 #[.agg (u8l ks).toArray, .int .i64 y] w fun e w' => e = .returned (bkR ks 255 y) ∧ Below w.heap.size w w' := by
  have HKL := Lib.hid hk
  have HKB := Lib.hid hkb
  have HT := Lib.hid hT
  have HH := Lib.hid hH
  clear hk hkb hT hH
  go_enter Tryd.func8, Tryd.ntmps8
  obtain ⟨w1, hw1⟩ : ∃ V, V = w.alloc (.cells (u8l ks).toArray 23) := ⟨_, rfl⟩
  obtain ⟨w2, hw2⟩ : ∃ V, V = w1.alloc (.cells (u8l (List.replicate 32 0)).toArray 23) := ⟨_, rfl⟩
  have B2 : Hid (Blk w2 w.heap.size 23 (u8l ks).toArray ∧ Blk w2 w1.heap.size 23 (u8l (List.replicate 32 0)).toArray ∧ Below w.heap.size w w2 ∧ w.heap.size < w1.heap.size) := Lib.hid (by
    have q1 : Below w.heap.size w w1 := by rw [hw1]; exact (Below.refl _ _).alloc (Nat.le_refl _) _
    have q2 : Below w1.heap.size w1 w2 := by rw [hw2]; exact (Below.refl _ _).alloc (Nat.le_refl _) _
    have b1 : Blk w1 w.heap.size 23 (u8l ks).toArray := by rw [hw1]; exact Blk.new _ _ _
    exact ⟨b1.below q2, by rw [hw2]; exact Blk.new _ _ _, q1.trans (q2.mono q1.size), b1.lt⟩)
  go_upto_region 0 with (fail)
  refine wp_region_lit ?_
  refine wpL_value (.pointer (some ⟨w.heap.size, 0, none⟩)) (w1) rfl (run_box26 _ _ _ _ _ ks rfl rfl HKL.out hw1) ?_
  simp only [Act.put, List.setIfInBounds_toArray, List.set_cons_zero, List.set_cons_succ]
  refine wpL_value (.pointer (some ⟨w1.heap.size, 0, none⟩)) (w2) rfl (by rw [hw2]; kernel_rfl) ?_
  simp only [Act.put, List.setIfInBounds_toArray, List.set_cons_zero, List.set_cons_succ]
  refine wpL_pure (.int .i64 0) rfl (by kernel_rfl) ?_
  simp only [Act.put, List.setIfInBounds_toArray, List.set_cons_zero, List.set_cons_succ]
  clear hw1 hw2
  obtain ⟨g2, h2⟩ : ∃ q, w.heap.size = q := ⟨_, rfl⟩
  have G2 : Hid (w.heap.size = g2) := Lib.hid h2
  rw [h2] at B2
  try rw [h2]
  clear h2
  generalize w1.heap.size = g4 at B2 ⊢
  obtain ⟨rv, rc, hrv⟩ : ∃ rv rc, bkV ks 255 y = (rv, rc) := ⟨_, _, rfl⟩
  have RV : Hid (bkV ks 255 y = (rv, rc) ∧ rv.length = 32) := Lib.hid ⟨hrv, by have q := bkV_len (x := 255) (y := y) HKL.out; rw [hrv] at q; exact q⟩
  clear hrv
  go_upto_region 1 with (fail)
  refine wp_region_lit ?_
  refine wpL_pure (.agg (u8l ks).toArray) rfl (run_load_mid _ _ _ 23 _ rfl g2 0 rfl (u8l ks) _ (blk_range B2.out.1) Tryd.underlying23 rfl (by simp only [u8l_len, HKL.out]; kernel_rfl)) ?_
  simp only [Act.put, List.setIfInBounds_toArray, List.set_cons_zero, List.set_cons_succ]
  refine wpL_pure (.int .i64 y) rfl (by kernel_rfl) ?_
  simp only [Act.put, List.setIfInBounds_toArray, List.set_cons_zero, List.set_cons_succ]
  refine wpL_call 10 #[.agg (u8l ks).toArray, .int .i64 255, .int .i64 y] rfl (by kernel_rfl) (((back_any w2 ks HKL.out HKB.out 255 y (HT.out.below (by rw [G2.out]; exact B2.out.2.2.1)) (HH.out.below (by rw [G2.out]; exact B2.out.2.2.1)))).mono fun e w5 ⟨he, hb⟩ => ⟨.tuple #[.agg (u8l rv).toArray, .int .i64 rc], (by rw [he, bk_eq, RV.out.1]), ?_⟩)
  simp only [Act.put, List.setIfInBounds_toArray, List.set_cons_zero, List.set_cons_succ]
  have B5 : Hid (Blk w5 g4 23 (u8l (List.replicate 32 0)).toArray ∧ Below g2 w w5) := Lib.hid ⟨B2.out.2.1.below hb, B2.out.2.2.1.trans (hb.mono (by have := B2.out.1.lt; omega))⟩
  clear hb
  refine wpL_pure (.agg (u8l rv).toArray) rfl (by kernel_rfl) ?_
  simp only [Act.put, List.setIfInBounds_toArray, List.set_cons_zero, List.set_cons_succ]
  refine wpL_pure (.int .i64 rc) rfl (by kernel_rfl) ?_
  simp only [Act.put, List.setIfInBounds_toArray, List.set_cons_zero, List.set_cons_succ]
  refine wpList_store_rowTo rfl 23 _ _ rfl rfl g4 (u8l rv).toArray rfl rfl 23 _ B5.out.1 (by simp only [List.size_toArray, u8l_len, RV.out.2]; kernel_rfl) (by simp [u8l_len, RV.out.2]) (u8l_one _) ?_
  refine wpL_pure (.int .i64 rc) rfl (by kernel_rfl) ?_
  simp only [Act.put, List.setIfInBounds_toArray, List.set_cons_zero, List.set_cons_succ]
  go_wp2_with fail
  refine bodyPost_ret (results_ct rfl _ _ g4 23 _ (0, 0) _ rfl (setRow_heap _ _ _ _ _ _ B5.out.1) Tryd.underlying23 rfl (by simp only [List.size_toArray, u8l_len, RV.out.2]; kernel_rfl)) rfl ?_
  exact ⟨by rw [bk_eq, RV.out.1]; rfl, by rw [G2.out]; exact below_setRow B5.out.2 (by have := B2.out.2.2.2; omega) _⟩
set_option maxHeartbeats 4000000 in
theorem refkey_any (w : World) (ks : List Int) (hk : ks.length = 32) (hkb : ∀ x ∈ ks, 0 ≤ x ∧ x ≤ 255) (y : Nat) (hy : y ≤ 255) (hT : TabW w) :
    Calls Tryd.prog 11 #[.agg (u8l ks).toArray, .int .i64 (y : Int)] w fun e w' => e = .returned (.agg (u8l (itD (255 - y) ks)).toArray) ∧ Below w.heap.size w w' := by
  have HKL := Lib.hid hk
  have HKB := Lib.hid hkb
  have HTW := Lib.hid hT
  have HY := Lib.hid hy
  clear hk hkb hT hy
  go_enter Tryd.func11, Tryd.ntmps11
  obtain ⟨w1, hw1⟩ : ∃ V, V = w.alloc (.cells (u8l ks).toArray 23) := ⟨_, rfl⟩
  obtain ⟨w2, hw2⟩ : ∃ V, V = w1.alloc (.cells (u8l (List.replicate 32 0)).toArray 23) := ⟨_, rfl⟩
  have B2 : Hid (Blk w2 w.heap.size 23 (u8l ks).toArray ∧ Blk w2 w1.heap.size 23 (u8l (List.replicate 32 0)).toArray ∧ Below w.heap.size w w2 ∧ w.heap.size < w1.heap.size) := Lib.hid (by
    have q1 : Below w.heap.size w w1 := by rw [hw1]; exact (Below.refl _ _).alloc (Nat.le_refl _) _
    have q2 : Below w1.heap.size w1 w2 := by rw [hw2]; exact (Below.refl _ _).alloc (Nat.le_refl _) _
    have b1 : Blk w1 w.heap.size 23 (u8l ks).toArray := by rw [hw1]; exact Blk.new _ _ _
    exact ⟨b1.below q2, by rw [hw2]; exact Blk.new _ _ _, q1.trans (q2.mono q1.size), b1.lt⟩)
  go_upto_region 0 with (fail)
  refine wp_region_lit ?_
  refine wpL_value (.pointer (some ⟨w.heap.size, 0, none⟩)) (w1) rfl (run_box26 _ _ _ _ _ ks rfl rfl HKL.out hw1) ?_
  simp only [Act.put, List.setIfInBounds_toArray, List.set_cons_zero, List.set_cons_succ]
  refine wpL_value (.pointer (some ⟨w1.heap.size, 0, none⟩)) (w2) rfl (by rw [hw2]; kernel_rfl) ?_
  simp only [Act.put, List.setIfInBounds_toArray, List.set_cons_zero, List.set_cons_succ]
  clear hw1 hw2
  obtain ⟨g2, h2⟩ : ∃ q, w.heap.size = q := ⟨_, rfl⟩
  have G2 : Hid (w.heap.size = g2) := Lib.hid h2
  rw [h2] at B2
  try rw [h2]
  clear h2
  generalize w1.heap.size = g4 at B2 ⊢
  obtain ⟨w3, hw3⟩ : ∃ V, V = w2.alloc (.cells (u8l (List.replicate 32 0)).toArray 23) := ⟨_, rfl⟩
  obtain ⟨g5, h5⟩ : ∃ q, w2.heap.size = q := ⟨_, rfl⟩
  have B3 : Hid (Blk w3 g2 23 (u8l ks).toArray ∧ Blk w3 g4 23 (u8l (List.replicate 32 0)).toArray ∧ Blk w3 g5 23 (u8l (List.replicate 32 0)).toArray ∧ Below g2 w w3 ∧ g2 < g4 ∧ g4 < g5) := Lib.hid (by
    have q : Below w2.heap.size w2 w3 := by rw [hw3]; exact (Below.refl _ _).alloc (Nat.le_refl _) _
    exact ⟨B2.out.1.below q, B2.out.2.1.below q, by rw [hw3, ← h5]; exact Blk.new _ _ _, B2.out.2.2.1.trans (q.mono (by have := B2.out.1.lt; omega)), B2.out.2.2.2, by rw [← h5]; exact B2.out.2.1.lt⟩)
  go_upto_region 1 with (fail)
  refine wp_region_lit ?_
  refine wpL_pure (.agg (u8l ks).toArray) rfl (run_load_mid _ _ _ 23 _ rfl g2 0 rfl (u8l ks) _ (blk_range B2.out.1) Tryd.underlying23 rfl (by simp only [u8l_len, HKL.out]; kernel_rfl)) ?_
  simp only [Act.put, List.setIfInBounds_toArray, List.set_cons_zero, List.set_cons_succ]
  refine wpL_value (.pointer (some ⟨g5, 0, none⟩)) (w3) rfl (by rw [hw3, ← h5]; kernel_rfl) ?_
  simp only [Act.put, List.setIfInBounds_toArray, List.set_cons_zero, List.set_cons_succ]
  refine wpList_store_rowTo rfl 23 _ _ rfl rfl g5 (u8l ks).toArray rfl rfl 23 _ B3.out.2.2.1 (by simp only [List.size_toArray, u8l_len, HKL.out]; kernel_rfl) (by simp [u8l_len, HKL.out]) (u8l_one _) ?_
  obtain ⟨w4, hw4⟩ : ∃ V, V = w3.setRow g5 (u8l ks).toArray := ⟨_, rfl⟩
  rw [← hw4]
  have B4 : Hid (Blk w4 g5 23 (u8l ks).toArray ∧ Blk w4 g4 23 (u8l (List.replicate 32 0)).toArray ∧ Below g2 w w4) := Lib.hid (by rw [hw4]; exact ⟨setRow_heap _ _ _ _ _ _ B3.out.2.2.1, (setRow_other _ _ _ _ (by have := B3.out.2.2.2.2; omega)).trans B3.out.2.1, below_setRow B3.out.2.2.2.1 (by have := B3.out.2.2.2.2; omega) _⟩)
  clear hw4 hw3 h5
  go_upto_region 2 with (fail)
  refine wp_region_lit ?_
  refine wpL_pure (.int .i64 255) rfl (by kernel_rfl) ?_
  simp only [Act.put, List.setIfInBounds_toArray, List.set_cons_zero, List.set_cons_succ]
  go_wp2_with fail
  go_loopw [6] (fun s wr => ∃ k : Nat, s = .int .i64 (255 - (k : Int)) ∧ Hid (k + y ≤ 255 ∧ Blk wr g5 23 (u8l (itD k ks)).toArray ∧ Blk wr g4 23 (u8l (List.replicate 32 0)).toArray ∧ Below g2 w wr)) (fun s _ => (intOf s - (y : Int)).toNat)
  case atStart => exact ⟨0, rfl, Lib.hid ⟨by have := HY.out; omega, B4.out.1, B4.out.2.1, B4.out.2.2⟩⟩
  case round =>
    obtain ⟨k, rfl, RI⟩ := hrel
    obtain ⟨kk, hkk⟩ : ∃ q, itD k ks = q := ⟨_, rfl⟩
    have KK : Hid (itD k ks = kk ∧ kk.length = 32 ∧ ∀ x ∈ kk, 0 ≤ x ∧ x ≤ 255) := Lib.hid ⟨hkk, by rw [← hkk]; exact itD_len HKL.out k, by rw [← hkk]; exact itD_byte HKB.out k⟩
    rw [hkk] at RI
    clear hkk
    by_cases hlt : k + y < 255
    · have HK := Lib.hid hlt
      clear hlt
      go_upto_region 3 with (fail)
      refine wp_region_lit ?_
      refine wpL_pure (.int .i64 (255 - (k : Int))) rfl (by kernel_rfl) ?_
      simp only [Act.put, List.setIfInBounds_toArray, List.set_cons_zero, List.set_cons_succ]
      refine wpL_pure (.int .i64 (y : Int)) rfl (by kernel_rfl) ?_
      simp only [Act.put, List.setIfInBounds_toArray, List.set_cons_zero, List.set_cons_succ]
      refine wpL_pure (.bool true) rfl (run_gti Tryd.underlying3 rfl rfl rfl (by have := HK.out; rw [decide_eq_true_eq]; omega)) ?_
      simp only [Act.put, List.setIfInBounds_toArray, List.set_cons_zero, List.set_cons_succ]
      go_upto_region 5 with (fail)
      refine wp_region_lit ?_
      refine wpL_pure (.agg (u8l kk).toArray) rfl (run_load_mid _ _ _ 23 _ rfl g5 0 rfl (u8l kk) _ (blk_range RI.out.2.1) Tryd.underlying23 rfl (by simp only [u8l_len, KK.out.2.1]; kernel_rfl)) ?_
      simp only [Act.put, List.setIfInBounds_toArray, List.set_cons_zero, List.set_cons_succ]
      refine wpL_call 25 #[.agg (u8l kk).toArray, .string { data := #[106, 97, 108, 111, 117, 115, 105, 101, 32, 98, 97, 99, 107] }] rfl (by kernel_rfl) (((refderive_bs wr kk KK.out.2.1 KK.out.2.2 (HTW.out.below (by rw [G2.out]; exact RI.out.2.2.2)))).mono fun e w5 ⟨he, hb⟩ => ⟨.agg (u8l (stepD kk)).toArray, he, ?_⟩)
      simp only [Act.put, List.setIfInBounds_toArray, List.set_cons_zero, List.set_cons_succ]
      have B5 : Hid (Blk w5 g5 23 (u8l kk).toArray ∧ Blk w5 g4 23 (u8l (List.replicate 32 0)).toArray ∧ Below g2 w w5) := Lib.hid ⟨RI.out.2.1.below hb, RI.out.2.2.1.below hb, RI.out.2.2.2.trans (hb.mono (by have := RI.out.2.1.lt; have := B3.out.2.2.2.2; omega))⟩
      clear hb
      refine wpList_store_rowTo rfl 23 _ _ rfl rfl g5 (u8l (stepD kk)).toArray rfl rfl 23 _ B5.out.1 (by simp only [List.size_toArray, u8l_len, stepD_len, KK.out.2.1]; kernel_rfl) (by simp [u8l_len, stepD_len, KK.out.2.1]) (u8l_one _) ?_
      obtain ⟨w6, hw6⟩ : ∃ V, V = w5.setRow g5 (u8l (stepD kk)).toArray := ⟨_, rfl⟩
      rw [← hw6]
      have NX : Hid (k + 1 + y ≤ 255 ∧ Blk w6 g5 23 (u8l (itD (k + 1) ks)).toArray ∧ Blk w6 g4 23 (u8l (List.replicate 32 0)).toArray ∧ Below g2 w w6) := Lib.hid (by rw [hw6, itD, KK.out.1]; exact ⟨by have := HK.out; omega, setRow_heap _ _ _ _ _ _ B5.out.1, (setRow_other _ _ _ _ (by have := B3.out.2.2.2.2; omega)).trans B5.out.2.1, below_setRow B5.out.2.2 (by have := B3.out.2.2.2.2; omega) _⟩)
      clear hw6 B5
      go_upto_region 4 with (fail)
      refine wp_region_lit ?_
      refine wpL_pure (.int .i64 (255 - (k : Int))) rfl (by kernel_rfl) ?_
      simp only [Act.put, List.setIfInBounds_toArray, List.set_cons_zero, List.set_cons_succ]
      refine wpL_pure (.int .i64 (255 - ((k + 1 : Nat) : Int))) rfl (run_subi Tryd.underlying3 rfl rfl rfl _ (by have := HK.out; rw [wrap_in _ (by omega) (by omega)]; omega)) ?_
      simp only [Act.put, List.setIfInBounds_toArray, List.set_cons_zero, List.set_cons_succ]
      refine wpL_pure (.int .i64 (255 - ((k + 1 : Nat) : Int))) rfl (by kernel_rfl) ?_
      simp only [Act.put, List.setIfInBounds_toArray, List.set_cons_zero, List.set_cons_succ]
      unfold wpList
      go_roundw
      case rel => first | exact ⟨k + 1, rfl, NX⟩ | ((repeat apply Exists.intro); exact ⟨⟨k + 1, rfl, NX⟩, rfl⟩)
      case measure => simp [intOf]; have := HK.out; omega
    · have HK := Lib.hid hlt
      clear hlt
      go_upto_region 3 with (fail)
      refine wp_region_lit ?_
      refine wpL_pure (.int .i64 (255 - (k : Int))) rfl (by kernel_rfl) ?_
      simp only [Act.put, List.setIfInBounds_toArray, List.set_cons_zero, List.set_cons_succ]
      refine wpL_pure (.int .i64 (y : Int)) rfl (by kernel_rfl) ?_
      simp only [Act.put, List.setIfInBounds_toArray, List.set_cons_zero, List.set_cons_succ]
      refine wpL_pure (.bool false) rfl (run_gti Tryd.underlying3 rfl rfl rfl (by have := HK.out; rw [decide_eq_false_iff_not]; omega)) ?_
      simp only [Act.put, List.setIfInBounds_toArray, List.set_cons_zero, List.set_cons_succ]
      go_upto_region 6 with (fail)
      refine wp_region_lit ?_
      refine wpL_pure (.agg (u8l kk).toArray) rfl (run_load_mid _ _ _ 23 _ rfl g5 0 rfl (u8l kk) _ (blk_range RI.out.2.1) Tryd.underlying23 rfl (by simp only [u8l_len, KK.out.2.1]; kernel_rfl)) ?_
      simp only [Act.put, List.setIfInBounds_toArray, List.set_cons_zero, List.set_cons_succ]
      refine wpList_store_rowTo rfl 23 _ _ rfl rfl g4 (u8l kk).toArray rfl rfl 23 _ RI.out.2.2.1 (by simp only [List.size_toArray, u8l_len, KK.out.2.1]; kernel_rfl) (by simp [u8l_len, KK.out.2.1]) (u8l_one _) ?_
      go_wp2_with fail
      refine bodyPost_ret (results_cell_row rfl _ _ g4 23 _ (0, 0) _ rfl (setRow_heap _ _ _ _ _ _ RI.out.2.2.1) Tryd.underlying23 rfl (by simp only [List.size_toArray, u8l_len, KK.out.2.1]; kernel_rfl)) rfl ?_
      have EK : k = 255 - y := by have := RI.out.1; have := HK.out; omega
      exact ⟨by rw [← EK, KK.out.1], by rw [G2.out]; exact below_setRow RI.out.2.2.2 (by have := B2.out.2.2.2; omega) _⟩
end Go.Proofs.YtfhjfpgfbeiacaaDoor.Ha
