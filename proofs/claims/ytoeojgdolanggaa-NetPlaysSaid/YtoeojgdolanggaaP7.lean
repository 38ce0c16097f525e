/- The program's calls, by what is told of letters. -/
import Derived.Test.YtoeojgdolanggaaP6
namespace Go.Proofs.Ytoeojgdolanggaa
open Go Go.RowKit
set_option maxRecDepth 100000
theorem FrN.blk {w w' : World} {b g t : Nat} {s s' : Value} {cs : Array Value} (f : FrN w w' b s s') (h : Blk w g t cs) (hb : g ≠ b) (hs : s.ownBlock ≠ some g) : Blk w' g t cs := (f.block g h.lt hb hs).trans h
attribute [local irreducible] wpList
set_option maxHeartbeats 2000000 in
theorem send_long (w : World) (b : Nat) (f t : Int) (a : Option Addr) (n c : Nat) (s : Value) (ls : List Ltr) (h : NetSt w b s ls) (hl : ls.length < 200) (h16 : 16384 < n) :
    Calls Try.prog 20 #[.pointer (some ⟨b, 0, none⟩), .agg #[.int .i64 f, .int .i64 t, .slice a n c]] w fun e w' => e = .returned (.bool false) ∧ NetSt w' b s ls ∧ Below w.heap.size w w' := by
  obtain ⟨sa, sc, rfl, _⟩ := h.2.1.slice
  obtain ⟨w1, hw1⟩ : ∃ V, V = w.alloc (.cells #[.int .i64 f, .int .i64 t, .slice a n c] 43) := ⟨_, rfl⟩
  obtain ⟨g1, hg1⟩ : ∃ q, w.heap.size = q := ⟨_, rfl⟩
  have F1 : Hid (NetSt w1 b (.slice sa ls.length sc) ls ∧ Below w.heap.size w w1 ∧ Blk w1 g1 43 #[.int .i64 f, .int .i64 t, .slice a n c]) := Lib.hid (by
    have hb : Below w.heap.size w w1 := by rw [hw1]; exact (Below.refl _ _).alloc (Nat.le_refl _) _
    exact ⟨h.below hb, hb, by rw [hw1, ← hg1]; exact Blk.new _ _ _⟩)
  have HN := Lib.hid hl
  have HL := Lib.hid h16
  clear h hl h16
  go_enter Try.func20, Try.ntmps20
  go_upto_region 0 with (fail)
  refine wp_region_lit ?_
  refine wpL_value (.pointer (some ⟨g1, 0, none⟩)) (w1) rfl (by rw [hw1, ← hg1]; kernel_rfl) ?_
  simp only [Act.put, List.setIfInBounds_toArray, List.set_cons_zero, List.set_cons_succ]
  refine wpL_pure (.bool false) rfl (by kernel_rfl) ?_
  simp only [Act.put, List.setIfInBounds_toArray, List.set_cons_zero, List.set_cons_succ]
  clear hw1 hg1
  go_upto_region 1 with (fail)
  refine wp_region_lit ?_
  refine wpL_pure (.pointer (some ⟨b, 0, none⟩)) rfl (by kernel_rfl) ?_
  simp only [Act.put, List.setIfInBounds_toArray, List.set_cons_zero, List.set_cons_succ]
  refine wpL_pure (.pointer (some ⟨b, 0, none⟩)) rfl (by kernel_rfl) ?_
  simp only [Act.put, List.setIfInBounds_toArray, List.set_cons_zero, List.set_cons_succ]
  refine wpL_pure (.pointer (some ⟨b, 0, none⟩)) rfl (by kernel_rfl) ?_
  simp only [Act.put, List.setIfInBounds_toArray, List.set_cons_zero, List.set_cons_succ]
  refine wpL_pure (.slice sa ls.length sc) rfl (run_load_one _ _ _ 39 _ _ rfl (b) (0) rfl (by rw [F1.out.1.1.cell]; rfl) (by kernel_rfl)) ?_
  simp only [Act.put, List.setIfInBounds_toArray, List.set_cons_zero, List.set_cons_succ]
  refine wpL_pure (.int .i64 (ls.length : Int)) rfl (by kernel_rfl) ?_
  simp only [Act.put, List.setIfInBounds_toArray, List.set_cons_zero, List.set_cons_succ]
  refine wpL_pure (.bool false) rfl (run_gei Try.underlying3 rfl rfl rfl (by have := HN.out; rw [decide_eq_false_iff_not]; omega)) ?_
  simp only [Act.put, List.setIfInBounds_toArray, List.set_cons_zero, List.set_cons_succ]
  refine wpL_pure (.bool false) rfl (by kernel_rfl) ?_
  simp only [Act.put, List.setIfInBounds_toArray, List.set_cons_zero, List.set_cons_succ]
  refine wpL_pure (.pointer (some ⟨g1, 2, none⟩)) rfl (by kernel_rfl) ?_
  simp only [Act.put, List.setIfInBounds_toArray, List.set_cons_zero, List.set_cons_succ]
  refine wpL_pure (.slice a n c) rfl (run_load_one _ _ _ 30 _ _ rfl (g1) (2) rfl (by rw [F1.out.2.2.cell]; rfl) (by kernel_rfl)) ?_
  simp only [Act.put, List.setIfInBounds_toArray, List.set_cons_zero, List.set_cons_succ]
  refine wpL_pure (.int .i64 (n : Int)) rfl (by kernel_rfl) ?_
  simp only [Act.put, List.setIfInBounds_toArray, List.set_cons_zero, List.set_cons_succ]
  refine wpL_pure (.bool true) rfl (run_gti Try.underlying3 rfl rfl rfl (by have := HL.out; rw [decide_eq_true_eq]; omega)) ?_
  simp only [Act.put, List.setIfInBounds_toArray, List.set_cons_zero, List.set_cons_succ]
  refine wpL_pure (.bool true) rfl (by kernel_rfl) ?_
  simp only [Act.put, List.setIfInBounds_toArray, List.set_cons_zero, List.set_cons_succ]
  go_upto_region 2 with (fail)
  refine wp_region_lit ?_
  refine wpL_pure (.bool false) rfl (by kernel_rfl) ?_
  simp only [Act.put, List.setIfInBounds_toArray, List.set_cons_zero, List.set_cons_succ]
  go_wp2_with fail
  go_ret
  exact ⟨rfl, F1.out.1, F1.out.2.1⟩

/-- Send, by what is told. -/
def PSend (w : World) (b : Nat) (s : Value) (ls : List Ltr) (f t : Int) (n : Nat) (xs : List Int) (e : Ending) (w' : World) : Prop :=
  ∃ z s' ls', e = .returned (.bool z) ∧ NetSt w' b s' ls' ∧ FrN w w' b s s' ∧ z = decide (ls.length < 200 ∧ n ≤ 16384) ∧ ls'.map Ltr.key = ls.map Ltr.key ++ (if z then [(f, t, xs)] else [])
theorem send_prog (w : World) (b : Nat) (f t : Int) (a : Option Addr) (n c : Nat) (xs : List Int) (s : Value) (ls : List Ltr) (h : NetSt w b s ls) (hr : Row w a n xs ∧ (a = none → c = 0)) :
    Calls Try.prog 20 #[.pointer (some ⟨b, 0, none⟩), .agg #[.int .i64 f, .int .i64 t, .slice a n c]] w fun e w' => PSend w b s ls f t n xs e w' := by
  by_cases h1 : ls.length < 200
  · by_cases h2 : n ≤ 16384
    · exact (send_any w b f t a n c xs s ls h h1 hr.1 h2 hr.2).mono fun e w' ⟨he, s', v, q1, q2⟩ => ⟨true, s', _, he, q1, q2, (decide_eq_true ⟨h1, h2⟩).symm, by rw [List.map_append]; rfl⟩
    · exact (send_long w b f t a n c s ls h h1 (by omega)).mono fun e w' ⟨he, q1, q2⟩ => ⟨false, s, ls, he, q1, FrN.of_below q2 b s, (decide_eq_false (fun q => h2 q.2)).symm, by simp⟩
  · exact (send_full w b f t a n c s ls h (by omega)).mono fun e w' ⟨he, q1, q2⟩ => ⟨false, s, ls, he, q1, FrN.of_below q2 b s, (decide_eq_false (fun q => h1 q.1)).symm, by simp⟩
def LSend (W0 w : World) (r : Nat) (tt : Value) (rs : List Ltr) (f t : Int) (n : Nat) (xs : List Int) (e : Ending) (w' : World) : Prop :=
  ∃ z t' rs', e = .returned (.bool z) ∧ RefSt W0 w' r t' rs' ∧ FrN w w' r tt t' ∧ z = decide (rs.length < 200 ∧ n ≤ 16384) ∧ rs'.map Ltr.key = rs.map Ltr.key ++ (if z then [(f, t, xs)] else [])
theorem send_list (W0 w : World) (r : Nat) (f t : Int) (a : Option Addr) (n c : Nat) (xs : List Int) (tt : Value) (rs : List Ltr) (h : RefSt W0 w r tt rs) (hr : Row W0 a n xs ∧ (a = none → c = 0)) :
    Calls Try.prog 21 #[.pointer (some ⟨r, 0, none⟩), .agg #[.int .i64 f, .int .i64 t, .slice a n c]] w fun e w' => LSend W0 w r tt rs f t n xs e w' :=
  (send_ref W0 w r f t a n c xs tt rs h hr).mono fun e w' q => by
    rcases q with ⟨hc, he, t', q1, q2⟩ | ⟨hc, he, q1, q2⟩
    · exact ⟨true, t', _, he, q1, q2, (decide_eq_true hc).symm, by rw [List.map_append]; rfl⟩
    · exact ⟨false, tt, rs, he, q1, FrN.of_below q2 r tt, (decide_eq_false hc).symm, by simp⟩
set_option maxHeartbeats 2000000 in
theorem double_none (w : World) (b : Nat) (i : Int) (s : Value) (h : NetSt w b s []) : Calls Try.prog 25 #[.pointer (some ⟨b, 0, none⟩), .int .i64 i] w fun e w' => e = .returned (.bool false) ∧ NetSt w' b s [] ∧ Below w.heap.size w w' := by
  have H := Lib.hid h
  clear h
  go_enter Try.func25, Try.ntmps25
  go_upto_region 0 with (fail)
  refine wp_region_lit ?_
  refine wpL_pure (.bool false) rfl (by kernel_rfl) ?_
  simp only [Act.put, List.setIfInBounds_toArray, List.set_cons_zero, List.set_cons_succ]
  go_upto_region 1 with (fail)
  refine wp_region_lit ?_
  refine wpL_pure (.pointer (some ⟨b, 0, none⟩)) rfl (by kernel_rfl) ?_
  simp only [Act.put, List.setIfInBounds_toArray, List.set_cons_zero, List.set_cons_succ]
  refine wpL_pure (.int .i64 i) rfl (by kernel_rfl) ?_
  simp only [Act.put, List.setIfInBounds_toArray, List.set_cons_zero, List.set_cons_succ]
  refine wpL_call 27 #[.pointer (some ⟨b, 0, none⟩), .int .i64 i] rfl (by kernel_rfl) ((at_none w b i s H.out).mono fun e w1 ⟨he, hs, hb⟩ => ⟨.tuple #[.agg #[.int .i64 0, .int .i64 0, .slice none 0 0], .bool false], he, ?_⟩)
  simp only [Act.put, List.setIfInBounds_toArray, List.set_cons_zero, List.set_cons_succ]
  have F1 : Hid (NetSt w1 b s [] ∧ Below w.heap.size w w1) := Lib.hid ⟨hs, hb⟩
  clear hs hb
  refine wpL_pure (.tuple #[.agg #[.int .i64 0, .int .i64 0, .slice none 0 0], .bool false]) rfl (by kernel_rfl) ?_
  simp only [Act.put, List.setIfInBounds_toArray, List.set_cons_zero, List.set_cons_succ]
  refine wpL_pure (.agg #[.int .i64 0, .int .i64 0, .slice none 0 0]) rfl (by kernel_rfl) ?_
  simp only [Act.put, List.setIfInBounds_toArray, List.set_cons_zero, List.set_cons_succ]
  refine wpL_pure (.bool false) rfl (by kernel_rfl) ?_
  simp only [Act.put, List.setIfInBounds_toArray, List.set_cons_zero, List.set_cons_succ]
  have BX := Lib.hid (box_frame w1 0 0 (.slice none 0 0))
  obtain ⟨w3, hw3⟩ : ∃ V, V = (w1.alloc (.cells #[.int .i64 0, .int .i64 0, .slice none 0 0] 43)).setRow w1.heap.size #[.int .i64 0, .int .i64 0, .slice none 0 0] := ⟨_, rfl⟩
  rw [← hw3] at BX
  refine wpL_value (.pointer (some ⟨w1.heap.size, 0, none⟩)) (w1.alloc (.cells #[.int .i64 0, .int .i64 0, .slice none 0 0] 43)) rfl (by kernel_rfl) ?_
  simp only [Act.put, List.setIfInBounds_toArray, List.set_cons_zero, List.set_cons_succ]
  refine wpList_store_row rfl 43 _ _ rfl (w1.heap.size) (#[.int .i64 0, .int .i64 0, .slice none 0 0]) rfl rfl _ _ (Blk.new w1 43 _) (by kernel_rfl) rfl (all3 _ _ _ rfl) ?_
  simp only [Act.put, List.setIfInBounds_toArray, List.set_cons_zero, List.set_cons_succ]
  rw [← hw3]
  have F2 : Hid (NetSt w3 b s [] ∧ Below w.heap.size w w3) := Lib.hid ⟨F1.out.1.below BX.out.2, F1.out.2.trans (BX.out.2.mono F1.out.2.size)⟩
  clear BX F1 hw3
  generalize w1.heap.size = g7
  refine wpL_pure (.bool false) rfl (by kernel_rfl) ?_
  simp only [Act.put, List.setIfInBounds_toArray, List.set_cons_zero, List.set_cons_succ]
  go_upto_region 2 with (fail)
  refine wp_region_lit ?_
  refine wpL_pure (.bool false) rfl (by kernel_rfl) ?_
  simp only [Act.put, List.setIfInBounds_toArray, List.set_cons_zero, List.set_cons_succ]
  refine wpL_pure (.bool false) rfl (by kernel_rfl) ?_
  simp only [Act.put, List.setIfInBounds_toArray, List.set_cons_zero, List.set_cons_succ]
  refine wpL_skip (by kernel_rfl) ?_
  simp only [Act.put, List.setIfInBounds_toArray, List.set_cons_zero, List.set_cons_succ]
  refine wpL_skip (by kernel_rfl) ?_
  simp only [Act.put, List.setIfInBounds_toArray, List.set_cons_zero, List.set_cons_succ]
  refine wpL_skip (by kernel_rfl) ?_
  simp only [Act.put, List.setIfInBounds_toArray, List.set_cons_zero, List.set_cons_succ]
  refine wpL_pure (.bool false) rfl (by kernel_rfl) ?_
  simp only [Act.put, List.setIfInBounds_toArray, List.set_cons_zero, List.set_cons_succ]
  refine wpL_pure (.bool false) rfl (by kernel_rfl) ?_
  simp only [Act.put, List.setIfInBounds_toArray, List.set_cons_zero, List.set_cons_succ]
  go_wp2_with fail
  go_ret
  exact ⟨rfl, F2.out⟩

/-- Double, by what is told. -/
def PDouble (w : World) (b : Nat) (s : Value) (ls : List Ltr) (i : Int) (e : Ending) (w' : World) : Prop :=
  ∃ z s' ls', e = .returned (.bool z) ∧ NetSt w' b s' ls' ∧ FrN w w' b s s' ∧ z = decide (0 < ls.length ∧ ls.length < 200) ∧ (z = false → ls' = ls) ∧ (z = true → ∃ l, ls[plc i ls.length]? = some l ∧ ls'.map Ltr.key = ls.map Ltr.key ++ [l.key])
theorem double_prog (w : World) (b : Nat) (i : Int) (s : Value) (ls : List Ltr) (h : NetSt w b s ls) (h3 : ls.length ≤ 300) : Calls Try.prog 25 #[.pointer (some ⟨b, 0, none⟩), .int .i64 i] w fun e w' => PDouble w b s ls i e w' := by
  by_cases h0 : ls.length = 0
  · obtain rfl := List.eq_nil_of_length_eq_zero h0
    exact (double_none w b i s h).mono fun e w' ⟨he, q1, q2⟩ => ⟨false, s, [], he, q1, FrN.of_below q2 b s, rfl, fun _ => rfl, fun q => by cases q⟩
  · by_cases h1 : ls.length < 200
    · exact (double_any w b i s ls h (by omega) h1).mono fun e w' ⟨he, l, s', v, hl, q1, q2⟩ => ⟨true, s', _, he, q1, q2, (decide_eq_true ⟨by omega, h1⟩).symm, fun q => (by cases q), fun _ => ⟨l, hl, by rw [List.map_append]; rfl⟩⟩
    · exact (double_full w b i s ls h (by omega) h3).mono fun e w' ⟨he, q1, q2⟩ => ⟨false, s, ls, he, q1, FrN.of_below q2 b s, (decide_eq_false (fun q => h1 q.2)).symm, fun _ => rfl, fun q => by cases q⟩
/-- Turn, by what is told. -/
def PTurned (w : World) (b : Nat) (s : Value) (ls : List Ltr) (i : Int) (n : Nat) (xs : List Int) (e : Ending) (w' : World) : Prop :=
  ∃ z ls', e = .returned (.bool z) ∧ NetSt w' b s ls' ∧ FrN w w' b s s ∧ z = decide (0 < ls.length ∧ n ≤ 16384) ∧ (z = false → ls' = ls) ∧ (z = true → ∃ l, ls[plc i ls.length]? = some l ∧ ls'.map Ltr.key = (ls.map Ltr.key).set (plc i ls.length) (l.f, l.t, xs))
theorem turn_prog (w : World) (b : Nat) (i : Int) (s : Value) (ls : List Ltr) (a : Option Addr) (n c : Nat) (xs : List Int) (h : NetSt w b s ls) (h3 : ls.length ≤ 300) (hr : Row w a n xs ∧ (a = none → c = 0)) : Calls Try.prog 26 #[.pointer (some ⟨b, 0, none⟩), .int .i64 i, .slice a n c] w fun e w' => PTurned w b s ls i n xs e w' := by
  by_cases h0 : ls.length = 0
  · obtain rfl := List.eq_nil_of_length_eq_zero h0
    exact (turn_none w b i s a n c h).mono fun e w' ⟨he, hw⟩ => ⟨false, [], he, by rw [← hw]; exact h, by rw [← hw]; exact FrN.of_below (Below.refl _ _) b s, (decide_eq_false (fun q => by simp at q)).symm, fun _ => rfl, fun q => by cases q⟩
  · exact (turn_any w b i s ls a n c xs h (by omega) h3 hr).mono fun e w' q => by
      rcases q with ⟨hc, he, hw⟩ | ⟨hc, he, l, u, hl, q1, q2⟩
      · exact ⟨false, ls, he, by rw [← hw]; exact h, by rw [← hw]; exact FrN.of_below (Below.refl _ _) b s, (decide_eq_false (fun q => by omega)).symm, fun _ => rfl, fun q => by cases q⟩
      · exact ⟨true, _, he, q1, q2, (decide_eq_true ⟨by omega, hc⟩).symm, fun q => (by cases q), fun _ => ⟨l, hl, by rw [List.map_set]; rfl⟩⟩
end Go.Proofs.Ytoeojgdolanggaa
