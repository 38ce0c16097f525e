import Derived.Test.YtoeojgdolanggaaN10
namespace Go.Proofs.Ytoeojgdolanggaa
open Go Go.RowKit Go.ChangeShapes Go.WideShapes Go.ChangeAt
theorem size5 (w : World) : (sizeOf 5).run Try.prog w = .ok 1 w := by kernel_rfl
theorem wrap_byte (x : Int) : 0 ≤ IntKind.u8.wrap x ∧ IntKind.u8.wrap x ≤ 255 := by rw [IntKind.wrap_u8]; omega
theorem own_some {w : World} {B : Nat} {a : Option Addr} {n c : Nat} {xs : List Int} (h : Own w B (.slice a n c) xs) (hn : 0 < n) : ∃ g, a = some ⟨g, 0, none⟩ := by
  rcases h.form with ⟨e, _⟩ | ⟨g, cap, cur, e, _⟩
  · simp only [Value.slice.injEq] at e; omega
  · simp only [Value.slice.injEq] at e; exact ⟨g, e.1⟩
theorem own_n {w : World} {B : Nat} {a : Option Addr} {n c : Nat} {xs : List Int} (h : Own w B (.slice a n c) xs) : xs.length = n := by
  obtain ⟨a', c', e⟩ := h.slice
  simp only [Value.slice.injEq] at e
  exact e.2.1.symm
theorem own_cell {w : World} {B g n c : Nat} {xs : List Int} (h : Own w B (.slice (some ⟨g, 0, none⟩) n c) xs) (k : Nat) (hk : k < n) : w.cell? ⟨g, k, none⟩ = some (.int .u8 (xs.getD k 0)) := by
  obtain ⟨g', o', e, hc⟩ := h.row.1.2.2.2 k hk
  simp only [Option.some.injEq, Addr.mk.injEq, and_true] at e
  obtain ⟨rfl, rfl⟩ := e
  rw [Nat.zero_add] at hc
  exact hc
theorem _root_.Go.World.ownsRow.frozenAt' {w : World} {base g cap n m : Nat} {e : TypeId} {size : Nat} {xs : List Value} (h : w.ownsRow base e size (.slice (some ⟨g, 0, none⟩) n cap) m xs) (j : Nat) : w.frozen? ⟨g, j, none⟩ = false := by
  rcases h.2 with ⟨h', _⟩ | ⟨g', cap', cur, h', _, hg, _⟩
  · simp at h'
  · simp only [Value.slice.injEq, Option.some.injEq, Addr.mk.injEq, and_true, true_and] at h'
    rw [h'.1]
    exact frozen_of_row w g' j cur e hg
theorem own_set {w : World} {B g n c : Nat} {xs : List Int} (h : Own w B (.slice (some ⟨g, 0, none⟩) n c) xs) (k : Nat) (u : Int) (hu : 0 ≤ u ∧ u ≤ 255) : Own (w.setCell ⟨g, k, none⟩ (.int .u8 u)) B (.slice (some ⟨g, 0, none⟩) n c) (xs.set k u) := by
  obtain rfl := own_n h
  refine ⟨?_, fun x hx => ?_⟩
  · rw [List.length_set, List.map_set]
    exact (h.1.stored k _).1
  · rcases List.mem_or_eq_of_mem_set hx with hx | rfl
    · exact h.2 x hx
    · exact hu
theorem keep_own {w w' : World} {B b : Nat} {v : Value} {xs : List Int} (h : Own w B v xs) (hb : Below b w w') (hk : ∀ k, v.ownBlock = some k → k < b) : Own w' B v xs := by
  rcases h.1.2 with ⟨e, e0⟩ | ⟨g, cap, cur, e, q2, q3, q4⟩
  · exact ⟨⟨h.1.1, .inl ⟨e, e0⟩⟩, h.2⟩
  · exact ⟨⟨h.1.1, .inr ⟨g, cap, cur, e, q2, (hb.block g (hk g (by rw [e]; rfl))).trans q3, q4⟩⟩, h.2⟩
theorem own_pos {w : World} {B n : Nat} {v : Value} {xs : List Int} (h : Own w B v xs) (hx : xs.length = n) (hn : 0 < n) : ∃ g c, v = .slice (some ⟨g, 0, none⟩) n c := by
  rcases h.form with ⟨_, rfl⟩ | ⟨g, cap, cur, e, _⟩
  · simp at hx; omega
  · exact ⟨g, cap, by rw [e, hx]⟩
theorem two_ms {ms : List Ltr} {v6 v7 : Value} {xs : List Int} (h : ms.map Ltr.xs = [(⟨0, 0, v6, xs⟩ : Ltr), ⟨0, 0, v7, xs⟩].map Ltr.xs) : ∃ m0 m1, ms = [m0, m1] ∧ m1.xs = xs := by
  match ms, h with
  | [], h => simp at h
  | [_], h => simp at h
  | [m0, m1], h => exact ⟨m0, m1, rfl, by simp at h; exact h.2⟩
  | _ :: _ :: _ :: _, h => simp at h
def OInv (w : World) (b : Nat) (s : Value) (ls : List Ltr) (g4 g7 : Nat) (vg ua : Value) (g9 c9 : Nat) (m0 m1 : Ltr) (n : Nat) (wr : World) : Prop :=
  Below w.heap.size w wr ∧ NetSt wr b s ls ∧ Blk wr g4 43 #[.int .i64 0, .int .i64 0, vg] ∧ Blk wr g7 43 #[.int .i64 0, .int .i64 0, ua] ∧ LRow wr w.heap.size (.slice (some ⟨g9, 0, none⟩) 2 c9) 2 (flat [m0, m1]) ∧
  (∃ ys, Own wr w.heap.size vg ys ∧ ys.length = n) ∧ (∃ ys, Own wr w.heap.size ua ys ∧ ys.length = n) ∧ ∃ ys, Own wr w.heap.size m1.v ys ∧ ys.length = n
theorem own_poke {w : World} {B n g k : Nat} {v : Value} {y : Int} (h : ∃ ys, Own w B v ys ∧ ys.length = n) (hy : 0 ≤ y ∧ y ≤ 255) : ∃ ys, Own (w.setCell ⟨g, k, none⟩ (.int .u8 y)) B v ys ∧ ys.length = n := by
  obtain ⟨ys, h1, h2⟩ := h
  by_cases e : v.ownBlock = some g
  · rcases h1.form with ⟨e', _⟩ | ⟨g', cap, cur, e', _⟩
    · rw [e'] at e; cases e
    · rw [e'] at e
      simp [Value.ownBlock] at e
      subst e
      subst e'
      exact ⟨_, own_set h1 k y hy, by rw [List.length_set, h2]⟩
  · exact ⟨ys, h1.other _ _ e, h2⟩
theorem OInv.poke {w wr : World} {b g4 g7 g9 c9 n : Nat} {s vg ua : Value} {ls : List Ltr} {m0 m1 : Ltr} (h : OInv w b s ls g4 g7 vg ua g9 c9 m0 m1 n wr) (g k : Nat) (y : Int) (hy : 0 ≤ y ∧ y ≤ 255) (ho : ∃ B n c ys, Own wr B (.slice (some ⟨g, 0, none⟩) n c) ys) (hg : w.heap.size ≤ g)
    (hd : ∀ l ∈ ls, l.v.ownBlock ≠ some g) : OInv w b s ls g4 g7 vg ua g9 c9 m0 m1 n (wr.setCell ⟨g, k, none⟩ (.int .u8 y)) := by
  obtain ⟨h1, h2, h3, h4, h5, h6, h7, h8⟩ := h
  obtain ⟨B, m, c, ys, ho⟩ := ho
  have ne : ∀ {p t : Nat} {cs : Array Value}, Blk wr p t cs → t ≠ 5 → p ≠ g := fun hp ht e => own_ne hp ht ho (by rw [e]; rfl)
  have nl : ∀ {B' n' : Nat} {v : Value} {cs : List Value}, LRow wr B' v n' cs → v.ownBlock ≠ some g := fun hl e => by
    rcases kinds_ne hl ho with q | q
    · cases q
    · exact q e.symm
  exact ⟨Below.setCell (p := ⟨g, k, none⟩) h1 hg _, ⟨h2.1.other _ _ (ne h2.1 (by omega)), h2.2.1.other _ _ (nl h2.2.1), fun l hl => ⟨(h2.2.2 l hl).1.other _ _ (hd l hl), (h2.2.2 l hl).2⟩⟩, h3.other _ _ (ne h3 (by omega)), h4.other _ _ (ne h4 (by omega)), h5.other _ _ (nl h5), own_poke h6 hy, own_poke h7 hy, own_poke h8 hy⟩
theorem open_ltr {H : Type} {enc : TypeId × Value → H} {W : World} {b0 : Nat} {r : Reach} {held : Bool} {v : Value} {d : DataW H} {ps : List MemPlace}
    (hval : Value.okWide Try.prog W r b0 43 v) (hd : DataW.Trod enc Try.prog W 0 (fun _ => true) held 43 v d ps) : ∃ (f t : Int) (a : Option Addr) (n c : Nat) (zs : List Int), v = .agg #[.int .i64 f, .int .i64 t, .slice a n c] ∧ IsRow .u8 W a n c zs := by
  simp only [Value.okWide, Try.underlying43] at hval
  obtain ⟨cs, rfl, hsz, _⟩ := hval
  obtain ⟨fuel, hf⟩ := hd
  simp only [Value.cells] at hf
  obtain ⟨xs, m, _, _, hlen, hl, hel⟩ := DataW.trod_struct Try.underlying43 hf
  have c3 : Try.prog.cellsOf 3 = 1 := by kernel_rfl
  have c30 : Try.prog.cellsOf 30 = 1 := by kernel_rfl
  have c43 : Try.prog.cellsOf 43 = 3 := by kernel_rfl
  have e0 : DataW.trod enc Try.prog W 0 (fun _ => true) held m 3 ((cs.toList.drop 0).take (Try.prog.cellsOf 3)) = xs[0]? := hel 0 _ rfl
  have e1 : DataW.trod enc Try.prog W 0 (fun _ => true) held m 3 ((cs.toList.drop 1).take (Try.prog.cellsOf 3)) = xs[1]? := hel 1 _ rfl
  have e2 : DataW.trod enc Try.prog W 0 (fun _ => true) held m 30 ((cs.toList.drop 2).take (Try.prog.cellsOf 30)) = xs[2]? := hel 2 _ rfl
  simp only [c3, c30] at e0 e1 e2
  rw [List.getElem?_eq_getElem (by rw [hl]; decide)] at e0 e1 e2
  obtain ⟨f, h0, _, _⟩ := DataW.trod_int Try.underlying3 e0
  obtain ⟨t, h1, _, _⟩ := DataW.trod_int Try.underlying3 e1
  obtain ⟨x0, x1, x2, hx⟩ : ∃ x0 x1 x2, cs = #[x0, x1, x2] := by
    have h3 : cs.toList.length = 3 := by rw [hlen, c43]
    match hc : cs.toList, h3 with
    | [x0, x1, x2], _ => exact ⟨x0, x1, x2, by rw [← Array.toArray_toList (xs := cs), hc]⟩
  subst hx
  simp at h0 h1
  subst h0 h1
  rcases open_ints Try.underlying30 Try.underlying5 (by kernel_rfl) e2 with ⟨hcs, _⟩ | ⟨x, l, c, zs, hcs, _, hl', hm, hz, _, hcell, hwz⟩
  · simp at hcs
    subst hcs
    exact ⟨f, t, none, 0, 0, [], rfl, .inl ⟨rfl, rfl, rfl, rfl⟩⟩
  · simp at hcs
    subst hcs
    exact ⟨f, t, _, l, c, zs, rfl, .inr ⟨_, rfl, hl', hm, by simpa using hz, hcell, hwz⟩⟩
set_option maxHeartbeats 4000000 in
theorem walkNetOwn (f t : Int) (a : Option Addr) (n c : Nat) (zs : List Int) (w : World) (h1 : IsRow .u8 w a n c zs) :
    Calls Try.prog 7 #[.agg #[.int .i64 f, .int .i64 t, .slice a n c]] w fun e w' => e = .returned (.bool true) ∧ Below w.heap.size w w' := by
  have hr := row_of h1
  generalize zs.take n = xs at hr
  have HR := Lib.hid hr
  have HXL := Lib.hid hr.1
  have HXB := Lib.hid hr.2.2.1
  clear h1 hr
  obtain ⟨W0, hW0⟩ : ∃ V, V = w.alloc (.cells #[.int .i64 f, .int .i64 t, .slice a n c] 43) := ⟨_, rfl⟩
  obtain ⟨g1, hg1⟩ : ∃ q, w.heap.size = q := ⟨_, rfl⟩
  have B0 : Hid (Blk W0 g1 43 #[.int .i64 f, .int .i64 t, .slice a n c] ∧ Below w.heap.size w W0 ∧ Row W0 a n xs) := Lib.hid (by
    rw [hW0, ← hg1]
    have hb : Below w.heap.size w (w.alloc (.cells #[.int .i64 f, .int .i64 t, .slice a n c] 43)) := (Below.refl _ _).alloc (Nat.le_refl _) _
    exact ⟨Blk.new _ _ _, hb, HR.out.keep hb⟩)
  by_cases i1 : 500 < n
  · have BIG : Hid (decide ((500 : Int) < (n : Int)) = true) := Lib.hid (by rw [decide_eq_true_eq]; omega)
    clear i1
    go_enter Try.func7, Try.ntmps7
    go_upto_region 1 with (fail)
    try rw [← hW0]
    try rw [hg1]
    clear hW0 hg1
    go_upto_region 1 with (fail)
    refine wp_region_lit ?_
    refine wpL_call 16 #[] rfl (by kernel_rfl) ((awakeN W0).mono fun e w1 ⟨he, hb⟩ => ⟨.bool true, he, ?_⟩)
    simp only [Act.put, List.setIfInBounds_toArray, List.set_cons_zero, List.set_cons_succ]
    have B1 : Hid (Blk w1 g1 43 #[.int .i64 f, .int .i64 t, .slice a n c] ∧ Below w.heap.size w w1 ∧ Row w1 a n xs) := Lib.hid ⟨B0.out.1.below hb, B0.out.2.1.trans (hb.mono B0.out.2.1.size), B0.out.2.2.keep hb⟩
    clear hb B0
    refine wpL_pure (.bool false) rfl (by kernel_rfl) ?_
    simp only [Act.put, List.setIfInBounds_toArray, List.set_cons_zero, List.set_cons_succ]
    refine wpL_pure (.bool false) rfl (by kernel_rfl) ?_
    simp only [Act.put, List.setIfInBounds_toArray, List.set_cons_zero, List.set_cons_succ]
    refine wpL_pure (.pointer (some ⟨g1, 2, none⟩)) rfl (by kernel_rfl) ?_
    simp only [Act.put, List.setIfInBounds_toArray, List.set_cons_zero, List.set_cons_succ]
    refine wpL_pure (.slice a n c) rfl (run_load_one _ _ _ 30 _ _ rfl g1 2 rfl (by rw [B1.out.1.cell]; rfl) (by kernel_rfl)) ?_
    simp only [Act.put, List.setIfInBounds_toArray, List.set_cons_zero, List.set_cons_succ]
    refine wpL_pure (.int .i64 (n : Int)) rfl (by kernel_rfl) ?_
    simp only [Act.put, List.setIfInBounds_toArray, List.set_cons_zero, List.set_cons_succ]
    refine wpL_pure (.bool true) rfl (run_gti Try.underlying3 rfl rfl rfl BIG.out) ?_
    simp only [Act.put, List.setIfInBounds_toArray, List.set_cons_zero, List.set_cons_succ]
    refine wpL_pure (.bool true) rfl (by kernel_rfl) ?_
    simp only [Act.put, List.setIfInBounds_toArray, List.set_cons_zero, List.set_cons_succ]
    go_upto_region 2 with (fail)
    refine wp_region_lit ?_
    refine wpL_call 16 #[] rfl (by kernel_rfl) ((awakeN w1).mono fun e w2 ⟨he, hb⟩ => ⟨.bool true, he, ?_⟩)
    simp only [Act.put, List.setIfInBounds_toArray, List.set_cons_zero, List.set_cons_succ]
    have B2 := Lib.hid (B1.out.2.1.trans (hb.mono B1.out.2.1.size))
    clear hb
    refine wpL_pure (.bool true) rfl (by kernel_rfl) ?_
    simp only [Act.put, List.setIfInBounds_toArray, List.set_cons_zero, List.set_cons_succ]
    go_wp2_with fail
    go_ret
    exact ⟨rfl, B2.out⟩
  · have BIG : Hid (decide ((500 : Int) < (n : Int)) = false) := Lib.hid (by rw [decide_eq_false_iff_not]; omega)
    clear i1
    go_enter Try.func7, Try.ntmps7
    go_upto_region 1 with (fail)
    try rw [← hW0]
    try rw [hg1]
    clear hW0 hg1
    go_upto_region 1 with (fail)
    refine wp_region_lit ?_
    refine wpL_call 16 #[] rfl (by kernel_rfl) ((awakeN W0).mono fun e w1 ⟨he, hb⟩ => ⟨.bool true, he, ?_⟩)
    simp only [Act.put, List.setIfInBounds_toArray, List.set_cons_zero, List.set_cons_succ]
    have B1 : Hid (Blk w1 g1 43 #[.int .i64 f, .int .i64 t, .slice a n c] ∧ Below w.heap.size w w1 ∧ Row w1 a n xs) := Lib.hid ⟨B0.out.1.below hb, B0.out.2.1.trans (hb.mono B0.out.2.1.size), B0.out.2.2.keep hb⟩
    clear hb B0
    refine wpL_pure (.bool false) rfl (by kernel_rfl) ?_
    simp only [Act.put, List.setIfInBounds_toArray, List.set_cons_zero, List.set_cons_succ]
    refine wpL_pure (.bool false) rfl (by kernel_rfl) ?_
    simp only [Act.put, List.setIfInBounds_toArray, List.set_cons_zero, List.set_cons_succ]
    refine wpL_pure (.pointer (some ⟨g1, 2, none⟩)) rfl (by kernel_rfl) ?_
    simp only [Act.put, List.setIfInBounds_toArray, List.set_cons_zero, List.set_cons_succ]
    refine wpL_pure (.slice a n c) rfl (run_load_one _ _ _ 30 _ _ rfl g1 2 rfl (by rw [B1.out.1.cell]; rfl) (by kernel_rfl)) ?_
    simp only [Act.put, List.setIfInBounds_toArray, List.set_cons_zero, List.set_cons_succ]
    refine wpL_pure (.int .i64 (n : Int)) rfl (by kernel_rfl) ?_
    simp only [Act.put, List.setIfInBounds_toArray, List.set_cons_zero, List.set_cons_succ]
    refine wpL_pure (.bool false) rfl (run_gti Try.underlying3 rfl rfl rfl BIG.out) ?_
    simp only [Act.put, List.setIfInBounds_toArray, List.set_cons_zero, List.set_cons_succ]
    refine wpL_pure (.bool false) rfl (by kernel_rfl) ?_
    simp only [Act.put, List.setIfInBounds_toArray, List.set_cons_zero, List.set_cons_succ]
    have N5 : Hid (n ≤ 500) := Lib.hid (by have := BIG.out; rw [decide_eq_false_iff_not] at this; omega)
    go_upto_region 3 with (fail)
    refine wp_region_lit ?_
    refine wpL_pure (.pointer (some ⟨g1, 2, none⟩)) rfl (by kernel_rfl) ?_
    simp only [Act.put, List.setIfInBounds_toArray, List.set_cons_zero, List.set_cons_succ]
    refine wpL_pure (.slice a n c) rfl (run_load_one _ _ _ 30 _ _ rfl g1 2 rfl (by rw [B1.out.1.cell]; rfl) (by kernel_rfl)) ?_
    simp only [Act.put, List.setIfInBounds_toArray, List.set_cons_zero, List.set_cons_succ]
    refine wpL_pure (.string (strOfNums xs)) rfl (run_conv_str _ _ _ _ a n c xs rfl rfl B1.out.2.2) ?_
    simp only [Act.put, List.setIfInBounds_toArray, List.set_cons_zero, List.set_cons_succ]
    refine wpL_pure (.string (strOfNums xs)) rfl (by kernel_rfl) ?_
    simp only [Act.put, List.setIfInBounds_toArray, List.set_cons_zero, List.set_cons_succ]
    obtain ⟨w2, hw2⟩ : ∃ V, V = w1.alloc (.cells #[] 5) := ⟨_, rfl⟩
    have C0 : Below w1.heap.size w1 w2 := by rw [hw2]; exact (Below.refl _ _).alloc (Nat.le_refl _) _
    have O0 : Own w2 w.heap.size (.slice (some ⟨w1.heap.size, 0, none⟩) 0 0) [] := by rw [hw2]; exact ⟨World.ownsRow_made w1 #[] 0 B1.out.2.1.size (by simp [maxLen]) (by simp), by simp⟩
    obtain ⟨vg, w3, r1, r2, r3, r4, r5⟩ := append_own w2 w.heap.size _ [] xs a n c O0 (B1.out.2.2.keep C0) (by have := N5.out; simp; omega) (Nat.le_trans B1.out.2.1.size C0.size)
    obtain ⟨ag, cg, eg⟩ := r2.slice
    rw [List.nil_append] at r2 eg
    rw [B1.out.2.2.1] at eg
    subst eg
    have R1 := Lib.hid r1
    have lt1 : w1.heap.size < w3.heap.size := by
      have : w1.heap.size < w2.heap.size := by rw [hw2]; simp
      exact Nat.lt_of_lt_of_le this r3.size
    have B3 : Hid (Own w3 w.heap.size (.slice ag n cg) xs ∧ Below w.heap.size w w3 ∧ Row w3 a n xs ∧ Blk w3 g1 43 #[.int .i64 f, .int .i64 t, .slice a n c] ∧ w1.heap.size < w3.heap.size) := Lib.hid (by
      have q3 : Below w1.heap.size w1 w3 := C0.grown r3 C0.size (fun k hk => by simp [Value.ownBlock] at hk; omega)
      exact ⟨r2, B1.out.2.1.trans (q3.mono B1.out.2.1.size), B1.out.2.2.keep q3, B1.out.1.below q3, lt1⟩)
    clear r1 r2 r3 r4 r5 O0 C0 lt1
    go_upto_region 4 with (fail)
    refine wp_region_lit ?_
    refine wpL_value (.slice (some ⟨w1.heap.size, 0, none⟩) 0 0) (w1.alloc (.cells #[] 5)) rfl (by kernel_rfl) ?_
    simp only [Act.put, List.setIfInBounds_toArray, List.set_cons_zero, List.set_cons_succ]
    rw [← hw2]
    have B1b : Hid (Blk w2 g1 43 #[.int .i64 f, .int .i64 t, .slice a n c]) := Lib.hid (by rw [hw2]; exact B1.out.1.alloc _)
    clear hw2
    refine wpL_pure (.pointer (some ⟨g1, 2, none⟩)) rfl (by kernel_rfl) ?_
    simp only [Act.put, List.setIfInBounds_toArray, List.set_cons_zero, List.set_cons_succ]
    refine wpL_pure (.slice a n c) rfl (run_load_one _ _ _ 30 _ _ rfl g1 2 rfl (by rw [B1b.out.cell]; rfl) (by kernel_rfl)) ?_
    simp only [Act.put, List.setIfInBounds_toArray, List.set_cons_zero, List.set_cons_succ]
    refine wpL_value (.slice ag n cg) (w3) rfl (run_app _ _ _ _ _ _ _ _ _ rfl rfl rfl rfl R1.out) ?_
    simp only [Act.put, List.setIfInBounds_toArray, List.set_cons_zero, List.set_cons_succ]
    clear R1 B1b B1
    refine wpL_pure (.agg #[.int .i64 0, .int .i64 0, .slice ag n cg]) rfl (by kernel_rfl) ?_
    simp only [Act.put, List.setIfInBounds_toArray, List.set_cons_zero, List.set_cons_succ]
    have BX := Lib.hid (box_frame w3 0 0 (.slice ag n cg))
    obtain ⟨w4, hw4⟩ : ∃ V, V = (w3.alloc (.cells #[.int .i64 0, .int .i64 0, .slice none 0 0] 43)).setRow w3.heap.size #[.int .i64 0, .int .i64 0, .slice ag n cg] := ⟨_, rfl⟩
    rw [← hw4] at BX
    refine wpL_value (.pointer (some ⟨w3.heap.size, 0, none⟩)) (w3.alloc (.cells #[.int .i64 0, .int .i64 0, .slice none 0 0] 43)) rfl (by kernel_rfl) ?_
    simp only [Act.put, List.setIfInBounds_toArray, List.set_cons_zero, List.set_cons_succ]
    refine wpList_store_row rfl 43 _ _ rfl (w3.heap.size) (#[.int .i64 0, .int .i64 0, .slice ag n cg]) rfl rfl _ _ (Blk.new w3 43 _) (by kernel_rfl) rfl (all3 _ _ _ rfl) ?_
    simp only [Act.put, List.setIfInBounds_toArray, List.set_cons_zero, List.set_cons_succ]
    rw [← hw4]
    have B4 : Hid (Blk w4 w3.heap.size 43 #[.int .i64 0, .int .i64 0, .slice ag n cg] ∧ Own w4 w.heap.size (.slice ag n cg) xs ∧ Below w.heap.size w w4 ∧ Row w4 a n xs ∧ w.heap.size ≤ w3.heap.size) := Lib.hid ⟨BX.out.1, B3.out.1.below BX.out.2, B3.out.2.1.trans (BX.out.2.mono B3.out.2.1.size), B3.out.2.2.1.keep BX.out.2, B3.out.2.1.size⟩
    clear BX B3 hw4
    generalize w3.heap.size = g4 at B4 ⊢
    go_upto_region 5 with (fail)
    refine wp_region_lit ?_
    refine wpL_call 18 #[] rfl (by kernel_rfl) ((new_any w4).mono fun e w5 ⟨he, hs, hb⟩ => ⟨.pointer (some ⟨w4.heap.size, 0, none⟩), he, ?_⟩)
    simp only [Act.put, List.setIfInBounds_toArray, List.set_cons_zero, List.set_cons_succ]
    have B5 : Hid (NetSt w5 w4.heap.size (.slice none 0 0) [] ∧ Blk w5 g4 43 #[.int .i64 0, .int .i64 0, .slice ag n cg] ∧ Own w5 w.heap.size (.slice ag n cg) xs ∧ Below w.heap.size w w5 ∧ w.heap.size ≤ w4.heap.size ∧ g4 < w4.heap.size ∧ (∀ k, (.slice ag n cg : Value).ownBlock = some k → k < w4.heap.size)) := Lib.hid ⟨hs, B4.out.1.below hb, B4.out.2.1.below hb, B4.out.2.2.1.trans (hb.mono B4.out.2.2.1.size), B4.out.2.2.1.size, B4.out.1.lt, fun k hk => (B4.out.2.1.lt k hk).2⟩
    clear hs hb B4
    generalize w4.heap.size = b at B5 ⊢
    refine wpL_pure (.pointer (some ⟨b, 0, none⟩)) rfl (by kernel_rfl) ?_
    simp only [Act.put, List.setIfInBounds_toArray, List.set_cons_zero, List.set_cons_succ]
    go_upto_region 6 with (fail)
    refine wp_region_lit ?_
    refine wpL_pure (.pointer (some ⟨b, 0, none⟩)) rfl (by kernel_rfl) ?_
    simp only [Act.put, List.setIfInBounds_toArray, List.set_cons_zero, List.set_cons_succ]
    refine wpL_load 43 _ rfl rfl g4 0 rfl [.int .i64 0, .int .i64 0, .slice ag n cg] _ (range_blk (t := 43) B5.out.2.1) Try.underlying43 rfl (by kernel_rfl) ?_
    simp only [Act.put, List.setIfInBounds_toArray, List.set_cons_zero, List.set_cons_succ]
    refine wpL_call 20 #[.pointer (some ⟨b, 0, none⟩), .agg #[.int .i64 0, .int .i64 0, .slice ag n cg]] rfl (by kernel_rfl) (((send_any w5 b 0 0 ag n cg xs _ [] B5.out.1 (by simp) B5.out.2.2.1.row.1 (by have := N5.out; omega) (own_nil B5.out.2.2.1))).mono fun e w6 ⟨he, s6, v6, q1, q2⟩ => ⟨.bool true, he, ?_⟩)
    simp only [Act.put, List.setIfInBounds_toArray, List.set_cons_zero, List.set_cons_succ]
    have B6 : Hid (NetSt w6 b s6 [(⟨0, 0, v6, xs⟩ : Ltr)] ∧ Blk w6 g4 43 #[.int .i64 0, .int .i64 0, .slice ag n cg] ∧ Own w6 w.heap.size (.slice ag n cg) xs ∧ Below w.heap.size w w6 ∧ w.heap.size ≤ b ∧ g4 < b ∧ (∀ k, (.slice ag n cg : Value).ownBlock = some k → k < b)) := Lib.hid ⟨q1, B5.out.2.1.keep q2 B5.out.2.2.2.2.2.1, keep_own B5.out.2.2.1 q2 B5.out.2.2.2.2.2.2, B5.out.2.2.2.1.trans (q2.mono B5.out.2.2.2.2.1), B5.out.2.2.2.2⟩
    clear q1 q2 B5
    refine wpL_pure (.bool true) rfl (by kernel_rfl) ?_
    simp only [Act.put, List.setIfInBounds_toArray, List.set_cons_zero, List.set_cons_succ]
    refine wpL_pure (.pointer (some ⟨b, 0, none⟩)) rfl (by kernel_rfl) ?_
    simp only [Act.put, List.setIfInBounds_toArray, List.set_cons_zero, List.set_cons_succ]
    refine wpL_call 25 #[.pointer (some ⟨b, 0, none⟩), .int .i64 0] rfl (by kernel_rfl) (((double_any w6 b 0 s6 [(⟨0, 0, v6, xs⟩ : Ltr)] B6.out.1 (by simp) (by simp))).mono fun e w7 ⟨he, l7, s7, v7, hl7, q1, q2⟩ => ⟨.bool true, he, ?_⟩)
    simp only [Act.put, List.setIfInBounds_toArray, List.set_cons_zero, List.set_cons_succ]
    obtain rfl : l7 = (⟨0, 0, v6, xs⟩ : Ltr) := by simpa [plc] using hl7.symm
    have B7 : Hid (NetSt w7 b s7 [(⟨0, 0, v6, xs⟩ : Ltr), ⟨0, 0, v7, xs⟩] ∧ Blk w7 g4 43 #[.int .i64 0, .int .i64 0, .slice ag n cg] ∧ Own w7 w.heap.size (.slice ag n cg) xs ∧ Below w.heap.size w w7 ∧ w.heap.size ≤ b ∧ g4 < b ∧ (∀ k, (.slice ag n cg : Value).ownBlock = some k → k < b)) := Lib.hid ⟨q1, B6.out.2.1.keep q2 B6.out.2.2.2.2.2.1, keep_own B6.out.2.2.1 q2 B6.out.2.2.2.2.2.2, B6.out.2.2.2.1.trans (q2.mono B6.out.2.2.2.2.1), B6.out.2.2.2.2⟩
    clear q1 q2 hl7 B6
    refine wpL_pure (.bool true) rfl (by kernel_rfl) ?_
    simp only [Act.put, List.setIfInBounds_toArray, List.set_cons_zero, List.set_cons_succ]
    refine wpL_pure (.bool true) rfl (by kernel_rfl) ?_
    simp only [Act.put, List.setIfInBounds_toArray, List.set_cons_zero, List.set_cons_succ]
    go_upto_region 7 with (fail)
    refine wp_region_lit ?_
    refine wpL_pure (.pointer (some ⟨b, 0, none⟩)) rfl (by kernel_rfl) ?_
    simp only [Act.put, List.setIfInBounds_toArray, List.set_cons_zero, List.set_cons_succ]
    refine wpL_call 27 #[.pointer (some ⟨b, 0, none⟩), .int .i64 0] rfl (by kernel_rfl) (((at_any w7 b 0 s7 [(⟨0, 0, v6, xs⟩ : Ltr), ⟨0, 0, v7, xs⟩] B7.out.1 (by simp) (by simp))).mono fun e w8 ⟨l8, ua, hl8, he, hu, hs, hb⟩ => ⟨.tuple #[.agg #[.int .i64 l8.f, .int .i64 l8.t, ua], .bool true], he, ?_⟩)
    simp only [Act.put, List.setIfInBounds_toArray, List.set_cons_zero, List.set_cons_succ]
    obtain rfl : l8 = (⟨0, 0, v6, xs⟩ : Ltr) := by simpa [plc] using hl8.symm
    have ONEA : ua.oneCell' = true := by obtain ⟨a, c, e⟩ := hu.slice; rw [e]; rfl
    have B8 : Hid (NetSt w8 b s7 [(⟨0, 0, v6, xs⟩ : Ltr), ⟨0, 0, v7, xs⟩] ∧ Blk w8 g4 43 #[.int .i64 0, .int .i64 0, .slice ag n cg] ∧ Own w8 w.heap.size (.slice ag n cg) xs ∧ Below w.heap.size w w8 ∧ w.heap.size ≤ b ∧ (∀ k, (.slice ag n cg : Value).ownBlock = some k → k < b) ∧ Own w8 w.heap.size ua xs ∧ (∀ k, ua.ownBlock = some k → w7.heap.size ≤ k) ∧ (∀ l ∈ [(⟨0, 0, v6, xs⟩ : Ltr), ⟨0, 0, v7, xs⟩], ∀ k, l.v.ownBlock = some k → b < k ∧ k < w7.heap.size)) := Lib.hid ⟨hs, B7.out.2.1.below hb, B7.out.2.2.1.below hb, B7.out.2.2.2.1.trans (hb.mono B7.out.2.2.2.1.size), B7.out.2.2.2.2.1, B7.out.2.2.2.2.2.2, hu.mono B7.out.2.2.2.1.size, fun k hk => (hu.lt k hk).1, fun l hl k hk => (B7.out.1.2.2 l hl).1.lt k hk⟩
    have WBH : Hid (w.heap.size ≤ b) := Lib.hid B7.out.2.2.2.2.1
    clear hu hs hb hl8 B7
    generalize w7.heap.size = H7 at B8
    dsimp only
    refine wpL_pure (.tuple #[.agg #[.int .i64 0, .int .i64 0, ua], .bool true]) rfl (by kernel_rfl) ?_
    simp only [Act.put, List.setIfInBounds_toArray, List.set_cons_zero, List.set_cons_succ]
    refine wpL_pure (.agg #[.int .i64 0, .int .i64 0, ua]) rfl (by kernel_rfl) ?_
    simp only [Act.put, List.setIfInBounds_toArray, List.set_cons_zero, List.set_cons_succ]
    refine wpL_pure (.bool true) rfl (by kernel_rfl) ?_
    simp only [Act.put, List.setIfInBounds_toArray, List.set_cons_zero, List.set_cons_succ]
    have BX := Lib.hid (box_frame w8 0 0 ua)
    obtain ⟨w9, hw9⟩ : ∃ V, V = (w8.alloc (.cells #[.int .i64 0, .int .i64 0, .slice none 0 0] 43)).setRow w8.heap.size #[.int .i64 0, .int .i64 0, ua] := ⟨_, rfl⟩
    rw [← hw9] at BX
    refine wpL_value (.pointer (some ⟨w8.heap.size, 0, none⟩)) (w8.alloc (.cells #[.int .i64 0, .int .i64 0, .slice none 0 0] 43)) rfl (by kernel_rfl) ?_
    simp only [Act.put, List.setIfInBounds_toArray, List.set_cons_zero, List.set_cons_succ]
    refine wpList_store_row rfl 43 _ _ rfl (w8.heap.size) (#[.int .i64 0, .int .i64 0, ua]) rfl rfl _ _ (Blk.new w8 43 _) (by kernel_rfl) rfl (all3 _ _ _ ONEA) ?_
    simp only [Act.put, List.setIfInBounds_toArray, List.set_cons_zero, List.set_cons_succ]
    rw [← hw9]
    have B9 : Hid (NetSt w9 b s7 [(⟨0, 0, v6, xs⟩ : Ltr), ⟨0, 0, v7, xs⟩] ∧ Blk w9 g4 43 #[.int .i64 0, .int .i64 0, .slice ag n cg] ∧ Own w9 w.heap.size (.slice ag n cg) xs ∧ Below w.heap.size w w9 ∧ Own w9 w.heap.size ua xs ∧ Blk w9 w8.heap.size 43 #[.int .i64 0, .int .i64 0, ua]) := Lib.hid ⟨B8.out.1.below BX.out.2, B8.out.2.1.below BX.out.2, B8.out.2.2.1.below BX.out.2, B8.out.2.2.2.1.trans (BX.out.2.mono B8.out.2.2.2.1.size), B8.out.2.2.2.2.2.2.1.below BX.out.2, BX.out.1⟩
    have D1 : Hid (∀ k, (.slice ag n cg : Value).ownBlock = some k ∨ ua.ownBlock = some k → ∀ l ∈ [(⟨0, 0, v6, xs⟩ : Ltr), ⟨0, 0, v7, xs⟩], l.v.ownBlock ≠ some k) := Lib.hid (fun k hk l hl e => by have h1 := B8.out.2.2.2.2.2.2.2.2 l hl k e; rcases hk with hk | hk; (have := B8.out.2.2.2.2.2.1 k hk; omega); (have := B8.out.2.2.2.2.2.2.2.1 k hk; omega))
    clear BX B8 hw9
    generalize w8.heap.size = g7 at B9 ⊢
    refine wpL_pure (.bool true) rfl (by kernel_rfl) ?_
    simp only [Act.put, List.setIfInBounds_toArray, List.set_cons_zero, List.set_cons_succ]
    go_upto_region 8 with (fail)
    refine wp_region_lit ?_
    refine wpL_pure (.pointer (some ⟨b, 0, none⟩)) rfl (by kernel_rfl) ?_
    simp only [Act.put, List.setIfInBounds_toArray, List.set_cons_zero, List.set_cons_succ]
    refine wpL_call 29 #[.pointer (some ⟨b, 0, none⟩)] rfl (by kernel_rfl) (((way_any w9 b s7 [(⟨0, 0, v6, xs⟩ : Ltr), ⟨0, 0, v7, xs⟩] B9.out.1 (by simp))).mono fun e w10 ⟨v9, ms, he, hs, hm, hx, ho, hb⟩ => ⟨v9, he, ?_⟩)
    simp only [Act.put, List.setIfInBounds_toArray, List.set_cons_zero, List.set_cons_succ]
    obtain ⟨m0, m1, rfl, hx1⟩ := two_ms hx
    obtain ⟨a9, c9, e9, _⟩ := hm.slice
    subst e9
    obtain ⟨g9, hg9⟩ : ∃ g, a9 = some ⟨g, 0, none⟩ := by
      rcases hm.forms with ⟨_, e, _⟩ | ⟨g, _, _, e, _⟩
      · simp at e
      · simp only [Value.slice.injEq] at e; exact ⟨g, e.1⟩
    subst hg9
    have I0 : Hid (OInv w b s7 [(⟨0, 0, v6, xs⟩ : Ltr), ⟨0, 0, v7, xs⟩] g4 g7 (.slice ag n cg) ua g9 c9 m0 m1 n w10) := Lib.hid ⟨B9.out.2.2.2.1.trans (hb.mono B9.out.2.2.2.1.size), hs, B9.out.2.1.below hb, B9.out.2.2.2.2.2.below hb, hm.mono B9.out.2.2.2.1.size, ⟨xs, B9.out.2.2.1.below hb, HXL.out⟩, ⟨xs, B9.out.2.2.2.2.1.below hb, HXL.out⟩, ⟨m1.xs, (ho m1 (by simp)).mono B9.out.2.2.2.1.size, by rw [hx1]; exact HXL.out⟩⟩
    have D2 : Hid (∀ k, m1.v.ownBlock = some k → ∀ l ∈ [(⟨0, 0, v6, xs⟩ : Ltr), ⟨0, 0, v7, xs⟩], l.v.ownBlock ≠ some k) := Lib.hid (fun k hk l hl e => by have h1 := ((ho m1 (by simp)).lt k hk).1; have h2 := ((B9.out.1.2.2 l hl).1.lt k e).2; omega)
    clear hs hm hx ho hb B9 hx1
    refine wpL_pure (.slice (some ⟨g9, 0, none⟩) 2 c9) rfl (by kernel_rfl) ?_
    simp only [Act.put, List.setIfInBounds_toArray, List.set_cons_zero, List.set_cons_succ]
    go_upto_region 9 with (fail)
    go_wp2_with fail
    go_loopw [10] (fun s10 wr => ∃ k : Nat, s10 = .int .i64 (k : Int) ∧ Hid (k ≤ n ∧ OInv w b s7 [(⟨0, 0, v6, xs⟩ : Ltr), ⟨0, 0, v7, xs⟩] g4 g7 (.slice ag n cg) ua g9 c9 m0 m1 n wr)) (fun s10 _ => n - (intOf s10).toNat)
    case atStart => exact ⟨0, rfl, Lib.hid ⟨by omega, I0.out⟩⟩
    case round =>
      obtain ⟨k, rfl, RI⟩ := hrel
      clear I0
      by_cases hlt : k < n
      · have HK := Lib.hid hlt
        have I1 := Lib.hid RI.out.2
        clear RI hlt
        go_upto_region 10 with (fail)
        refine wp_region_lit ?_
        refine wpL_pure (.int .i64 (k : Int)) rfl (by kernel_rfl) ?_
        simp only [Act.put, List.setIfInBounds_toArray, List.set_cons_zero, List.set_cons_succ]
        refine wpL_pure (.pointer (some ⟨g4, 2, none⟩)) rfl (by kernel_rfl) ?_
        simp only [Act.put, List.setIfInBounds_toArray, List.set_cons_zero, List.set_cons_succ]
        refine wpL_pure (.slice ag n cg) rfl (run_load_one _ _ _ 30 _ _ rfl g4 2 rfl (by rw [I1.out.2.2.1.cell]; rfl) (by kernel_rfl)) ?_
        simp only [Act.put, List.setIfInBounds_toArray, List.set_cons_zero, List.set_cons_succ]
        refine wpL_pure (.int .i64 (n : Int)) rfl (by kernel_rfl) ?_
        simp only [Act.put, List.setIfInBounds_toArray, List.set_cons_zero, List.set_cons_succ]
        refine wpL_pure (.bool true) rfl (run_lti Try.underlying3 rfl rfl rfl (by have := HK.out; rw [decide_eq_true_eq]; omega)) ?_
        simp only [Act.put, List.setIfInBounds_toArray, List.set_cons_zero, List.set_cons_succ]
        go_upto_region 12 with (fail)
        refine wp_region_lit ?_
        obtain ⟨ysI2, oI2, lyI2⟩ := I1.out.2.2.2.2.2.1
        obtain ⟨gg, ggc, hvI2⟩ := own_pos oI2 lyI2 (by have := HK.out; omega)
        have KCI2 := Lib.hid (own_cell (by rw [hvI2] at oI2; exact oI2) k HK.out)
        have FCI2 := Lib.hid ((by rw [hvI2] at oI2; exact oI2 : Own wr w.heap.size (.slice (some ⟨gg, 0, none⟩) n ggc) ysI2).1.frozenAt' k)
        obtain ⟨wa, hwa⟩ : ∃ V, V = wr.setCell ⟨gg, k, none⟩ (.int .u8 (IntKind.u8.wrap (ysI2.getD k 0 + 1))) := ⟨_, rfl⟩
        have I2 : Hid (OInv w b s7 [(⟨0, 0, v6, xs⟩ : Ltr), ⟨0, 0, v7, xs⟩] g4 g7 (.slice ag n cg) ua g9 c9 m0 m1 n wa) := Lib.hid (by rw [hwa]; exact I1.out.poke gg k _ (wrap_byte _) (by rw [hvI2] at oI2; exact ⟨_, _, _, _, oI2⟩) (by rw [hvI2] at oI2; exact (oI2.lt gg rfl).1) (D1.out gg (.inl (by rw [hvI2]; rfl))))
        have HVI2 := Lib.hid hvI2
        clear oI2 lyI2 hvI2
        refine wpL_pure (.pointer (some ⟨g4, 2, none⟩)) rfl (by kernel_rfl) ?_
        simp only [Act.put, List.setIfInBounds_toArray, List.set_cons_zero, List.set_cons_succ]
        refine wpL_pure (.slice (some ⟨gg, 0, none⟩) n ggc) rfl (run_load_one _ _ _ 30 _ _ rfl g4 2 rfl (by rw [I1.out.2.2.1.cell, ← HVI2.out]; rfl) (by kernel_rfl)) ?_
        simp only [Act.put, List.setIfInBounds_toArray, List.set_cons_zero, List.set_cons_succ]
        refine wpL_pure (.int .i64 (k : Int)) rfl (by kernel_rfl) ?_
        simp only [Act.put, List.setIfInBounds_toArray, List.set_cons_zero, List.set_cons_succ]
        refine wpL_pure (.pointer (some ⟨gg, 0 + k, none⟩)) rfl (run_idx _ _ _ _ _ gg 0 n ggc k rfl rfl rfl HK.out (by have := N5.out; unfold maxLen; omega)) ?_
        simp only [Act.put, List.setIfInBounds_toArray, List.set_cons_zero, List.set_cons_succ]
        refine wpL_pure (.int .u8 (ysI2.getD k 0)) rfl (run_load_one _ _ _ 5 _ _ rfl gg (0 + k) rfl (by rw [Nat.zero_add]; exact KCI2.out) (by kernel_rfl)) ?_
        simp only [Act.put, List.setIfInBounds_toArray, List.set_cons_zero, List.set_cons_succ]
        refine wpL_pure (.int .u8 (IntKind.u8.wrap (ysI2.getD k 0 + 1))) rfl (run_addi Try.underlying5 rfl rfl rfl _ rfl) ?_
        simp only [Act.put, List.setIfInBounds_toArray, List.set_cons_zero, List.set_cons_succ]
        refine wpL_pure (.pointer (some ⟨gg, 0 + k, none⟩)) rfl (run_idx _ _ _ _ _ gg 0 n ggc k rfl rfl rfl HK.out (by have := N5.out; unfold maxLen; omega)) ?_
        simp only [Act.put, List.setIfInBounds_toArray, List.set_cons_zero, List.set_cons_succ]
        refine wpL_store_one rfl rfl (gg) (0 + k) rfl (.int .u8 (IntKind.u8.wrap (ysI2.getD k 0 + 1))) rfl rfl size5 (by rw [Nat.zero_add, KCI2.out]; rfl) (by rw [Nat.zero_add]; exact FCI2.out) ?_
        simp only [Act.put, List.setIfInBounds_toArray, List.set_cons_zero, List.set_cons_succ]
        rw [Nat.zero_add, ← hwa]
        clear hwa KCI2 FCI2 I1
        go_upto_region 13 with (fail)
        refine wp_region_lit ?_
        obtain ⟨ysI3, oI3, lyI3⟩ := I2.out.2.2.2.2.2.2.1
        obtain ⟨ga, gac, hvI3⟩ := own_pos oI3 lyI3 (by have := HK.out; omega)
        have KCI3 := Lib.hid (own_cell (by rw [hvI3] at oI3; exact oI3) k HK.out)
        have FCI3 := Lib.hid ((by rw [hvI3] at oI3; exact oI3 : Own wa w.heap.size (.slice (some ⟨ga, 0, none⟩) n gac) ysI3).1.frozenAt' k)
        obtain ⟨wb, hwb⟩ : ∃ V, V = wa.setCell ⟨ga, k, none⟩ (.int .u8 (IntKind.u8.wrap (ysI3.getD k 0 + 1))) := ⟨_, rfl⟩
        have I3 : Hid (OInv w b s7 [(⟨0, 0, v6, xs⟩ : Ltr), ⟨0, 0, v7, xs⟩] g4 g7 (.slice ag n cg) ua g9 c9 m0 m1 n wb) := Lib.hid (by rw [hwb]; exact I2.out.poke ga k _ (wrap_byte _) (by rw [hvI3] at oI3; exact ⟨_, _, _, _, oI3⟩) (by rw [hvI3] at oI3; exact (oI3.lt ga rfl).1) (D1.out ga (.inr (by rw [hvI3]; rfl))))
        have HVI3 := Lib.hid hvI3
        clear oI3 lyI3 hvI3
        refine wpL_pure (.pointer (some ⟨g7, 2, none⟩)) rfl (by kernel_rfl) ?_
        simp only [Act.put, List.setIfInBounds_toArray, List.set_cons_zero, List.set_cons_succ]
        refine wpL_pure (.slice (some ⟨ga, 0, none⟩) n gac) rfl (run_load_one _ _ _ 30 _ _ rfl g7 2 rfl (by rw [I2.out.2.2.2.1.cell, ← HVI3.out]; rfl) (by kernel_rfl)) ?_
        simp only [Act.put, List.setIfInBounds_toArray, List.set_cons_zero, List.set_cons_succ]
        refine wpL_pure (.int .i64 (k : Int)) rfl (by kernel_rfl) ?_
        simp only [Act.put, List.setIfInBounds_toArray, List.set_cons_zero, List.set_cons_succ]
        refine wpL_pure (.pointer (some ⟨ga, 0 + k, none⟩)) rfl (run_idx _ _ _ _ _ ga 0 n gac k rfl rfl rfl HK.out (by have := N5.out; unfold maxLen; omega)) ?_
        simp only [Act.put, List.setIfInBounds_toArray, List.set_cons_zero, List.set_cons_succ]
        refine wpL_pure (.int .u8 (ysI3.getD k 0)) rfl (run_load_one _ _ _ 5 _ _ rfl ga (0 + k) rfl (by rw [Nat.zero_add]; exact KCI3.out) (by kernel_rfl)) ?_
        simp only [Act.put, List.setIfInBounds_toArray, List.set_cons_zero, List.set_cons_succ]
        refine wpL_pure (.int .u8 (IntKind.u8.wrap (ysI3.getD k 0 + 1))) rfl (run_addi Try.underlying5 rfl rfl rfl _ rfl) ?_
        simp only [Act.put, List.setIfInBounds_toArray, List.set_cons_zero, List.set_cons_succ]
        refine wpL_pure (.pointer (some ⟨ga, 0 + k, none⟩)) rfl (run_idx _ _ _ _ _ ga 0 n gac k rfl rfl rfl HK.out (by have := N5.out; unfold maxLen; omega)) ?_
        simp only [Act.put, List.setIfInBounds_toArray, List.set_cons_zero, List.set_cons_succ]
        refine wpL_store_one rfl rfl (ga) (0 + k) rfl (.int .u8 (IntKind.u8.wrap (ysI3.getD k 0 + 1))) rfl rfl size5 (by rw [Nat.zero_add, KCI3.out]; rfl) (by rw [Nat.zero_add]; exact FCI3.out) ?_
        simp only [Act.put, List.setIfInBounds_toArray, List.set_cons_zero, List.set_cons_succ]
        rw [Nat.zero_add, ← hwb]
        clear hwb KCI3 FCI3 I2
        go_upto_region 14 with (fail)
        refine wp_region_lit ?_
        refine wpL_pure (.slice (some ⟨g9, 0, none⟩) 2 c9) rfl (by kernel_rfl) ?_
        simp only [Act.put, List.setIfInBounds_toArray, List.set_cons_zero, List.set_cons_succ]
        refine wpL_pure (.pointer (some ⟨g9, 3, none⟩)) rfl (run_idxl _ _ _ _ _ g9 2 c9 1 rfl rfl rfl (by omega) (by unfold maxLen; omega)) ?_
        simp only [Act.put, List.setIfInBounds_toArray, List.set_cons_zero, List.set_cons_succ]
        refine wpL_pure (.pointer (some ⟨g9, 5, none⟩)) rfl (by kernel_rfl) ?_
        simp only [Act.put, List.setIfInBounds_toArray, List.set_cons_zero, List.set_cons_succ]
        obtain ⟨ysI4, oI4, lyI4⟩ := I3.out.2.2.2.2.2.2.2
        obtain ⟨gm, gmc, hvI4⟩ := own_pos oI4 lyI4 (by have := HK.out; omega)
        have KCI4 := Lib.hid (own_cell (by rw [hvI4] at oI4; exact oI4) k HK.out)
        have FCI4 := Lib.hid ((by rw [hvI4] at oI4; exact oI4 : Own wb w.heap.size (.slice (some ⟨gm, 0, none⟩) n gmc) ysI4).1.frozenAt' k)
        obtain ⟨wc, hwc⟩ : ∃ V, V = wb.setCell ⟨gm, k, none⟩ (.int .u8 (IntKind.u8.wrap (ysI4.getD k 0 + 1))) := ⟨_, rfl⟩
        have I4 : Hid (OInv w b s7 [(⟨0, 0, v6, xs⟩ : Ltr), ⟨0, 0, v7, xs⟩] g4 g7 (.slice ag n cg) ua g9 c9 m0 m1 n wc) := Lib.hid (by rw [hwc]; exact I3.out.poke gm k _ (wrap_byte _) (by rw [hvI4] at oI4; exact ⟨_, _, _, _, oI4⟩) (by rw [hvI4] at oI4; exact (oI4.lt gm rfl).1) (D2.out gm (by rw [hvI4]; rfl)))
        have HVI4 := Lib.hid hvI4
        clear oI4 lyI4 hvI4
        refine wpL_pure (.slice (some ⟨gm, 0, none⟩) n gmc) rfl (run_load_one _ _ _ 30 _ _ rfl g9 5 rfl (by rw [I3.out.2.2.2.2.1.cell 5 (by omega), ← HVI4.out]; rfl) (by kernel_rfl)) ?_
        simp only [Act.put, List.setIfInBounds_toArray, List.set_cons_zero, List.set_cons_succ]
        refine wpL_pure (.int .i64 (k : Int)) rfl (by kernel_rfl) ?_
        simp only [Act.put, List.setIfInBounds_toArray, List.set_cons_zero, List.set_cons_succ]
        refine wpL_pure (.pointer (some ⟨gm, 0 + k, none⟩)) rfl (run_idx _ _ _ _ _ gm 0 n gmc k rfl rfl rfl HK.out (by have := N5.out; unfold maxLen; omega)) ?_
        simp only [Act.put, List.setIfInBounds_toArray, List.set_cons_zero, List.set_cons_succ]
        refine wpL_pure (.int .u8 (ysI4.getD k 0)) rfl (run_load_one _ _ _ 5 _ _ rfl gm (0 + k) rfl (by rw [Nat.zero_add]; exact KCI4.out) (by kernel_rfl)) ?_
        simp only [Act.put, List.setIfInBounds_toArray, List.set_cons_zero, List.set_cons_succ]
        refine wpL_pure (.int .u8 (IntKind.u8.wrap (ysI4.getD k 0 + 1))) rfl (run_addi Try.underlying5 rfl rfl rfl _ rfl) ?_
        simp only [Act.put, List.setIfInBounds_toArray, List.set_cons_zero, List.set_cons_succ]
        refine wpL_pure (.pointer (some ⟨gm, 0 + k, none⟩)) rfl (run_idx _ _ _ _ _ gm 0 n gmc k rfl rfl rfl HK.out (by have := N5.out; unfold maxLen; omega)) ?_
        simp only [Act.put, List.setIfInBounds_toArray, List.set_cons_zero, List.set_cons_succ]
        refine wpL_store_one rfl rfl (gm) (0 + k) rfl (.int .u8 (IntKind.u8.wrap (ysI4.getD k 0 + 1))) rfl rfl size5 (by rw [Nat.zero_add, KCI4.out]; rfl) (by rw [Nat.zero_add]; exact FCI4.out) ?_
        simp only [Act.put, List.setIfInBounds_toArray, List.set_cons_zero, List.set_cons_succ]
        rw [Nat.zero_add, ← hwc]
        clear hwc KCI4 FCI4 I3
        go_upto_region 11 with (fail)
        refine wp_region_lit ?_
        refine wpL_pure (.int .i64 (k : Int)) rfl (by kernel_rfl) ?_
        simp only [Act.put, List.setIfInBounds_toArray, List.set_cons_zero, List.set_cons_succ]
        refine wpL_pure (.int .i64 ((k + 1 : Nat) : Int)) rfl (run_addi Try.underlying3 rfl rfl rfl _ (by have := HK.out; have := N5.out; rw [wrap_in _ (by omega) (by omega)]; omega)) ?_
        simp only [Act.put, List.setIfInBounds_toArray, List.set_cons_zero, List.set_cons_succ]
        refine wpL_pure (.int .i64 ((k + 1 : Nat) : Int)) rfl (by kernel_rfl) ?_
        simp only [Act.put, List.setIfInBounds_toArray, List.set_cons_zero, List.set_cons_succ]
        go_roundw
        case rel => first | exact ⟨k + 1, rfl, Lib.hid ⟨by have := HK.out; omega, I4.out⟩⟩ | ((repeat apply Exists.intro); exact ⟨⟨k + 1, rfl, Lib.hid ⟨by have := HK.out; omega, I4.out⟩⟩, rfl⟩)
        case measure => simp [intOf]; have := HK.out; omega
      · have HK : Hid (¬ k < n) := Lib.hid hlt
        have I1 := Lib.hid RI.out.2
        clear RI hlt
        go_upto_region 10 with (fail)
        refine wp_region_lit ?_
        refine wpL_pure (.int .i64 (k : Int)) rfl (by kernel_rfl) ?_
        simp only [Act.put, List.setIfInBounds_toArray, List.set_cons_zero, List.set_cons_succ]
        refine wpL_pure (.pointer (some ⟨g4, 2, none⟩)) rfl (by kernel_rfl) ?_
        simp only [Act.put, List.setIfInBounds_toArray, List.set_cons_zero, List.set_cons_succ]
        refine wpL_pure (.slice ag n cg) rfl (run_load_one _ _ _ 30 _ _ rfl g4 2 rfl (by rw [I1.out.2.2.1.cell]; rfl) (by kernel_rfl)) ?_
        simp only [Act.put, List.setIfInBounds_toArray, List.set_cons_zero, List.set_cons_succ]
        refine wpL_pure (.int .i64 (n : Int)) rfl (by kernel_rfl) ?_
        simp only [Act.put, List.setIfInBounds_toArray, List.set_cons_zero, List.set_cons_succ]
        refine wpL_pure (.bool false) rfl (run_lti Try.underlying3 rfl rfl rfl (by have := HK.out; rw [decide_eq_false_iff_not]; omega)) ?_
        simp only [Act.put, List.setIfInBounds_toArray, List.set_cons_zero, List.set_cons_succ]
        have E1 : Hid (NetSt wr b s7 [(⟨0, 0, v6, xs⟩ : Ltr), ⟨0, 0, v7, xs⟩] ∧ Below w.heap.size w wr) := Lib.hid ⟨I1.out.2.1, I1.out.1⟩
        have WB := WBH
        clear I1
        go_upto_region 15 with (fail)
        refine wp_region_lit ?_
        refine wpL_pure (.pointer (some ⟨b, 0, none⟩)) rfl (by kernel_rfl) ?_
        simp only [Act.put, List.setIfInBounds_toArray, List.set_cons_zero, List.set_cons_succ]
        refine wpL_call 22 #[.pointer (some ⟨b, 0, none⟩), .int .i64 0] rfl (by kernel_rfl) (((take_any wr b 0 s7 [(⟨0, 0, v6, xs⟩ : Ltr), ⟨0, 0, v7, xs⟩] E1.out.1 (by simp) (by simp))).mono fun e wd ⟨lx15, ub, s15, hl, he, hu, q1, q2⟩ => ⟨.tuple #[.agg #[.int .i64 lx15.f, .int .i64 lx15.t, ub], .bool true], he, ?_⟩)
        simp only [Act.put, List.setIfInBounds_toArray, List.set_cons_zero, List.set_cons_succ]
        obtain rfl : lx15 = (⟨0, 0, v6, xs⟩ : Ltr) := by simpa [plc] using hl.symm
        have ONEub : ub.oneCell' = true := by obtain ⟨a, c, e⟩ := hu.slice; rw [e]; rfl
        have q1' : NetSt wd b s15 [(⟨0, 0, v7, xs⟩ : Ltr)] := by simpa [plc] using q1
        have E2 : Hid (NetSt wd b s15 [(⟨0, 0, v7, xs⟩ : Ltr)] ∧ Below w.heap.size w wd ∧ Own wd w.heap.size ub xs) := Lib.hid ⟨q1', E1.out.2.trans (gb_below q2 WB.out E1.out.2.size), hu.mono E1.out.2.size⟩
        clear hl hu q1 q2 q1' E1
        dsimp only
        refine wpL_pure (.tuple #[.agg #[.int .i64 0, .int .i64 0, ub], .bool true]) rfl (by kernel_rfl) ?_
        simp only [Act.put, List.setIfInBounds_toArray, List.set_cons_zero, List.set_cons_succ]
        refine wpL_pure (.agg #[.int .i64 0, .int .i64 0, ub]) rfl (by kernel_rfl) ?_
        simp only [Act.put, List.setIfInBounds_toArray, List.set_cons_zero, List.set_cons_succ]
        refine wpL_pure (.bool true) rfl (by kernel_rfl) ?_
        simp only [Act.put, List.setIfInBounds_toArray, List.set_cons_zero, List.set_cons_succ]
        have BX := Lib.hid (box_frame wd 0 0 ub)
        obtain ⟨wdx, hwdx⟩ : ∃ V, V = (wd.alloc (.cells #[.int .i64 0, .int .i64 0, .slice none 0 0] 43)).setRow wd.heap.size #[.int .i64 0, .int .i64 0, ub] := ⟨_, rfl⟩
        rw [← hwdx] at BX
        refine wpL_value (.pointer (some ⟨wd.heap.size, 0, none⟩)) (wd.alloc (.cells #[.int .i64 0, .int .i64 0, .slice none 0 0] 43)) rfl (by kernel_rfl) ?_
        simp only [Act.put, List.setIfInBounds_toArray, List.set_cons_zero, List.set_cons_succ]
        refine wpList_store_row rfl 43 _ _ rfl (wd.heap.size) (#[.int .i64 0, .int .i64 0, ub]) rfl rfl _ _ (Blk.new wd 43 _) (by kernel_rfl) rfl (all3 _ _ _ ONEub) ?_
        simp only [Act.put, List.setIfInBounds_toArray, List.set_cons_zero, List.set_cons_succ]
        rw [← hwdx]
        have E2x : Hid (NetSt wdx b s15 [(⟨0, 0, v7, xs⟩ : Ltr)] ∧ Below w.heap.size w wdx ∧ Own wdx w.heap.size ub xs ∧ Blk wdx wd.heap.size 43 #[.int .i64 0, .int .i64 0, ub]) := Lib.hid ⟨E2.out.1.below BX.out.2, E2.out.2.1.trans (BX.out.2.mono E2.out.2.1.size), E2.out.2.2.below BX.out.2, BX.out.1⟩
        clear BX E2 hwdx
        generalize wd.heap.size = gbb at E2x ⊢
        refine wpL_pure (.bool true) rfl (by kernel_rfl) ?_
        simp only [Act.put, List.setIfInBounds_toArray, List.set_cons_zero, List.set_cons_succ]
        go_upto_region 16 with (fail)
        refine wp_region_lit ?_
        refine wpL_pure (.pointer (some ⟨b, 0, none⟩)) rfl (by kernel_rfl) ?_
        simp only [Act.put, List.setIfInBounds_toArray, List.set_cons_zero, List.set_cons_succ]
        refine wpL_call 22 #[.pointer (some ⟨b, 0, none⟩), .int .i64 0] rfl (by kernel_rfl) (((take_any wdx b 0 s15 [(⟨0, 0, v7, xs⟩ : Ltr)] E2x.out.1 (by simp) (by simp))).mono fun e we ⟨lx16, uc, s16, hl, he, hu, q1, q2⟩ => ⟨.tuple #[.agg #[.int .i64 lx16.f, .int .i64 lx16.t, uc], .bool true], he, ?_⟩)
        simp only [Act.put, List.setIfInBounds_toArray, List.set_cons_zero, List.set_cons_succ]
        obtain rfl : lx16 = (⟨0, 0, v7, xs⟩ : Ltr) := by simpa [plc] using hl.symm
        have ONEuc : uc.oneCell' = true := by obtain ⟨a, c, e⟩ := hu.slice; rw [e]; rfl
        have q1' : NetSt we b s16 [] := by simpa [plc] using q1
        have E3 : Hid (NetSt we b s16 [] ∧ Below w.heap.size w we ∧ Own we w.heap.size ub xs ∧ Blk we gbb 43 #[.int .i64 0, .int .i64 0, ub] ∧ Own we w.heap.size uc xs) := Lib.hid ⟨q1', E2x.out.2.1.trans (gb_below q2 WB.out E2x.out.2.1.size), E2x.out.2.2.1.grown q2 (.inr (own_ne E2x.out.1.1 (by omega) E2x.out.2.2.1)), E2x.out.2.2.2.grown q2 (by simpa using (blk_ne E2x.out.2.2.2 E2x.out.1.1 (by omega))), hu.mono E2x.out.2.1.size⟩
        clear hl hu q1 q2 q1' E2x
        dsimp only
        refine wpL_pure (.tuple #[.agg #[.int .i64 0, .int .i64 0, uc], .bool true]) rfl (by kernel_rfl) ?_
        simp only [Act.put, List.setIfInBounds_toArray, List.set_cons_zero, List.set_cons_succ]
        refine wpL_pure (.agg #[.int .i64 0, .int .i64 0, uc]) rfl (by kernel_rfl) ?_
        simp only [Act.put, List.setIfInBounds_toArray, List.set_cons_zero, List.set_cons_succ]
        refine wpL_pure (.bool true) rfl (by kernel_rfl) ?_
        simp only [Act.put, List.setIfInBounds_toArray, List.set_cons_zero, List.set_cons_succ]
        have BX := Lib.hid (box_frame we 0 0 uc)
        obtain ⟨wex, hwex⟩ : ∃ V, V = (we.alloc (.cells #[.int .i64 0, .int .i64 0, .slice none 0 0] 43)).setRow we.heap.size #[.int .i64 0, .int .i64 0, uc] := ⟨_, rfl⟩
        rw [← hwex] at BX
        refine wpL_value (.pointer (some ⟨we.heap.size, 0, none⟩)) (we.alloc (.cells #[.int .i64 0, .int .i64 0, .slice none 0 0] 43)) rfl (by kernel_rfl) ?_
        simp only [Act.put, List.setIfInBounds_toArray, List.set_cons_zero, List.set_cons_succ]
        refine wpList_store_row rfl 43 _ _ rfl (we.heap.size) (#[.int .i64 0, .int .i64 0, uc]) rfl rfl _ _ (Blk.new we 43 _) (by kernel_rfl) rfl (all3 _ _ _ ONEuc) ?_
        simp only [Act.put, List.setIfInBounds_toArray, List.set_cons_zero, List.set_cons_succ]
        rw [← hwex]
        have E3x : Hid (NetSt wex b s16 [] ∧ Below w.heap.size w wex ∧ Own wex w.heap.size ub xs ∧ Blk wex gbb 43 #[.int .i64 0, .int .i64 0, ub] ∧ Own wex w.heap.size uc xs ∧ Blk wex we.heap.size 43 #[.int .i64 0, .int .i64 0, uc]) := Lib.hid ⟨E3.out.1.below BX.out.2, E3.out.2.1.trans (BX.out.2.mono E3.out.2.1.size), E3.out.2.2.1.below BX.out.2, E3.out.2.2.2.1.below BX.out.2, E3.out.2.2.2.2.below BX.out.2, BX.out.1⟩
        clear BX E3 hwex
        generalize we.heap.size = gcc at E3x ⊢
        refine wpL_pure (.bool true) rfl (by kernel_rfl) ?_
        simp only [Act.put, List.setIfInBounds_toArray, List.set_cons_zero, List.set_cons_succ]
        obtain ⟨ab, cb, eb⟩ := E3x.out.2.2.1.slice
        subst eb
        obtain ⟨ac, cc, ec⟩ := E3x.out.2.2.2.2.1.slice
        subst ec
        go_upto_region 17 with (fail)
        refine wp_region_lit ?_
        refine wpL_pure (.bool true) rfl (by kernel_rfl) ?_
        simp only [Act.put, List.setIfInBounds_toArray, List.set_cons_zero, List.set_cons_succ]
        refine wpL_pure (.bool true) rfl (by kernel_rfl) ?_
        simp only [Act.put, List.setIfInBounds_toArray, List.set_cons_zero, List.set_cons_succ]
        refine wpL_pure (.bool true) rfl (by kernel_rfl) ?_
        simp only [Act.put, List.setIfInBounds_toArray, List.set_cons_zero, List.set_cons_succ]
        refine wpL_pure (.bool true) rfl (by kernel_rfl) ?_
        simp only [Act.put, List.setIfInBounds_toArray, List.set_cons_zero, List.set_cons_succ]
        refine wpL_pure (.bool true) rfl (by kernel_rfl) ?_
        simp only [Act.put, List.setIfInBounds_toArray, List.set_cons_zero, List.set_cons_succ]
        refine wpL_pure (.bool true) rfl (by kernel_rfl) ?_
        simp only [Act.put, List.setIfInBounds_toArray, List.set_cons_zero, List.set_cons_succ]
        refine wpL_pure (.bool true) rfl (by kernel_rfl) ?_
        simp only [Act.put, List.setIfInBounds_toArray, List.set_cons_zero, List.set_cons_succ]
        refine wpL_pure (.bool true) rfl (by kernel_rfl) ?_
        simp only [Act.put, List.setIfInBounds_toArray, List.set_cons_zero, List.set_cons_succ]
        refine wpL_pure (.bool true) rfl (by kernel_rfl) ?_
        simp only [Act.put, List.setIfInBounds_toArray, List.set_cons_zero, List.set_cons_succ]
        refine wpL_pure (.bool true) rfl (by kernel_rfl) ?_
        simp only [Act.put, List.setIfInBounds_toArray, List.set_cons_zero, List.set_cons_succ]
        refine wpL_pure (.bool true) rfl (by kernel_rfl) ?_
        simp only [Act.put, List.setIfInBounds_toArray, List.set_cons_zero, List.set_cons_succ]
        refine wpL_pure (.pointer (some ⟨gbb, 2, none⟩)) rfl (by kernel_rfl) ?_
        simp only [Act.put, List.setIfInBounds_toArray, List.set_cons_zero, List.set_cons_succ]
        refine wpL_pure (.slice ab xs.length cb) rfl (run_load_one _ _ _ 30 _ _ rfl gbb 2 rfl (by rw [E3x.out.2.2.2.1.cell]; rfl) (by kernel_rfl)) ?_
        simp only [Act.put, List.setIfInBounds_toArray, List.set_cons_zero, List.set_cons_succ]
        refine wpL_pure (.string (strOfNums xs)) rfl (run_conv_str _ _ _ _ ab xs.length cb xs rfl rfl E3x.out.2.2.1.row.1) ?_
        simp only [Act.put, List.setIfInBounds_toArray, List.set_cons_zero, List.set_cons_succ]
        refine wpL_pure (.string (strOfNums xs)) rfl (by kernel_rfl) ?_
        simp only [Act.put, List.setIfInBounds_toArray, List.set_cons_zero, List.set_cons_succ]
        refine wpL_pure (.bool true) rfl (run_str_eql _ _ _ _ _ xs xs true rfl rfl rfl (by simp) HXB.out HXB.out) ?_
        simp only [Act.put, List.setIfInBounds_toArray, List.set_cons_zero, List.set_cons_succ]
        refine wpL_pure (.bool true) rfl (by kernel_rfl) ?_
        simp only [Act.put, List.setIfInBounds_toArray, List.set_cons_zero, List.set_cons_succ]
        refine wpL_pure (.bool true) rfl (by kernel_rfl) ?_
        simp only [Act.put, List.setIfInBounds_toArray, List.set_cons_zero, List.set_cons_succ]
        refine wpL_pure (.pointer (some ⟨gcc, 2, none⟩)) rfl (by kernel_rfl) ?_
        simp only [Act.put, List.setIfInBounds_toArray, List.set_cons_zero, List.set_cons_succ]
        refine wpL_pure (.slice ac xs.length cc) rfl (run_load_one _ _ _ 30 _ _ rfl gcc 2 rfl (by rw [E3x.out.2.2.2.2.2.cell]; rfl) (by kernel_rfl)) ?_
        simp only [Act.put, List.setIfInBounds_toArray, List.set_cons_zero, List.set_cons_succ]
        refine wpL_pure (.string (strOfNums xs)) rfl (run_conv_str _ _ _ _ ac xs.length cc xs rfl rfl E3x.out.2.2.2.2.1.row.1) ?_
        simp only [Act.put, List.setIfInBounds_toArray, List.set_cons_zero, List.set_cons_succ]
        refine wpL_pure (.string (strOfNums xs)) rfl (by kernel_rfl) ?_
        simp only [Act.put, List.setIfInBounds_toArray, List.set_cons_zero, List.set_cons_succ]
        refine wpL_pure (.bool true) rfl (run_str_eql _ _ _ _ _ xs xs true rfl rfl rfl (by simp) HXB.out HXB.out) ?_
        simp only [Act.put, List.setIfInBounds_toArray, List.set_cons_zero, List.set_cons_succ]
        refine wpL_pure (.bool true) rfl (by kernel_rfl) ?_
        simp only [Act.put, List.setIfInBounds_toArray, List.set_cons_zero, List.set_cons_succ]
        refine wpL_pure (.bool true) rfl (by kernel_rfl) ?_
        simp only [Act.put, List.setIfInBounds_toArray, List.set_cons_zero, List.set_cons_succ]
        refine wpL_pure (.pointer (some ⟨b, 0, none⟩)) rfl (by kernel_rfl) ?_
        simp only [Act.put, List.setIfInBounds_toArray, List.set_cons_zero, List.set_cons_succ]
        refine wpL_call 28 #[.pointer (some ⟨b, 0, none⟩)] rfl (by kernel_rfl) ((count_any wex b _ _ E3x.out.1).mono fun e wh ⟨he, hx⟩ => ⟨.int .i64 0, he, ?_⟩)
        simp only [Act.put, List.setIfInBounds_toArray, List.set_cons_zero, List.set_cons_succ]
        subst hx
        refine wpL_pure (.bool true) rfl (by kernel_rfl) ?_
        simp only [Act.put, List.setIfInBounds_toArray, List.set_cons_zero, List.set_cons_succ]
        refine wpL_pure (.bool true) rfl (by kernel_rfl) ?_
        simp only [Act.put, List.setIfInBounds_toArray, List.set_cons_zero, List.set_cons_succ]
        go_wp2_with fail
        go_ret
        exact ⟨rfl, E3x.out.2.1⟩
end Go.Proofs.Ytoeojgdolanggaa
