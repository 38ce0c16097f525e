import Derived.Test.YticjpjbmjnalhaaD3
namespace Go.Proofs.Yticjpjbmjnalhaa
open Go Go.RowKit
theorem size5 (w : World) : (sizeOf 5).run Try.prog w = .ok 1 w := by kernel_rfl
theorem wrap_byte (x : Int) : 0 ≤ IntKind.u8.wrap x ∧ IntKind.u8.wrap x ≤ 255 := by rw [IntKind.wrap_u8]; omega
theorem own_some {w : World} {B : Nat} {a : Option Addr} {n c : Nat} {xs : List Int} (h : Own w B (.slice a n c) xs) (hn : 0 < n) : ∃ g, a = some ⟨g, 0, none⟩ := by
  rcases h.form with ⟨e, _⟩ | ⟨g, cap, cur, e, _⟩
  · simp only [Value.slice.injEq] at e; omega
  · simp only [Value.slice.injEq] at e; exact ⟨g, e.1⟩
theorem own_n {w : World} {B : Nat} {a : Option Addr} {n c : Nat} {xs : List Int} (h : Own w B (.slice a n c) xs) : xs.length = n := by
  obtain ⟨a', c', e⟩ := h.slice
  simp only [Value.slice.injEq] at e
  exact e.2.1.symm
theorem own_cell {w : World} {B g n c : Nat} {xs : List Int} (h : Own w B (.slice (some ⟨g, 0, none⟩) n c) xs) (k : Nat) (hk : k < n) : w.cell? ⟨g, k, none⟩ = some (.int .u8 (xs.getD k 0)) := by
  obtain ⟨g', o', e, hc⟩ := h.row.1.2.2.2 k hk
  simp only [Option.some.injEq, Addr.mk.injEq, and_true] at e
  obtain ⟨rfl, rfl⟩ := e
  rw [Nat.zero_add] at hc
  exact hc
theorem _root_.Go.World.ownsRow.frozenAt' {w : World} {base g cap n m : Nat} {e : TypeId} {size : Nat} {xs : List Value} (h : w.ownsRow base e size (.slice (some ⟨g, 0, none⟩) n cap) m xs) (j : Nat) : w.frozen? ⟨g, j, none⟩ = false := by
  rcases h.2 with ⟨h', _⟩ | ⟨g', cap', cur, h', _, hg, _⟩
  · simp at h'
  · simp only [Value.slice.injEq, Option.some.injEq, Addr.mk.injEq, and_true, true_and] at h'
    rw [h'.1]
    exact frozen_of_row w g' j cur e hg
theorem own_set {w : World} {B g n c : Nat} {xs : List Int} (h : Own w B (.slice (some ⟨g, 0, none⟩) n c) xs) (k : Nat) (u : Int) (hu : 0 ≤ u ∧ u ≤ 255) : Own (w.setCell ⟨g, k, none⟩ (.int .u8 u)) B (.slice (some ⟨g, 0, none⟩) n c) (xs.set k u) := by
  obtain rfl := own_n h
  refine ⟨?_, fun x hx => ?_⟩
  · rw [List.length_set, List.map_set]
    exact (h.1.stored k _).1
  · rcases List.mem_or_eq_of_mem_set hx with hx | rfl
    · exact h.2 x hx
    · exact hu
theorem DSt.other {w : World} {b gs gm n c : Nat} {es : Array MapEntry} {S : List (List Int)} (h : DSt w b gs gm n es c S) (p : Addr) (v : Value) (h1 : p.block ≠ b) (h2 : p.block ≠ gs) (h3 : p.block ≠ gm) : DSt (w.setCell p v) b gs gm n es c S := by
  have q := Below.setCell (p := p) (Below.refl 0 w) (Nat.zero_le _) v
  exact ⟨h.1.other p v h1.symm, h.2.1.other p v h2.symm, (heap_setCell_other _ _ _ _ h3.symm).trans h.2.2.1, h.2.2.2.1, h.2.2.2.2.1, h.2.2.2.2.2.1, Nat.lt_of_lt_of_le h.2.2.2.2.2.2 q.size⟩
theorem own_fr {w w' : World} {gs gm B g n c : Nat} {xs : List Int} (h : Own w B (.slice (some ⟨g, 0, none⟩) n c) xs) (hf : Fr gs gm w w') (h1 : (Value.slice (some ⟨g, 0, none⟩) n c).ownBlock ≠ some gs) (h2 : (Value.slice (some ⟨g, 0, none⟩) n c).ownBlock ≠ some gm) : Own w' B (.slice (some ⟨g, 0, none⟩) n c) xs := by
  have hb : w'.heap[g]? = w.heap[g]? := hf.2.2.2.2 g (h.lt g rfl).2 (by simpa [Value.ownBlock] using h1) (by simpa [Value.ownBlock] using h2)
  refine ⟨⟨h.1.1, ?_⟩, h.2⟩
  rcases h.1.2 with ⟨e, _⟩ | ⟨g', cap, cur, e, q2, q3, q4⟩
  · simp at e
  · simp only [Value.slice.injEq, Option.some.injEq, Addr.mk.injEq, and_true, true_and] at e
    obtain ⟨rfl, e2, rfl⟩ := e
    exact .inr ⟨g, c, cur, by rw [e2], q2, hb.trans q3, q4⟩
theorem set1 (X : List Int) : (S00.set 1 X)[1]? = some X := rfl
theorem run_str_nei (a : Act) (o : Oper) (w : World) (x y : Operand) (xs : List Int) (ho : o.op = .binOp .neq 9 x y 9) (hx : a.eval x = .string (strOfNums xs)) (hy : a.eval y = .string (strOfNums xs)) (h0 : ∀ x ∈ xs, 0 ≤ x ∧ x ≤ 255) : (execOp a.eval o).run Try.prog w = .ok (.value (.bool false)) w := by
  have e := str_beq xs xs h0 h0
  unfold execOp
  simp only [ho, hx, hy]
  go_simp
set_option maxHeartbeats 2000000 in
theorem walkDiskOwn (a : Option Addr) (n c : Nat) (z : List Int) (w : World) (h1 : IsRow .u8 w a n c z) :
    Calls Try.prog 3 #[.slice a n c] w fun e w' => e = .returned (.bool true) ∧ Below w.heap.size w w' := by
  have hr := row_of h1
  generalize z.take n = bs at hr
  have HR := Lib.hid hr
  clear h1 hr
  go_enter Try.func3, Try.ntmps3
  go_upto_region 1 with (fail)
  refine wp_region_lit ?_
  refine wpL_call 8 #[.int .i64 2] rfl (by kernel_rfl) ((new2 w).mono fun e w1 ⟨b, gs, gm, he, hs, hb, q1, q2⟩ => ⟨.pointer (some ⟨b, 0, none⟩), he, ?_⟩)
  simp only [Act.put, List.setIfInBounds_toArray, List.set_cons_zero, List.set_cons_succ]
  have A1 : Hid (DSt w1 b gs gm 2 #[] 0 S00 ∧ Below w.heap.size w w1 ∧ w.heap.size ≤ gs ∧ w.heap.size ≤ gm) := Lib.hid ⟨hs, hb, q1, q2⟩
  clear hs hb q1 q2
  refine wpL_pure (.pointer (some ⟨b, 0, none⟩)) rfl (by kernel_rfl) ?_
  simp only [Act.put, List.setIfInBounds_toArray, List.set_cons_zero, List.set_cons_succ]
  go_upto_region 2 with (fail)
  refine wp_region_lit ?_
  refine wpL_call 9 #[] rfl (by kernel_rfl) ((awakeD w1).mono fun e w2 ⟨he, hb⟩ => ⟨.bool true, he, ?_⟩)
  simp only [Act.put, List.setIfInBounds_toArray, List.set_cons_zero, List.set_cons_succ]
  have A2 : Hid (DSt w2 b gs gm 2 #[] 0 S00 ∧ Below w.heap.size w w2 ∧ w.heap.size ≤ gs ∧ w.heap.size ≤ gm) := Lib.hid ⟨A1.out.1.below hb, A1.out.2.1.trans (hb.mono A1.out.2.1.size), A1.out.2.2⟩
  clear hb A1
  refine wpL_pure (.bool false) rfl (by kernel_rfl) ?_
  simp only [Act.put, List.setIfInBounds_toArray, List.set_cons_zero, List.set_cons_succ]
  go_upto_region 4 with (fail)
  refine wp_region_lit ?_
  refine wpL_pure (.slice a n c) rfl (by kernel_rfl) ?_
  simp only [Act.put, List.setIfInBounds_toArray, List.set_cons_zero, List.set_cons_succ]
  refine wpL_call 10 #[.int .u8 5, .slice a n c] rfl (by kernel_rfl) ((full_any w2 5 (by omega) a n c bs (HR.out.keep A2.out.2.1)).mono fun e w3 ⟨v, he, q1, q2⟩ => ⟨v, he, ?_⟩)
  simp only [Act.put, List.setIfInBounds_toArray, List.set_cons_zero, List.set_cons_succ]
  obtain ⟨gx, cx, hv⟩ := own64 q1 (fullL_len _ _ _)
  subst hv
  have A3 : Hid (DSt w3 b gs gm 2 #[] 0 S00 ∧ Below w.heap.size w w3 ∧ w.heap.size ≤ gs ∧ w.heap.size ≤ gm ∧ Own w3 w.heap.size (.slice (some ⟨gx, 0, none⟩) 64 cx) (fullL 5 bs 64)) := Lib.hid ⟨A2.out.1.below q2, A2.out.2.1.trans (q2.mono A2.out.2.1.size), A2.out.2.2.1, A2.out.2.2.2, q1.mono A2.out.2.1.size⟩
  have NG : Hid (gx ≠ gs ∧ gx ≠ gm ∧ gx ≠ b ∧ w.heap.size ≤ gx) := Lib.hid (by have := (q1.lt gx rfl).1; have h1 := A2.out.1.2.1.lt; have h2 := A2.out.1.2.2.2.2.2.2; have h3 := A2.out.1.1.lt; have h4 := A2.out.2.1.size; omega)
  have XB := Lib.hid q1.2
  clear q1 q2 A2
  refine wpL_pure (.slice (some ⟨gx, 0, none⟩) 64 cx) rfl (by kernel_rfl) ?_
  simp only [Act.put, List.setIfInBounds_toArray, List.set_cons_zero, List.set_cons_succ]
  go_upto_region 5 with (fail)
  refine wp_region_lit ?_
  refine wpL_pure (.slice (some ⟨gx, 0, none⟩) 64 cx) rfl (by kernel_rfl) ?_
  simp only [Act.put, List.setIfInBounds_toArray, List.set_cons_zero, List.set_cons_succ]
  refine wpL_pure (.string (strOfNums (fullL 5 bs 64))) rfl (run_conv_str _ _ _ _ (some ⟨gx, 0, none⟩) 64 cx (fullL 5 bs 64) rfl rfl A3.out.2.2.2.2.row.1) ?_
  simp only [Act.put, List.setIfInBounds_toArray, List.set_cons_zero, List.set_cons_succ]
  refine wpL_pure (.string (strOfNums (fullL 5 bs 64))) rfl (by kernel_rfl) ?_
  simp only [Act.put, List.setIfInBounds_toArray, List.set_cons_zero, List.set_cons_succ]
  go_upto_region 6 with (fail)
  refine wp_region_lit ?_
  refine wpL_pure (.pointer (some ⟨b, 0, none⟩)) rfl (by kernel_rfl) ?_
  simp only [Act.put, List.setIfInBounds_toArray, List.set_cons_zero, List.set_cons_succ]
  refine wpL_pure (.slice (some ⟨gx, 0, none⟩) 64 cx) rfl (by kernel_rfl) ?_
  simp only [Act.put, List.setIfInBounds_toArray, List.set_cons_zero, List.set_cons_succ]
  refine wpL_call 11 #[.pointer (some ⟨b, 0, none⟩), .int .i64 1, .slice (some ⟨gx, 0, none⟩) 64 cx] rfl (by kernel_rfl) ((write_any w3 b gs gm 2 0 S00 1 gx 0 cx _ A3.out.1 (by omega) A3.out.2.2.2.2.row.1 ⟨NG.out.1, NG.out.2.1⟩).mono fun e w4 ⟨he, es, q0, q1, q2⟩ => ⟨.int .i64 0, he, ?_⟩)
  simp only [Act.put, List.setIfInBounds_toArray, List.set_cons_zero, List.set_cons_succ]
  have A4 : Hid (DSt w4 b gs gm 2 es 1 (S00.set 1 (fullL 5 bs 64)) ∧ Below w.heap.size w w4 ∧ ∃ ys, Own w4 w.heap.size (.slice (some ⟨gx, 0, none⟩) 64 cx) ys ∧ ys.length = 64) := Lib.hid ⟨q1, q2.below A3.out.2.1 A3.out.2.2.1 A3.out.2.2.2.1, _, own_fr A3.out.2.2.2.2 q2 (by simp [Value.ownBlock]; exact NG.out.1) (by simp [Value.ownBlock]; exact NG.out.2.1), fullL_len _ _ _⟩
  clear q0 q1 q2 A3
  refine wpL_pure (.int .i64 0) rfl (by kernel_rfl) ?_
  simp only [Act.put, List.setIfInBounds_toArray, List.set_cons_zero, List.set_cons_succ]
  go_upto_region 7 with (fail)
  go_wp2_with fail
  go_loopw [7] (fun s7 wr => ∃ k : Nat, s7 = .int .i64 (k : Int) ∧ Hid (k ≤ 64 ∧ DSt wr b gs gm 2 es 1 (S00.set 1 (fullL 5 bs 64)) ∧ Below w.heap.size w wr ∧ ∃ ys, Own wr w.heap.size (.slice (some ⟨gx, 0, none⟩) 64 cx) ys ∧ ys.length = 64)) (fun s7 _ => 64 - (intOf s7).toNat)
  case atStart => exact ⟨0, rfl, Lib.hid ⟨by omega, A4.out⟩⟩
  case round =>
    obtain ⟨k, rfl, RI⟩ := hrel
    clear A4
    by_cases hlt : k < 64
    · have HK := Lib.hid hlt
      obtain ⟨J1, J2, ys, J3, ly⟩ := RI.out.2
      clear RI hlt
      have KC := Lib.hid (own_cell J3 k HK.out)
      have FC := Lib.hid (J3.1.frozenAt' k)
      obtain ⟨W1, hW1⟩ : ∃ V, V = wr.setCell ⟨gx, k, none⟩ (.int .u8 (IntKind.u8.wrap (ys.getD k 0 + 1))) := ⟨_, rfl⟩
      have NX : Hid (DSt W1 b gs gm 2 es 1 (S00.set 1 (fullL 5 bs 64)) ∧ Below w.heap.size w W1 ∧ ∃ ys, Own W1 w.heap.size (.slice (some ⟨gx, 0, none⟩) 64 cx) ys ∧ ys.length = 64) := Lib.hid (by rw [hW1]; exact ⟨J1.other _ _ NG.out.2.2.1 NG.out.1 NG.out.2.1, Below.setCell (p := ⟨gx, k, none⟩) J2 NG.out.2.2.2 _, _, own_set J3 k _ (wrap_byte _), by rw [List.length_set, ly]⟩)
      clear J1 J2 J3 ly
      go_upto_region 8 with (fail)
      refine wp_region_lit ?_
      refine wpL_pure (.int .i64 (k : Int)) rfl (by kernel_rfl) ?_
      simp only [Act.put, List.setIfInBounds_toArray, List.set_cons_zero, List.set_cons_succ]
      refine wpL_pure (.bool true) rfl (run_lti Try.underlying3 rfl rfl rfl (by have := HK.out; rw [decide_eq_true_eq]; omega)) ?_
      simp only [Act.put, List.setIfInBounds_toArray, List.set_cons_zero, List.set_cons_succ]
      go_upto_region 10 with (fail)
      refine wp_region_lit ?_
      refine wpL_pure (.slice (some ⟨gx, 0, none⟩) 64 cx) rfl (by kernel_rfl) ?_
      simp only [Act.put, List.setIfInBounds_toArray, List.set_cons_zero, List.set_cons_succ]
      refine wpL_pure (.int .i64 (k : Int)) rfl (by kernel_rfl) ?_
      simp only [Act.put, List.setIfInBounds_toArray, List.set_cons_zero, List.set_cons_succ]
      refine wpL_pure (.pointer (some ⟨gx, 0 + k, none⟩)) rfl (run_idx _ _ _ _ _ gx 0 64 cx k rfl rfl rfl HK.out (by unfold maxLen; omega)) ?_
      simp only [Act.put, List.setIfInBounds_toArray, List.set_cons_zero, List.set_cons_succ]
      refine wpL_pure (.int .u8 (ys.getD k 0)) rfl (run_load_one _ _ _ 5 _ _ rfl gx (0 + k) rfl (by rw [Nat.zero_add]; exact KC.out) (by kernel_rfl)) ?_
      simp only [Act.put, List.setIfInBounds_toArray, List.set_cons_zero, List.set_cons_succ]
      refine wpL_pure (.int .u8 (IntKind.u8.wrap (ys.getD k 0 + 1))) rfl (run_addi Try.underlying5 rfl rfl rfl _ rfl) ?_
      simp only [Act.put, List.setIfInBounds_toArray, List.set_cons_zero, List.set_cons_succ]
      refine wpL_pure (.pointer (some ⟨gx, 0 + k, none⟩)) rfl (run_idx _ _ _ _ _ gx 0 64 cx k rfl rfl rfl HK.out (by unfold maxLen; omega)) ?_
      simp only [Act.put, List.setIfInBounds_toArray, List.set_cons_zero, List.set_cons_succ]
      refine wpL_store_one rfl rfl (gx) (0 + k) rfl (.int .u8 (IntKind.u8.wrap (ys.getD k 0 + 1))) rfl rfl size5 (by rw [Nat.zero_add, KC.out]; rfl) (by rw [Nat.zero_add]; exact FC.out) ?_
      simp only [Act.put, List.setIfInBounds_toArray, List.set_cons_zero, List.set_cons_succ]
      rw [Nat.zero_add, ← hW1]
      clear hW1
      go_upto_region 9 with (fail)
      refine wp_region_lit ?_
      refine wpL_pure (.int .i64 (k : Int)) rfl (by kernel_rfl) ?_
      simp only [Act.put, List.setIfInBounds_toArray, List.set_cons_zero, List.set_cons_succ]
      refine wpL_pure (.int .i64 ((k + 1 : Nat) : Int)) rfl (run_addi Try.underlying3 rfl rfl rfl _ (by have := HK.out; rw [wrap_in _ (by omega) (by omega)]; omega)) ?_
      simp only [Act.put, List.setIfInBounds_toArray, List.set_cons_zero, List.set_cons_succ]
      refine wpL_pure (.int .i64 ((k + 1 : Nat) : Int)) rfl (by kernel_rfl) ?_
      simp only [Act.put, List.setIfInBounds_toArray, List.set_cons_zero, List.set_cons_succ]
      go_roundw
      case rel => first | exact ⟨k + 1, rfl, Lib.hid ⟨by have := HK.out; omega, NX.out⟩⟩ | ((repeat apply Exists.intro); exact ⟨⟨k + 1, rfl, Lib.hid ⟨by have := HK.out; omega, NX.out⟩⟩, rfl⟩)
      case measure => simp [intOf]; have := HK.out; omega
    · have hk : k = 64 := by have := RI.out.1; omega
      subst hk
      have A5 := Lib.hid (And.intro RI.out.2.1 RI.out.2.2.1)
      clear RI hlt
      go_upto_region 8 with (fail)
      refine wp_region_lit ?_
      refine wpL_pure (.int .i64 ((64 : Nat) : Int)) rfl (by kernel_rfl) ?_
      simp only [Act.put, List.setIfInBounds_toArray, List.set_cons_zero, List.set_cons_succ]
      refine wpL_pure (.bool false) rfl (run_lti Try.underlying3 rfl rfl rfl (by decide)) ?_
      simp only [Act.put, List.setIfInBounds_toArray, List.set_cons_zero, List.set_cons_succ]
      go_upto_region 11 with (fail)
      refine wp_region_lit ?_
      refine wpL_pure (.pointer (some ⟨b, 0, none⟩)) rfl (by kernel_rfl) ?_
      simp only [Act.put, List.setIfInBounds_toArray, List.set_cons_zero, List.set_cons_succ]
      refine wpL_call 12 #[.pointer (some ⟨b, 0, none⟩), .int .i64 1] rfl (by kernel_rfl) ((rd_any wr b gs gm 2 1 es _ 1 (fullL 5 bs 64) A5.out.1 (by omega) (set1 _)).mono fun e w5 ⟨y, he, q1, q2, q3⟩ => ⟨.tuple #[y, .int .i64 0], he, ?_⟩)
      simp only [Act.put, List.setIfInBounds_toArray, List.set_cons_zero, List.set_cons_succ]
      obtain ⟨gy, cy, hv⟩ := own64 q1 (fullL_len _ _ _)
      subst hv
      have A6 : Hid (DSt w5 b gs gm 2 es 1 (S00.set 1 (fullL 5 bs 64)) ∧ Below w.heap.size w w5 ∧ Own w5 w.heap.size (.slice (some ⟨gy, 0, none⟩) 64 cy) (fullL 5 bs 64)) := Lib.hid ⟨q2, A5.out.2.trans (q3.mono A5.out.2.size), q1.mono A5.out.2.size⟩
      have NY : Hid (gy ≠ gs ∧ gy ≠ gm ∧ gy ≠ b ∧ w.heap.size ≤ gy) := Lib.hid (by have := (q1.lt gy rfl).1; have h1 := A5.out.1.2.1.lt; have h2 := A5.out.1.2.2.2.2.2.2; have h3 := A5.out.1.1.lt; have h4 := A5.out.2.size; omega)
      clear q1 q2 q3 A5
      refine wpL_pure (.tuple #[.slice (some ⟨gy, 0, none⟩) 64 cy, .int .i64 0]) rfl (by kernel_rfl) ?_
      simp only [Act.put, List.setIfInBounds_toArray, List.set_cons_zero, List.set_cons_succ]
      refine wpL_pure (.slice (some ⟨gy, 0, none⟩) 64 cy) rfl (by kernel_rfl) ?_
      simp only [Act.put, List.setIfInBounds_toArray, List.set_cons_zero, List.set_cons_succ]
      refine wpL_pure (.int .i64 0) rfl (by kernel_rfl) ?_
      simp only [Act.put, List.setIfInBounds_toArray, List.set_cons_zero, List.set_cons_succ]
      refine wpL_pure (.slice (some ⟨gy, 0, none⟩) 64 cy) rfl (by kernel_rfl) ?_
      simp only [Act.put, List.setIfInBounds_toArray, List.set_cons_zero, List.set_cons_succ]
      refine wpL_pure (.int .i64 0) rfl (by kernel_rfl) ?_
      simp only [Act.put, List.setIfInBounds_toArray, List.set_cons_zero, List.set_cons_succ]
      go_upto_region 12 with (fail)
      refine wp_region_lit ?_
      refine wpL_pure (.int .i64 0) rfl (by kernel_rfl) ?_
      simp only [Act.put, List.setIfInBounds_toArray, List.set_cons_zero, List.set_cons_succ]
      refine wpL_pure (.bool false) rfl (run_nei Try.underlying27 rfl rfl rfl (by decide)) ?_
      simp only [Act.put, List.setIfInBounds_toArray, List.set_cons_zero, List.set_cons_succ]
      refine wpL_pure (.bool false) rfl (by kernel_rfl) ?_
      simp only [Act.put, List.setIfInBounds_toArray, List.set_cons_zero, List.set_cons_succ]
      refine wpL_pure (.int .i64 0) rfl (by kernel_rfl) ?_
      simp only [Act.put, List.setIfInBounds_toArray, List.set_cons_zero, List.set_cons_succ]
      refine wpL_pure (.bool false) rfl (run_nei Try.underlying27 rfl rfl rfl (by decide)) ?_
      simp only [Act.put, List.setIfInBounds_toArray, List.set_cons_zero, List.set_cons_succ]
      refine wpL_pure (.bool false) rfl (by kernel_rfl) ?_
      simp only [Act.put, List.setIfInBounds_toArray, List.set_cons_zero, List.set_cons_succ]
      refine wpL_pure (.bool false) rfl (by kernel_rfl) ?_
      simp only [Act.put, List.setIfInBounds_toArray, List.set_cons_zero, List.set_cons_succ]
      refine wpL_pure (.slice (some ⟨gy, 0, none⟩) 64 cy) rfl (by kernel_rfl) ?_
      simp only [Act.put, List.setIfInBounds_toArray, List.set_cons_zero, List.set_cons_succ]
      refine wpL_pure (.string (strOfNums (fullL 5 bs 64))) rfl (run_conv_str _ _ _ _ (some ⟨gy, 0, none⟩) 64 cy (fullL 5 bs 64) rfl rfl A6.out.2.2.row.1) ?_
      simp only [Act.put, List.setIfInBounds_toArray, List.set_cons_zero, List.set_cons_succ]
      refine wpL_pure (.string (strOfNums (fullL 5 bs 64))) rfl (by kernel_rfl) ?_
      simp only [Act.put, List.setIfInBounds_toArray, List.set_cons_zero, List.set_cons_succ]
      refine wpL_pure (.bool false) rfl (run_str_nei _ _ _ _ _ (fullL 5 bs 64) rfl rfl rfl XB.out) ?_
      simp only [Act.put, List.setIfInBounds_toArray, List.set_cons_zero, List.set_cons_succ]
      refine wpL_pure (.bool false) rfl (by kernel_rfl) ?_
      simp only [Act.put, List.setIfInBounds_toArray, List.set_cons_zero, List.set_cons_succ]
      have KC := Lib.hid (own_cell A6.out.2.2 0 (by omega))
      have FC := Lib.hid (A6.out.2.2.1.frozenAt' 0)
      go_upto_region 14 with (fail)
      refine wp_region_lit ?_
      refine wpL_pure (.slice (some ⟨gy, 0, none⟩) 64 cy) rfl (by kernel_rfl) ?_
      simp only [Act.put, List.setIfInBounds_toArray, List.set_cons_zero, List.set_cons_succ]
      refine wpL_pure (.pointer (some ⟨gy, 0 + 0, none⟩)) rfl (run_idx _ _ _ _ _ gy 0 64 cy 0 rfl rfl rfl (by omega) (by unfold maxLen; omega)) ?_
      simp only [Act.put, List.setIfInBounds_toArray, List.set_cons_zero, List.set_cons_succ]
      refine wpL_pure (.int .u8 ((fullL 5 bs 64).getD 0 0)) rfl (run_load_one _ _ _ 5 _ _ rfl gy (0 + 0) rfl (by exact KC.out) (by kernel_rfl)) ?_
      simp only [Act.put, List.setIfInBounds_toArray, List.set_cons_zero, List.set_cons_succ]
      refine wpL_pure (.int .u8 (IntKind.u8.wrap ((fullL 5 bs 64).getD 0 0 + 1))) rfl (run_addi Try.underlying5 rfl rfl rfl _ rfl) ?_
      simp only [Act.put, List.setIfInBounds_toArray, List.set_cons_zero, List.set_cons_succ]
      refine wpL_pure (.pointer (some ⟨gy, 0 + 0, none⟩)) rfl (run_idx _ _ _ _ _ gy 0 64 cy 0 rfl rfl rfl (by omega) (by unfold maxLen; omega)) ?_
      simp only [Act.put, List.setIfInBounds_toArray, List.set_cons_zero, List.set_cons_succ]
      refine wpL_store_one rfl rfl (gy) (0 + 0) rfl (.int .u8 (IntKind.u8.wrap ((fullL 5 bs 64).getD 0 0 + 1))) rfl rfl size5 (by rw [show (0 + 0 : Nat) = 0 from rfl, KC.out]; rfl) (by exact FC.out) ?_
      simp only [Act.put, List.setIfInBounds_toArray, List.set_cons_zero, List.set_cons_succ]
      obtain ⟨w6, hw6⟩ : ∃ V, V = w5.setCell ⟨gy, 0 + 0, none⟩ (.int .u8 (IntKind.u8.wrap ((fullL 5 bs 64).getD 0 0 + 1))) := ⟨_, rfl⟩
      rw [← hw6]
      have A7 : Hid (DSt w6 b gs gm 2 es 1 (S00.set 1 (fullL 5 bs 64)) ∧ Below w.heap.size w w6) := Lib.hid (by rw [hw6]; exact ⟨A6.out.1.other _ _ NY.out.2.2.1 NY.out.1 NY.out.2.1, Below.setCell (p := ⟨gy, 0 + 0, none⟩) A6.out.2.1 NY.out.2.2.2 _⟩)
      clear hw6 A6 KC FC
      go_upto_region 15 with (fail)
      refine wp_region_lit ?_
      refine wpL_pure (.pointer (some ⟨b, 0, none⟩)) rfl (by kernel_rfl) ?_
      simp only [Act.put, List.setIfInBounds_toArray, List.set_cons_zero, List.set_cons_succ]
      refine wpL_call 12 #[.pointer (some ⟨b, 0, none⟩), .int .i64 1] rfl (by kernel_rfl) ((rd_any w6 b gs gm 2 1 es _ 1 (fullL 5 bs 64) A7.out.1 (by omega) (set1 _)).mono fun e w7 ⟨z, he, q1, q2, q3⟩ => ⟨.tuple #[z, .int .i64 0], he, ?_⟩)
      simp only [Act.put, List.setIfInBounds_toArray, List.set_cons_zero, List.set_cons_succ]
      obtain ⟨gz, cz, hv⟩ := own64 q1 (fullL_len _ _ _)
      subst hv
      have A8 : Hid (Below w.heap.size w w7 ∧ Row w7 (some ⟨gz, 0, none⟩) 64 (fullL 5 bs 64)) := Lib.hid ⟨A7.out.2.trans (q3.mono A7.out.2.size), q1.row.1⟩
      clear q1 q2 q3 A7
      refine wpL_pure (.tuple #[.slice (some ⟨gz, 0, none⟩) 64 cz, .int .i64 0]) rfl (by kernel_rfl) ?_
      simp only [Act.put, List.setIfInBounds_toArray, List.set_cons_zero, List.set_cons_succ]
      refine wpL_pure (.slice (some ⟨gz, 0, none⟩) 64 cz) rfl (by kernel_rfl) ?_
      simp only [Act.put, List.setIfInBounds_toArray, List.set_cons_zero, List.set_cons_succ]
      refine wpL_pure (.int .i64 0) rfl (by kernel_rfl) ?_
      simp only [Act.put, List.setIfInBounds_toArray, List.set_cons_zero, List.set_cons_succ]
      refine wpL_pure (.slice (some ⟨gz, 0, none⟩) 64 cz) rfl (by kernel_rfl) ?_
      simp only [Act.put, List.setIfInBounds_toArray, List.set_cons_zero, List.set_cons_succ]
      refine wpL_pure (.int .i64 0) rfl (by kernel_rfl) ?_
      simp only [Act.put, List.setIfInBounds_toArray, List.set_cons_zero, List.set_cons_succ]
      go_upto_region 16 with (fail)
      refine wp_region_lit ?_
      refine wpL_pure (.int .i64 0) rfl (by kernel_rfl) ?_
      simp only [Act.put, List.setIfInBounds_toArray, List.set_cons_zero, List.set_cons_succ]
      refine wpL_pure (.bool true) rfl (run_eqi Try.underlying27 rfl rfl rfl (by decide)) ?_
      simp only [Act.put, List.setIfInBounds_toArray, List.set_cons_zero, List.set_cons_succ]
      refine wpL_pure (.bool true) rfl (by kernel_rfl) ?_
      simp only [Act.put, List.setIfInBounds_toArray, List.set_cons_zero, List.set_cons_succ]
      refine wpL_pure (.slice (some ⟨gz, 0, none⟩) 64 cz) rfl (by kernel_rfl) ?_
      simp only [Act.put, List.setIfInBounds_toArray, List.set_cons_zero, List.set_cons_succ]
      refine wpL_pure (.string (strOfNums (fullL 5 bs 64))) rfl (run_conv_str _ _ _ _ (some ⟨gz, 0, none⟩) 64 cz (fullL 5 bs 64) rfl rfl A8.out.2) ?_
      simp only [Act.put, List.setIfInBounds_toArray, List.set_cons_zero, List.set_cons_succ]
      refine wpL_pure (.string (strOfNums (fullL 5 bs 64))) rfl (by kernel_rfl) ?_
      simp only [Act.put, List.setIfInBounds_toArray, List.set_cons_zero, List.set_cons_succ]
      refine wpL_pure (.bool true) rfl (run_str_eql _ _ _ _ _ (fullL 5 bs 64) (fullL 5 bs 64) true rfl rfl rfl (by simp) XB.out XB.out) ?_
      simp only [Act.put, List.setIfInBounds_toArray, List.set_cons_zero, List.set_cons_succ]
      refine wpL_pure (.bool true) rfl (by kernel_rfl) ?_
      simp only [Act.put, List.setIfInBounds_toArray, List.set_cons_zero, List.set_cons_succ]
      go_wp2_with fail
      go_ret
      exact ⟨rfl, A8.out.1⟩
end Go.Proofs.Yticjpjbmjnalhaa
