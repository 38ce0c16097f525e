import Derived.Test.YteblaknbehfkgaaK5
namespace Go.Proofs.Yteblaknbehfkgaa
open Go Go.RowKit

set_option maxHeartbeats 1000000 in
theorem read_any (w : World) (a : Option Addr) (n c : Nat) (xs : List Int) (h : Row w a n xs) (hbig : n ≤ 140737488355328) (hnil : a = none → c = 0) :
    Calls Try.prog 13 #[.slice a n c] w fun e w' => ∃ g, e = .returned (.pointer (some ⟨g, 0, none⟩)) ∧ w.heap.size ≤ g ∧ InSt w' g xs false ∧ Below w.heap.size w w' := by
  have CL := Lib.hid (clone_any w a n c xs h hbig hnil)
  clear h hbig hnil
  go_enter Try.func13, Try.ntmps13
  go_upto_region 1 with (fail)
  refine wp_region_lit ?_
  refine wpL_pure (.slice a n c) rfl (by kernel_rfl) ?_
  simp only [Act.put, List.setIfInBounds_toArray, List.set_cons_zero, List.set_cons_succ]
  refine wpL_call 26 #[.slice a n c] rfl (by kernel_rfl) ((CL.out).mono fun e w1 ⟨v, he, q1, q2, _⟩ => ⟨v, he, ?_⟩)
  simp only [Act.put, List.setIfInBounds_toArray, List.set_cons_zero, List.set_cons_succ]
  obtain ⟨a', c', ev⟩ := q1.slice
  subst ev
  have Q := Lib.hid (And.intro q1 q2)
  clear q1 q2 CL
  refine wpL_pure (.agg #[.slice a' xs.length c', .bool false]) rfl (by kernel_rfl) ?_
  simp only [Act.put, List.setIfInBounds_toArray, List.set_cons_zero, List.set_cons_succ]
  refine wpL_value (.pointer (some ⟨w1.heap.size, 0, none⟩)) (w1.alloc (.cells #[.slice a' xs.length c', .bool false] 58)) rfl (by kernel_rfl) ?_
  simp only [Act.put, List.setIfInBounds_toArray, List.set_cons_zero, List.set_cons_succ]
  have NEW : Hid (Blk (w1.alloc (.cells #[.slice a' xs.length c', .bool false] 58)) w1.heap.size 58 #[.slice a' xs.length c', .bool false] ∧ Below w.heap.size w (w1.alloc (.cells #[.slice a' xs.length c', .bool false] 58)) ∧ Own (w1.alloc (.cells #[.slice a' xs.length c', .bool false] 58)) w.heap.size (.slice a' xs.length c') xs ∧ w.heap.size ≤ w1.heap.size) := Lib.hid ⟨Blk.new _ _ _, Q.out.2.alloc Q.out.2.size _, Q.out.1.alloc _, Q.out.2.size⟩
  have LT : Hid (∀ p, a' = some p → p.block < w1.heap.size) := Lib.hid (fun p hp => (Q.out.1.lt p.block (by rw [hp]; rfl)).2)
  generalize w1.alloc (.cells #[.slice a' xs.length c', .bool false] 58) = w2 at NEW ⊢
  clear Q
  go_wp2_with fail
  go_ret
  have f := NEW.out.2.2.1.form
  have r := NEW.out.2.2.1.row
  refine ⟨w1.heap.size, rfl, NEW.out.2.2.2, ⟨a', xs.length, c', NEW.out.1, r.1, r.2, ?_, ?_, ?_⟩, NEW.out.2.1⟩
  · rcases f with ⟨e, _⟩ | ⟨_, _, _, e, _, _, _, h5, _⟩
    · simp only [Value.slice.injEq] at e; rw [e.2.2]; simp [maxLen]
    · simp only [Value.slice.injEq] at e; rw [e.2.2]; exact h5
  · intro e0
    subst e0
    rcases f with ⟨e, _⟩ | ⟨_, _, _, e, _⟩
    · simp only [Value.slice.injEq] at e; exact e.2.2
    · simp at e
  · intro p hp
    refine ⟨Nat.ne_of_lt (LT.out p hp), ?_⟩
    subst hp
    rcases f with ⟨e, _⟩ | ⟨_, _, _, e, _⟩
    · simp at e
    · simp only [Value.slice.injEq, Option.some.injEq] at e; rw [e.1]
theorem bad_any (w : World) (b : Nat) (xs : List Int) (bad : Bool) (h : InSt w b xs bad) : Calls Try.prog 16 #[.pointer (some ⟨b, 0, none⟩)] w fun e w' => e = .returned (.bool bad) ∧ w = w' := by
  obtain ⟨a, n, c, hB, _⟩ := h
  have c1 : w.cell? ⟨b, 1, none⟩ = some (.bool bad) := by rw [hB.cell]; rfl
  clear hB
  go_enter Try.func16, Try.ntmps16
  go_wp2_with fail
  go_ret
  exact ⟨rfl, rfl⟩
theorem left_any (w : World) (b : Nat) (xs : List Int) (bad : Bool) (h : InSt w b xs bad) : Calls Try.prog 17 #[.pointer (some ⟨b, 0, none⟩)] w fun e w' => e = .returned (.int .i64 (xs.length : Int)) ∧ w = w' := by
  obtain ⟨a, n, c, hB, hL⟩ := h
  obtain rfl : xs.length = n := hL.1.1
  have c1 : w.cell? ⟨b, 0, none⟩ = some (.slice a xs.length c) := by rw [hB.cell]; rfl
  clear hB hL
  go_enter Try.func17, Try.ntmps17
  go_wp2_with fail
  go_ret
  exact ⟨rfl, rfl⟩
theorem over_any (w : World) (b : Nat) (xs : List Int) (bad : Bool) (h : InSt w b xs bad) : Calls Try.prog 18 #[.pointer (some ⟨b, 0, none⟩)] w fun e w' => e = .returned (.bool (decide (xs.length = 0) && !bad)) ∧ w = w' := by
  obtain ⟨a, n, c, hB, hL⟩ := h
  have hn : xs.length = n := hL.1.1
  have HN := Lib.hid hn
  have HB := Lib.hid hB
  clear hB hL hn
  go_enter Try.func18, Try.ntmps18
  go_upto_region 1 with (fail)
  refine wp_region_lit ?_
  refine wpL_pure (.pointer (some ⟨b, 0, none⟩)) rfl (by kernel_rfl) ?_
  simp only [Act.put, List.setIfInBounds_toArray, List.set_cons_zero, List.set_cons_succ]
  refine wpL_pure (.pointer (some ⟨b, 0, none⟩)) rfl (by kernel_rfl) ?_
  simp only [Act.put, List.setIfInBounds_toArray, List.set_cons_zero, List.set_cons_succ]
  refine wpL_pure (.pointer (some ⟨b, 0, none⟩)) rfl (by kernel_rfl) ?_
  simp only [Act.put, List.setIfInBounds_toArray, List.set_cons_zero, List.set_cons_succ]
  refine wpL_pure (.slice a n c) rfl (run_load_one _ _ _ 25 _ _ rfl b 0 rfl (by rw [HB.out.cell]; rfl) (by kernel_rfl)) ?_
  simp only [Act.put, List.setIfInBounds_toArray, List.set_cons_zero, List.set_cons_succ]
  refine wpL_pure (.int .i64 (n : Int)) rfl (by kernel_rfl) ?_
  simp only [Act.put, List.setIfInBounds_toArray, List.set_cons_zero, List.set_cons_succ]
  obtain ⟨z, hz⟩ : ∃ z, decide ((n : Int) = 0) = z := ⟨_, rfl⟩
  have HZ := Lib.hid hz
  clear hz
  refine wpL_pure (.bool z) rfl (run_eqi Try.underlying3 rfl rfl rfl HZ.out) ?_
  simp only [Act.put, List.setIfInBounds_toArray, List.set_cons_zero, List.set_cons_succ]
  refine wpL_pure (.bool z) rfl (by kernel_rfl) ?_
  simp only [Act.put, List.setIfInBounds_toArray, List.set_cons_zero, List.set_cons_succ]
  cases z
  · refine wpL_skip rfl ?_
    simp only [Act.put, List.setIfInBounds_toArray, List.set_cons_zero, List.set_cons_succ]
    refine wpL_skip rfl ?_
    simp only [Act.put, List.setIfInBounds_toArray, List.set_cons_zero, List.set_cons_succ]
    refine wpL_skip rfl ?_
    simp only [Act.put, List.setIfInBounds_toArray, List.set_cons_zero, List.set_cons_succ]
    refine wpL_skip rfl ?_
    simp only [Act.put, List.setIfInBounds_toArray, List.set_cons_zero, List.set_cons_succ]
    refine wpL_skip rfl ?_
    simp only [Act.put, List.setIfInBounds_toArray, List.set_cons_zero, List.set_cons_succ]
    refine wpL_pure (.bool false) rfl (by kernel_rfl) ?_
    simp only [Act.put, List.setIfInBounds_toArray, List.set_cons_zero, List.set_cons_succ]
    go_wp2_with fail
    go_ret
    exact ⟨ret_bool (by have := HZ.out; rw [decide_eq_false_iff_not] at this; rw [HN.out]; simp; intro; omega), rfl⟩
  · refine wpL_pure (.pointer (some ⟨b, 0, none⟩)) rfl (by kernel_rfl) ?_
    simp only [Act.put, List.setIfInBounds_toArray, List.set_cons_zero, List.set_cons_succ]
    refine wpL_pure (.pointer (some ⟨b, 0, none⟩)) rfl (by kernel_rfl) ?_
    simp only [Act.put, List.setIfInBounds_toArray, List.set_cons_zero, List.set_cons_succ]
    refine wpL_pure (.pointer (some ⟨b, 1, none⟩)) rfl (by kernel_rfl) ?_
    simp only [Act.put, List.setIfInBounds_toArray, List.set_cons_zero, List.set_cons_succ]
    refine wpL_pure (.bool bad) rfl (run_load_one _ _ _ 4 _ _ rfl b 1 rfl (by rw [HB.out.cell]; rfl) (by kernel_rfl)) ?_
    simp only [Act.put, List.setIfInBounds_toArray, List.set_cons_zero, List.set_cons_succ]
    refine wpL_pure (.bool (!bad)) rfl (by cases bad <;> kernel_rfl) ?_
    simp only [Act.put, List.setIfInBounds_toArray, List.set_cons_zero, List.set_cons_succ]
    refine wpL_pure (.bool (!bad)) rfl (by kernel_rfl) ?_
    simp only [Act.put, List.setIfInBounds_toArray, List.set_cons_zero, List.set_cons_succ]
    go_wp2_with fail
    go_ret
    exact ⟨ret_bool (by have := HZ.out; rw [decide_eq_true_eq] at this; rw [HN.out]; simp; omega), rfl⟩
theorem enc300 : enc 300 = [172, 2] := by rw [enc_hi _ (by omega), enc_lo _ (by omega)]; rfl
set_option maxHeartbeats 1000000 in
theorem awake_any (w : World) : Calls Try.prog 8 #[] w fun e w' => e = .returned (.bool true) ∧ Below w.heap.size w w' := by
  go_enter Try.func8, Try.ntmps8
  go_upto_region 2 with (fail)
  have O0 := OutSt.new w
  have W0 : Below w.heap.size w (w.alloc (.cells #[.slice none 0 0, .bool false, .pointer none] 30)) := (Below.refl _ _).alloc (Nat.le_refl _) _
  generalize w.alloc (.cells #[.slice none 0 0, .bool false, .pointer none] 30) = w1 at O0 W0 ⊢
  have PU := Lib.hid (onum_any w1 w.heap.size 300 [] O0 (by omega) (by rw [enc300]; simp))
  have H0 := Lib.hid W0
  clear O0 W0
  generalize hg : w.heap.size = gg at *
  have HG := Lib.hid hg
  clear hg
  refine wp_region_lit ?_
  refine wpL_call 20 #[.pointer (some ⟨gg, 0, none⟩), .int .u64 300] rfl (by kernel_rfl) ((PU.out).mono fun e w2 ⟨he, q1, q2⟩ => ⟨_, he, ?_⟩)
  simp only [Act.put, List.setIfInBounds_toArray, List.set_cons_zero, List.set_cons_succ]
  have EN := Lib.hid (end_any w2 gg [172, 2] (by rw [enc300] at q1; exact q1) (by simp))
  have H2 := Lib.hid (H0.out.trans q2)
  have L2 : Hid (gg < w2.heap.size) := Lib.hid q1.lt
  clear q1 q2 PU H0
  go_upto_region 3 with (fail)
  refine wp_region_lit ?_
  refine wpL_call 12 #[.pointer (some ⟨gg, 0, none⟩)] rfl (by kernel_rfl) ((EN.out).mono fun e w3 ⟨v, he, q1, q2⟩ => ⟨.tuple #[v, .int .i64 0], he, ?_⟩)
  simp only [Act.put, List.setIfInBounds_toArray, List.set_cons_zero, List.set_cons_succ]
  obtain ⟨a, c, ev⟩ := q1.slice
  subst ev
  have hr := q1.row.1
  have H3 := Lib.hid (H2.out.trans (q2.mono (Nat.le_of_lt L2.out)))
  obtain ⟨g3, o3, rfl, hc⟩ := hr.2.2.2 0 (by simp)
  have c0 : w3.cell? ⟨g3, o3, none⟩ = some (.int .u8 172) := hc
  clear q1 q2 EN H2 L2 hr hc
  refine wpL_pure (.tuple #[.slice (some ⟨g3, o3, none⟩) 2 c, .int .i64 0]) rfl (by kernel_rfl) ?_
  simp only [Act.put, List.setIfInBounds_toArray, List.set_cons_zero, List.set_cons_succ]
  refine wpL_pure (.slice (some ⟨g3, o3, none⟩) 2 c) rfl (by kernel_rfl) ?_
  simp only [Act.put, List.setIfInBounds_toArray, List.set_cons_zero, List.set_cons_succ]
  refine wpL_pure (.int .i64 0) rfl (by kernel_rfl) ?_
  simp only [Act.put, List.setIfInBounds_toArray, List.set_cons_zero, List.set_cons_succ]
  refine wpL_pure (.slice (some ⟨g3, o3, none⟩) 2 c) rfl (by kernel_rfl) ?_
  simp only [Act.put, List.setIfInBounds_toArray, List.set_cons_zero, List.set_cons_succ]
  refine wpL_pure (.int .i64 0) rfl (by kernel_rfl) ?_
  simp only [Act.put, List.setIfInBounds_toArray, List.set_cons_zero, List.set_cons_succ]
  go_wp2_with fail
  go_ret
  exact ⟨rfl, by rw [HG.out]; exact H3.out⟩
theorem accN_succ (c : Nat → Nat) : ∀ k, accN c (k + 1) = c 0 % 128 + 128 * accN (fun j => c (j + 1)) k
  | 0 => by simp [accN]
  | k + 1 => by
    have h := accN_succ c k
    rw [accN, h]
    show _ = c 0 % 128 + 128 * (accN (fun j => c (j + 1)) k + c (k + 1) % 128 * 2 ^ (7 * k))
    have e : 2 ^ (7 * (k + 1)) = 128 * 2 ^ (7 * k) := by rw [Nat.mul_add, Nat.pow_add, Nat.mul_comm]
    rw [e, Nat.mul_add, Nat.mul_left_comm, Nat.add_assoc]
theorem enc_acc : ∀ (k : Nat) (c : Nat → Nat), (∀ j, c j < 256) → (∀ j, j < k → 128 ≤ c j) → c k < 128 → (0 < c k ∨ k = 0) → enc (accN c (k + 1)) = (List.range (k + 1)).map (fun j => (c j : Int))
  | 0, c, h1, h2, h3, h4 => by
    have e : accN c (0 + 1) = c 0 := by simp [accN]; omega
    rw [e, enc_lo _ h3]; rfl
  | k + 1, c, h1, h2, h3, h4 => by
    have ih := enc_acc k (fun j => c (j + 1)) (fun j => h1 _) (fun j hj => h2 _ (by omega)) h3 (.inl (by rcases h4 with h | h <;> omega))
    have hy : 0 < accN (fun j => c (j + 1)) (k + 1) := by
      rw [accN]
      have : 0 < c (k + 1) % 128 * 2 ^ (7 * k) := Nat.mul_pos (by rcases h4 with h | h <;> omega) (Nat.pow_pos (by omega))
      omega
    have h0 := h2 0 (by omega)
    have h0' := h1 0
    rw [accN_succ, enc_hi _ (by omega)]
    have e1 : (c 0 % 128 + 128 * accN (fun j => c (j + 1)) (k + 1)) / 128 = accN (fun j => c (j + 1)) (k + 1) := by omega
    have e2 : (c 0 % 128 + 128 * accN (fun j => c (j + 1)) (k + 1)) % 128 + 128 = c 0 := by omega
    rw [e1, e2, ih, List.range_succ_eq_map (n := k + 1)]
    simp [List.map_map, Function.comp_def]
theorem enc_good {xs : List Int} (h : ∀ x ∈ xs, 0 ≤ x ∧ x ≤ 255) {k : Nat} (hg : Good (byt xs) xs.length k) : enc (accN (byt xs) (k + 1)) = xs.take (k + 1) := by
  rw [enc_acc k (byt xs) (byt_lt h) hg.2.2.1 hg.2.2.2.1 hg.2.2.2.2.2]
  apply List.ext_getElem?
  intro i
  rw [List.getElem?_map, List.getElem?_take]
  split
  · rename_i hi
    rw [List.getElem?_range hi]
    have hl : i < xs.length := by have := hg.1; omega
    have := h _ (List.getElem_mem hl)
    rw [List.getElem?_eq_getElem hl]
    simp [byt, List.getD, List.getElem?_eq_getElem hl]
    omega
  · rw [List.getElem?_eq_none (by simp; omega)]; rfl
end Go.Proofs.Yteblaknbehfkgaa
