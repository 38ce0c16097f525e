import Derived.Test.YteblaknbehfkgaaK12
namespace Go.Proofs.Yteblaknbehfkgaa
open Go Go.RowKit

/-- an Out that is too long. -/
def OutLong (w : World) (b : Nat) : Prop := ∃ a n c p, Blk w b 30 #[.slice a n c, .bool true, .pointer p] ∧ n ≤ 16384
def OutG (w : World) (b : Nat) : Option (List Int) → Prop
  | some xs => OutSt w b xs ∧ xs.length ≤ 16384
  | none => OutLong w b
def putG (st : Option (List Int)) (ys : List Int) : Option (List Int) :=
  match st with
  | some xs => if xs.length + ys.length ≤ 16384 then some (xs ++ ys) else none
  | none => none
theorem putG_putG (st : Option (List Int)) (ys zs : List Int) : putG (putG st ys) zs = putG st (ys ++ zs) := by
  cases st with
  | none => rfl
  | some xs =>
    simp only [putG, List.length_append]
    by_cases h : xs.length + ys.length ≤ 16384
    · rw [if_pos h]
      simp only [List.length_append]
      by_cases h2 : xs.length + (ys.length + zs.length) ≤ 16384
      · rw [if_pos (by omega), if_pos h2, List.append_assoc]
      · rw [if_neg (by omega), if_neg h2]
    · rw [if_neg h, if_neg (by omega)]
theorem putG_nil (st : Option (List Int)) (h : ∀ xs, st = some xs → xs.length ≤ 16384) : putG st [] = st := by
  cases st with
  | none => rfl
  | some xs => simp [putG, h xs rfl]
theorem OutG.lim {w : World} {b : Nat} {st : Option (List Int)} (h : OutG w b st) : ∀ xs, st = some xs → xs.length ≤ 16384 := by
  intro xs e; subst e; exact h.2
theorem OutG.below {w w' : World} {b : Nat} {st : Option (List Int)} (h : OutG w b st) (hb : Below w.heap.size w w') : OutG w' b st := by
  cases st with
  | some xs => exact ⟨h.1.below hb, h.2⟩
  | none => obtain ⟨a, n, c, p, h1, h2⟩ := h; exact ⟨a, n, c, p, h1.below hb, h2⟩
theorem OutG.lt {w : World} {b : Nat} {st : Option (List Int)} (h : OutG w b st) : b < w.heap.size := by
  cases st with
  | some xs => exact h.1.lt
  | none => obtain ⟨a, n, c, p, h1, h2⟩ := h; exact h1.lt
theorem OutG.any {w : World} {b : Nat} {st : Option (List Int)} (h : OutG w b st) : ∃ a n c lb p, Blk w b 30 #[.slice a n c, .bool lb, .pointer p] ∧ n ≤ 16384 := by
  cases st with
  | some xs =>
    obtain ⟨⟨s, p, h1, h2, _⟩, h3⟩ := h
    obtain ⟨a, c, rfl⟩ := h2.slice
    exact ⟨a, _, c, _, p, h1, h3⟩
  | none => obtain ⟨a, n, c, p, h1, h2⟩ := h; exact ⟨a, n, c, _, p, h1, h2⟩
attribute [local irreducible] wpList
set_option maxHeartbeats 1000000 in
theorem put_long (w : World) (b : Nat) (a : Option Addr) (n c : Nat) (lb : Bool) (p : Option Addr) (a1 : Option Addr) (n1 c1 : Nat) (h : Blk w b 30 #[.slice a n c, .bool lb, .pointer p]) (hn : n ≤ 16384 ∧ n1 ≤ 4611686018427387904) (hl : lb = true ∨ 16384 < n + n1) :
    Calls Try.prog 31 #[.pointer (some ⟨b, 0, none⟩), .slice a1 n1 c1] w fun e w' => e = .returned (.tuple #[]) ∧ OutLong w' b ∧ Below b w w' := by
  have HB := Lib.hid h
  have HN := Lib.hid hn
  clear h hn
  go_enter Try.func31, Try.ntmps31
  by_cases hgt : 16384 < n + n1
  · have GT := Lib.hid hgt
    clear hgt hl
    go_upto_region 0 with (fail)
    refine wp_region_lit ?_
    refine wpL_pure (.pointer (some ⟨b, 0, none⟩)) rfl (by kernel_rfl) ?_
    simp only [Act.put, List.setIfInBounds_toArray, List.set_cons_zero, List.set_cons_succ]
    refine wpL_pure (.pointer (some ⟨b, 0, none⟩)) rfl (by kernel_rfl) ?_
    simp only [Act.put, List.setIfInBounds_toArray, List.set_cons_zero, List.set_cons_succ]
    refine wpL_pure (.pointer (some ⟨b, 0, none⟩)) rfl (by kernel_rfl) ?_
    simp only [Act.put, List.setIfInBounds_toArray, List.set_cons_zero, List.set_cons_succ]
    refine wpL_pure (.slice a n c) rfl (run_load_one _ _ _ 25 _ _ rfl (b) (0) rfl (by rw [HB.out.cell]; rfl) (by kernel_rfl)) ?_
    simp only [Act.put, List.setIfInBounds_toArray, List.set_cons_zero, List.set_cons_succ]
    refine wpL_pure (.int .i64 (n : Int)) rfl (by kernel_rfl) ?_
    simp only [Act.put, List.setIfInBounds_toArray, List.set_cons_zero, List.set_cons_succ]
    refine wpL_pure (.slice a1 n1 c1) rfl (by kernel_rfl) ?_
    simp only [Act.put, List.setIfInBounds_toArray, List.set_cons_zero, List.set_cons_succ]
    refine wpL_pure (.int .i64 (n1 : Int)) rfl (by kernel_rfl) ?_
    simp only [Act.put, List.setIfInBounds_toArray, List.set_cons_zero, List.set_cons_succ]
    refine wpL_pure (.int .i64 ((n + n1 : Nat) : Int)) rfl (run_addi Try.underlying3 rfl rfl rfl _ (by have := HN.out; rw [wrap_in _ (by omega) (by omega)]; omega)) ?_
    simp only [Act.put, List.setIfInBounds_toArray, List.set_cons_zero, List.set_cons_succ]
    refine wpL_pure (.bool true) rfl (run_gti Try.underlying3 rfl rfl rfl (by have := GT.out; rw [decide_eq_true_eq]; omega)) ?_
    simp only [Act.put, List.setIfInBounds_toArray, List.set_cons_zero, List.set_cons_succ]
    go_upto_region 1 with (fail)
    refine wp_region_lit ?_
    refine wpL_pure (.pointer (some ⟨b, 0, none⟩)) rfl (by kernel_rfl) ?_
    simp only [Act.put, List.setIfInBounds_toArray, List.set_cons_zero, List.set_cons_succ]
    refine wpL_pure (.pointer (some ⟨b, 0, none⟩)) rfl (by kernel_rfl) ?_
    simp only [Act.put, List.setIfInBounds_toArray, List.set_cons_zero, List.set_cons_succ]
    refine wpL_pure (.pointer (some ⟨b, 1, none⟩)) rfl (by kernel_rfl) ?_
    simp only [Act.put, List.setIfInBounds_toArray, List.set_cons_zero, List.set_cons_succ]
    refine wpL_store_one rfl rfl (b) (1) rfl (.bool true) rfl rfl size4 (by rw [HB.out.cell]; rfl) (HB.out.free _) ?_
    simp only [Act.put, List.setIfInBounds_toArray, List.set_cons_zero, List.set_cons_succ]
    obtain ⟨w1, hw1⟩ : ∃ V, V = w.setCell ⟨b, 1, none⟩ (.bool true) := ⟨_, rfl⟩
    rw [← hw1]
    have HB1 : Hid (Blk w1 b 30 #[.slice a n c, .bool true, .pointer p] ∧ Below b w w1) := Lib.hid (by rw [hw1]; exact ⟨Blk.set (l := [.slice a n c, .bool lb, .pointer p]) HB.out 1 _, Below.setCell (p := ⟨b, 1, none⟩) (Below.refl b w) (Nat.le_refl b) _⟩)
    clear hw1 HB
    go_upto_region 2 with (fail)
    refine wp_region_lit ?_
    refine wpL_pure (.pointer (some ⟨b, 0, none⟩)) rfl (by kernel_rfl) ?_
    simp only [Act.put, List.setIfInBounds_toArray, List.set_cons_zero, List.set_cons_succ]
    refine wpL_pure (.pointer (some ⟨b, 0, none⟩)) rfl (by kernel_rfl) ?_
    simp only [Act.put, List.setIfInBounds_toArray, List.set_cons_zero, List.set_cons_succ]
    refine wpL_pure (.pointer (some ⟨b, 1, none⟩)) rfl (by kernel_rfl) ?_
    simp only [Act.put, List.setIfInBounds_toArray, List.set_cons_zero, List.set_cons_succ]
    refine wpL_pure (.bool true) rfl (run_load_one _ _ _ 4 _ _ rfl (b) (1) rfl (by rw [HB1.out.1.cell]; rfl) (by kernel_rfl)) ?_
    simp only [Act.put, List.setIfInBounds_toArray, List.set_cons_zero, List.set_cons_succ]
    go_upto_region 3 with (fail)
    refine wp_region_lit ?_
    refine wpL_pure (.pointer (some ⟨b, 0, none⟩)) rfl (by kernel_rfl) ?_
    simp only [Act.put, List.setIfInBounds_toArray, List.set_cons_zero, List.set_cons_succ]
    refine wpL_pure (.pointer (some ⟨b, 0, none⟩)) rfl (by kernel_rfl) ?_
    simp only [Act.put, List.setIfInBounds_toArray, List.set_cons_zero, List.set_cons_succ]
    refine wpL_pure (.pointer (some ⟨b, 0, none⟩)) rfl (by kernel_rfl) ?_
    simp only [Act.put, List.setIfInBounds_toArray, List.set_cons_zero, List.set_cons_succ]
    refine wpL_store_one rfl rfl (b) (0) rfl (.slice none 0 0) rfl rfl size25 (by rw [HB1.out.1.cell]; rfl) (HB1.out.1.free _) ?_
    simp only [Act.put, List.setIfInBounds_toArray, List.set_cons_zero, List.set_cons_succ]
    go_wp2_with fail
    refine bodyPost_ret (results_none rfl _ _ _) rfl ?_
    exact ⟨rfl, ⟨none, 0, 0, p, Blk.set (l := [.slice a n c, .bool true, .pointer p]) HB1.out.1 0 _, by omega⟩, HB1.out.2.setCell (Nat.le_refl _) _⟩
  · have GT := Lib.hid hgt
    have LB : Hid (lb = true) := Lib.hid (by rcases hl with h | h; exact h; omega)
    clear hgt hl
    go_upto_region 0 with (fail)
    refine wp_region_lit ?_
    refine wpL_pure (.pointer (some ⟨b, 0, none⟩)) rfl (by kernel_rfl) ?_
    simp only [Act.put, List.setIfInBounds_toArray, List.set_cons_zero, List.set_cons_succ]
    refine wpL_pure (.pointer (some ⟨b, 0, none⟩)) rfl (by kernel_rfl) ?_
    simp only [Act.put, List.setIfInBounds_toArray, List.set_cons_zero, List.set_cons_succ]
    refine wpL_pure (.pointer (some ⟨b, 0, none⟩)) rfl (by kernel_rfl) ?_
    simp only [Act.put, List.setIfInBounds_toArray, List.set_cons_zero, List.set_cons_succ]
    refine wpL_pure (.slice a n c) rfl (run_load_one _ _ _ 25 _ _ rfl (b) (0) rfl (by rw [HB.out.cell]; rfl) (by kernel_rfl)) ?_
    simp only [Act.put, List.setIfInBounds_toArray, List.set_cons_zero, List.set_cons_succ]
    refine wpL_pure (.int .i64 (n : Int)) rfl (by kernel_rfl) ?_
    simp only [Act.put, List.setIfInBounds_toArray, List.set_cons_zero, List.set_cons_succ]
    refine wpL_pure (.slice a1 n1 c1) rfl (by kernel_rfl) ?_
    simp only [Act.put, List.setIfInBounds_toArray, List.set_cons_zero, List.set_cons_succ]
    refine wpL_pure (.int .i64 (n1 : Int)) rfl (by kernel_rfl) ?_
    simp only [Act.put, List.setIfInBounds_toArray, List.set_cons_zero, List.set_cons_succ]
    refine wpL_pure (.int .i64 ((n + n1 : Nat) : Int)) rfl (run_addi Try.underlying3 rfl rfl rfl _ (by have := HN.out; rw [wrap_in _ (by omega) (by omega)]; omega)) ?_
    simp only [Act.put, List.setIfInBounds_toArray, List.set_cons_zero, List.set_cons_succ]
    refine wpL_pure (.bool false) rfl (run_gti Try.underlying3 rfl rfl rfl (by have := GT.out; rw [decide_eq_false_iff_not]; omega)) ?_
    simp only [Act.put, List.setIfInBounds_toArray, List.set_cons_zero, List.set_cons_succ]
    have HB1 : Hid (Blk w b 30 #[.slice a n c, .bool true, .pointer p] ∧ Below b w w) := Lib.hid ⟨by have := HB.out; rw [LB.out] at this; exact this, Below.refl _ _⟩
    clear HB
    go_upto_region 2 with (fail)
    refine wp_region_lit ?_
    refine wpL_pure (.pointer (some ⟨b, 0, none⟩)) rfl (by kernel_rfl) ?_
    simp only [Act.put, List.setIfInBounds_toArray, List.set_cons_zero, List.set_cons_succ]
    refine wpL_pure (.pointer (some ⟨b, 0, none⟩)) rfl (by kernel_rfl) ?_
    simp only [Act.put, List.setIfInBounds_toArray, List.set_cons_zero, List.set_cons_succ]
    refine wpL_pure (.pointer (some ⟨b, 1, none⟩)) rfl (by kernel_rfl) ?_
    simp only [Act.put, List.setIfInBounds_toArray, List.set_cons_zero, List.set_cons_succ]
    refine wpL_pure (.bool true) rfl (run_load_one _ _ _ 4 _ _ rfl (b) (1) rfl (by rw [HB1.out.1.cell]; rfl) (by kernel_rfl)) ?_
    simp only [Act.put, List.setIfInBounds_toArray, List.set_cons_zero, List.set_cons_succ]
    go_upto_region 3 with (fail)
    refine wp_region_lit ?_
    refine wpL_pure (.pointer (some ⟨b, 0, none⟩)) rfl (by kernel_rfl) ?_
    simp only [Act.put, List.setIfInBounds_toArray, List.set_cons_zero, List.set_cons_succ]
    refine wpL_pure (.pointer (some ⟨b, 0, none⟩)) rfl (by kernel_rfl) ?_
    simp only [Act.put, List.setIfInBounds_toArray, List.set_cons_zero, List.set_cons_succ]
    refine wpL_pure (.pointer (some ⟨b, 0, none⟩)) rfl (by kernel_rfl) ?_
    simp only [Act.put, List.setIfInBounds_toArray, List.set_cons_zero, List.set_cons_succ]
    refine wpL_store_one rfl rfl (b) (0) rfl (.slice none 0 0) rfl rfl size25 (by rw [HB1.out.1.cell]; rfl) (HB1.out.1.free _) ?_
    simp only [Act.put, List.setIfInBounds_toArray, List.set_cons_zero, List.set_cons_succ]
    go_wp2_with fail
    refine bodyPost_ret (results_none rfl _ _ _) rfl ?_
    exact ⟨rfl, ⟨none, 0, 0, p, Blk.set (l := [.slice a n c, .bool true, .pointer p]) HB1.out.1 0 _, by omega⟩, HB1.out.2.setCell (Nat.le_refl _) _⟩
theorem put_gen (w : World) (b : Nat) (st : Option (List Int)) (ys : List Int) (a1 : Option Addr) (n1 c1 : Nat) (h : OutG w b st) (hr : ∀ X, w.grownBy X (some b) → Row X a1 n1 ys) (hn : n1 ≤ 4611686018427387904) :
    Calls Try.prog 31 #[.pointer (some ⟨b, 0, none⟩), .slice a1 n1 c1] w fun e w' => e = .returned (.tuple #[]) ∧ OutG w' b (putG st ys) ∧ Below b w w' := by
  have hl := (hr w (gb_refl _ _)).1
  cases st with
  | some xs =>
    obtain ⟨h1, h2⟩ := h
    by_cases hf : xs.length + n1 ≤ 16384
    · refine (put_any w b xs ys a1 n1 c1 h1 hr hf).mono fun e w' ⟨he, q1, q2⟩ => ⟨he, ?_, q2⟩
      simp only [putG]
      rw [if_pos (by omega)]
      exact ⟨q1, by rw [List.length_append]; omega⟩
    · obtain ⟨s, p, hb, ho, hp⟩ := h1
      obtain ⟨a, c, rfl⟩ := ho.slice
      refine (put_long w b a xs.length c false p a1 n1 c1 hb ⟨h2, hn⟩ (.inr (by omega))).mono fun e w' ⟨he, q1, q2⟩ => ⟨he, ?_, q2⟩
      simp only [putG]
      rw [if_neg (by omega)]
      exact q1
  | none =>
    obtain ⟨a, n, c, p, hb, h2⟩ := h
    exact (put_long w b a n c true p a1 n1 c1 hb ⟨h2, hn⟩ (.inl rfl)).mono fun e w' ⟨he, q1, q2⟩ => ⟨he, q1, q2⟩
theorem gb_of_below {w w' : World} {b : Nat} (h : Below b w w') : True := trivial
theorem oraw_gen (w : World) (b : Nat) (st : Option (List Int)) (ys : List Int) (a1 : Option Addr) (n1 c1 : Nat) (h : OutG w b st) (hr : ∀ X, w.grownBy X (some b) → Row X a1 n1 ys) (hn : n1 ≤ 4611686018427387904) :
    Calls Try.prog 22 #[.pointer (some ⟨b, 0, none⟩), .slice a1 n1 c1] w fun e w' => e = .returned (.tuple #[]) ∧ OutG w' b (putG st ys) ∧ Below b w w' := by
  have PU := Lib.hid (put_gen w b st ys a1 n1 c1 h hr hn)
  clear h hr hn
  go_enter Try.func22, Try.ntmps22
  go_wp2_with (refine (PU.out).mono ?_; rintro e w' ⟨rfl, Q⟩)
  go_end0
  exact ⟨rfl, Q⟩
end Go.Proofs.Yteblaknbehfkgaa
