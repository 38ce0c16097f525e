import Derived.Test.YteblaknbehfkgaaK2
namespace Go.Proofs.Yteblaknbehfkgaa
open Go Go.RowKit

theorem OutSt.below {w w' : World} {b : Nat} {xs : List Int} (h : OutSt w b xs) (hb : Below w.heap.size w w') : OutSt w' b xs := by
  obtain ⟨s, p, hB, hO, hp⟩ := h
  exact ⟨s, p, hB.below hb, hO.below hb, hp⟩
theorem OutSt.lt {w : World} {b : Nat} {xs : List Int} (h : OutSt w b xs) : b < w.heap.size := by
  obtain ⟨s, p, hB, hO, hp⟩ := h
  exact hB.lt
theorem OutSt.new (w : World) : OutSt (w.alloc (.cells #[.slice none 0 0, .bool false, .pointer none] 30)) w.heap.size [] := ⟨_, _, Blk.new _ _ _, Own.nil _ _, .inr ⟨rfl, rfl⟩⟩
theorem OutSt.len {w : World} {b : Nat} {xs : List Int} (h : OutSt w b xs) (hx : xs.length ≤ 16384) : xs.length ≤ 140737488355328 := by omega
/-- (o *Out) End, of what isn't too long. -/
theorem end_any (w : World) (b : Nat) (xs : List Int) (h : OutSt w b xs) (hx : xs.length ≤ 16384) :
    Calls Try.prog 12 #[.pointer (some ⟨b, 0, none⟩)] w fun e w' => ∃ v, e = .returned (.tuple #[v, .int .i64 0]) ∧ Own w' w.heap.size v xs ∧ Below w.heap.size w w' := by
  obtain ⟨s, p, hB, hO, hp⟩ := h
  obtain ⟨a, c, rfl⟩ := hO.slice
  have HB := Lib.hid hB
  have hr := hO.row
  have CL := Lib.hid (clone_any w a xs.length c xs hr.1 (by omega) (fun e => by
    subst e
    rcases hO.form with ⟨e, _⟩ | ⟨_, _, _, e, _⟩
    · simp only [Value.slice.injEq] at e; exact e.2.2
    · cases e))
  clear hB hO hp hr hx
  have c1 : w.cell? ⟨b, 1, none⟩ = some (.bool false) := by rw [HB.out.cell]; rfl
  have c0 : w.cell? ⟨b, 0, none⟩ = some (.slice a xs.length c) := by rw [HB.out.cell]; rfl
  go_enter Try.func12, Try.ntmps12
  go_upto_region 3 with (fail)
  clear c1
  refine wp_region_lit ?_
  refine wpL_pure (.pointer (some ⟨b, 0, none⟩)) rfl (by kernel_rfl) ?_
  simp only [Act.put, List.setIfInBounds_toArray, List.set_cons_zero, List.set_cons_succ]
  refine wpL_pure (.pointer (some ⟨b, 0, none⟩)) rfl (by kernel_rfl) ?_
  simp only [Act.put, List.setIfInBounds_toArray, List.set_cons_zero, List.set_cons_succ]
  refine wpL_pure (.pointer (some ⟨b, 0, none⟩)) rfl (by kernel_rfl) ?_
  simp only [Act.put, List.setIfInBounds_toArray, List.set_cons_zero, List.set_cons_succ]
  refine wpL_pure (.pointer (some ⟨b, 0, none⟩)) rfl (by kernel_rfl) ?_
  simp only [Act.put, List.setIfInBounds_toArray, List.set_cons_zero, List.set_cons_succ]
  refine wpL_pure (.slice a xs.length c) rfl (run_load_one _ _ _ 25 _ _ rfl b 0 rfl (by rw [HB.out.cell]; rfl) (by kernel_rfl)) ?_
  simp only [Act.put, List.setIfInBounds_toArray, List.set_cons_zero, List.set_cons_succ]
  refine wpL_call 26 #[.slice a xs.length c] rfl (by kernel_rfl) ((CL.out).mono fun e w1 ⟨v, he, q1, q2, _⟩ => ⟨v, he, ?_⟩)
  simp only [Act.put, List.setIfInBounds_toArray, List.set_cons_zero, List.set_cons_succ]
  refine wpL_pure (v) rfl (by kernel_rfl) ?_
  simp only [Act.put, List.setIfInBounds_toArray, List.set_cons_zero, List.set_cons_succ]
  refine wpL_pure (.int .i64 0) rfl (by kernel_rfl) ?_
  simp only [Act.put, List.setIfInBounds_toArray, List.set_cons_zero, List.set_cons_succ]
  have Q := Lib.hid (And.intro q1 q2)
  clear q1 q2 CL
  go_wp2_with fail
  go_ret2
  exact ⟨v, rfl, Q.out.1, Q.out.2⟩
theorem oraw_any (w : World) (b : Nat) (xs ys : List Int) (a1 : Option Addr) (n1 c1 : Nat) (h : OutSt w b xs) (hr : ∀ X, w.grownBy X (some b) → Row X a1 n1 ys) (hn : xs.length + n1 ≤ 16384) :
    Calls Try.prog 22 #[.pointer (some ⟨b, 0, none⟩), .slice a1 n1 c1] w fun e w' => e = .returned (.tuple #[]) ∧ OutSt w' b (xs ++ ys) ∧ Below b w w' := by
  have PU := Lib.hid (put_any w b xs ys a1 n1 c1 h hr hn)
  clear h hr hn
  go_enter Try.func22, Try.ntmps22
  go_wp2_with (refine (PU.out).mono ?_; rintro e w' ⟨rfl, Q⟩)
  go_end0
  exact ⟨rfl, Q⟩
end Go.Proofs.Yteblaknbehfkgaa
