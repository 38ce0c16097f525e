import Derived.Test.YteblaknbehfkgaaK1
import Derived.Lib.Builder
namespace Go.Proofs.Yteblaknbehfkgaa
open Go Go.RowKit

theorem run_ne_same (a : Act) (o : Oper) (w : World) (x y : Operand) (p : Addr) (ho : o.op = .binOp .neq 26 x y 26) (hx : a.eval x = .pointer (some p)) (hy : a.eval y = .pointer (some p)) : (execOp a.eval o).run Try.prog w = .ok (.value (.bool false)) w := by
  obtain ⟨j, hj⟩ : ∃ j, Try.prog.info? 28 = some j := Option.isSome_iff_exists.1 (by kernel_rfl)
  have h := Go.Lib.run_neq_ptr_same (P := Try.prog) w p Try.underlying26 hj
  unfold execOp
  have g : (Try.prog.eqGuardType Try.prog.depth 26) = false := by kernel_rfl
  simp only [ho, hx, hy]
  go_simp
theorem run_ne_none (a : Act) (o : Oper) (w : World) (x y : Operand) (p : Addr) (ho : o.op = .binOp .neq 26 x y 26) (hx : a.eval x = .pointer none) (hy : a.eval y = .pointer (some p)) : (execOp a.eval o).run Try.prog w = .ok (.value (.bool true)) w := by
  have h : ∀ d : Nat, (Op.equalIn (d + 1) 26 (.pointer none) (.pointer (some p))).run Try.prog w = .ok false w := fun d => by
    simp [Op.equalIn, run_underlying Try.underlying26]
  have h2 : (binOp .neq 26 (.pointer none) (.pointer (some p))).run Try.prog w = .ok (.bool true) w := by
    simp only [binOp]
    simp [Op.equal, Op.maxDepth, h 9999]
  unfold execOp
  have g : (Try.prog.eqGuardType Try.prog.depth 26) = false := by kernel_rfl
  simp only [ho, hx, hy]
  go_simp
theorem size25 (w : World) : (sizeOf 25).run Try.prog w = .ok 1 w := by kernel_rfl
theorem size26 (w : World) : (sizeOf 26).run Try.prog w = .ok 1 w := by kernel_rfl
/-- an Out at block b that has these bytes so far. -/
def OutSt (w : World) (b : Nat) (xs : List Int) : Prop := ∃ s p, Blk w b 30 #[s, .bool false, .pointer p] ∧ Own w (b + 1) s xs ∧ (p = some ⟨b, 0, none⟩ ∨ p = none ∧ s = .slice none 0 0)
set_option maxHeartbeats 1000000 in
theorem put_any (w : World) (b : Nat) (xs ys : List Int) (a1 : Option Addr) (n1 c1 : Nat) (h : OutSt w b xs) (hr : ∀ X, w.grownBy X (some b) → Row X a1 n1 ys) (hn : xs.length + n1 ≤ 16384) :
    Calls Try.prog 31 #[.pointer (some ⟨b, 0, none⟩), .slice a1 n1 c1] w fun e w' => e = .returned (.tuple #[]) ∧ OutSt w' b (xs ++ ys) ∧ Below b w w' := by
  obtain ⟨s, p, hB, hO, hp⟩ := h
  rcases hp with rfl | ⟨rfl, rfl⟩
  · obtain ⟨a, c, rfl⟩ := hO.slice
    have HB := Lib.hid hB
    have HO := Lib.hid hO
    have HR := Lib.hid hr
    have HN := Lib.hid hn
    clear hB hO hr hn
    go_enter Try.func31, Try.ntmps31
    go_upto_region 0 with (fail)
    refine wp_region_lit ?_
    refine wpL_pure (.pointer (some ⟨b, 0, none⟩)) rfl (by kernel_rfl) ?_
    simp only [Act.put, List.setIfInBounds_toArray, List.set_cons_zero, List.set_cons_succ]
    refine wpL_pure (.pointer (some ⟨b, 0, none⟩)) rfl (by kernel_rfl) ?_
    simp only [Act.put, List.setIfInBounds_toArray, List.set_cons_zero, List.set_cons_succ]
    refine wpL_pure (.pointer (some ⟨b, 0, none⟩)) rfl (by kernel_rfl) ?_
    simp only [Act.put, List.setIfInBounds_toArray, List.set_cons_zero, List.set_cons_succ]
    refine wpL_pure (.slice a xs.length c) rfl (run_load_one _ _ _ 25 _ _ rfl b 0 rfl (by rw [HB.out.cell]; rfl) (by kernel_rfl)) ?_
    simp only [Act.put, List.setIfInBounds_toArray, List.set_cons_zero, List.set_cons_succ]
    refine wpL_pure (.int .i64 (xs.length : Int)) rfl (by kernel_rfl) ?_
    simp only [Act.put, List.setIfInBounds_toArray, List.set_cons_zero, List.set_cons_succ]
    refine wpL_pure (.slice a1 n1 c1) rfl (by kernel_rfl) ?_
    simp only [Act.put, List.setIfInBounds_toArray, List.set_cons_zero, List.set_cons_succ]
    refine wpL_pure (.int .i64 (n1 : Int)) rfl (by kernel_rfl) ?_
    simp only [Act.put, List.setIfInBounds_toArray, List.set_cons_zero, List.set_cons_succ]
    refine wpL_pure (.int .i64 ((xs.length + n1 : Nat) : Int)) rfl (run_addi Try.underlying3 rfl rfl rfl _ (by have := HN.out; rw [wrap_in _ (by omega) (by omega)]; omega)) ?_
    simp only [Act.put, List.setIfInBounds_toArray, List.set_cons_zero, List.set_cons_succ]
    refine wpL_pure (.bool false) rfl (run_gti Try.underlying3 rfl rfl rfl (by have := HN.out; rw [decide_eq_false_iff_not]; omega)) ?_
    simp only [Act.put, List.setIfInBounds_toArray, List.set_cons_zero, List.set_cons_succ]
    go_upto_region 2 with (fail)
    refine wp_region_lit ?_
    refine wpL_pure (.pointer (some ⟨b, 0, none⟩)) rfl (by kernel_rfl) ?_
    simp only [Act.put, List.setIfInBounds_toArray, List.set_cons_zero, List.set_cons_succ]
    refine wpL_pure (.pointer (some ⟨b, 0, none⟩)) rfl (by kernel_rfl) ?_
    simp only [Act.put, List.setIfInBounds_toArray, List.set_cons_zero, List.set_cons_succ]
    refine wpL_pure (.pointer (some ⟨b, 1, none⟩)) rfl (by kernel_rfl) ?_
    simp only [Act.put, List.setIfInBounds_toArray, List.set_cons_zero, List.set_cons_succ]
    refine wpL_pure (.bool false) rfl (run_load_one _ _ _ 4 _ _ rfl b 1 rfl (by rw [HB.out.cell]; rfl) (by kernel_rfl)) ?_
    simp only [Act.put, List.setIfInBounds_toArray, List.set_cons_zero, List.set_cons_succ]
    go_upto_region 4 with (fail)
    refine wp_region_lit ?_
    refine wpL_pure (.pointer (some ⟨b, 0, none⟩)) rfl (by kernel_rfl) ?_
    simp only [Act.put, List.setIfInBounds_toArray, List.set_cons_zero, List.set_cons_succ]
    refine wpL_pure (.pointer (some ⟨b, 0, none⟩)) rfl (by kernel_rfl) ?_
    simp only [Act.put, List.setIfInBounds_toArray, List.set_cons_zero, List.set_cons_succ]
    refine wpL_pure (.pointer (some ⟨b, 2, none⟩)) rfl (by kernel_rfl) ?_
    simp only [Act.put, List.setIfInBounds_toArray, List.set_cons_zero, List.set_cons_succ]
    refine wpL_pure (.pointer (some ⟨b, 0, none⟩)) rfl (run_load_one _ _ _ 26 _ _ rfl b 2 rfl (by rw [HB.out.cell]; rfl) (by kernel_rfl)) ?_
    simp only [Act.put, List.setIfInBounds_toArray, List.set_cons_zero, List.set_cons_succ]
    refine wpL_pure (.pointer (some ⟨b, 0, none⟩)) rfl (by kernel_rfl) ?_
    simp only [Act.put, List.setIfInBounds_toArray, List.set_cons_zero, List.set_cons_succ]
    refine wpL_pure (.bool false) rfl (run_ne_same _ _ _ _ _ _ rfl rfl rfl) ?_
    simp only [Act.put, List.setIfInBounds_toArray, List.set_cons_zero, List.set_cons_succ]
    have HB3 : Hid (Blk w b 30 #[.slice a xs.length c, .bool false, .pointer (some ⟨b, 0, none⟩)] ∧ Below b w w ∧ w.grownBy w (some b)) := Lib.hid ⟨HB.out, Below.refl _ _, gb_refl _ _⟩
    clear HB
    obtain ⟨v', w4, r1, r2, r3, r4, _⟩ := append_own w (b + 1) (.slice a xs.length c) xs ys a1 n1 c1 (HO.out) (HR.out w HB3.out.2.2) (by have := HN.out; simp; omega) (HB3.out.1.lt)
    have NB : ∀ k, (.slice a xs.length c : Value).ownBlock = some k → b + 1 ≤ k := fun k hk => (HO.out.lt k hk).1
    have R1 := Lib.hid r1
    have R2 : Hid (Own w4 (b + 1) v' (xs ++ ys) ∧ Below b w w4 ∧ Blk w4 b 30 #[.slice a xs.length c, .bool false, .pointer (some ⟨b, 0, none⟩)]) := Lib.hid ⟨r2, HB3.out.2.1.grown r3 (by have := HB3.out.1.lt; omega) (fun k hk => by have := NB k hk; omega), HB3.out.1.grown r3 (fun e => by have := NB b e.symm; omega)⟩
    have ONE : v'.oneCell' = true := by obtain ⟨a, c, e⟩ := r2.slice; rw [e]; rfl
    have H3X : Hid (Blk w b 30 #[.slice a xs.length c, .bool false, .pointer (some ⟨b, 0, none⟩)]) := Lib.hid HB3.out.1
    clear r1 r2 r3 r4 HB3 HR HO NB
    go_upto_region 7 with (fail)
    refine wp_region_lit ?_
    refine wpL_pure (.pointer (some ⟨b, 0, none⟩)) rfl (by kernel_rfl) ?_
    simp only [Act.put, List.setIfInBounds_toArray, List.set_cons_zero, List.set_cons_succ]
    refine wpL_pure (.pointer (some ⟨b, 0, none⟩)) rfl (by kernel_rfl) ?_
    simp only [Act.put, List.setIfInBounds_toArray, List.set_cons_zero, List.set_cons_succ]
    refine wpL_pure (.pointer (some ⟨b, 0, none⟩)) rfl (by kernel_rfl) ?_
    simp only [Act.put, List.setIfInBounds_toArray, List.set_cons_zero, List.set_cons_succ]
    refine wpL_pure (.pointer (some ⟨b, 0, none⟩)) rfl (by kernel_rfl) ?_
    simp only [Act.put, List.setIfInBounds_toArray, List.set_cons_zero, List.set_cons_succ]
    refine wpL_pure (.slice a xs.length c) rfl (run_load_one _ _ _ 25 _ _ rfl b 0 rfl (by rw [H3X.out.cell]; rfl) (by kernel_rfl)) ?_
    simp only [Act.put, List.setIfInBounds_toArray, List.set_cons_zero, List.set_cons_succ]
    refine wpL_pure (.slice a1 n1 c1) rfl (by kernel_rfl) ?_
    simp only [Act.put, List.setIfInBounds_toArray, List.set_cons_zero, List.set_cons_succ]
    refine wpL_value (v') (w4) rfl (run_app _ _ _ _ _ _ _ _ _ rfl rfl rfl rfl R1.out) ?_
    simp only [Act.put, List.setIfInBounds_toArray, List.set_cons_zero, List.set_cons_succ]
    refine wpL_pure (.pointer (some ⟨b, 0, none⟩)) rfl (by kernel_rfl) ?_
    simp only [Act.put, List.setIfInBounds_toArray, List.set_cons_zero, List.set_cons_succ]
    refine wpL_pure (.pointer (some ⟨b, 0, none⟩)) rfl (by kernel_rfl) ?_
    simp only [Act.put, List.setIfInBounds_toArray, List.set_cons_zero, List.set_cons_succ]
    refine wpL_store_one rfl rfl (b) (0) rfl (v') rfl ONE size25 (by rw [R2.out.2.2.cell]; rfl) (R2.out.2.2.free _) ?_
    simp only [Act.put, List.setIfInBounds_toArray, List.set_cons_zero, List.set_cons_succ]
    go_wp2_with fail
    go_end0
    exact ⟨rfl, ⟨v', some ⟨b, 0, none⟩, Blk.set (l := [.slice a xs.length c, .bool false, .pointer (some ⟨b, 0, none⟩)]) R2.out.2.2 0 _, R2.out.1.other _ _ (fun e => by have := (R2.out.1.lt b e).1; omega), .inl rfl⟩, R2.out.2.1.setCell (Nat.le_refl _) _⟩
  · obtain rfl : xs = [] := by
      rcases hO.form with ⟨_, e⟩ | ⟨_, _, _, e, _⟩
      · exact e
      · cases e
    have HB := Lib.hid hB
    have HR := Lib.hid hr
    have HN : Hid (n1 ≤ 16384) := Lib.hid (by simpa using hn)
    clear hB hr hn hO
    go_enter Try.func31, Try.ntmps31
    go_upto_region 0 with (fail)
    refine wp_region_lit ?_
    refine wpL_pure (.pointer (some ⟨b, 0, none⟩)) rfl (by kernel_rfl) ?_
    simp only [Act.put, List.setIfInBounds_toArray, List.set_cons_zero, List.set_cons_succ]
    refine wpL_pure (.pointer (some ⟨b, 0, none⟩)) rfl (by kernel_rfl) ?_
    simp only [Act.put, List.setIfInBounds_toArray, List.set_cons_zero, List.set_cons_succ]
    refine wpL_pure (.pointer (some ⟨b, 0, none⟩)) rfl (by kernel_rfl) ?_
    simp only [Act.put, List.setIfInBounds_toArray, List.set_cons_zero, List.set_cons_succ]
    refine wpL_pure (.slice none 0 0) rfl (run_load_one _ _ _ 25 _ _ rfl b 0 rfl (by rw [HB.out.cell]; rfl) (by kernel_rfl)) ?_
    simp only [Act.put, List.setIfInBounds_toArray, List.set_cons_zero, List.set_cons_succ]
    refine wpL_pure (.int .i64 ((0 : Nat) : Int)) rfl (by kernel_rfl) ?_
    simp only [Act.put, List.setIfInBounds_toArray, List.set_cons_zero, List.set_cons_succ]
    refine wpL_pure (.slice a1 n1 c1) rfl (by kernel_rfl) ?_
    simp only [Act.put, List.setIfInBounds_toArray, List.set_cons_zero, List.set_cons_succ]
    refine wpL_pure (.int .i64 (n1 : Int)) rfl (by kernel_rfl) ?_
    simp only [Act.put, List.setIfInBounds_toArray, List.set_cons_zero, List.set_cons_succ]
    refine wpL_pure (.int .i64 ((0 + n1 : Nat) : Int)) rfl (run_addi Try.underlying3 rfl rfl rfl _ (by have := HN.out; rw [wrap_in _ (by omega) (by omega)]; omega)) ?_
    simp only [Act.put, List.setIfInBounds_toArray, List.set_cons_zero, List.set_cons_succ]
    refine wpL_pure (.bool false) rfl (run_gti Try.underlying3 rfl rfl rfl (by have := HN.out; rw [decide_eq_false_iff_not]; omega)) ?_
    simp only [Act.put, List.setIfInBounds_toArray, List.set_cons_zero, List.set_cons_succ]
    go_upto_region 2 with (fail)
    refine wp_region_lit ?_
    refine wpL_pure (.pointer (some ⟨b, 0, none⟩)) rfl (by kernel_rfl) ?_
    simp only [Act.put, List.setIfInBounds_toArray, List.set_cons_zero, List.set_cons_succ]
    refine wpL_pure (.pointer (some ⟨b, 0, none⟩)) rfl (by kernel_rfl) ?_
    simp only [Act.put, List.setIfInBounds_toArray, List.set_cons_zero, List.set_cons_succ]
    refine wpL_pure (.pointer (some ⟨b, 1, none⟩)) rfl (by kernel_rfl) ?_
    simp only [Act.put, List.setIfInBounds_toArray, List.set_cons_zero, List.set_cons_succ]
    refine wpL_pure (.bool false) rfl (run_load_one _ _ _ 4 _ _ rfl b 1 rfl (by rw [HB.out.cell]; rfl) (by kernel_rfl)) ?_
    simp only [Act.put, List.setIfInBounds_toArray, List.set_cons_zero, List.set_cons_succ]
    go_upto_region 4 with (fail)
    refine wp_region_lit ?_
    refine wpL_pure (.pointer (some ⟨b, 0, none⟩)) rfl (by kernel_rfl) ?_
    simp only [Act.put, List.setIfInBounds_toArray, List.set_cons_zero, List.set_cons_succ]
    refine wpL_pure (.pointer (some ⟨b, 0, none⟩)) rfl (by kernel_rfl) ?_
    simp only [Act.put, List.setIfInBounds_toArray, List.set_cons_zero, List.set_cons_succ]
    refine wpL_pure (.pointer (some ⟨b, 2, none⟩)) rfl (by kernel_rfl) ?_
    simp only [Act.put, List.setIfInBounds_toArray, List.set_cons_zero, List.set_cons_succ]
    refine wpL_pure (.pointer none) rfl (run_load_one _ _ _ 26 _ _ rfl b 2 rfl (by rw [HB.out.cell]; rfl) (by kernel_rfl)) ?_
    simp only [Act.put, List.setIfInBounds_toArray, List.set_cons_zero, List.set_cons_succ]
    refine wpL_pure (.pointer (some ⟨b, 0, none⟩)) rfl (by kernel_rfl) ?_
    simp only [Act.put, List.setIfInBounds_toArray, List.set_cons_zero, List.set_cons_succ]
    refine wpL_pure (.bool true) rfl (run_ne_none _ _ _ _ _ _ rfl rfl rfl) ?_
    simp only [Act.put, List.setIfInBounds_toArray, List.set_cons_zero, List.set_cons_succ]
    go_upto_region 5 with (fail)
    refine wp_region_lit ?_
    refine wpL_pure (.pointer (some ⟨b, 0, none⟩)) rfl (by kernel_rfl) ?_
    simp only [Act.put, List.setIfInBounds_toArray, List.set_cons_zero, List.set_cons_succ]
    refine wpL_pure (.pointer (some ⟨b, 0, none⟩)) rfl (by kernel_rfl) ?_
    simp only [Act.put, List.setIfInBounds_toArray, List.set_cons_zero, List.set_cons_succ]
    refine wpL_pure (.pointer (some ⟨b, 0, none⟩)) rfl (by kernel_rfl) ?_
    simp only [Act.put, List.setIfInBounds_toArray, List.set_cons_zero, List.set_cons_succ]
    refine wpL_pure (.pointer (some ⟨b, 0, none⟩)) rfl (by kernel_rfl) ?_
    simp only [Act.put, List.setIfInBounds_toArray, List.set_cons_zero, List.set_cons_succ]
    refine wpL_pure (.slice none 0 0) rfl (run_load_one _ _ _ 25 _ _ rfl b 0 rfl (by rw [HB.out.cell]; rfl) (by kernel_rfl)) ?_
    simp only [Act.put, List.setIfInBounds_toArray, List.set_cons_zero, List.set_cons_succ]
    refine wpL_call 26 #[.slice none 0 0] rfl (by kernel_rfl) ((clone_none w 0 0).mono fun e w1 ⟨he, hw⟩ => ⟨_, he, ?_⟩)
    simp only [Act.put, List.setIfInBounds_toArray, List.set_cons_zero, List.set_cons_succ]
    subst hw
    refine wpL_pure (.pointer (some ⟨b, 0, none⟩)) rfl (by kernel_rfl) ?_
    simp only [Act.put, List.setIfInBounds_toArray, List.set_cons_zero, List.set_cons_succ]
    refine wpL_pure (.pointer (some ⟨b, 0, none⟩)) rfl (by kernel_rfl) ?_
    simp only [Act.put, List.setIfInBounds_toArray, List.set_cons_zero, List.set_cons_succ]
    refine wpL_store_one rfl rfl (b) (0) rfl (.slice none 0 0) rfl rfl size25 (by rw [HB.out.cell]; rfl) (HB.out.free _) ?_
    simp only [Act.put, List.setIfInBounds_toArray, List.set_cons_zero, List.set_cons_succ]
    obtain ⟨w2, hw2⟩ : ∃ V, V = w.setCell ⟨b, 0, none⟩ (.slice none 0 0) := ⟨_, rfl⟩
    rw [← hw2]
    have HB2 : Hid (Blk w2 b 30 #[.slice none 0 0, .bool false, .pointer none] ∧ Below b w w2 ∧ w.grownBy w2 (some b)) := Lib.hid (by rw [hw2]; exact ⟨Blk.set (l := [.slice none 0 0, .bool false, .pointer none]) HB.out 0 _, Below.setCell (p := ⟨b, 0, none⟩) (Below.refl b w) (Nat.le_refl b) _, gb_set (gb_refl _ _) _ _⟩)
    clear hw2 HB
    go_upto_region 6 with (fail)
    refine wp_region_lit ?_
    refine wpL_pure (.pointer (some ⟨b, 0, none⟩)) rfl (by kernel_rfl) ?_
    simp only [Act.put, List.setIfInBounds_toArray, List.set_cons_zero, List.set_cons_succ]
    refine wpL_pure (.pointer (some ⟨b, 0, none⟩)) rfl (by kernel_rfl) ?_
    simp only [Act.put, List.setIfInBounds_toArray, List.set_cons_zero, List.set_cons_succ]
    refine wpL_pure (.pointer (some ⟨b, 0, none⟩)) rfl (by kernel_rfl) ?_
    simp only [Act.put, List.setIfInBounds_toArray, List.set_cons_zero, List.set_cons_succ]
    refine wpL_pure (.pointer (some ⟨b, 2, none⟩)) rfl (by kernel_rfl) ?_
    simp only [Act.put, List.setIfInBounds_toArray, List.set_cons_zero, List.set_cons_succ]
    refine wpL_store_one rfl rfl (b) (2) rfl (.pointer (some ⟨b, 0, none⟩)) rfl rfl size26 (by rw [HB2.out.1.cell]; rfl) (HB2.out.1.free _) ?_
    simp only [Act.put, List.setIfInBounds_toArray, List.set_cons_zero, List.set_cons_succ]
    obtain ⟨w3, hw3⟩ : ∃ V, V = w2.setCell ⟨b, 2, none⟩ (.pointer (some ⟨b, 0, none⟩)) := ⟨_, rfl⟩
    rw [← hw3]
    have HB3 : Hid (Blk w3 b 30 #[.slice none 0 0, .bool false, .pointer (some ⟨b, 0, none⟩)] ∧ Below b w w3 ∧ w.grownBy w3 (some b)) := Lib.hid (by rw [hw3]; exact ⟨Blk.set (l := [.slice none 0 0, .bool false, .pointer none]) HB2.out.1 2 _, HB2.out.2.1.setCell (Nat.le_refl _) _, gb_set HB2.out.2.2 _ _⟩)
    clear hw3 HB2
    obtain ⟨v', w4, r1, r2, r3, r4, _⟩ := append_own w3 (b + 1) (.slice none 0 0) [] ys a1 n1 c1 (Own.nil _ _) (HR.out w3 HB3.out.2.2) (by have := HN.out; simp; omega) (HB3.out.1.lt)
    have NB : ∀ k, (.slice none 0 0 : Value).ownBlock = some k → b + 1 ≤ k := fun k hk => ((Own.nil w3 (b + 1)).lt k hk).1
    have R1 := Lib.hid r1
    have R2 : Hid (Own w4 (b + 1) v' ([] ++ ys) ∧ Below b w w4 ∧ Blk w4 b 30 #[.slice none 0 0, .bool false, .pointer (some ⟨b, 0, none⟩)]) := Lib.hid ⟨r2, HB3.out.2.1.grown r3 (by have := HB3.out.1.lt; omega) (fun k hk => by have := NB k hk; omega), HB3.out.1.grown r3 (fun e => by have := NB b e.symm; omega)⟩
    have ONE : v'.oneCell' = true := by obtain ⟨a, c, e⟩ := r2.slice; rw [e]; rfl
    have H3X : Hid (Blk w3 b 30 #[.slice none 0 0, .bool false, .pointer (some ⟨b, 0, none⟩)]) := Lib.hid HB3.out.1
    clear r1 r2 r3 r4 HB3 HR NB
    go_upto_region 7 with (fail)
    refine wp_region_lit ?_
    refine wpL_pure (.pointer (some ⟨b, 0, none⟩)) rfl (by kernel_rfl) ?_
    simp only [Act.put, List.setIfInBounds_toArray, List.set_cons_zero, List.set_cons_succ]
    refine wpL_pure (.pointer (some ⟨b, 0, none⟩)) rfl (by kernel_rfl) ?_
    simp only [Act.put, List.setIfInBounds_toArray, List.set_cons_zero, List.set_cons_succ]
    refine wpL_pure (.pointer (some ⟨b, 0, none⟩)) rfl (by kernel_rfl) ?_
    simp only [Act.put, List.setIfInBounds_toArray, List.set_cons_zero, List.set_cons_succ]
    refine wpL_pure (.pointer (some ⟨b, 0, none⟩)) rfl (by kernel_rfl) ?_
    simp only [Act.put, List.setIfInBounds_toArray, List.set_cons_zero, List.set_cons_succ]
    refine wpL_pure (.slice none 0 0) rfl (run_load_one _ _ _ 25 _ _ rfl b 0 rfl (by rw [H3X.out.cell]; rfl) (by kernel_rfl)) ?_
    simp only [Act.put, List.setIfInBounds_toArray, List.set_cons_zero, List.set_cons_succ]
    refine wpL_pure (.slice a1 n1 c1) rfl (by kernel_rfl) ?_
    simp only [Act.put, List.setIfInBounds_toArray, List.set_cons_zero, List.set_cons_succ]
    refine wpL_value (v') (w4) rfl (run_app _ _ _ _ _ _ _ _ _ rfl rfl rfl rfl R1.out) ?_
    simp only [Act.put, List.setIfInBounds_toArray, List.set_cons_zero, List.set_cons_succ]
    refine wpL_pure (.pointer (some ⟨b, 0, none⟩)) rfl (by kernel_rfl) ?_
    simp only [Act.put, List.setIfInBounds_toArray, List.set_cons_zero, List.set_cons_succ]
    refine wpL_pure (.pointer (some ⟨b, 0, none⟩)) rfl (by kernel_rfl) ?_
    simp only [Act.put, List.setIfInBounds_toArray, List.set_cons_zero, List.set_cons_succ]
    refine wpL_store_one rfl rfl (b) (0) rfl (v') rfl ONE size25 (by rw [R2.out.2.2.cell]; rfl) (R2.out.2.2.free _) ?_
    simp only [Act.put, List.setIfInBounds_toArray, List.set_cons_zero, List.set_cons_succ]
    go_wp2_with fail
    go_end0
    exact ⟨rfl, ⟨v', some ⟨b, 0, none⟩, Blk.set (l := [.slice none 0 0, .bool false, .pointer (some ⟨b, 0, none⟩)]) R2.out.2.2 0 _, R2.out.1.other _ _ (fun e => by have := (R2.out.1.lt b e).1; omega), .inl rfl⟩, R2.out.2.1.setCell (Nat.le_refl _) _⟩
end Go.Proofs.Yteblaknbehfkgaa
