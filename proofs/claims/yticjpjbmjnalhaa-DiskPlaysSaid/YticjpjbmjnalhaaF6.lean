/- The reference's Write. -/
import Derived.Test.YticjpjbmjnalhaaF5
import Derived.Test.YticjpjbmjnalhaaBT
namespace Go.Proofs.Yticjpjbmjnalhaa
open Go Go.RowKit
set_option maxRecDepth 100000
theorem run_idx56 (a : Act) (o : Oper) (w : World) (x i : Operand) (g off n c k : Nat) (ho : o.op = .indexAddr 56 x i) (hx : a.eval x = .slice (some ⟨g, off, none⟩) n c) (hi : a.eval i = .int .i64 (k : Int)) (hk : k < n) (hn : n ≤ maxLen) : (execOp a.eval o).run Try.prog w = .ok (.value (.pointer (some ⟨g, off + k, none⟩))) w := by
  unfold maxLen at hn
  have j0 : (0 : Int) ≤ (k : Int) := by omega
  have j6 : (k : Int) < (n : Int) := by omega
  unfold execOp
  simp only [ho, hx, hi]
  go_simp

theorem run_idx56' (a : Act) (o : Oper) (w : World) (x i : Operand) (ad : Option Addr) (g n c k : Nat) (ho : o.op = .indexAddr 56 x i) (hx : a.eval x = .slice ad n c) (ha : ad = some ⟨g, 0, none⟩) (hi : a.eval i = .int .i64 (k : Int)) (hk : k < n) (hn : n ≤ maxLen) : (execOp a.eval o).run Try.prog w = .ok (.value (.pointer (some ⟨g, k, none⟩))) w := by
  subst ha
  have q := run_idx56 a o w x i g 0 n c k ho hx hi hk hn
  rw [Nat.zero_add] at q
  exact q
theorem op_skip {Pg : Program} {ops : Array Oper} {Q' : Exit → Act → World → Prop} {i : Nat} {o : Oper} {a : Act} {w : World} {K : Act → World → Prop} (w' : World) (ho : ops[i]? = some o) (hw : Region.wanted o (yielded ops a.tmps) = true) (hr : (execOp a.eval o).run Pg w = .ok .skip w') (hK : K (a.put o.dst undef) w') : wpOp Pg ops Q' i K a w := by
  unfold wpOp
  simp only [ho, hw, if_true, Oper.wp, hr, Oper.upon]
  exact .inl hK
theorem chF_ok (fz : Int) (go : Bool) (h : -1 ≤ fz ∧ fz ≤ 9223372036854775807) : -1 ≤ chF fz go ∧ chF fz go ≤ 9223372036854775807 := by
  unfold chF
  split
  · rename_i q; omega
  · exact h
theorem size22 (w' : World) : (sizeOf 22).run Try.prog w' = .ok 1 w' := by kernel_rfl
theorem size4 (w' : World) : (sizeOf 4).run Try.prog w' = .ok 1 w' := by kernel_rfl
/-- the reference's disk. -/
def RS (w : World) (base r n : Nat) (N W : Nat → List Int) (I : Nat → Bool) (fz : Int) (go : Bool) : Prop := ∃ D : RD, D.r = r ∧ RSD w base n D N W I fz go
def RWPost (base r n : Nat) (N W : Nat → List Int) (I : Nat → Bool) (fz : Int) (go : Bool) (i : Int) (m : Nat) (xs : List Int) (w : World) (e : Ending) (w' : World) : Prop :=
  (¬ ((0 ≤ i ∧ i < (n : Int)) ∧ m = 64) ∧ e = .returned (.int .i64 1) ∧ RS w' base r n N W I fz go ∧ FR base w w') ∨
  ((0 ≤ i ∧ i < (n : Int)) ∧ m = 64 ∧ chB fz go = false ∧ e = .returned (.int .i64 5) ∧ RS w' base r n N W I (chF fz go) true ∧ FR base w w') ∨
  ((0 ≤ i ∧ i < (n : Int)) ∧ m = 64 ∧ chB fz go = true ∧ e = .returned (.int .i64 0) ∧ ∃ k : Nat, i = (k : Int) ∧ RS w' base r n (upF N k xs) W (upF I k true) (chF fz go) false ∧ FR base w w')
attribute [local irreducible] wpList
set_option maxHeartbeats 4000000 in
theorem refwrite (w : World) (base n : Nat) (D : RD) (N W : Nat → List Int) (I : Nat → Bool) (fz : Int) (go : Bool) (h : RSD w base n D N W I fz go) (hb : base ≤ w.heap.size) (i : Int) (a : Option Addr) (m cx : Nat) (xs : List Int) (hr : Row w a m xs) (ng : 0 < m → ∀ p, a = some p → p.block ≠ D.r) :
    Calls Try.prog 26 #[.pointer (some ⟨D.r, 0, none⟩), .int .i64 i, .slice a m cx] w fun e w' => RWPost base D.r n N W I fz go i m xs w e w' := by
  have HN := Lib.hid h.few
  have H := Lib.hid h
  have HR := Lib.hid hr
  have HB := Lib.hid hb
  have NG := Lib.hid ng
  have HX : m = 64 → Hid (SOk xs) := fun e => Lib.hid ⟨hr.1.trans e, hr.2.2.1⟩
  clear h hr hb ng
  obtain ⟨r, gN, gW, gI, cN, cW, cI, aN, aW, aI, pN, kN, pW, kW⟩ := D
  change Calls Try.prog 26 #[.pointer (some ⟨r, 0, none⟩), .int .i64 i, .slice a m cx] w fun e w' => RWPost base r n N W I fz go i m xs w e w'
  go_enter Try.func26, Try.ntmps26
  go_upto_region 0 with (fail)
  refine wp_region_lit ?_
  refine wpL_pure (.int .i64 0) rfl (by kernel_rfl) ?_
  simp only [Act.put, List.setIfInBounds_toArray, List.set_cons_zero, List.set_cons_succ]
  by_cases h0 : i < 0
  · have H0 := Lib.hid h0
    clear h0
    go_upto_region 1 with (fail)
    refine wp_region_lit ?_
    refine wpL_pure (.int .i64 i) rfl (by kernel_rfl) ?_
    simp only [Act.put, List.setIfInBounds_toArray, List.set_cons_zero, List.set_cons_succ]
    refine wpL_pure (.bool true) rfl (run_lti Try.underlying3 rfl rfl rfl (by have := H0.out; rw [decide_eq_true_eq]; omega)) ?_
    simp only [Act.put, List.setIfInBounds_toArray, List.set_cons_zero, List.set_cons_succ]
    refine wpL_pure (.bool true) rfl (by kernel_rfl) ?_
    simp only [Act.put, List.setIfInBounds_toArray, List.set_cons_zero, List.set_cons_succ]
    refine wpL_skip (by kernel_rfl) ?_
    simp only [Act.put, List.setIfInBounds_toArray, List.set_cons_zero, List.set_cons_succ]
    refine wpL_skip (by kernel_rfl) ?_
    simp only [Act.put, List.setIfInBounds_toArray, List.set_cons_zero, List.set_cons_succ]
    refine wpL_skip (by kernel_rfl) ?_
    simp only [Act.put, List.setIfInBounds_toArray, List.set_cons_zero, List.set_cons_succ]
    refine wpL_skip (by kernel_rfl) ?_
    simp only [Act.put, List.setIfInBounds_toArray, List.set_cons_zero, List.set_cons_succ]
    refine wpL_skip (by kernel_rfl) ?_
    simp only [Act.put, List.setIfInBounds_toArray, List.set_cons_zero, List.set_cons_succ]
    refine wpL_skip (by kernel_rfl) ?_
    simp only [Act.put, List.setIfInBounds_toArray, List.set_cons_zero, List.set_cons_succ]
    refine wpL_skip (by kernel_rfl) ?_
    simp only [Act.put, List.setIfInBounds_toArray, List.set_cons_zero, List.set_cons_succ]
    refine wpL_pure (.bool true) rfl (by kernel_rfl) ?_
    simp only [Act.put, List.setIfInBounds_toArray, List.set_cons_zero, List.set_cons_succ]
    refine wpL_pure (.bool true) rfl (by kernel_rfl) ?_
    simp only [Act.put, List.setIfInBounds_toArray, List.set_cons_zero, List.set_cons_succ]
    refine wpL_skip (by kernel_rfl) ?_
    simp only [Act.put, List.setIfInBounds_toArray, List.set_cons_zero, List.set_cons_succ]
    refine wpL_skip (by kernel_rfl) ?_
    simp only [Act.put, List.setIfInBounds_toArray, List.set_cons_zero, List.set_cons_succ]
    refine wpL_skip (by kernel_rfl) ?_
    simp only [Act.put, List.setIfInBounds_toArray, List.set_cons_zero, List.set_cons_succ]
    refine wpL_pure (.bool true) rfl (by kernel_rfl) ?_
    simp only [Act.put, List.setIfInBounds_toArray, List.set_cons_zero, List.set_cons_succ]
    go_upto_region 2 with (fail)
    refine wp_region_lit ?_
    refine wpL_pure (.int .i64 1) rfl (by kernel_rfl) ?_
    simp only [Act.put, List.setIfInBounds_toArray, List.set_cons_zero, List.set_cons_succ]
    go_wp2_with fail
    go_ret
    exact .inl ⟨fun q => by have := H0.out; omega, rfl, ⟨_, rfl, H.out⟩, FR.refl _⟩
  · have H0 := Lib.hid h0
    clear h0
    by_cases h1 : (n : Int) ≤ i
    · have H1 := Lib.hid h1
      clear h1
      go_upto_region 1 with (fail)
      refine wp_region_lit ?_
      refine wpL_pure (.int .i64 i) rfl (by kernel_rfl) ?_
      simp only [Act.put, List.setIfInBounds_toArray, List.set_cons_zero, List.set_cons_succ]
      refine wpL_pure (.bool false) rfl (run_lti Try.underlying3 rfl rfl rfl (by have := H0.out; rw [decide_eq_false_iff_not]; omega)) ?_
      simp only [Act.put, List.setIfInBounds_toArray, List.set_cons_zero, List.set_cons_succ]
      refine wpL_pure (.bool false) rfl (by kernel_rfl) ?_
      simp only [Act.put, List.setIfInBounds_toArray, List.set_cons_zero, List.set_cons_succ]
      refine wpL_pure (.int .i64 i) rfl (by kernel_rfl) ?_
      simp only [Act.put, List.setIfInBounds_toArray, List.set_cons_zero, List.set_cons_succ]
      refine wpL_pure (.pointer (some ⟨r, 0, none⟩)) rfl (by kernel_rfl) ?_
      simp only [Act.put, List.setIfInBounds_toArray, List.set_cons_zero, List.set_cons_succ]
      refine wpL_pure (.pointer (some ⟨r, 0, none⟩)) rfl (by kernel_rfl) ?_
      simp only [Act.put, List.setIfInBounds_toArray, List.set_cons_zero, List.set_cons_succ]
      refine wpL_pure (.pointer (some ⟨r, 0, none⟩)) rfl (by kernel_rfl) ?_
      simp only [Act.put, List.setIfInBounds_toArray, List.set_cons_zero, List.set_cons_succ]
      refine wpL_pure (.slice aN n cN) rfl (run_load_one _ _ _ 56 _ _ rfl (r) (0) rfl (by rw [H.out.cells.cell]; rfl) (by kernel_rfl)) ?_
      simp only [Act.put, List.setIfInBounds_toArray, List.set_cons_zero, List.set_cons_succ]
      refine wpL_pure (.int .i64 (n : Int)) rfl (by kernel_rfl) ?_
      simp only [Act.put, List.setIfInBounds_toArray, List.set_cons_zero, List.set_cons_succ]
      refine wpL_pure (.bool true) rfl (run_gei Try.underlying3 rfl rfl rfl (by have := H1.out; rw [decide_eq_true_eq]; omega)) ?_
      simp only [Act.put, List.setIfInBounds_toArray, List.set_cons_zero, List.set_cons_succ]
      refine wpL_pure (.bool true) rfl (by kernel_rfl) ?_
      simp only [Act.put, List.setIfInBounds_toArray, List.set_cons_zero, List.set_cons_succ]
      refine wpL_pure (.bool true) rfl (by kernel_rfl) ?_
      simp only [Act.put, List.setIfInBounds_toArray, List.set_cons_zero, List.set_cons_succ]
      refine wpL_skip (by kernel_rfl) ?_
      simp only [Act.put, List.setIfInBounds_toArray, List.set_cons_zero, List.set_cons_succ]
      refine wpL_skip (by kernel_rfl) ?_
      simp only [Act.put, List.setIfInBounds_toArray, List.set_cons_zero, List.set_cons_succ]
      refine wpL_skip (by kernel_rfl) ?_
      simp only [Act.put, List.setIfInBounds_toArray, List.set_cons_zero, List.set_cons_succ]
      refine wpL_pure (.bool true) rfl (by kernel_rfl) ?_
      simp only [Act.put, List.setIfInBounds_toArray, List.set_cons_zero, List.set_cons_succ]
      go_upto_region 2 with (fail)
      refine wp_region_lit ?_
      refine wpL_pure (.int .i64 1) rfl (by kernel_rfl) ?_
      simp only [Act.put, List.setIfInBounds_toArray, List.set_cons_zero, List.set_cons_succ]
      go_wp2_with fail
      go_ret
      exact .inl ⟨fun q => by have := H1.out; omega, rfl, ⟨_, rfl, H.out⟩, FR.refl _⟩
    · have H1 := Lib.hid h1
      clear h1
      by_cases h2 : m = 64
      · have H2 := Lib.hid h2
        clear h2
        go_upto_region 1 with (fail)
        refine wp_region_lit ?_
        refine wpL_pure (.int .i64 i) rfl (by kernel_rfl) ?_
        simp only [Act.put, List.setIfInBounds_toArray, List.set_cons_zero, List.set_cons_succ]
        refine wpL_pure (.bool false) rfl (run_lti Try.underlying3 rfl rfl rfl (by have := H0.out; rw [decide_eq_false_iff_not]; omega)) ?_
        simp only [Act.put, List.setIfInBounds_toArray, List.set_cons_zero, List.set_cons_succ]
        refine wpL_pure (.bool false) rfl (by kernel_rfl) ?_
        simp only [Act.put, List.setIfInBounds_toArray, List.set_cons_zero, List.set_cons_succ]
        refine wpL_pure (.int .i64 i) rfl (by kernel_rfl) ?_
        simp only [Act.put, List.setIfInBounds_toArray, List.set_cons_zero, List.set_cons_succ]
        refine wpL_pure (.pointer (some ⟨r, 0, none⟩)) rfl (by kernel_rfl) ?_
        simp only [Act.put, List.setIfInBounds_toArray, List.set_cons_zero, List.set_cons_succ]
        refine wpL_pure (.pointer (some ⟨r, 0, none⟩)) rfl (by kernel_rfl) ?_
        simp only [Act.put, List.setIfInBounds_toArray, List.set_cons_zero, List.set_cons_succ]
        refine wpL_pure (.pointer (some ⟨r, 0, none⟩)) rfl (by kernel_rfl) ?_
        simp only [Act.put, List.setIfInBounds_toArray, List.set_cons_zero, List.set_cons_succ]
        refine wpL_pure (.slice aN n cN) rfl (run_load_one _ _ _ 56 _ _ rfl (r) (0) rfl (by rw [H.out.cells.cell]; rfl) (by kernel_rfl)) ?_
        simp only [Act.put, List.setIfInBounds_toArray, List.set_cons_zero, List.set_cons_succ]
        refine wpL_pure (.int .i64 (n : Int)) rfl (by kernel_rfl) ?_
        simp only [Act.put, List.setIfInBounds_toArray, List.set_cons_zero, List.set_cons_succ]
        refine wpL_pure (.bool false) rfl (run_gei Try.underlying3 rfl rfl rfl (by have := H1.out; rw [decide_eq_false_iff_not]; omega)) ?_
        simp only [Act.put, List.setIfInBounds_toArray, List.set_cons_zero, List.set_cons_succ]
        refine wpL_pure (.bool false) rfl (by kernel_rfl) ?_
        simp only [Act.put, List.setIfInBounds_toArray, List.set_cons_zero, List.set_cons_succ]
        refine wpL_pure (.bool false) rfl (by kernel_rfl) ?_
        simp only [Act.put, List.setIfInBounds_toArray, List.set_cons_zero, List.set_cons_succ]
        refine wpL_pure (.slice a m cx) rfl (by kernel_rfl) ?_
        simp only [Act.put, List.setIfInBounds_toArray, List.set_cons_zero, List.set_cons_succ]
        refine wpL_pure (.int .i64 (m : Int)) rfl (by kernel_rfl) ?_
        simp only [Act.put, List.setIfInBounds_toArray, List.set_cons_zero, List.set_cons_succ]
        refine wpL_pure (.bool false) rfl (run_nei Try.underlying3 rfl rfl rfl (by have := H2.out; simp; omega)) ?_
        simp only [Act.put, List.setIfInBounds_toArray, List.set_cons_zero, List.set_cons_succ]
        refine wpL_pure (.bool false) rfl (by kernel_rfl) ?_
        simp only [Act.put, List.setIfInBounds_toArray, List.set_cons_zero, List.set_cons_succ]
        have HIN : Hid ((0 ≤ i ∧ i < (n : Int)) ∧ m = 64) := Lib.hid ⟨⟨by have := H0.out; omega, by have := H1.out; omega⟩, H2.out⟩
        clear H0 H1 H2
        obtain ⟨k, rfl⟩ : ∃ k : Nat, i = (k : Int) := ⟨i.toNat, by have := HIN.out; omega⟩
        obtain rfl : m = 64 := HIN.out.2
        replace HX := HX rfl
        have HK : Hid (k < n) := Lib.hid (by have := HIN.out; omega)
        obtain ⟨ea, eb, ec⟩ := H.out.addr (by have := HK.out; omega)
        simp only at ea eb ec
        subst ea eb ec
        obtain ⟨mb, hmb⟩ : ∃ q, chB fz go = q := ⟨_, rfl⟩
        obtain ⟨mf, hmf⟩ : ∃ q, chF fz go = q := ⟨_, rfl⟩
        have HMB := Lib.hid hmb
        have HMF := Lib.hid hmf
        clear hmb hmf
        go_upto_region 3 with (fail)
        refine wp_region_lit ?_
        refine wpL_pure (.pointer (some ⟨r, 0, none⟩)) rfl (by kernel_rfl) ?_
        simp only [Act.put, List.setIfInBounds_toArray, List.set_cons_zero, List.set_cons_succ]
        refine wpL_call 33 #[.pointer (some ⟨r, 0, none⟩)] rfl (by kernel_rfl) ((change_any w r _ _ _ fz go H.out.cells H.out.fuse).mono ?_)
        rintro e w1 ⟨rfl, b1, g1⟩
        rw [HMB.out, HMF.out] at b1
        have F1 : Hid (RSD w1 base n ⟨r, gN, gW, gI, cN, cW, cI, some ⟨gN, 0, none⟩, some ⟨gW, 0, none⟩, some ⟨gI, 0, none⟩, pN, kN, pW, kW⟩ N W I mf (!mb) ∧ FR base w w1 ∧ Row w1 a 64 xs) := Lib.hid ⟨H.out.setRec g1 b1 (by rw [← HMF.out]; exact chF_ok _ _ H.out.fuse), (FR.refl w).gb g1 H.out.base0 (RTg.blk H.out.cells (by decide)) (RTg.blk b1 (by decide)), HR.out.grown g1 (by intro p hp e; exact NG.out (by decide) p hp (Option.some.inj e))⟩
        clear b1 g1
        refine ⟨.bool mb, by rw [HMB.out], ?_⟩
        simp only [Act.put, List.setIfInBounds_toArray, List.set_cons_zero, List.set_cons_succ]
        cases mb
        · refine wpL_pure (.bool true) rfl (by kernel_rfl) ?_
          simp only [Act.put, List.setIfInBounds_toArray, List.set_cons_zero, List.set_cons_succ]
          unfold wpList
          go_upto_region 4 with (fail)
          refine wp_region_lit ?_
          refine wpL_pure (.int .i64 5) rfl (by kernel_rfl) ?_
          simp only [Act.put, List.setIfInBounds_toArray, List.set_cons_zero, List.set_cons_succ]
          go_wp2_with fail
          go_ret
          exact .inr (.inl ⟨HIN.out.1, rfl, HMB.out, rfl, by rw [HMF.out]; exact ⟨_, rfl, F1.out.1⟩, F1.out.2.1⟩)
        · refine wpL_pure (.bool false) rfl (by kernel_rfl) ?_
          simp only [Act.put, List.setIfInBounds_toArray, List.set_cons_zero, List.set_cons_succ]
          unfold wpList
          go_upto_region 5 with (fail)
          refine region_anyT (fun X => X.cell? ⟨r, 0, none⟩ = some (.slice (some ⟨gN, 0, none⟩) n cN)) (by kernel_rfl) 10 10 rfl ?_
          refine wpAnyT_take (i := 0) (oi := ⟨some 26, _, _, _, _, _⟩) (v := .pointer (some ⟨r, 0, none⟩)) rfl (by kernel_rfl) (by kernel_rfl) (by kernel_rfl) (fun _ _ _ h => h) (by kernel_rfl) (Or.inl ⟨rfl, fun w h => by kernel_rfl⟩) (by rw [show w1.drew.cell? ⟨r, 0, none⟩ = w1.cell? ⟨r, 0, none⟩ from rfl, F1.out.1.cells.cell]; rfl) ?_
          simp only [Act.put, List.setIfInBounds_toArray, List.set_cons_zero, List.set_cons_succ]
          refine wpAnyT_take (i := 1) (oi := ⟨some 27, _, _, _, _, _⟩) (v := .pointer (some ⟨r, 0, none⟩)) rfl (by kernel_rfl) (by kernel_rfl) (by kernel_rfl) (fun _ _ _ h => h) (by kernel_rfl) (Or.inl ⟨rfl, fun w h => by kernel_rfl⟩) (by rw [show w1.drew.cell? ⟨r, 0, none⟩ = w1.cell? ⟨r, 0, none⟩ from rfl, F1.out.1.cells.cell]; rfl) ?_
          simp only [Act.put, List.setIfInBounds_toArray, List.set_cons_zero, List.set_cons_succ]
          refine wpAnyT_take (i := 2) (oi := ⟨some 28, _, _, _, _, _⟩) (v := .pointer (some ⟨r, 0, none⟩)) rfl (by kernel_rfl) (by kernel_rfl) (by kernel_rfl) (fun _ _ _ h => h) (by kernel_rfl) (Or.inl ⟨rfl, fun w h => by kernel_rfl⟩) (by rw [show w1.drew.cell? ⟨r, 0, none⟩ = w1.cell? ⟨r, 0, none⟩ from rfl, F1.out.1.cells.cell]; rfl) ?_
          simp only [Act.put, List.setIfInBounds_toArray, List.set_cons_zero, List.set_cons_succ]
          refine wpAnyT_take (i := 3) (oi := ⟨some 29, _, _, _, _, _⟩) (v := .slice (some ⟨gN, 0, none⟩) n cN) rfl (by kernel_rfl) (by kernel_rfl) (by kernel_rfl) (fun _ _ _ h => h) (by kernel_rfl) (Or.inl ⟨rfl, fun w h => run_load_one _ _ _ 56 _ _ rfl (r) (0) rfl (h) (by kernel_rfl)⟩) (by rw [show w1.drew.cell? ⟨r, 0, none⟩ = w1.cell? ⟨r, 0, none⟩ from rfl, F1.out.1.cells.cell]; rfl) ?_
          simp only [Act.put, List.setIfInBounds_toArray, List.set_cons_zero, List.set_cons_succ]
          refine wpAnyT_take (i := 4) (oi := ⟨some 30, _, _, _, _, _⟩) (v := .int .i64 (k : Int)) rfl (by kernel_rfl) (by kernel_rfl) (by kernel_rfl) (fun _ _ _ h => h) (by kernel_rfl) (Or.inl ⟨rfl, fun w h => by kernel_rfl⟩) (by rw [show w1.drew.cell? ⟨r, 0, none⟩ = w1.cell? ⟨r, 0, none⟩ from rfl, F1.out.1.cells.cell]; rfl) ?_
          simp only [Act.put, List.setIfInBounds_toArray, List.set_cons_zero, List.set_cons_succ]
          refine wpAnyT_take (i := 6) (oi := ⟨some 32, _, _, _, _, _⟩) (v := .slice a 64 cx) rfl (by kernel_rfl) (by kernel_rfl) (by kernel_rfl) (fun _ _ _ h => h) (by kernel_rfl) (Or.inl ⟨rfl, fun w h => by kernel_rfl⟩) (by rw [show w1.drew.cell? ⟨r, 0, none⟩ = w1.cell? ⟨r, 0, none⟩ from rfl, F1.out.1.cells.cell]; rfl) ?_
          simp only [Act.put, List.setIfInBounds_toArray, List.set_cons_zero, List.set_cons_succ]
          refine wpAnyT_one (i := 5) (by kernel_rfl) ?_
          obtain ⟨W1, hW1⟩ : ∃ V, V = w1.drew.alloc (.cells #[] 5) := ⟨_, rfl⟩
          obtain ⟨g1, hg1⟩ : ∃ q, w1.drew.heap.size = q := ⟨_, rfl⟩
          have A0 : Below w1.heap.size w1 W1 := by rw [hW1]; exact ((Below.refl _ _).drew).alloc (Nat.le_refl _) _
          have F2 : Hid (Own W1 g1 (.slice (some ⟨g1, 0, none⟩) 0 0) [] ∧ Below w1.heap.size w1 W1 ∧ Row W1 a 64 xs ∧ w1.heap.size = g1) := Lib.hid ⟨⟨by rw [hW1, ← hg1]; exact World.ownsRow_lit w1.drew #[] 0 (Nat.le_refl _) (by simp [maxLen]) rfl, by simp⟩, A0, F1.out.2.2.keep A0, hg1⟩
          clear A0
          refine op_valw (o := ⟨some 31, _, _, _, _, _⟩) (.slice (some ⟨g1, 0, none⟩) 0 0) W1 rfl rfl (by rw [hW1, ← hg1]; kernel_rfl) ?_
          refine ⟨fun _ => by rw [F2.out.2.1.cell (cell_lt (show w1.cell? ⟨r, 0, none⟩ = some _ by rw [F1.out.1.cells.cell]; rfl)), F1.out.1.cells.cell]; rfl, ?_⟩
          simp only [Act.put, List.setIfInBounds_toArray, List.set_cons_zero, List.set_cons_succ]
          clear hW1 hg1
          refine wpAnyT_one (i := 7) (by kernel_rfl) ?_
          obtain ⟨v2, W2, r1, r2, r3, r4, _⟩ := append_own W1 g1 (.slice (some ⟨g1, 0, none⟩) 0 0) [] xs a 64 cx F2.out.1 F2.out.2.2.1 (by simp) (by rw [← F2.out.2.2.2]; exact F2.out.2.1.size)
          have R1 := Lib.hid r1
          rw [List.nil_append] at r2
          have A0 : Below w1.heap.size w1 W2 := F2.out.2.1.grown r3 F2.out.2.1.size (fun j hj => by have e := F2.out.2.2.2; simp [Value.ownBlock] at hj; omega)
          obtain ⟨g2, c2, e2, q1, q2, q3⟩ := own_bp r2 HX.out
          have F3 : Hid (RSD W2 base n ⟨r, gN, gW, gI, cN, cW, cI, some ⟨gN, 0, none⟩, some ⟨gW, 0, none⟩, some ⟨gI, 0, none⟩, pN, kN, pW, kW⟩ N W I mf false ∧ FR base w W2 ∧ BP W2 g2 5 64 (rowF xs) ∧ (64 ≤ c2 ∧ c2 ≤ maxLen) ∧ base ≤ g2 ∧ (∀ j, j < n → g2 ≠ pN j ∧ g2 ≠ pW j)) := Lib.hid ⟨F1.out.1.below A0, F1.out.2.1.trans (FR.of A0), q1, q3, by have e := F2.out.2.2.2; have := F1.out.2.1.2.2.2.1; have := HB.out; omega, fun j hj => by have e := F2.out.2.2.2; have := (F1.out.1.rN j hj).lt; have := (F1.out.1.rW j hj).lt; simp only at *; omega⟩
          subst e2
          clear r1 r2 r3 r4 q1 q2 q3 A0
          refine op_valw (o := ⟨some 33, _, _, _, _, _⟩) (.slice (some ⟨g2, 0, none⟩) 64 c2) W2 rfl rfl (run_app _ _ _ _ _ _ _ _ _ rfl rfl rfl rfl R1.out) ?_
          refine ⟨fun _ => by rw [F3.out.1.cells.cell]; rfl, ?_⟩
          simp only [Act.put, List.setIfInBounds_toArray, List.set_cons_zero, List.set_cons_succ]
          clear R1 F2 F1
          refine wpAnyT_take (i := 8) (oi := ⟨some 34, _, _, _, _, _⟩) (v := .pointer (some ⟨gN, k, none⟩)) rfl (by kernel_rfl) (by kernel_rfl) (by kernel_rfl) (fun _ _ _ h => h) (by kernel_rfl) (Or.inl ⟨rfl, fun w h => run_idx56' _ _ w _ _ _ gN n cN k rfl rfl rfl rfl HK.out (by have := HN.out; unfold maxLen; omega)⟩) (by rw [F3.out.1.cells.cell]; rfl) ?_
          simp only [Act.put, List.setIfInBounds_toArray, List.set_cons_zero, List.set_cons_succ]
          refine wpAnyT_one (i := 9) (by kernel_rfl) ?_
          obtain ⟨W3, hW3⟩ : ∃ V, V = W2.setCell ⟨gN, k, none⟩ (.slice (some ⟨g2, 0, none⟩) 64 c2) := ⟨_, rfl⟩
          have F4 : Hid (RSD W3 base n ⟨r, gN, gW, gI, cN, cW, cI, some ⟨gN, 0, none⟩, some ⟨gW, 0, none⟩, some ⟨gI, 0, none⟩, upF pN k g2, upF kN k c2, pW, kW⟩ (upF N k xs) W I mf false ∧ FR base w W3) := Lib.hid (by rw [hW3]; exact ⟨F3.out.1.putN k HK.out g2 c2 xs HX.out F3.out.2.2.1 F3.out.2.2.2.1 F3.out.2.2.2.2.1 F3.out.2.2.2.2.2, F3.out.2.1.set (F3.out.1.base1 (by have := HK.out; omega)).1 (RTg.bp (F3.out.1.bN (by have := HK.out; omega)) (by decide)) _ _⟩)
          have BN := F3.out.1.bN (by have := HK.out; omega)
          refine op_skip (o := ⟨none, _, _, _, _, _⟩) W3 rfl rfl (by rw [hW3]; exact run_store_one _ _ _ 22 _ _ rfl gN k rfl _ rfl rfl size22 (by rw [BN.cell k HK.out]; rfl) (BN.free k)) ?_
          refine ⟨fun _ => by rw [F4.out.1.cells.cell]; rfl, ?_⟩
          simp only [Act.put, List.setIfInBounds_toArray, List.set_cons_zero, List.set_cons_succ]
          clear hW3 F3 BN
          refine wpAnyT_done (by kernel_rfl) ?_ _
          go_upto_region 6 with (fail)
          refine wp_region_lit ?_
          refine wpL_pure (.pointer (some ⟨r, 0, none⟩)) rfl (by kernel_rfl) ?_
          simp only [Act.put, List.setIfInBounds_toArray, List.set_cons_zero, List.set_cons_succ]
          refine wpL_pure (.pointer (some ⟨r, 0, none⟩)) rfl (by kernel_rfl) ?_
          simp only [Act.put, List.setIfInBounds_toArray, List.set_cons_zero, List.set_cons_succ]
          refine wpL_pure (.pointer (some ⟨r, 2, none⟩)) rfl (by kernel_rfl) ?_
          simp only [Act.put, List.setIfInBounds_toArray, List.set_cons_zero, List.set_cons_succ]
          refine wpL_pure (.slice (some ⟨gI, 0, none⟩) n cI) rfl (run_load_one _ _ _ 57 _ _ rfl (r) (2) rfl (by rw [F4.out.1.cells.cell]; rfl) (by kernel_rfl)) ?_
          simp only [Act.put, List.setIfInBounds_toArray, List.set_cons_zero, List.set_cons_succ]
          refine wpL_pure (.int .i64 (k : Int)) rfl (by kernel_rfl) ?_
          simp only [Act.put, List.setIfInBounds_toArray, List.set_cons_zero, List.set_cons_succ]
          refine wpL_pure (.pointer (some ⟨gI, k, none⟩)) rfl (run_idx57' _ _ _ _ _ _ gI n cI k rfl rfl rfl rfl HK.out (by have := HN.out; unfold maxLen; omega)) ?_
          simp only [Act.put, List.setIfInBounds_toArray, List.set_cons_zero, List.set_cons_succ]
          have BI := Lib.hid (F4.out.1.bI (by have := HK.out; omega))
          simp only at BI
          refine wpL_store_one rfl rfl gI k rfl (.bool true) rfl rfl size4 (by rw [BI.out.cell k HK.out]; rfl) (BI.out.free k) ?_
          simp only [Act.put, List.setIfInBounds_toArray, List.set_cons_zero, List.set_cons_succ]
          obtain ⟨W5, hW5⟩ : ∃ V, V = W3.setCell ⟨gI, k, none⟩ (.bool true) := ⟨_, rfl⟩
          rw [← hW5]
          have F5 : Hid (RSD W5 base n ⟨r, gN, gW, gI, cN, cW, cI, some ⟨gN, 0, none⟩, some ⟨gW, 0, none⟩, some ⟨gI, 0, none⟩, upF pN k g2, upF kN k c2, pW, kW⟩ (upF N k xs) W (upF I k true) mf false ∧ FR base w W5) := Lib.hid (by rw [hW5]; exact ⟨F4.out.1.putI k HK.out true, F4.out.2.set (F4.out.1.base1 (by have := HK.out; omega)).2.2 (RTg.bp BI.out (by decide)) _ _⟩)
          clear hW5 F4 BI
          go_upto_region 7 with (fail)
          refine wp_region_lit ?_
          refine wpL_pure (.int .i64 0) rfl (by kernel_rfl) ?_
          simp only [Act.put, List.setIfInBounds_toArray, List.set_cons_zero, List.set_cons_succ]
          go_wp2_with fail
          go_ret
          exact .inr (.inr ⟨HIN.out.1, rfl, HMB.out, rfl, k, rfl, by rw [HMF.out]; exact ⟨_, rfl, F5.out.1⟩, F5.out.2⟩)
      · have H2 := Lib.hid h2
        clear h2
        go_upto_region 1 with (fail)
        refine wp_region_lit ?_
        refine wpL_pure (.int .i64 i) rfl (by kernel_rfl) ?_
        simp only [Act.put, List.setIfInBounds_toArray, List.set_cons_zero, List.set_cons_succ]
        refine wpL_pure (.bool false) rfl (run_lti Try.underlying3 rfl rfl rfl (by have := H0.out; rw [decide_eq_false_iff_not]; omega)) ?_
        simp only [Act.put, List.setIfInBounds_toArray, List.set_cons_zero, List.set_cons_succ]
        refine wpL_pure (.bool false) rfl (by kernel_rfl) ?_
        simp only [Act.put, List.setIfInBounds_toArray, List.set_cons_zero, List.set_cons_succ]
        refine wpL_pure (.int .i64 i) rfl (by kernel_rfl) ?_
        simp only [Act.put, List.setIfInBounds_toArray, List.set_cons_zero, List.set_cons_succ]
        refine wpL_pure (.pointer (some ⟨r, 0, none⟩)) rfl (by kernel_rfl) ?_
        simp only [Act.put, List.setIfInBounds_toArray, List.set_cons_zero, List.set_cons_succ]
        refine wpL_pure (.pointer (some ⟨r, 0, none⟩)) rfl (by kernel_rfl) ?_
        simp only [Act.put, List.setIfInBounds_toArray, List.set_cons_zero, List.set_cons_succ]
        refine wpL_pure (.pointer (some ⟨r, 0, none⟩)) rfl (by kernel_rfl) ?_
        simp only [Act.put, List.setIfInBounds_toArray, List.set_cons_zero, List.set_cons_succ]
        refine wpL_pure (.slice aN n cN) rfl (run_load_one _ _ _ 56 _ _ rfl (r) (0) rfl (by rw [H.out.cells.cell]; rfl) (by kernel_rfl)) ?_
        simp only [Act.put, List.setIfInBounds_toArray, List.set_cons_zero, List.set_cons_succ]
        refine wpL_pure (.int .i64 (n : Int)) rfl (by kernel_rfl) ?_
        simp only [Act.put, List.setIfInBounds_toArray, List.set_cons_zero, List.set_cons_succ]
        refine wpL_pure (.bool false) rfl (run_gei Try.underlying3 rfl rfl rfl (by have := H1.out; rw [decide_eq_false_iff_not]; omega)) ?_
        simp only [Act.put, List.setIfInBounds_toArray, List.set_cons_zero, List.set_cons_succ]
        refine wpL_pure (.bool false) rfl (by kernel_rfl) ?_
        simp only [Act.put, List.setIfInBounds_toArray, List.set_cons_zero, List.set_cons_succ]
        refine wpL_pure (.bool false) rfl (by kernel_rfl) ?_
        simp only [Act.put, List.setIfInBounds_toArray, List.set_cons_zero, List.set_cons_succ]
        refine wpL_pure (.slice a m cx) rfl (by kernel_rfl) ?_
        simp only [Act.put, List.setIfInBounds_toArray, List.set_cons_zero, List.set_cons_succ]
        refine wpL_pure (.int .i64 (m : Int)) rfl (by kernel_rfl) ?_
        simp only [Act.put, List.setIfInBounds_toArray, List.set_cons_zero, List.set_cons_succ]
        refine wpL_pure (.bool true) rfl (run_nei Try.underlying3 rfl rfl rfl (by have := H2.out; simp; omega)) ?_
        simp only [Act.put, List.setIfInBounds_toArray, List.set_cons_zero, List.set_cons_succ]
        refine wpL_pure (.bool true) rfl (by kernel_rfl) ?_
        simp only [Act.put, List.setIfInBounds_toArray, List.set_cons_zero, List.set_cons_succ]
        go_upto_region 2 with (fail)
        refine wp_region_lit ?_
        refine wpL_pure (.int .i64 1) rfl (by kernel_rfl) ?_
        simp only [Act.put, List.setIfInBounds_toArray, List.set_cons_zero, List.set_cons_succ]
        go_wp2_with fail
        go_ret
        exact .inl ⟨fun q => H2.out q.2, rfl, ⟨_, rfl, H.out⟩, FR.refl _⟩
end Go.Proofs.Yticjpjbmjnalhaa
