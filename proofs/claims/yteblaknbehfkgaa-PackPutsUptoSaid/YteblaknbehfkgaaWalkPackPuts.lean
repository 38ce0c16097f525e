import Derived.Test.YteblaknbehfkgaaK18
namespace Go.Proofs.Yteblaknbehfkgaa
open Go Go.RowKit

theorem part_range {w : World} {g o q X : Nat} {a : Option Addr} {n c : Nat} {bs : List Int} (h : PartAt w g o q X a n c bs) : w.rangeAt g o [.int .u8 (q : Int), .int .u64 (X : Int), .slice a n c] := by
  intro j v hj
  match j, hj with
  | 0, hj => simp at hj; subst hj; exact h.1
  | 1, hj => simp at hj; subst hj; exact h.2.1
  | 2, hj => simp at hj; subst hj; exact h.2.2.1
  | j + 3, hj => simp at hj
theorem parts_keep {M : Nat} {w w' : World} {la : Option Addr} {ln lc : Nat} {Q X : Nat → Nat} {B : Nat → List Int} (h : PartsF M w la ln lc Q X B) (hb : Below w.heap.size w w') : PartsF M w' la ln lc Q X B := by
  rcases h with h | ⟨g, o, h1, h2, h3, h4⟩
  · exact .inl h
  · refine .inr ⟨g, o, h1, h2, h3, fun k hk => ?_⟩
    obtain ⟨a, n, c, h5, h6⟩ := h4 k hk
    exact ⟨a, n, c, h5.keep hb, h6⟩
theorem own_nil_cap {w : World} {base : Nat} {a : Option Addr} {n c : Nat} {xs : List Int} (h : Own w base (.slice a n c) xs) : a = none → c = 0 := by
  intro e
  subst e
  rcases h.form with ⟨e, _⟩ | ⟨_, _, _, e, _⟩
  · simp only [Value.slice.injEq] at e; exact e.2.2
  · cases e
theorem part_at {M : Nat} {w : World} {la : Option Addr} {ln lc : Nat} {Q X : Nat → Nat} {B : Nat → List Int} (h : PartsF M w la ln lc Q X B) (k : Nat) (hk : k < ln) : ∃ gp op, Hid (la = some ⟨gp, op, none⟩) ∧ Hid (ln ≤ maxLen) ∧ ∃ pa pn pc, Hid (PartAt w gp (op + k * 3) (Q k) (X k) pa pn pc (B k)) ∧ Hid (pn ≤ M) := by
  rcases h with h | ⟨g, o, h1, h2, h3, h4⟩
  · omega
  · obtain ⟨a, n, c, h5, h6⟩ := h4 k hk
    exact ⟨g, o, Lib.hid h1, Lib.hid (Nat.le_trans h2 h3), a, n, c, Lib.hid h5, Lib.hid h6⟩
def refB (q X : Nat) (bs : List Int) : List Int := if q % 4 = 1 ∧ 4096 < bs.length then [] else partB q X bs
def okB (q : Nat) (bs : List Int) : Bool := !decide (q % 4 = 1 ∧ 4096 < bs.length)
theorem refB_lo {q X : Nat} {bs : List Int} (h : q % 4 ≠ 1) : refB q X bs = partB q X bs := by unfold refB; rw [if_neg (fun h1 => h h1.1)]
theorem refB_hi {q X : Nat} {bs : List Int} (h : q % 4 = 1) (h2 : 4096 < bs.length) : refB q X bs = [] := by unfold refB; rw [if_pos ⟨h, h2⟩]
theorem refB_md {q X : Nat} {bs : List Int} (h : ¬ 4096 < bs.length) : refB q X bs = partB q X bs := by unfold refB; rw [if_neg (fun h1 => h h1.2)]
theorem okB_lo {q : Nat} {bs : List Int} (h : q % 4 ≠ 1) : okB q bs = true := by unfold okB; simp [h]
theorem okB_hi {q : Nat} {bs : List Int} (h : q % 4 = 1) (h2 : 4096 < bs.length) : okB q bs = false := by unfold okB; simp [h, h2]
theorem okB_md {q : Nat} {bs : List Int} (h : ¬ 4096 < bs.length) : okB q bs = true := by unfold okB; simp [h]
theorem refB_len (q X : Nat) (bs : List Int) (hX : X < 18446744073709551616) (hb : bs.length < 18446744073709551616) : (refB q X bs).length ≤ bs.length + 10 := by
  have h1 := enc_10 X hX
  have h2 := enc_10 bs.length hb
  unfold refB partB
  split
  · simp
  · split
    · omega
    · split
      · rw [List.length_append]; omega
      · split
        · omega
        · simp
theorem own_any {w : World} {base : Nat} {v : Value} {xs : List Int} (h : Own w base v xs) : ∃ a n c, v = .slice a n c ∧ Row w a n xs := by
  obtain ⟨a, c, rfl⟩ := h.slice
  exact ⟨a, _, c, rfl, h.row.1⟩
/-- what is wanted behind so many parts. -/
def wnt (Q X : Nat → Nat) (B : Nat → List Int) : Nat → List Int × Bool
  | 0 => ([], true)
  | k + 1 => ((wnt Q X B k).1 ++ refB (Q k) (X k) (B k), (wnt Q X B k).2 && okB (Q k) (B k))
def condW (p : List Int × Bool) : Option (List Int) := if p.2 = true ∧ p.1.length ≤ 16384 then some p.1 else none
theorem condW_none {p : List Int × Bool} (h : none = condW p) (h2 : p.2 = true) : 16384 < p.1.length := by
  unfold condW at h
  split at h
  · cases h
  · rename_i h3
    rcases Nat.lt_or_ge 16384 p.1.length with h4 | h4
    · exact h4
    · exact absurd ⟨h2, h4⟩ h3
theorem condW_some {p : List Int × Bool} {xs : List Int} (h : some xs = condW p) : p.2 = true ∧ xs = p.1 ∧ xs.length ≤ 16384 := by
  unfold condW at h
  split at h
  · rename_i h3; cases h; exact ⟨h3.1, rfl, h3.2⟩
  · cases h
theorem put_condW (l ys : List Int) (g : Bool) : putG (condW (l, g)) ys = condW (l ++ ys, g) := by
  unfold condW
  cases g
  · simp [putG]
  · simp only [true_and, List.length_append]
    by_cases h : l.length ≤ 16384
    · rw [if_pos h]
      simp only [putG]
    · rw [if_neg h, if_neg (by omega)]
      rfl
theorem stk_wnt (Q X : Nat → Nat) (B : Nat → List Int) : ∀ k, stk Q X B k = condW (wnt Q X B k)
  | 0 => by simp [stk, wnt, condW]
  | k + 1 => by
    have ih := stk_wnt Q X B k
    have e : wnt Q X B k = ((wnt Q X B k).1, (wnt Q X B k).2) := rfl
    rw [e] at ih
    simp only [stk, wnt]
    rw [ih]
    by_cases h : Q k % 4 = 1 ∧ 4096 < (B k).length
    · rw [refB_hi h.1 h.2, okB_hi h.1 h.2]
      unfold partG textG
      rw [if_neg (by omega), if_pos h.1, if_pos h.2]
      simp [condW]
    · have h1 : okB (Q k) (B k) = true := by unfold okB; simp; omega
      have h2 : refB (Q k) (X k) (B k) = partB (Q k) (X k) (B k) := by unfold refB; rw [if_neg h]
      rw [h1, h2, Bool.and_true, ← put_condW]
      unfold partG partB textG
      split
      · rfl
      · split
        · rw [if_neg (fun h3 => h ⟨by assumption, h3⟩)]
        · split <;> rfl
theorem own_keep {w w' : World} {b base : Nat} {v : Value} {xs : List Int} (h : Own w base v xs) (hk : BK b w w') (hb : b + 1 ≤ base) (hs : ∀ g, v.ownBlock = some g → OutBuf w b ≠ some g) : Own w' base v xs ∧ ∀ g, v.ownBlock = some g → OutBuf w' b ≠ some g := by
  refine ⟨⟨⟨h.1.1, ?_⟩, h.2⟩, fun g hg => (hk.2 g (h.lt g hg).2 (by have := (h.lt g hg).1; omega) (hs g hg)).2⟩
  rcases h.1.2 with h0 | ⟨g, cap, cur, h1, h2, h3, h4⟩
  · exact .inl h0
  · refine .inr ⟨g, cap, cur, h1, h2, ?_, h4⟩
    have hg : v.ownBlock = some g := by rw [h1]; rfl
    exact (hk.2 g (h.lt g hg).2 (by omega) (hs g hg)).1.trans h3
theorem OutG.buf_lt {w : World} {b : Nat} {st : Option (List Int)} (h : OutG w b st) (g : Nat) (hg : OutBuf w b = some g) : g < w.heap.size := by
  cases st with
  | some xs =>
    obtain ⟨⟨s, p, h1, h2, _⟩, _⟩ := h
    have e : OutBuf w b = s.ownBlock := by unfold OutBuf; rw [h1.cell, h1.cell]; rfl
    exact (h2.lt g (e ▸ hg)).2
  | none =>
    obtain ⟨a, n, c, p, h1, _⟩ := h
    have e : OutBuf w b = none := by unfold OutBuf; rw [h1.cell]; rfl
    rw [e] at hg; cases hg
theorem outG_grown {w w' : World} {b : Nat} {st : Option (List Int)} {r : Option Nat} (h : OutG w b st) (hg : w.grownBy w' r) (hr : some b ≠ r) (hs : ∀ g, r = some g → OutBuf w b ≠ some g) : OutG w' b st ∧ OutBuf w' b = OutBuf w b := by
  refine ⟨?_, outBuf_of (hg.block _ h.lt hr)⟩
  cases st with
  | some xs =>
    obtain ⟨⟨s, p, h1, h2, h3⟩, h4⟩ := h
    have e : OutBuf w b = s.ownBlock := by unfold OutBuf; rw [h1.cell, h1.cell]; rfl
    refine ⟨⟨s, p, h1.grown hg hr, h2.grown hg ?_, h3⟩, h4⟩
    cases hv : s.ownBlock with
    | none => exact .inl rfl
    | some g => exact .inr fun e2 => hs g e2.symm (e.trans hv)
  | none =>
    obtain ⟨a, n, c, p, h1, h2⟩ := h
    exact ⟨a, n, c, p, h1.grown hg hr, h2⟩
attribute [local irreducible] wpList
set_option maxHeartbeats 1000000 in
theorem refbytes_any (w : World) (q X : Nat) (a : Option Addr) (n c : Nat) (bs : List Int) (hr : Row w a n bs) (hn : n ≤ 4611686018427) (hq : q < 256) (hX : X < 18446744073709551616) :
    Calls Try.prog 11 #[.agg #[.int .u8 (q : Int), .int .u64 (X : Int), .slice a n c]] w fun e w' => ∃ v ok, e = .returned (.tuple #[v, .bool ok]) ∧ (∃ a n c, v = .slice a n c ∧ Row w' a n (refB q X bs)) ∧ ok = okB q bs ∧ Below w.heap.size w w' := by
  have QL := Lib.hid hq
  have XL := Lib.hid hX
  have HN := Lib.hid hn
  obtain ⟨W0, hW0⟩ : ∃ V, V = w.alloc (.cells #[.int .u8 (q : Int), .int .u64 (X : Int), .slice a n c] 35) := ⟨_, rfl⟩
  have HB : Hid (Blk W0 w.heap.size 35 #[.int .u8 (q : Int), .int .u64 (X : Int), .slice a n c]) := Lib.hid (by rw [hW0]; exact Blk.new _ _ _)
  have GB : Hid (Below w.heap.size w W0 ∧ w.heap.size ≤ W0.heap.size) := Lib.hid (by rw [hW0]; exact ⟨(Below.refl _ _).alloc (Nat.le_refl _) _, by simp⟩)
  have HR : Hid (Row W0 a n bs) := Lib.hid (hr.keep GB.out.1)
  obtain ⟨g1, hg1⟩ : ∃ q, w.heap.size = q := ⟨_, rfl⟩
  rw [hg1] at HB
  clear hX hq hn hr
  have hq : q % 4 = 0 ∨ q % 4 = 1 ∨ q % 4 = 2 ∨ q % 4 = 3 := by omega
  rcases hq with hq | hq | hq | hq
  · have HQ : Hid (q % 4 = 0) := Lib.hid hq
    clear hq
    go_enter Try.func11, Try.ntmps11
    go_upto_region 1 with (fail)
    try rw [← hW0]
    try rw [hg1]
    clear hW0 hg1
    refine wp_region_lit ?_
    refine wpL_pure (.pointer (some ⟨g1, 0, none⟩)) rfl (by kernel_rfl) ?_
    simp only [Act.put, List.setIfInBounds_toArray, List.set_cons_zero, List.set_cons_succ]
    refine wpL_pure (.int .u8 (q : Int)) rfl (run_load_one _ _ _ 5 _ _ rfl (g1) (0) rfl (by rw [HB.out.cell]; rfl) (by kernel_rfl)) ?_
    simp only [Act.put, List.setIfInBounds_toArray, List.set_cons_zero, List.set_cons_succ]
    refine wpL_pure (.int .u8 ((q % 4 : Nat) : Int)) rfl (run_rem4 _ _ _ _ _ q rfl rfl rfl QL.out) ?_
    simp only [Act.put, List.setIfInBounds_toArray, List.set_cons_zero, List.set_cons_succ]
    go_upto_region 2 with (fail)
    refine wp_region_lit ?_
    refine wpL_pure (.bool true) rfl (run_eqi Try.underlying5 rfl rfl rfl (by have := HQ.out; rw [decide_eq_true_eq]; omega)) ?_
    simp only [Act.put, List.setIfInBounds_toArray, List.set_cons_zero, List.set_cons_succ]
    refine wpL_pure (.bool true) rfl (by kernel_rfl) ?_
    simp only [Act.put, List.setIfInBounds_toArray, List.set_cons_zero, List.set_cons_succ]
    go_upto_region 3 with (fail)
    refine wp_region_lit ?_
    refine wpL_pure (.pointer (some ⟨g1, 1, none⟩)) rfl (by kernel_rfl) ?_
    simp only [Act.put, List.setIfInBounds_toArray, List.set_cons_zero, List.set_cons_succ]
    refine wpL_pure (.int .u64 (X : Int)) rfl (run_load_one _ _ _ 33 _ _ rfl (g1) (1) rfl (by rw [HB.out.cell]; rfl) (by kernel_rfl)) ?_
    simp only [Act.put, List.setIfInBounds_toArray, List.set_cons_zero, List.set_cons_succ]
    refine wpL_call 25 #[.int .u64 (X : Int)] rfl (by kernel_rfl) (((refnum_any W0 X XL.out)).mono fun e w1 ⟨v, he, q1, q2⟩ => ⟨v, he, ?_⟩)
    simp only [Act.put, List.setIfInBounds_toArray, List.set_cons_zero, List.set_cons_succ]
    have Q1 := Lib.hid (And.intro q1 q2)
    clear q1 q2
    refine wpL_pure (v) rfl (by kernel_rfl) ?_
    simp only [Act.put, List.setIfInBounds_toArray, List.set_cons_zero, List.set_cons_succ]
    refine wpL_pure (.bool true) rfl (by kernel_rfl) ?_
    simp only [Act.put, List.setIfInBounds_toArray, List.set_cons_zero, List.set_cons_succ]
    go_wp2_with fail
    go_ret2
    exact ⟨v, true, rfl, by rw [refB_lo (by have := HQ.out; omega)]; unfold partB; rw [if_pos HQ.out]; exact own_any Q1.out.1, by rw [okB_lo (by have := HQ.out; omega)], GB.out.1.trans (Q1.out.2.mono GB.out.2)⟩
  · have HQ : Hid (q % 4 = 1) := Lib.hid hq
    clear hq
    by_cases hl : 4096 < n
    · have HL := Lib.hid hl
      clear hl
      go_enter Try.func11, Try.ntmps11
      go_upto_region 1 with (fail)
      try rw [← hW0]
      try rw [hg1]
      clear hW0 hg1
      refine wp_region_lit ?_
      refine wpL_pure (.pointer (some ⟨g1, 0, none⟩)) rfl (by kernel_rfl) ?_
      simp only [Act.put, List.setIfInBounds_toArray, List.set_cons_zero, List.set_cons_succ]
      refine wpL_pure (.int .u8 (q : Int)) rfl (run_load_one _ _ _ 5 _ _ rfl (g1) (0) rfl (by rw [HB.out.cell]; rfl) (by kernel_rfl)) ?_
      simp only [Act.put, List.setIfInBounds_toArray, List.set_cons_zero, List.set_cons_succ]
      refine wpL_pure (.int .u8 ((q % 4 : Nat) : Int)) rfl (run_rem4 _ _ _ _ _ q rfl rfl rfl QL.out) ?_
      simp only [Act.put, List.setIfInBounds_toArray, List.set_cons_zero, List.set_cons_succ]
      go_upto_region 2 with (fail)
      refine wp_region_lit ?_
      refine wpL_pure (.bool false) rfl (run_eqi Try.underlying5 rfl rfl rfl (by have := HQ.out; rw [decide_eq_false_iff_not]; omega)) ?_
      simp only [Act.put, List.setIfInBounds_toArray, List.set_cons_zero, List.set_cons_succ]
      refine wpL_pure (.bool false) rfl (by kernel_rfl) ?_
      simp only [Act.put, List.setIfInBounds_toArray, List.set_cons_zero, List.set_cons_succ]
      go_upto_region 4 with (fail)
      refine wp_region_lit ?_
      refine wpL_pure (.bool true) rfl (run_eqi Try.underlying5 rfl rfl rfl (by have := HQ.out; rw [decide_eq_true_eq]; omega)) ?_
      simp only [Act.put, List.setIfInBounds_toArray, List.set_cons_zero, List.set_cons_succ]
      refine wpL_pure (.bool true) rfl (by kernel_rfl) ?_
      simp only [Act.put, List.setIfInBounds_toArray, List.set_cons_zero, List.set_cons_succ]
      go_upto_region 5 with (fail)
      refine wp_region_lit ?_
      refine wpL_pure (.pointer (some ⟨g1, 2, none⟩)) rfl (by kernel_rfl) ?_
      simp only [Act.put, List.setIfInBounds_toArray, List.set_cons_zero, List.set_cons_succ]
      refine wpL_pure (.slice a n c) rfl (run_load_one _ _ _ 25 _ _ rfl (g1) (2) rfl (by rw [HB.out.cell]; rfl) (by kernel_rfl)) ?_
      simp only [Act.put, List.setIfInBounds_toArray, List.set_cons_zero, List.set_cons_succ]
      refine wpL_pure (.int .i64 (n : Int)) rfl (by kernel_rfl) ?_
      simp only [Act.put, List.setIfInBounds_toArray, List.set_cons_zero, List.set_cons_succ]
      refine wpL_pure (.bool true) rfl (run_gti Try.underlying3 rfl rfl rfl (by have := HL.out; rw [decide_eq_true_eq]; omega)) ?_
      simp only [Act.put, List.setIfInBounds_toArray, List.set_cons_zero, List.set_cons_succ]
      go_upto_region 6 with (fail)
      refine wp_region_lit ?_
      refine wpL_pure (.slice none 0 0) rfl (by kernel_rfl) ?_
      simp only [Act.put, List.setIfInBounds_toArray, List.set_cons_zero, List.set_cons_succ]
      refine wpL_pure (.bool false) rfl (by kernel_rfl) ?_
      simp only [Act.put, List.setIfInBounds_toArray, List.set_cons_zero, List.set_cons_succ]
      go_wp2_with fail
      go_ret2
      exact ⟨_, false, rfl, by rw [refB_hi HQ.out (by have := HR.out.1; have := HL.out; omega)]; exact ⟨none, 0, 0, rfl, Row.nil _ _⟩, by rw [okB_hi HQ.out (by have := HR.out.1; have := HL.out; omega)], GB.out.1⟩
    · have HL := Lib.hid hl
      clear hl
      go_enter Try.func11, Try.ntmps11
      go_upto_region 1 with (fail)
      try rw [← hW0]
      try rw [hg1]
      clear hW0 hg1
      refine wp_region_lit ?_
      refine wpL_pure (.pointer (some ⟨g1, 0, none⟩)) rfl (by kernel_rfl) ?_
      simp only [Act.put, List.setIfInBounds_toArray, List.set_cons_zero, List.set_cons_succ]
      refine wpL_pure (.int .u8 (q : Int)) rfl (run_load_one _ _ _ 5 _ _ rfl (g1) (0) rfl (by rw [HB.out.cell]; rfl) (by kernel_rfl)) ?_
      simp only [Act.put, List.setIfInBounds_toArray, List.set_cons_zero, List.set_cons_succ]
      refine wpL_pure (.int .u8 ((q % 4 : Nat) : Int)) rfl (run_rem4 _ _ _ _ _ q rfl rfl rfl QL.out) ?_
      simp only [Act.put, List.setIfInBounds_toArray, List.set_cons_zero, List.set_cons_succ]
      go_upto_region 2 with (fail)
      refine wp_region_lit ?_
      refine wpL_pure (.bool false) rfl (run_eqi Try.underlying5 rfl rfl rfl (by have := HQ.out; rw [decide_eq_false_iff_not]; omega)) ?_
      simp only [Act.put, List.setIfInBounds_toArray, List.set_cons_zero, List.set_cons_succ]
      refine wpL_pure (.bool false) rfl (by kernel_rfl) ?_
      simp only [Act.put, List.setIfInBounds_toArray, List.set_cons_zero, List.set_cons_succ]
      go_upto_region 4 with (fail)
      refine wp_region_lit ?_
      refine wpL_pure (.bool true) rfl (run_eqi Try.underlying5 rfl rfl rfl (by have := HQ.out; rw [decide_eq_true_eq]; omega)) ?_
      simp only [Act.put, List.setIfInBounds_toArray, List.set_cons_zero, List.set_cons_succ]
      refine wpL_pure (.bool true) rfl (by kernel_rfl) ?_
      simp only [Act.put, List.setIfInBounds_toArray, List.set_cons_zero, List.set_cons_succ]
      go_upto_region 5 with (fail)
      refine wp_region_lit ?_
      refine wpL_pure (.pointer (some ⟨g1, 2, none⟩)) rfl (by kernel_rfl) ?_
      simp only [Act.put, List.setIfInBounds_toArray, List.set_cons_zero, List.set_cons_succ]
      refine wpL_pure (.slice a n c) rfl (run_load_one _ _ _ 25 _ _ rfl (g1) (2) rfl (by rw [HB.out.cell]; rfl) (by kernel_rfl)) ?_
      simp only [Act.put, List.setIfInBounds_toArray, List.set_cons_zero, List.set_cons_succ]
      refine wpL_pure (.int .i64 (n : Int)) rfl (by kernel_rfl) ?_
      simp only [Act.put, List.setIfInBounds_toArray, List.set_cons_zero, List.set_cons_succ]
      refine wpL_pure (.bool false) rfl (run_gti Try.underlying3 rfl rfl rfl (by have := HL.out; rw [decide_eq_false_iff_not]; omega)) ?_
      simp only [Act.put, List.setIfInBounds_toArray, List.set_cons_zero, List.set_cons_succ]
      go_upto_region 7 with (fail)
      refine region_ext (kindsOf [isV (.pointer (some ⟨g1, 2, none⟩)), isV (.slice a n c), isV (.int .i64 (n : Int)), isV (.int .u64 (n : Int)), (fun v w => Own w W0.heap.size v (enc n)), isV (.pointer (some ⟨g1, 2, none⟩)), isV (.slice a n c)]) (kindsOf_stays _ (by
        intro R hR v
        simp only [List.mem_cons, List.not_mem_nil, or_false] at hR
        rcases hR with rfl | rfl | rfl | rfl | rfl | rfl | rfl
        all_goals first | exact stays_isV _ _ | exact fun w w' h hE => h.below hE)) 7 (by kernel_rfl) (by kernel_rfl) ?_
      simp only [List.take_succ_cons, List.take_zero, List.drop_succ_cons, List.drop_zero]
      refine wpExt_val (.pointer (some ⟨g1, 2, none⟩)) rfl rfl (fun w hw => by kernel_rfl) ?_
      simp only [Act.put, List.setIfInBounds_toArray, List.set_cons_zero, List.set_cons_succ]
      refine wpExt_val (.slice a n c) rfl rfl (fun w hw => run_load_one _ _ _ 25 _ _ rfl (g1) (2) rfl (by rw [(Blk.below (w := W0.drew) HB.out hw).cell]; rfl) (by kernel_rfl)) ?_
      simp only [Act.put, List.setIfInBounds_toArray, List.set_cons_zero, List.set_cons_succ]
      refine wpExt_val (.int .i64 (n : Int)) rfl rfl (fun w hw => by kernel_rfl) ?_
      simp only [Act.put, List.setIfInBounds_toArray, List.set_cons_zero, List.set_cons_succ]
      refine wpExt_val (.int .u64 (n : Int)) rfl rfl (fun w hw => run_convi Try.underlying3 Try.underlying33 rfl rfl _ (u64_in _ (by omega) (by have := HN.out; omega))) ?_
      simp only [Act.put, List.setIfInBounds_toArray, List.set_cons_zero, List.set_cons_succ]
      refine wpExt_callR 25 #[.int .u64 (n : Int)] rfl (fun w => by kernel_rfl) (fun w hw => ((refnum_any w n (by have := HN.out; omega)).mono fun e w2 ⟨v, he, q1, q2⟩ => ⟨v, he, q2, q1.mono (by exact hw.size)⟩)) ?_
      rintro v ⟨wv, hv⟩
      simp only [Act.put, List.setIfInBounds_toArray, List.set_cons_zero, List.set_cons_succ]
      refine wpExt_val (.pointer (some ⟨g1, 2, none⟩)) rfl rfl (fun w hw => by kernel_rfl) ?_
      simp only [Act.put, List.setIfInBounds_toArray, List.set_cons_zero, List.set_cons_succ]
      refine wpExt_val (.slice a n c) rfl rfl (fun w hw => run_load_one _ _ _ 25 _ _ rfl (g1) (2) rfl (by rw [(Blk.below (w := W0.drew) HB.out hw).cell]; rfl) (by kernel_rfl)) ?_
      simp only [Act.put, List.setIfInBounds_toArray, List.set_cons_zero, List.set_cons_succ]
      refine wpExt_nil ?_
      intro w1 hE hF
      have OW : Own w1 W0.heap.size v (enc n) := hF.1.1.2
      have EX : Below W0.heap.size W0 w1 := (Below.refl W0.heap.size W0).drew.trans hE
      obtain ⟨v2, w2, r1, r2, r3, r4, r5⟩ := append_own w1 W0.heap.size v (enc n) bs a n c OW (HR.out.keep EX) (by have := enc_10 n (by have := HN.out; omega); have := HN.out; omega) EX.size
      have AP := Lib.hid (And.intro r1 (And.intro r2 (EX.grown r3 EX.size (fun k hk => (OW.lt k hk).1))))
      clear r1 r2 r3 r4 r5 OW EX hF hE hv
      refine wpL_value (v2) (w2) rfl (run_app _ _ _ _ _ _ _ _ _ rfl rfl rfl rfl AP.out.1) ?_
      simp only [Act.put, List.setIfInBounds_toArray, List.set_cons_zero, List.set_cons_succ]
      refine wpL_pure (v2) rfl (by kernel_rfl) ?_
      simp only [Act.put, List.setIfInBounds_toArray, List.set_cons_zero, List.set_cons_succ]
      refine wpL_pure (.bool true) rfl (by kernel_rfl) ?_
      simp only [Act.put, List.setIfInBounds_toArray, List.set_cons_zero, List.set_cons_succ]
      go_wp2_with fail
      go_ret2
      exact ⟨v2, true, rfl, by rw [refB_md (by have := HR.out.1; have := HL.out; omega)]; unfold partB; rw [if_neg (by have := HQ.out; omega), if_pos HQ.out, HR.out.1]; exact own_any AP.out.2.1, by rw [okB_md (by have := HR.out.1; have := HL.out; omega)], GB.out.1.trans (AP.out.2.2.mono GB.out.2)⟩
  · have HQ : Hid (q % 4 = 2) := Lib.hid hq
    clear hq
    go_enter Try.func11, Try.ntmps11
    go_upto_region 1 with (fail)
    try rw [← hW0]
    try rw [hg1]
    clear hW0 hg1
    refine wp_region_lit ?_
    refine wpL_pure (.pointer (some ⟨g1, 0, none⟩)) rfl (by kernel_rfl) ?_
    simp only [Act.put, List.setIfInBounds_toArray, List.set_cons_zero, List.set_cons_succ]
    refine wpL_pure (.int .u8 (q : Int)) rfl (run_load_one _ _ _ 5 _ _ rfl (g1) (0) rfl (by rw [HB.out.cell]; rfl) (by kernel_rfl)) ?_
    simp only [Act.put, List.setIfInBounds_toArray, List.set_cons_zero, List.set_cons_succ]
    refine wpL_pure (.int .u8 ((q % 4 : Nat) : Int)) rfl (run_rem4 _ _ _ _ _ q rfl rfl rfl QL.out) ?_
    simp only [Act.put, List.setIfInBounds_toArray, List.set_cons_zero, List.set_cons_succ]
    go_upto_region 2 with (fail)
    refine wp_region_lit ?_
    refine wpL_pure (.bool false) rfl (run_eqi Try.underlying5 rfl rfl rfl (by have := HQ.out; rw [decide_eq_false_iff_not]; omega)) ?_
    simp only [Act.put, List.setIfInBounds_toArray, List.set_cons_zero, List.set_cons_succ]
    refine wpL_pure (.bool false) rfl (by kernel_rfl) ?_
    simp only [Act.put, List.setIfInBounds_toArray, List.set_cons_zero, List.set_cons_succ]
    go_upto_region 4 with (fail)
    refine wp_region_lit ?_
    refine wpL_pure (.bool false) rfl (run_eqi Try.underlying5 rfl rfl rfl (by have := HQ.out; rw [decide_eq_false_iff_not]; omega)) ?_
    simp only [Act.put, List.setIfInBounds_toArray, List.set_cons_zero, List.set_cons_succ]
    refine wpL_pure (.bool false) rfl (by kernel_rfl) ?_
    simp only [Act.put, List.setIfInBounds_toArray, List.set_cons_zero, List.set_cons_succ]
    go_upto_region 8 with (fail)
    refine wp_region_lit ?_
    refine wpL_pure (.bool true) rfl (run_eqi Try.underlying5 rfl rfl rfl (by have := HQ.out; rw [decide_eq_true_eq]; omega)) ?_
    simp only [Act.put, List.setIfInBounds_toArray, List.set_cons_zero, List.set_cons_succ]
    refine wpL_pure (.bool true) rfl (by kernel_rfl) ?_
    simp only [Act.put, List.setIfInBounds_toArray, List.set_cons_zero, List.set_cons_succ]
    go_upto_region 9 with (fail)
    refine wp_region_lit ?_
    refine wpL_pure (.pointer (some ⟨g1, 2, none⟩)) rfl (by kernel_rfl) ?_
    simp only [Act.put, List.setIfInBounds_toArray, List.set_cons_zero, List.set_cons_succ]
    refine wpL_pure (.slice a n c) rfl (run_load_one _ _ _ 25 _ _ rfl (g1) (2) rfl (by rw [HB.out.cell]; rfl) (by kernel_rfl)) ?_
    simp only [Act.put, List.setIfInBounds_toArray, List.set_cons_zero, List.set_cons_succ]
    refine wpL_pure (.slice a n c) rfl (by kernel_rfl) ?_
    simp only [Act.put, List.setIfInBounds_toArray, List.set_cons_zero, List.set_cons_succ]
    refine wpL_pure (.bool true) rfl (by kernel_rfl) ?_
    simp only [Act.put, List.setIfInBounds_toArray, List.set_cons_zero, List.set_cons_succ]
    go_wp2_with fail
    go_ret2
    exact ⟨_, true, rfl, by rw [refB_lo (by have := HQ.out; omega)]; unfold partB; rw [if_neg (by have := HQ.out; omega), if_neg (by have := HQ.out; omega), if_pos HQ.out]; exact ⟨a, n, c, rfl, HR.out⟩, by rw [okB_lo (by have := HQ.out; omega)], GB.out.1⟩
  · have HQ : Hid (q % 4 = 3) := Lib.hid hq
    clear hq
    go_enter Try.func11, Try.ntmps11
    go_upto_region 1 with (fail)
    try rw [← hW0]
    try rw [hg1]
    clear hW0 hg1
    refine wp_region_lit ?_
    refine wpL_pure (.pointer (some ⟨g1, 0, none⟩)) rfl (by kernel_rfl) ?_
    simp only [Act.put, List.setIfInBounds_toArray, List.set_cons_zero, List.set_cons_succ]
    refine wpL_pure (.int .u8 (q : Int)) rfl (run_load_one _ _ _ 5 _ _ rfl (g1) (0) rfl (by rw [HB.out.cell]; rfl) (by kernel_rfl)) ?_
    simp only [Act.put, List.setIfInBounds_toArray, List.set_cons_zero, List.set_cons_succ]
    refine wpL_pure (.int .u8 ((q % 4 : Nat) : Int)) rfl (run_rem4 _ _ _ _ _ q rfl rfl rfl QL.out) ?_
    simp only [Act.put, List.setIfInBounds_toArray, List.set_cons_zero, List.set_cons_succ]
    go_upto_region 2 with (fail)
    refine wp_region_lit ?_
    refine wpL_pure (.bool false) rfl (run_eqi Try.underlying5 rfl rfl rfl (by have := HQ.out; rw [decide_eq_false_iff_not]; omega)) ?_
    simp only [Act.put, List.setIfInBounds_toArray, List.set_cons_zero, List.set_cons_succ]
    refine wpL_pure (.bool false) rfl (by kernel_rfl) ?_
    simp only [Act.put, List.setIfInBounds_toArray, List.set_cons_zero, List.set_cons_succ]
    go_upto_region 4 with (fail)
    refine wp_region_lit ?_
    refine wpL_pure (.bool false) rfl (run_eqi Try.underlying5 rfl rfl rfl (by have := HQ.out; rw [decide_eq_false_iff_not]; omega)) ?_
    simp only [Act.put, List.setIfInBounds_toArray, List.set_cons_zero, List.set_cons_succ]
    refine wpL_pure (.bool false) rfl (by kernel_rfl) ?_
    simp only [Act.put, List.setIfInBounds_toArray, List.set_cons_zero, List.set_cons_succ]
    go_upto_region 8 with (fail)
    refine wp_region_lit ?_
    refine wpL_pure (.bool false) rfl (run_eqi Try.underlying5 rfl rfl rfl (by have := HQ.out; rw [decide_eq_false_iff_not]; omega)) ?_
    simp only [Act.put, List.setIfInBounds_toArray, List.set_cons_zero, List.set_cons_succ]
    refine wpL_pure (.bool false) rfl (by kernel_rfl) ?_
    simp only [Act.put, List.setIfInBounds_toArray, List.set_cons_zero, List.set_cons_succ]
    go_upto_region 10 with (fail)
    refine wp_region_lit ?_
    refine wpL_pure (.pointer (some ⟨g1, 1, none⟩)) rfl (by kernel_rfl) ?_
    simp only [Act.put, List.setIfInBounds_toArray, List.set_cons_zero, List.set_cons_succ]
    refine wpL_pure (.int .u64 (X : Int)) rfl (run_load_one _ _ _ 33 _ _ rfl (g1) (1) rfl (by rw [HB.out.cell]; rfl) (by kernel_rfl)) ?_
    simp only [Act.put, List.setIfInBounds_toArray, List.set_cons_zero, List.set_cons_succ]
    refine wpL_pure (.int .u64 ((X % 2 : Nat) : Int)) rfl (run_rem2 _ _ _ _ X rfl rfl XL.out) ?_
    simp only [Act.put, List.setIfInBounds_toArray, List.set_cons_zero, List.set_cons_succ]
    refine wpL_pure (.int .u8 ((X % 2 : Nat) : Int)) rfl (run_convi Try.underlying33 Try.underlying5 rfl rfl _ (by rw [IntKind.wrap_u8]; omega)) ?_
    simp only [Act.put, List.setIfInBounds_toArray, List.set_cons_zero, List.set_cons_succ]
    refine wpL_value (.slice (some ⟨W0.heap.size, 0, none⟩) 1 1) (W0.alloc (.cells #[.int .u8 ((X % 2 : Nat) : Int)] 5)) rfl (by kernel_rfl) ?_
    simp only [Act.put, List.setIfInBounds_toArray, List.set_cons_zero, List.set_cons_succ]
    refine wpL_pure (.slice (some ⟨W0.heap.size, 0, none⟩) 1 1) rfl (by kernel_rfl) ?_
    simp only [Act.put, List.setIfInBounds_toArray, List.set_cons_zero, List.set_cons_succ]
    refine wpL_pure (.bool true) rfl (by kernel_rfl) ?_
    simp only [Act.put, List.setIfInBounds_toArray, List.set_cons_zero, List.set_cons_succ]
    go_wp2_with fail
    go_ret2
    exact ⟨_, true, rfl, by rw [refB_lo (by have := HQ.out; omega)]; unfold partB; rw [if_neg (by have := HQ.out; omega), if_neg (by have := HQ.out; omega), if_neg (by have := HQ.out; omega)]; exact ⟨_, _, _, rfl, row_one W0 _ (by omega) (by omega)⟩, by rw [okB_lo (by have := HQ.out; omega)], GB.out.1.alloc GB.out.2 _⟩
set_option maxHeartbeats 8000000 in
theorem walkPackPuts (la : Option Addr) (ln lc : Nat) (w : World) (hp : ∃ Q X B, PartsF 1048576 w la ln lc Q X B) :
    Calls Try.prog 3 #[.slice la ln lc] w fun e w' => e = .returned (.bool true) ∧ Below w.heap.size w w' := by
  obtain ⟨Q, X, B, hp⟩ := hp
  have HP := Lib.hid hp
  clear hp
  go_enter Try.func3, Try.ntmps3
  go_upto_region 1 with (fail)
  refine wp_region_lit ?_
  refine wpL_call 8 #[] rfl (by kernel_rfl) (((awake_any w)).mono fun e w1 ⟨he, hb⟩ => ⟨.bool true, he, ?_⟩)
  simp only [Act.put, List.setIfInBounds_toArray, List.set_cons_zero, List.set_cons_succ]
  have B1 := Lib.hid hb
  clear hb
  refine wpL_pure (.bool false) rfl (by kernel_rfl) ?_
  simp only [Act.put, List.setIfInBounds_toArray, List.set_cons_zero, List.set_cons_succ]
  refine wpL_pure (.bool false) rfl (by kernel_rfl) ?_
  simp only [Act.put, List.setIfInBounds_toArray, List.set_cons_zero, List.set_cons_succ]
  refine wpL_pure (.slice la ln lc) rfl (by kernel_rfl) ?_
  simp only [Act.put, List.setIfInBounds_toArray, List.set_cons_zero, List.set_cons_succ]
  refine wpL_call 9 #[.slice la ln lc] rfl (by kernel_rfl) (((few_any w1 _ la ln lc Q X B (parts_keep HP.out B1.out))).mono fun e w2 ⟨z, he, hw, hz⟩ => ⟨.bool z, he, ?_⟩)
  simp only [Act.put, List.setIfInBounds_toArray, List.set_cons_zero, List.set_cons_succ]
  subst hw
  have L40i := Lib.hid hz
  clear hz
  cases z
  · refine wpL_pure (.bool true) rfl (by kernel_rfl) ?_
    simp only [Act.put, List.setIfInBounds_toArray, List.set_cons_zero, List.set_cons_succ]
    refine wpL_pure (.bool true) rfl (by kernel_rfl) ?_
    simp only [Act.put, List.setIfInBounds_toArray, List.set_cons_zero, List.set_cons_succ]
    go_upto_region 2 with (fail)
    refine wp_region_lit ?_
    refine wpL_call 8 #[] rfl (by kernel_rfl) (((awake_any w1)).mono fun e w2 ⟨he, hb⟩ => ⟨.bool true, he, ?_⟩)
    simp only [Act.put, List.setIfInBounds_toArray, List.set_cons_zero, List.set_cons_succ]
    have B2 := Lib.hid (B1.out.trans (hb.mono B1.out.size))
    clear hb
    refine wpL_pure (.bool true) rfl (by kernel_rfl) ?_
    simp only [Act.put, List.setIfInBounds_toArray, List.set_cons_zero, List.set_cons_succ]
    go_wp2_with fail
    go_ret
    exact ⟨rfl, B2.out⟩
  · have L40 : Hid (ln ≤ 40) := Lib.hid (L40i.out rfl)
    clear L40i
    refine wpL_pure (.bool false) rfl (by kernel_rfl) ?_
    simp only [Act.put, List.setIfInBounds_toArray, List.set_cons_zero, List.set_cons_succ]
    refine wpL_pure (.bool false) rfl (by kernel_rfl) ?_
    simp only [Act.put, List.setIfInBounds_toArray, List.set_cons_zero, List.set_cons_succ]
    go_upto_region 4 with (fail)
    have O0 : OutG (w1.alloc (.cells #[.slice none 0 0, .bool false, .pointer none] 30)) w1.heap.size (some []) := ⟨OutSt.new w1, by simp⟩
    have W0 : Below w.heap.size w (w1.alloc (.cells #[.slice none 0 0, .bool false, .pointer none] 30)) := B1.out.alloc B1.out.size _
    generalize w1.alloc (.cells #[.slice none 0 0, .bool false, .pointer none] 30) = w3 at O0 W0 ⊢
    have OH : Hid (OutG w3 w1.heap.size (some []) ∧ Below w.heap.size w w3 ∧ w.heap.size ≤ w1.heap.size) := Lib.hid ⟨O0, W0, B1.out.size⟩
    clear O0 W0 B1
    generalize w1.heap.size = go at *
    go_wp2_with fail
    go_loopw [4, 5, 6] (fun s4 s5 s6 wr => ∃ k : Nat, s6 = .int .i64 (k : Int) ∧ s5 = .bool (wnt Q X B k).2 ∧ Hid (k ≤ ln ∧ OutG wr go (stk Q X B k) ∧ (Own wr (go + 1) s4 (wnt Q X B k).1 ∧ (wnt Q X B k).1.length ≤ k * 2000000) ∧ Below w.heap.size w wr ∧ ∀ g, s4.ownBlock = some g → OutBuf wr go ≠ some g)) (fun _ _ s6 _ => ln - (intOf s6).toNat)
    case atStart => exact ⟨0, rfl, rfl, Lib.hid ⟨by omega, OH.out.1, ⟨Own.nil _ _, by simp [wnt]⟩, OH.out.2.1, fun g e => by cases e⟩⟩
    case round =>
      obtain ⟨k, rfl, rfl, RI⟩ := hrel
      obtain ⟨gk, hgk⟩ : ∃ z, (wnt Q X B k).2 = z := ⟨_, rfl⟩
      rw [hgk]
      have GK := Lib.hid hgk
      clear hgk
      by_cases hlt : k < ln
      · have HK := Lib.hid hlt
        obtain ⟨gp, op, AE, LL, pa, pn, pc, PA, PM⟩ := part_at HP.out k hlt
        have PW : Hid (PartAt wr gp (op + k * 3) (Q k) (X k) pa pn pc (B k)) := Lib.hid (PA.out.keep RI.out.2.2.2.1)
        have LK : Hid (k * 2000000 ≤ 80000000) := Lib.hid (by have := L40.out; omega)
        clear hlt
        go_upto_region 7 with (fail)
        refine wp_region_lit ?_
        refine wpL_pure (.int .i64 (k : Int)) rfl (by kernel_rfl) ?_
        simp only [Act.put, List.setIfInBounds_toArray, List.set_cons_zero, List.set_cons_succ]
        refine wpL_pure (.slice la ln lc) rfl (by kernel_rfl) ?_
        simp only [Act.put, List.setIfInBounds_toArray, List.set_cons_zero, List.set_cons_succ]
        refine wpL_pure (.int .i64 (ln : Int)) rfl (by kernel_rfl) ?_
        simp only [Act.put, List.setIfInBounds_toArray, List.set_cons_zero, List.set_cons_succ]
        refine wpL_pure (.bool true) rfl (run_lti Try.underlying3 rfl rfl rfl (by have := HK.out; rw [decide_eq_true_eq]; omega)) ?_
        simp only [Act.put, List.setIfInBounds_toArray, List.set_cons_zero, List.set_cons_succ]
        go_upto_region 9 with (fail)
        refine wp_region_lit ?_
        refine wpL_pure (.slice la ln lc) rfl (by kernel_rfl) ?_
        simp only [Act.put, List.setIfInBounds_toArray, List.set_cons_zero, List.set_cons_succ]
        refine wpL_pure (.int .i64 (k : Int)) rfl (by kernel_rfl) ?_
        simp only [Act.put, List.setIfInBounds_toArray, List.set_cons_zero, List.set_cons_succ]
        refine wpL_pure (.pointer (some ⟨gp, op + k * 3, none⟩)) rfl (run_idxp _ _ _ _ _ gp op ln lc k rfl (by rw [AE.out]; rfl) rfl HK.out LL.out) ?_
        simp only [Act.put, List.setIfInBounds_toArray, List.set_cons_zero, List.set_cons_succ]
        refine wpL_load 35 _ rfl rfl (gp) (op + k * 3) rfl [.int .u8 (Q k : Int), .int .u64 (X k : Int), .slice pa pn pc] _ (part_range PW.out) Try.underlying35 rfl (by kernel_rfl) ?_
        simp only [Act.put, List.setIfInBounds_toArray, List.set_cons_zero, List.set_cons_succ]
        refine wpL_call 10 #[.pointer (some ⟨go, 0, none⟩), .agg #[.int .u8 (Q k : Int), .int .u64 (X k : Int), .slice pa pn pc]] rfl (by kernel_rfl) (((lawput_genK wr go (stk Q X B k) (Q k) (X k) pa pn pc (B k) RI.out.2.1 (fun Y hY => (PA.out.2.2.2.2.2.1.keep (RI.out.2.2.2.1.trans (hY.mono OH.out.2.2)))) (by have := PM.out; omega) PA.out.2.2.2.1 PA.out.2.2.2.2.1)).mono fun e w4 ⟨he, q1, q2⟩ => ⟨.tuple #[], he, ?_⟩)
        simp only [Act.put, List.setIfInBounds_toArray, List.set_cons_zero, List.set_cons_succ]
        have OK4 := own_keep RI.out.2.2.1.1 q2 (Nat.le_refl _) RI.out.2.2.2.2
        have N4 : Hid (OutG w4 go (stk Q X B (k + 1)) ∧ Below w.heap.size w w4 ∧ Own w4 (go + 1) u4 (wnt Q X B k).1 ∧ ∀ g, u4.ownBlock = some g → OutBuf w4 go ≠ some g) := Lib.hid ⟨q1, RI.out.2.2.2.1.trans (q2.1.mono OH.out.2.2), OK4⟩
        clear q1 q2 OK4
        go_upto_region 10 with (fail)
        refine wp_region_lit ?_
        refine wpL_pure (.slice la ln lc) rfl (by kernel_rfl) ?_
        simp only [Act.put, List.setIfInBounds_toArray, List.set_cons_zero, List.set_cons_succ]
        refine wpL_pure (.int .i64 (k : Int)) rfl (by kernel_rfl) ?_
        simp only [Act.put, List.setIfInBounds_toArray, List.set_cons_zero, List.set_cons_succ]
        refine wpL_pure (.pointer (some ⟨gp, op + k * 3, none⟩)) rfl (run_idxp _ _ _ _ _ gp op ln lc k rfl (by rw [AE.out]; rfl) rfl HK.out LL.out) ?_
        simp only [Act.put, List.setIfInBounds_toArray, List.set_cons_zero, List.set_cons_succ]
        refine wpL_load 35 _ rfl rfl (gp) (op + k * 3) rfl [.int .u8 (Q k : Int), .int .u64 (X k : Int), .slice pa pn pc] _ (part_range (PA.out.keep N4.out.2.1)) Try.underlying35 rfl (by kernel_rfl) ?_
        simp only [Act.put, List.setIfInBounds_toArray, List.set_cons_zero, List.set_cons_succ]
        refine wpL_call 11 #[.agg #[.int .u8 (Q k : Int), .int .u64 (X k : Int), .slice pa pn pc]] rfl (by kernel_rfl) (((refbytes_any w4 (Q k) (X k) pa pn pc (B k) (PA.out.2.2.2.2.2.1.keep N4.out.2.1) (by have := PM.out; omega) PA.out.2.2.2.1 PA.out.2.2.2.2.1)).mono fun e w5 ⟨v, ok, he, ⟨a5, n5, c5, hv, hr5⟩, hok, hb⟩ => ⟨.tuple #[.slice a5 n5 c5, .bool ok], (by rw [hv] at he; exact he), ?_⟩)
        simp only [Act.put, List.setIfInBounds_toArray, List.set_cons_zero, List.set_cons_succ]
        have N5 : Hid (OutG w5 go (stk Q X B (k + 1)) ∧ Below w.heap.size w w5 ∧ Own w5 (go + 1) u4 (wnt Q X B k).1 ∧ (∀ g, u4.ownBlock = some g → OutBuf w5 go ≠ some g) ∧ Row w5 a5 n5 (refB (Q k) (X k) (B k))) := Lib.hid ⟨N4.out.1.below hb, N4.out.2.1.trans (hb.mono N4.out.2.1.size), N4.out.2.2.1.below hb, (by rw [outBuf_of (hb.block _ N4.out.1.lt)]; exact N4.out.2.2.2), hr5⟩
        have HOK := Lib.hid hok
        have L5 : Hid (n5 ≤ 1048586) := Lib.hid (by have h1 := refB_len (Q k) (X k) (B k) PA.out.2.2.2.2.1 (by have := PM.out; have := PA.out.2.2.2.2.2.1.1; omega); have := hr5.1; have := PM.out; have := PA.out.2.2.2.2.2.1.1; omega)
        clear hv hr5 hok hb N4
        refine wpL_pure (.tuple #[.slice a5 n5 c5, .bool ok]) rfl (by kernel_rfl) ?_
        simp only [Act.put, List.setIfInBounds_toArray, List.set_cons_zero, List.set_cons_succ]
        refine wpL_pure (.slice a5 n5 c5) rfl (by kernel_rfl) ?_
        simp only [Act.put, List.setIfInBounds_toArray, List.set_cons_zero, List.set_cons_succ]
        refine wpL_pure (.bool ok) rfl (by kernel_rfl) ?_
        simp only [Act.put, List.setIfInBounds_toArray, List.set_cons_zero, List.set_cons_succ]
        refine wpL_pure (.slice a5 n5 c5) rfl (by kernel_rfl) ?_
        simp only [Act.put, List.setIfInBounds_toArray, List.set_cons_zero, List.set_cons_succ]
        refine wpL_pure (.bool ok) rfl (by kernel_rfl) ?_
        simp only [Act.put, List.setIfInBounds_toArray, List.set_cons_zero, List.set_cons_succ]
        obtain ⟨v6, w6, r1, r2, r3, r4, r5⟩ := append_own w5 (go + 1) u4 (wnt Q X B k).1 (refB (Q k) (X k) (B k)) a5 n5 c5 N5.out.2.2.1 N5.out.2.2.2.2 (by have := RI.out.2.2.1.2; have := LK.out; have := L5.out; omega) N5.out.1.lt
        have OO := outG_grown N5.out.1 r3 (fun e => by have := (N5.out.2.2.1.lt go e.symm).1; omega) (fun g e => N5.out.2.2.2.1 g e)
        have AP := Lib.hid r1
        have N6 : Hid (OutG w6 go (stk Q X B (k + 1)) ∧ (Own w6 (go + 1) v6 (wnt Q X B (k + 1)).1 ∧ (wnt Q X B (k + 1)).1.length ≤ (k + 1) * 2000000) ∧ Below w.heap.size w w6 ∧ ∀ g, v6.ownBlock = some g → OutBuf w6 go ≠ some g) := Lib.hid ⟨OO.1, ⟨r2, by show ((wnt Q X B k).1 ++ refB (Q k) (X k) (B k)).length ≤ _; rw [List.length_append]; have := RI.out.2.2.1.2; have := L5.out; have := N5.out.2.2.2.2.1; omega⟩, N5.out.2.1.grown r3 N5.out.2.1.size (fun j e => by have := (N5.out.2.2.1.lt j e).1; have := OH.out.2.2; omega), fun g e => by rw [OO.2]; exact r4.elim (fun h => N5.out.2.2.2.1 g (h ▸ e)) (fun h e2 => by rw [h] at e; have := OutG.buf_lt N5.out.1 g e2; have := Option.some.inj e; omega)⟩
        clear r1 r2 r3 r4 r5 OO
        go_upto_region 11 with (fail)
        refine wp_region_lit ?_
        refine wpL_pure (u4) rfl (by kernel_rfl) ?_
        simp only [Act.put, List.setIfInBounds_toArray, List.set_cons_zero, List.set_cons_succ]
        refine wpL_pure (.slice a5 n5 c5) rfl (by kernel_rfl) ?_
        simp only [Act.put, List.setIfInBounds_toArray, List.set_cons_zero, List.set_cons_succ]
        refine wpL_value (v6) (w6) rfl (run_app _ _ _ _ _ _ _ _ _ rfl rfl rfl rfl AP.out) ?_
        simp only [Act.put, List.setIfInBounds_toArray, List.set_cons_zero, List.set_cons_succ]
        refine wpL_pure (v6) rfl (by kernel_rfl) ?_
        simp only [Act.put, List.setIfInBounds_toArray, List.set_cons_zero, List.set_cons_succ]
        cases gk
        · go_upto_region 12 with (fail)
          refine wp_region_lit ?_
          refine wpL_pure (.bool false) rfl (by kernel_rfl) ?_
          simp only [Act.put, List.setIfInBounds_toArray, List.set_cons_zero, List.set_cons_succ]
          refine wpL_pure (.bool false) rfl (by kernel_rfl) ?_
          simp only [Act.put, List.setIfInBounds_toArray, List.set_cons_zero, List.set_cons_succ]
          refine wpL_skip (by kernel_rfl) ?_
          simp only [Act.put, List.setIfInBounds_toArray, List.set_cons_zero, List.set_cons_succ]
          refine wpL_pure (.bool false) rfl (by kernel_rfl) ?_
          simp only [Act.put, List.setIfInBounds_toArray, List.set_cons_zero, List.set_cons_succ]
          refine wpL_pure (.bool false) rfl (by kernel_rfl) ?_
          simp only [Act.put, List.setIfInBounds_toArray, List.set_cons_zero, List.set_cons_succ]
          go_upto_region 8 with (fail)
          refine wp_region_lit ?_
          refine wpL_pure (.int .i64 (k : Int)) rfl (by kernel_rfl) ?_
          simp only [Act.put, List.setIfInBounds_toArray, List.set_cons_zero, List.set_cons_succ]
          refine wpL_pure (.int .i64 ((k + 1 : Nat) : Int)) rfl (run_addi Try.underlying3 rfl rfl rfl _ (by have := HK.out; have := L40.out; rw [wrap_in _ (by omega) (by omega)]; omega)) ?_
          simp only [Act.put, List.setIfInBounds_toArray, List.set_cons_zero, List.set_cons_succ]
          refine wpL_pure (.int .i64 ((k + 1 : Nat) : Int)) rfl (by kernel_rfl) ?_
          simp only [Act.put, List.setIfInBounds_toArray, List.set_cons_zero, List.set_cons_succ]
          have NX : Hid (k + 1 ≤ ln ∧ OutG w6 go (stk Q X B (k + 1)) ∧ (Own w6 (go + 1) v6 (wnt Q X B (k + 1)).1 ∧ (wnt Q X B (k + 1)).1.length ≤ (k + 1) * 2000000) ∧ Below w.heap.size w w6 ∧ ∀ g, v6.ownBlock = some g → OutBuf w6 go ≠ some g) := Lib.hid ⟨by have := HK.out; omega, N6.out⟩
          have EG : (.bool false : Value) = .bool (wnt Q X B (k + 1)).2 := by simp only [wnt, GK.out, HOK.out, Bool.false_and, Bool.true_and]
          unfold wpList
          go_roundw
          case rel => first | exact ⟨_, rfl, EG, NX⟩ | ((repeat apply Exists.intro); exact ⟨⟨_, rfl, EG, NX⟩, rfl⟩)
          case measure => simp [intOf]; have := HK.out; omega
        · go_upto_region 12 with (fail)
          refine wp_region_lit ?_
          refine wpL_pure (.bool true) rfl (by kernel_rfl) ?_
          simp only [Act.put, List.setIfInBounds_toArray, List.set_cons_zero, List.set_cons_succ]
          refine wpL_pure (.bool true) rfl (by kernel_rfl) ?_
          simp only [Act.put, List.setIfInBounds_toArray, List.set_cons_zero, List.set_cons_succ]
          refine wpL_pure (.bool ok) rfl (by kernel_rfl) ?_
          simp only [Act.put, List.setIfInBounds_toArray, List.set_cons_zero, List.set_cons_succ]
          refine wpL_pure (.bool ok) rfl (by kernel_rfl) ?_
          simp only [Act.put, List.setIfInBounds_toArray, List.set_cons_zero, List.set_cons_succ]
          refine wpL_pure (.bool ok) rfl (by kernel_rfl) ?_
          simp only [Act.put, List.setIfInBounds_toArray, List.set_cons_zero, List.set_cons_succ]
          go_upto_region 8 with (fail)
          refine wp_region_lit ?_
          refine wpL_pure (.int .i64 (k : Int)) rfl (by kernel_rfl) ?_
          simp only [Act.put, List.setIfInBounds_toArray, List.set_cons_zero, List.set_cons_succ]
          refine wpL_pure (.int .i64 ((k + 1 : Nat) : Int)) rfl (run_addi Try.underlying3 rfl rfl rfl _ (by have := HK.out; have := L40.out; rw [wrap_in _ (by omega) (by omega)]; omega)) ?_
          simp only [Act.put, List.setIfInBounds_toArray, List.set_cons_zero, List.set_cons_succ]
          refine wpL_pure (.int .i64 ((k + 1 : Nat) : Int)) rfl (by kernel_rfl) ?_
          simp only [Act.put, List.setIfInBounds_toArray, List.set_cons_zero, List.set_cons_succ]
          have NX : Hid (k + 1 ≤ ln ∧ OutG w6 go (stk Q X B (k + 1)) ∧ (Own w6 (go + 1) v6 (wnt Q X B (k + 1)).1 ∧ (wnt Q X B (k + 1)).1.length ≤ (k + 1) * 2000000) ∧ Below w.heap.size w w6 ∧ ∀ g, v6.ownBlock = some g → OutBuf w6 go ≠ some g) := Lib.hid ⟨by have := HK.out; omega, N6.out⟩
          have EG : (.bool ok : Value) = .bool (wnt Q X B (k + 1)).2 := by simp only [wnt, GK.out, HOK.out, Bool.false_and, Bool.true_and]
          unfold wpList
          go_roundw
          case rel => first | exact ⟨_, rfl, EG, NX⟩ | ((repeat apply Exists.intro); exact ⟨⟨_, rfl, EG, NX⟩, rfl⟩)
          case measure => simp [intOf]; have := HK.out; omega
      · have HK := Lib.hid hlt
        have EK : Hid (k = ln) := Lib.hid (by have := RI.out.1; omega)
        clear hlt
        obtain ⟨a4, c4, ev⟩ := RI.out.2.2.1.1.slice
        obtain ⟨l4, hl4⟩ : ∃ z, (wnt Q X B k).1.length = z := ⟨_, rfl⟩
        have L4 := Lib.hid hl4
        rw [hl4] at ev
        subst ev
        clear hl4
        go_upto_region 7 with (fail)
        refine wp_region_lit ?_
        refine wpL_pure (.int .i64 (k : Int)) rfl (by kernel_rfl) ?_
        simp only [Act.put, List.setIfInBounds_toArray, List.set_cons_zero, List.set_cons_succ]
        refine wpL_pure (.slice la ln lc) rfl (by kernel_rfl) ?_
        simp only [Act.put, List.setIfInBounds_toArray, List.set_cons_zero, List.set_cons_succ]
        refine wpL_pure (.int .i64 (ln : Int)) rfl (by kernel_rfl) ?_
        simp only [Act.put, List.setIfInBounds_toArray, List.set_cons_zero, List.set_cons_succ]
        refine wpL_pure (.bool false) rfl (run_lti Try.underlying3 rfl rfl rfl (by have := HK.out; rw [decide_eq_false_iff_not]; omega)) ?_
        simp only [Act.put, List.setIfInBounds_toArray, List.set_cons_zero, List.set_cons_succ]
        have RO : Hid (OutG wr go (stk Q X B k)) := Lib.hid RI.out.2.1
        have RW : Hid (Row wr a4 l4 (wnt Q X B k).1) := Lib.hid (by rw [← L4.out]; have h := RI.out.2.2.1.1; rw [← L4.out] at h; exact h.row.1)
        have BW := Lib.hid RI.out.2.2.2.1
        have SC : Hid (stk Q X B k = condW (wnt Q X B k)) := Lib.hid (stk_wnt Q X B k)
        clear RI
        obtain ⟨st, hst⟩ : ∃ z, stk Q X B k = z := ⟨_, rfl⟩
        rw [hst] at RO SC
        clear hst
        cases st with
        | none =>
          go_upto_region 13 with (fail)
          refine wp_region_lit ?_
          refine wpL_call 12 #[.pointer (some ⟨go, 0, none⟩)] rfl (by kernel_rfl) (((end_long wr go RO.out)).mono fun e w4 ⟨he, hw⟩ => ⟨.tuple #[.slice none 0 0, .int .i64 3], he, ?_⟩)
          simp only [Act.put, List.setIfInBounds_toArray, List.set_cons_zero, List.set_cons_succ]
          subst hw
          refine wpL_pure (.tuple #[.slice none 0 0, .int .i64 3]) rfl (by kernel_rfl) ?_
          simp only [Act.put, List.setIfInBounds_toArray, List.set_cons_zero, List.set_cons_succ]
          refine wpL_pure (.slice none 0 0) rfl (by kernel_rfl) ?_
          simp only [Act.put, List.setIfInBounds_toArray, List.set_cons_zero, List.set_cons_succ]
          refine wpL_pure (.int .i64 3) rfl (by kernel_rfl) ?_
          simp only [Act.put, List.setIfInBounds_toArray, List.set_cons_zero, List.set_cons_succ]
          refine wpL_pure (.slice none 0 0) rfl (by kernel_rfl) ?_
          simp only [Act.put, List.setIfInBounds_toArray, List.set_cons_zero, List.set_cons_succ]
          refine wpL_pure (.int .i64 3) rfl (by kernel_rfl) ?_
          simp only [Act.put, List.setIfInBounds_toArray, List.set_cons_zero, List.set_cons_succ]
          cases gk
          · go_upto_region 14 with (fail)
            refine wp_region_lit ?_
            refine wpL_pure (.bool false) rfl (by kernel_rfl) ?_
            simp only [Act.put, List.setIfInBounds_toArray, List.set_cons_zero, List.set_cons_succ]
            refine wpL_pure (.bool true) rfl (by kernel_rfl) ?_
            simp only [Act.put, List.setIfInBounds_toArray, List.set_cons_zero, List.set_cons_succ]
            refine wpL_pure (.bool true) rfl (by kernel_rfl) ?_
            simp only [Act.put, List.setIfInBounds_toArray, List.set_cons_zero, List.set_cons_succ]
            refine wpL_skip (by kernel_rfl) ?_
            simp only [Act.put, List.setIfInBounds_toArray, List.set_cons_zero, List.set_cons_succ]
            refine wpL_skip (by kernel_rfl) ?_
            simp only [Act.put, List.setIfInBounds_toArray, List.set_cons_zero, List.set_cons_succ]
            refine wpL_skip (by kernel_rfl) ?_
            simp only [Act.put, List.setIfInBounds_toArray, List.set_cons_zero, List.set_cons_succ]
            refine wpL_pure (.bool true) rfl (by kernel_rfl) ?_
            simp only [Act.put, List.setIfInBounds_toArray, List.set_cons_zero, List.set_cons_succ]
            go_upto_region 15 with (fail)
            refine wp_region_lit ?_
            refine wpL_pure (.int .i64 3) rfl (by kernel_rfl) ?_
            simp only [Act.put, List.setIfInBounds_toArray, List.set_cons_zero, List.set_cons_succ]
            refine wpL_pure (.bool true) rfl (by kernel_rfl) ?_
            simp only [Act.put, List.setIfInBounds_toArray, List.set_cons_zero, List.set_cons_succ]
            refine wpL_pure (.bool true) rfl (by kernel_rfl) ?_
            simp only [Act.put, List.setIfInBounds_toArray, List.set_cons_zero, List.set_cons_succ]
            refine wpL_pure (.slice none 0 0) rfl (by kernel_rfl) ?_
            simp only [Act.put, List.setIfInBounds_toArray, List.set_cons_zero, List.set_cons_succ]
            refine wpL_pure (.int .i64 (0 : Int)) rfl (by kernel_rfl) ?_
            simp only [Act.put, List.setIfInBounds_toArray, List.set_cons_zero, List.set_cons_succ]
            refine wpL_pure (.bool true) rfl (by kernel_rfl) ?_
            simp only [Act.put, List.setIfInBounds_toArray, List.set_cons_zero, List.set_cons_succ]
            refine wpL_pure (.bool true) rfl (by kernel_rfl) ?_
            simp only [Act.put, List.setIfInBounds_toArray, List.set_cons_zero, List.set_cons_succ]
            refine wpL_pure (.bool true) rfl (by kernel_rfl) ?_
            simp only [Act.put, List.setIfInBounds_toArray, List.set_cons_zero, List.set_cons_succ]
            go_wp2_with fail
            go_ret
            exact ⟨rfl, BW.out⟩
          · go_upto_region 14 with (fail)
            refine wp_region_lit ?_
            refine wpL_pure (.bool true) rfl (by kernel_rfl) ?_
            simp only [Act.put, List.setIfInBounds_toArray, List.set_cons_zero, List.set_cons_succ]
            refine wpL_pure (.bool false) rfl (by kernel_rfl) ?_
            simp only [Act.put, List.setIfInBounds_toArray, List.set_cons_zero, List.set_cons_succ]
            refine wpL_pure (.bool false) rfl (by kernel_rfl) ?_
            simp only [Act.put, List.setIfInBounds_toArray, List.set_cons_zero, List.set_cons_succ]
            refine wpL_pure (.slice a4 l4 c4) rfl (by kernel_rfl) ?_
            simp only [Act.put, List.setIfInBounds_toArray, List.set_cons_zero, List.set_cons_succ]
            refine wpL_pure (.int .i64 (l4 : Int)) rfl (by kernel_rfl) ?_
            simp only [Act.put, List.setIfInBounds_toArray, List.set_cons_zero, List.set_cons_succ]
            refine wpL_pure (.bool true) rfl (run_gti Try.underlying3 rfl rfl rfl (by have h1 := condW_none SC.out GK.out; have h2 := L4.out; rw [decide_eq_true_eq]; omega)) ?_
            simp only [Act.put, List.setIfInBounds_toArray, List.set_cons_zero, List.set_cons_succ]
            refine wpL_pure (.bool true) rfl (by kernel_rfl) ?_
            simp only [Act.put, List.setIfInBounds_toArray, List.set_cons_zero, List.set_cons_succ]
            go_upto_region 15 with (fail)
            refine wp_region_lit ?_
            refine wpL_pure (.int .i64 3) rfl (by kernel_rfl) ?_
            simp only [Act.put, List.setIfInBounds_toArray, List.set_cons_zero, List.set_cons_succ]
            refine wpL_pure (.bool true) rfl (by kernel_rfl) ?_
            simp only [Act.put, List.setIfInBounds_toArray, List.set_cons_zero, List.set_cons_succ]
            refine wpL_pure (.bool true) rfl (by kernel_rfl) ?_
            simp only [Act.put, List.setIfInBounds_toArray, List.set_cons_zero, List.set_cons_succ]
            refine wpL_pure (.slice none 0 0) rfl (by kernel_rfl) ?_
            simp only [Act.put, List.setIfInBounds_toArray, List.set_cons_zero, List.set_cons_succ]
            refine wpL_pure (.int .i64 (0 : Int)) rfl (by kernel_rfl) ?_
            simp only [Act.put, List.setIfInBounds_toArray, List.set_cons_zero, List.set_cons_succ]
            refine wpL_pure (.bool true) rfl (by kernel_rfl) ?_
            simp only [Act.put, List.setIfInBounds_toArray, List.set_cons_zero, List.set_cons_succ]
            refine wpL_pure (.bool true) rfl (by kernel_rfl) ?_
            simp only [Act.put, List.setIfInBounds_toArray, List.set_cons_zero, List.set_cons_succ]
            refine wpL_pure (.bool true) rfl (by kernel_rfl) ?_
            simp only [Act.put, List.setIfInBounds_toArray, List.set_cons_zero, List.set_cons_succ]
            go_wp2_with fail
            go_ret
            exact ⟨rfl, BW.out⟩
        | some xs =>
          have SX := condW_some SC.out
          have GT : gk = true := GK.out.symm.trans SX.1
          subst GT
          have XE : Hid (xs = (wnt Q X B k).1 ∧ xs.length ≤ 16384) := Lib.hid SX.2
          clear SX SC
          have ROa := RO
          go_upto_region 13 with (fail)
          refine wp_region_lit ?_
          refine wpL_call 12 #[.pointer (some ⟨go, 0, none⟩)] rfl (by kernel_rfl) (((end_any wr go xs ROa.out.1 XE.out.2)).mono fun e w4 ⟨v, he, q1, q2⟩ => ⟨.tuple #[v, .int .i64 0], he, ?_⟩)
          simp only [Act.put, List.setIfInBounds_toArray, List.set_cons_zero, List.set_cons_succ]
          obtain ⟨ea, fa, ev⟩ := q1.slice
          subst ev
          have Ba : Hid (Below w.heap.size w w4 ∧ Row w4 ea xs.length xs ∧ Row w4 a4 l4 (wnt Q X B k).1) := Lib.hid ⟨BW.out.trans (q2.mono BW.out.size), q1.row.1, RW.out.keep q2⟩
          have ROb : Hid (OutG w4 go (some xs)) := Lib.hid (RO.out.below q2)
          clear q1 q2 RO ROa BW RW
          refine wpL_pure (.tuple #[.slice ea xs.length fa, .int .i64 0]) rfl (by kernel_rfl) ?_
          simp only [Act.put, List.setIfInBounds_toArray, List.set_cons_zero, List.set_cons_succ]
          refine wpL_pure (.slice ea xs.length fa) rfl (by kernel_rfl) ?_
          simp only [Act.put, List.setIfInBounds_toArray, List.set_cons_zero, List.set_cons_succ]
          refine wpL_pure (.int .i64 0) rfl (by kernel_rfl) ?_
          simp only [Act.put, List.setIfInBounds_toArray, List.set_cons_zero, List.set_cons_succ]
          refine wpL_pure (.slice ea xs.length fa) rfl (by kernel_rfl) ?_
          simp only [Act.put, List.setIfInBounds_toArray, List.set_cons_zero, List.set_cons_succ]
          refine wpL_pure (.int .i64 0) rfl (by kernel_rfl) ?_
          simp only [Act.put, List.setIfInBounds_toArray, List.set_cons_zero, List.set_cons_succ]
          go_upto_region 14 with (fail)
          refine wp_region_lit ?_
          refine wpL_pure (.bool true) rfl (by kernel_rfl) ?_
          simp only [Act.put, List.setIfInBounds_toArray, List.set_cons_zero, List.set_cons_succ]
          refine wpL_pure (.bool false) rfl (by kernel_rfl) ?_
          simp only [Act.put, List.setIfInBounds_toArray, List.set_cons_zero, List.set_cons_succ]
          refine wpL_pure (.bool false) rfl (by kernel_rfl) ?_
          simp only [Act.put, List.setIfInBounds_toArray, List.set_cons_zero, List.set_cons_succ]
          refine wpL_pure (.slice a4 l4 c4) rfl (by kernel_rfl) ?_
          simp only [Act.put, List.setIfInBounds_toArray, List.set_cons_zero, List.set_cons_succ]
          refine wpL_pure (.int .i64 (l4 : Int)) rfl (by kernel_rfl) ?_
          simp only [Act.put, List.setIfInBounds_toArray, List.set_cons_zero, List.set_cons_succ]
          refine wpL_pure (.bool false) rfl (run_gti Try.underlying3 rfl rfl rfl (by have h1 := XE.out; have h2 := L4.out; rw [← h1.1] at h2; rw [decide_eq_false_iff_not]; omega)) ?_
          simp only [Act.put, List.setIfInBounds_toArray, List.set_cons_zero, List.set_cons_succ]
          refine wpL_pure (.bool false) rfl (by kernel_rfl) ?_
          simp only [Act.put, List.setIfInBounds_toArray, List.set_cons_zero, List.set_cons_succ]
          go_upto_region 16 with (fail)
          refine wp_region_lit ?_
          refine wpL_call 12 #[.pointer (some ⟨go, 0, none⟩)] rfl (by kernel_rfl) (((end_any w4 go xs ROb.out.1 XE.out.2)).mono fun e w5 ⟨v, he, q1, q2⟩ => ⟨.tuple #[v, .int .i64 0], he, ?_⟩)
          simp only [Act.put, List.setIfInBounds_toArray, List.set_cons_zero, List.set_cons_succ]
          obtain ⟨eb, fb, ev⟩ := q1.slice
          subst ev
          have Bb : Hid (Below w.heap.size w w5 ∧ Row w5 ea xs.length xs ∧ Row w5 a4 l4 xs ∧ Row w5 eb xs.length xs) := Lib.hid ⟨Ba.out.1.trans (q2.mono Ba.out.1.size), Ba.out.2.1.keep q2, (by rw [XE.out.1]; exact Ba.out.2.2.keep q2), q1.row.1⟩
          clear q1 q2 ROb Ba
          refine wpL_pure (.tuple #[.slice eb xs.length fb, .int .i64 0]) rfl (by kernel_rfl) ?_
          simp only [Act.put, List.setIfInBounds_toArray, List.set_cons_zero, List.set_cons_succ]
          refine wpL_pure (.slice eb xs.length fb) rfl (by kernel_rfl) ?_
          simp only [Act.put, List.setIfInBounds_toArray, List.set_cons_zero, List.set_cons_succ]
          refine wpL_pure (.int .i64 0) rfl (by kernel_rfl) ?_
          simp only [Act.put, List.setIfInBounds_toArray, List.set_cons_zero, List.set_cons_succ]
          refine wpL_pure (.slice eb xs.length fb) rfl (by kernel_rfl) ?_
          simp only [Act.put, List.setIfInBounds_toArray, List.set_cons_zero, List.set_cons_succ]
          refine wpL_pure (.int .i64 0) rfl (by kernel_rfl) ?_
          simp only [Act.put, List.setIfInBounds_toArray, List.set_cons_zero, List.set_cons_succ]
          go_upto_region 17 with (fail)
          refine wp_region_lit ?_
          refine wpL_pure (.int .i64 0) rfl (by kernel_rfl) ?_
          simp only [Act.put, List.setIfInBounds_toArray, List.set_cons_zero, List.set_cons_succ]
          refine wpL_pure (.bool true) rfl (by kernel_rfl) ?_
          simp only [Act.put, List.setIfInBounds_toArray, List.set_cons_zero, List.set_cons_succ]
          refine wpL_pure (.bool true) rfl (by kernel_rfl) ?_
          simp only [Act.put, List.setIfInBounds_toArray, List.set_cons_zero, List.set_cons_succ]
          refine wpL_pure (.int .i64 0) rfl (by kernel_rfl) ?_
          simp only [Act.put, List.setIfInBounds_toArray, List.set_cons_zero, List.set_cons_succ]
          refine wpL_pure (.bool true) rfl (by kernel_rfl) ?_
          simp only [Act.put, List.setIfInBounds_toArray, List.set_cons_zero, List.set_cons_succ]
          refine wpL_pure (.bool true) rfl (by kernel_rfl) ?_
          simp only [Act.put, List.setIfInBounds_toArray, List.set_cons_zero, List.set_cons_succ]
          refine wpL_pure (.bool true) rfl (by kernel_rfl) ?_
          simp only [Act.put, List.setIfInBounds_toArray, List.set_cons_zero, List.set_cons_succ]
          refine wpL_pure (.slice ea xs.length fa) rfl (by kernel_rfl) ?_
          simp only [Act.put, List.setIfInBounds_toArray, List.set_cons_zero, List.set_cons_succ]
          refine wpL_pure (.string (strOfNums xs)) rfl (run_conv_str _ _ _ _ ea xs.length fa _ rfl rfl Bb.out.2.1) ?_
          simp only [Act.put, List.setIfInBounds_toArray, List.set_cons_zero, List.set_cons_succ]
          refine wpL_pure (.slice a4 l4 c4) rfl (by kernel_rfl) ?_
          simp only [Act.put, List.setIfInBounds_toArray, List.set_cons_zero, List.set_cons_succ]
          refine wpL_pure (.string (strOfNums xs)) rfl (run_conv_str _ _ _ _ a4 l4 c4 _ rfl rfl Bb.out.2.2.1) ?_
          simp only [Act.put, List.setIfInBounds_toArray, List.set_cons_zero, List.set_cons_succ]
          refine wpL_pure (.bool true) rfl (run_str_eql _ _ _ _ _ xs xs true rfl rfl rfl (by simp) Bb.out.2.1.2.2.1 Bb.out.2.1.2.2.1) ?_
          simp only [Act.put, List.setIfInBounds_toArray, List.set_cons_zero, List.set_cons_succ]
          refine wpL_pure (.bool true) rfl (by kernel_rfl) ?_
          simp only [Act.put, List.setIfInBounds_toArray, List.set_cons_zero, List.set_cons_succ]
          refine wpL_pure (.bool true) rfl (by kernel_rfl) ?_
          simp only [Act.put, List.setIfInBounds_toArray, List.set_cons_zero, List.set_cons_succ]
          refine wpL_pure (.slice eb xs.length fb) rfl (by kernel_rfl) ?_
          simp only [Act.put, List.setIfInBounds_toArray, List.set_cons_zero, List.set_cons_succ]
          refine wpL_pure (.string (strOfNums xs)) rfl (run_conv_str _ _ _ _ eb xs.length fb _ rfl rfl Bb.out.2.2.2) ?_
          simp only [Act.put, List.setIfInBounds_toArray, List.set_cons_zero, List.set_cons_succ]
          refine wpL_pure (.slice a4 l4 c4) rfl (by kernel_rfl) ?_
          simp only [Act.put, List.setIfInBounds_toArray, List.set_cons_zero, List.set_cons_succ]
          refine wpL_pure (.string (strOfNums xs)) rfl (run_conv_str _ _ _ _ a4 l4 c4 _ rfl rfl Bb.out.2.2.1) ?_
          simp only [Act.put, List.setIfInBounds_toArray, List.set_cons_zero, List.set_cons_succ]
          refine wpL_pure (.bool true) rfl (run_str_eql _ _ _ _ _ xs xs true rfl rfl rfl (by simp) Bb.out.2.1.2.2.1 Bb.out.2.1.2.2.1) ?_
          simp only [Act.put, List.setIfInBounds_toArray, List.set_cons_zero, List.set_cons_succ]
          refine wpL_pure (.bool true) rfl (by kernel_rfl) ?_
          simp only [Act.put, List.setIfInBounds_toArray, List.set_cons_zero, List.set_cons_succ]
          refine wpL_pure (.bool true) rfl (by kernel_rfl) ?_
          simp only [Act.put, List.setIfInBounds_toArray, List.set_cons_zero, List.set_cons_succ]
          go_wp2_with fail
          go_ret
          exact ⟨rfl, Bb.out.1⟩
end Go.Proofs.Yteblaknbehfkgaa
