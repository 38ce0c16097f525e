import Derived.Test.YteblaknbehfkgaaK13e
namespace Go.Proofs.Yteblaknbehfkgaa
open Go Go.RowKit

theorem run_idxp (a : Act) (o : Oper) (w : World) (x i : Operand) (g off n c k : Nat) (ho : o.op = .indexAddr 22 x i) (hx : a.eval x = .slice (some ⟨g, off, none⟩) n c) (hi : a.eval i = .int .i64 (k : Int)) (hk : k < n) (hn : n ≤ maxLen) : (execOp a.eval o).run Try.prog w = .ok (.value (.pointer (some ⟨g, off + k * 3, none⟩))) w := by
  unfold maxLen at hn
  have j0 : (0 : Int) ≤ (k : Int) := by omega
  have j6 : (k : Int) < (n : Int) := by omega
  unfold execOp
  simp only [ho, hx, hi]
  go_simp
theorem run_str_same (a : Act) (o : Oper) (w : World) (x y : Operand) (s : ByteArray) (ho : o.op = .binOp .neq 9 x y 9) (hx : a.eval x = .string s) (hy : a.eval y = .string s) : (execOp a.eval o).run Try.prog w = .ok (.value (.bool false)) w := by
  unfold execOp
  simp only [ho, hx, hy]
  go_simp
theorem part_range {w : World} {g o q X : Nat} {a : Option Addr} {n c : Nat} {bs : List Int} (h : PartAt w g o q X a n c bs) : w.rangeAt g o [.int .u8 (q : Int), .int .u64 (X : Int), .slice a n c] := by
  intro j v hj
  match j, hj with
  | 0, hj => simp at hj; subst hj; exact h.1
  | 1, hj => simp at hj; subst hj; exact h.2.1
  | 2, hj => simp at hj; subst hj; exact h.2.2.1
  | j + 3, hj => simp at hj
theorem got_siz {q X : Nat} {xs : List Int} {x s : Nat} {t : List Int} (h : gotO q X xs = some (x, t, s)) : s ≤ xs.length := by
  unfold gotO at h
  split at h
  · unfold numT at h
    rcases numO_cases xs rfl with e | ⟨x', s', e, h1, h2, h3⟩
    · rw [e] at h; cases h
    · rw [e] at h
      simp only [] at h
      split at h
      · cases h; exact h2
      · cases h
  · split at h
    · unfold textO at h
      rcases numO_cases xs rfl with e | ⟨x', s', e, h1, h2, h3⟩
      · rw [e] at h; cases h
      · rw [e] at h
        simp only [] at h
        split at h
        · rename_i hh; cases h; omega
        · cases h
    · split at h
      · unfold rawO at h
        split at h
        · rename_i hh; cases h; omega
        · cases h
      · unfold flagO at h
        split at h
        · rename_i hh; cases h; omega
        · cases h
theorem GotP.of_some {w w' : World} {e : Ending} {x s : Nat} {t : List Int} (h : GotP w (some (x, t, s)) e w') : ∃ a2 n2 c2, e = .returned (.tuple #[.int .u64 (x : Int), .slice a2 n2 c2, .int .i64 (s : Int)]) ∧ Row w' a2 n2 t ∧ Below w.heap.size w w' := by
  obtain ⟨a2, n2, c2, he, q1, q2⟩ := h
  exact ⟨a2, n2, c2, by rw [he]; simp [numR, sizR], q1, q2⟩
theorem GotP.of_none {w w' : World} {e : Ending} (h : GotP w none e w') : ∃ a2 n2 c2, e = .returned (.tuple #[.int .u64 0, .slice a2 n2 c2, .int .i64 (-1)]) ∧ Row w' a2 n2 [] ∧ Below w.heap.size w w' := by
  obtain ⟨a2, n2, c2, he, q1, q2⟩ := h
  exact ⟨a2, n2, c2, by rw [he]; simp [numR], q1, q2⟩
/-- a round of the law. -/
def TInv (w : World) (g : Nat) (bad : Bool) (r : Option Addr) (m e : Nat) (ys : List Int) (wr : World) : Prop :=
  Row w r m ys ∧ m ≤ e ∧ e < 9223372036854775808 ∧ (0 < e → ∀ p, r = some p → p.spot = none) ∧ m ≤ 2000 ∧ InSt wr g ys bad ∧ Below w.heap.size w wr
theorem TInv.next {w : World} {g : Nat} {bad b2 : Bool} {r : Option Addr} {m e : Nat} {ys : List Int} {wr wb : World} (h : TInv w g bad r m e ys wr) (s : Nat) (hs : s ≤ m) (hI : InSt wb g (ys.drop s) b2) (hb : Below w.heap.size w wb) : TInv w g b2 (dropA r e s) (m - s) (e - s) (ys.drop s) wb := by
  obtain ⟨h1, h2, h3, h4, h5, _, _⟩ := h
  refine ⟨?_, by omega, by omega, fun h0 p hp => ?_, by omega, hI, hb⟩
  · rcases Nat.eq_zero_or_pos (m - s) with h0 | h0
    · rw [h0, show ys.drop s = [] from List.drop_of_length_le (by have := h1.1; omega)]
      exact Row.nil _ _
    · have q := row_mid h1 (h4 (by omega)) s (m - s) (by omega) h2
      rw [List.take_of_length_le (by rw [List.length_drop, h1.1]; omega)] at q
      exact q
  · cases r with
    | none => simp [dropA] at hp
    | some p' =>
      have := h4 (by omega) p' rfl
      simp [dropA] at hp
      subst hp
      exact this
attribute [local irreducible] wpList
set_option maxHeartbeats 8000000 in
theorem walkPackTakes (a : Option Addr) (n c : Nat) (zs : List Int) (la : Option Addr) (ln lc : Nat) (w : World) (h0 : IsRow .u8 w a n c zs) (hp : Parts w la ln lc) :
    Calls Try.prog 4 #[.slice a n c, .slice la ln lc] w fun e w' => e = .returned (.bool true) ∧ Below w.heap.size w w' := by
  have m1 := row_more h0
  have hr := row_of h0
  generalize zs.take n = xs at hr
  have HR := Lib.hid hr
  have HM := Lib.hid m1
  have HP := Lib.hid hp
  clear h0 hr m1 hp
  by_cases i1 : 2000 < n
  · have HT1 := Lib.hid i1
    clear i1
    go_enter Try.func4, Try.ntmps4
    go_upto_region 1 with (fail)
    refine wp_region_lit ?_
    refine wpL_call 8 #[] rfl (by kernel_rfl) ((awake_any w).mono fun e w1 ⟨he, hb⟩ => ⟨.bool true, he, ?_⟩)
    simp only [Act.put, List.setIfInBounds_toArray, List.set_cons_zero, List.set_cons_succ]
    have B1 := Lib.hid hb
    clear hb
    refine wpL_pure (.bool false) rfl (by kernel_rfl) ?_
    simp only [Act.put, List.setIfInBounds_toArray, List.set_cons_zero, List.set_cons_succ]
    refine wpL_pure (.bool false) rfl (by kernel_rfl) ?_
    simp only [Act.put, List.setIfInBounds_toArray, List.set_cons_zero, List.set_cons_succ]
    refine wpL_pure (.slice a n c) rfl (by kernel_rfl) ?_
    simp only [Act.put, List.setIfInBounds_toArray, List.set_cons_zero, List.set_cons_succ]
    refine wpL_pure (.int .i64 (n : Int)) rfl (by kernel_rfl) ?_
    simp only [Act.put, List.setIfInBounds_toArray, List.set_cons_zero, List.set_cons_succ]
    refine wpL_pure (.bool true) rfl (run_gti Try.underlying3 rfl rfl rfl (by have := HT1.out; rw [decide_eq_true_eq]; omega)) ?_
    simp only [Act.put, List.setIfInBounds_toArray, List.set_cons_zero, List.set_cons_succ]
    refine wpL_pure (.bool true) rfl (by kernel_rfl) ?_
    simp only [Act.put, List.setIfInBounds_toArray, List.set_cons_zero, List.set_cons_succ]
    refine wpL_pure (.bool true) rfl (by kernel_rfl) ?_
    simp only [Act.put, List.setIfInBounds_toArray, List.set_cons_zero, List.set_cons_succ]
    refine wpL_skip (by kernel_rfl) ?_
    simp only [Act.put, List.setIfInBounds_toArray, List.set_cons_zero, List.set_cons_succ]
    refine wpL_skip (by kernel_rfl) ?_
    simp only [Act.put, List.setIfInBounds_toArray, List.set_cons_zero, List.set_cons_succ]
    refine wpL_skip (by kernel_rfl) ?_
    simp only [Act.put, List.setIfInBounds_toArray, List.set_cons_zero, List.set_cons_succ]
    refine wpL_pure (.bool true) rfl (by kernel_rfl) ?_
    simp only [Act.put, List.setIfInBounds_toArray, List.set_cons_zero, List.set_cons_succ]
    go_upto_region 2 with (fail)
    refine wp_region_lit ?_
    refine wpL_call 8 #[] rfl (by kernel_rfl) ((awake_any w1).mono fun e w2 ⟨he, hb⟩ => ⟨.bool true, he, ?_⟩)
    simp only [Act.put, List.setIfInBounds_toArray, List.set_cons_zero, List.set_cons_succ]
    have B2 := Lib.hid (B1.out.trans (hb.mono B1.out.size))
    clear hb
    refine wpL_pure (.bool true) rfl (by kernel_rfl) ?_
    simp only [Act.put, List.setIfInBounds_toArray, List.set_cons_zero, List.set_cons_succ]
    go_wp2_with fail
    go_ret
    exact ⟨rfl, B2.out⟩
  · have HT1 := Lib.hid i1
    clear i1
    by_cases i2 : 40 < ln
    · have HT2 := Lib.hid i2
      clear i2
      go_enter Try.func4, Try.ntmps4
      go_upto_region 1 with (fail)
      refine wp_region_lit ?_
      refine wpL_call 8 #[] rfl (by kernel_rfl) ((awake_any w).mono fun e w1 ⟨he, hb⟩ => ⟨.bool true, he, ?_⟩)
      simp only [Act.put, List.setIfInBounds_toArray, List.set_cons_zero, List.set_cons_succ]
      have B1 := Lib.hid hb
      clear hb
      refine wpL_pure (.bool false) rfl (by kernel_rfl) ?_
      simp only [Act.put, List.setIfInBounds_toArray, List.set_cons_zero, List.set_cons_succ]
      refine wpL_pure (.bool false) rfl (by kernel_rfl) ?_
      simp only [Act.put, List.setIfInBounds_toArray, List.set_cons_zero, List.set_cons_succ]
      refine wpL_pure (.slice a n c) rfl (by kernel_rfl) ?_
      simp only [Act.put, List.setIfInBounds_toArray, List.set_cons_zero, List.set_cons_succ]
      refine wpL_pure (.int .i64 (n : Int)) rfl (by kernel_rfl) ?_
      simp only [Act.put, List.setIfInBounds_toArray, List.set_cons_zero, List.set_cons_succ]
      refine wpL_pure (.bool false) rfl (run_gti Try.underlying3 rfl rfl rfl (by have := HT1.out; rw [decide_eq_false_iff_not]; omega)) ?_
      simp only [Act.put, List.setIfInBounds_toArray, List.set_cons_zero, List.set_cons_succ]
      refine wpL_pure (.bool false) rfl (by kernel_rfl) ?_
      simp only [Act.put, List.setIfInBounds_toArray, List.set_cons_zero, List.set_cons_succ]
      refine wpL_pure (.bool false) rfl (by kernel_rfl) ?_
      simp only [Act.put, List.setIfInBounds_toArray, List.set_cons_zero, List.set_cons_succ]
      refine wpL_pure (.slice la ln lc) rfl (by kernel_rfl) ?_
      simp only [Act.put, List.setIfInBounds_toArray, List.set_cons_zero, List.set_cons_succ]
      refine wpL_pure (.int .i64 (ln : Int)) rfl (by kernel_rfl) ?_
      simp only [Act.put, List.setIfInBounds_toArray, List.set_cons_zero, List.set_cons_succ]
      refine wpL_pure (.bool true) rfl (run_gti Try.underlying3 rfl rfl rfl (by have := HT2.out; rw [decide_eq_true_eq]; omega)) ?_
      simp only [Act.put, List.setIfInBounds_toArray, List.set_cons_zero, List.set_cons_succ]
      refine wpL_pure (.bool true) rfl (by kernel_rfl) ?_
      simp only [Act.put, List.setIfInBounds_toArray, List.set_cons_zero, List.set_cons_succ]
      go_upto_region 2 with (fail)
      refine wp_region_lit ?_
      refine wpL_call 8 #[] rfl (by kernel_rfl) ((awake_any w1).mono fun e w2 ⟨he, hb⟩ => ⟨.bool true, he, ?_⟩)
      simp only [Act.put, List.setIfInBounds_toArray, List.set_cons_zero, List.set_cons_succ]
      have B2 := Lib.hid (B1.out.trans (hb.mono B1.out.size))
      clear hb
      refine wpL_pure (.bool true) rfl (by kernel_rfl) ?_
      simp only [Act.put, List.setIfInBounds_toArray, List.set_cons_zero, List.set_cons_succ]
      go_wp2_with fail
      go_ret
      exact ⟨rfl, B2.out⟩
    · have HT2 := Lib.hid i2
      clear i2
      go_enter Try.func4, Try.ntmps4
      go_upto_region 1 with (fail)
      refine wp_region_lit ?_
      refine wpL_call 8 #[] rfl (by kernel_rfl) ((awake_any w).mono fun e w1 ⟨he, hb⟩ => ⟨.bool true, he, ?_⟩)
      simp only [Act.put, List.setIfInBounds_toArray, List.set_cons_zero, List.set_cons_succ]
      have B1 := Lib.hid hb
      clear hb
      refine wpL_pure (.bool false) rfl (by kernel_rfl) ?_
      simp only [Act.put, List.setIfInBounds_toArray, List.set_cons_zero, List.set_cons_succ]
      refine wpL_pure (.bool false) rfl (by kernel_rfl) ?_
      simp only [Act.put, List.setIfInBounds_toArray, List.set_cons_zero, List.set_cons_succ]
      refine wpL_pure (.slice a n c) rfl (by kernel_rfl) ?_
      simp only [Act.put, List.setIfInBounds_toArray, List.set_cons_zero, List.set_cons_succ]
      refine wpL_pure (.int .i64 (n : Int)) rfl (by kernel_rfl) ?_
      simp only [Act.put, List.setIfInBounds_toArray, List.set_cons_zero, List.set_cons_succ]
      refine wpL_pure (.bool false) rfl (run_gti Try.underlying3 rfl rfl rfl (by have := HT1.out; rw [decide_eq_false_iff_not]; omega)) ?_
      simp only [Act.put, List.setIfInBounds_toArray, List.set_cons_zero, List.set_cons_succ]
      refine wpL_pure (.bool false) rfl (by kernel_rfl) ?_
      simp only [Act.put, List.setIfInBounds_toArray, List.set_cons_zero, List.set_cons_succ]
      refine wpL_pure (.bool false) rfl (by kernel_rfl) ?_
      simp only [Act.put, List.setIfInBounds_toArray, List.set_cons_zero, List.set_cons_succ]
      refine wpL_pure (.slice la ln lc) rfl (by kernel_rfl) ?_
      simp only [Act.put, List.setIfInBounds_toArray, List.set_cons_zero, List.set_cons_succ]
      refine wpL_pure (.int .i64 (ln : Int)) rfl (by kernel_rfl) ?_
      simp only [Act.put, List.setIfInBounds_toArray, List.set_cons_zero, List.set_cons_succ]
      refine wpL_pure (.bool false) rfl (run_gti Try.underlying3 rfl rfl rfl (by have := HT2.out; rw [decide_eq_false_iff_not]; omega)) ?_
      simp only [Act.put, List.setIfInBounds_toArray, List.set_cons_zero, List.set_cons_succ]
      refine wpL_pure (.bool false) rfl (by kernel_rfl) ?_
      simp only [Act.put, List.setIfInBounds_toArray, List.set_cons_zero, List.set_cons_succ]
      go_upto_region 3 with (fail)
      refine wp_region_lit ?_
      refine wpL_pure (.slice a n c) rfl (by kernel_rfl) ?_
      simp only [Act.put, List.setIfInBounds_toArray, List.set_cons_zero, List.set_cons_succ]
      refine wpL_call 13 #[.slice a n c] rfl (by kernel_rfl) (((read_any w1 a n c xs (HR.out.keep B1.out) (by have := HT1.out; omega) HM.out.2.1)).mono fun e w2 ⟨g, he, hg, hI, hb⟩ => ⟨.pointer (some ⟨g, 0, none⟩), he, ?_⟩)
      simp only [Act.put, List.setIfInBounds_toArray, List.set_cons_zero, List.set_cons_succ]
      have B2 : Hid (InSt w2 g xs false ∧ Below w.heap.size w w2 ∧ w.heap.size ≤ g) := Lib.hid ⟨hI, B1.out.trans (hb.mono B1.out.size), Nat.le_trans B1.out.size hg⟩
      clear hg hI hb B1
      refine wpL_pure (.pointer (some ⟨g, 0, none⟩)) rfl (by kernel_rfl) ?_
      simp only [Act.put, List.setIfInBounds_toArray, List.set_cons_zero, List.set_cons_succ]
      go_upto_region 4 with (fail)
      refine wp_region_lit ?_
      refine wpL_pure (.slice a n c) rfl (by kernel_rfl) ?_
      simp only [Act.put, List.setIfInBounds_toArray, List.set_cons_zero, List.set_cons_succ]
      refine wpL_pure (.slice a n c) rfl (by kernel_rfl) ?_
      simp only [Act.put, List.setIfInBounds_toArray, List.set_cons_zero, List.set_cons_succ]
      refine wpL_pure (.bool false) rfl (by kernel_rfl) ?_
      simp only [Act.put, List.setIfInBounds_toArray, List.set_cons_zero, List.set_cons_succ]
      go_wp2_with fail
      go_loopw [6, 7, 8] (fun s6 s7 s8 wr => ∃ (k : Nat) (bad : Bool) (r : Option Addr) (m ec : Nat) (ys : List Int), s6 = .slice r m ec ∧ s7 = .bool bad ∧ s8 = .int .i64 (k : Int) ∧ Hid (k ≤ ln ∧ TInv w g bad r m ec ys wr)) (fun _ _ s8 _ => ln - (intOf s8).toNat)
      case atStart => exact ⟨0, false, a, n, c, xs, rfl, rfl, rfl, Lib.hid ⟨by omega, HR.out, HM.out.1, HM.out.2.2.1, HM.out.2.2.2, by have := HT1.out; omega, B2.out.1, B2.out.2.1⟩⟩
      case round =>
        obtain ⟨k, bad, r, m, ec, ys, rfl, rfl, rfl, RI⟩ := hrel
        have IV := Lib.hid RI.out.2
        have GW := Lib.hid B2.out.2.2
        by_cases hlt : k < ln
        · have HK := Lib.hid hlt
          obtain ⟨gp, op, ea, hl1, hl2, hparts⟩ : ∃ g o, la = some ⟨g, o, none⟩ ∧ ln ≤ lc ∧ lc ≤ maxLen ∧ ∀ k, k < ln → ∃ q X a' n c bs, PartAt w g (o + k * 3) q X a' n c bs := by
            rcases HP.out with h | h
            · omega
            · exact h
          obtain ⟨q, X, pa, pn, pc, bs, hpa⟩ := hparts k hlt
          have AE := Lib.hid ea
          have LL : Hid (ln ≤ maxLen) := Lib.hid (Nat.le_trans hl1 hl2)
          have PA0 := Lib.hid hpa
          have PA := Lib.hid (hpa.keep IV.out.2.2.2.2.2.2)
          have TK := Lib.hid (take_any _ g q X pa pn pc ys bad IV.out.2.2.2.2.2.1 (by have h1 := IV.out.1.1; have h2 := IV.out.2.2.2.2.1; omega) hpa.2.2.2.1 hpa.2.2.2.2.1)
          have GT := Lib.hid (fun (wa : World) (hb : Below w.heap.size w wa) => got_any wa q X pa pn pc r m ec ys (IV.out.1.keep hb) IV.out.2.1 ⟨IV.out.2.2.1, IV.out.2.2.2.1⟩ hpa.2.2.2.1 hpa.2.2.2.2.1)
          clear ea hl1 hl2 hparts hpa hlt RI B2
          obtain ⟨res, hres⟩ : ∃ z, gotO (q % 4) X ys = z := ⟨_, rfl⟩
          have HG := Lib.hid hres
          rw [hres] at TK GT
          clear hres
          cases bad <;> cases res
          rotate_left 2
          · skip
            go_upto_region 6 with (fail)
            refine wp_region_lit ?_
            refine wpL_pure (.int .i64 (k : Int)) rfl (by kernel_rfl) ?_
            simp only [Act.put, List.setIfInBounds_toArray, List.set_cons_zero, List.set_cons_succ]
            refine wpL_pure (.slice la ln lc) rfl (by kernel_rfl) ?_
            simp only [Act.put, List.setIfInBounds_toArray, List.set_cons_zero, List.set_cons_succ]
            refine wpL_pure (.int .i64 (ln : Int)) rfl (by kernel_rfl) ?_
            simp only [Act.put, List.setIfInBounds_toArray, List.set_cons_zero, List.set_cons_succ]
            refine wpL_pure (.bool true) rfl (run_lti Try.underlying3 rfl rfl rfl (by have := HK.out; rw [decide_eq_true_eq]; omega)) ?_
            simp only [Act.put, List.setIfInBounds_toArray, List.set_cons_zero, List.set_cons_succ]
            go_upto_region 8 with (fail)
            refine wp_region_lit ?_
            refine wpL_pure (.pointer (some ⟨g, 0, none⟩)) rfl (by kernel_rfl) ?_
            simp only [Act.put, List.setIfInBounds_toArray, List.set_cons_zero, List.set_cons_succ]
            refine wpL_pure (.slice la ln lc) rfl (by kernel_rfl) ?_
            simp only [Act.put, List.setIfInBounds_toArray, List.set_cons_zero, List.set_cons_succ]
            refine wpL_pure (.int .i64 (k : Int)) rfl (by kernel_rfl) ?_
            simp only [Act.put, List.setIfInBounds_toArray, List.set_cons_zero, List.set_cons_succ]
            refine wpL_pure (.pointer (some ⟨gp, op + k * 3, none⟩)) rfl (run_idxp _ _ _ _ _ gp op ln lc k rfl (by rw [AE.out]; rfl) rfl HK.out LL.out) ?_
            simp only [Act.put, List.setIfInBounds_toArray, List.set_cons_zero, List.set_cons_succ]
            refine wpL_load 35 _ rfl rfl gp (op + k * 3) rfl [.int .u8 (q : Int), .int .u64 (X : Int), .slice pa pn pc] _ (part_range PA.out) Try.underlying35 rfl (by kernel_rfl) ?_
            simp only [Act.put, List.setIfInBounds_toArray, List.set_cons_zero, List.set_cons_succ]
            refine wpL_call 14 #[.pointer (some ⟨g, 0, none⟩), .agg #[.int .u8 (q : Int), .int .u64 (X : Int), .slice pa pn pc]] rfl (by kernel_rfl) ((TK.out).mono fun e wa ⟨v, he, q1, q2, q3⟩ => ⟨.tuple #[.int .u64 0, v], he, ?_⟩)
            simp only [Act.put, List.setIfInBounds_toArray, List.set_cons_zero, List.set_cons_succ]
            obtain ⟨av, cv, ev⟩ := q1.slice
            have ev' : v = .slice av 0 cv := ev
            subst ev'
            clear ev
            have A1 : Hid (Row wa av 0 [] ∧ InSt wa g (ys.drop 0) true ∧ Below w.heap.size w wa) := Lib.hid ⟨q1.row.1, q2, IV.out.2.2.2.2.2.2.trans (gb_below q3 GW.out IV.out.2.2.2.2.2.2.size)⟩
            clear q1 q2 q3 TK
            refine wpL_pure (.tuple #[.int .u64 0, .slice av 0 cv]) rfl (by kernel_rfl) ?_
            simp only [Act.put, List.setIfInBounds_toArray, List.set_cons_zero, List.set_cons_succ]
            refine wpL_pure (.int .u64 0) rfl (by kernel_rfl) ?_
            simp only [Act.put, List.setIfInBounds_toArray, List.set_cons_zero, List.set_cons_succ]
            refine wpL_pure (.slice av 0 cv) rfl (by kernel_rfl) ?_
            simp only [Act.put, List.setIfInBounds_toArray, List.set_cons_zero, List.set_cons_succ]
            refine wpL_pure (.int .u64 0) rfl (by kernel_rfl) ?_
            simp only [Act.put, List.setIfInBounds_toArray, List.set_cons_zero, List.set_cons_succ]
            refine wpL_pure (.slice av 0 cv) rfl (by kernel_rfl) ?_
            simp only [Act.put, List.setIfInBounds_toArray, List.set_cons_zero, List.set_cons_succ]
            go_upto_region 9 with (fail)
            refine wp_region_lit ?_
            refine wpL_pure (.slice r m ec) rfl (by kernel_rfl) ?_
            simp only [Act.put, List.setIfInBounds_toArray, List.set_cons_zero, List.set_cons_succ]
            refine wpL_pure (.slice la ln lc) rfl (by kernel_rfl) ?_
            simp only [Act.put, List.setIfInBounds_toArray, List.set_cons_zero, List.set_cons_succ]
            refine wpL_pure (.int .i64 (k : Int)) rfl (by kernel_rfl) ?_
            simp only [Act.put, List.setIfInBounds_toArray, List.set_cons_zero, List.set_cons_succ]
            refine wpL_pure (.pointer (some ⟨gp, op + k * 3, none⟩)) rfl (run_idxp _ _ _ _ _ gp op ln lc k rfl (by rw [AE.out]; rfl) rfl HK.out LL.out) ?_
            simp only [Act.put, List.setIfInBounds_toArray, List.set_cons_zero, List.set_cons_succ]
            refine wpL_load 35 _ rfl rfl gp (op + k * 3) rfl [.int .u8 (q : Int), .int .u64 (X : Int), .slice pa pn pc] _ (part_range (PA0.out.keep A1.out.2.2)) Try.underlying35 rfl (by kernel_rfl) ?_
            simp only [Act.put, List.setIfInBounds_toArray, List.set_cons_zero, List.set_cons_succ]
            refine wpL_call 15 #[.slice r m ec, .agg #[.int .u8 (q : Int), .int .u64 (X : Int), .slice pa pn pc]] rfl (by kernel_rfl) ((((GT.out wa A1.out.2.2).mono fun e w' h => GotP.of_none h)).mono fun e wb ⟨ua, un, uc, he, q1, q2⟩ => ⟨.tuple #[.int .u64 0, .slice ua un uc, .int .i64 (-1)], he, ?_⟩)
            simp only [Act.put, List.setIfInBounds_toArray, List.set_cons_zero, List.set_cons_succ]
            have A2 : Hid (Row wb av 0 [] ∧ InSt wb g (ys.drop 0) true ∧ Below w.heap.size w wb ∧ Row wb ua un []) := Lib.hid ⟨A1.out.1.keep q2, A1.out.2.1.below q2, A1.out.2.2.trans (q2.mono A1.out.2.2.size), q1⟩
            clear q1 q2 A1 GT
            refine wpL_pure (.tuple #[.int .u64 0, .slice ua un uc, .int .i64 (-1)]) rfl (by kernel_rfl) ?_
            simp only [Act.put, List.setIfInBounds_toArray, List.set_cons_zero, List.set_cons_succ]
            refine wpL_pure (.int .u64 0) rfl (by kernel_rfl) ?_
            simp only [Act.put, List.setIfInBounds_toArray, List.set_cons_zero, List.set_cons_succ]
            refine wpL_pure (.slice ua un uc) rfl (by kernel_rfl) ?_
            simp only [Act.put, List.setIfInBounds_toArray, List.set_cons_zero, List.set_cons_succ]
            refine wpL_pure (.int .i64 (-1)) rfl (by kernel_rfl) ?_
            simp only [Act.put, List.setIfInBounds_toArray, List.set_cons_zero, List.set_cons_succ]
            refine wpL_pure (.int .u64 0) rfl (by kernel_rfl) ?_
            simp only [Act.put, List.setIfInBounds_toArray, List.set_cons_zero, List.set_cons_succ]
            refine wpL_pure (.slice ua un uc) rfl (by kernel_rfl) ?_
            simp only [Act.put, List.setIfInBounds_toArray, List.set_cons_zero, List.set_cons_succ]
            refine wpL_pure (.int .i64 (-1)) rfl (by kernel_rfl) ?_
            simp only [Act.put, List.setIfInBounds_toArray, List.set_cons_zero, List.set_cons_succ]
            go_upto_region 10 with (fail)
            refine wp_region_lit ?_
            refine wpL_pure (.bool true) rfl (by kernel_rfl) ?_
            simp only [Act.put, List.setIfInBounds_toArray, List.set_cons_zero, List.set_cons_succ]
            refine wpL_pure (.bool true) rfl (by kernel_rfl) ?_
            simp only [Act.put, List.setIfInBounds_toArray, List.set_cons_zero, List.set_cons_succ]
            refine wpL_skip (by kernel_rfl) ?_
            simp only [Act.put, List.setIfInBounds_toArray, List.set_cons_zero, List.set_cons_succ]
            refine wpL_skip (by kernel_rfl) ?_
            simp only [Act.put, List.setIfInBounds_toArray, List.set_cons_zero, List.set_cons_succ]
            refine wpL_pure (.bool true) rfl (by kernel_rfl) ?_
            simp only [Act.put, List.setIfInBounds_toArray, List.set_cons_zero, List.set_cons_succ]
            go_upto_region 11 with (fail)
            refine wp_region_lit ?_
            refine wpL_pure (.bool true) rfl (by kernel_rfl) ?_
            simp only [Act.put, List.setIfInBounds_toArray, List.set_cons_zero, List.set_cons_succ]
            go_upto_region 12 with (fail)
            refine wp_region_lit ?_
            refine wpL_pure (.int .u64 0) rfl (by kernel_rfl) ?_
            simp only [Act.put, List.setIfInBounds_toArray, List.set_cons_zero, List.set_cons_succ]
            go_upto_region 13 with (fail)
            refine wp_region_lit ?_
            refine wpL_pure (.slice none 0 0) rfl (by kernel_rfl) ?_
            simp only [Act.put, List.setIfInBounds_toArray, List.set_cons_zero, List.set_cons_succ]
            go_upto_region 14 with (fail)
            refine wp_region_lit ?_
            refine wpL_pure (.int .i64 0) rfl (by kernel_rfl) ?_
            simp only [Act.put, List.setIfInBounds_toArray, List.set_cons_zero, List.set_cons_succ]
            go_upto_region 15 with (fail)
            refine wp_region_lit ?_
            refine wpL_pure (.slice r m ec) rfl (by kernel_rfl) ?_
            simp only [Act.put, List.setIfInBounds_toArray, List.set_cons_zero, List.set_cons_succ]
            refine wpL_pure (.int .i64 0) rfl (by kernel_rfl) ?_
            simp only [Act.put, List.setIfInBounds_toArray, List.set_cons_zero, List.set_cons_succ]
            refine wpL_pure (.slice (dropA r ec 0) (m - 0) (ec - 0)) rfl (run_slicep' _ _ _ _ _ r m ec 0 _ rfl rfl rfl (Nat.zero_le _) IV.out.2.1 ⟨IV.out.2.2.1, IV.out.2.2.2.1⟩ rfl) ?_
            simp only [Act.put, List.setIfInBounds_toArray, List.set_cons_zero, List.set_cons_succ]
            refine wpL_pure (.slice (dropA r ec 0) (m - 0) (ec - 0)) rfl (by kernel_rfl) ?_
            simp only [Act.put, List.setIfInBounds_toArray, List.set_cons_zero, List.set_cons_succ]
            go_upto_region 16 with (fail)
            refine wp_region_lit ?_
            refine wpL_pure (.int .u64 0) rfl (by kernel_rfl) ?_
            simp only [Act.put, List.setIfInBounds_toArray, List.set_cons_zero, List.set_cons_succ]
            refine wpL_pure (.int .u64 0) rfl (by kernel_rfl) ?_
            simp only [Act.put, List.setIfInBounds_toArray, List.set_cons_zero, List.set_cons_succ]
            refine wpL_pure (.bool false) rfl (run_nei Try.underlying33 rfl rfl rfl (by simp)) ?_
            simp only [Act.put, List.setIfInBounds_toArray, List.set_cons_zero, List.set_cons_succ]
            refine wpL_pure (.bool false) rfl (by kernel_rfl) ?_
            simp only [Act.put, List.setIfInBounds_toArray, List.set_cons_zero, List.set_cons_succ]
            refine wpL_pure (.slice av 0 cv) rfl (by kernel_rfl) ?_
            simp only [Act.put, List.setIfInBounds_toArray, List.set_cons_zero, List.set_cons_succ]
            refine wpL_pure (.string (strOfNums [])) rfl (run_conv_str _ _ _ _ av 0 cv _ rfl rfl A2.out.1) ?_
            simp only [Act.put, List.setIfInBounds_toArray, List.set_cons_zero, List.set_cons_succ]
            refine wpL_pure (.slice none 0 0) rfl (by kernel_rfl) ?_
            simp only [Act.put, List.setIfInBounds_toArray, List.set_cons_zero, List.set_cons_succ]
            refine wpL_pure (.string (strOfNums [])) rfl (run_conv_str _ _ _ _ none 0 0 _ rfl rfl (Row.nil _ _)) ?_
            simp only [Act.put, List.setIfInBounds_toArray, List.set_cons_zero, List.set_cons_succ]
            refine wpL_pure (.bool false) rfl (run_str_same _ _ _ _ _ _ rfl rfl rfl) ?_
            simp only [Act.put, List.setIfInBounds_toArray, List.set_cons_zero, List.set_cons_succ]
            refine wpL_pure (.bool false) rfl (by kernel_rfl) ?_
            simp only [Act.put, List.setIfInBounds_toArray, List.set_cons_zero, List.set_cons_succ]
            refine wpL_pure (.bool false) rfl (by kernel_rfl) ?_
            simp only [Act.put, List.setIfInBounds_toArray, List.set_cons_zero, List.set_cons_succ]
            refine wpL_pure (.pointer (some ⟨g, 0, none⟩)) rfl (by kernel_rfl) ?_
            simp only [Act.put, List.setIfInBounds_toArray, List.set_cons_zero, List.set_cons_succ]
            refine wpL_call 16 #[.pointer (some ⟨g, 0, none⟩)] rfl (by kernel_rfl) (((bad_any wb g _ _ A2.out.2.1)).mono fun e wc ⟨he, hw⟩ => ⟨.bool true, he, ?_⟩)
            simp only [Act.put, List.setIfInBounds_toArray, List.set_cons_zero, List.set_cons_succ]
            subst hw
            refine wpL_pure (.bool true) rfl (by kernel_rfl) ?_
            simp only [Act.put, List.setIfInBounds_toArray, List.set_cons_zero, List.set_cons_succ]
            refine wpL_pure (.bool false) rfl (by kernel_rfl) ?_
            simp only [Act.put, List.setIfInBounds_toArray, List.set_cons_zero, List.set_cons_succ]
            refine wpL_pure (.bool false) rfl (by kernel_rfl) ?_
            simp only [Act.put, List.setIfInBounds_toArray, List.set_cons_zero, List.set_cons_succ]
            refine wpL_pure (.bool false) rfl (by kernel_rfl) ?_
            simp only [Act.put, List.setIfInBounds_toArray, List.set_cons_zero, List.set_cons_succ]
            refine wpL_pure (.pointer (some ⟨g, 0, none⟩)) rfl (by kernel_rfl) ?_
            simp only [Act.put, List.setIfInBounds_toArray, List.set_cons_zero, List.set_cons_succ]
            refine wpL_call 17 #[.pointer (some ⟨g, 0, none⟩)] rfl (by kernel_rfl) (((left_any wb g _ _ A2.out.2.1)).mono fun e wc ⟨he, hw⟩ => ⟨.int .i64 ((ys.drop 0).length : Int), he, ?_⟩)
            simp only [Act.put, List.setIfInBounds_toArray, List.set_cons_zero, List.set_cons_succ]
            subst hw
            refine wpL_pure (.slice (dropA r ec 0) (m - 0) (ec - 0)) rfl (by kernel_rfl) ?_
            simp only [Act.put, List.setIfInBounds_toArray, List.set_cons_zero, List.set_cons_succ]
            refine wpL_pure (.int .i64 ((m - 0 : Nat) : Int)) rfl (by kernel_rfl) ?_
            simp only [Act.put, List.setIfInBounds_toArray, List.set_cons_zero, List.set_cons_succ]
            refine wpL_pure (.bool false) rfl (run_nei Try.underlying3 rfl rfl rfl (by rw [List.length_drop, IV.out.1.1]; simp)) ?_
            simp only [Act.put, List.setIfInBounds_toArray, List.set_cons_zero, List.set_cons_succ]
            refine wpL_pure (.bool false) rfl (by kernel_rfl) ?_
            simp only [Act.put, List.setIfInBounds_toArray, List.set_cons_zero, List.set_cons_succ]
            refine wpL_pure (.bool false) rfl (by kernel_rfl) ?_
            simp only [Act.put, List.setIfInBounds_toArray, List.set_cons_zero, List.set_cons_succ]
            refine wpL_pure (.pointer (some ⟨g, 0, none⟩)) rfl (by kernel_rfl) ?_
            simp only [Act.put, List.setIfInBounds_toArray, List.set_cons_zero, List.set_cons_succ]
            refine wpL_call 18 #[.pointer (some ⟨g, 0, none⟩)] rfl (by kernel_rfl) (((over_any wb g _ _ A2.out.2.1)).mono fun e wc ⟨he, hw⟩ => ⟨.bool false, (he.trans (by simp)), ?_⟩)
            simp only [Act.put, List.setIfInBounds_toArray, List.set_cons_zero, List.set_cons_succ]
            subst hw
            refine wpL_pure (.bool true) rfl (by kernel_rfl) ?_
            simp only [Act.put, List.setIfInBounds_toArray, List.set_cons_zero, List.set_cons_succ]
            refine wpL_pure (.bool false) rfl (by kernel_rfl) ?_
            simp only [Act.put, List.setIfInBounds_toArray, List.set_cons_zero, List.set_cons_succ]
            refine wpL_pure (.bool false) rfl (by kernel_rfl) ?_
            simp only [Act.put, List.setIfInBounds_toArray, List.set_cons_zero, List.set_cons_succ]
            refine wpL_skip (by kernel_rfl) ?_
            simp only [Act.put, List.setIfInBounds_toArray, List.set_cons_zero, List.set_cons_succ]
            refine wpL_skip (by kernel_rfl) ?_
            simp only [Act.put, List.setIfInBounds_toArray, List.set_cons_zero, List.set_cons_succ]
            refine wpL_skip (by kernel_rfl) ?_
            simp only [Act.put, List.setIfInBounds_toArray, List.set_cons_zero, List.set_cons_succ]
            refine wpL_pure (.bool false) rfl (by kernel_rfl) ?_
            simp only [Act.put, List.setIfInBounds_toArray, List.set_cons_zero, List.set_cons_succ]
            refine wpL_pure (.bool false) rfl (by kernel_rfl) ?_
            simp only [Act.put, List.setIfInBounds_toArray, List.set_cons_zero, List.set_cons_succ]
            refine wpL_pure (.bool false) rfl (by kernel_rfl) ?_
            simp only [Act.put, List.setIfInBounds_toArray, List.set_cons_zero, List.set_cons_succ]
            go_upto_region 7 with (fail)
            refine wp_region_lit ?_
            refine wpL_pure (.int .i64 (k : Int)) rfl (by kernel_rfl) ?_
            simp only [Act.put, List.setIfInBounds_toArray, List.set_cons_zero, List.set_cons_succ]
            refine wpL_pure (.int .i64 ((k + 1 : Nat) : Int)) rfl (run_addi Try.underlying3 rfl rfl rfl _ (by have := HK.out; have := HT2.out; rw [wrap_in _ (by omega) (by omega)]; omega)) ?_
            simp only [Act.put, List.setIfInBounds_toArray, List.set_cons_zero, List.set_cons_succ]
            refine wpL_pure (.int .i64 ((k + 1 : Nat) : Int)) rfl (by kernel_rfl) ?_
            simp only [Act.put, List.setIfInBounds_toArray, List.set_cons_zero, List.set_cons_succ]
            have NX : Hid (k + 1 ≤ ln ∧ TInv w g true (dropA r ec 0) (m - 0) (ec - 0) (ys.drop 0) wb) := Lib.hid ⟨by have := HK.out; omega, IV.out.next 0 (Nat.zero_le _) A2.out.2.1 A2.out.2.2.1⟩
            unfold wpList
            go_roundw
            case rel => first | exact ⟨_, _, _, _, _, _, rfl, rfl, rfl, NX⟩ | ((repeat apply Exists.intro); exact ⟨⟨_, _, _, _, _, _, rfl, rfl, rfl, NX⟩, rfl⟩)
            case measure => simp [intOf]; have := HK.out; omega
          · rename_i res
            obtain ⟨x, t, s⟩ := res
            go_upto_region 6 with (fail)
            refine wp_region_lit ?_
            refine wpL_pure (.int .i64 (k : Int)) rfl (by kernel_rfl) ?_
            simp only [Act.put, List.setIfInBounds_toArray, List.set_cons_zero, List.set_cons_succ]
            refine wpL_pure (.slice la ln lc) rfl (by kernel_rfl) ?_
            simp only [Act.put, List.setIfInBounds_toArray, List.set_cons_zero, List.set_cons_succ]
            refine wpL_pure (.int .i64 (ln : Int)) rfl (by kernel_rfl) ?_
            simp only [Act.put, List.setIfInBounds_toArray, List.set_cons_zero, List.set_cons_succ]
            refine wpL_pure (.bool true) rfl (run_lti Try.underlying3 rfl rfl rfl (by have := HK.out; rw [decide_eq_true_eq]; omega)) ?_
            simp only [Act.put, List.setIfInBounds_toArray, List.set_cons_zero, List.set_cons_succ]
            go_upto_region 8 with (fail)
            refine wp_region_lit ?_
            refine wpL_pure (.pointer (some ⟨g, 0, none⟩)) rfl (by kernel_rfl) ?_
            simp only [Act.put, List.setIfInBounds_toArray, List.set_cons_zero, List.set_cons_succ]
            refine wpL_pure (.slice la ln lc) rfl (by kernel_rfl) ?_
            simp only [Act.put, List.setIfInBounds_toArray, List.set_cons_zero, List.set_cons_succ]
            refine wpL_pure (.int .i64 (k : Int)) rfl (by kernel_rfl) ?_
            simp only [Act.put, List.setIfInBounds_toArray, List.set_cons_zero, List.set_cons_succ]
            refine wpL_pure (.pointer (some ⟨gp, op + k * 3, none⟩)) rfl (run_idxp _ _ _ _ _ gp op ln lc k rfl (by rw [AE.out]; rfl) rfl HK.out LL.out) ?_
            simp only [Act.put, List.setIfInBounds_toArray, List.set_cons_zero, List.set_cons_succ]
            refine wpL_load 35 _ rfl rfl gp (op + k * 3) rfl [.int .u8 (q : Int), .int .u64 (X : Int), .slice pa pn pc] _ (part_range PA.out) Try.underlying35 rfl (by kernel_rfl) ?_
            simp only [Act.put, List.setIfInBounds_toArray, List.set_cons_zero, List.set_cons_succ]
            refine wpL_call 14 #[.pointer (some ⟨g, 0, none⟩), .agg #[.int .u8 (q : Int), .int .u64 (X : Int), .slice pa pn pc]] rfl (by kernel_rfl) ((TK.out).mono fun e wa ⟨v, he, q1, q2, q3⟩ => ⟨.tuple #[.int .u64 0, v], he, ?_⟩)
            simp only [Act.put, List.setIfInBounds_toArray, List.set_cons_zero, List.set_cons_succ]
            obtain ⟨av, cv, ev⟩ := q1.slice
            have ev' : v = .slice av 0 cv := ev
            subst ev'
            clear ev
            have A1 : Hid (Row wa av 0 [] ∧ InSt wa g (ys.drop 0) true ∧ Below w.heap.size w wa) := Lib.hid ⟨q1.row.1, q2, IV.out.2.2.2.2.2.2.trans (gb_below q3 GW.out IV.out.2.2.2.2.2.2.size)⟩
            clear q1 q2 q3 TK
            refine wpL_pure (.tuple #[.int .u64 0, .slice av 0 cv]) rfl (by kernel_rfl) ?_
            simp only [Act.put, List.setIfInBounds_toArray, List.set_cons_zero, List.set_cons_succ]
            refine wpL_pure (.int .u64 0) rfl (by kernel_rfl) ?_
            simp only [Act.put, List.setIfInBounds_toArray, List.set_cons_zero, List.set_cons_succ]
            refine wpL_pure (.slice av 0 cv) rfl (by kernel_rfl) ?_
            simp only [Act.put, List.setIfInBounds_toArray, List.set_cons_zero, List.set_cons_succ]
            refine wpL_pure (.int .u64 0) rfl (by kernel_rfl) ?_
            simp only [Act.put, List.setIfInBounds_toArray, List.set_cons_zero, List.set_cons_succ]
            refine wpL_pure (.slice av 0 cv) rfl (by kernel_rfl) ?_
            simp only [Act.put, List.setIfInBounds_toArray, List.set_cons_zero, List.set_cons_succ]
            go_upto_region 9 with (fail)
            refine wp_region_lit ?_
            refine wpL_pure (.slice r m ec) rfl (by kernel_rfl) ?_
            simp only [Act.put, List.setIfInBounds_toArray, List.set_cons_zero, List.set_cons_succ]
            refine wpL_pure (.slice la ln lc) rfl (by kernel_rfl) ?_
            simp only [Act.put, List.setIfInBounds_toArray, List.set_cons_zero, List.set_cons_succ]
            refine wpL_pure (.int .i64 (k : Int)) rfl (by kernel_rfl) ?_
            simp only [Act.put, List.setIfInBounds_toArray, List.set_cons_zero, List.set_cons_succ]
            refine wpL_pure (.pointer (some ⟨gp, op + k * 3, none⟩)) rfl (run_idxp _ _ _ _ _ gp op ln lc k rfl (by rw [AE.out]; rfl) rfl HK.out LL.out) ?_
            simp only [Act.put, List.setIfInBounds_toArray, List.set_cons_zero, List.set_cons_succ]
            refine wpL_load 35 _ rfl rfl gp (op + k * 3) rfl [.int .u8 (q : Int), .int .u64 (X : Int), .slice pa pn pc] _ (part_range (PA0.out.keep A1.out.2.2)) Try.underlying35 rfl (by kernel_rfl) ?_
            simp only [Act.put, List.setIfInBounds_toArray, List.set_cons_zero, List.set_cons_succ]
            refine wpL_call 15 #[.slice r m ec, .agg #[.int .u8 (q : Int), .int .u64 (X : Int), .slice pa pn pc]] rfl (by kernel_rfl) ((((GT.out wa A1.out.2.2).mono fun e w' h => GotP.of_some h)).mono fun e wb ⟨ua, un, uc, he, q1, q2⟩ => ⟨.tuple #[.int .u64 (x : Int), .slice ua un uc, .int .i64 (s : Int)], he, ?_⟩)
            simp only [Act.put, List.setIfInBounds_toArray, List.set_cons_zero, List.set_cons_succ]
            have A2 : Hid (Row wb av 0 [] ∧ InSt wb g (ys.drop 0) true ∧ Below w.heap.size w wb ∧ Row wb ua un t) := Lib.hid ⟨A1.out.1.keep q2, A1.out.2.1.below q2, A1.out.2.2.trans (q2.mono A1.out.2.2.size), q1⟩
            clear q1 q2 A1 GT
            refine wpL_pure (.tuple #[.int .u64 (x : Int), .slice ua un uc, .int .i64 (s : Int)]) rfl (by kernel_rfl) ?_
            simp only [Act.put, List.setIfInBounds_toArray, List.set_cons_zero, List.set_cons_succ]
            refine wpL_pure (.int .u64 (x : Int)) rfl (by kernel_rfl) ?_
            simp only [Act.put, List.setIfInBounds_toArray, List.set_cons_zero, List.set_cons_succ]
            refine wpL_pure (.slice ua un uc) rfl (by kernel_rfl) ?_
            simp only [Act.put, List.setIfInBounds_toArray, List.set_cons_zero, List.set_cons_succ]
            refine wpL_pure (.int .i64 (s : Int)) rfl (by kernel_rfl) ?_
            simp only [Act.put, List.setIfInBounds_toArray, List.set_cons_zero, List.set_cons_succ]
            refine wpL_pure (.int .u64 (x : Int)) rfl (by kernel_rfl) ?_
            simp only [Act.put, List.setIfInBounds_toArray, List.set_cons_zero, List.set_cons_succ]
            refine wpL_pure (.slice ua un uc) rfl (by kernel_rfl) ?_
            simp only [Act.put, List.setIfInBounds_toArray, List.set_cons_zero, List.set_cons_succ]
            refine wpL_pure (.int .i64 (s : Int)) rfl (by kernel_rfl) ?_
            simp only [Act.put, List.setIfInBounds_toArray, List.set_cons_zero, List.set_cons_succ]
            go_upto_region 10 with (fail)
            refine wp_region_lit ?_
            refine wpL_pure (.bool true) rfl (by kernel_rfl) ?_
            simp only [Act.put, List.setIfInBounds_toArray, List.set_cons_zero, List.set_cons_succ]
            refine wpL_pure (.bool true) rfl (by kernel_rfl) ?_
            simp only [Act.put, List.setIfInBounds_toArray, List.set_cons_zero, List.set_cons_succ]
            refine wpL_skip (by kernel_rfl) ?_
            simp only [Act.put, List.setIfInBounds_toArray, List.set_cons_zero, List.set_cons_succ]
            refine wpL_skip (by kernel_rfl) ?_
            simp only [Act.put, List.setIfInBounds_toArray, List.set_cons_zero, List.set_cons_succ]
            refine wpL_pure (.bool true) rfl (by kernel_rfl) ?_
            simp only [Act.put, List.setIfInBounds_toArray, List.set_cons_zero, List.set_cons_succ]
            go_upto_region 11 with (fail)
            refine wp_region_lit ?_
            refine wpL_pure (.bool true) rfl (by kernel_rfl) ?_
            simp only [Act.put, List.setIfInBounds_toArray, List.set_cons_zero, List.set_cons_succ]
            go_upto_region 12 with (fail)
            refine wp_region_lit ?_
            refine wpL_pure (.int .u64 0) rfl (by kernel_rfl) ?_
            simp only [Act.put, List.setIfInBounds_toArray, List.set_cons_zero, List.set_cons_succ]
            go_upto_region 13 with (fail)
            refine wp_region_lit ?_
            refine wpL_pure (.slice none 0 0) rfl (by kernel_rfl) ?_
            simp only [Act.put, List.setIfInBounds_toArray, List.set_cons_zero, List.set_cons_succ]
            go_upto_region 14 with (fail)
            refine wp_region_lit ?_
            refine wpL_pure (.int .i64 0) rfl (by kernel_rfl) ?_
            simp only [Act.put, List.setIfInBounds_toArray, List.set_cons_zero, List.set_cons_succ]
            go_upto_region 15 with (fail)
            refine wp_region_lit ?_
            refine wpL_pure (.slice r m ec) rfl (by kernel_rfl) ?_
            simp only [Act.put, List.setIfInBounds_toArray, List.set_cons_zero, List.set_cons_succ]
            refine wpL_pure (.int .i64 0) rfl (by kernel_rfl) ?_
            simp only [Act.put, List.setIfInBounds_toArray, List.set_cons_zero, List.set_cons_succ]
            refine wpL_pure (.slice (dropA r ec 0) (m - 0) (ec - 0)) rfl (run_slicep' _ _ _ _ _ r m ec 0 _ rfl rfl rfl (Nat.zero_le _) IV.out.2.1 ⟨IV.out.2.2.1, IV.out.2.2.2.1⟩ rfl) ?_
            simp only [Act.put, List.setIfInBounds_toArray, List.set_cons_zero, List.set_cons_succ]
            refine wpL_pure (.slice (dropA r ec 0) (m - 0) (ec - 0)) rfl (by kernel_rfl) ?_
            simp only [Act.put, List.setIfInBounds_toArray, List.set_cons_zero, List.set_cons_succ]
            go_upto_region 16 with (fail)
            refine wp_region_lit ?_
            refine wpL_pure (.int .u64 0) rfl (by kernel_rfl) ?_
            simp only [Act.put, List.setIfInBounds_toArray, List.set_cons_zero, List.set_cons_succ]
            refine wpL_pure (.int .u64 0) rfl (by kernel_rfl) ?_
            simp only [Act.put, List.setIfInBounds_toArray, List.set_cons_zero, List.set_cons_succ]
            refine wpL_pure (.bool false) rfl (run_nei Try.underlying33 rfl rfl rfl (by simp)) ?_
            simp only [Act.put, List.setIfInBounds_toArray, List.set_cons_zero, List.set_cons_succ]
            refine wpL_pure (.bool false) rfl (by kernel_rfl) ?_
            simp only [Act.put, List.setIfInBounds_toArray, List.set_cons_zero, List.set_cons_succ]
            refine wpL_pure (.slice av 0 cv) rfl (by kernel_rfl) ?_
            simp only [Act.put, List.setIfInBounds_toArray, List.set_cons_zero, List.set_cons_succ]
            refine wpL_pure (.string (strOfNums [])) rfl (run_conv_str _ _ _ _ av 0 cv _ rfl rfl A2.out.1) ?_
            simp only [Act.put, List.setIfInBounds_toArray, List.set_cons_zero, List.set_cons_succ]
            refine wpL_pure (.slice none 0 0) rfl (by kernel_rfl) ?_
            simp only [Act.put, List.setIfInBounds_toArray, List.set_cons_zero, List.set_cons_succ]
            refine wpL_pure (.string (strOfNums [])) rfl (run_conv_str _ _ _ _ none 0 0 _ rfl rfl (Row.nil _ _)) ?_
            simp only [Act.put, List.setIfInBounds_toArray, List.set_cons_zero, List.set_cons_succ]
            refine wpL_pure (.bool false) rfl (run_str_same _ _ _ _ _ _ rfl rfl rfl) ?_
            simp only [Act.put, List.setIfInBounds_toArray, List.set_cons_zero, List.set_cons_succ]
            refine wpL_pure (.bool false) rfl (by kernel_rfl) ?_
            simp only [Act.put, List.setIfInBounds_toArray, List.set_cons_zero, List.set_cons_succ]
            refine wpL_pure (.bool false) rfl (by kernel_rfl) ?_
            simp only [Act.put, List.setIfInBounds_toArray, List.set_cons_zero, List.set_cons_succ]
            refine wpL_pure (.pointer (some ⟨g, 0, none⟩)) rfl (by kernel_rfl) ?_
            simp only [Act.put, List.setIfInBounds_toArray, List.set_cons_zero, List.set_cons_succ]
            refine wpL_call 16 #[.pointer (some ⟨g, 0, none⟩)] rfl (by kernel_rfl) (((bad_any wb g _ _ A2.out.2.1)).mono fun e wc ⟨he, hw⟩ => ⟨.bool true, he, ?_⟩)
            simp only [Act.put, List.setIfInBounds_toArray, List.set_cons_zero, List.set_cons_succ]
            subst hw
            refine wpL_pure (.bool true) rfl (by kernel_rfl) ?_
            simp only [Act.put, List.setIfInBounds_toArray, List.set_cons_zero, List.set_cons_succ]
            refine wpL_pure (.bool false) rfl (by kernel_rfl) ?_
            simp only [Act.put, List.setIfInBounds_toArray, List.set_cons_zero, List.set_cons_succ]
            refine wpL_pure (.bool false) rfl (by kernel_rfl) ?_
            simp only [Act.put, List.setIfInBounds_toArray, List.set_cons_zero, List.set_cons_succ]
            refine wpL_pure (.bool false) rfl (by kernel_rfl) ?_
            simp only [Act.put, List.setIfInBounds_toArray, List.set_cons_zero, List.set_cons_succ]
            refine wpL_pure (.pointer (some ⟨g, 0, none⟩)) rfl (by kernel_rfl) ?_
            simp only [Act.put, List.setIfInBounds_toArray, List.set_cons_zero, List.set_cons_succ]
            refine wpL_call 17 #[.pointer (some ⟨g, 0, none⟩)] rfl (by kernel_rfl) (((left_any wb g _ _ A2.out.2.1)).mono fun e wc ⟨he, hw⟩ => ⟨.int .i64 ((ys.drop 0).length : Int), he, ?_⟩)
            simp only [Act.put, List.setIfInBounds_toArray, List.set_cons_zero, List.set_cons_succ]
            subst hw
            refine wpL_pure (.slice (dropA r ec 0) (m - 0) (ec - 0)) rfl (by kernel_rfl) ?_
            simp only [Act.put, List.setIfInBounds_toArray, List.set_cons_zero, List.set_cons_succ]
            refine wpL_pure (.int .i64 ((m - 0 : Nat) : Int)) rfl (by kernel_rfl) ?_
            simp only [Act.put, List.setIfInBounds_toArray, List.set_cons_zero, List.set_cons_succ]
            refine wpL_pure (.bool false) rfl (run_nei Try.underlying3 rfl rfl rfl (by rw [List.length_drop, IV.out.1.1]; simp)) ?_
            simp only [Act.put, List.setIfInBounds_toArray, List.set_cons_zero, List.set_cons_succ]
            refine wpL_pure (.bool false) rfl (by kernel_rfl) ?_
            simp only [Act.put, List.setIfInBounds_toArray, List.set_cons_zero, List.set_cons_succ]
            refine wpL_pure (.bool false) rfl (by kernel_rfl) ?_
            simp only [Act.put, List.setIfInBounds_toArray, List.set_cons_zero, List.set_cons_succ]
            refine wpL_pure (.pointer (some ⟨g, 0, none⟩)) rfl (by kernel_rfl) ?_
            simp only [Act.put, List.setIfInBounds_toArray, List.set_cons_zero, List.set_cons_succ]
            refine wpL_call 18 #[.pointer (some ⟨g, 0, none⟩)] rfl (by kernel_rfl) (((over_any wb g _ _ A2.out.2.1)).mono fun e wc ⟨he, hw⟩ => ⟨.bool false, (he.trans (by simp)), ?_⟩)
            simp only [Act.put, List.setIfInBounds_toArray, List.set_cons_zero, List.set_cons_succ]
            subst hw
            refine wpL_pure (.bool true) rfl (by kernel_rfl) ?_
            simp only [Act.put, List.setIfInBounds_toArray, List.set_cons_zero, List.set_cons_succ]
            refine wpL_pure (.bool false) rfl (by kernel_rfl) ?_
            simp only [Act.put, List.setIfInBounds_toArray, List.set_cons_zero, List.set_cons_succ]
            refine wpL_pure (.bool false) rfl (by kernel_rfl) ?_
            simp only [Act.put, List.setIfInBounds_toArray, List.set_cons_zero, List.set_cons_succ]
            refine wpL_skip (by kernel_rfl) ?_
            simp only [Act.put, List.setIfInBounds_toArray, List.set_cons_zero, List.set_cons_succ]
            refine wpL_skip (by kernel_rfl) ?_
            simp only [Act.put, List.setIfInBounds_toArray, List.set_cons_zero, List.set_cons_succ]
            refine wpL_skip (by kernel_rfl) ?_
            simp only [Act.put, List.setIfInBounds_toArray, List.set_cons_zero, List.set_cons_succ]
            refine wpL_pure (.bool false) rfl (by kernel_rfl) ?_
            simp only [Act.put, List.setIfInBounds_toArray, List.set_cons_zero, List.set_cons_succ]
            refine wpL_pure (.bool false) rfl (by kernel_rfl) ?_
            simp only [Act.put, List.setIfInBounds_toArray, List.set_cons_zero, List.set_cons_succ]
            refine wpL_pure (.bool false) rfl (by kernel_rfl) ?_
            simp only [Act.put, List.setIfInBounds_toArray, List.set_cons_zero, List.set_cons_succ]
            go_upto_region 7 with (fail)
            refine wp_region_lit ?_
            refine wpL_pure (.int .i64 (k : Int)) rfl (by kernel_rfl) ?_
            simp only [Act.put, List.setIfInBounds_toArray, List.set_cons_zero, List.set_cons_succ]
            refine wpL_pure (.int .i64 ((k + 1 : Nat) : Int)) rfl (run_addi Try.underlying3 rfl rfl rfl _ (by have := HK.out; have := HT2.out; rw [wrap_in _ (by omega) (by omega)]; omega)) ?_
            simp only [Act.put, List.setIfInBounds_toArray, List.set_cons_zero, List.set_cons_succ]
            refine wpL_pure (.int .i64 ((k + 1 : Nat) : Int)) rfl (by kernel_rfl) ?_
            simp only [Act.put, List.setIfInBounds_toArray, List.set_cons_zero, List.set_cons_succ]
            have NX : Hid (k + 1 ≤ ln ∧ TInv w g true (dropA r ec 0) (m - 0) (ec - 0) (ys.drop 0) wb) := Lib.hid ⟨by have := HK.out; omega, IV.out.next 0 (Nat.zero_le _) A2.out.2.1 A2.out.2.2.1⟩
            unfold wpList
            go_roundw
            case rel => first | exact ⟨_, _, _, _, _, _, rfl, rfl, rfl, NX⟩ | ((repeat apply Exists.intro); exact ⟨⟨_, _, _, _, _, _, rfl, rfl, rfl, NX⟩, rfl⟩)
            case measure => simp [intOf]; have := HK.out; omega
          · skip
            go_upto_region 6 with (fail)
            refine wp_region_lit ?_
            refine wpL_pure (.int .i64 (k : Int)) rfl (by kernel_rfl) ?_
            simp only [Act.put, List.setIfInBounds_toArray, List.set_cons_zero, List.set_cons_succ]
            refine wpL_pure (.slice la ln lc) rfl (by kernel_rfl) ?_
            simp only [Act.put, List.setIfInBounds_toArray, List.set_cons_zero, List.set_cons_succ]
            refine wpL_pure (.int .i64 (ln : Int)) rfl (by kernel_rfl) ?_
            simp only [Act.put, List.setIfInBounds_toArray, List.set_cons_zero, List.set_cons_succ]
            refine wpL_pure (.bool true) rfl (run_lti Try.underlying3 rfl rfl rfl (by have := HK.out; rw [decide_eq_true_eq]; omega)) ?_
            simp only [Act.put, List.setIfInBounds_toArray, List.set_cons_zero, List.set_cons_succ]
            go_upto_region 8 with (fail)
            refine wp_region_lit ?_
            refine wpL_pure (.pointer (some ⟨g, 0, none⟩)) rfl (by kernel_rfl) ?_
            simp only [Act.put, List.setIfInBounds_toArray, List.set_cons_zero, List.set_cons_succ]
            refine wpL_pure (.slice la ln lc) rfl (by kernel_rfl) ?_
            simp only [Act.put, List.setIfInBounds_toArray, List.set_cons_zero, List.set_cons_succ]
            refine wpL_pure (.int .i64 (k : Int)) rfl (by kernel_rfl) ?_
            simp only [Act.put, List.setIfInBounds_toArray, List.set_cons_zero, List.set_cons_succ]
            refine wpL_pure (.pointer (some ⟨gp, op + k * 3, none⟩)) rfl (run_idxp _ _ _ _ _ gp op ln lc k rfl (by rw [AE.out]; rfl) rfl HK.out LL.out) ?_
            simp only [Act.put, List.setIfInBounds_toArray, List.set_cons_zero, List.set_cons_succ]
            refine wpL_load 35 _ rfl rfl gp (op + k * 3) rfl [.int .u8 (q : Int), .int .u64 (X : Int), .slice pa pn pc] _ (part_range PA.out) Try.underlying35 rfl (by kernel_rfl) ?_
            simp only [Act.put, List.setIfInBounds_toArray, List.set_cons_zero, List.set_cons_succ]
            refine wpL_call 14 #[.pointer (some ⟨g, 0, none⟩), .agg #[.int .u8 (q : Int), .int .u64 (X : Int), .slice pa pn pc]] rfl (by kernel_rfl) ((TK.out).mono fun e wa ⟨v, he, q1, q2, q3⟩ => ⟨.tuple #[.int .u64 0, v], he, ?_⟩)
            simp only [Act.put, List.setIfInBounds_toArray, List.set_cons_zero, List.set_cons_succ]
            obtain ⟨av, cv, ev⟩ := q1.slice
            have ev' : v = .slice av 0 cv := ev
            subst ev'
            clear ev
            have A1 : Hid (Row wa av 0 [] ∧ InSt wa g (ys.drop 0) true ∧ Below w.heap.size w wa) := Lib.hid ⟨q1.row.1, q2, IV.out.2.2.2.2.2.2.trans (gb_below q3 GW.out IV.out.2.2.2.2.2.2.size)⟩
            clear q1 q2 q3 TK
            refine wpL_pure (.tuple #[.int .u64 0, .slice av 0 cv]) rfl (by kernel_rfl) ?_
            simp only [Act.put, List.setIfInBounds_toArray, List.set_cons_zero, List.set_cons_succ]
            refine wpL_pure (.int .u64 0) rfl (by kernel_rfl) ?_
            simp only [Act.put, List.setIfInBounds_toArray, List.set_cons_zero, List.set_cons_succ]
            refine wpL_pure (.slice av 0 cv) rfl (by kernel_rfl) ?_
            simp only [Act.put, List.setIfInBounds_toArray, List.set_cons_zero, List.set_cons_succ]
            refine wpL_pure (.int .u64 0) rfl (by kernel_rfl) ?_
            simp only [Act.put, List.setIfInBounds_toArray, List.set_cons_zero, List.set_cons_succ]
            refine wpL_pure (.slice av 0 cv) rfl (by kernel_rfl) ?_
            simp only [Act.put, List.setIfInBounds_toArray, List.set_cons_zero, List.set_cons_succ]
            go_upto_region 9 with (fail)
            refine wp_region_lit ?_
            refine wpL_pure (.slice r m ec) rfl (by kernel_rfl) ?_
            simp only [Act.put, List.setIfInBounds_toArray, List.set_cons_zero, List.set_cons_succ]
            refine wpL_pure (.slice la ln lc) rfl (by kernel_rfl) ?_
            simp only [Act.put, List.setIfInBounds_toArray, List.set_cons_zero, List.set_cons_succ]
            refine wpL_pure (.int .i64 (k : Int)) rfl (by kernel_rfl) ?_
            simp only [Act.put, List.setIfInBounds_toArray, List.set_cons_zero, List.set_cons_succ]
            refine wpL_pure (.pointer (some ⟨gp, op + k * 3, none⟩)) rfl (run_idxp _ _ _ _ _ gp op ln lc k rfl (by rw [AE.out]; rfl) rfl HK.out LL.out) ?_
            simp only [Act.put, List.setIfInBounds_toArray, List.set_cons_zero, List.set_cons_succ]
            refine wpL_load 35 _ rfl rfl gp (op + k * 3) rfl [.int .u8 (q : Int), .int .u64 (X : Int), .slice pa pn pc] _ (part_range (PA0.out.keep A1.out.2.2)) Try.underlying35 rfl (by kernel_rfl) ?_
            simp only [Act.put, List.setIfInBounds_toArray, List.set_cons_zero, List.set_cons_succ]
            refine wpL_call 15 #[.slice r m ec, .agg #[.int .u8 (q : Int), .int .u64 (X : Int), .slice pa pn pc]] rfl (by kernel_rfl) ((((GT.out wa A1.out.2.2).mono fun e w' h => GotP.of_none h)).mono fun e wb ⟨ua, un, uc, he, q1, q2⟩ => ⟨.tuple #[.int .u64 0, .slice ua un uc, .int .i64 (-1)], he, ?_⟩)
            simp only [Act.put, List.setIfInBounds_toArray, List.set_cons_zero, List.set_cons_succ]
            have A2 : Hid (Row wb av 0 [] ∧ InSt wb g (ys.drop 0) true ∧ Below w.heap.size w wb ∧ Row wb ua un []) := Lib.hid ⟨A1.out.1.keep q2, A1.out.2.1.below q2, A1.out.2.2.trans (q2.mono A1.out.2.2.size), q1⟩
            clear q1 q2 A1 GT
            refine wpL_pure (.tuple #[.int .u64 0, .slice ua un uc, .int .i64 (-1)]) rfl (by kernel_rfl) ?_
            simp only [Act.put, List.setIfInBounds_toArray, List.set_cons_zero, List.set_cons_succ]
            refine wpL_pure (.int .u64 0) rfl (by kernel_rfl) ?_
            simp only [Act.put, List.setIfInBounds_toArray, List.set_cons_zero, List.set_cons_succ]
            refine wpL_pure (.slice ua un uc) rfl (by kernel_rfl) ?_
            simp only [Act.put, List.setIfInBounds_toArray, List.set_cons_zero, List.set_cons_succ]
            refine wpL_pure (.int .i64 (-1)) rfl (by kernel_rfl) ?_
            simp only [Act.put, List.setIfInBounds_toArray, List.set_cons_zero, List.set_cons_succ]
            refine wpL_pure (.int .u64 0) rfl (by kernel_rfl) ?_
            simp only [Act.put, List.setIfInBounds_toArray, List.set_cons_zero, List.set_cons_succ]
            refine wpL_pure (.slice ua un uc) rfl (by kernel_rfl) ?_
            simp only [Act.put, List.setIfInBounds_toArray, List.set_cons_zero, List.set_cons_succ]
            refine wpL_pure (.int .i64 (-1)) rfl (by kernel_rfl) ?_
            simp only [Act.put, List.setIfInBounds_toArray, List.set_cons_zero, List.set_cons_succ]
            go_upto_region 10 with (fail)
            refine wp_region_lit ?_
            refine wpL_pure (.bool false) rfl (by kernel_rfl) ?_
            simp only [Act.put, List.setIfInBounds_toArray, List.set_cons_zero, List.set_cons_succ]
            refine wpL_pure (.bool false) rfl (by kernel_rfl) ?_
            simp only [Act.put, List.setIfInBounds_toArray, List.set_cons_zero, List.set_cons_succ]
            refine wpL_pure (.int .i64 (-1)) rfl (by kernel_rfl) ?_
            simp only [Act.put, List.setIfInBounds_toArray, List.set_cons_zero, List.set_cons_succ]
            refine wpL_pure (.bool true) rfl (by kernel_rfl) ?_
            simp only [Act.put, List.setIfInBounds_toArray, List.set_cons_zero, List.set_cons_succ]
            refine wpL_pure (.bool true) rfl (by kernel_rfl) ?_
            simp only [Act.put, List.setIfInBounds_toArray, List.set_cons_zero, List.set_cons_succ]
            go_upto_region 11 with (fail)
            refine wp_region_lit ?_
            refine wpL_pure (.bool true) rfl (by kernel_rfl) ?_
            simp only [Act.put, List.setIfInBounds_toArray, List.set_cons_zero, List.set_cons_succ]
            go_upto_region 12 with (fail)
            refine wp_region_lit ?_
            refine wpL_pure (.int .u64 0) rfl (by kernel_rfl) ?_
            simp only [Act.put, List.setIfInBounds_toArray, List.set_cons_zero, List.set_cons_succ]
            go_upto_region 13 with (fail)
            refine wp_region_lit ?_
            refine wpL_pure (.slice none 0 0) rfl (by kernel_rfl) ?_
            simp only [Act.put, List.setIfInBounds_toArray, List.set_cons_zero, List.set_cons_succ]
            go_upto_region 14 with (fail)
            refine wp_region_lit ?_
            refine wpL_pure (.int .i64 0) rfl (by kernel_rfl) ?_
            simp only [Act.put, List.setIfInBounds_toArray, List.set_cons_zero, List.set_cons_succ]
            go_upto_region 15 with (fail)
            refine wp_region_lit ?_
            refine wpL_pure (.slice r m ec) rfl (by kernel_rfl) ?_
            simp only [Act.put, List.setIfInBounds_toArray, List.set_cons_zero, List.set_cons_succ]
            refine wpL_pure (.int .i64 0) rfl (by kernel_rfl) ?_
            simp only [Act.put, List.setIfInBounds_toArray, List.set_cons_zero, List.set_cons_succ]
            refine wpL_pure (.slice (dropA r ec 0) (m - 0) (ec - 0)) rfl (run_slicep' _ _ _ _ _ r m ec 0 _ rfl rfl rfl (Nat.zero_le _) IV.out.2.1 ⟨IV.out.2.2.1, IV.out.2.2.2.1⟩ rfl) ?_
            simp only [Act.put, List.setIfInBounds_toArray, List.set_cons_zero, List.set_cons_succ]
            refine wpL_pure (.slice (dropA r ec 0) (m - 0) (ec - 0)) rfl (by kernel_rfl) ?_
            simp only [Act.put, List.setIfInBounds_toArray, List.set_cons_zero, List.set_cons_succ]
            go_upto_region 16 with (fail)
            refine wp_region_lit ?_
            refine wpL_pure (.int .u64 0) rfl (by kernel_rfl) ?_
            simp only [Act.put, List.setIfInBounds_toArray, List.set_cons_zero, List.set_cons_succ]
            refine wpL_pure (.int .u64 0) rfl (by kernel_rfl) ?_
            simp only [Act.put, List.setIfInBounds_toArray, List.set_cons_zero, List.set_cons_succ]
            refine wpL_pure (.bool false) rfl (run_nei Try.underlying33 rfl rfl rfl (by simp)) ?_
            simp only [Act.put, List.setIfInBounds_toArray, List.set_cons_zero, List.set_cons_succ]
            refine wpL_pure (.bool false) rfl (by kernel_rfl) ?_
            simp only [Act.put, List.setIfInBounds_toArray, List.set_cons_zero, List.set_cons_succ]
            refine wpL_pure (.slice av 0 cv) rfl (by kernel_rfl) ?_
            simp only [Act.put, List.setIfInBounds_toArray, List.set_cons_zero, List.set_cons_succ]
            refine wpL_pure (.string (strOfNums [])) rfl (run_conv_str _ _ _ _ av 0 cv _ rfl rfl A2.out.1) ?_
            simp only [Act.put, List.setIfInBounds_toArray, List.set_cons_zero, List.set_cons_succ]
            refine wpL_pure (.slice none 0 0) rfl (by kernel_rfl) ?_
            simp only [Act.put, List.setIfInBounds_toArray, List.set_cons_zero, List.set_cons_succ]
            refine wpL_pure (.string (strOfNums [])) rfl (run_conv_str _ _ _ _ none 0 0 _ rfl rfl (Row.nil _ _)) ?_
            simp only [Act.put, List.setIfInBounds_toArray, List.set_cons_zero, List.set_cons_succ]
            refine wpL_pure (.bool false) rfl (run_str_same _ _ _ _ _ _ rfl rfl rfl) ?_
            simp only [Act.put, List.setIfInBounds_toArray, List.set_cons_zero, List.set_cons_succ]
            refine wpL_pure (.bool false) rfl (by kernel_rfl) ?_
            simp only [Act.put, List.setIfInBounds_toArray, List.set_cons_zero, List.set_cons_succ]
            refine wpL_pure (.bool false) rfl (by kernel_rfl) ?_
            simp only [Act.put, List.setIfInBounds_toArray, List.set_cons_zero, List.set_cons_succ]
            refine wpL_pure (.pointer (some ⟨g, 0, none⟩)) rfl (by kernel_rfl) ?_
            simp only [Act.put, List.setIfInBounds_toArray, List.set_cons_zero, List.set_cons_succ]
            refine wpL_call 16 #[.pointer (some ⟨g, 0, none⟩)] rfl (by kernel_rfl) (((bad_any wb g _ _ A2.out.2.1)).mono fun e wc ⟨he, hw⟩ => ⟨.bool true, he, ?_⟩)
            simp only [Act.put, List.setIfInBounds_toArray, List.set_cons_zero, List.set_cons_succ]
            subst hw
            refine wpL_pure (.bool true) rfl (by kernel_rfl) ?_
            simp only [Act.put, List.setIfInBounds_toArray, List.set_cons_zero, List.set_cons_succ]
            refine wpL_pure (.bool false) rfl (by kernel_rfl) ?_
            simp only [Act.put, List.setIfInBounds_toArray, List.set_cons_zero, List.set_cons_succ]
            refine wpL_pure (.bool false) rfl (by kernel_rfl) ?_
            simp only [Act.put, List.setIfInBounds_toArray, List.set_cons_zero, List.set_cons_succ]
            refine wpL_pure (.bool false) rfl (by kernel_rfl) ?_
            simp only [Act.put, List.setIfInBounds_toArray, List.set_cons_zero, List.set_cons_succ]
            refine wpL_pure (.pointer (some ⟨g, 0, none⟩)) rfl (by kernel_rfl) ?_
            simp only [Act.put, List.setIfInBounds_toArray, List.set_cons_zero, List.set_cons_succ]
            refine wpL_call 17 #[.pointer (some ⟨g, 0, none⟩)] rfl (by kernel_rfl) (((left_any wb g _ _ A2.out.2.1)).mono fun e wc ⟨he, hw⟩ => ⟨.int .i64 ((ys.drop 0).length : Int), he, ?_⟩)
            simp only [Act.put, List.setIfInBounds_toArray, List.set_cons_zero, List.set_cons_succ]
            subst hw
            refine wpL_pure (.slice (dropA r ec 0) (m - 0) (ec - 0)) rfl (by kernel_rfl) ?_
            simp only [Act.put, List.setIfInBounds_toArray, List.set_cons_zero, List.set_cons_succ]
            refine wpL_pure (.int .i64 ((m - 0 : Nat) : Int)) rfl (by kernel_rfl) ?_
            simp only [Act.put, List.setIfInBounds_toArray, List.set_cons_zero, List.set_cons_succ]
            refine wpL_pure (.bool false) rfl (run_nei Try.underlying3 rfl rfl rfl (by rw [List.length_drop, IV.out.1.1]; simp)) ?_
            simp only [Act.put, List.setIfInBounds_toArray, List.set_cons_zero, List.set_cons_succ]
            refine wpL_pure (.bool false) rfl (by kernel_rfl) ?_
            simp only [Act.put, List.setIfInBounds_toArray, List.set_cons_zero, List.set_cons_succ]
            refine wpL_pure (.bool false) rfl (by kernel_rfl) ?_
            simp only [Act.put, List.setIfInBounds_toArray, List.set_cons_zero, List.set_cons_succ]
            refine wpL_pure (.pointer (some ⟨g, 0, none⟩)) rfl (by kernel_rfl) ?_
            simp only [Act.put, List.setIfInBounds_toArray, List.set_cons_zero, List.set_cons_succ]
            refine wpL_call 18 #[.pointer (some ⟨g, 0, none⟩)] rfl (by kernel_rfl) (((over_any wb g _ _ A2.out.2.1)).mono fun e wc ⟨he, hw⟩ => ⟨.bool false, (he.trans (by simp)), ?_⟩)
            simp only [Act.put, List.setIfInBounds_toArray, List.set_cons_zero, List.set_cons_succ]
            subst hw
            refine wpL_pure (.bool true) rfl (by kernel_rfl) ?_
            simp only [Act.put, List.setIfInBounds_toArray, List.set_cons_zero, List.set_cons_succ]
            refine wpL_pure (.bool false) rfl (by kernel_rfl) ?_
            simp only [Act.put, List.setIfInBounds_toArray, List.set_cons_zero, List.set_cons_succ]
            refine wpL_pure (.bool false) rfl (by kernel_rfl) ?_
            simp only [Act.put, List.setIfInBounds_toArray, List.set_cons_zero, List.set_cons_succ]
            refine wpL_skip (by kernel_rfl) ?_
            simp only [Act.put, List.setIfInBounds_toArray, List.set_cons_zero, List.set_cons_succ]
            refine wpL_skip (by kernel_rfl) ?_
            simp only [Act.put, List.setIfInBounds_toArray, List.set_cons_zero, List.set_cons_succ]
            refine wpL_skip (by kernel_rfl) ?_
            simp only [Act.put, List.setIfInBounds_toArray, List.set_cons_zero, List.set_cons_succ]
            refine wpL_pure (.bool false) rfl (by kernel_rfl) ?_
            simp only [Act.put, List.setIfInBounds_toArray, List.set_cons_zero, List.set_cons_succ]
            refine wpL_pure (.bool false) rfl (by kernel_rfl) ?_
            simp only [Act.put, List.setIfInBounds_toArray, List.set_cons_zero, List.set_cons_succ]
            refine wpL_pure (.bool false) rfl (by kernel_rfl) ?_
            simp only [Act.put, List.setIfInBounds_toArray, List.set_cons_zero, List.set_cons_succ]
            go_upto_region 7 with (fail)
            refine wp_region_lit ?_
            refine wpL_pure (.int .i64 (k : Int)) rfl (by kernel_rfl) ?_
            simp only [Act.put, List.setIfInBounds_toArray, List.set_cons_zero, List.set_cons_succ]
            refine wpL_pure (.int .i64 ((k + 1 : Nat) : Int)) rfl (run_addi Try.underlying3 rfl rfl rfl _ (by have := HK.out; have := HT2.out; rw [wrap_in _ (by omega) (by omega)]; omega)) ?_
            simp only [Act.put, List.setIfInBounds_toArray, List.set_cons_zero, List.set_cons_succ]
            refine wpL_pure (.int .i64 ((k + 1 : Nat) : Int)) rfl (by kernel_rfl) ?_
            simp only [Act.put, List.setIfInBounds_toArray, List.set_cons_zero, List.set_cons_succ]
            have NX : Hid (k + 1 ≤ ln ∧ TInv w g true (dropA r ec 0) (m - 0) (ec - 0) (ys.drop 0) wb) := Lib.hid ⟨by have := HK.out; omega, IV.out.next 0 (Nat.zero_le _) A2.out.2.1 A2.out.2.2.1⟩
            unfold wpList
            go_roundw
            case rel => first | exact ⟨_, _, _, _, _, _, rfl, rfl, rfl, NX⟩ | ((repeat apply Exists.intro); exact ⟨⟨_, _, _, _, _, _, rfl, rfl, rfl, NX⟩, rfl⟩)
            case measure => simp [intOf]; have := HK.out; omega
          · rename_i res
            obtain ⟨x, t, s⟩ := res
            have SN : Hid (s ≤ m) := Lib.hid (by rw [← IV.out.1.1]; exact got_siz HG.out)
            go_upto_region 6 with (fail)
            refine wp_region_lit ?_
            refine wpL_pure (.int .i64 (k : Int)) rfl (by kernel_rfl) ?_
            simp only [Act.put, List.setIfInBounds_toArray, List.set_cons_zero, List.set_cons_succ]
            refine wpL_pure (.slice la ln lc) rfl (by kernel_rfl) ?_
            simp only [Act.put, List.setIfInBounds_toArray, List.set_cons_zero, List.set_cons_succ]
            refine wpL_pure (.int .i64 (ln : Int)) rfl (by kernel_rfl) ?_
            simp only [Act.put, List.setIfInBounds_toArray, List.set_cons_zero, List.set_cons_succ]
            refine wpL_pure (.bool true) rfl (run_lti Try.underlying3 rfl rfl rfl (by have := HK.out; rw [decide_eq_true_eq]; omega)) ?_
            simp only [Act.put, List.setIfInBounds_toArray, List.set_cons_zero, List.set_cons_succ]
            go_upto_region 8 with (fail)
            refine wp_region_lit ?_
            refine wpL_pure (.pointer (some ⟨g, 0, none⟩)) rfl (by kernel_rfl) ?_
            simp only [Act.put, List.setIfInBounds_toArray, List.set_cons_zero, List.set_cons_succ]
            refine wpL_pure (.slice la ln lc) rfl (by kernel_rfl) ?_
            simp only [Act.put, List.setIfInBounds_toArray, List.set_cons_zero, List.set_cons_succ]
            refine wpL_pure (.int .i64 (k : Int)) rfl (by kernel_rfl) ?_
            simp only [Act.put, List.setIfInBounds_toArray, List.set_cons_zero, List.set_cons_succ]
            refine wpL_pure (.pointer (some ⟨gp, op + k * 3, none⟩)) rfl (run_idxp _ _ _ _ _ gp op ln lc k rfl (by rw [AE.out]; rfl) rfl HK.out LL.out) ?_
            simp only [Act.put, List.setIfInBounds_toArray, List.set_cons_zero, List.set_cons_succ]
            refine wpL_load 35 _ rfl rfl gp (op + k * 3) rfl [.int .u8 (q : Int), .int .u64 (X : Int), .slice pa pn pc] _ (part_range PA.out) Try.underlying35 rfl (by kernel_rfl) ?_
            simp only [Act.put, List.setIfInBounds_toArray, List.set_cons_zero, List.set_cons_succ]
            refine wpL_call 14 #[.pointer (some ⟨g, 0, none⟩), .agg #[.int .u8 (q : Int), .int .u64 (X : Int), .slice pa pn pc]] rfl (by kernel_rfl) ((TK.out).mono fun e wa ⟨v, he, q1, q2, q3⟩ => ⟨.tuple #[.int .u64 (x : Int), v], he, ?_⟩)
            simp only [Act.put, List.setIfInBounds_toArray, List.set_cons_zero, List.set_cons_succ]
            obtain ⟨av, cv, ev⟩ := q1.slice
            have ev' : v = .slice av t.length cv := ev
            subst ev'
            clear ev
            have A1 : Hid (Row wa av t.length t ∧ InSt wa g (ys.drop s) false ∧ Below w.heap.size w wa) := Lib.hid ⟨q1.row.1, q2, IV.out.2.2.2.2.2.2.trans (gb_below q3 GW.out IV.out.2.2.2.2.2.2.size)⟩
            clear q1 q2 q3 TK
            refine wpL_pure (.tuple #[.int .u64 (x : Int), .slice av t.length cv]) rfl (by kernel_rfl) ?_
            simp only [Act.put, List.setIfInBounds_toArray, List.set_cons_zero, List.set_cons_succ]
            refine wpL_pure (.int .u64 (x : Int)) rfl (by kernel_rfl) ?_
            simp only [Act.put, List.setIfInBounds_toArray, List.set_cons_zero, List.set_cons_succ]
            refine wpL_pure (.slice av t.length cv) rfl (by kernel_rfl) ?_
            simp only [Act.put, List.setIfInBounds_toArray, List.set_cons_zero, List.set_cons_succ]
            refine wpL_pure (.int .u64 (x : Int)) rfl (by kernel_rfl) ?_
            simp only [Act.put, List.setIfInBounds_toArray, List.set_cons_zero, List.set_cons_succ]
            refine wpL_pure (.slice av t.length cv) rfl (by kernel_rfl) ?_
            simp only [Act.put, List.setIfInBounds_toArray, List.set_cons_zero, List.set_cons_succ]
            go_upto_region 9 with (fail)
            refine wp_region_lit ?_
            refine wpL_pure (.slice r m ec) rfl (by kernel_rfl) ?_
            simp only [Act.put, List.setIfInBounds_toArray, List.set_cons_zero, List.set_cons_succ]
            refine wpL_pure (.slice la ln lc) rfl (by kernel_rfl) ?_
            simp only [Act.put, List.setIfInBounds_toArray, List.set_cons_zero, List.set_cons_succ]
            refine wpL_pure (.int .i64 (k : Int)) rfl (by kernel_rfl) ?_
            simp only [Act.put, List.setIfInBounds_toArray, List.set_cons_zero, List.set_cons_succ]
            refine wpL_pure (.pointer (some ⟨gp, op + k * 3, none⟩)) rfl (run_idxp _ _ _ _ _ gp op ln lc k rfl (by rw [AE.out]; rfl) rfl HK.out LL.out) ?_
            simp only [Act.put, List.setIfInBounds_toArray, List.set_cons_zero, List.set_cons_succ]
            refine wpL_load 35 _ rfl rfl gp (op + k * 3) rfl [.int .u8 (q : Int), .int .u64 (X : Int), .slice pa pn pc] _ (part_range (PA0.out.keep A1.out.2.2)) Try.underlying35 rfl (by kernel_rfl) ?_
            simp only [Act.put, List.setIfInBounds_toArray, List.set_cons_zero, List.set_cons_succ]
            refine wpL_call 15 #[.slice r m ec, .agg #[.int .u8 (q : Int), .int .u64 (X : Int), .slice pa pn pc]] rfl (by kernel_rfl) ((((GT.out wa A1.out.2.2).mono fun e w' h => GotP.of_some h)).mono fun e wb ⟨ua, un, uc, he, q1, q2⟩ => ⟨.tuple #[.int .u64 (x : Int), .slice ua un uc, .int .i64 (s : Int)], he, ?_⟩)
            simp only [Act.put, List.setIfInBounds_toArray, List.set_cons_zero, List.set_cons_succ]
            have A2 : Hid (Row wb av t.length t ∧ InSt wb g (ys.drop s) false ∧ Below w.heap.size w wb ∧ Row wb ua un t) := Lib.hid ⟨A1.out.1.keep q2, A1.out.2.1.below q2, A1.out.2.2.trans (q2.mono A1.out.2.2.size), q1⟩
            clear q1 q2 A1 GT
            refine wpL_pure (.tuple #[.int .u64 (x : Int), .slice ua un uc, .int .i64 (s : Int)]) rfl (by kernel_rfl) ?_
            simp only [Act.put, List.setIfInBounds_toArray, List.set_cons_zero, List.set_cons_succ]
            refine wpL_pure (.int .u64 (x : Int)) rfl (by kernel_rfl) ?_
            simp only [Act.put, List.setIfInBounds_toArray, List.set_cons_zero, List.set_cons_succ]
            refine wpL_pure (.slice ua un uc) rfl (by kernel_rfl) ?_
            simp only [Act.put, List.setIfInBounds_toArray, List.set_cons_zero, List.set_cons_succ]
            refine wpL_pure (.int .i64 (s : Int)) rfl (by kernel_rfl) ?_
            simp only [Act.put, List.setIfInBounds_toArray, List.set_cons_zero, List.set_cons_succ]
            refine wpL_pure (.int .u64 (x : Int)) rfl (by kernel_rfl) ?_
            simp only [Act.put, List.setIfInBounds_toArray, List.set_cons_zero, List.set_cons_succ]
            refine wpL_pure (.slice ua un uc) rfl (by kernel_rfl) ?_
            simp only [Act.put, List.setIfInBounds_toArray, List.set_cons_zero, List.set_cons_succ]
            refine wpL_pure (.int .i64 (s : Int)) rfl (by kernel_rfl) ?_
            simp only [Act.put, List.setIfInBounds_toArray, List.set_cons_zero, List.set_cons_succ]
            go_upto_region 10 with (fail)
            refine wp_region_lit ?_
            refine wpL_pure (.bool false) rfl (by kernel_rfl) ?_
            simp only [Act.put, List.setIfInBounds_toArray, List.set_cons_zero, List.set_cons_succ]
            refine wpL_pure (.bool false) rfl (by kernel_rfl) ?_
            simp only [Act.put, List.setIfInBounds_toArray, List.set_cons_zero, List.set_cons_succ]
            refine wpL_pure (.int .i64 (s : Int)) rfl (by kernel_rfl) ?_
            simp only [Act.put, List.setIfInBounds_toArray, List.set_cons_zero, List.set_cons_succ]
            refine wpL_pure (.bool false) rfl (run_lti Try.underlying3 rfl rfl rfl (by rw [decide_eq_false_iff_not]; omega)) ?_
            simp only [Act.put, List.setIfInBounds_toArray, List.set_cons_zero, List.set_cons_succ]
            refine wpL_pure (.bool false) rfl (by kernel_rfl) ?_
            simp only [Act.put, List.setIfInBounds_toArray, List.set_cons_zero, List.set_cons_succ]
            go_upto_region 15 with (fail)
            refine wp_region_lit ?_
            refine wpL_pure (.slice r m ec) rfl (by kernel_rfl) ?_
            simp only [Act.put, List.setIfInBounds_toArray, List.set_cons_zero, List.set_cons_succ]
            refine wpL_pure (.int .i64 (s : Int)) rfl (by kernel_rfl) ?_
            simp only [Act.put, List.setIfInBounds_toArray, List.set_cons_zero, List.set_cons_succ]
            refine wpL_pure (.slice (dropA r ec s) (m - s) (ec - s)) rfl (run_slicep' _ _ _ _ _ r m ec s _ rfl rfl rfl SN.out IV.out.2.1 ⟨IV.out.2.2.1, IV.out.2.2.2.1⟩ rfl) ?_
            simp only [Act.put, List.setIfInBounds_toArray, List.set_cons_zero, List.set_cons_succ]
            refine wpL_pure (.slice (dropA r ec s) (m - s) (ec - s)) rfl (by kernel_rfl) ?_
            simp only [Act.put, List.setIfInBounds_toArray, List.set_cons_zero, List.set_cons_succ]
            go_upto_region 16 with (fail)
            refine wp_region_lit ?_
            refine wpL_pure (.int .u64 (x : Int)) rfl (by kernel_rfl) ?_
            simp only [Act.put, List.setIfInBounds_toArray, List.set_cons_zero, List.set_cons_succ]
            refine wpL_pure (.int .u64 (x : Int)) rfl (by kernel_rfl) ?_
            simp only [Act.put, List.setIfInBounds_toArray, List.set_cons_zero, List.set_cons_succ]
            refine wpL_pure (.bool false) rfl (run_nei Try.underlying33 rfl rfl rfl (by simp)) ?_
            simp only [Act.put, List.setIfInBounds_toArray, List.set_cons_zero, List.set_cons_succ]
            refine wpL_pure (.bool false) rfl (by kernel_rfl) ?_
            simp only [Act.put, List.setIfInBounds_toArray, List.set_cons_zero, List.set_cons_succ]
            refine wpL_pure (.slice av t.length cv) rfl (by kernel_rfl) ?_
            simp only [Act.put, List.setIfInBounds_toArray, List.set_cons_zero, List.set_cons_succ]
            refine wpL_pure (.string (strOfNums t)) rfl (run_conv_str _ _ _ _ av t.length cv _ rfl rfl A2.out.1) ?_
            simp only [Act.put, List.setIfInBounds_toArray, List.set_cons_zero, List.set_cons_succ]
            refine wpL_pure (.slice ua un uc) rfl (by kernel_rfl) ?_
            simp only [Act.put, List.setIfInBounds_toArray, List.set_cons_zero, List.set_cons_succ]
            refine wpL_pure (.string (strOfNums t)) rfl (run_conv_str _ _ _ _ ua un uc _ rfl rfl A2.out.2.2.2) ?_
            simp only [Act.put, List.setIfInBounds_toArray, List.set_cons_zero, List.set_cons_succ]
            refine wpL_pure (.bool false) rfl (run_str_same _ _ _ _ _ _ rfl rfl rfl) ?_
            simp only [Act.put, List.setIfInBounds_toArray, List.set_cons_zero, List.set_cons_succ]
            refine wpL_pure (.bool false) rfl (by kernel_rfl) ?_
            simp only [Act.put, List.setIfInBounds_toArray, List.set_cons_zero, List.set_cons_succ]
            refine wpL_pure (.bool false) rfl (by kernel_rfl) ?_
            simp only [Act.put, List.setIfInBounds_toArray, List.set_cons_zero, List.set_cons_succ]
            refine wpL_pure (.pointer (some ⟨g, 0, none⟩)) rfl (by kernel_rfl) ?_
            simp only [Act.put, List.setIfInBounds_toArray, List.set_cons_zero, List.set_cons_succ]
            refine wpL_call 16 #[.pointer (some ⟨g, 0, none⟩)] rfl (by kernel_rfl) (((bad_any wb g _ _ A2.out.2.1)).mono fun e wc ⟨he, hw⟩ => ⟨.bool false, he, ?_⟩)
            simp only [Act.put, List.setIfInBounds_toArray, List.set_cons_zero, List.set_cons_succ]
            subst hw
            refine wpL_pure (.bool false) rfl (by kernel_rfl) ?_
            simp only [Act.put, List.setIfInBounds_toArray, List.set_cons_zero, List.set_cons_succ]
            refine wpL_pure (.bool false) rfl (by kernel_rfl) ?_
            simp only [Act.put, List.setIfInBounds_toArray, List.set_cons_zero, List.set_cons_succ]
            refine wpL_pure (.bool false) rfl (by kernel_rfl) ?_
            simp only [Act.put, List.setIfInBounds_toArray, List.set_cons_zero, List.set_cons_succ]
            refine wpL_pure (.bool false) rfl (by kernel_rfl) ?_
            simp only [Act.put, List.setIfInBounds_toArray, List.set_cons_zero, List.set_cons_succ]
            refine wpL_pure (.pointer (some ⟨g, 0, none⟩)) rfl (by kernel_rfl) ?_
            simp only [Act.put, List.setIfInBounds_toArray, List.set_cons_zero, List.set_cons_succ]
            refine wpL_call 17 #[.pointer (some ⟨g, 0, none⟩)] rfl (by kernel_rfl) (((left_any wb g _ _ A2.out.2.1)).mono fun e wc ⟨he, hw⟩ => ⟨.int .i64 ((ys.drop s).length : Int), he, ?_⟩)
            simp only [Act.put, List.setIfInBounds_toArray, List.set_cons_zero, List.set_cons_succ]
            subst hw
            refine wpL_pure (.slice (dropA r ec s) (m - s) (ec - s)) rfl (by kernel_rfl) ?_
            simp only [Act.put, List.setIfInBounds_toArray, List.set_cons_zero, List.set_cons_succ]
            refine wpL_pure (.int .i64 ((m - s : Nat) : Int)) rfl (by kernel_rfl) ?_
            simp only [Act.put, List.setIfInBounds_toArray, List.set_cons_zero, List.set_cons_succ]
            refine wpL_pure (.bool false) rfl (run_nei Try.underlying3 rfl rfl rfl (by rw [List.length_drop, IV.out.1.1]; simp)) ?_
            simp only [Act.put, List.setIfInBounds_toArray, List.set_cons_zero, List.set_cons_succ]
            refine wpL_pure (.bool false) rfl (by kernel_rfl) ?_
            simp only [Act.put, List.setIfInBounds_toArray, List.set_cons_zero, List.set_cons_succ]
            refine wpL_pure (.bool false) rfl (by kernel_rfl) ?_
            simp only [Act.put, List.setIfInBounds_toArray, List.set_cons_zero, List.set_cons_succ]
            obtain ⟨z, hz⟩ : ∃ z, decide (m - s = 0) = z := ⟨_, rfl⟩
            have HZ := Lib.hid hz
            clear hz
            refine wpL_pure (.pointer (some ⟨g, 0, none⟩)) rfl (by kernel_rfl) ?_
            simp only [Act.put, List.setIfInBounds_toArray, List.set_cons_zero, List.set_cons_succ]
            refine wpL_call 18 #[.pointer (some ⟨g, 0, none⟩)] rfl (by kernel_rfl) (((over_any wb g _ _ A2.out.2.1)).mono fun e wc ⟨he, hw⟩ => ⟨.bool z, (he.trans (by rw [List.length_drop, IV.out.1.1, HZ.out]; simp)), ?_⟩)
            simp only [Act.put, List.setIfInBounds_toArray, List.set_cons_zero, List.set_cons_succ]
            subst hw
            refine wpL_pure (.bool false) rfl (by kernel_rfl) ?_
            simp only [Act.put, List.setIfInBounds_toArray, List.set_cons_zero, List.set_cons_succ]
            refine wpL_pure (.bool true) rfl (by kernel_rfl) ?_
            simp only [Act.put, List.setIfInBounds_toArray, List.set_cons_zero, List.set_cons_succ]
            refine wpL_pure (.bool true) rfl (by kernel_rfl) ?_
            simp only [Act.put, List.setIfInBounds_toArray, List.set_cons_zero, List.set_cons_succ]
            refine wpL_pure (.slice (dropA r ec s) (m - s) (ec - s)) rfl (by kernel_rfl) ?_
            simp only [Act.put, List.setIfInBounds_toArray, List.set_cons_zero, List.set_cons_succ]
            refine wpL_pure (.int .i64 ((m - s : Nat) : Int)) rfl (by kernel_rfl) ?_
            simp only [Act.put, List.setIfInBounds_toArray, List.set_cons_zero, List.set_cons_succ]
            refine wpL_pure (.bool z) rfl (run_eqi Try.underlying3 rfl rfl rfl (by rw [← HZ.out]; apply decide_eq_decide.mpr; omega)) ?_
            simp only [Act.put, List.setIfInBounds_toArray, List.set_cons_zero, List.set_cons_succ]
            refine wpL_pure (.bool z) rfl (by kernel_rfl) ?_
            simp only [Act.put, List.setIfInBounds_toArray, List.set_cons_zero, List.set_cons_succ]
            refine wpL_pure (.bool false) rfl (by cases z <;> kernel_rfl) ?_
            simp only [Act.put, List.setIfInBounds_toArray, List.set_cons_zero, List.set_cons_succ]
            refine wpL_pure (.bool false) rfl (by kernel_rfl) ?_
            simp only [Act.put, List.setIfInBounds_toArray, List.set_cons_zero, List.set_cons_succ]
            go_upto_region 7 with (fail)
            refine wp_region_lit ?_
            refine wpL_pure (.int .i64 (k : Int)) rfl (by kernel_rfl) ?_
            simp only [Act.put, List.setIfInBounds_toArray, List.set_cons_zero, List.set_cons_succ]
            refine wpL_pure (.int .i64 ((k + 1 : Nat) : Int)) rfl (run_addi Try.underlying3 rfl rfl rfl _ (by have := HK.out; have := HT2.out; rw [wrap_in _ (by omega) (by omega)]; omega)) ?_
            simp only [Act.put, List.setIfInBounds_toArray, List.set_cons_zero, List.set_cons_succ]
            refine wpL_pure (.int .i64 ((k + 1 : Nat) : Int)) rfl (by kernel_rfl) ?_
            simp only [Act.put, List.setIfInBounds_toArray, List.set_cons_zero, List.set_cons_succ]
            have NX : Hid (k + 1 ≤ ln ∧ TInv w g false (dropA r ec s) (m - s) (ec - s) (ys.drop s) wb) := Lib.hid ⟨by have := HK.out; omega, IV.out.next s SN.out A2.out.2.1 A2.out.2.2.1⟩
            unfold wpList
            go_roundw
            case rel => first | exact ⟨_, _, _, _, _, _, rfl, rfl, rfl, NX⟩ | ((repeat apply Exists.intro); exact ⟨⟨_, _, _, _, _, _, rfl, rfl, rfl, NX⟩, rfl⟩)
            case measure => simp [intOf]; have := HK.out; omega
        · have HK : Hid (¬ k < ln) := Lib.hid hlt
          clear hlt
          go_upto_region 6 with (fail)
          refine wp_region_lit ?_
          refine wpL_pure (.int .i64 (k : Int)) rfl (by kernel_rfl) ?_
          simp only [Act.put, List.setIfInBounds_toArray, List.set_cons_zero, List.set_cons_succ]
          refine wpL_pure (.slice la ln lc) rfl (by kernel_rfl) ?_
          simp only [Act.put, List.setIfInBounds_toArray, List.set_cons_zero, List.set_cons_succ]
          refine wpL_pure (.int .i64 (ln : Int)) rfl (by kernel_rfl) ?_
          simp only [Act.put, List.setIfInBounds_toArray, List.set_cons_zero, List.set_cons_succ]
          refine wpL_pure (.bool false) rfl (run_lti Try.underlying3 rfl rfl rfl (by have := HK.out; rw [decide_eq_false_iff_not]; omega)) ?_
          simp only [Act.put, List.setIfInBounds_toArray, List.set_cons_zero, List.set_cons_succ]
          go_upto_region 18 with (fail)
          refine wp_region_lit ?_
          refine wpL_pure (.bool true) rfl (by kernel_rfl) ?_
          simp only [Act.put, List.setIfInBounds_toArray, List.set_cons_zero, List.set_cons_succ]
          go_wp2_with fail
          go_ret
          exact ⟨rfl, IV.out.2.2.2.2.2.2⟩

end Go.Proofs.Yteblaknbehfkgaa
