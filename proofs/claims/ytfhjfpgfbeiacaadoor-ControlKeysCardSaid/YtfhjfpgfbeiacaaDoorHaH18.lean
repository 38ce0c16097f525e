import Derived.Test.YtfhjfpgfbeiacaaDoorHaJ
namespace Go.Proofs.YtfhjfpgfbeiacaaDoor.Ha
open Go Go.RowKit
set_option maxRecDepth 100000

/-- two slices of one's own that grow side by side. -/
def Two (wl W : World) (u v : Value) (xs ys : List Int) : Prop := Own W wl.heap.size u xs ∧ Own W wl.heap.size v ys ∧ (∀ b, u.ownBlock = some b → v.ownBlock ≠ some b) ∧ Below wl.heap.size wl W
theorem Two.start (wl : World) : Two wl wl (.slice none 0 0) (.slice none 0 0) [] [] := ⟨Own.nil _ _, Own.nil _ _, fun b h => (by cases h), Below.refl _ _⟩
theorem Two.swap {wl W : World} {u v : Value} {xs ys : List Int} (h : Two wl W u v xs ys) : Two wl W v u ys xs := ⟨h.2.1, h.1, fun b hb e => h.2.2.1 b e hb, h.2.2.2⟩
theorem Two.push {wl W : World} {u v : Value} {xs ys : List Int} (h : Two wl W u v xs ys) (x : Int) (hx : 0 ≤ x ∧ x ≤ 255) (hn : xs.length ≤ 2000000) (W1 : World) (hW : W1 = W.alloc (.cells #[.int .u8 x] 5)) :
    ∃ u' W', (Builtin.append_ #[32, 32] 32 #[u, .slice (some ⟨W.heap.size, 0, none⟩) 1 1]).run Tryd.prog W1 = .ok u' W' ∧ Two wl W' u' v (xs ++ [x]) ys := by
  subst hW
  have hs := h.2.2.2.size
  have o1 := h.1.alloc (.cells #[.int .u8 x] 5)
  have o2 := h.2.1.alloc (.cells #[.int .u8 x] 5)
  have hsz : (W.alloc (.cells #[.int .u8 x] 5)).heap.size = W.heap.size + 1 := by simp
  obtain ⟨u', W', r1, r2, r3, r4, r5⟩ := append_own (W.alloc (.cells #[.int .u8 x] 5)) wl.heap.size u xs [x] (some ⟨W.heap.size, 0, none⟩) 1 1 o1 (sl_one W hx).1 (by omega) (by rw [hsz]; omega)
  refine ⟨u', W', r1, r2, o2.grown r3 ?_, fun b hb e => ?_, (h.2.2.2.alloc hs _).trans (gb_own o1 r3 (by rw [hsz]; omega))⟩
  · cases hv : v.ownBlock with
    | none => exact .inl rfl
    | some b => exact .inr fun e => h.2.2.1 b e.symm hv
  · rcases r4 with r4 | r4
    · rw [r4] at hb
      exact h.2.2.1 b hb e
    · rw [r4] at hb
      have := (o2.lt b e).2
      simp only [Option.some.injEq] at hb
      omega
theorem padK_succ (ks : List Int) (x : Nat) {k : Nat} (hk : k < 64) : (padK ks x).take (k + 1) = (padK ks x).take k ++ [((byte (keyS ks) k ^^^ x : Nat) : Int)] := by
  rw [List.take_add_one]
  congr 1
  unfold padK
  rw [List.getElem?_map, List.getElem?_range hk]
  rfl
theorem byte_none {t : List Int} {j : Nat} (h : t.length ≤ j) : byte t j = 0 := by
  unfold byte
  rw [List.getD, List.getElem?_eq_none h]
  rfl
theorem getD_byte_eq {t : List Int} {j : Nat} (h : ∀ x ∈ t, 0 ≤ x ∧ x ≤ 255) : t.getD j 0 = ((byte t j : Nat) : Int) := by
  have := getD_byte h j
  unfold byte
  omega
attribute [local irreducible] wpList
set_option maxHeartbeats 8000000 in
set_option maxRecDepth 100000 in
/-- the reference's Mac. -/
theorem refmac_any (w : World) (ka : Option Addr) (kn kc : Nat) (ks : List Int) (a : Option Addr) (n c : Nat) (ts : List Int) (hk : Sl w ka kn kc ks) (hkn : kn ≤ 1000000) (h : Sl w a n c ts) (hn : n ≤ 90000) (hTW : TabW w) :
    Calls Tryd.prog 51 #[.slice ka kn kc, .slice a n c] w fun e w' => e = .returned (.agg (u8l (macS ks ts)).toArray) ∧ Below w.heap.size w w' := by
  have HKS := Lib.hid hk
  have HKN := Lib.hid hkn
  have HS := Lib.hid h
  have HN := Lib.hid hn
  have HW := Lib.hid hTW
  clear hk hkn h hn hTW
  go_enter Tryd.func51, Tryd.ntmps51
  obtain ⟨w1, hw1⟩ : ∃ V, V = w.alloc (.cells (u8l (List.replicate 32 0)).toArray 22) := ⟨_, rfl⟩
  have B1 : Hid (Blk w1 w.heap.size 22 (u8l (List.replicate 32 0)).toArray ∧ Below w.heap.size w w1 ∧ w.heap.size < w1.heap.size) := Lib.hid (by rw [hw1]; exact ⟨Blk.new _ _ _, (Below.refl _ _).alloc (Nat.le_refl _) _, by simp⟩)
  go_upto_region 0 with (fail)
  refine wp_region_lit ?_
  refine wpL_value (.pointer (some ⟨w.heap.size, 0, none⟩)) (w1) rfl (by rw [hw1]; kernel_rfl) ?_
  simp only [Act.put, List.setIfInBounds_toArray, List.set_cons_zero, List.set_cons_succ]
  clear hw1
  obtain ⟨g4, h4⟩ : ∃ q, w.heap.size = q := ⟨_, rfl⟩
  have G4 : Hid (w.heap.size = g4) := Lib.hid h4
  rw [h4] at B1
  try rw [h4]
  clear h4
  go_upto_region 1 with (fail)
  refine wp_region_lit ?_
  refine wpL_pure (.slice ka kn kc) rfl (by kernel_rfl) ?_
  simp only [Act.put, List.setIfInBounds_toArray, List.set_cons_zero, List.set_cons_succ]
  refine wpL_pure (.slice ka kn kc) rfl (by kernel_rfl) ?_
  simp only [Act.put, List.setIfInBounds_toArray, List.set_cons_zero, List.set_cons_succ]
  by_cases hl : 64 < kn
  · have HL := Lib.hid hl
    clear hl
    go_upto_region 2 with (fail)
    refine wp_region_lit ?_
    refine wpL_pure (.slice ka kn kc) rfl (by kernel_rfl) ?_
    simp only [Act.put, List.setIfInBounds_toArray, List.set_cons_zero, List.set_cons_succ]
    refine wpL_pure (.int .i64 (kn : Int)) rfl (by kernel_rfl) ?_
    simp only [Act.put, List.setIfInBounds_toArray, List.set_cons_zero, List.set_cons_succ]
    refine wpL_pure (.bool true) rfl (run_gti Tryd.underlying3 rfl rfl rfl (by have := HL.out; rw [decide_eq_true_eq]; omega)) ?_
    simp only [Act.put, List.setIfInBounds_toArray, List.set_cons_zero, List.set_cons_succ]
    go_upto_region 3 with (fail)
    refine wp_region_lit ?_
    refine wpL_pure (.slice ka kn kc) rfl (by kernel_rfl) ?_
    simp only [Act.put, List.setIfInBounds_toArray, List.set_cons_zero, List.set_cons_succ]
    refine wpL_call 58 #[.slice ka kn kc] rfl (by kernel_rfl) (((refsum_any w1 ka kn kc ks (HKS.out.below (by rw [G4.out]; exact B1.out.2.1)) HKN.out (HW.out.below (by rw [G4.out]; exact B1.out.2.1)))).mono fun e u2 ⟨he, hb⟩ => ⟨.agg (u8l (shaS ks)).toArray, he, ?_⟩)
    simp only [Act.put, List.setIfInBounds_toArray, List.set_cons_zero, List.set_cons_succ]
    obtain ⟨u3, hu3⟩ : ∃ V, V = (u2.alloc (.cells (u8l (List.replicate 32 0)).toArray 22)).setRow u2.heap.size (u8l (shaS ks)).toArray := ⟨_, rfl⟩
    have U3 : Hid (Blk u3 g4 22 (u8l (List.replicate 32 0)).toArray ∧ Below g4 w u3 ∧ Blk u3 u2.heap.size 22 (u8l (shaS ks)).toArray) := Lib.hid (qq (show Below u2.heap.size u2 u3 by rw [hu3]; exact below_setRow ((Below.refl _ _).alloc (Nat.le_refl _) _) (Nat.le_refl _) _) fun q => qq (show Below w1.heap.size w1 u3 from hb.trans (q.mono hb.size)) fun q2 => ⟨B1.out.1.below q2, B1.out.2.1.trans (q2.mono (by have := B1.out.2.2; omega)), by rw [hu3]; exact setRow_heap _ _ _ _ _ _ (Blk.new u2 22 _)⟩)
    refine wpL_value (.pointer (some ⟨u2.heap.size, 0, none⟩)) (u2.alloc (.cells (u8l (List.replicate 32 0)).toArray 22)) rfl (by kernel_rfl) ?_
    simp only [Act.put, List.setIfInBounds_toArray, List.set_cons_zero, List.set_cons_succ]
    refine wpList_store_rowTo rfl 22 _ _ rfl rfl u2.heap.size (u8l (shaS ks)).toArray rfl rfl 22 _ (Blk.new u2 22 _) (by simp only [List.size_toArray, u8l_len, shaS_len]; kernel_rfl) (by simp [u8l_len, shaS_len]) (u8l_one _) ?_
    rw [← hu3]
    clear hu3 hb
    generalize u2.heap.size = g6 at U3 ⊢
    go_upto_region 4 with (fail)
    refine wp_region_lit ?_
    refine wpL_pure (.slice (some ⟨g6, 0, none⟩) 32 32) rfl (by kernel_rfl) ?_
    simp only [Act.put, List.setIfInBounds_toArray, List.set_cons_zero, List.set_cons_succ]
    refine wpL_pure (.slice (some ⟨g6, 0, none⟩) 32 32) rfl (by kernel_rfl) ?_
    simp only [Act.put, List.setIfInBounds_toArray, List.set_cons_zero, List.set_cons_succ]
    have KE : Hid (keyS ks = shaS ks) := Lib.hid (by unfold keyS; rw [if_pos (by have := HL.out; have := HKS.out.1.1; omega)])
    have XN : Hid (32 ≤ 64) := Lib.hid (by omega)
    have KF : Hid (Sl u3 (some ⟨g6, 0, none⟩) 32 32 (keyS ks)) := Lib.hid (by rw [KE.out]; exact sl_blk U3.out.2.2 (shaS_len _) (shaS_byte _) (by omega))
    have BB : Hid (Below g4 w u3 ∧ Blk u3 g4 22 (u8l (List.replicate 32 0)).toArray) := Lib.hid ⟨U3.out.2.1, U3.out.1⟩
    clear U3
    go_upto_region 5 with (fail)
    refine wp_region_lit ?_
    refine wpL_pure (.slice none 0 0) rfl (by kernel_rfl) ?_
    simp only [Act.put, List.setIfInBounds_toArray, List.set_cons_zero, List.set_cons_succ]
    refine wpL_pure (.slice none 0 0) rfl (by kernel_rfl) ?_
    simp only [Act.put, List.setIfInBounds_toArray, List.set_cons_zero, List.set_cons_succ]
    go_upto_region 6 with (fail)
    refine wp_region_lit ?_
    refine wpL_pure (.int .i64 0) rfl (by kernel_rfl) ?_
    simp only [Act.put, List.setIfInBounds_toArray, List.set_cons_zero, List.set_cons_succ]
    obtain ⟨wl, hwl⟩ : ∃ V, V = u3 := ⟨_, rfl⟩
    rw [← hwl] at KF BB ⊢
    clear hwl
    go_wp2_with fail
    go_loopw [7, 8, 9] (fun s7 s8 s9 wr => ∃ k : Nat, s9 = .int .i64 (k : Int) ∧ Hid (k ≤ 64 ∧ Two wl wr s7 s8 ((padK ks 54).take k) ((padK ks 92).take k))) (fun _ _ s9 _ => 64 - (intOf s9).toNat)
    case atStart => exact ⟨0, rfl, Lib.hid ⟨by omega, Two.start wl⟩⟩
    case round =>
      obtain ⟨k, rfl, RI⟩ := hrel
      by_cases hlt : k < 64
      · have HK := Lib.hid hlt
        clear hlt
        go_upto_region 7 with (fail)
        refine wp_region_lit ?_
        refine wpL_pure (.int .i64 (k : Int)) rfl (by kernel_rfl) ?_
        simp only [Act.put, List.setIfInBounds_toArray, List.set_cons_zero, List.set_cons_succ]
        refine wpL_pure (.bool true) rfl (run_lti Tryd.underlying3 rfl rfl rfl (by have := HK.out; rw [decide_eq_true_eq]; omega)) ?_
        simp only [Act.put, List.setIfInBounds_toArray, List.set_cons_zero, List.set_cons_succ]
        go_upto_region 9 with (fail)
        refine wp_region_lit ?_
        refine wpL_pure (.int .u8 0) rfl (by kernel_rfl) ?_
        simp only [Act.put, List.setIfInBounds_toArray, List.set_cons_zero, List.set_cons_succ]
        by_cases hx : k < 32
        · have HXK := Lib.hid hx
          clear hx
          go_upto_region 10 with (fail)
          refine wp_region_lit ?_
          refine wpL_pure (.int .i64 (k : Int)) rfl (by kernel_rfl) ?_
          simp only [Act.put, List.setIfInBounds_toArray, List.set_cons_zero, List.set_cons_succ]
          refine wpL_pure (.slice (some ⟨g6, 0, none⟩) 32 32) rfl (by kernel_rfl) ?_
          simp only [Act.put, List.setIfInBounds_toArray, List.set_cons_zero, List.set_cons_succ]
          refine wpL_pure (.int .i64 (32 : Int)) rfl (by kernel_rfl) ?_
          simp only [Act.put, List.setIfInBounds_toArray, List.set_cons_zero, List.set_cons_succ]
          refine wpL_pure (.bool true) rfl (run_lti Tryd.underlying3 rfl rfl rfl (by have := HXK.out; rw [decide_eq_true_eq]; omega)) ?_
          simp only [Act.put, List.setIfInBounds_toArray, List.set_cons_zero, List.set_cons_succ]
          obtain ⟨g, o, ea, hc⟩ := (KF.out.1.keep RI.out.2.2.2.2).2.2.2 k HXK.out
          have EA := Lib.hid ea
          obtain ⟨y, hy⟩ : ∃ y, byte (keyS ks) k = y := ⟨_, rfl⟩
          have PY : Hid (byte (keyS ks) k = y ∧ y < 256) := Lib.hid ⟨hy, by rw [← hy]; exact byte_lt KF.out.1.2.2.1 k⟩
          have PC : Hid (wr.cell? ⟨g, o + k, none⟩ = some (.int .u8 (y : Nat))) := Lib.hid (by rw [hc, getD_byte_eq KF.out.1.2.2.1, hy])
          clear ea hc hy
          go_upto_region 11 with (fail)
          refine wp_region_lit ?_
          refine wpL_pure (.slice (some ⟨g6, 0, none⟩) 32 32) rfl (by kernel_rfl) ?_
          simp only [Act.put, List.setIfInBounds_toArray, List.set_cons_zero, List.set_cons_succ]
          refine wpL_pure (.int .i64 (k : Int)) rfl (by kernel_rfl) ?_
          simp only [Act.put, List.setIfInBounds_toArray, List.set_cons_zero, List.set_cons_succ]
          refine wpL_pure (.pointer (some ⟨g, o + k, none⟩)) rfl (run_idx _ _ _ _ _ g o 32 32 k rfl (by rw [EA.out]; rfl) rfl HXK.out (by unfold maxLen; have := XN.out; omega)) ?_
          simp only [Act.put, List.setIfInBounds_toArray, List.set_cons_zero, List.set_cons_succ]
          refine wpL_pure (.int .u8 (y : Nat)) rfl (run_load_one _ _ _ 5 _ _ rfl (g) (o + k) rfl (PC.out) (by kernel_rfl)) ?_
          simp only [Act.put, List.setIfInBounds_toArray, List.set_cons_zero, List.set_cons_succ]
          refine wpL_pure (.int .u8 (y : Nat)) rfl (by kernel_rfl) ?_
          simp only [Act.put, List.setIfInBounds_toArray, List.set_cons_zero, List.set_cons_succ]
          obtain ⟨wrb, hwrb⟩ : ∃ V, V = wr.alloc (.cells #[.int .u8 ((y ^^^ 54 : Nat) : Int)] 5) := ⟨_, rfl⟩
          obtain ⟨v7, y1, r1, r2⟩ := (RI.out.2).push ((y ^^^ 54 : Nat) : Int) (by have := Nat.xor_lt_two_pow (n := 8) (x := y) (y := 54) PY.out.2 (by omega); omega) (by rw [List.length_take]; have := HK.out; omega) wrb hwrb
          have AP := Lib.hid r1
          have T1 := Lib.hid r2
          clear r1 r2
          go_upto_region 12 with (fail)
          refine wp_region_lit ?_
          refine wpL_pure (u7) rfl (by kernel_rfl) ?_
          simp only [Act.put, List.setIfInBounds_toArray, List.set_cons_zero, List.set_cons_succ]
          refine wpL_pure (.int .u8 (y : Nat)) rfl (by kernel_rfl) ?_
          simp only [Act.put, List.setIfInBounds_toArray, List.set_cons_zero, List.set_cons_succ]
          refine wpL_pure (.int .u8 ((y ^^^ 54 : Nat) : Int)) rfl (run_biti (.inr (.inr rfl)) Tryd.underlying5 rfl rfl rfl _ (u8_xor_nat y 54 PY.out.2 (by omega))) ?_
          simp only [Act.put, List.setIfInBounds_toArray, List.set_cons_zero, List.set_cons_succ]
          refine wpL_value (.slice (some ⟨wr.heap.size, 0, none⟩) 1 1) (wrb) rfl (by rw [hwrb]; kernel_rfl) ?_
          simp only [Act.put, List.setIfInBounds_toArray, List.set_cons_zero, List.set_cons_succ]
          refine wpL_value (v7) (y1) rfl (run_app _ _ _ _ _ _ _ _ _ rfl rfl rfl rfl AP.out) ?_
          simp only [Act.put, List.setIfInBounds_toArray, List.set_cons_zero, List.set_cons_succ]
          refine wpL_pure (v7) rfl (by kernel_rfl) ?_
          simp only [Act.put, List.setIfInBounds_toArray, List.set_cons_zero, List.set_cons_succ]
          clear AP hwrb
          obtain ⟨y1b, hy1b⟩ : ∃ V, V = y1.alloc (.cells #[.int .u8 ((y ^^^ 92 : Nat) : Int)] 5) := ⟨_, rfl⟩
          obtain ⟨v8, y2, r1, r2⟩ := (T1.out.swap).push ((y ^^^ 92 : Nat) : Int) (by have := Nat.xor_lt_two_pow (n := 8) (x := y) (y := 92) PY.out.2 (by omega); omega) (by rw [List.length_take]; have := HK.out; omega) y1b hy1b
          have AP := Lib.hid r1
          have T2 := Lib.hid r2
          clear r1 r2
          go_upto_region 13 with (fail)
          refine wp_region_lit ?_
          refine wpL_pure (u8) rfl (by kernel_rfl) ?_
          simp only [Act.put, List.setIfInBounds_toArray, List.set_cons_zero, List.set_cons_succ]
          refine wpL_pure (.int .u8 (y : Nat)) rfl (by kernel_rfl) ?_
          simp only [Act.put, List.setIfInBounds_toArray, List.set_cons_zero, List.set_cons_succ]
          refine wpL_pure (.int .u8 ((y ^^^ 92 : Nat) : Int)) rfl (run_biti (.inr (.inr rfl)) Tryd.underlying5 rfl rfl rfl _ (u8_xor_nat y 92 PY.out.2 (by omega))) ?_
          simp only [Act.put, List.setIfInBounds_toArray, List.set_cons_zero, List.set_cons_succ]
          refine wpL_value (.slice (some ⟨y1.heap.size, 0, none⟩) 1 1) (y1b) rfl (by rw [hy1b]; kernel_rfl) ?_
          simp only [Act.put, List.setIfInBounds_toArray, List.set_cons_zero, List.set_cons_succ]
          refine wpL_value (v8) (y2) rfl (run_app _ _ _ _ _ _ _ _ _ rfl rfl rfl rfl AP.out) ?_
          simp only [Act.put, List.setIfInBounds_toArray, List.set_cons_zero, List.set_cons_succ]
          refine wpL_pure (v8) rfl (by kernel_rfl) ?_
          simp only [Act.put, List.setIfInBounds_toArray, List.set_cons_zero, List.set_cons_succ]
          clear AP hy1b
          go_upto_region 8 with (fail)
          refine wp_region_lit ?_
          refine wpL_pure (.int .i64 (k : Int)) rfl (by kernel_rfl) ?_
          simp only [Act.put, List.setIfInBounds_toArray, List.set_cons_zero, List.set_cons_succ]
          refine wpL_pure (.int .i64 ((k + 1 : Nat) : Int)) rfl (run_addi Tryd.underlying3 rfl rfl rfl _ (by have := HK.out; rw [wrap_in _ (by omega) (by omega)]; omega)) ?_
          simp only [Act.put, List.setIfInBounds_toArray, List.set_cons_zero, List.set_cons_succ]
          refine wpL_pure (.int .i64 ((k + 1 : Nat) : Int)) rfl (by kernel_rfl) ?_
          simp only [Act.put, List.setIfInBounds_toArray, List.set_cons_zero, List.set_cons_succ]
          have NX : Hid (k + 1 ≤ 64 ∧ Two wl y2 v7 v8 ((padK ks 54).take (k + 1)) ((padK ks 92).take (k + 1))) := Lib.hid ⟨HK.out, by rw [padK_succ ks 54 HK.out, padK_succ ks 92 HK.out, PY.out.1]; exact T2.out.swap⟩
          unfold wpList
          go_roundw
          case rel => first | exact ⟨k + 1, rfl, NX⟩ | ((repeat apply Exists.intro); exact ⟨⟨k + 1, rfl, NX⟩, rfl⟩)
          case measure => simp [intOf]; have := HK.out; omega
        · have HXK := Lib.hid hx
          clear hx
          have PY : Hid (byte (keyS ks) k = 0 ∧ 0 < 256) := Lib.hid ⟨byte_none (by have := HXK.out; have := KF.out.1.1; omega), by omega⟩
          go_upto_region 10 with (fail)
          refine wp_region_lit ?_
          refine wpL_pure (.int .i64 (k : Int)) rfl (by kernel_rfl) ?_
          simp only [Act.put, List.setIfInBounds_toArray, List.set_cons_zero, List.set_cons_succ]
          refine wpL_pure (.slice (some ⟨g6, 0, none⟩) 32 32) rfl (by kernel_rfl) ?_
          simp only [Act.put, List.setIfInBounds_toArray, List.set_cons_zero, List.set_cons_succ]
          refine wpL_pure (.int .i64 (32 : Int)) rfl (by kernel_rfl) ?_
          simp only [Act.put, List.setIfInBounds_toArray, List.set_cons_zero, List.set_cons_succ]
          refine wpL_pure (.bool false) rfl (run_lti Tryd.underlying3 rfl rfl rfl (by have := HXK.out; rw [decide_eq_false_iff_not]; omega)) ?_
          simp only [Act.put, List.setIfInBounds_toArray, List.set_cons_zero, List.set_cons_succ]
          obtain ⟨wrb, hwrb⟩ : ∃ V, V = wr.alloc (.cells #[.int .u8 ((0 ^^^ 54 : Nat) : Int)] 5) := ⟨_, rfl⟩
          obtain ⟨v7, y1, r1, r2⟩ := (RI.out.2).push ((0 ^^^ 54 : Nat) : Int) (by have := Nat.xor_lt_two_pow (n := 8) (x := 0) (y := 54) PY.out.2 (by omega); omega) (by rw [List.length_take]; have := HK.out; omega) wrb hwrb
          have AP := Lib.hid r1
          have T1 := Lib.hid r2
          clear r1 r2
          go_upto_region 12 with (fail)
          refine wp_region_lit ?_
          refine wpL_pure (u7) rfl (by kernel_rfl) ?_
          simp only [Act.put, List.setIfInBounds_toArray, List.set_cons_zero, List.set_cons_succ]
          refine wpL_pure (.int .u8 0) rfl (by kernel_rfl) ?_
          simp only [Act.put, List.setIfInBounds_toArray, List.set_cons_zero, List.set_cons_succ]
          refine wpL_pure (.int .u8 ((0 ^^^ 54 : Nat) : Int)) rfl (run_biti (.inr (.inr rfl)) Tryd.underlying5 rfl rfl rfl _ (u8_xor_nat 0 54 PY.out.2 (by omega))) ?_
          simp only [Act.put, List.setIfInBounds_toArray, List.set_cons_zero, List.set_cons_succ]
          refine wpL_value (.slice (some ⟨wr.heap.size, 0, none⟩) 1 1) (wrb) rfl (by rw [hwrb]; kernel_rfl) ?_
          simp only [Act.put, List.setIfInBounds_toArray, List.set_cons_zero, List.set_cons_succ]
          refine wpL_value (v7) (y1) rfl (run_app _ _ _ _ _ _ _ _ _ rfl rfl rfl rfl AP.out) ?_
          simp only [Act.put, List.setIfInBounds_toArray, List.set_cons_zero, List.set_cons_succ]
          refine wpL_pure (v7) rfl (by kernel_rfl) ?_
          simp only [Act.put, List.setIfInBounds_toArray, List.set_cons_zero, List.set_cons_succ]
          clear AP hwrb
          obtain ⟨y1b, hy1b⟩ : ∃ V, V = y1.alloc (.cells #[.int .u8 ((0 ^^^ 92 : Nat) : Int)] 5) := ⟨_, rfl⟩
          obtain ⟨v8, y2, r1, r2⟩ := (T1.out.swap).push ((0 ^^^ 92 : Nat) : Int) (by have := Nat.xor_lt_two_pow (n := 8) (x := 0) (y := 92) PY.out.2 (by omega); omega) (by rw [List.length_take]; have := HK.out; omega) y1b hy1b
          have AP := Lib.hid r1
          have T2 := Lib.hid r2
          clear r1 r2
          go_upto_region 13 with (fail)
          refine wp_region_lit ?_
          refine wpL_pure (u8) rfl (by kernel_rfl) ?_
          simp only [Act.put, List.setIfInBounds_toArray, List.set_cons_zero, List.set_cons_succ]
          refine wpL_pure (.int .u8 0) rfl (by kernel_rfl) ?_
          simp only [Act.put, List.setIfInBounds_toArray, List.set_cons_zero, List.set_cons_succ]
          refine wpL_pure (.int .u8 ((0 ^^^ 92 : Nat) : Int)) rfl (run_biti (.inr (.inr rfl)) Tryd.underlying5 rfl rfl rfl _ (u8_xor_nat 0 92 PY.out.2 (by omega))) ?_
          simp only [Act.put, List.setIfInBounds_toArray, List.set_cons_zero, List.set_cons_succ]
          refine wpL_value (.slice (some ⟨y1.heap.size, 0, none⟩) 1 1) (y1b) rfl (by rw [hy1b]; kernel_rfl) ?_
          simp only [Act.put, List.setIfInBounds_toArray, List.set_cons_zero, List.set_cons_succ]
          refine wpL_value (v8) (y2) rfl (run_app _ _ _ _ _ _ _ _ _ rfl rfl rfl rfl AP.out) ?_
          simp only [Act.put, List.setIfInBounds_toArray, List.set_cons_zero, List.set_cons_succ]
          refine wpL_pure (v8) rfl (by kernel_rfl) ?_
          simp only [Act.put, List.setIfInBounds_toArray, List.set_cons_zero, List.set_cons_succ]
          clear AP hy1b
          go_upto_region 8 with (fail)
          refine wp_region_lit ?_
          refine wpL_pure (.int .i64 (k : Int)) rfl (by kernel_rfl) ?_
          simp only [Act.put, List.setIfInBounds_toArray, List.set_cons_zero, List.set_cons_succ]
          refine wpL_pure (.int .i64 ((k + 1 : Nat) : Int)) rfl (run_addi Tryd.underlying3 rfl rfl rfl _ (by have := HK.out; rw [wrap_in _ (by omega) (by omega)]; omega)) ?_
          simp only [Act.put, List.setIfInBounds_toArray, List.set_cons_zero, List.set_cons_succ]
          refine wpL_pure (.int .i64 ((k + 1 : Nat) : Int)) rfl (by kernel_rfl) ?_
          simp only [Act.put, List.setIfInBounds_toArray, List.set_cons_zero, List.set_cons_succ]
          have NX : Hid (k + 1 ≤ 64 ∧ Two wl y2 v7 v8 ((padK ks 54).take (k + 1)) ((padK ks 92).take (k + 1))) := Lib.hid ⟨HK.out, by rw [padK_succ ks 54 HK.out, padK_succ ks 92 HK.out, PY.out.1]; exact T2.out.swap⟩
          unfold wpList
          go_roundw
          case rel => first | exact ⟨k + 1, rfl, NX⟩ | ((repeat apply Exists.intro); exact ⟨⟨k + 1, rfl, NX⟩, rfl⟩)
          case measure => simp [intOf]; have := HK.out; omega
      · have HK := Lib.hid hlt
        have EK : Hid (k = 64) := Lib.hid (by have := RI.out.1; omega)
        clear hlt
        go_upto_region 7 with (fail)
        refine wp_region_lit ?_
        refine wpL_pure (.int .i64 (k : Int)) rfl (by kernel_rfl) ?_
        simp only [Act.put, List.setIfInBounds_toArray, List.set_cons_zero, List.set_cons_succ]
        refine wpL_pure (.bool false) rfl (run_lti Tryd.underlying3 rfl rfl rfl (by have := HK.out; rw [decide_eq_false_iff_not]; omega)) ?_
        simp only [Act.put, List.setIfInBounds_toArray, List.set_cons_zero, List.set_cons_succ]
        have RT := RI.out.2
        rw [EK.out, List.take_of_length_le (by rw [padK_len]; omega), List.take_of_length_le (by rw [padK_len]; omega)] at RT
        obtain ⟨a7, c7, e7, s7⟩ := own_sl RT.1
        obtain ⟨a8, c8, e8, s8⟩ := own_sl RT.2.1
        rw [padK_len] at e7 e8 s7 s8
        subst e7
        subst e8
        have BW : Hid (Below g4 w wr ∧ Blk wr g4 22 (u8l (List.replicate 32 0)).toArray ∧ Sl wr a7 64 c7 (padK ks 54) ∧ Sl wr a8 64 c8 (padK ks 92) ∧ g4 < wr.heap.size) := Lib.hid ⟨BB.out.1.trans (RT.2.2.2.mono (by have := BB.out.2.lt; omega)), BB.out.2.below RT.2.2.2, s7, s8, (BB.out.2.below RT.2.2.2).lt⟩
        clear RT s7 s8 RI
        obtain ⟨z1, hz1⟩ : ∃ V, V = wr.alloc (.cells #[.slice a7 64 c7, .slice a n c] 32) := ⟨_, rfl⟩
        have q1 : Below wr.heap.size wr z1 := by rw [hz1]; exact (Below.refl _ _).alloc (Nat.le_refl _) _
        have qz : Below g4 w z1 := BW.out.1.trans (q1.mono (by have := BW.out.2.2.2.2; omega))
        have Z1 : Hid (Below g4 w z1 ∧ Blk z1 g4 22 (u8l (List.replicate 32 0)).toArray ∧ Sl z1 a8 64 c8 (padK ks 92) ∧ PSl z1 (some ⟨wr.heap.size, 0, none⟩) 2 [padK ks 54, ts]) := Lib.hid ⟨qz, BW.out.2.1.below q1, BW.out.2.2.2.1.below q1, psl_two (by rw [hz1]; exact Blk.new _ _ _) (BW.out.2.2.1.below q1) (HS.out.below (by rw [G4.out]; exact qz)) (by omega) (by have := HN.out; omega)⟩
        clear q1 qz
        go_upto_region 14 with (fail)
        refine wp_region_lit ?_
        refine wpL_pure (.slice a7 64 c7) rfl (by kernel_rfl) ?_
        simp only [Act.put, List.setIfInBounds_toArray, List.set_cons_zero, List.set_cons_succ]
        refine wpL_pure (.slice a n c) rfl (by kernel_rfl) ?_
        simp only [Act.put, List.setIfInBounds_toArray, List.set_cons_zero, List.set_cons_succ]
        refine wpL_value (.slice (some ⟨wr.heap.size, 0, none⟩) 2 2) (z1) rfl (by rw [hz1]; kernel_rfl) ?_
        simp only [Act.put, List.setIfInBounds_toArray, List.set_cons_zero, List.set_cons_succ]
        refine wpL_call 52 #[.slice (some ⟨wr.heap.size, 0, none⟩) 2 2] rfl (by kernel_rfl) (((joined_any z1 (some ⟨wr.heap.size, 0, none⟩) 2 2 [padK ks 54, ts] Z1.out.2.2.2 (by omega) (by have := HN.out; have := HS.out.1.1; simp [padK_len]; omega))).mono fun e z2 ⟨vj, he, ho, hb⟩ => ⟨vj, he, ?_⟩)
        simp only [Act.put, List.setIfInBounds_toArray, List.set_cons_zero, List.set_cons_succ]
        have EJ : ([padK ks 54, ts] : List (List Int)).flatten = padK ks 54 ++ ts := by simp
        rw [EJ] at ho
        obtain ⟨aj, cj, ej, sj⟩ := own_sl ho
        subst ej
        have Z2 : Hid (Below g4 w z2 ∧ Blk z2 g4 22 (u8l (List.replicate 32 0)).toArray ∧ Sl z2 a8 64 c8 (padK ks 92) ∧ Sl z2 aj (padK ks 54 ++ ts).length cj (padK ks 54 ++ ts)) := Lib.hid ⟨Z1.out.1.trans (hb.mono (by have := Z1.out.2.1.lt; omega)), Z1.out.2.1.below hb, Z1.out.2.2.1.below hb, sj⟩
        clear hb ho sj EJ hz1 Z1
        refine wpL_call 58 #[.slice aj (padK ks 54 ++ ts).length cj] rfl (by kernel_rfl) (((refsum_any z2 aj (padK ks 54 ++ ts).length cj (padK ks 54 ++ ts) Z2.out.2.2.2 (by have := HN.out; have := HS.out.1.1; simp [padK_len]; omega) (HW.out.below (by rw [G4.out]; exact Z2.out.1)))).mono fun e z3 ⟨he, hb⟩ => ⟨.agg (u8l (shaS (padK ks 54 ++ ts))).toArray, he, ?_⟩)
        simp only [Act.put, List.setIfInBounds_toArray, List.set_cons_zero, List.set_cons_succ]
        obtain ⟨z4, hz4⟩ : ∃ V, V = (z3.alloc (.cells (u8l (List.replicate 32 0)).toArray 22)).setRow z3.heap.size (u8l (shaS (padK ks 54 ++ ts))).toArray := ⟨_, rfl⟩
        have Z4 : Hid (Below g4 w z4 ∧ Blk z4 g4 22 (u8l (List.replicate 32 0)).toArray ∧ Sl z4 a8 64 c8 (padK ks 92) ∧ Blk z4 z3.heap.size 22 (u8l (shaS (padK ks 54 ++ ts))).toArray ∧ g4 < z4.heap.size) := Lib.hid (qq (show Below z3.heap.size z3 z4 by rw [hz4]; exact below_setRow ((Below.refl _ _).alloc (Nat.le_refl _) _) (Nat.le_refl _) _) fun q => qq (show Below z2.heap.size z2 z4 from hb.trans (q.mono hb.size)) fun q2 => ⟨Z2.out.1.trans (q2.mono (by have := Z2.out.2.1.lt; omega)), Z2.out.2.1.below q2, Z2.out.2.2.1.below q2, by rw [hz4]; exact setRow_heap _ _ _ _ _ _ (Blk.new z3 22 _), (Z2.out.2.1.below q2).lt⟩)
        refine wpL_value (.pointer (some ⟨z3.heap.size, 0, none⟩)) (z3.alloc (.cells (u8l (List.replicate 32 0)).toArray 22)) rfl (by kernel_rfl) ?_
        simp only [Act.put, List.setIfInBounds_toArray, List.set_cons_zero, List.set_cons_succ]
        refine wpList_store_rowTo rfl 22 _ _ rfl rfl z3.heap.size (u8l (shaS (padK ks 54 ++ ts))).toArray rfl rfl 22 _ (Blk.new z3 22 _) (by simp only [List.size_toArray, u8l_len, shaS_len]; kernel_rfl) (by simp [u8l_len, shaS_len]) (u8l_one _) ?_
        rw [← hz4]
        clear hz4 hb Z2
        generalize z3.heap.size = gt at Z4 ⊢
        obtain ⟨z5, hz5⟩ : ∃ V, V = z4.alloc (.cells #[.slice a8 64 c8, .slice (some ⟨gt, 0, none⟩) 32 32] 32) := ⟨_, rfl⟩
        have q1 : Below z4.heap.size z4 z5 := by rw [hz5]; exact (Below.refl _ _).alloc (Nat.le_refl _) _
        have Z5 : Hid (Below g4 w z5 ∧ Blk z5 g4 22 (u8l (List.replicate 32 0)).toArray ∧ PSl z5 (some ⟨z4.heap.size, 0, none⟩) 2 [padK ks 92, shaS (padK ks 54 ++ ts)]) := Lib.hid ⟨Z4.out.1.trans (q1.mono (by have := Z4.out.2.2.2.2; omega)), Z4.out.2.1.below q1, psl_two (by rw [hz5]; exact Blk.new _ _ _) (Z4.out.2.2.1.below q1) (sl_blk (Z4.out.2.2.2.1.below q1) (shaS_len _) (shaS_byte _) (by omega)) (by omega) (by omega)⟩
        clear q1
        go_upto_region 15 with (fail)
        refine wp_region_lit ?_
        refine wpL_pure (.slice a8 64 c8) rfl (by kernel_rfl) ?_
        simp only [Act.put, List.setIfInBounds_toArray, List.set_cons_zero, List.set_cons_succ]
        refine wpL_pure (.slice (some ⟨gt, 0, none⟩) 32 32) rfl (by kernel_rfl) ?_
        simp only [Act.put, List.setIfInBounds_toArray, List.set_cons_zero, List.set_cons_succ]
        refine wpL_value (.slice (some ⟨z4.heap.size, 0, none⟩) 2 2) (z5) rfl (by rw [hz5]; kernel_rfl) ?_
        simp only [Act.put, List.setIfInBounds_toArray, List.set_cons_zero, List.set_cons_succ]
        refine wpL_call 52 #[.slice (some ⟨z4.heap.size, 0, none⟩) 2 2] rfl (by kernel_rfl) (((joined_any z5 (some ⟨z4.heap.size, 0, none⟩) 2 2 [padK ks 92, shaS (padK ks 54 ++ ts)] Z5.out.2.2 (by omega) (by simp [padK_len, shaS_len]))).mono fun e z6 ⟨vj, he, ho, hb⟩ => ⟨vj, he, ?_⟩)
        simp only [Act.put, List.setIfInBounds_toArray, List.set_cons_zero, List.set_cons_succ]
        have EJ : ([padK ks 92, shaS (padK ks 54 ++ ts)] : List (List Int)).flatten = padK ks 92 ++ shaS (padK ks 54 ++ ts) := by simp
        rw [EJ] at ho
        obtain ⟨ak, ck, ej, sj⟩ := own_sl ho
        subst ej
        have Z6 : Hid (Below g4 w z6 ∧ Blk z6 g4 22 (u8l (List.replicate 32 0)).toArray ∧ Sl z6 ak (padK ks 92 ++ shaS (padK ks 54 ++ ts)).length ck (padK ks 92 ++ shaS (padK ks 54 ++ ts))) := Lib.hid ⟨Z5.out.1.trans (hb.mono (by have := Z5.out.2.1.lt; omega)), Z5.out.2.1.below hb, sj⟩
        clear hb ho sj EJ hz5 Z5
        refine wpL_call 58 #[.slice ak (padK ks 92 ++ shaS (padK ks 54 ++ ts)).length ck] rfl (by kernel_rfl) (((refsum_any z6 ak (padK ks 92 ++ shaS (padK ks 54 ++ ts)).length ck (padK ks 92 ++ shaS (padK ks 54 ++ ts)) Z6.out.2.2 (by simp [padK_len, shaS_len]) (HW.out.below (by rw [G4.out]; exact Z6.out.1)))).mono fun e z7 ⟨he, hb⟩ => ⟨.agg (u8l (macS ks ts)).toArray, he, ?_⟩)
        simp only [Act.put, List.setIfInBounds_toArray, List.set_cons_zero, List.set_cons_succ]
        have Z7 : Hid (Below g4 w z7 ∧ Blk z7 g4 22 (u8l (List.replicate 32 0)).toArray) := Lib.hid ⟨Z6.out.1.trans (hb.mono (by have := Z6.out.2.1.lt; omega)), Z6.out.2.1.below hb⟩
        clear hb
        refine wpList_store_rowTo rfl 22 _ _ rfl rfl g4 (u8l (macS ks ts)).toArray rfl rfl 22 _ Z7.out.2 (by simp only [List.size_toArray, u8l_len, macS_len]; kernel_rfl) (by simp [u8l_len, macS_len]) (u8l_one _) ?_
        go_wp2_with fail
        refine bodyPost_ret (results_cell_row rfl _ _ g4 22 _ (0, 0) _ rfl (setRow_heap _ _ _ _ _ _ Z7.out.2) Tryd.underlying22 rfl (by simp only [List.size_toArray, u8l_len, macS_len]; kernel_rfl)) rfl ?_
        exact ⟨rfl, by rw [G4.out]; exact below_setRow Z7.out.1 (Nat.le_refl _) _⟩
  · have HL := Lib.hid hl
    clear hl
    go_upto_region 2 with (fail)
    refine wp_region_lit ?_
    refine wpL_pure (.slice ka kn kc) rfl (by kernel_rfl) ?_
    simp only [Act.put, List.setIfInBounds_toArray, List.set_cons_zero, List.set_cons_succ]
    refine wpL_pure (.int .i64 (kn : Int)) rfl (by kernel_rfl) ?_
    simp only [Act.put, List.setIfInBounds_toArray, List.set_cons_zero, List.set_cons_succ]
    refine wpL_pure (.bool false) rfl (run_gti Tryd.underlying3 rfl rfl rfl (by have := HL.out; rw [decide_eq_false_iff_not]; omega)) ?_
    simp only [Act.put, List.setIfInBounds_toArray, List.set_cons_zero, List.set_cons_succ]
    have KE : Hid (keyS ks = ks) := Lib.hid (by unfold keyS; rw [if_neg (by have := HL.out; have := HKS.out.1.1; omega)])
    have XN : Hid (kn ≤ 64) := Lib.hid (by have := HL.out; omega)
    have KF : Hid (Sl w1 ka kn kc (keyS ks)) := Lib.hid (by rw [KE.out]; exact HKS.out.below (by rw [G4.out]; exact B1.out.2.1))
    have BB : Hid (Below g4 w w1 ∧ Blk w1 g4 22 (u8l (List.replicate 32 0)).toArray) := Lib.hid ⟨B1.out.2.1, B1.out.1⟩
    go_upto_region 5 with (fail)
    refine wp_region_lit ?_
    refine wpL_pure (.slice none 0 0) rfl (by kernel_rfl) ?_
    simp only [Act.put, List.setIfInBounds_toArray, List.set_cons_zero, List.set_cons_succ]
    refine wpL_pure (.slice none 0 0) rfl (by kernel_rfl) ?_
    simp only [Act.put, List.setIfInBounds_toArray, List.set_cons_zero, List.set_cons_succ]
    go_upto_region 6 with (fail)
    refine wp_region_lit ?_
    refine wpL_pure (.int .i64 0) rfl (by kernel_rfl) ?_
    simp only [Act.put, List.setIfInBounds_toArray, List.set_cons_zero, List.set_cons_succ]
    obtain ⟨wl, hwl⟩ : ∃ V, V = w1 := ⟨_, rfl⟩
    rw [← hwl] at KF BB ⊢
    clear hwl
    go_wp2_with fail
    go_loopw [7, 8, 9] (fun s7 s8 s9 wr => ∃ k : Nat, s9 = .int .i64 (k : Int) ∧ Hid (k ≤ 64 ∧ Two wl wr s7 s8 ((padK ks 54).take k) ((padK ks 92).take k))) (fun _ _ s9 _ => 64 - (intOf s9).toNat)
    case atStart => exact ⟨0, rfl, Lib.hid ⟨by omega, Two.start wl⟩⟩
    case round =>
      obtain ⟨k, rfl, RI⟩ := hrel
      by_cases hlt : k < 64
      · have HK := Lib.hid hlt
        clear hlt
        go_upto_region 7 with (fail)
        refine wp_region_lit ?_
        refine wpL_pure (.int .i64 (k : Int)) rfl (by kernel_rfl) ?_
        simp only [Act.put, List.setIfInBounds_toArray, List.set_cons_zero, List.set_cons_succ]
        refine wpL_pure (.bool true) rfl (run_lti Tryd.underlying3 rfl rfl rfl (by have := HK.out; rw [decide_eq_true_eq]; omega)) ?_
        simp only [Act.put, List.setIfInBounds_toArray, List.set_cons_zero, List.set_cons_succ]
        go_upto_region 9 with (fail)
        refine wp_region_lit ?_
        refine wpL_pure (.int .u8 0) rfl (by kernel_rfl) ?_
        simp only [Act.put, List.setIfInBounds_toArray, List.set_cons_zero, List.set_cons_succ]
        by_cases hx : k < kn
        · have HXK := Lib.hid hx
          clear hx
          go_upto_region 10 with (fail)
          refine wp_region_lit ?_
          refine wpL_pure (.int .i64 (k : Int)) rfl (by kernel_rfl) ?_
          simp only [Act.put, List.setIfInBounds_toArray, List.set_cons_zero, List.set_cons_succ]
          refine wpL_pure (.slice ka kn kc) rfl (by kernel_rfl) ?_
          simp only [Act.put, List.setIfInBounds_toArray, List.set_cons_zero, List.set_cons_succ]
          refine wpL_pure (.int .i64 (kn : Int)) rfl (by kernel_rfl) ?_
          simp only [Act.put, List.setIfInBounds_toArray, List.set_cons_zero, List.set_cons_succ]
          refine wpL_pure (.bool true) rfl (run_lti Tryd.underlying3 rfl rfl rfl (by have := HXK.out; rw [decide_eq_true_eq]; omega)) ?_
          simp only [Act.put, List.setIfInBounds_toArray, List.set_cons_zero, List.set_cons_succ]
          obtain ⟨g, o, ea, hc⟩ := (KF.out.1.keep RI.out.2.2.2.2).2.2.2 k HXK.out
          have EA := Lib.hid ea
          obtain ⟨y, hy⟩ : ∃ y, byte (keyS ks) k = y := ⟨_, rfl⟩
          have PY : Hid (byte (keyS ks) k = y ∧ y < 256) := Lib.hid ⟨hy, by rw [← hy]; exact byte_lt KF.out.1.2.2.1 k⟩
          have PC : Hid (wr.cell? ⟨g, o + k, none⟩ = some (.int .u8 (y : Nat))) := Lib.hid (by rw [hc, getD_byte_eq KF.out.1.2.2.1, hy])
          clear ea hc hy
          go_upto_region 11 with (fail)
          refine wp_region_lit ?_
          refine wpL_pure (.slice ka kn kc) rfl (by kernel_rfl) ?_
          simp only [Act.put, List.setIfInBounds_toArray, List.set_cons_zero, List.set_cons_succ]
          refine wpL_pure (.int .i64 (k : Int)) rfl (by kernel_rfl) ?_
          simp only [Act.put, List.setIfInBounds_toArray, List.set_cons_zero, List.set_cons_succ]
          refine wpL_pure (.pointer (some ⟨g, o + k, none⟩)) rfl (run_idx _ _ _ _ _ g o kn kc k rfl (by rw [EA.out]; rfl) rfl HXK.out (by unfold maxLen; have := XN.out; omega)) ?_
          simp only [Act.put, List.setIfInBounds_toArray, List.set_cons_zero, List.set_cons_succ]
          refine wpL_pure (.int .u8 (y : Nat)) rfl (run_load_one _ _ _ 5 _ _ rfl (g) (o + k) rfl (PC.out) (by kernel_rfl)) ?_
          simp only [Act.put, List.setIfInBounds_toArray, List.set_cons_zero, List.set_cons_succ]
          refine wpL_pure (.int .u8 (y : Nat)) rfl (by kernel_rfl) ?_
          simp only [Act.put, List.setIfInBounds_toArray, List.set_cons_zero, List.set_cons_succ]
          obtain ⟨wrb, hwrb⟩ : ∃ V, V = wr.alloc (.cells #[.int .u8 ((y ^^^ 54 : Nat) : Int)] 5) := ⟨_, rfl⟩
          obtain ⟨v7, y1, r1, r2⟩ := (RI.out.2).push ((y ^^^ 54 : Nat) : Int) (by have := Nat.xor_lt_two_pow (n := 8) (x := y) (y := 54) PY.out.2 (by omega); omega) (by rw [List.length_take]; have := HK.out; omega) wrb hwrb
          have AP := Lib.hid r1
          have T1 := Lib.hid r2
          clear r1 r2
          go_upto_region 12 with (fail)
          refine wp_region_lit ?_
          refine wpL_pure (u7) rfl (by kernel_rfl) ?_
          simp only [Act.put, List.setIfInBounds_toArray, List.set_cons_zero, List.set_cons_succ]
          refine wpL_pure (.int .u8 (y : Nat)) rfl (by kernel_rfl) ?_
          simp only [Act.put, List.setIfInBounds_toArray, List.set_cons_zero, List.set_cons_succ]
          refine wpL_pure (.int .u8 ((y ^^^ 54 : Nat) : Int)) rfl (run_biti (.inr (.inr rfl)) Tryd.underlying5 rfl rfl rfl _ (u8_xor_nat y 54 PY.out.2 (by omega))) ?_
          simp only [Act.put, List.setIfInBounds_toArray, List.set_cons_zero, List.set_cons_succ]
          refine wpL_value (.slice (some ⟨wr.heap.size, 0, none⟩) 1 1) (wrb) rfl (by rw [hwrb]; kernel_rfl) ?_
          simp only [Act.put, List.setIfInBounds_toArray, List.set_cons_zero, List.set_cons_succ]
          refine wpL_value (v7) (y1) rfl (run_app _ _ _ _ _ _ _ _ _ rfl rfl rfl rfl AP.out) ?_
          simp only [Act.put, List.setIfInBounds_toArray, List.set_cons_zero, List.set_cons_succ]
          refine wpL_pure (v7) rfl (by kernel_rfl) ?_
          simp only [Act.put, List.setIfInBounds_toArray, List.set_cons_zero, List.set_cons_succ]
          clear AP hwrb
          obtain ⟨y1b, hy1b⟩ : ∃ V, V = y1.alloc (.cells #[.int .u8 ((y ^^^ 92 : Nat) : Int)] 5) := ⟨_, rfl⟩
          obtain ⟨v8, y2, r1, r2⟩ := (T1.out.swap).push ((y ^^^ 92 : Nat) : Int) (by have := Nat.xor_lt_two_pow (n := 8) (x := y) (y := 92) PY.out.2 (by omega); omega) (by rw [List.length_take]; have := HK.out; omega) y1b hy1b
          have AP := Lib.hid r1
          have T2 := Lib.hid r2
          clear r1 r2
          go_upto_region 13 with (fail)
          refine wp_region_lit ?_
          refine wpL_pure (u8) rfl (by kernel_rfl) ?_
          simp only [Act.put, List.setIfInBounds_toArray, List.set_cons_zero, List.set_cons_succ]
          refine wpL_pure (.int .u8 (y : Nat)) rfl (by kernel_rfl) ?_
          simp only [Act.put, List.setIfInBounds_toArray, List.set_cons_zero, List.set_cons_succ]
          refine wpL_pure (.int .u8 ((y ^^^ 92 : Nat) : Int)) rfl (run_biti (.inr (.inr rfl)) Tryd.underlying5 rfl rfl rfl _ (u8_xor_nat y 92 PY.out.2 (by omega))) ?_
          simp only [Act.put, List.setIfInBounds_toArray, List.set_cons_zero, List.set_cons_succ]
          refine wpL_value (.slice (some ⟨y1.heap.size, 0, none⟩) 1 1) (y1b) rfl (by rw [hy1b]; kernel_rfl) ?_
          simp only [Act.put, List.setIfInBounds_toArray, List.set_cons_zero, List.set_cons_succ]
          refine wpL_value (v8) (y2) rfl (run_app _ _ _ _ _ _ _ _ _ rfl rfl rfl rfl AP.out) ?_
          simp only [Act.put, List.setIfInBounds_toArray, List.set_cons_zero, List.set_cons_succ]
          refine wpL_pure (v8) rfl (by kernel_rfl) ?_
          simp only [Act.put, List.setIfInBounds_toArray, List.set_cons_zero, List.set_cons_succ]
          clear AP hy1b
          go_upto_region 8 with (fail)
          refine wp_region_lit ?_
          refine wpL_pure (.int .i64 (k : Int)) rfl (by kernel_rfl) ?_
          simp only [Act.put, List.setIfInBounds_toArray, List.set_cons_zero, List.set_cons_succ]
          refine wpL_pure (.int .i64 ((k + 1 : Nat) : Int)) rfl (run_addi Tryd.underlying3 rfl rfl rfl _ (by have := HK.out; rw [wrap_in _ (by omega) (by omega)]; omega)) ?_
          simp only [Act.put, List.setIfInBounds_toArray, List.set_cons_zero, List.set_cons_succ]
          refine wpL_pure (.int .i64 ((k + 1 : Nat) : Int)) rfl (by kernel_rfl) ?_
          simp only [Act.put, List.setIfInBounds_toArray, List.set_cons_zero, List.set_cons_succ]
          have NX : Hid (k + 1 ≤ 64 ∧ Two wl y2 v7 v8 ((padK ks 54).take (k + 1)) ((padK ks 92).take (k + 1))) := Lib.hid ⟨HK.out, by rw [padK_succ ks 54 HK.out, padK_succ ks 92 HK.out, PY.out.1]; exact T2.out.swap⟩
          unfold wpList
          go_roundw
          case rel => first | exact ⟨k + 1, rfl, NX⟩ | ((repeat apply Exists.intro); exact ⟨⟨k + 1, rfl, NX⟩, rfl⟩)
          case measure => simp [intOf]; have := HK.out; omega
        · have HXK := Lib.hid hx
          clear hx
          have PY : Hid (byte (keyS ks) k = 0 ∧ 0 < 256) := Lib.hid ⟨byte_none (by have := HXK.out; have := KF.out.1.1; omega), by omega⟩
          go_upto_region 10 with (fail)
          refine wp_region_lit ?_
          refine wpL_pure (.int .i64 (k : Int)) rfl (by kernel_rfl) ?_
          simp only [Act.put, List.setIfInBounds_toArray, List.set_cons_zero, List.set_cons_succ]
          refine wpL_pure (.slice ka kn kc) rfl (by kernel_rfl) ?_
          simp only [Act.put, List.setIfInBounds_toArray, List.set_cons_zero, List.set_cons_succ]
          refine wpL_pure (.int .i64 (kn : Int)) rfl (by kernel_rfl) ?_
          simp only [Act.put, List.setIfInBounds_toArray, List.set_cons_zero, List.set_cons_succ]
          refine wpL_pure (.bool false) rfl (run_lti Tryd.underlying3 rfl rfl rfl (by have := HXK.out; rw [decide_eq_false_iff_not]; omega)) ?_
          simp only [Act.put, List.setIfInBounds_toArray, List.set_cons_zero, List.set_cons_succ]
          obtain ⟨wrb, hwrb⟩ : ∃ V, V = wr.alloc (.cells #[.int .u8 ((0 ^^^ 54 : Nat) : Int)] 5) := ⟨_, rfl⟩
          obtain ⟨v7, y1, r1, r2⟩ := (RI.out.2).push ((0 ^^^ 54 : Nat) : Int) (by have := Nat.xor_lt_two_pow (n := 8) (x := 0) (y := 54) PY.out.2 (by omega); omega) (by rw [List.length_take]; have := HK.out; omega) wrb hwrb
          have AP := Lib.hid r1
          have T1 := Lib.hid r2
          clear r1 r2
          go_upto_region 12 with (fail)
          refine wp_region_lit ?_
          refine wpL_pure (u7) rfl (by kernel_rfl) ?_
          simp only [Act.put, List.setIfInBounds_toArray, List.set_cons_zero, List.set_cons_succ]
          refine wpL_pure (.int .u8 0) rfl (by kernel_rfl) ?_
          simp only [Act.put, List.setIfInBounds_toArray, List.set_cons_zero, List.set_cons_succ]
          refine wpL_pure (.int .u8 ((0 ^^^ 54 : Nat) : Int)) rfl (run_biti (.inr (.inr rfl)) Tryd.underlying5 rfl rfl rfl _ (u8_xor_nat 0 54 PY.out.2 (by omega))) ?_
          simp only [Act.put, List.setIfInBounds_toArray, List.set_cons_zero, List.set_cons_succ]
          refine wpL_value (.slice (some ⟨wr.heap.size, 0, none⟩) 1 1) (wrb) rfl (by rw [hwrb]; kernel_rfl) ?_
          simp only [Act.put, List.setIfInBounds_toArray, List.set_cons_zero, List.set_cons_succ]
          refine wpL_value (v7) (y1) rfl (run_app _ _ _ _ _ _ _ _ _ rfl rfl rfl rfl AP.out) ?_
          simp only [Act.put, List.setIfInBounds_toArray, List.set_cons_zero, List.set_cons_succ]
          refine wpL_pure (v7) rfl (by kernel_rfl) ?_
          simp only [Act.put, List.setIfInBounds_toArray, List.set_cons_zero, List.set_cons_succ]
          clear AP hwrb
          obtain ⟨y1b, hy1b⟩ : ∃ V, V = y1.alloc (.cells #[.int .u8 ((0 ^^^ 92 : Nat) : Int)] 5) := ⟨_, rfl⟩
          obtain ⟨v8, y2, r1, r2⟩ := (T1.out.swap).push ((0 ^^^ 92 : Nat) : Int) (by have := Nat.xor_lt_two_pow (n := 8) (x := 0) (y := 92) PY.out.2 (by omega); omega) (by rw [List.length_take]; have := HK.out; omega) y1b hy1b
          have AP := Lib.hid r1
          have T2 := Lib.hid r2
          clear r1 r2
          go_upto_region 13 with (fail)
          refine wp_region_lit ?_
          refine wpL_pure (u8) rfl (by kernel_rfl) ?_
          simp only [Act.put, List.setIfInBounds_toArray, List.set_cons_zero, List.set_cons_succ]
          refine wpL_pure (.int .u8 0) rfl (by kernel_rfl) ?_
          simp only [Act.put, List.setIfInBounds_toArray, List.set_cons_zero, List.set_cons_succ]
          refine wpL_pure (.int .u8 ((0 ^^^ 92 : Nat) : Int)) rfl (run_biti (.inr (.inr rfl)) Tryd.underlying5 rfl rfl rfl _ (u8_xor_nat 0 92 PY.out.2 (by omega))) ?_
          simp only [Act.put, List.setIfInBounds_toArray, List.set_cons_zero, List.set_cons_succ]
          refine wpL_value (.slice (some ⟨y1.heap.size, 0, none⟩) 1 1) (y1b) rfl (by rw [hy1b]; kernel_rfl) ?_
          simp only [Act.put, List.setIfInBounds_toArray, List.set_cons_zero, List.set_cons_succ]
          refine wpL_value (v8) (y2) rfl (run_app _ _ _ _ _ _ _ _ _ rfl rfl rfl rfl AP.out) ?_
          simp only [Act.put, List.setIfInBounds_toArray, List.set_cons_zero, List.set_cons_succ]
          refine wpL_pure (v8) rfl (by kernel_rfl) ?_
          simp only [Act.put, List.setIfInBounds_toArray, List.set_cons_zero, List.set_cons_succ]
          clear AP hy1b
          go_upto_region 8 with (fail)
          refine wp_region_lit ?_
          refine wpL_pure (.int .i64 (k : Int)) rfl (by kernel_rfl) ?_
          simp only [Act.put, List.setIfInBounds_toArray, List.set_cons_zero, List.set_cons_succ]
          refine wpL_pure (.int .i64 ((k + 1 : Nat) : Int)) rfl (run_addi Tryd.underlying3 rfl rfl rfl _ (by have := HK.out; rw [wrap_in _ (by omega) (by omega)]; omega)) ?_
          simp only [Act.put, List.setIfInBounds_toArray, List.set_cons_zero, List.set_cons_succ]
          refine wpL_pure (.int .i64 ((k + 1 : Nat) : Int)) rfl (by kernel_rfl) ?_
          simp only [Act.put, List.setIfInBounds_toArray, List.set_cons_zero, List.set_cons_succ]
          have NX : Hid (k + 1 ≤ 64 ∧ Two wl y2 v7 v8 ((padK ks 54).take (k + 1)) ((padK ks 92).take (k + 1))) := Lib.hid ⟨HK.out, by rw [padK_succ ks 54 HK.out, padK_succ ks 92 HK.out, PY.out.1]; exact T2.out.swap⟩
          unfold wpList
          go_roundw
          case rel => first | exact ⟨k + 1, rfl, NX⟩ | ((repeat apply Exists.intro); exact ⟨⟨k + 1, rfl, NX⟩, rfl⟩)
          case measure => simp [intOf]; have := HK.out; omega
      · have HK := Lib.hid hlt
        have EK : Hid (k = 64) := Lib.hid (by have := RI.out.1; omega)
        clear hlt
        go_upto_region 7 with (fail)
        refine wp_region_lit ?_
        refine wpL_pure (.int .i64 (k : Int)) rfl (by kernel_rfl) ?_
        simp only [Act.put, List.setIfInBounds_toArray, List.set_cons_zero, List.set_cons_succ]
        refine wpL_pure (.bool false) rfl (run_lti Tryd.underlying3 rfl rfl rfl (by have := HK.out; rw [decide_eq_false_iff_not]; omega)) ?_
        simp only [Act.put, List.setIfInBounds_toArray, List.set_cons_zero, List.set_cons_succ]
        have RT := RI.out.2
        rw [EK.out, List.take_of_length_le (by rw [padK_len]; omega), List.take_of_length_le (by rw [padK_len]; omega)] at RT
        obtain ⟨a7, c7, e7, s7⟩ := own_sl RT.1
        obtain ⟨a8, c8, e8, s8⟩ := own_sl RT.2.1
        rw [padK_len] at e7 e8 s7 s8
        subst e7
        subst e8
        have BW : Hid (Below g4 w wr ∧ Blk wr g4 22 (u8l (List.replicate 32 0)).toArray ∧ Sl wr a7 64 c7 (padK ks 54) ∧ Sl wr a8 64 c8 (padK ks 92) ∧ g4 < wr.heap.size) := Lib.hid ⟨BB.out.1.trans (RT.2.2.2.mono (by have := BB.out.2.lt; omega)), BB.out.2.below RT.2.2.2, s7, s8, (BB.out.2.below RT.2.2.2).lt⟩
        clear RT s7 s8 RI
        obtain ⟨z1, hz1⟩ : ∃ V, V = wr.alloc (.cells #[.slice a7 64 c7, .slice a n c] 32) := ⟨_, rfl⟩
        have q1 : Below wr.heap.size wr z1 := by rw [hz1]; exact (Below.refl _ _).alloc (Nat.le_refl _) _
        have qz : Below g4 w z1 := BW.out.1.trans (q1.mono (by have := BW.out.2.2.2.2; omega))
        have Z1 : Hid (Below g4 w z1 ∧ Blk z1 g4 22 (u8l (List.replicate 32 0)).toArray ∧ Sl z1 a8 64 c8 (padK ks 92) ∧ PSl z1 (some ⟨wr.heap.size, 0, none⟩) 2 [padK ks 54, ts]) := Lib.hid ⟨qz, BW.out.2.1.below q1, BW.out.2.2.2.1.below q1, psl_two (by rw [hz1]; exact Blk.new _ _ _) (BW.out.2.2.1.below q1) (HS.out.below (by rw [G4.out]; exact qz)) (by omega) (by have := HN.out; omega)⟩
        clear q1 qz
        go_upto_region 14 with (fail)
        refine wp_region_lit ?_
        refine wpL_pure (.slice a7 64 c7) rfl (by kernel_rfl) ?_
        simp only [Act.put, List.setIfInBounds_toArray, List.set_cons_zero, List.set_cons_succ]
        refine wpL_pure (.slice a n c) rfl (by kernel_rfl) ?_
        simp only [Act.put, List.setIfInBounds_toArray, List.set_cons_zero, List.set_cons_succ]
        refine wpL_value (.slice (some ⟨wr.heap.size, 0, none⟩) 2 2) (z1) rfl (by rw [hz1]; kernel_rfl) ?_
        simp only [Act.put, List.setIfInBounds_toArray, List.set_cons_zero, List.set_cons_succ]
        refine wpL_call 52 #[.slice (some ⟨wr.heap.size, 0, none⟩) 2 2] rfl (by kernel_rfl) (((joined_any z1 (some ⟨wr.heap.size, 0, none⟩) 2 2 [padK ks 54, ts] Z1.out.2.2.2 (by omega) (by have := HN.out; have := HS.out.1.1; simp [padK_len]; omega))).mono fun e z2 ⟨vj, he, ho, hb⟩ => ⟨vj, he, ?_⟩)
        simp only [Act.put, List.setIfInBounds_toArray, List.set_cons_zero, List.set_cons_succ]
        have EJ : ([padK ks 54, ts] : List (List Int)).flatten = padK ks 54 ++ ts := by simp
        rw [EJ] at ho
        obtain ⟨aj, cj, ej, sj⟩ := own_sl ho
        subst ej
        have Z2 : Hid (Below g4 w z2 ∧ Blk z2 g4 22 (u8l (List.replicate 32 0)).toArray ∧ Sl z2 a8 64 c8 (padK ks 92) ∧ Sl z2 aj (padK ks 54 ++ ts).length cj (padK ks 54 ++ ts)) := Lib.hid ⟨Z1.out.1.trans (hb.mono (by have := Z1.out.2.1.lt; omega)), Z1.out.2.1.below hb, Z1.out.2.2.1.below hb, sj⟩
        clear hb ho sj EJ hz1 Z1
        refine wpL_call 58 #[.slice aj (padK ks 54 ++ ts).length cj] rfl (by kernel_rfl) (((refsum_any z2 aj (padK ks 54 ++ ts).length cj (padK ks 54 ++ ts) Z2.out.2.2.2 (by have := HN.out; have := HS.out.1.1; simp [padK_len]; omega) (HW.out.below (by rw [G4.out]; exact Z2.out.1)))).mono fun e z3 ⟨he, hb⟩ => ⟨.agg (u8l (shaS (padK ks 54 ++ ts))).toArray, he, ?_⟩)
        simp only [Act.put, List.setIfInBounds_toArray, List.set_cons_zero, List.set_cons_succ]
        obtain ⟨z4, hz4⟩ : ∃ V, V = (z3.alloc (.cells (u8l (List.replicate 32 0)).toArray 22)).setRow z3.heap.size (u8l (shaS (padK ks 54 ++ ts))).toArray := ⟨_, rfl⟩
        have Z4 : Hid (Below g4 w z4 ∧ Blk z4 g4 22 (u8l (List.replicate 32 0)).toArray ∧ Sl z4 a8 64 c8 (padK ks 92) ∧ Blk z4 z3.heap.size 22 (u8l (shaS (padK ks 54 ++ ts))).toArray ∧ g4 < z4.heap.size) := Lib.hid (qq (show Below z3.heap.size z3 z4 by rw [hz4]; exact below_setRow ((Below.refl _ _).alloc (Nat.le_refl _) _) (Nat.le_refl _) _) fun q => qq (show Below z2.heap.size z2 z4 from hb.trans (q.mono hb.size)) fun q2 => ⟨Z2.out.1.trans (q2.mono (by have := Z2.out.2.1.lt; omega)), Z2.out.2.1.below q2, Z2.out.2.2.1.below q2, by rw [hz4]; exact setRow_heap _ _ _ _ _ _ (Blk.new z3 22 _), (Z2.out.2.1.below q2).lt⟩)
        refine wpL_value (.pointer (some ⟨z3.heap.size, 0, none⟩)) (z3.alloc (.cells (u8l (List.replicate 32 0)).toArray 22)) rfl (by kernel_rfl) ?_
        simp only [Act.put, List.setIfInBounds_toArray, List.set_cons_zero, List.set_cons_succ]
        refine wpList_store_rowTo rfl 22 _ _ rfl rfl z3.heap.size (u8l (shaS (padK ks 54 ++ ts))).toArray rfl rfl 22 _ (Blk.new z3 22 _) (by simp only [List.size_toArray, u8l_len, shaS_len]; kernel_rfl) (by simp [u8l_len, shaS_len]) (u8l_one _) ?_
        rw [← hz4]
        clear hz4 hb Z2
        generalize z3.heap.size = gt at Z4 ⊢
        obtain ⟨z5, hz5⟩ : ∃ V, V = z4.alloc (.cells #[.slice a8 64 c8, .slice (some ⟨gt, 0, none⟩) 32 32] 32) := ⟨_, rfl⟩
        have q1 : Below z4.heap.size z4 z5 := by rw [hz5]; exact (Below.refl _ _).alloc (Nat.le_refl _) _
        have Z5 : Hid (Below g4 w z5 ∧ Blk z5 g4 22 (u8l (List.replicate 32 0)).toArray ∧ PSl z5 (some ⟨z4.heap.size, 0, none⟩) 2 [padK ks 92, shaS (padK ks 54 ++ ts)]) := Lib.hid ⟨Z4.out.1.trans (q1.mono (by have := Z4.out.2.2.2.2; omega)), Z4.out.2.1.below q1, psl_two (by rw [hz5]; exact Blk.new _ _ _) (Z4.out.2.2.1.below q1) (sl_blk (Z4.out.2.2.2.1.below q1) (shaS_len _) (shaS_byte _) (by omega)) (by omega) (by omega)⟩
        clear q1
        go_upto_region 15 with (fail)
        refine wp_region_lit ?_
        refine wpL_pure (.slice a8 64 c8) rfl (by kernel_rfl) ?_
        simp only [Act.put, List.setIfInBounds_toArray, List.set_cons_zero, List.set_cons_succ]
        refine wpL_pure (.slice (some ⟨gt, 0, none⟩) 32 32) rfl (by kernel_rfl) ?_
        simp only [Act.put, List.setIfInBounds_toArray, List.set_cons_zero, List.set_cons_succ]
        refine wpL_value (.slice (some ⟨z4.heap.size, 0, none⟩) 2 2) (z5) rfl (by rw [hz5]; kernel_rfl) ?_
        simp only [Act.put, List.setIfInBounds_toArray, List.set_cons_zero, List.set_cons_succ]
        refine wpL_call 52 #[.slice (some ⟨z4.heap.size, 0, none⟩) 2 2] rfl (by kernel_rfl) (((joined_any z5 (some ⟨z4.heap.size, 0, none⟩) 2 2 [padK ks 92, shaS (padK ks 54 ++ ts)] Z5.out.2.2 (by omega) (by simp [padK_len, shaS_len]))).mono fun e z6 ⟨vj, he, ho, hb⟩ => ⟨vj, he, ?_⟩)
        simp only [Act.put, List.setIfInBounds_toArray, List.set_cons_zero, List.set_cons_succ]
        have EJ : ([padK ks 92, shaS (padK ks 54 ++ ts)] : List (List Int)).flatten = padK ks 92 ++ shaS (padK ks 54 ++ ts) := by simp
        rw [EJ] at ho
        obtain ⟨ak, ck, ej, sj⟩ := own_sl ho
        subst ej
        have Z6 : Hid (Below g4 w z6 ∧ Blk z6 g4 22 (u8l (List.replicate 32 0)).toArray ∧ Sl z6 ak (padK ks 92 ++ shaS (padK ks 54 ++ ts)).length ck (padK ks 92 ++ shaS (padK ks 54 ++ ts))) := Lib.hid ⟨Z5.out.1.trans (hb.mono (by have := Z5.out.2.1.lt; omega)), Z5.out.2.1.below hb, sj⟩
        clear hb ho sj EJ hz5 Z5
        refine wpL_call 58 #[.slice ak (padK ks 92 ++ shaS (padK ks 54 ++ ts)).length ck] rfl (by kernel_rfl) (((refsum_any z6 ak (padK ks 92 ++ shaS (padK ks 54 ++ ts)).length ck (padK ks 92 ++ shaS (padK ks 54 ++ ts)) Z6.out.2.2 (by simp [padK_len, shaS_len]) (HW.out.below (by rw [G4.out]; exact Z6.out.1)))).mono fun e z7 ⟨he, hb⟩ => ⟨.agg (u8l (macS ks ts)).toArray, he, ?_⟩)
        simp only [Act.put, List.setIfInBounds_toArray, List.set_cons_zero, List.set_cons_succ]
        have Z7 : Hid (Below g4 w z7 ∧ Blk z7 g4 22 (u8l (List.replicate 32 0)).toArray) := Lib.hid ⟨Z6.out.1.trans (hb.mono (by have := Z6.out.2.1.lt; omega)), Z6.out.2.1.below hb⟩
        clear hb
        refine wpList_store_rowTo rfl 22 _ _ rfl rfl g4 (u8l (macS ks ts)).toArray rfl rfl 22 _ Z7.out.2 (by simp only [List.size_toArray, u8l_len, macS_len]; kernel_rfl) (by simp [u8l_len, macS_len]) (u8l_one _) ?_
        go_wp2_with fail
        refine bodyPost_ret (results_cell_row rfl _ _ g4 22 _ (0, 0) _ rfl (setRow_heap _ _ _ _ _ _ Z7.out.2) Tryd.underlying22 rfl (by simp only [List.size_toArray, u8l_len, macS_len]; kernel_rfl)) rfl ?_
        exact ⟨rfl, by rw [G4.out]; exact below_setRow Z7.out.1 (Nat.le_refl _) _⟩
end Go.Proofs.YtfhjfpgfbeiacaaDoor.Ha
