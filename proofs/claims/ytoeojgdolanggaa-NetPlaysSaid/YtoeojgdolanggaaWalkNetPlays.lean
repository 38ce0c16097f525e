/- 'NetPlays'. -/
import Derived.Test.YtoeojgdolanggaaP8
namespace Go.Proofs.Ytoeojgdolanggaa
open Go Go.RowKit Go.ChangeShapes Go.WideShapes Go.ChangeAt
set_option maxRecDepth 100000
theorem sl_one (a : Option Addr) (n c : Nat) : (Value.slice a n c).oneCell' = true := rfl
theorem op_keep {w w' : World} {g o : Nat} {q I f t : Int} {a : Option Addr} {n c : Nat} {bs : List Int} (h : OpAt w g o q I f t a n c bs) (hb : Below w.heap.size w w') : OpAt w' g o q I f t a n c bs := by
  obtain ⟨h0, h1, h2, h3, h4, h5, h6, h7⟩ := h
  refine ⟨(hb.cell (cell_lt h0)).trans h0, (hb.cell (cell_lt h1)).trans h1, (hb.cell (cell_lt h2)).trans h2, (hb.cell (cell_lt h3)).trans h3, (hb.cell (cell_lt h4)).trans h4, h5, h6, ?_⟩
  rcases h7 with h7 | ⟨p, e, l1, l2, l3, hc, hw⟩
  · exact .inl h7
  · exact .inr ⟨p, e, l1, l2, l3, fun j hz => (hb.cell (cell_lt (hc j hz))).trans (hc j hz), hw⟩
theorem opsAt_keep {w w' : World} {a : Option Addr} {ln lc : Nat} (h : OpsAt w a ln lc) (hb : Below w.heap.size w w') : OpsAt w' a ln lc := by
  rcases h with h | ⟨g, o, h1, h2, h3, h4⟩
  · exact .inl h
  · exact .inr ⟨g, o, h1, h2, h3, fun k hk => by
      obtain ⟨q, I, f, t, a', n, c, bs, hc⟩ := h4 k hk
      exact ⟨q, I, f, t, a', n, c, bs, op_keep hc hb⟩⟩
attribute [local irreducible] wpList
set_option maxHeartbeats 8000000 in
theorem walkNetPlays (a : Option Addr) (ln lc : Nat) (w : World) (h : OpsAt w a ln lc) :
    Calls Try.prog 6 #[.slice a ln lc] w fun e w' => e = .returned (.bool true) ∧ Below w.heap.size w w' := by
  have HP := Lib.hid h
  clear h
  go_enter Try.func6, Try.ntmps6
  go_upto_region 0 with (fail)
  refine wp_region_lit ?_
  refine wpL_pure (.bool false) rfl (by kernel_rfl) ?_
  simp only [Act.put, List.setIfInBounds_toArray, List.set_cons_zero, List.set_cons_succ]
  go_upto_region 1 with (fail)
  refine wp_region_lit ?_
  refine wpL_call 16 #[] rfl (by kernel_rfl) ((awakeN w).mono ?_)
  rintro e W1 ⟨rfl, b1⟩
  have FA : Hid (Below w.heap.size w W1) := Lib.hid b1
  clear b1
  refine ⟨_, rfl, ?_⟩
  simp only [Act.put, List.setIfInBounds_toArray, List.set_cons_zero, List.set_cons_succ]
  refine wpL_pure (.bool false) rfl (by kernel_rfl) ?_
  simp only [Act.put, List.setIfInBounds_toArray, List.set_cons_zero, List.set_cons_succ]
  refine wpL_pure (.bool false) rfl (by kernel_rfl) ?_
  simp only [Act.put, List.setIfInBounds_toArray, List.set_cons_zero, List.set_cons_succ]
  refine wpL_pure (.slice a ln lc) rfl (by kernel_rfl) ?_
  simp only [Act.put, List.setIfInBounds_toArray, List.set_cons_zero, List.set_cons_succ]
  refine wpL_call 17 #[.slice a ln lc] rfl (by kernel_rfl) ((few_any W1 a ln lc (opsAt_keep HP.out FA.out)).mono ?_)
  rintro e w9 ⟨z, rfl, hx, hz⟩
  subst hx
  refine ⟨_, rfl, ?_⟩
  simp only [Act.put, List.setIfInBounds_toArray, List.set_cons_zero, List.set_cons_succ]
  have HZ := Lib.hid hz
  clear hz
  cases z
  · refine wpL_pure (.bool true) rfl (by kernel_rfl) ?_
    simp only [Act.put, List.setIfInBounds_toArray, List.set_cons_zero, List.set_cons_succ]
    refine wpL_pure (.bool true) rfl (by kernel_rfl) ?_
    simp only [Act.put, List.setIfInBounds_toArray, List.set_cons_zero, List.set_cons_succ]
    unfold wpList
    go_upto_region 2 with (fail)
    refine wp_region_lit ?_
    refine wpL_call 16 #[] rfl (by kernel_rfl) ((awakeN w9).mono ?_)
    rintro e W2 ⟨rfl, b2⟩
    have F2 : Hid (Below w.heap.size w W2) := Lib.hid (FA.out.trans (b2.mono FA.out.size))
    clear b2
    refine ⟨_, rfl, ?_⟩
    simp only [Act.put, List.setIfInBounds_toArray, List.set_cons_zero, List.set_cons_succ]
    refine wpL_pure (.bool true) rfl (by kernel_rfl) ?_
    simp only [Act.put, List.setIfInBounds_toArray, List.set_cons_zero, List.set_cons_succ]
    unfold wpList
    go_wp2_with fail
    go_ret
    exact ⟨rfl, F2.out⟩
  · refine wpL_pure (.bool false) rfl (by kernel_rfl) ?_
    simp only [Act.put, List.setIfInBounds_toArray, List.set_cons_zero, List.set_cons_succ]
    refine wpL_pure (.bool false) rfl (by kernel_rfl) ?_
    simp only [Act.put, List.setIfInBounds_toArray, List.set_cons_zero, List.set_cons_succ]
    unfold wpList
    have HLN : Hid (ln ≤ 300) := Lib.hid (HZ.out rfl)
    clear HZ
    go_upto_region 3 with (fail)
    refine wp_region_lit ?_
    refine wpL_call 18 #[] rfl (by kernel_rfl) ((new_any w9).mono ?_)
    rintro e W2 ⟨rfl, d2, b2⟩
    have F2 : Hid (NetSt W2 w9.heap.size (.slice none 0 0) [] ∧ Below w.heap.size w W2 ∧ w.heap.size ≤ w9.heap.size) := Lib.hid ⟨d2, FA.out.trans (b2.mono FA.out.size), FA.out.size⟩
    clear d2 b2
    refine ⟨_, rfl, ?_⟩
    simp only [Act.put, List.setIfInBounds_toArray, List.set_cons_zero, List.set_cons_succ]
    generalize w9.heap.size = b at F2 ⊢
    refine wpL_pure (.agg #[.slice none 0 0]) rfl (by kernel_rfl) ?_
    simp only [Act.put, List.setIfInBounds_toArray, List.set_cons_zero, List.set_cons_succ]
    obtain ⟨W3, hW3⟩ : ∃ V, V = W2.alloc (.cells #[.slice none 0 0] 41) := ⟨_, rfl⟩
    obtain ⟨r, hr⟩ : ∃ q, W2.heap.size = q := ⟨_, rfl⟩
    refine wpL_value (.pointer (some ⟨r, 0, none⟩)) W3 rfl (by rw [hW3, ← hr]; kernel_rfl) ?_
    simp only [Act.put, List.setIfInBounds_toArray, List.set_cons_zero, List.set_cons_succ]
    have F3 : Hid (LK w W3 b r (.slice none 0 0) (.slice none 0 0) [] []) := Lib.hid (by
    have hb : Below W2.heap.size W2 W3 := by rw [hW3]; exact (Below.refl _ _).alloc (Nat.le_refl _) _
    exact lk_new (F2.out.1.below hb) (by rw [hW3, ← hr]; exact Blk.new _ _ _) F2.out.2.2 (by rw [← hr]; exact F2.out.2.1.size) (F2.out.2.1.trans (hb.mono F2.out.2.1.size)))
    clear hW3 hr F2
    refine wpL_pure (.pointer (some ⟨b, 0, none⟩)) rfl (by kernel_rfl) ?_
    simp only [Act.put, List.setIfInBounds_toArray, List.set_cons_zero, List.set_cons_succ]
    refine wpL_pure (.pointer (some ⟨r, 0, none⟩)) rfl (by kernel_rfl) ?_
    simp only [Act.put, List.setIfInBounds_toArray, List.set_cons_zero, List.set_cons_succ]
    unfold wpList
    go_upto_region 4 with (fail)
    refine wp_region_lit ?_
    refine wpL_pure (.int .i64 0) rfl (by kernel_rfl) ?_
    simp only [Act.put, List.setIfInBounds_toArray, List.set_cons_zero, List.set_cons_succ]
    go_wp2_with fail
    go_loopw [5] (fun s5 wr => ∃ j : Nat, s5 = .int .i64 (j : Int) ∧ Hid (j ≤ ln ∧ ∃ s t ls rs, LK w wr b r s t ls rs)) (fun s5 _ => ln - (intOf s5).toNat)
    case atStart => exact ⟨0, rfl, Lib.hid ⟨Nat.zero_le _, _, _, _, _, F3.out⟩⟩
    case round =>
      clear F3
      obtain ⟨j, rfl, RI⟩ := hrel
      obtain ⟨s, tt, ls, rs, hlk⟩ := RI.out.2
      have F0 := Lib.hid hlk
      clear hlk RI
      by_cases hlt : j < ln
      · have HK := Lib.hid hlt
        clear hlt
        go_upto_region 5 with (fail)
        refine wp_region_lit ?_
        refine wpL_pure (.int .i64 (j : Int)) rfl (by kernel_rfl) ?_
        simp only [Act.put, List.setIfInBounds_toArray, List.set_cons_zero, List.set_cons_succ]
        refine wpL_pure (.slice a ln lc) rfl (by kernel_rfl) ?_
        simp only [Act.put, List.setIfInBounds_toArray, List.set_cons_zero, List.set_cons_succ]
        refine wpL_pure (.int .i64 (ln : Int)) rfl (by kernel_rfl) ?_
        simp only [Act.put, List.setIfInBounds_toArray, List.set_cons_zero, List.set_cons_succ]
        refine wpL_pure (.bool true) rfl (run_lti Try.underlying3 rfl rfl rfl (by have := HK.out; rw [decide_eq_true_eq]; omega)) ?_
        simp only [Act.put, List.setIfInBounds_toArray, List.set_cons_zero, List.set_cons_succ]
        obtain ⟨g, o, EA, hm, hc⟩ : ∃ g o, a = some ⟨g, o, none⟩ ∧ ln ≤ maxLen ∧ ∀ k, k < ln → ∃ q I f t a' n c bs, OpAt w g (o + k * 5) q I f t a' n c bs := by
          rcases HP.out with h | ⟨g, o, h1, h2, h3, h4⟩
          · have := HK.out; omega
          · exact ⟨g, o, h1, Nat.le_trans h2 h3, h4⟩
        obtain ⟨q, I, f, t, pa, pn, pc, bs, hc⟩ := hc j HK.out
        have EA := Lib.hid EA
        have HM := Lib.hid hm
        have OP : Hid (wr.rangeAt g (o + j * 5) [.int .u8 q, .int .i64 I, .int .i64 f, .int .i64 t, .slice pa pn pc]) := Lib.hid (op_range F0.out.two.low hc)
        have HR : Hid (Row w pa pn (bs.take pn) ∧ (pa = none → pc = 0)) := Lib.hid (op_row hc.2.2.2.2.2.2.2)
        have HQ : Hid (0 ≤ q) := Lib.hid hc.2.2.2.2.2.1.1
        clear hm hc
        go_upto_region 7 with (fail)
        refine wp_region_lit ?_
        refine wpL_pure (.slice a ln lc) rfl (by kernel_rfl) ?_
        simp only [Act.put, List.setIfInBounds_toArray, List.set_cons_zero, List.set_cons_succ]
        refine wpL_pure (.int .i64 (j : Int)) rfl (by kernel_rfl) ?_
        simp only [Act.put, List.setIfInBounds_toArray, List.set_cons_zero, List.set_cons_succ]
        refine wpL_pure (.pointer (some ⟨g, o + j * 5, none⟩)) rfl (run_idx34 _ _ _ _ _ g o ln lc j rfl (by rw [EA.out]; rfl) rfl HK.out HM.out) ?_
        simp only [Act.put, List.setIfInBounds_toArray, List.set_cons_zero, List.set_cons_succ]
        refine wpL_load 45 _ rfl rfl g (o + j * 5) rfl [.int .u8 q, .int .i64 I, .int .i64 f, .int .i64 t, .slice pa pn pc] _ OP.out Try.underlying45 rfl (by kernel_rfl) ?_
        simp only [Act.put, List.setIfInBounds_toArray, List.set_cons_zero, List.set_cons_succ]
        have BX := Lib.hid (bx_frame wr q I f t (.slice pa pn pc))
        obtain ⟨W1, hW1⟩ : ∃ V, V = (wr.alloc (.cells #[.int .u8 0, .int .i64 0, .int .i64 0, .int .i64 0, .slice none 0 0] 45)).setRow wr.heap.size #[.int .u8 q, .int .i64 I, .int .i64 f, .int .i64 t, .slice pa pn pc] := ⟨_, rfl⟩
        rw [← hW1] at BX
        refine wpL_value (.pointer (some ⟨wr.heap.size, 0, none⟩)) (wr.alloc (.cells #[.int .u8 0, .int .i64 0, .int .i64 0, .int .i64 0, .slice none 0 0] 45)) rfl (by kernel_rfl) ?_
        simp only [Act.put, List.setIfInBounds_toArray, List.set_cons_zero, List.set_cons_succ]
        refine wpList_store_row rfl 45 _ _ rfl (wr.heap.size) (#[.int .u8 q, .int .i64 I, .int .i64 f, .int .i64 t, .slice pa pn pc]) rfl rfl _ _ (Blk.new wr 45 _) (by kernel_rfl) rfl (by simp [int_one, sl_one]) ?_
        simp only [Act.put, List.setIfInBounds_toArray, List.set_cons_zero, List.set_cons_succ]
        rw [← hW1]
        have F1 : Hid (LK w W1 b r s tt ls rs ∧ Blk W1 wr.heap.size 45 #[.int .u8 q, .int .i64 I, .int .i64 f, .int .i64 t, .slice pa pn pc]) := Lib.hid ⟨F0.out.below BX.out.2, BX.out.1⟩
        clear BX hW1 OP F0
        generalize wr.heap.size = bx at F1 ⊢
        unfold wpList
        have NB : Hid (bx ≠ b ∧ bx ≠ r) := Lib.hid ⟨blk_ne F1.out.2 F1.out.1.two.net.1 (by decide), blk_ne F1.out.2 F1.out.1.two.ref.1 (by decide)⟩
        obtain ⟨pz, hpz⟩ : ∃ z, plcR I rs.length = z := ⟨_, rfl⟩
        have HPZ := Lib.hid hpz
        clear hpz
        go_upto_region 8 with (fail)
        refine wp_region_lit ?_
        refine wpL_pure (.pointer (some ⟨r, 0, none⟩)) rfl (by kernel_rfl) ?_
        simp only [Act.put, List.setIfInBounds_toArray, List.set_cons_zero, List.set_cons_succ]
        refine wpL_pure (.pointer (some ⟨bx, 1, none⟩)) rfl (by kernel_rfl) ?_
        simp only [Act.put, List.setIfInBounds_toArray, List.set_cons_zero, List.set_cons_succ]
        refine wpL_pure (.int .i64 I) rfl (run_load_one _ _ _ 3 _ _ rfl (bx) (1) rfl (by rw [F1.out.2.cell]; rfl) (by kernel_rfl)) ?_
        simp only [Act.put, List.setIfInBounds_toArray, List.set_cons_zero, List.set_cons_succ]
        refine wpL_call 19 #[.pointer (some ⟨r, 0, none⟩), .int .i64 I] rfl (by kernel_rfl) ((place_ref w W1 r I tt rs F1.out.1.two.ref).mono fun e w2 ⟨he, hx⟩ => ⟨.int .i64 pz, by rw [he, HPZ.out], ?_⟩)
        simp only [Act.put, List.setIfInBounds_toArray, List.set_cons_zero, List.set_cons_succ]
        subst hx
        refine wpL_pure (.int .i64 pz) rfl (by kernel_rfl) ?_
        simp only [Act.put, List.setIfInBounds_toArray, List.set_cons_zero, List.set_cons_succ]
        obtain ⟨d, hd⟩ : ∃ z, q % 5 = z := ⟨_, rfl⟩
        have HD := Lib.hid hd
        clear hd
        go_upto_region 9 with (fail)
        refine wp_region_lit ?_
        refine wpL_pure (.pointer (some ⟨bx, 0, none⟩)) rfl (by kernel_rfl) ?_
        simp only [Act.put, List.setIfInBounds_toArray, List.set_cons_zero, List.set_cons_succ]
        refine wpL_pure (.int .u8 q) rfl (run_load_one _ _ _ 5 _ _ rfl (bx) (0) rfl (by rw [F1.out.2.cell]; rfl) (by kernel_rfl)) ?_
        simp only [Act.put, List.setIfInBounds_toArray, List.set_cons_zero, List.set_cons_succ]
        refine wpL_pure (.int .u8 d) rfl (run_rem8 _ _ _ _ q d rfl rfl HQ.out HD.out) ?_
        simp only [Act.put, List.setIfInBounds_toArray, List.set_cons_zero, List.set_cons_succ]
        by_cases h0 : d = 0
        · have H0 := Lib.hid h0
          clear h0
          go_upto_region 13 with (fail)
          refine wp_region_lit ?_
          refine wpL_pure (.bool true) rfl (run_eqi Try.underlying5 rfl rfl rfl (by have := H0.out; rw [decide_eq_true_eq]; omega)) ?_
          simp only [Act.put, List.setIfInBounds_toArray, List.set_cons_zero, List.set_cons_succ]
          refine wpL_pure (.bool true) rfl (by kernel_rfl) ?_
          simp only [Act.put, List.setIfInBounds_toArray, List.set_cons_zero, List.set_cons_succ]
          go_upto_region 14 with (fail)
          refine region_anyT (fun X => Blk X bx 45 #[.int .u8 q, .int .i64 I, .int .i64 f, .int .i64 t, .slice pa pn pc]) (by kernel_rfl) 9 9 rfl ?_
          refine wpAnyT_take (i := 0) (oi := ⟨some 73, _, _, _, _, _⟩) (v := .pointer (some ⟨b, 0, none⟩)) rfl (by kernel_rfl) (by kernel_rfl) (by kernel_rfl) (fun _ _ _ h => h) (by kernel_rfl) (Or.inl ⟨rfl, fun w h => by kernel_rfl⟩) (show Blk W1.drew bx 45 _ from F1.out.2) ?_
          simp only [Act.put, List.setIfInBounds_toArray, List.set_cons_zero, List.set_cons_succ]
          refine wpAnyT_take (i := 1) (oi := ⟨some 74, _, _, _, _, _⟩) (v := .pointer (some ⟨bx, 2, none⟩)) rfl (by kernel_rfl) (by kernel_rfl) (by kernel_rfl) (fun _ _ _ h => h) (by kernel_rfl) (Or.inl ⟨rfl, fun w h => by kernel_rfl⟩) (show Blk W1.drew bx 45 _ from F1.out.2) ?_
          simp only [Act.put, List.setIfInBounds_toArray, List.set_cons_zero, List.set_cons_succ]
          refine wpAnyT_take (i := 2) (oi := ⟨some 75, _, _, _, _, _⟩) (v := .agg #[.int .i64 f, .int .i64 t, .slice pa pn pc]) rfl (by kernel_rfl) (by kernel_rfl) (by kernel_rfl) (fun _ _ _ h => h) (by kernel_rfl) (Or.inl ⟨rfl, fun w h => run_load_mid _ _ _ 43 _ rfl bx 2 rfl [.int .i64 f, .int .i64 t, .slice pa pn pc] _ (bx_ltr h) Try.underlying43 rfl (by kernel_rfl)⟩) (show Blk W1.drew bx 45 _ from F1.out.2) ?_
          simp only [Act.put, List.setIfInBounds_toArray, List.set_cons_zero, List.set_cons_succ]
          refine wpAnyT_take (i := 4) (oi := ⟨some 77, _, _, _, _, _⟩) (v := .pointer (some ⟨r, 0, none⟩)) rfl (by kernel_rfl) (by kernel_rfl) (by kernel_rfl) (fun _ _ _ h => h) (by kernel_rfl) (Or.inl ⟨rfl, fun w h => by kernel_rfl⟩) (show Blk W1.drew bx 45 _ from F1.out.2) ?_
          simp only [Act.put, List.setIfInBounds_toArray, List.set_cons_zero, List.set_cons_succ]
          refine wpAnyT_take (i := 5) (oi := ⟨some 78, _, _, _, _, _⟩) (v := .pointer (some ⟨bx, 2, none⟩)) rfl (by kernel_rfl) (by kernel_rfl) (by kernel_rfl) (fun _ _ _ h => h) (by kernel_rfl) (Or.inl ⟨rfl, fun w h => by kernel_rfl⟩) (show Blk W1.drew bx 45 _ from F1.out.2) ?_
          simp only [Act.put, List.setIfInBounds_toArray, List.set_cons_zero, List.set_cons_succ]
          refine wpAnyT_take (i := 6) (oi := ⟨some 79, _, _, _, _, _⟩) (v := .agg #[.int .i64 f, .int .i64 t, .slice pa pn pc]) rfl (by kernel_rfl) (by kernel_rfl) (by kernel_rfl) (fun _ _ _ h => h) (by kernel_rfl) (Or.inl ⟨rfl, fun w h => run_load_mid _ _ _ 43 _ rfl bx 2 rfl [.int .i64 f, .int .i64 t, .slice pa pn pc] _ (bx_ltr h) Try.underlying43 rfl (by kernel_rfl)⟩) (show Blk W1.drew bx 45 _ from F1.out.2) ?_
          simp only [Act.put, List.setIfInBounds_toArray, List.set_cons_zero, List.set_cons_succ]
          refine wpAnyT_one (i := 3) (by kernel_rfl) ?_
          refine op_call (o := ⟨some 76, _, _, _, _, _⟩) 20 #[.pointer (some ⟨b, 0, none⟩), .agg #[.int .i64 f, .int .i64 t, .slice pa pn pc]] rfl rfl (by kernel_rfl) ((send_prog W1.drew b f t pa pn pc (bs.take pn) s ls F1.out.1.drew.two.net ⟨HR.out.1.keep F1.out.1.drew.two.low, HR.out.2⟩).mono fun e X1 hx => ?_)
          obtain ⟨z, s1, ls1, rfl, q1, q2, q3, q4⟩ := hx
          have F2 : Hid (Two w X1 b r s1 tt ls1 rs ∧ Blk X1 bx 45 #[.int .u8 q, .int .i64 I, .int .i64 f, .int .i64 t, .slice pa pn pc] ∧ z = decide (ls.length < 200 ∧ pn ≤ 16384) ∧ ls1.map Ltr.key = ls.map Ltr.key ++ (if z then [(f, t, (bs.take pn))] else [])) := Lib.hid ⟨F1.out.1.drew.two.prog q2 q1, q2.blk F1.out.2 NB.out.1 (row_ne F1.out.1.two.net.2.1 F1.out.2 (by decide)), q3, q4⟩
          clear q1 q2 q3 q4
          refine ⟨.bool z, rfl, ?_⟩
          refine ⟨fun _ => F2.out.2.1, ?_⟩
          simp only [Act.put, List.setIfInBounds_toArray, List.set_cons_zero, List.set_cons_succ]
          refine wpAnyT_one (i := 7) (by kernel_rfl) ?_
          refine op_call (o := ⟨some 80, _, _, _, _, _⟩) 21 #[.pointer (some ⟨r, 0, none⟩), .agg #[.int .i64 f, .int .i64 t, .slice pa pn pc]] rfl rfl (by kernel_rfl) ((send_list w X1 r f t pa pn pc (bs.take pn) tt rs F2.out.1.ref HR.out).mono fun e X2 hx => ?_)
          obtain ⟨z2, t1, rs1, rfl, q1, q2, q3, q4⟩ := hx
          obtain rfl : z2 = z := by rw [q3, F2.out.2.2.1, F1.out.1.len]
          have F3 : Hid (LK w X2 b r s1 t1 ls1 rs1 ∧ Blk X2 bx 45 #[.int .u8 q, .int .i64 I, .int .i64 f, .int .i64 t, .slice pa pn pc]) := Lib.hid ⟨F1.out.1.send (F2.out.1.list q2 q1) (fun e => (of_decide_eq_true (F2.out.2.2.1.symm.trans e)).1) F2.out.2.2.2 q4, q2.blk F2.out.2.1 NB.out.2 (row_ne F2.out.1.ref.2.2.1 F2.out.2.1 (by decide))⟩
          clear q1 q2 q3 q4 F2 F1
          refine ⟨.bool z2, rfl, ?_⟩
          refine ⟨fun _ => F3.out.2, ?_⟩
          simp only [Act.put, List.setIfInBounds_toArray, List.set_cons_zero, List.set_cons_succ]
          refine wpAnyT_take (i := 8) (oi := ⟨some 81, _, _, _, _, _⟩) (v := .bool false) rfl (by kernel_rfl) (by kernel_rfl) (by kernel_rfl) (fun _ _ _ h => h) (by kernel_rfl) (Or.inl ⟨rfl, fun w h => by cases z2 <;> kernel_rfl⟩) (F3.out.2) ?_
          simp only [Act.put, List.setIfInBounds_toArray, List.set_cons_zero, List.set_cons_succ]
          refine wpAnyT_done (by kernel_rfl) ?_ _
          obtain ⟨ta, tc, et, _⟩ := F3.out.1.two.ref.2.2.1.slice
          subst et
          have LN : Hid (rs1.length = _) := Lib.hid F3.out.1.len
          go_upto_region 30 with (fail)
          refine region_anyT (fun X => X.cell? ⟨r, 0, none⟩ = some (.slice ta rs1.length tc)) (by kernel_rfl) 8 8 rfl ?_
          refine wpAnyT_take (i := 0) (oi := ⟨some 159, _, _, _, _, _⟩) (v := .pointer (some ⟨b, 0, none⟩)) rfl (by kernel_rfl) (by kernel_rfl) (by kernel_rfl) (fun _ _ _ h => h) (by kernel_rfl) (Or.inl ⟨rfl, fun w h => by kernel_rfl⟩) ((by rw [F3.out.1.two.ref.1.cell]; rfl : World.cell? X2 ⟨r, 0, none⟩ = _)) ?_
          simp only [Act.put, List.setIfInBounds_toArray, List.set_cons_zero, List.set_cons_succ]
          refine wpAnyT_take (i := 2) (oi := ⟨some 161, _, _, _, _, _⟩) (v := .pointer (some ⟨r, 0, none⟩)) rfl (by kernel_rfl) (by kernel_rfl) (by kernel_rfl) (fun _ _ _ h => h) (by kernel_rfl) (Or.inl ⟨rfl, fun w h => by kernel_rfl⟩) ((by rw [F3.out.1.two.ref.1.cell]; rfl : World.cell? X2 ⟨r, 0, none⟩ = _)) ?_
          simp only [Act.put, List.setIfInBounds_toArray, List.set_cons_zero, List.set_cons_succ]
          refine wpAnyT_take (i := 3) (oi := ⟨some 162, _, _, _, _, _⟩) (v := .pointer (some ⟨r, 0, none⟩)) rfl (by kernel_rfl) (by kernel_rfl) (by kernel_rfl) (fun _ _ _ h => h) (by kernel_rfl) (Or.inl ⟨rfl, fun w h => by kernel_rfl⟩) ((by rw [F3.out.1.two.ref.1.cell]; rfl : World.cell? X2 ⟨r, 0, none⟩ = _)) ?_
          simp only [Act.put, List.setIfInBounds_toArray, List.set_cons_zero, List.set_cons_succ]
          refine wpAnyT_take (i := 4) (oi := ⟨some 163, _, _, _, _, _⟩) (v := .pointer (some ⟨r, 0, none⟩)) rfl (by kernel_rfl) (by kernel_rfl) (by kernel_rfl) (fun _ _ _ h => h) (by kernel_rfl) (Or.inl ⟨rfl, fun w h => by kernel_rfl⟩) ((by rw [F3.out.1.two.ref.1.cell]; rfl : World.cell? X2 ⟨r, 0, none⟩ = _)) ?_
          simp only [Act.put, List.setIfInBounds_toArray, List.set_cons_zero, List.set_cons_succ]
          refine wpAnyT_take (i := 5) (oi := ⟨some 164, _, _, _, _, _⟩) (v := .slice ta rs1.length tc) rfl (by kernel_rfl) (by kernel_rfl) (by kernel_rfl) (fun _ _ _ h => h) (by kernel_rfl) (Or.inl ⟨rfl, fun w h => run_load_one _ _ _ 39 _ _ rfl (r) (0) rfl (h) (by kernel_rfl)⟩) ((by rw [F3.out.1.two.ref.1.cell]; rfl : World.cell? X2 ⟨r, 0, none⟩ = _)) ?_
          simp only [Act.put, List.setIfInBounds_toArray, List.set_cons_zero, List.set_cons_succ]
          refine wpAnyT_take (i := 6) (oi := ⟨some 165, _, _, _, _, _⟩) (v := .int .i64 (rs1.length : Int)) rfl (by kernel_rfl) (by kernel_rfl) (by kernel_rfl) (fun _ _ _ h => h) (by kernel_rfl) (Or.inl ⟨rfl, fun w h => by kernel_rfl⟩) ((by rw [F3.out.1.two.ref.1.cell]; rfl : World.cell? X2 ⟨r, 0, none⟩ = _)) ?_
          simp only [Act.put, List.setIfInBounds_toArray, List.set_cons_zero, List.set_cons_succ]
          refine wpAnyT_one (i := 1) (by kernel_rfl) ?_
          refine op_call (o := ⟨some 160, _, _, _, _, _⟩) 28 #[.pointer (some ⟨b, 0, none⟩)] rfl rfl (by kernel_rfl) ((count_any (World.drew X2) b _ _ F3.out.1.drew.two.net).mono fun e X1 hx => ?_)
          obtain ⟨rfl, hx⟩ := hx
          subst hx
          refine ⟨_, rfl, ?_⟩
          refine ⟨fun _ => (by rw [F3.out.1.two.ref.1.cell]; rfl : World.cell? X2 ⟨r, 0, none⟩ = _), ?_⟩
          simp only [Act.put, List.setIfInBounds_toArray, List.set_cons_zero, List.set_cons_succ]
          rw [← LN.out]
          refine wpAnyT_take (i := 7) (oi := ⟨some 166, _, _, _, _, _⟩) (v := .bool false) rfl (by kernel_rfl) (by kernel_rfl) (by kernel_rfl) (fun _ _ _ h => h) (by kernel_rfl) (Or.inl ⟨rfl, fun w h => run_nei Try.underlying3 rfl rfl rfl (by simp)⟩) ((by rw [F3.out.1.two.ref.1.cell]; rfl : World.cell? X2 ⟨r, 0, none⟩ = _)) ?_
          simp only [Act.put, List.setIfInBounds_toArray, List.set_cons_zero, List.set_cons_succ]
          refine wpAnyT_done (by kernel_rfl) ?_ _
          go_upto_region 6 with (fail)
          refine wp_region_lit ?_
          refine wpL_pure (.int .i64 (j : Int)) rfl (by kernel_rfl) ?_
          simp only [Act.put, List.setIfInBounds_toArray, List.set_cons_zero, List.set_cons_succ]
          refine wpL_pure (.int .i64 ((j + 1 : Nat) : Int)) rfl (run_addi Try.underlying3 rfl rfl rfl _ (by have := HK.out; have := HLN.out; rw [wrap_in _ (by omega) (by omega)]; omega)) ?_
          simp only [Act.put, List.setIfInBounds_toArray, List.set_cons_zero, List.set_cons_succ]
          refine wpL_pure (.int .i64 ((j + 1 : Nat) : Int)) rfl (by kernel_rfl) ?_
          simp only [Act.put, List.setIfInBounds_toArray, List.set_cons_zero, List.set_cons_succ]
          have NX : Hid (j + 1 ≤ ln ∧ ∃ s t ls rs, LK w (World.drew X2) b r s t ls rs) := Lib.hid ⟨HK.out, _, _, _, _, F3.out.1.drew⟩
          unfold wpList
          go_roundw
          case rel => first | exact ⟨j + 1, rfl, NX⟩ | ((repeat apply Exists.intro); exact ⟨⟨j + 1, rfl, NX⟩, rfl⟩)
          case measure => simp [intOf]; have := HK.out; omega
        · have H0 := Lib.hid h0
          clear h0
          go_upto_region 13 with (fail)
          refine wp_region_lit ?_
          refine wpL_pure (.bool false) rfl (run_eqi Try.underlying5 rfl rfl rfl (by have := H0.out; rw [decide_eq_false_iff_not]; omega)) ?_
          simp only [Act.put, List.setIfInBounds_toArray, List.set_cons_zero, List.set_cons_succ]
          refine wpL_pure (.bool false) rfl (by kernel_rfl) ?_
          simp only [Act.put, List.setIfInBounds_toArray, List.set_cons_zero, List.set_cons_succ]
          by_cases h1 : d = 1
          · have H1 := Lib.hid h1
            clear h1
            go_upto_region 16 with (fail)
            refine wp_region_lit ?_
            refine wpL_pure (.bool true) rfl (run_eqi Try.underlying5 rfl rfl rfl (by have := H1.out; rw [decide_eq_true_eq]; omega)) ?_
            simp only [Act.put, List.setIfInBounds_toArray, List.set_cons_zero, List.set_cons_succ]
            refine wpL_pure (.bool true) rfl (by kernel_rfl) ?_
            simp only [Act.put, List.setIfInBounds_toArray, List.set_cons_zero, List.set_cons_succ]
            by_cases hn : ls.length = 0
            · have HN := Lib.hid hn
              clear hn
              obtain rfl := List.eq_nil_of_length_eq_zero HN.out
              have HN2 : Hid (rs.length = 0) := Lib.hid F1.out.1.len
              go_upto_region 17 with (fail)
              refine wp_region_lit ?_
              refine wpL_pure (.pointer (some ⟨b, 0, none⟩)) rfl (by kernel_rfl) ?_
              simp only [Act.put, List.setIfInBounds_toArray, List.set_cons_zero, List.set_cons_succ]
              refine wpL_pure (.pointer (some ⟨bx, 1, none⟩)) rfl (by kernel_rfl) ?_
              simp only [Act.put, List.setIfInBounds_toArray, List.set_cons_zero, List.set_cons_succ]
              refine wpL_pure (.int .i64 I) rfl (run_load_one _ _ _ 3 _ _ rfl (bx) (1) rfl (by rw [F1.out.2.cell]; rfl) (by kernel_rfl)) ?_
              simp only [Act.put, List.setIfInBounds_toArray, List.set_cons_zero, List.set_cons_succ]
              refine wpL_call 22 #[.pointer (some ⟨b, 0, none⟩), .int .i64 I] rfl (by kernel_rfl) ((take_none W1 b I s F1.out.1.two.net).mono fun e X1 ⟨he, q1, q2⟩ => ⟨.tuple #[.agg #[.int .i64 0, .int .i64 0, .slice none 0 0], .bool false], he, ?_⟩)
              simp only [Act.put, List.setIfInBounds_toArray, List.set_cons_zero, List.set_cons_succ]
              have F2 : Hid (LK w X1 b r s tt [] rs ∧ Blk X1 bx 45 #[.int .u8 q, .int .i64 I, .int .i64 f, .int .i64 t, .slice pa pn pc]) := Lib.hid ⟨F1.out.1.below q2, F1.out.2.below q2⟩
              clear q1 q2 F1
              refine wpL_pure (.tuple #[.agg #[.int .i64 0, .int .i64 0, .slice none 0 0], .bool false]) rfl (by kernel_rfl) ?_
              simp only [Act.put, List.setIfInBounds_toArray, List.set_cons_zero, List.set_cons_succ]
              refine wpL_pure (.agg #[.int .i64 0, .int .i64 0, .slice none 0 0]) rfl (by kernel_rfl) ?_
              simp only [Act.put, List.setIfInBounds_toArray, List.set_cons_zero, List.set_cons_succ]
              refine wpL_pure (.bool false) rfl (by kernel_rfl) ?_
              simp only [Act.put, List.setIfInBounds_toArray, List.set_cons_zero, List.set_cons_succ]
              have BX := Lib.hid (box_frame X1 0 0 (.slice none 0 0))
              obtain ⟨X2, hW⟩ : ∃ V, V = (World.alloc X1 (.cells #[.int .i64 0, .int .i64 0, .slice none 0 0] 43)).setRow (World.heap X1).size #[.int .i64 0, .int .i64 0, .slice none 0 0] := ⟨_, rfl⟩
              rw [← hW] at BX
              refine wpL_value (.pointer (some ⟨(World.heap X1).size, 0, none⟩)) (World.alloc X1 (.cells #[.int .i64 0, .int .i64 0, .slice none 0 0] 43)) rfl (by kernel_rfl) ?_
              simp only [Act.put, List.setIfInBounds_toArray, List.set_cons_zero, List.set_cons_succ]
              refine wpList_store_row rfl 43 _ _ rfl ((World.heap X1).size) (#[.int .i64 0, .int .i64 0, .slice none 0 0]) rfl rfl _ _ (Blk.new X1 43 _) (by kernel_rfl) rfl (all3 _ _ _ rfl) ?_
              simp only [Act.put, List.setIfInBounds_toArray, List.set_cons_zero, List.set_cons_succ]
              rw [← hW]
              have F3 : Hid (LK w X2 b r s tt [] rs ∧ Blk X2 bx 45 #[.int .u8 q, .int .i64 I, .int .i64 f, .int .i64 t, .slice pa pn pc] ∧ Blk X2 X1.heap.size 43 #[.int .i64 0, .int .i64 0, .slice none 0 0]) := Lib.hid ⟨F2.out.1.below BX.out.2, F2.out.2.below BX.out.2, BX.out.1⟩
              clear BX hW F2
              generalize X1.heap.size = g8 at F3 ⊢
              refine wpL_pure (.bool false) rfl (by kernel_rfl) ?_
              simp only [Act.put, List.setIfInBounds_toArray, List.set_cons_zero, List.set_cons_succ]
              unfold wpList
              go_upto_region 18 with (fail)
              refine wp_region_lit ?_
              refine wpL_pure (.pointer (some ⟨r, 0, none⟩)) rfl (by kernel_rfl) ?_
              simp only [Act.put, List.setIfInBounds_toArray, List.set_cons_zero, List.set_cons_succ]
              refine wpL_pure (.pointer (some ⟨bx, 1, none⟩)) rfl (by kernel_rfl) ?_
              simp only [Act.put, List.setIfInBounds_toArray, List.set_cons_zero, List.set_cons_succ]
              refine wpL_pure (.int .i64 I) rfl (run_load_one _ _ _ 3 _ _ rfl (bx) (1) rfl (by rw [F3.out.2.1.cell]; rfl) (by kernel_rfl)) ?_
              simp only [Act.put, List.setIfInBounds_toArray, List.set_cons_zero, List.set_cons_succ]
              refine wpL_call 23 #[.pointer (some ⟨r, 0, none⟩), .int .i64 I] rfl (by kernel_rfl) ((take_empty w X2 r I tt rs F3.out.1.two.ref HN2.out).mono fun e X3 ⟨he, q1, q2⟩ => ⟨.tuple #[.agg #[.int .i64 0, .int .i64 0, .slice none 0 0], .bool false], he, ?_⟩)
              simp only [Act.put, List.setIfInBounds_toArray, List.set_cons_zero, List.set_cons_succ]
              have F4 : Hid (LK w X3 b r s tt [] rs ∧ Blk X3 g8 43 #[.int .i64 0, .int .i64 0, .slice none 0 0]) := Lib.hid ⟨F3.out.1.below q2, F3.out.2.2.below q2⟩
              clear q1 q2 F3
              refine wpL_pure (.tuple #[.agg #[.int .i64 0, .int .i64 0, .slice none 0 0], .bool false]) rfl (by kernel_rfl) ?_
              simp only [Act.put, List.setIfInBounds_toArray, List.set_cons_zero, List.set_cons_succ]
              refine wpL_pure (.agg #[.int .i64 0, .int .i64 0, .slice none 0 0]) rfl (by kernel_rfl) ?_
              simp only [Act.put, List.setIfInBounds_toArray, List.set_cons_zero, List.set_cons_succ]
              refine wpL_pure (.bool false) rfl (by kernel_rfl) ?_
              simp only [Act.put, List.setIfInBounds_toArray, List.set_cons_zero, List.set_cons_succ]
              have BX := Lib.hid (box_frame X3 0 0 (.slice none 0 0))
              obtain ⟨X4, hW⟩ : ∃ V, V = (World.alloc X3 (.cells #[.int .i64 0, .int .i64 0, .slice none 0 0] 43)).setRow (World.heap X3).size #[.int .i64 0, .int .i64 0, .slice none 0 0] := ⟨_, rfl⟩
              rw [← hW] at BX
              refine wpL_value (.pointer (some ⟨(World.heap X3).size, 0, none⟩)) (World.alloc X3 (.cells #[.int .i64 0, .int .i64 0, .slice none 0 0] 43)) rfl (by kernel_rfl) ?_
              simp only [Act.put, List.setIfInBounds_toArray, List.set_cons_zero, List.set_cons_succ]
              refine wpList_store_row rfl 43 _ _ rfl ((World.heap X3).size) (#[.int .i64 0, .int .i64 0, .slice none 0 0]) rfl rfl _ _ (Blk.new X3 43 _) (by kernel_rfl) rfl (all3 _ _ _ rfl) ?_
              simp only [Act.put, List.setIfInBounds_toArray, List.set_cons_zero, List.set_cons_succ]
              rw [← hW]
              have F5 : Hid (LK w X4 b r s tt [] rs ∧ Blk X4 g8 43 #[.int .i64 0, .int .i64 0, .slice none 0 0] ∧ Blk X4 X3.heap.size 43 #[.int .i64 0, .int .i64 0, .slice none 0 0]) := Lib.hid ⟨F4.out.1.below BX.out.2, F4.out.2.below BX.out.2, BX.out.1⟩
              clear BX hW F4
              generalize X3.heap.size = g10 at F5 ⊢
              refine wpL_pure (.bool false) rfl (by kernel_rfl) ?_
              simp only [Act.put, List.setIfInBounds_toArray, List.set_cons_zero, List.set_cons_succ]
              unfold wpList
              go_upto_region 19 with (fail)
              refine wp_region_lit ?_
              refine wpL_pure (.bool false) rfl (by kernel_rfl) ?_
              simp only [Act.put, List.setIfInBounds_toArray, List.set_cons_zero, List.set_cons_succ]
              refine wpL_pure (.bool false) rfl (by kernel_rfl) ?_
              simp only [Act.put, List.setIfInBounds_toArray, List.set_cons_zero, List.set_cons_succ]
              refine wpL_pure (.bool false) rfl (by kernel_rfl) ?_
              simp only [Act.put, List.setIfInBounds_toArray, List.set_cons_zero, List.set_cons_succ]
              refine wpL_pure (.bool false) rfl (by kernel_rfl) ?_
              simp only [Act.put, List.setIfInBounds_toArray, List.set_cons_zero, List.set_cons_succ]
              refine wpL_load 43 _ rfl rfl (g8) (0) rfl [.int .i64 0, .int .i64 0, .slice none 0 0] _ (range_blk (t := 43) F5.out.2.1) Try.underlying43 rfl (by kernel_rfl) ?_
              simp only [Act.put, List.setIfInBounds_toArray, List.set_cons_zero, List.set_cons_succ]
              refine wpL_load 43 _ rfl rfl (g10) (0) rfl [.int .i64 0, .int .i64 0, .slice none 0 0] _ (range_blk (t := 43) F5.out.2.2) Try.underlying43 rfl (by kernel_rfl) ?_
              simp only [Act.put, List.setIfInBounds_toArray, List.set_cons_zero, List.set_cons_succ]
              refine wpL_call 24 #[.agg #[.int .i64 0, .int .i64 0, .slice none 0 0], .agg #[.int .i64 0, .int .i64 0, .slice none 0 0]] rfl (by kernel_rfl) ((same_any X4 0 0 0 0 none none 0 0 0 0 [] [] (Row.nil _ _) (Row.nil _ _)).mono fun e X5 ⟨he, q1⟩ => ⟨.bool true, by rw [he]; rfl, ?_⟩)
              simp only [Act.put, List.setIfInBounds_toArray, List.set_cons_zero, List.set_cons_succ]
              have F6 : Hid (LK w X5 b r s tt [] rs) := Lib.hid (F5.out.1.below q1)
              clear q1 F5
              refine wpL_pure (.bool false) rfl (by kernel_rfl) ?_
              simp only [Act.put, List.setIfInBounds_toArray, List.set_cons_zero, List.set_cons_succ]
              refine wpL_pure (.bool false) rfl (by kernel_rfl) ?_
              simp only [Act.put, List.setIfInBounds_toArray, List.set_cons_zero, List.set_cons_succ]
              obtain ⟨ta, tc, et, _⟩ := F6.out.two.ref.2.2.1.slice
              subst et
              have LN : Hid (rs.length = _) := Lib.hid F6.out.len
              go_upto_region 30 with (fail)
              refine region_anyT (fun X => X.cell? ⟨r, 0, none⟩ = some (.slice ta rs.length tc)) (by kernel_rfl) 8 8 rfl ?_
              refine wpAnyT_take (i := 0) (oi := ⟨some 159, _, _, _, _, _⟩) (v := .pointer (some ⟨b, 0, none⟩)) rfl (by kernel_rfl) (by kernel_rfl) (by kernel_rfl) (fun _ _ _ h => h) (by kernel_rfl) (Or.inl ⟨rfl, fun w h => by kernel_rfl⟩) ((by rw [F6.out.two.ref.1.cell]; rfl : World.cell? X5 ⟨r, 0, none⟩ = _)) ?_
              simp only [Act.put, List.setIfInBounds_toArray, List.set_cons_zero, List.set_cons_succ]
              refine wpAnyT_take (i := 2) (oi := ⟨some 161, _, _, _, _, _⟩) (v := .pointer (some ⟨r, 0, none⟩)) rfl (by kernel_rfl) (by kernel_rfl) (by kernel_rfl) (fun _ _ _ h => h) (by kernel_rfl) (Or.inl ⟨rfl, fun w h => by kernel_rfl⟩) ((by rw [F6.out.two.ref.1.cell]; rfl : World.cell? X5 ⟨r, 0, none⟩ = _)) ?_
              simp only [Act.put, List.setIfInBounds_toArray, List.set_cons_zero, List.set_cons_succ]
              refine wpAnyT_take (i := 3) (oi := ⟨some 162, _, _, _, _, _⟩) (v := .pointer (some ⟨r, 0, none⟩)) rfl (by kernel_rfl) (by kernel_rfl) (by kernel_rfl) (fun _ _ _ h => h) (by kernel_rfl) (Or.inl ⟨rfl, fun w h => by kernel_rfl⟩) ((by rw [F6.out.two.ref.1.cell]; rfl : World.cell? X5 ⟨r, 0, none⟩ = _)) ?_
              simp only [Act.put, List.setIfInBounds_toArray, List.set_cons_zero, List.set_cons_succ]
              refine wpAnyT_take (i := 4) (oi := ⟨some 163, _, _, _, _, _⟩) (v := .pointer (some ⟨r, 0, none⟩)) rfl (by kernel_rfl) (by kernel_rfl) (by kernel_rfl) (fun _ _ _ h => h) (by kernel_rfl) (Or.inl ⟨rfl, fun w h => by kernel_rfl⟩) ((by rw [F6.out.two.ref.1.cell]; rfl : World.cell? X5 ⟨r, 0, none⟩ = _)) ?_
              simp only [Act.put, List.setIfInBounds_toArray, List.set_cons_zero, List.set_cons_succ]
              refine wpAnyT_take (i := 5) (oi := ⟨some 164, _, _, _, _, _⟩) (v := .slice ta rs.length tc) rfl (by kernel_rfl) (by kernel_rfl) (by kernel_rfl) (fun _ _ _ h => h) (by kernel_rfl) (Or.inl ⟨rfl, fun w h => run_load_one _ _ _ 39 _ _ rfl (r) (0) rfl (h) (by kernel_rfl)⟩) ((by rw [F6.out.two.ref.1.cell]; rfl : World.cell? X5 ⟨r, 0, none⟩ = _)) ?_
              simp only [Act.put, List.setIfInBounds_toArray, List.set_cons_zero, List.set_cons_succ]
              refine wpAnyT_take (i := 6) (oi := ⟨some 165, _, _, _, _, _⟩) (v := .int .i64 (rs.length : Int)) rfl (by kernel_rfl) (by kernel_rfl) (by kernel_rfl) (fun _ _ _ h => h) (by kernel_rfl) (Or.inl ⟨rfl, fun w h => by kernel_rfl⟩) ((by rw [F6.out.two.ref.1.cell]; rfl : World.cell? X5 ⟨r, 0, none⟩ = _)) ?_
              simp only [Act.put, List.setIfInBounds_toArray, List.set_cons_zero, List.set_cons_succ]
              refine wpAnyT_one (i := 1) (by kernel_rfl) ?_
              refine op_call (o := ⟨some 160, _, _, _, _, _⟩) 28 #[.pointer (some ⟨b, 0, none⟩)] rfl rfl (by kernel_rfl) ((count_any (World.drew X5) b _ _ F6.out.drew.two.net).mono fun e X1 hx => ?_)
              obtain ⟨rfl, hx⟩ := hx
              subst hx
              refine ⟨_, rfl, ?_⟩
              refine ⟨fun _ => (by rw [F6.out.two.ref.1.cell]; rfl : World.cell? X5 ⟨r, 0, none⟩ = _), ?_⟩
              simp only [Act.put, List.setIfInBounds_toArray, List.set_cons_zero, List.set_cons_succ]
              rw [← LN.out]
              refine wpAnyT_take (i := 7) (oi := ⟨some 166, _, _, _, _, _⟩) (v := .bool false) rfl (by kernel_rfl) (by kernel_rfl) (by kernel_rfl) (fun _ _ _ h => h) (by kernel_rfl) (Or.inl ⟨rfl, fun w h => run_nei Try.underlying3 rfl rfl rfl (by simp)⟩) ((by rw [F6.out.two.ref.1.cell]; rfl : World.cell? X5 ⟨r, 0, none⟩ = _)) ?_
              simp only [Act.put, List.setIfInBounds_toArray, List.set_cons_zero, List.set_cons_succ]
              refine wpAnyT_done (by kernel_rfl) ?_ _
              go_upto_region 6 with (fail)
              refine wp_region_lit ?_
              refine wpL_pure (.int .i64 (j : Int)) rfl (by kernel_rfl) ?_
              simp only [Act.put, List.setIfInBounds_toArray, List.set_cons_zero, List.set_cons_succ]
              refine wpL_pure (.int .i64 ((j + 1 : Nat) : Int)) rfl (run_addi Try.underlying3 rfl rfl rfl _ (by have := HK.out; have := HLN.out; rw [wrap_in _ (by omega) (by omega)]; omega)) ?_
              simp only [Act.put, List.setIfInBounds_toArray, List.set_cons_zero, List.set_cons_succ]
              refine wpL_pure (.int .i64 ((j + 1 : Nat) : Int)) rfl (by kernel_rfl) ?_
              simp only [Act.put, List.setIfInBounds_toArray, List.set_cons_zero, List.set_cons_succ]
              have NX : Hid (j + 1 ≤ ln ∧ ∃ s t ls rs, LK w (World.drew X5) b r s t ls rs) := Lib.hid ⟨HK.out, _, _, _, _, F6.out.drew⟩
              unfold wpList
              go_roundw
              case rel => first | exact ⟨j + 1, rfl, NX⟩ | ((repeat apply Exists.intro); exact ⟨⟨j + 1, rfl, NX⟩, rfl⟩)
              case measure => simp [intOf]; have := HK.out; omega
            · have HN : Hid (0 < ls.length ∧ ls.length ≤ 300 ∧ rs.length = ls.length) := Lib.hid ⟨by omega, Nat.le_trans F1.out.1.few (by omega), F1.out.1.len⟩
              clear hn
              go_upto_region 17 with (fail)
              refine wp_region_lit ?_
              refine wpL_pure (.pointer (some ⟨b, 0, none⟩)) rfl (by kernel_rfl) ?_
              simp only [Act.put, List.setIfInBounds_toArray, List.set_cons_zero, List.set_cons_succ]
              refine wpL_pure (.pointer (some ⟨bx, 1, none⟩)) rfl (by kernel_rfl) ?_
              simp only [Act.put, List.setIfInBounds_toArray, List.set_cons_zero, List.set_cons_succ]
              refine wpL_pure (.int .i64 I) rfl (run_load_one _ _ _ 3 _ _ rfl (bx) (1) rfl (by rw [F1.out.2.cell]; rfl) (by kernel_rfl)) ?_
              simp only [Act.put, List.setIfInBounds_toArray, List.set_cons_zero, List.set_cons_succ]
              refine wpL_call 22 #[.pointer (some ⟨b, 0, none⟩), .int .i64 I] rfl (by kernel_rfl) ((take_any W1 b I s ls F1.out.1.two.net HN.out.1 HN.out.2.1).mono fun e X1 ⟨l, v, s1, hl, he, ho, hnt, hg, hs⟩ => ⟨.tuple #[.agg #[.int .i64 l.f, .int .i64 l.t, v], .bool true], he, ?_⟩)
              simp only [Act.put, List.setIfInBounds_toArray, List.set_cons_zero, List.set_cons_succ]
              have HL := Lib.hid hl
              have f0 : FrN W1 X1 b s s1 := FrN.of_gb hg hs
              have F2 : Hid (Two w X1 b r s1 tt (ls.eraseIdx (plc I ls.length)) rs ∧ Blk X1 bx 45 #[.int .u8 q, .int .i64 I, .int .i64 f, .int .i64 t, .slice pa pn pc] ∧ Own X1 W1.heap.size v l.xs) := Lib.hid ⟨F1.out.1.two.prog f0 hnt, f0.blk F1.out.2 NB.out.1 (row_ne F1.out.1.two.net.2.1 F1.out.2 (by decide)), ho⟩
              clear f0 hl ho hnt hg hs
              obtain ⟨va, vc, ev⟩ := F2.out.2.2.slice
              subst ev
              refine wpL_pure (.tuple #[.agg #[.int .i64 l.f, .int .i64 l.t, .slice va l.xs.length vc], .bool true]) rfl (by kernel_rfl) ?_
              simp only [Act.put, List.setIfInBounds_toArray, List.set_cons_zero, List.set_cons_succ]
              refine wpL_pure (.agg #[.int .i64 l.f, .int .i64 l.t, .slice va l.xs.length vc]) rfl (by kernel_rfl) ?_
              simp only [Act.put, List.setIfInBounds_toArray, List.set_cons_zero, List.set_cons_succ]
              refine wpL_pure (.bool true) rfl (by kernel_rfl) ?_
              simp only [Act.put, List.setIfInBounds_toArray, List.set_cons_zero, List.set_cons_succ]
              have BX := Lib.hid (box_frame X1 l.f l.t (.slice va l.xs.length vc))
              obtain ⟨X2, hW⟩ : ∃ V, V = (World.alloc X1 (.cells #[.int .i64 0, .int .i64 0, .slice none 0 0] 43)).setRow (World.heap X1).size #[.int .i64 l.f, .int .i64 l.t, .slice va l.xs.length vc] := ⟨_, rfl⟩
              rw [← hW] at BX
              refine wpL_value (.pointer (some ⟨(World.heap X1).size, 0, none⟩)) (World.alloc X1 (.cells #[.int .i64 0, .int .i64 0, .slice none 0 0] 43)) rfl (by kernel_rfl) ?_
              simp only [Act.put, List.setIfInBounds_toArray, List.set_cons_zero, List.set_cons_succ]
              refine wpList_store_row rfl 43 _ _ rfl ((World.heap X1).size) (#[.int .i64 l.f, .int .i64 l.t, .slice va l.xs.length vc]) rfl rfl _ _ (Blk.new X1 43 _) (by kernel_rfl) rfl (all3 _ _ _ rfl) ?_
              simp only [Act.put, List.setIfInBounds_toArray, List.set_cons_zero, List.set_cons_succ]
              rw [← hW]
              have F3 : Hid (Two w X2 b r s1 tt (ls.eraseIdx (plc I ls.length)) rs ∧ Blk X2 bx 45 #[.int .u8 q, .int .i64 I, .int .i64 f, .int .i64 t, .slice pa pn pc] ∧ Own X2 W1.heap.size (.slice va l.xs.length vc) l.xs ∧ Blk X2 X1.heap.size 43 #[.int .i64 l.f, .int .i64 l.t, .slice va l.xs.length vc] ∧ ∀ g, tt.ownBlock = some g → g ≠ X1.heap.size) := Lib.hid ⟨F2.out.1.below BX.out.2, F2.out.2.1.below BX.out.2, F2.out.2.2.below BX.out.2, BX.out.1, fun g hg => by have := (F2.out.1.ref.2.2.1.lt g hg).2; omega⟩
              clear BX hW F2
              generalize X1.heap.size = g8 at F3 ⊢
              refine wpL_pure (.bool true) rfl (by kernel_rfl) ?_
              simp only [Act.put, List.setIfInBounds_toArray, List.set_cons_zero, List.set_cons_succ]
              unfold wpList
              go_upto_region 18 with (fail)
              refine wp_region_lit ?_
              refine wpL_pure (.pointer (some ⟨r, 0, none⟩)) rfl (by kernel_rfl) ?_
              simp only [Act.put, List.setIfInBounds_toArray, List.set_cons_zero, List.set_cons_succ]
              refine wpL_pure (.pointer (some ⟨bx, 1, none⟩)) rfl (by kernel_rfl) ?_
              simp only [Act.put, List.setIfInBounds_toArray, List.set_cons_zero, List.set_cons_succ]
              refine wpL_pure (.int .i64 I) rfl (run_load_one _ _ _ 3 _ _ rfl (bx) (1) rfl (by rw [F3.out.2.1.cell]; rfl) (by kernel_rfl)) ?_
              simp only [Act.put, List.setIfInBounds_toArray, List.set_cons_zero, List.set_cons_succ]
              refine wpL_call 23 #[.pointer (some ⟨r, 0, none⟩), .int .i64 I] rfl (by kernel_rfl) ((take_full w X2 r I tt rs F3.out.1.ref (by have := HN.out; omega) (by have := HN.out; omega)).mono fun e X3 ⟨m, t1, hm, he, hrf, f0⟩ => ⟨.tuple #[.agg #[.int .i64 m.f, .int .i64 m.t, m.v], .bool true], he, ?_⟩)
              simp only [Act.put, List.setIfInBounds_toArray, List.set_cons_zero, List.set_cons_succ]
              have HM : Hid (rs[plc I ls.length]? = some m) := Lib.hid (by rw [← HN.out.2.2]; exact hm)
              have hrf2 : RefSt w X3 r t1 (rs.eraseIdx (plc I ls.length)) := by rw [← HN.out.2.2]; exact hrf
              have HI : Hid (Inp w m.v m.xs) := Lib.hid (F3.out.1.ref.2.2.2 m (List.mem_of_getElem? HM.out)).1
              have F4 : Hid (LK w X3 b r s1 t1 (ls.eraseIdx (plc I ls.length)) (rs.eraseIdx (plc I ls.length)) ∧ Own X3 W1.heap.size (.slice va l.xs.length vc) l.xs ∧ Blk X3 g8 43 #[.int .i64 l.f, .int .i64 l.t, .slice va l.xs.length vc]) := Lib.hid ⟨F1.out.1.take (F3.out.1.list f0 hrf2), F3.out.2.2.1.far f0 (own_ne F3.out.1.ref.1 (by decide) F3.out.2.2.1) (bytes_ne F3.out.1.ref.2.2.1 F3.out.2.2.1), f0.blk F3.out.2.2.2.1 (blk_ne F3.out.2.2.2.1 F3.out.1.ref.1 (by decide)) (fun e => F3.out.2.2.2.2 g8 e rfl)⟩
              clear f0 hm hrf hrf2 F3
              obtain ⟨ma, mn, mc, em, mr, _⟩ := HI.out
              have EK := Lib.hid (F1.out.1.at HL.out HM.out)
              rw [em]
              refine wpL_pure (.tuple #[.agg #[.int .i64 m.f, .int .i64 m.t, .slice ma mn mc], .bool true]) rfl (by kernel_rfl) ?_
              simp only [Act.put, List.setIfInBounds_toArray, List.set_cons_zero, List.set_cons_succ]
              refine wpL_pure (.agg #[.int .i64 m.f, .int .i64 m.t, .slice ma mn mc]) rfl (by kernel_rfl) ?_
              simp only [Act.put, List.setIfInBounds_toArray, List.set_cons_zero, List.set_cons_succ]
              refine wpL_pure (.bool true) rfl (by kernel_rfl) ?_
              simp only [Act.put, List.setIfInBounds_toArray, List.set_cons_zero, List.set_cons_succ]
              have BX := Lib.hid (box_frame X3 m.f m.t (.slice ma mn mc))
              obtain ⟨X4, hW⟩ : ∃ V, V = (World.alloc X3 (.cells #[.int .i64 0, .int .i64 0, .slice none 0 0] 43)).setRow (World.heap X3).size #[.int .i64 m.f, .int .i64 m.t, .slice ma mn mc] := ⟨_, rfl⟩
              rw [← hW] at BX
              refine wpL_value (.pointer (some ⟨(World.heap X3).size, 0, none⟩)) (World.alloc X3 (.cells #[.int .i64 0, .int .i64 0, .slice none 0 0] 43)) rfl (by kernel_rfl) ?_
              simp only [Act.put, List.setIfInBounds_toArray, List.set_cons_zero, List.set_cons_succ]
              refine wpList_store_row rfl 43 _ _ rfl ((World.heap X3).size) (#[.int .i64 m.f, .int .i64 m.t, .slice ma mn mc]) rfl rfl _ _ (Blk.new X3 43 _) (by kernel_rfl) rfl (all3 _ _ _ rfl) ?_
              simp only [Act.put, List.setIfInBounds_toArray, List.set_cons_zero, List.set_cons_succ]
              rw [← hW]
              have F5 : Hid (LK w X4 b r s1 t1 (ls.eraseIdx (plc I ls.length)) (rs.eraseIdx (plc I ls.length)) ∧ Row X4 va l.xs.length l.xs ∧ Blk X4 g8 43 #[.int .i64 l.f, .int .i64 l.t, .slice va l.xs.length vc] ∧ Blk X4 X3.heap.size 43 #[.int .i64 m.f, .int .i64 m.t, .slice ma mn mc] ∧ Row X4 ma mn m.xs) := Lib.hid (by
    have k := F4.out.1.below BX.out.2
    exact ⟨k, (F4.out.2.1.below BX.out.2).row.1, F4.out.2.2.below BX.out.2, BX.out.1, mr.keep k.two.low⟩)
              clear BX hW F4 mr em HI F1
              generalize X3.heap.size = g10 at F5 ⊢
              refine wpL_pure (.bool true) rfl (by kernel_rfl) ?_
              simp only [Act.put, List.setIfInBounds_toArray, List.set_cons_zero, List.set_cons_succ]
              unfold wpList
              go_upto_region 19 with (fail)
              refine wp_region_lit ?_
              refine wpL_pure (.bool true) rfl (by kernel_rfl) ?_
              simp only [Act.put, List.setIfInBounds_toArray, List.set_cons_zero, List.set_cons_succ]
              refine wpL_pure (.bool true) rfl (by kernel_rfl) ?_
              simp only [Act.put, List.setIfInBounds_toArray, List.set_cons_zero, List.set_cons_succ]
              refine wpL_pure (.bool false) rfl (by kernel_rfl) ?_
              simp only [Act.put, List.setIfInBounds_toArray, List.set_cons_zero, List.set_cons_succ]
              refine wpL_pure (.bool false) rfl (by kernel_rfl) ?_
              simp only [Act.put, List.setIfInBounds_toArray, List.set_cons_zero, List.set_cons_succ]
              refine wpL_load 43 _ rfl rfl (g8) (0) rfl [.int .i64 l.f, .int .i64 l.t, .slice va l.xs.length vc] _ (range_blk (t := 43) F5.out.2.2.1) Try.underlying43 rfl (by kernel_rfl) ?_
              simp only [Act.put, List.setIfInBounds_toArray, List.set_cons_zero, List.set_cons_succ]
              refine wpL_load 43 _ rfl rfl (g10) (0) rfl [.int .i64 m.f, .int .i64 m.t, .slice ma mn mc] _ (range_blk (t := 43) F5.out.2.2.2.1) Try.underlying43 rfl (by kernel_rfl) ?_
              simp only [Act.put, List.setIfInBounds_toArray, List.set_cons_zero, List.set_cons_succ]
              refine wpL_call 24 #[.agg #[.int .i64 l.f, .int .i64 l.t, .slice va l.xs.length vc], .agg #[.int .i64 m.f, .int .i64 m.t, .slice ma mn mc]] rfl (by kernel_rfl) ((same_any X4 l.f l.t m.f m.t va ma l.xs.length vc mn mc l.xs m.xs F5.out.2.1 F5.out.2.2.2.2).mono fun e X5 ⟨he, q1⟩ => ⟨.bool true, by rw [he, decide_eq_true ⟨EK.out.1.symm, EK.out.2.1.symm, EK.out.2.2.symm⟩], ?_⟩)
              simp only [Act.put, List.setIfInBounds_toArray, List.set_cons_zero, List.set_cons_succ]
              have F6 : Hid (LK w X5 b r s1 t1 (ls.eraseIdx (plc I ls.length)) (rs.eraseIdx (plc I ls.length))) := Lib.hid (F5.out.1.below q1)
              clear q1 F5
              refine wpL_pure (.bool false) rfl (by kernel_rfl) ?_
              simp only [Act.put, List.setIfInBounds_toArray, List.set_cons_zero, List.set_cons_succ]
              refine wpL_pure (.bool false) rfl (by kernel_rfl) ?_
              simp only [Act.put, List.setIfInBounds_toArray, List.set_cons_zero, List.set_cons_succ]
              have HRS : Hid (0 < rs.length) := Lib.hid (by have := HN.out; omega)
              obtain ⟨rs1, hrs1⟩ : ∃ x, rs.eraseIdx (plc I ls.length) = x := ⟨_, rfl⟩
              rw [hrs1] at F6
              clear hrs1
              obtain ⟨ta, tc, et, _⟩ := F6.out.two.ref.2.2.1.slice
              subst et
              have LN : Hid (rs1.length = _) := Lib.hid F6.out.len
              go_upto_region 30 with (fail)
              refine region_anyT (fun X => X.cell? ⟨r, 0, none⟩ = some (.slice ta rs1.length tc)) (by kernel_rfl) 8 8 rfl ?_
              refine wpAnyT_take (i := 0) (oi := ⟨some 159, _, _, _, _, _⟩) (v := .pointer (some ⟨b, 0, none⟩)) rfl (by kernel_rfl) (by kernel_rfl) (by kernel_rfl) (fun _ _ _ h => h) (by kernel_rfl) (Or.inl ⟨rfl, fun w h => by kernel_rfl⟩) ((by rw [F6.out.two.ref.1.cell]; rfl : World.cell? X5 ⟨r, 0, none⟩ = _)) ?_
              simp only [Act.put, List.setIfInBounds_toArray, List.set_cons_zero, List.set_cons_succ]
              refine wpAnyT_take (i := 2) (oi := ⟨some 161, _, _, _, _, _⟩) (v := .pointer (some ⟨r, 0, none⟩)) rfl (by kernel_rfl) (by kernel_rfl) (by kernel_rfl) (fun _ _ _ h => h) (by kernel_rfl) (Or.inl ⟨rfl, fun w h => by kernel_rfl⟩) ((by rw [F6.out.two.ref.1.cell]; rfl : World.cell? X5 ⟨r, 0, none⟩ = _)) ?_
              simp only [Act.put, List.setIfInBounds_toArray, List.set_cons_zero, List.set_cons_succ]
              refine wpAnyT_take (i := 3) (oi := ⟨some 162, _, _, _, _, _⟩) (v := .pointer (some ⟨r, 0, none⟩)) rfl (by kernel_rfl) (by kernel_rfl) (by kernel_rfl) (fun _ _ _ h => h) (by kernel_rfl) (Or.inl ⟨rfl, fun w h => by kernel_rfl⟩) ((by rw [F6.out.two.ref.1.cell]; rfl : World.cell? X5 ⟨r, 0, none⟩ = _)) ?_
              simp only [Act.put, List.setIfInBounds_toArray, List.set_cons_zero, List.set_cons_succ]
              refine wpAnyT_take (i := 4) (oi := ⟨some 163, _, _, _, _, _⟩) (v := .pointer (some ⟨r, 0, none⟩)) rfl (by kernel_rfl) (by kernel_rfl) (by kernel_rfl) (fun _ _ _ h => h) (by kernel_rfl) (Or.inl ⟨rfl, fun w h => by kernel_rfl⟩) ((by rw [F6.out.two.ref.1.cell]; rfl : World.cell? X5 ⟨r, 0, none⟩ = _)) ?_
              simp only [Act.put, List.setIfInBounds_toArray, List.set_cons_zero, List.set_cons_succ]
              refine wpAnyT_take (i := 5) (oi := ⟨some 164, _, _, _, _, _⟩) (v := .slice ta rs1.length tc) rfl (by kernel_rfl) (by kernel_rfl) (by kernel_rfl) (fun _ _ _ h => h) (by kernel_rfl) (Or.inl ⟨rfl, fun w h => run_load_one _ _ _ 39 _ _ rfl (r) (0) rfl (h) (by kernel_rfl)⟩) ((by rw [F6.out.two.ref.1.cell]; rfl : World.cell? X5 ⟨r, 0, none⟩ = _)) ?_
              simp only [Act.put, List.setIfInBounds_toArray, List.set_cons_zero, List.set_cons_succ]
              refine wpAnyT_take (i := 6) (oi := ⟨some 165, _, _, _, _, _⟩) (v := .int .i64 (rs1.length : Int)) rfl (by kernel_rfl) (by kernel_rfl) (by kernel_rfl) (fun _ _ _ h => h) (by kernel_rfl) (Or.inl ⟨rfl, fun w h => by kernel_rfl⟩) ((by rw [F6.out.two.ref.1.cell]; rfl : World.cell? X5 ⟨r, 0, none⟩ = _)) ?_
              simp only [Act.put, List.setIfInBounds_toArray, List.set_cons_zero, List.set_cons_succ]
              refine wpAnyT_one (i := 1) (by kernel_rfl) ?_
              refine op_call (o := ⟨some 160, _, _, _, _, _⟩) 28 #[.pointer (some ⟨b, 0, none⟩)] rfl rfl (by kernel_rfl) ((count_any (World.drew X5) b _ _ F6.out.drew.two.net).mono fun e X1 hx => ?_)
              obtain ⟨rfl, hx⟩ := hx
              subst hx
              refine ⟨_, rfl, ?_⟩
              refine ⟨fun _ => (by rw [F6.out.two.ref.1.cell]; rfl : World.cell? X5 ⟨r, 0, none⟩ = _), ?_⟩
              simp only [Act.put, List.setIfInBounds_toArray, List.set_cons_zero, List.set_cons_succ]
              rw [← LN.out]
              refine wpAnyT_take (i := 7) (oi := ⟨some 166, _, _, _, _, _⟩) (v := .bool false) rfl (by kernel_rfl) (by kernel_rfl) (by kernel_rfl) (fun _ _ _ h => h) (by kernel_rfl) (Or.inl ⟨rfl, fun w h => run_nei Try.underlying3 rfl rfl rfl (by simp)⟩) ((by rw [F6.out.two.ref.1.cell]; rfl : World.cell? X5 ⟨r, 0, none⟩ = _)) ?_
              simp only [Act.put, List.setIfInBounds_toArray, List.set_cons_zero, List.set_cons_succ]
              refine wpAnyT_done (by kernel_rfl) ?_ _
              go_upto_region 6 with (fail)
              refine wp_region_lit ?_
              refine wpL_pure (.int .i64 (j : Int)) rfl (by kernel_rfl) ?_
              simp only [Act.put, List.setIfInBounds_toArray, List.set_cons_zero, List.set_cons_succ]
              refine wpL_pure (.int .i64 ((j + 1 : Nat) : Int)) rfl (run_addi Try.underlying3 rfl rfl rfl _ (by have := HK.out; have := HLN.out; rw [wrap_in _ (by omega) (by omega)]; omega)) ?_
              simp only [Act.put, List.setIfInBounds_toArray, List.set_cons_zero, List.set_cons_succ]
              refine wpL_pure (.int .i64 ((j + 1 : Nat) : Int)) rfl (by kernel_rfl) ?_
              simp only [Act.put, List.setIfInBounds_toArray, List.set_cons_zero, List.set_cons_succ]
              have NX : Hid (j + 1 ≤ ln ∧ ∃ s t ls rs, LK w (World.drew X5) b r s t ls rs) := Lib.hid ⟨HK.out, _, _, _, _, F6.out.drew⟩
              unfold wpList
              go_roundw
              case rel => first | exact ⟨j + 1, rfl, NX⟩ | ((repeat apply Exists.intro); exact ⟨⟨j + 1, rfl, NX⟩, rfl⟩)
              case measure => simp [intOf]; have := HK.out; omega
          · have H1 := Lib.hid h1
            clear h1
            go_upto_region 16 with (fail)
            refine wp_region_lit ?_
            refine wpL_pure (.bool false) rfl (run_eqi Try.underlying5 rfl rfl rfl (by have := H1.out; rw [decide_eq_false_iff_not]; omega)) ?_
            simp only [Act.put, List.setIfInBounds_toArray, List.set_cons_zero, List.set_cons_succ]
            refine wpL_pure (.bool false) rfl (by kernel_rfl) ?_
            simp only [Act.put, List.setIfInBounds_toArray, List.set_cons_zero, List.set_cons_succ]
            by_cases h2 : d = 2
            · have H2 := Lib.hid h2
              clear h2
              go_upto_region 21 with (fail)
              refine wp_region_lit ?_
              refine wpL_pure (.bool true) rfl (run_eqi Try.underlying5 rfl rfl rfl (by have := H2.out; rw [decide_eq_true_eq]; omega)) ?_
              simp only [Act.put, List.setIfInBounds_toArray, List.set_cons_zero, List.set_cons_succ]
              refine wpL_pure (.bool true) rfl (by kernel_rfl) ?_
              simp only [Act.put, List.setIfInBounds_toArray, List.set_cons_zero, List.set_cons_succ]
              by_cases hn : ls.length = 0
              · have HN := Lib.hid hn
                clear hn
                have HN2 : Hid (rs.length = 0) := Lib.hid (by rw [F1.out.1.len]; exact HN.out)
                obtain rfl : pz = -1 := by rw [← HPZ.out, plcR, if_pos HN2.out]
                go_upto_region 22 with (fail)
                refine wp_region_lit ?_
                refine wpL_pure (.pointer (some ⟨b, 0, none⟩)) rfl (by kernel_rfl) ?_
                simp only [Act.put, List.setIfInBounds_toArray, List.set_cons_zero, List.set_cons_succ]
                refine wpL_pure (.pointer (some ⟨bx, 1, none⟩)) rfl (by kernel_rfl) ?_
                simp only [Act.put, List.setIfInBounds_toArray, List.set_cons_zero, List.set_cons_succ]
                refine wpL_pure (.int .i64 I) rfl (run_load_one _ _ _ 3 _ _ rfl (bx) (1) rfl (by rw [F1.out.2.cell]; rfl) (by kernel_rfl)) ?_
                simp only [Act.put, List.setIfInBounds_toArray, List.set_cons_zero, List.set_cons_succ]
                refine wpL_call 25 #[.pointer (some ⟨b, 0, none⟩), .int .i64 I] rfl (by kernel_rfl) ((double_prog W1 b I s ls F1.out.1.two.net (Nat.le_trans F1.out.1.few (by omega))).mono fun e X1 ⟨z, s1, ls1, he, hnt, f0, hz, hz0, hz1⟩ => ⟨.bool z, he, ?_⟩)
                simp only [Act.put, List.setIfInBounds_toArray, List.set_cons_zero, List.set_cons_succ]
                obtain rfl : z = false := by rw [hz]; exact decide_eq_false (fun q => by have := HN.out; omega)
                obtain rfl := hz0 rfl
                have F3 : Hid (LK w X1 b r s1 tt ls1 rs) := Lib.hid ⟨F1.out.1.two.prog f0 hnt, F1.out.1.key, F1.out.1.few⟩
                clear f0 hnt hz hz0 hz1 F1
                refine wpL_pure (.int .i64 (-1)) rfl (by kernel_rfl) ?_
                simp only [Act.put, List.setIfInBounds_toArray, List.set_cons_zero, List.set_cons_succ]
                refine wpL_pure (.bool false) rfl (by kernel_rfl) ?_
                simp only [Act.put, List.setIfInBounds_toArray, List.set_cons_zero, List.set_cons_succ]
                refine wpL_pure (.bool false) rfl (by kernel_rfl) ?_
                simp only [Act.put, List.setIfInBounds_toArray, List.set_cons_zero, List.set_cons_succ]
                refine wpL_skip (by kernel_rfl) ?_
                simp only [Act.put, List.setIfInBounds_toArray, List.set_cons_zero, List.set_cons_succ]
                refine wpL_skip (by kernel_rfl) ?_
                simp only [Act.put, List.setIfInBounds_toArray, List.set_cons_zero, List.set_cons_succ]
                refine wpL_skip (by kernel_rfl) ?_
                simp only [Act.put, List.setIfInBounds_toArray, List.set_cons_zero, List.set_cons_succ]
                refine wpL_skip (by kernel_rfl) ?_
                simp only [Act.put, List.setIfInBounds_toArray, List.set_cons_zero, List.set_cons_succ]
                refine wpL_skip (by kernel_rfl) ?_
                simp only [Act.put, List.setIfInBounds_toArray, List.set_cons_zero, List.set_cons_succ]
                refine wpL_skip (by kernel_rfl) ?_
                simp only [Act.put, List.setIfInBounds_toArray, List.set_cons_zero, List.set_cons_succ]
                refine wpL_skip (by kernel_rfl) ?_
                simp only [Act.put, List.setIfInBounds_toArray, List.set_cons_zero, List.set_cons_succ]
                refine wpL_skip (by kernel_rfl) ?_
                simp only [Act.put, List.setIfInBounds_toArray, List.set_cons_zero, List.set_cons_succ]
                refine wpL_skip (by kernel_rfl) ?_
                simp only [Act.put, List.setIfInBounds_toArray, List.set_cons_zero, List.set_cons_succ]
                refine wpL_skip (by kernel_rfl) ?_
                simp only [Act.put, List.setIfInBounds_toArray, List.set_cons_zero, List.set_cons_succ]
                refine wpL_pure (.bool false) rfl (by kernel_rfl) ?_
                simp only [Act.put, List.setIfInBounds_toArray, List.set_cons_zero, List.set_cons_succ]
                refine wpL_pure (.bool false) rfl (by kernel_rfl) ?_
                simp only [Act.put, List.setIfInBounds_toArray, List.set_cons_zero, List.set_cons_succ]
                unfold wpList
                obtain ⟨ta, tc, et, _⟩ := F3.out.two.ref.2.2.1.slice
                subst et
                have LN : Hid (rs.length = _) := Lib.hid F3.out.len
                go_upto_region 30 with (fail)
                refine region_anyT (fun X => X.cell? ⟨r, 0, none⟩ = some (.slice ta rs.length tc)) (by kernel_rfl) 8 8 rfl ?_
                refine wpAnyT_take (i := 0) (oi := ⟨some 159, _, _, _, _, _⟩) (v := .pointer (some ⟨b, 0, none⟩)) rfl (by kernel_rfl) (by kernel_rfl) (by kernel_rfl) (fun _ _ _ h => h) (by kernel_rfl) (Or.inl ⟨rfl, fun w h => by kernel_rfl⟩) ((by rw [F3.out.two.ref.1.cell]; rfl : World.cell? X1 ⟨r, 0, none⟩ = _)) ?_
                simp only [Act.put, List.setIfInBounds_toArray, List.set_cons_zero, List.set_cons_succ]
                refine wpAnyT_take (i := 2) (oi := ⟨some 161, _, _, _, _, _⟩) (v := .pointer (some ⟨r, 0, none⟩)) rfl (by kernel_rfl) (by kernel_rfl) (by kernel_rfl) (fun _ _ _ h => h) (by kernel_rfl) (Or.inl ⟨rfl, fun w h => by kernel_rfl⟩) ((by rw [F3.out.two.ref.1.cell]; rfl : World.cell? X1 ⟨r, 0, none⟩ = _)) ?_
                simp only [Act.put, List.setIfInBounds_toArray, List.set_cons_zero, List.set_cons_succ]
                refine wpAnyT_take (i := 3) (oi := ⟨some 162, _, _, _, _, _⟩) (v := .pointer (some ⟨r, 0, none⟩)) rfl (by kernel_rfl) (by kernel_rfl) (by kernel_rfl) (fun _ _ _ h => h) (by kernel_rfl) (Or.inl ⟨rfl, fun w h => by kernel_rfl⟩) ((by rw [F3.out.two.ref.1.cell]; rfl : World.cell? X1 ⟨r, 0, none⟩ = _)) ?_
                simp only [Act.put, List.setIfInBounds_toArray, List.set_cons_zero, List.set_cons_succ]
                refine wpAnyT_take (i := 4) (oi := ⟨some 163, _, _, _, _, _⟩) (v := .pointer (some ⟨r, 0, none⟩)) rfl (by kernel_rfl) (by kernel_rfl) (by kernel_rfl) (fun _ _ _ h => h) (by kernel_rfl) (Or.inl ⟨rfl, fun w h => by kernel_rfl⟩) ((by rw [F3.out.two.ref.1.cell]; rfl : World.cell? X1 ⟨r, 0, none⟩ = _)) ?_
                simp only [Act.put, List.setIfInBounds_toArray, List.set_cons_zero, List.set_cons_succ]
                refine wpAnyT_take (i := 5) (oi := ⟨some 164, _, _, _, _, _⟩) (v := .slice ta rs.length tc) rfl (by kernel_rfl) (by kernel_rfl) (by kernel_rfl) (fun _ _ _ h => h) (by kernel_rfl) (Or.inl ⟨rfl, fun w h => run_load_one _ _ _ 39 _ _ rfl (r) (0) rfl (h) (by kernel_rfl)⟩) ((by rw [F3.out.two.ref.1.cell]; rfl : World.cell? X1 ⟨r, 0, none⟩ = _)) ?_
                simp only [Act.put, List.setIfInBounds_toArray, List.set_cons_zero, List.set_cons_succ]
                refine wpAnyT_take (i := 6) (oi := ⟨some 165, _, _, _, _, _⟩) (v := .int .i64 (rs.length : Int)) rfl (by kernel_rfl) (by kernel_rfl) (by kernel_rfl) (fun _ _ _ h => h) (by kernel_rfl) (Or.inl ⟨rfl, fun w h => by kernel_rfl⟩) ((by rw [F3.out.two.ref.1.cell]; rfl : World.cell? X1 ⟨r, 0, none⟩ = _)) ?_
                simp only [Act.put, List.setIfInBounds_toArray, List.set_cons_zero, List.set_cons_succ]
                refine wpAnyT_one (i := 1) (by kernel_rfl) ?_
                refine op_call (o := ⟨some 160, _, _, _, _, _⟩) 28 #[.pointer (some ⟨b, 0, none⟩)] rfl rfl (by kernel_rfl) ((count_any (World.drew X1) b _ _ F3.out.drew.two.net).mono fun e X1 hx => ?_)
                obtain ⟨rfl, hx⟩ := hx
                subst hx
                refine ⟨_, rfl, ?_⟩
                refine ⟨fun _ => (by rw [F3.out.two.ref.1.cell]; rfl : World.cell? X1 ⟨r, 0, none⟩ = _), ?_⟩
                simp only [Act.put, List.setIfInBounds_toArray, List.set_cons_zero, List.set_cons_succ]
                rw [← LN.out]
                refine wpAnyT_take (i := 7) (oi := ⟨some 166, _, _, _, _, _⟩) (v := .bool false) rfl (by kernel_rfl) (by kernel_rfl) (by kernel_rfl) (fun _ _ _ h => h) (by kernel_rfl) (Or.inl ⟨rfl, fun w h => run_nei Try.underlying3 rfl rfl rfl (by simp)⟩) ((by rw [F3.out.two.ref.1.cell]; rfl : World.cell? X1 ⟨r, 0, none⟩ = _)) ?_
                simp only [Act.put, List.setIfInBounds_toArray, List.set_cons_zero, List.set_cons_succ]
                refine wpAnyT_done (by kernel_rfl) ?_ _
                go_upto_region 6 with (fail)
                refine wp_region_lit ?_
                refine wpL_pure (.int .i64 (j : Int)) rfl (by kernel_rfl) ?_
                simp only [Act.put, List.setIfInBounds_toArray, List.set_cons_zero, List.set_cons_succ]
                refine wpL_pure (.int .i64 ((j + 1 : Nat) : Int)) rfl (run_addi Try.underlying3 rfl rfl rfl _ (by have := HK.out; have := HLN.out; rw [wrap_in _ (by omega) (by omega)]; omega)) ?_
                simp only [Act.put, List.setIfInBounds_toArray, List.set_cons_zero, List.set_cons_succ]
                refine wpL_pure (.int .i64 ((j + 1 : Nat) : Int)) rfl (by kernel_rfl) ?_
                simp only [Act.put, List.setIfInBounds_toArray, List.set_cons_zero, List.set_cons_succ]
                have NX : Hid (j + 1 ≤ ln ∧ ∃ s t ls rs, LK w (World.drew X1) b r s t ls rs) := Lib.hid ⟨HK.out, _, _, _, _, F3.out.drew⟩
                unfold wpList
                go_roundw
                case rel => first | exact ⟨j + 1, rfl, NX⟩ | ((repeat apply Exists.intro); exact ⟨⟨j + 1, rfl, NX⟩, rfl⟩)
                case measure => simp [intOf]; have := HK.out; omega
              · have HN : Hid (0 < ls.length ∧ ls.length ≤ 300 ∧ rs.length = ls.length) := Lib.hid ⟨by omega, Nat.le_trans F1.out.1.few (by omega), F1.out.1.len⟩
                clear hn
                rcases F1.out.1.two.ref.2.2.1.forms with ⟨_, e, _⟩ | ⟨gt, tc, cur, e, _, _, q4, q5, _⟩
                · exact absurd e (by have := HN.out; omega)
                subst e
                obtain ⟨k, hk⟩ : ∃ k, plc I rs.length = k := ⟨_, rfl⟩
                have hkl : k < rs.length := by rw [← hk]; exact plc_lt I _ (by have := HN.out; omega)
                obtain rfl : pz = (k : Int) := by rw [← HPZ.out, plcR, if_neg (by have := HN.out; omega), hk]
                obtain ⟨m, hm⟩ : ∃ m, rs[k]? = some m := ⟨_, List.getElem?_eq_getElem hkl⟩
                obtain ⟨⟨ma, mn, mc, em, mr⟩, m16⟩ := F1.out.1.two.ref.2.2.2 m (List.mem_of_getElem? hm)
                obtain ⟨mf, mt, mv, mx⟩ := m
                simp only at em mr m16
                subst em
                have HM := Lib.hid hm
                have HMR := Lib.hid (And.intro mr m16)
                have HKL : Hid (k < rs.length ∧ rs.length ≤ maxLen) := Lib.hid ⟨hkl, by have := HN.out; unfold maxLen; omega⟩
                have HPK : Hid (plc I ls.length = k) := Lib.hid (by rw [← F1.out.1.len]; exact hk)
                have HK0 : Hid ((0 : Int) ≤ (k : Int)) := Lib.hid (by omega)
                clear hm mr m16 hkl hk q4 q5 HPZ
                go_upto_region 22 with (fail)
                refine wp_region_lit ?_
                refine wpL_pure (.pointer (some ⟨b, 0, none⟩)) rfl (by kernel_rfl) ?_
                simp only [Act.put, List.setIfInBounds_toArray, List.set_cons_zero, List.set_cons_succ]
                refine wpL_pure (.pointer (some ⟨bx, 1, none⟩)) rfl (by kernel_rfl) ?_
                simp only [Act.put, List.setIfInBounds_toArray, List.set_cons_zero, List.set_cons_succ]
                refine wpL_pure (.int .i64 I) rfl (run_load_one _ _ _ 3 _ _ rfl (bx) (1) rfl (by rw [F1.out.2.cell]; rfl) (by kernel_rfl)) ?_
                simp only [Act.put, List.setIfInBounds_toArray, List.set_cons_zero, List.set_cons_succ]
                refine wpL_call 25 #[.pointer (some ⟨b, 0, none⟩), .int .i64 I] rfl (by kernel_rfl) ((double_prog W1 b I s ls F1.out.1.two.net (Nat.le_trans F1.out.1.few (by omega))).mono fun e X1 ⟨z, s1, ls1, he, hnt, f0, hz, hz0, hz1⟩ => ⟨.bool z, he, ?_⟩)
                simp only [Act.put, List.setIfInBounds_toArray, List.set_cons_zero, List.set_cons_succ]
                have F2 : Hid (Two w X1 b r s1 (.slice (some ⟨gt, 0, none⟩) rs.length tc) ls1 rs ∧ z = decide (0 < ls.length ∧ ls.length < 200) ∧ (z = false → ls1 = ls) ∧ (z = true → ∃ l, ls[plc I ls.length]? = some l ∧ ls1.map Ltr.key = ls.map Ltr.key ++ [l.key])) := Lib.hid ⟨F1.out.1.two.prog f0 hnt, hz, hz0, hz1⟩
                clear f0 hnt hz hz0 hz1
                refine wpL_pure (.int .i64 (k : Int)) rfl (by kernel_rfl) ?_
                simp only [Act.put, List.setIfInBounds_toArray, List.set_cons_zero, List.set_cons_succ]
                refine wpL_pure (.bool true) rfl (run_gei Try.underlying3 rfl rfl rfl (by have := HK0.out; rw [decide_eq_true_eq]; omega)) ?_
                simp only [Act.put, List.setIfInBounds_toArray, List.set_cons_zero, List.set_cons_succ]
                refine wpL_pure (.bool true) rfl (by kernel_rfl) ?_
                simp only [Act.put, List.setIfInBounds_toArray, List.set_cons_zero, List.set_cons_succ]
                refine wpL_pure (.pointer (some ⟨r, 0, none⟩)) rfl (by kernel_rfl) ?_
                simp only [Act.put, List.setIfInBounds_toArray, List.set_cons_zero, List.set_cons_succ]
                refine wpL_pure (.pointer (some ⟨r, 0, none⟩)) rfl (by kernel_rfl) ?_
                simp only [Act.put, List.setIfInBounds_toArray, List.set_cons_zero, List.set_cons_succ]
                refine wpL_pure (.pointer (some ⟨r, 0, none⟩)) rfl (by kernel_rfl) ?_
                simp only [Act.put, List.setIfInBounds_toArray, List.set_cons_zero, List.set_cons_succ]
                refine wpL_pure (.pointer (some ⟨r, 0, none⟩)) rfl (by kernel_rfl) ?_
                simp only [Act.put, List.setIfInBounds_toArray, List.set_cons_zero, List.set_cons_succ]
                refine wpL_pure (.slice (some ⟨gt, 0, none⟩) rs.length tc) rfl (run_load_one _ _ _ 39 _ _ rfl (r) (0) rfl (by rw [F2.out.1.ref.1.cell]; rfl) (by kernel_rfl)) ?_
                simp only [Act.put, List.setIfInBounds_toArray, List.set_cons_zero, List.set_cons_succ]
                refine wpL_pure (.int .i64 (k : Int)) rfl (by kernel_rfl) ?_
                simp only [Act.put, List.setIfInBounds_toArray, List.set_cons_zero, List.set_cons_succ]
                refine wpL_pure (.int .i64 (k : Int)) rfl (by exact run_max0 _ _ _ _ ((k : Nat) : Int) rfl rfl rfl) ?_
                simp only [Act.put, List.setIfInBounds_toArray, List.set_cons_zero, List.set_cons_succ]
                refine wpL_pure (.pointer (some ⟨gt, k * 3, none⟩)) rfl (run_idxl _ _ _ _ _ gt rs.length tc k rfl rfl rfl HKL.out.1 HKL.out.2) ?_
                simp only [Act.put, List.setIfInBounds_toArray, List.set_cons_zero, List.set_cons_succ]
                refine wpL_pure (.agg #[.int .i64 mf, .int .i64 mt, .slice ma mn mc]) rfl (run_load_mid _ _ _ 43 _ rfl gt (k * 3) rfl [.int .i64 mf, .int .i64 mt, .slice ma mn mc] _ (row_range F2.out.1.ref.2.2.1 HM.out) Try.underlying43 rfl (by kernel_rfl)) ?_
                simp only [Act.put, List.setIfInBounds_toArray, List.set_cons_zero, List.set_cons_succ]
                refine wpL_call 21 #[.pointer (some ⟨r, 0, none⟩), .agg #[.int .i64 mf, .int .i64 mt, .slice ma mn mc]] rfl (by kernel_rfl) ((send_list w X1 r mf mt ma mn mc mx _ rs F2.out.1.ref HMR.out.1).mono fun e X2 ⟨z2, t1, rs1, he, hrf, f1, hz2, hk2⟩ => ⟨.bool z2, he, ?_⟩)
                simp only [Act.put, List.setIfInBounds_toArray, List.set_cons_zero, List.set_cons_succ]
                obtain rfl : z2 = z := by rw [hz2, F2.out.2.1]; exact decide_eq_decide.2 ⟨fun q => ⟨HN.out.1, by have := HN.out; omega⟩, fun q => ⟨by have := HN.out; omega, by have := HMR.out.2; have := HMR.out.1.1.1; omega⟩⟩
                have F3 : Hid (LK w X2 b r s1 t1 ls1 rs1) := Lib.hid (F1.out.1.send (F2.out.1.list f1 hrf) (fun e => (of_decide_eq_true (F2.out.2.1.symm.trans e)).2) (by
      cases z2 with
      | false => rw [F2.out.2.2.1 rfl]; simp
      | true =>
        obtain ⟨l, hl, hlk⟩ := F2.out.2.2.2 rfl
        have e := F1.out.1.at hl (by rw [HPK.out]; exact HM.out)
        simp only at e
        rw [hlk, if_pos rfl, Ltr.key, e.1, e.2.1, e.2.2]) hk2)
                clear hrf f1 hz2 hk2 F2 F1
                refine wpL_pure (.bool z2) rfl (by kernel_rfl) ?_
                simp only [Act.put, List.setIfInBounds_toArray, List.set_cons_zero, List.set_cons_succ]
                refine wpL_pure (.bool false) rfl (by cases z2 <;> kernel_rfl) ?_
                simp only [Act.put, List.setIfInBounds_toArray, List.set_cons_zero, List.set_cons_succ]
                unfold wpList
                obtain ⟨ta, tc, et, _⟩ := F3.out.two.ref.2.2.1.slice
                subst et
                have LN : Hid (rs1.length = _) := Lib.hid F3.out.len
                go_upto_region 30 with (fail)
                refine region_anyT (fun X => X.cell? ⟨r, 0, none⟩ = some (.slice ta rs1.length tc)) (by kernel_rfl) 8 8 rfl ?_
                refine wpAnyT_take (i := 0) (oi := ⟨some 159, _, _, _, _, _⟩) (v := .pointer (some ⟨b, 0, none⟩)) rfl (by kernel_rfl) (by kernel_rfl) (by kernel_rfl) (fun _ _ _ h => h) (by kernel_rfl) (Or.inl ⟨rfl, fun w h => by kernel_rfl⟩) ((by rw [F3.out.two.ref.1.cell]; rfl : World.cell? X2 ⟨r, 0, none⟩ = _)) ?_
                simp only [Act.put, List.setIfInBounds_toArray, List.set_cons_zero, List.set_cons_succ]
                refine wpAnyT_take (i := 2) (oi := ⟨some 161, _, _, _, _, _⟩) (v := .pointer (some ⟨r, 0, none⟩)) rfl (by kernel_rfl) (by kernel_rfl) (by kernel_rfl) (fun _ _ _ h => h) (by kernel_rfl) (Or.inl ⟨rfl, fun w h => by kernel_rfl⟩) ((by rw [F3.out.two.ref.1.cell]; rfl : World.cell? X2 ⟨r, 0, none⟩ = _)) ?_
                simp only [Act.put, List.setIfInBounds_toArray, List.set_cons_zero, List.set_cons_succ]
                refine wpAnyT_take (i := 3) (oi := ⟨some 162, _, _, _, _, _⟩) (v := .pointer (some ⟨r, 0, none⟩)) rfl (by kernel_rfl) (by kernel_rfl) (by kernel_rfl) (fun _ _ _ h => h) (by kernel_rfl) (Or.inl ⟨rfl, fun w h => by kernel_rfl⟩) ((by rw [F3.out.two.ref.1.cell]; rfl : World.cell? X2 ⟨r, 0, none⟩ = _)) ?_
                simp only [Act.put, List.setIfInBounds_toArray, List.set_cons_zero, List.set_cons_succ]
                refine wpAnyT_take (i := 4) (oi := ⟨some 163, _, _, _, _, _⟩) (v := .pointer (some ⟨r, 0, none⟩)) rfl (by kernel_rfl) (by kernel_rfl) (by kernel_rfl) (fun _ _ _ h => h) (by kernel_rfl) (Or.inl ⟨rfl, fun w h => by kernel_rfl⟩) ((by rw [F3.out.two.ref.1.cell]; rfl : World.cell? X2 ⟨r, 0, none⟩ = _)) ?_
                simp only [Act.put, List.setIfInBounds_toArray, List.set_cons_zero, List.set_cons_succ]
                refine wpAnyT_take (i := 5) (oi := ⟨some 164, _, _, _, _, _⟩) (v := .slice ta rs1.length tc) rfl (by kernel_rfl) (by kernel_rfl) (by kernel_rfl) (fun _ _ _ h => h) (by kernel_rfl) (Or.inl ⟨rfl, fun w h => run_load_one _ _ _ 39 _ _ rfl (r) (0) rfl (h) (by kernel_rfl)⟩) ((by rw [F3.out.two.ref.1.cell]; rfl : World.cell? X2 ⟨r, 0, none⟩ = _)) ?_
                simp only [Act.put, List.setIfInBounds_toArray, List.set_cons_zero, List.set_cons_succ]
                refine wpAnyT_take (i := 6) (oi := ⟨some 165, _, _, _, _, _⟩) (v := .int .i64 (rs1.length : Int)) rfl (by kernel_rfl) (by kernel_rfl) (by kernel_rfl) (fun _ _ _ h => h) (by kernel_rfl) (Or.inl ⟨rfl, fun w h => by kernel_rfl⟩) ((by rw [F3.out.two.ref.1.cell]; rfl : World.cell? X2 ⟨r, 0, none⟩ = _)) ?_
                simp only [Act.put, List.setIfInBounds_toArray, List.set_cons_zero, List.set_cons_succ]
                refine wpAnyT_one (i := 1) (by kernel_rfl) ?_
                refine op_call (o := ⟨some 160, _, _, _, _, _⟩) 28 #[.pointer (some ⟨b, 0, none⟩)] rfl rfl (by kernel_rfl) ((count_any (World.drew X2) b _ _ F3.out.drew.two.net).mono fun e X1 hx => ?_)
                obtain ⟨rfl, hx⟩ := hx
                subst hx
                refine ⟨_, rfl, ?_⟩
                refine ⟨fun _ => (by rw [F3.out.two.ref.1.cell]; rfl : World.cell? X2 ⟨r, 0, none⟩ = _), ?_⟩
                simp only [Act.put, List.setIfInBounds_toArray, List.set_cons_zero, List.set_cons_succ]
                rw [← LN.out]
                refine wpAnyT_take (i := 7) (oi := ⟨some 166, _, _, _, _, _⟩) (v := .bool false) rfl (by kernel_rfl) (by kernel_rfl) (by kernel_rfl) (fun _ _ _ h => h) (by kernel_rfl) (Or.inl ⟨rfl, fun w h => run_nei Try.underlying3 rfl rfl rfl (by simp)⟩) ((by rw [F3.out.two.ref.1.cell]; rfl : World.cell? X2 ⟨r, 0, none⟩ = _)) ?_
                simp only [Act.put, List.setIfInBounds_toArray, List.set_cons_zero, List.set_cons_succ]
                refine wpAnyT_done (by kernel_rfl) ?_ _
                go_upto_region 6 with (fail)
                refine wp_region_lit ?_
                refine wpL_pure (.int .i64 (j : Int)) rfl (by kernel_rfl) ?_
                simp only [Act.put, List.setIfInBounds_toArray, List.set_cons_zero, List.set_cons_succ]
                refine wpL_pure (.int .i64 ((j + 1 : Nat) : Int)) rfl (run_addi Try.underlying3 rfl rfl rfl _ (by have := HK.out; have := HLN.out; rw [wrap_in _ (by omega) (by omega)]; omega)) ?_
                simp only [Act.put, List.setIfInBounds_toArray, List.set_cons_zero, List.set_cons_succ]
                refine wpL_pure (.int .i64 ((j + 1 : Nat) : Int)) rfl (by kernel_rfl) ?_
                simp only [Act.put, List.setIfInBounds_toArray, List.set_cons_zero, List.set_cons_succ]
                have NX : Hid (j + 1 ≤ ln ∧ ∃ s t ls rs, LK w (World.drew X2) b r s t ls rs) := Lib.hid ⟨HK.out, _, _, _, _, F3.out.drew⟩
                unfold wpList
                go_roundw
                case rel => first | exact ⟨j + 1, rfl, NX⟩ | ((repeat apply Exists.intro); exact ⟨⟨j + 1, rfl, NX⟩, rfl⟩)
                case measure => simp [intOf]; have := HK.out; omega
            · have H2 := Lib.hid h2
              clear h2
              go_upto_region 21 with (fail)
              refine wp_region_lit ?_
              refine wpL_pure (.bool false) rfl (run_eqi Try.underlying5 rfl rfl rfl (by have := H2.out; rw [decide_eq_false_iff_not]; omega)) ?_
              simp only [Act.put, List.setIfInBounds_toArray, List.set_cons_zero, List.set_cons_succ]
              refine wpL_pure (.bool false) rfl (by kernel_rfl) ?_
              simp only [Act.put, List.setIfInBounds_toArray, List.set_cons_zero, List.set_cons_succ]
              by_cases h3 : d = 3
              · have H3 := Lib.hid h3
                clear h3
                go_upto_region 24 with (fail)
                refine wp_region_lit ?_
                refine wpL_pure (.bool true) rfl (run_eqi Try.underlying5 rfl rfl rfl (by have := H3.out; rw [decide_eq_true_eq]; omega)) ?_
                simp only [Act.put, List.setIfInBounds_toArray, List.set_cons_zero, List.set_cons_succ]
                refine wpL_pure (.bool true) rfl (by kernel_rfl) ?_
                simp only [Act.put, List.setIfInBounds_toArray, List.set_cons_zero, List.set_cons_succ]
                by_cases hn : ls.length = 0
                · have HN := Lib.hid hn
                  clear hn
                  have HN2 : Hid (rs.length = 0) := Lib.hid (by rw [F1.out.1.len]; exact HN.out)
                  obtain rfl : pz = -1 := by rw [← HPZ.out, plcR, if_pos HN2.out]
                  go_upto_region 25 with (fail)
                  refine wp_region_lit ?_
                  refine wpL_pure (.int .i64 (-1)) rfl (by kernel_rfl) ?_
                  simp only [Act.put, List.setIfInBounds_toArray, List.set_cons_zero, List.set_cons_succ]
                  refine wpL_pure (.bool false) rfl (by kernel_rfl) ?_
                  simp only [Act.put, List.setIfInBounds_toArray, List.set_cons_zero, List.set_cons_succ]
                  refine wpL_pure (.bool false) rfl (by kernel_rfl) ?_
                  simp only [Act.put, List.setIfInBounds_toArray, List.set_cons_zero, List.set_cons_succ]
                  refine wpL_skip (by kernel_rfl) ?_
                  simp only [Act.put, List.setIfInBounds_toArray, List.set_cons_zero, List.set_cons_succ]
                  refine wpL_skip (by kernel_rfl) ?_
                  simp only [Act.put, List.setIfInBounds_toArray, List.set_cons_zero, List.set_cons_succ]
                  refine wpL_skip (by kernel_rfl) ?_
                  simp only [Act.put, List.setIfInBounds_toArray, List.set_cons_zero, List.set_cons_succ]
                  refine wpL_skip (by kernel_rfl) ?_
                  simp only [Act.put, List.setIfInBounds_toArray, List.set_cons_zero, List.set_cons_succ]
                  refine wpL_skip (by kernel_rfl) ?_
                  simp only [Act.put, List.setIfInBounds_toArray, List.set_cons_zero, List.set_cons_succ]
                  refine wpL_pure (.bool false) rfl (by kernel_rfl) ?_
                  simp only [Act.put, List.setIfInBounds_toArray, List.set_cons_zero, List.set_cons_succ]
                  refine wpL_pure (.bool false) rfl (by kernel_rfl) ?_
                  simp only [Act.put, List.setIfInBounds_toArray, List.set_cons_zero, List.set_cons_succ]
                  go_upto_region 26 with (fail)
                  refine wp_region_lit ?_
                  refine wpL_pure (.bool false) rfl (by kernel_rfl) ?_
                  simp only [Act.put, List.setIfInBounds_toArray, List.set_cons_zero, List.set_cons_succ]
                  go_upto_region 28 with (fail)
                  refine wp_region_lit ?_
                  refine wpL_pure (.pointer (some ⟨b, 0, none⟩)) rfl (by kernel_rfl) ?_
                  simp only [Act.put, List.setIfInBounds_toArray, List.set_cons_zero, List.set_cons_succ]
                  refine wpL_pure (.pointer (some ⟨bx, 1, none⟩)) rfl (by kernel_rfl) ?_
                  simp only [Act.put, List.setIfInBounds_toArray, List.set_cons_zero, List.set_cons_succ]
                  refine wpL_pure (.int .i64 I) rfl (run_load_one _ _ _ 3 _ _ rfl (bx) (1) rfl (by rw [F1.out.2.cell]; rfl) (by kernel_rfl)) ?_
                  simp only [Act.put, List.setIfInBounds_toArray, List.set_cons_zero, List.set_cons_succ]
                  refine wpL_pure (.pointer (some ⟨bx, 2, none⟩)) rfl (by kernel_rfl) ?_
                  simp only [Act.put, List.setIfInBounds_toArray, List.set_cons_zero, List.set_cons_succ]
                  refine wpL_pure (.pointer (some ⟨bx, 4, none⟩)) rfl (by kernel_rfl) ?_
                  simp only [Act.put, List.setIfInBounds_toArray, List.set_cons_zero, List.set_cons_succ]
                  refine wpL_pure (.slice pa pn pc) rfl (run_load_one _ _ _ 30 _ _ rfl (bx) (4) rfl (by rw [F1.out.2.cell]; rfl) (by kernel_rfl)) ?_
                  simp only [Act.put, List.setIfInBounds_toArray, List.set_cons_zero, List.set_cons_succ]
                  refine wpL_call 26 #[.pointer (some ⟨b, 0, none⟩), .int .i64 I, .slice pa pn pc] rfl (by kernel_rfl) ((turn_prog W1 b I s ls pa pn pc (bs.take pn) F1.out.1.two.net (Nat.le_trans F1.out.1.few (by omega)) ⟨HR.out.1.keep F1.out.1.two.low, HR.out.2⟩).mono fun e X1 ⟨z, ls1, he, hnt, f0, hz, hz0, hz1⟩ => ⟨.bool false, by rw [he, show z = false by rw [hz]; exact decide_eq_false (fun q => by have := HN.out; omega)], ?_⟩)
                  simp only [Act.put, List.setIfInBounds_toArray, List.set_cons_zero, List.set_cons_succ]
                  obtain rfl : z = false := by rw [hz]; exact decide_eq_false (fun q => by have := HN.out; omega)
                  obtain rfl := hz0 rfl
                  have F3 : Hid (LK w X1 b r s tt ls1 rs) := Lib.hid ⟨F1.out.1.two.prog f0 hnt, F1.out.1.key, F1.out.1.few⟩
                  clear f0 hnt hz hz0 hz1 F1
                  refine wpL_pure (.bool false) rfl (by kernel_rfl) ?_
                  simp only [Act.put, List.setIfInBounds_toArray, List.set_cons_zero, List.set_cons_succ]
                  refine wpL_pure (.bool false) rfl (by kernel_rfl) ?_
                  simp only [Act.put, List.setIfInBounds_toArray, List.set_cons_zero, List.set_cons_succ]
                  obtain ⟨ta, tc, et, _⟩ := F3.out.two.ref.2.2.1.slice
                  subst et
                  have LN : Hid (rs.length = _) := Lib.hid F3.out.len
                  go_upto_region 30 with (fail)
                  refine region_anyT (fun X => X.cell? ⟨r, 0, none⟩ = some (.slice ta rs.length tc)) (by kernel_rfl) 8 8 rfl ?_
                  refine wpAnyT_take (i := 0) (oi := ⟨some 159, _, _, _, _, _⟩) (v := .pointer (some ⟨b, 0, none⟩)) rfl (by kernel_rfl) (by kernel_rfl) (by kernel_rfl) (fun _ _ _ h => h) (by kernel_rfl) (Or.inl ⟨rfl, fun w h => by kernel_rfl⟩) ((by rw [F3.out.two.ref.1.cell]; rfl : World.cell? X1 ⟨r, 0, none⟩ = _)) ?_
                  simp only [Act.put, List.setIfInBounds_toArray, List.set_cons_zero, List.set_cons_succ]
                  refine wpAnyT_take (i := 2) (oi := ⟨some 161, _, _, _, _, _⟩) (v := .pointer (some ⟨r, 0, none⟩)) rfl (by kernel_rfl) (by kernel_rfl) (by kernel_rfl) (fun _ _ _ h => h) (by kernel_rfl) (Or.inl ⟨rfl, fun w h => by kernel_rfl⟩) ((by rw [F3.out.two.ref.1.cell]; rfl : World.cell? X1 ⟨r, 0, none⟩ = _)) ?_
                  simp only [Act.put, List.setIfInBounds_toArray, List.set_cons_zero, List.set_cons_succ]
                  refine wpAnyT_take (i := 3) (oi := ⟨some 162, _, _, _, _, _⟩) (v := .pointer (some ⟨r, 0, none⟩)) rfl (by kernel_rfl) (by kernel_rfl) (by kernel_rfl) (fun _ _ _ h => h) (by kernel_rfl) (Or.inl ⟨rfl, fun w h => by kernel_rfl⟩) ((by rw [F3.out.two.ref.1.cell]; rfl : World.cell? X1 ⟨r, 0, none⟩ = _)) ?_
                  simp only [Act.put, List.setIfInBounds_toArray, List.set_cons_zero, List.set_cons_succ]
                  refine wpAnyT_take (i := 4) (oi := ⟨some 163, _, _, _, _, _⟩) (v := .pointer (some ⟨r, 0, none⟩)) rfl (by kernel_rfl) (by kernel_rfl) (by kernel_rfl) (fun _ _ _ h => h) (by kernel_rfl) (Or.inl ⟨rfl, fun w h => by kernel_rfl⟩) ((by rw [F3.out.two.ref.1.cell]; rfl : World.cell? X1 ⟨r, 0, none⟩ = _)) ?_
                  simp only [Act.put, List.setIfInBounds_toArray, List.set_cons_zero, List.set_cons_succ]
                  refine wpAnyT_take (i := 5) (oi := ⟨some 164, _, _, _, _, _⟩) (v := .slice ta rs.length tc) rfl (by kernel_rfl) (by kernel_rfl) (by kernel_rfl) (fun _ _ _ h => h) (by kernel_rfl) (Or.inl ⟨rfl, fun w h => run_load_one _ _ _ 39 _ _ rfl (r) (0) rfl (h) (by kernel_rfl)⟩) ((by rw [F3.out.two.ref.1.cell]; rfl : World.cell? X1 ⟨r, 0, none⟩ = _)) ?_
                  simp only [Act.put, List.setIfInBounds_toArray, List.set_cons_zero, List.set_cons_succ]
                  refine wpAnyT_take (i := 6) (oi := ⟨some 165, _, _, _, _, _⟩) (v := .int .i64 (rs.length : Int)) rfl (by kernel_rfl) (by kernel_rfl) (by kernel_rfl) (fun _ _ _ h => h) (by kernel_rfl) (Or.inl ⟨rfl, fun w h => by kernel_rfl⟩) ((by rw [F3.out.two.ref.1.cell]; rfl : World.cell? X1 ⟨r, 0, none⟩ = _)) ?_
                  simp only [Act.put, List.setIfInBounds_toArray, List.set_cons_zero, List.set_cons_succ]
                  refine wpAnyT_one (i := 1) (by kernel_rfl) ?_
                  refine op_call (o := ⟨some 160, _, _, _, _, _⟩) 28 #[.pointer (some ⟨b, 0, none⟩)] rfl rfl (by kernel_rfl) ((count_any (World.drew X1) b _ _ F3.out.drew.two.net).mono fun e X1 hx => ?_)
                  obtain ⟨rfl, hx⟩ := hx
                  subst hx
                  refine ⟨_, rfl, ?_⟩
                  refine ⟨fun _ => (by rw [F3.out.two.ref.1.cell]; rfl : World.cell? X1 ⟨r, 0, none⟩ = _), ?_⟩
                  simp only [Act.put, List.setIfInBounds_toArray, List.set_cons_zero, List.set_cons_succ]
                  rw [← LN.out]
                  refine wpAnyT_take (i := 7) (oi := ⟨some 166, _, _, _, _, _⟩) (v := .bool false) rfl (by kernel_rfl) (by kernel_rfl) (by kernel_rfl) (fun _ _ _ h => h) (by kernel_rfl) (Or.inl ⟨rfl, fun w h => run_nei Try.underlying3 rfl rfl rfl (by simp)⟩) ((by rw [F3.out.two.ref.1.cell]; rfl : World.cell? X1 ⟨r, 0, none⟩ = _)) ?_
                  simp only [Act.put, List.setIfInBounds_toArray, List.set_cons_zero, List.set_cons_succ]
                  refine wpAnyT_done (by kernel_rfl) ?_ _
                  go_upto_region 6 with (fail)
                  refine wp_region_lit ?_
                  refine wpL_pure (.int .i64 (j : Int)) rfl (by kernel_rfl) ?_
                  simp only [Act.put, List.setIfInBounds_toArray, List.set_cons_zero, List.set_cons_succ]
                  refine wpL_pure (.int .i64 ((j + 1 : Nat) : Int)) rfl (run_addi Try.underlying3 rfl rfl rfl _ (by have := HK.out; have := HLN.out; rw [wrap_in _ (by omega) (by omega)]; omega)) ?_
                  simp only [Act.put, List.setIfInBounds_toArray, List.set_cons_zero, List.set_cons_succ]
                  refine wpL_pure (.int .i64 ((j + 1 : Nat) : Int)) rfl (by kernel_rfl) ?_
                  simp only [Act.put, List.setIfInBounds_toArray, List.set_cons_zero, List.set_cons_succ]
                  have NX : Hid (j + 1 ≤ ln ∧ ∃ s t ls rs, LK w (World.drew X1) b r s t ls rs) := Lib.hid ⟨HK.out, _, _, _, _, F3.out.drew⟩
                  unfold wpList
                  go_roundw
                  case rel => first | exact ⟨j + 1, rfl, NX⟩ | ((repeat apply Exists.intro); exact ⟨⟨j + 1, rfl, NX⟩, rfl⟩)
                  case measure => simp [intOf]; have := HK.out; omega
                · have HN : Hid (0 < ls.length ∧ ls.length ≤ 300 ∧ rs.length = ls.length) := Lib.hid ⟨by omega, Nat.le_trans F1.out.1.few (by omega), F1.out.1.len⟩
                  clear hn
                  rcases F1.out.1.two.ref.2.2.1.forms with ⟨_, e, _⟩ | ⟨gt, tc, cur, e, _, _, q4, q5, _⟩
                  · exact absurd e (by have := HN.out; omega)
                  subst e
                  obtain ⟨k, hk⟩ : ∃ k, plc I rs.length = k := ⟨_, rfl⟩
                  have hkl : k < rs.length := by rw [← hk]; exact plc_lt I _ (by have := HN.out; omega)
                  obtain rfl : pz = (k : Int) := by rw [← HPZ.out, plcR, if_neg (by have := HN.out; omega), hk]
                  obtain ⟨m, hm⟩ : ∃ m, rs[k]? = some m := ⟨_, List.getElem?_eq_getElem hkl⟩
                  obtain ⟨⟨ma, mn, mc, em, mr⟩, m16⟩ := F1.out.1.two.ref.2.2.2 m (List.mem_of_getElem? hm)
                  obtain ⟨mf, mt, mv, mx⟩ := m
                  simp only at em mr m16
                  subst em
                  have HM := Lib.hid hm
                  have HMR := Lib.hid (And.intro mr m16)
                  have HKL : Hid (k < rs.length ∧ rs.length ≤ maxLen) := Lib.hid ⟨hkl, by have := HN.out; unfold maxLen; omega⟩
                  have HPK : Hid (plc I ls.length = k) := Lib.hid (by rw [← F1.out.1.len]; exact hk)
                  have HK0 : Hid ((0 : Int) ≤ (k : Int)) := Lib.hid (by omega)
                  clear hm mr m16 hkl hk q4 q5 HPZ
                  by_cases hp : pn ≤ 16384
                  · have HP16 := Lib.hid hp
                    clear hp
                    go_upto_region 25 with (fail)
                    refine wp_region_lit ?_
                    refine wpL_pure (.int .i64 (k : Int)) rfl (by kernel_rfl) ?_
                    simp only [Act.put, List.setIfInBounds_toArray, List.set_cons_zero, List.set_cons_succ]
                    refine wpL_pure (.bool true) rfl (run_gei Try.underlying3 rfl rfl rfl (by have := HK0.out; rw [decide_eq_true_eq]; omega)) ?_
                    simp only [Act.put, List.setIfInBounds_toArray, List.set_cons_zero, List.set_cons_succ]
                    refine wpL_pure (.bool true) rfl (by kernel_rfl) ?_
                    simp only [Act.put, List.setIfInBounds_toArray, List.set_cons_zero, List.set_cons_succ]
                    refine wpL_pure (.pointer (some ⟨bx, 2, none⟩)) rfl (by kernel_rfl) ?_
                    simp only [Act.put, List.setIfInBounds_toArray, List.set_cons_zero, List.set_cons_succ]
                    refine wpL_pure (.pointer (some ⟨bx, 4, none⟩)) rfl (by kernel_rfl) ?_
                    simp only [Act.put, List.setIfInBounds_toArray, List.set_cons_zero, List.set_cons_succ]
                    refine wpL_pure (.slice pa pn pc) rfl (run_load_one _ _ _ 30 _ _ rfl (bx) (4) rfl (by rw [F1.out.2.cell]; rfl) (by kernel_rfl)) ?_
                    simp only [Act.put, List.setIfInBounds_toArray, List.set_cons_zero, List.set_cons_succ]
                    refine wpL_pure (.int .i64 (pn : Int)) rfl (by kernel_rfl) ?_
                    simp only [Act.put, List.setIfInBounds_toArray, List.set_cons_zero, List.set_cons_succ]
                    refine wpL_pure (.bool true) rfl (run_lei Try.underlying3 rfl rfl rfl (by have := HP16.out; rw [decide_eq_true_eq]; omega)) ?_
                    simp only [Act.put, List.setIfInBounds_toArray, List.set_cons_zero, List.set_cons_succ]
                    refine wpL_pure (.bool true) rfl (by kernel_rfl) ?_
                    simp only [Act.put, List.setIfInBounds_toArray, List.set_cons_zero, List.set_cons_succ]
                    refine wpL_pure (.bool true) rfl (by kernel_rfl) ?_
                    simp only [Act.put, List.setIfInBounds_toArray, List.set_cons_zero, List.set_cons_succ]
                    go_upto_region 26 with (fail)
                    refine wp_region_lit ?_
                    refine wpL_pure (.bool true) rfl (by kernel_rfl) ?_
                    simp only [Act.put, List.setIfInBounds_toArray, List.set_cons_zero, List.set_cons_succ]
                    go_upto_region 27 with (fail)
                    refine region_anyT (fun X => X.cell? ⟨r, 0, none⟩ = some (.slice (some ⟨gt, 0, none⟩) rs.length tc) ∧ Blk X bx 45 #[.int .u8 q, .int .i64 I, .int .i64 f, .int .i64 t, .slice pa pn pc]) (by kernel_rfl) 11 11 rfl ?_
                    refine wpAnyT_take (i := 0) (oi := ⟨some 140, _, _, _, _, _⟩) (v := .pointer (some ⟨r, 0, none⟩)) rfl (by kernel_rfl) (by kernel_rfl) (by kernel_rfl) (fun _ _ _ h => h) (by kernel_rfl) (Or.inl ⟨rfl, fun w h => by kernel_rfl⟩) (⟨(by rw [F1.out.1.two.ref.1.cell]; rfl : W1.cell? ⟨r, 0, none⟩ = _), F1.out.2⟩) ?_
                    simp only [Act.put, List.setIfInBounds_toArray, List.set_cons_zero, List.set_cons_succ]
                    refine wpAnyT_take (i := 1) (oi := ⟨some 141, _, _, _, _, _⟩) (v := .pointer (some ⟨r, 0, none⟩)) rfl (by kernel_rfl) (by kernel_rfl) (by kernel_rfl) (fun _ _ _ h => h) (by kernel_rfl) (Or.inl ⟨rfl, fun w h => by kernel_rfl⟩) (⟨(by rw [F1.out.1.two.ref.1.cell]; rfl : W1.cell? ⟨r, 0, none⟩ = _), F1.out.2⟩) ?_
                    simp only [Act.put, List.setIfInBounds_toArray, List.set_cons_zero, List.set_cons_succ]
                    refine wpAnyT_take (i := 2) (oi := ⟨some 142, _, _, _, _, _⟩) (v := .pointer (some ⟨r, 0, none⟩)) rfl (by kernel_rfl) (by kernel_rfl) (by kernel_rfl) (fun _ _ _ h => h) (by kernel_rfl) (Or.inl ⟨rfl, fun w h => by kernel_rfl⟩) (⟨(by rw [F1.out.1.two.ref.1.cell]; rfl : W1.cell? ⟨r, 0, none⟩ = _), F1.out.2⟩) ?_
                    simp only [Act.put, List.setIfInBounds_toArray, List.set_cons_zero, List.set_cons_succ]
                    refine wpAnyT_take (i := 3) (oi := ⟨some 143, _, _, _, _, _⟩) (v := .slice (some ⟨gt, 0, none⟩) rs.length tc) rfl (by kernel_rfl) (by kernel_rfl) (by kernel_rfl) (fun _ _ _ h => h) (by kernel_rfl) (Or.inl ⟨rfl, fun w h => run_load_one _ _ _ 39 _ _ rfl (r) (0) rfl (h.1) (by kernel_rfl)⟩) (⟨(by rw [F1.out.1.two.ref.1.cell]; rfl : W1.cell? ⟨r, 0, none⟩ = _), F1.out.2⟩) ?_
                    simp only [Act.put, List.setIfInBounds_toArray, List.set_cons_zero, List.set_cons_succ]
                    refine wpAnyT_take (i := 4) (oi := ⟨some 144, _, _, _, _, _⟩) (v := .int .i64 (k : Int)) rfl (by kernel_rfl) (by kernel_rfl) (by kernel_rfl) (fun _ _ _ h => h) (by kernel_rfl) (Or.inl ⟨rfl, fun w h => by kernel_rfl⟩) (⟨(by rw [F1.out.1.two.ref.1.cell]; rfl : W1.cell? ⟨r, 0, none⟩ = _), F1.out.2⟩) ?_
                    simp only [Act.put, List.setIfInBounds_toArray, List.set_cons_zero, List.set_cons_succ]
                    refine wpAnyT_take (i := 5) (oi := ⟨some 145, _, _, _, _, _⟩) (v := .pointer (some ⟨bx, 2, none⟩)) rfl (by kernel_rfl) (by kernel_rfl) (by kernel_rfl) (fun _ _ _ h => h) (by kernel_rfl) (Or.inl ⟨rfl, fun w h => by kernel_rfl⟩) (⟨(by rw [F1.out.1.two.ref.1.cell]; rfl : W1.cell? ⟨r, 0, none⟩ = _), F1.out.2⟩) ?_
                    simp only [Act.put, List.setIfInBounds_toArray, List.set_cons_zero, List.set_cons_succ]
                    refine wpAnyT_take (i := 6) (oi := ⟨some 146, _, _, _, _, _⟩) (v := .pointer (some ⟨bx, 4, none⟩)) rfl (by kernel_rfl) (by kernel_rfl) (by kernel_rfl) (fun _ _ _ h => h) (by kernel_rfl) (Or.inl ⟨rfl, fun w h => by kernel_rfl⟩) (⟨(by rw [F1.out.1.two.ref.1.cell]; rfl : W1.cell? ⟨r, 0, none⟩ = _), F1.out.2⟩) ?_
                    simp only [Act.put, List.setIfInBounds_toArray, List.set_cons_zero, List.set_cons_succ]
                    refine wpAnyT_take (i := 7) (oi := ⟨some 147, _, _, _, _, _⟩) (v := .slice pa pn pc) rfl (by kernel_rfl) (by kernel_rfl) (by kernel_rfl) (fun _ _ _ h => h) (by kernel_rfl) (Or.inl ⟨rfl, fun w h => run_load_one _ _ _ 30 _ _ rfl (bx) (4) rfl (by rw [h.2.cell]; rfl) (by kernel_rfl)⟩) (⟨(by rw [F1.out.1.two.ref.1.cell]; rfl : W1.cell? ⟨r, 0, none⟩ = _), F1.out.2⟩) ?_
                    simp only [Act.put, List.setIfInBounds_toArray, List.set_cons_zero, List.set_cons_succ]
                    refine wpAnyT_take (i := 8) (oi := ⟨some 148, _, _, _, _, _⟩) (v := .pointer (some ⟨gt, k * 3, none⟩)) rfl (by kernel_rfl) (by kernel_rfl) (by kernel_rfl) (fun _ _ _ h => h) (by kernel_rfl) (Or.inl ⟨rfl, fun w h => run_idxl _ _ _ _ _ gt rs.length tc k rfl rfl rfl HKL.out.1 HKL.out.2⟩) (⟨(by rw [F1.out.1.two.ref.1.cell]; rfl : W1.cell? ⟨r, 0, none⟩ = _), F1.out.2⟩) ?_
                    simp only [Act.put, List.setIfInBounds_toArray, List.set_cons_zero, List.set_cons_succ]
                    refine wpAnyT_take (i := 9) (oi := ⟨some 149, _, _, _, _, _⟩) (v := .pointer (some ⟨gt, k * 3 + 2, none⟩)) rfl (by kernel_rfl) (by kernel_rfl) (by kernel_rfl) (fun _ _ _ h => h) (by kernel_rfl) (Or.inl ⟨rfl, fun w h => by kernel_rfl⟩) (⟨(by rw [F1.out.1.two.ref.1.cell]; rfl : W1.cell? ⟨r, 0, none⟩ = _), F1.out.2⟩) ?_
                    simp only [Act.put, List.setIfInBounds_toArray, List.set_cons_zero, List.set_cons_succ]
                    refine wpAnyT_one (i := 10) (by kernel_rfl) ?_
                    obtain ⟨W2, hW2⟩ : ∃ V, V = W1.drew.setCell ⟨gt, k * 3 + 2, none⟩ (.slice pa pn pc) := ⟨_, rfl⟩
                    have hput := ref_put F1.out.1.drew.two.ref HM.out (u := .slice pa pn pc) (xs := (bs.take pn)) ⟨pa, pn, pc, rfl, HR.out⟩ (by have := HP16.out; rw [HR.out.1.1]; omega)
                    have F2 : Hid (Two w W2 b r s (.slice (some ⟨gt, 0, none⟩) rs.length tc) ls (rs.set k (⟨mf, mt, .slice pa pn pc, (bs.take pn)⟩ : Ltr)) ∧ Blk W2 bx 45 #[.int .u8 q, .int .i64 I, .int .i64 f, .int .i64 t, .slice pa pn pc]) := Lib.hid (by rw [hW2]; exact ⟨F1.out.1.drew.two.list hput.2 hput.1, hput.2.blk (show Blk W1.drew bx 45 _ from F1.out.2) NB.out.2 (row_ne F1.out.1.two.ref.2.2.1 F1.out.2 (by decide))⟩)
                    clear hput
                    refine op_skip (o := ⟨none, _, _, _, _, _⟩) W2 rfl rfl (by rw [hW2]; exact run_store_one _ _ _ 30 _ _ rfl gt (k * 3 + 2) rfl _ rfl rfl size30 (by rw [F1.out.1.drew.two.ref.2.2.1.cell _ (by have := HKL.out; omega), List.getElem?_eq_getElem (by rw [flat_len]; have := HKL.out; omega)]; rfl) (F1.out.1.drew.two.ref.2.2.1.1.frozenAt _)) ?_
                    refine ⟨fun _ => ⟨by rw [F2.out.1.ref.1.cell]; rfl, F2.out.2⟩, ?_⟩
                    simp only [Act.put, List.setIfInBounds_toArray, List.set_cons_zero, List.set_cons_succ]
                    clear hW2
                    refine wpAnyT_done (by kernel_rfl) ?_ _
                    go_upto_region 28 with (fail)
                    refine wp_region_lit ?_
                    refine wpL_pure (.pointer (some ⟨b, 0, none⟩)) rfl (by kernel_rfl) ?_
                    simp only [Act.put, List.setIfInBounds_toArray, List.set_cons_zero, List.set_cons_succ]
                    refine wpL_pure (.pointer (some ⟨bx, 1, none⟩)) rfl (by kernel_rfl) ?_
                    simp only [Act.put, List.setIfInBounds_toArray, List.set_cons_zero, List.set_cons_succ]
                    refine wpL_pure (.int .i64 I) rfl (run_load_one _ _ _ 3 _ _ rfl (bx) (1) rfl (by rw [F2.out.2.cell]; rfl) (by kernel_rfl)) ?_
                    simp only [Act.put, List.setIfInBounds_toArray, List.set_cons_zero, List.set_cons_succ]
                    refine wpL_pure (.pointer (some ⟨bx, 2, none⟩)) rfl (by kernel_rfl) ?_
                    simp only [Act.put, List.setIfInBounds_toArray, List.set_cons_zero, List.set_cons_succ]
                    refine wpL_pure (.pointer (some ⟨bx, 4, none⟩)) rfl (by kernel_rfl) ?_
                    simp only [Act.put, List.setIfInBounds_toArray, List.set_cons_zero, List.set_cons_succ]
                    refine wpL_pure (.slice pa pn pc) rfl (run_load_one _ _ _ 30 _ _ rfl (bx) (4) rfl (by rw [F2.out.2.cell]; rfl) (by kernel_rfl)) ?_
                    simp only [Act.put, List.setIfInBounds_toArray, List.set_cons_zero, List.set_cons_succ]
                    refine wpL_call 26 #[.pointer (some ⟨b, 0, none⟩), .int .i64 I, .slice pa pn pc] rfl (by kernel_rfl) ((turn_prog W2 b I s ls pa pn pc (bs.take pn) F2.out.1.net (Nat.le_trans F1.out.1.few (by omega)) ⟨HR.out.1.keep F2.out.1.low, HR.out.2⟩).mono fun e X1 ⟨z, ls1, he, hnt, f0, hz, hz0, hz1⟩ => ⟨.bool true, by rw [he, show z = true by rw [hz]; exact decide_eq_true ⟨HN.out.1, HP16.out⟩], ?_⟩)
                    simp only [Act.put, List.setIfInBounds_toArray, List.set_cons_zero, List.set_cons_succ]
                    obtain rfl : z = true := by rw [hz]; exact decide_eq_true ⟨HN.out.1, HP16.out⟩
                    obtain ⟨l, hl, hlk⟩ := hz1 rfl
                    have F3 : Hid (LK w X1 b r s (.slice (some ⟨gt, 0, none⟩) rs.length tc) ls1 (rs.set k (⟨mf, mt, .slice pa pn pc, (bs.take pn)⟩ : Ltr))) := Lib.hid (F1.out.1.put (l := l) (by rw [← HPK.out]; exact hl) HM.out (F2.out.1.prog f0 hnt) (by rw [← HPK.out]; exact hlk))
                    clear hl hlk F2
                    clear f0 hnt hz hz0 hz1 F1
                    refine wpL_pure (.bool true) rfl (by kernel_rfl) ?_
                    simp only [Act.put, List.setIfInBounds_toArray, List.set_cons_zero, List.set_cons_succ]
                    refine wpL_pure (.bool false) rfl (by kernel_rfl) ?_
                    simp only [Act.put, List.setIfInBounds_toArray, List.set_cons_zero, List.set_cons_succ]
                    have LN : Hid (rs.length = ls1.length) := Lib.hid (by simpa using F3.out.len)
                    go_upto_region 30 with (fail)
                    refine region_anyT (fun X => X.cell? ⟨r, 0, none⟩ = some (.slice (some ⟨gt, 0, none⟩) rs.length tc)) (by kernel_rfl) 8 8 rfl ?_
                    refine wpAnyT_take (i := 0) (oi := ⟨some 159, _, _, _, _, _⟩) (v := .pointer (some ⟨b, 0, none⟩)) rfl (by kernel_rfl) (by kernel_rfl) (by kernel_rfl) (fun _ _ _ h => h) (by kernel_rfl) (Or.inl ⟨rfl, fun w h => by kernel_rfl⟩) ((by rw [F3.out.two.ref.1.cell]; rfl : World.cell? X1 ⟨r, 0, none⟩ = _)) ?_
                    simp only [Act.put, List.setIfInBounds_toArray, List.set_cons_zero, List.set_cons_succ]
                    refine wpAnyT_take (i := 2) (oi := ⟨some 161, _, _, _, _, _⟩) (v := .pointer (some ⟨r, 0, none⟩)) rfl (by kernel_rfl) (by kernel_rfl) (by kernel_rfl) (fun _ _ _ h => h) (by kernel_rfl) (Or.inl ⟨rfl, fun w h => by kernel_rfl⟩) ((by rw [F3.out.two.ref.1.cell]; rfl : World.cell? X1 ⟨r, 0, none⟩ = _)) ?_
                    simp only [Act.put, List.setIfInBounds_toArray, List.set_cons_zero, List.set_cons_succ]
                    refine wpAnyT_take (i := 3) (oi := ⟨some 162, _, _, _, _, _⟩) (v := .pointer (some ⟨r, 0, none⟩)) rfl (by kernel_rfl) (by kernel_rfl) (by kernel_rfl) (fun _ _ _ h => h) (by kernel_rfl) (Or.inl ⟨rfl, fun w h => by kernel_rfl⟩) ((by rw [F3.out.two.ref.1.cell]; rfl : World.cell? X1 ⟨r, 0, none⟩ = _)) ?_
                    simp only [Act.put, List.setIfInBounds_toArray, List.set_cons_zero, List.set_cons_succ]
                    refine wpAnyT_take (i := 4) (oi := ⟨some 163, _, _, _, _, _⟩) (v := .pointer (some ⟨r, 0, none⟩)) rfl (by kernel_rfl) (by kernel_rfl) (by kernel_rfl) (fun _ _ _ h => h) (by kernel_rfl) (Or.inl ⟨rfl, fun w h => by kernel_rfl⟩) ((by rw [F3.out.two.ref.1.cell]; rfl : World.cell? X1 ⟨r, 0, none⟩ = _)) ?_
                    simp only [Act.put, List.setIfInBounds_toArray, List.set_cons_zero, List.set_cons_succ]
                    refine wpAnyT_take (i := 5) (oi := ⟨some 164, _, _, _, _, _⟩) (v := .slice (some ⟨gt, 0, none⟩) rs.length tc) rfl (by kernel_rfl) (by kernel_rfl) (by kernel_rfl) (fun _ _ _ h => h) (by kernel_rfl) (Or.inl ⟨rfl, fun w h => run_load_one _ _ _ 39 _ _ rfl (r) (0) rfl (h) (by kernel_rfl)⟩) ((by rw [F3.out.two.ref.1.cell]; rfl : World.cell? X1 ⟨r, 0, none⟩ = _)) ?_
                    simp only [Act.put, List.setIfInBounds_toArray, List.set_cons_zero, List.set_cons_succ]
                    refine wpAnyT_take (i := 6) (oi := ⟨some 165, _, _, _, _, _⟩) (v := .int .i64 (rs.length : Int)) rfl (by kernel_rfl) (by kernel_rfl) (by kernel_rfl) (fun _ _ _ h => h) (by kernel_rfl) (Or.inl ⟨rfl, fun w h => by kernel_rfl⟩) ((by rw [F3.out.two.ref.1.cell]; rfl : World.cell? X1 ⟨r, 0, none⟩ = _)) ?_
                    simp only [Act.put, List.setIfInBounds_toArray, List.set_cons_zero, List.set_cons_succ]
                    refine wpAnyT_one (i := 1) (by kernel_rfl) ?_
                    refine op_call (o := ⟨some 160, _, _, _, _, _⟩) 28 #[.pointer (some ⟨b, 0, none⟩)] rfl rfl (by kernel_rfl) ((count_any (World.drew X1) b _ _ F3.out.drew.two.net).mono fun e X1 hx => ?_)
                    obtain ⟨rfl, hx⟩ := hx
                    subst hx
                    refine ⟨_, rfl, ?_⟩
                    refine ⟨fun _ => (by rw [F3.out.two.ref.1.cell]; rfl : World.cell? X1 ⟨r, 0, none⟩ = _), ?_⟩
                    simp only [Act.put, List.setIfInBounds_toArray, List.set_cons_zero, List.set_cons_succ]
                    rw [← LN.out]
                    refine wpAnyT_take (i := 7) (oi := ⟨some 166, _, _, _, _, _⟩) (v := .bool false) rfl (by kernel_rfl) (by kernel_rfl) (by kernel_rfl) (fun _ _ _ h => h) (by kernel_rfl) (Or.inl ⟨rfl, fun w h => run_nei Try.underlying3 rfl rfl rfl (by simp)⟩) ((by rw [F3.out.two.ref.1.cell]; rfl : World.cell? X1 ⟨r, 0, none⟩ = _)) ?_
                    simp only [Act.put, List.setIfInBounds_toArray, List.set_cons_zero, List.set_cons_succ]
                    refine wpAnyT_done (by kernel_rfl) ?_ _
                    go_upto_region 6 with (fail)
                    refine wp_region_lit ?_
                    refine wpL_pure (.int .i64 (j : Int)) rfl (by kernel_rfl) ?_
                    simp only [Act.put, List.setIfInBounds_toArray, List.set_cons_zero, List.set_cons_succ]
                    refine wpL_pure (.int .i64 ((j + 1 : Nat) : Int)) rfl (run_addi Try.underlying3 rfl rfl rfl _ (by have := HK.out; have := HLN.out; rw [wrap_in _ (by omega) (by omega)]; omega)) ?_
                    simp only [Act.put, List.setIfInBounds_toArray, List.set_cons_zero, List.set_cons_succ]
                    refine wpL_pure (.int .i64 ((j + 1 : Nat) : Int)) rfl (by kernel_rfl) ?_
                    simp only [Act.put, List.setIfInBounds_toArray, List.set_cons_zero, List.set_cons_succ]
                    have NX : Hid (j + 1 ≤ ln ∧ ∃ s t ls rs, LK w (World.drew X1) b r s t ls rs) := Lib.hid ⟨HK.out, _, _, _, _, F3.out.drew⟩
                    unfold wpList
                    go_roundw
                    case rel => first | exact ⟨j + 1, rfl, NX⟩ | ((repeat apply Exists.intro); exact ⟨⟨j + 1, rfl, NX⟩, rfl⟩)
                    case measure => simp [intOf]; have := HK.out; omega
                  · have HP16 := Lib.hid hp
                    clear hp
                    go_upto_region 25 with (fail)
                    refine wp_region_lit ?_
                    refine wpL_pure (.int .i64 (k : Int)) rfl (by kernel_rfl) ?_
                    simp only [Act.put, List.setIfInBounds_toArray, List.set_cons_zero, List.set_cons_succ]
                    refine wpL_pure (.bool true) rfl (run_gei Try.underlying3 rfl rfl rfl (by have := HK0.out; rw [decide_eq_true_eq]; omega)) ?_
                    simp only [Act.put, List.setIfInBounds_toArray, List.set_cons_zero, List.set_cons_succ]
                    refine wpL_pure (.bool true) rfl (by kernel_rfl) ?_
                    simp only [Act.put, List.setIfInBounds_toArray, List.set_cons_zero, List.set_cons_succ]
                    refine wpL_pure (.pointer (some ⟨bx, 2, none⟩)) rfl (by kernel_rfl) ?_
                    simp only [Act.put, List.setIfInBounds_toArray, List.set_cons_zero, List.set_cons_succ]
                    refine wpL_pure (.pointer (some ⟨bx, 4, none⟩)) rfl (by kernel_rfl) ?_
                    simp only [Act.put, List.setIfInBounds_toArray, List.set_cons_zero, List.set_cons_succ]
                    refine wpL_pure (.slice pa pn pc) rfl (run_load_one _ _ _ 30 _ _ rfl (bx) (4) rfl (by rw [F1.out.2.cell]; rfl) (by kernel_rfl)) ?_
                    simp only [Act.put, List.setIfInBounds_toArray, List.set_cons_zero, List.set_cons_succ]
                    refine wpL_pure (.int .i64 (pn : Int)) rfl (by kernel_rfl) ?_
                    simp only [Act.put, List.setIfInBounds_toArray, List.set_cons_zero, List.set_cons_succ]
                    refine wpL_pure (.bool false) rfl (run_lei Try.underlying3 rfl rfl rfl (by have := HP16.out; rw [decide_eq_false_iff_not]; omega)) ?_
                    simp only [Act.put, List.setIfInBounds_toArray, List.set_cons_zero, List.set_cons_succ]
                    refine wpL_pure (.bool false) rfl (by kernel_rfl) ?_
                    simp only [Act.put, List.setIfInBounds_toArray, List.set_cons_zero, List.set_cons_succ]
                    refine wpL_pure (.bool false) rfl (by kernel_rfl) ?_
                    simp only [Act.put, List.setIfInBounds_toArray, List.set_cons_zero, List.set_cons_succ]
                    go_upto_region 26 with (fail)
                    refine wp_region_lit ?_
                    refine wpL_pure (.bool false) rfl (by kernel_rfl) ?_
                    simp only [Act.put, List.setIfInBounds_toArray, List.set_cons_zero, List.set_cons_succ]
                    go_upto_region 28 with (fail)
                    refine wp_region_lit ?_
                    refine wpL_pure (.pointer (some ⟨b, 0, none⟩)) rfl (by kernel_rfl) ?_
                    simp only [Act.put, List.setIfInBounds_toArray, List.set_cons_zero, List.set_cons_succ]
                    refine wpL_pure (.pointer (some ⟨bx, 1, none⟩)) rfl (by kernel_rfl) ?_
                    simp only [Act.put, List.setIfInBounds_toArray, List.set_cons_zero, List.set_cons_succ]
                    refine wpL_pure (.int .i64 I) rfl (run_load_one _ _ _ 3 _ _ rfl (bx) (1) rfl (by rw [F1.out.2.cell]; rfl) (by kernel_rfl)) ?_
                    simp only [Act.put, List.setIfInBounds_toArray, List.set_cons_zero, List.set_cons_succ]
                    refine wpL_pure (.pointer (some ⟨bx, 2, none⟩)) rfl (by kernel_rfl) ?_
                    simp only [Act.put, List.setIfInBounds_toArray, List.set_cons_zero, List.set_cons_succ]
                    refine wpL_pure (.pointer (some ⟨bx, 4, none⟩)) rfl (by kernel_rfl) ?_
                    simp only [Act.put, List.setIfInBounds_toArray, List.set_cons_zero, List.set_cons_succ]
                    refine wpL_pure (.slice pa pn pc) rfl (run_load_one _ _ _ 30 _ _ rfl (bx) (4) rfl (by rw [F1.out.2.cell]; rfl) (by kernel_rfl)) ?_
                    simp only [Act.put, List.setIfInBounds_toArray, List.set_cons_zero, List.set_cons_succ]
                    refine wpL_call 26 #[.pointer (some ⟨b, 0, none⟩), .int .i64 I, .slice pa pn pc] rfl (by kernel_rfl) ((turn_prog W1 b I s ls pa pn pc (bs.take pn) F1.out.1.two.net (Nat.le_trans F1.out.1.few (by omega)) ⟨HR.out.1.keep F1.out.1.two.low, HR.out.2⟩).mono fun e X1 ⟨z, ls1, he, hnt, f0, hz, hz0, hz1⟩ => ⟨.bool false, by rw [he, show z = false by rw [hz]; exact decide_eq_false (fun q => HP16.out q.2)], ?_⟩)
                    simp only [Act.put, List.setIfInBounds_toArray, List.set_cons_zero, List.set_cons_succ]
                    obtain rfl : z = false := by rw [hz]; exact decide_eq_false (fun q => HP16.out q.2)
                    obtain rfl := hz0 rfl
                    have F3 : Hid (LK w X1 b r s (.slice (some ⟨gt, 0, none⟩) rs.length tc) ls1 rs) := Lib.hid ⟨F1.out.1.two.prog f0 hnt, F1.out.1.key, F1.out.1.few⟩
                    clear f0 hnt hz hz0 hz1 F1
                    refine wpL_pure (.bool false) rfl (by kernel_rfl) ?_
                    simp only [Act.put, List.setIfInBounds_toArray, List.set_cons_zero, List.set_cons_succ]
                    refine wpL_pure (.bool false) rfl (by kernel_rfl) ?_
                    simp only [Act.put, List.setIfInBounds_toArray, List.set_cons_zero, List.set_cons_succ]
                    have LN : Hid (rs.length = _) := Lib.hid F3.out.len
                    go_upto_region 30 with (fail)
                    refine region_anyT (fun X => X.cell? ⟨r, 0, none⟩ = some (.slice (some ⟨gt, 0, none⟩) rs.length tc)) (by kernel_rfl) 8 8 rfl ?_
                    refine wpAnyT_take (i := 0) (oi := ⟨some 159, _, _, _, _, _⟩) (v := .pointer (some ⟨b, 0, none⟩)) rfl (by kernel_rfl) (by kernel_rfl) (by kernel_rfl) (fun _ _ _ h => h) (by kernel_rfl) (Or.inl ⟨rfl, fun w h => by kernel_rfl⟩) ((by rw [F3.out.two.ref.1.cell]; rfl : World.cell? X1 ⟨r, 0, none⟩ = _)) ?_
                    simp only [Act.put, List.setIfInBounds_toArray, List.set_cons_zero, List.set_cons_succ]
                    refine wpAnyT_take (i := 2) (oi := ⟨some 161, _, _, _, _, _⟩) (v := .pointer (some ⟨r, 0, none⟩)) rfl (by kernel_rfl) (by kernel_rfl) (by kernel_rfl) (fun _ _ _ h => h) (by kernel_rfl) (Or.inl ⟨rfl, fun w h => by kernel_rfl⟩) ((by rw [F3.out.two.ref.1.cell]; rfl : World.cell? X1 ⟨r, 0, none⟩ = _)) ?_
                    simp only [Act.put, List.setIfInBounds_toArray, List.set_cons_zero, List.set_cons_succ]
                    refine wpAnyT_take (i := 3) (oi := ⟨some 162, _, _, _, _, _⟩) (v := .pointer (some ⟨r, 0, none⟩)) rfl (by kernel_rfl) (by kernel_rfl) (by kernel_rfl) (fun _ _ _ h => h) (by kernel_rfl) (Or.inl ⟨rfl, fun w h => by kernel_rfl⟩) ((by rw [F3.out.two.ref.1.cell]; rfl : World.cell? X1 ⟨r, 0, none⟩ = _)) ?_
                    simp only [Act.put, List.setIfInBounds_toArray, List.set_cons_zero, List.set_cons_succ]
                    refine wpAnyT_take (i := 4) (oi := ⟨some 163, _, _, _, _, _⟩) (v := .pointer (some ⟨r, 0, none⟩)) rfl (by kernel_rfl) (by kernel_rfl) (by kernel_rfl) (fun _ _ _ h => h) (by kernel_rfl) (Or.inl ⟨rfl, fun w h => by kernel_rfl⟩) ((by rw [F3.out.two.ref.1.cell]; rfl : World.cell? X1 ⟨r, 0, none⟩ = _)) ?_
                    simp only [Act.put, List.setIfInBounds_toArray, List.set_cons_zero, List.set_cons_succ]
                    refine wpAnyT_take (i := 5) (oi := ⟨some 164, _, _, _, _, _⟩) (v := .slice (some ⟨gt, 0, none⟩) rs.length tc) rfl (by kernel_rfl) (by kernel_rfl) (by kernel_rfl) (fun _ _ _ h => h) (by kernel_rfl) (Or.inl ⟨rfl, fun w h => run_load_one _ _ _ 39 _ _ rfl (r) (0) rfl (h) (by kernel_rfl)⟩) ((by rw [F3.out.two.ref.1.cell]; rfl : World.cell? X1 ⟨r, 0, none⟩ = _)) ?_
                    simp only [Act.put, List.setIfInBounds_toArray, List.set_cons_zero, List.set_cons_succ]
                    refine wpAnyT_take (i := 6) (oi := ⟨some 165, _, _, _, _, _⟩) (v := .int .i64 (rs.length : Int)) rfl (by kernel_rfl) (by kernel_rfl) (by kernel_rfl) (fun _ _ _ h => h) (by kernel_rfl) (Or.inl ⟨rfl, fun w h => by kernel_rfl⟩) ((by rw [F3.out.two.ref.1.cell]; rfl : World.cell? X1 ⟨r, 0, none⟩ = _)) ?_
                    simp only [Act.put, List.setIfInBounds_toArray, List.set_cons_zero, List.set_cons_succ]
                    refine wpAnyT_one (i := 1) (by kernel_rfl) ?_
                    refine op_call (o := ⟨some 160, _, _, _, _, _⟩) 28 #[.pointer (some ⟨b, 0, none⟩)] rfl rfl (by kernel_rfl) ((count_any (World.drew X1) b _ _ F3.out.drew.two.net).mono fun e X1 hx => ?_)
                    obtain ⟨rfl, hx⟩ := hx
                    subst hx
                    refine ⟨_, rfl, ?_⟩
                    refine ⟨fun _ => (by rw [F3.out.two.ref.1.cell]; rfl : World.cell? X1 ⟨r, 0, none⟩ = _), ?_⟩
                    simp only [Act.put, List.setIfInBounds_toArray, List.set_cons_zero, List.set_cons_succ]
                    rw [← LN.out]
                    refine wpAnyT_take (i := 7) (oi := ⟨some 166, _, _, _, _, _⟩) (v := .bool false) rfl (by kernel_rfl) (by kernel_rfl) (by kernel_rfl) (fun _ _ _ h => h) (by kernel_rfl) (Or.inl ⟨rfl, fun w h => run_nei Try.underlying3 rfl rfl rfl (by simp)⟩) ((by rw [F3.out.two.ref.1.cell]; rfl : World.cell? X1 ⟨r, 0, none⟩ = _)) ?_
                    simp only [Act.put, List.setIfInBounds_toArray, List.set_cons_zero, List.set_cons_succ]
                    refine wpAnyT_done (by kernel_rfl) ?_ _
                    go_upto_region 6 with (fail)
                    refine wp_region_lit ?_
                    refine wpL_pure (.int .i64 (j : Int)) rfl (by kernel_rfl) ?_
                    simp only [Act.put, List.setIfInBounds_toArray, List.set_cons_zero, List.set_cons_succ]
                    refine wpL_pure (.int .i64 ((j + 1 : Nat) : Int)) rfl (run_addi Try.underlying3 rfl rfl rfl _ (by have := HK.out; have := HLN.out; rw [wrap_in _ (by omega) (by omega)]; omega)) ?_
                    simp only [Act.put, List.setIfInBounds_toArray, List.set_cons_zero, List.set_cons_succ]
                    refine wpL_pure (.int .i64 ((j + 1 : Nat) : Int)) rfl (by kernel_rfl) ?_
                    simp only [Act.put, List.setIfInBounds_toArray, List.set_cons_zero, List.set_cons_succ]
                    have NX : Hid (j + 1 ≤ ln ∧ ∃ s t ls rs, LK w (World.drew X1) b r s t ls rs) := Lib.hid ⟨HK.out, _, _, _, _, F3.out.drew⟩
                    unfold wpList
                    go_roundw
                    case rel => first | exact ⟨j + 1, rfl, NX⟩ | ((repeat apply Exists.intro); exact ⟨⟨j + 1, rfl, NX⟩, rfl⟩)
                    case measure => simp [intOf]; have := HK.out; omega
              · have H3 := Lib.hid h3
                clear h3
                go_upto_region 24 with (fail)
                refine wp_region_lit ?_
                refine wpL_pure (.bool false) rfl (run_eqi Try.underlying5 rfl rfl rfl (by have := H3.out; rw [decide_eq_false_iff_not]; omega)) ?_
                simp only [Act.put, List.setIfInBounds_toArray, List.set_cons_zero, List.set_cons_succ]
                refine wpL_pure (.bool false) rfl (by kernel_rfl) ?_
                simp only [Act.put, List.setIfInBounds_toArray, List.set_cons_zero, List.set_cons_succ]
                by_cases hn : ls.length = 0
                · have HN := Lib.hid hn
                  clear hn
                  obtain rfl := List.eq_nil_of_length_eq_zero HN.out
                  have HN2 : Hid (rs.length = 0) := Lib.hid F1.out.1.len
                  obtain rfl : pz = -1 := by rw [← HPZ.out, plcR, if_pos HN2.out]
                  go_upto_region 10 with (fail)
                  refine wp_region_lit ?_
                  refine wpL_pure (.pointer (some ⟨b, 0, none⟩)) rfl (by kernel_rfl) ?_
                  simp only [Act.put, List.setIfInBounds_toArray, List.set_cons_zero, List.set_cons_succ]
                  refine wpL_pure (.pointer (some ⟨bx, 1, none⟩)) rfl (by kernel_rfl) ?_
                  simp only [Act.put, List.setIfInBounds_toArray, List.set_cons_zero, List.set_cons_succ]
                  refine wpL_pure (.int .i64 I) rfl (run_load_one _ _ _ 3 _ _ rfl (bx) (1) rfl (by rw [F1.out.2.cell]; rfl) (by kernel_rfl)) ?_
                  simp only [Act.put, List.setIfInBounds_toArray, List.set_cons_zero, List.set_cons_succ]
                  refine wpL_call 27 #[.pointer (some ⟨b, 0, none⟩), .int .i64 I] rfl (by kernel_rfl) ((at_none W1 b I s F1.out.1.two.net).mono fun e X1 ⟨he, q1, q2⟩ => ⟨.tuple #[.agg #[.int .i64 0, .int .i64 0, .slice none 0 0], .bool false], he, ?_⟩)
                  simp only [Act.put, List.setIfInBounds_toArray, List.set_cons_zero, List.set_cons_succ]
                  have F2 : Hid (LK w X1 b r s tt [] rs) := Lib.hid (F1.out.1.below q2)
                  clear q1 q2 F1
                  refine wpL_pure (.tuple #[.agg #[.int .i64 0, .int .i64 0, .slice none 0 0], .bool false]) rfl (by kernel_rfl) ?_
                  simp only [Act.put, List.setIfInBounds_toArray, List.set_cons_zero, List.set_cons_succ]
                  refine wpL_pure (.agg #[.int .i64 0, .int .i64 0, .slice none 0 0]) rfl (by kernel_rfl) ?_
                  simp only [Act.put, List.setIfInBounds_toArray, List.set_cons_zero, List.set_cons_succ]
                  refine wpL_pure (.bool false) rfl (by kernel_rfl) ?_
                  simp only [Act.put, List.setIfInBounds_toArray, List.set_cons_zero, List.set_cons_succ]
                  have BX := Lib.hid (box_frame X1 0 0 (.slice none 0 0))
                  obtain ⟨X2, hW⟩ : ∃ V, V = (World.alloc X1 (.cells #[.int .i64 0, .int .i64 0, .slice none 0 0] 43)).setRow (World.heap X1).size #[.int .i64 0, .int .i64 0, .slice none 0 0] := ⟨_, rfl⟩
                  rw [← hW] at BX
                  refine wpL_value (.pointer (some ⟨(World.heap X1).size, 0, none⟩)) (World.alloc X1 (.cells #[.int .i64 0, .int .i64 0, .slice none 0 0] 43)) rfl (by kernel_rfl) ?_
                  simp only [Act.put, List.setIfInBounds_toArray, List.set_cons_zero, List.set_cons_succ]
                  refine wpList_store_row rfl 43 _ _ rfl ((World.heap X1).size) (#[.int .i64 0, .int .i64 0, .slice none 0 0]) rfl rfl _ _ (Blk.new X1 43 _) (by kernel_rfl) rfl (all3 _ _ _ rfl) ?_
                  simp only [Act.put, List.setIfInBounds_toArray, List.set_cons_zero, List.set_cons_succ]
                  rw [← hW]
                  have F3 : Hid (LK w X2 b r s tt [] rs) := Lib.hid (F2.out.below BX.out.2)
                  clear BX hW F2
                  generalize X1.heap.size = g13
                  refine wpL_pure (.bool false) rfl (by kernel_rfl) ?_
                  simp only [Act.put, List.setIfInBounds_toArray, List.set_cons_zero, List.set_cons_succ]
                  unfold wpList
                  go_upto_region 11 with (fail)
                  refine region_anyT (fun _ => True) (by kernel_rfl) 19 19 rfl ?_
                  refine wpAnyT_take (i := 0) (oi := ⟨some 52, _, _, _, _, _⟩) (v := .bool false) rfl (by kernel_rfl) (by kernel_rfl) (by kernel_rfl) (fun _ _ _ h => h) (by kernel_rfl) (Or.inl ⟨rfl, fun w h => by kernel_rfl⟩) (trivial) ?_
                  simp only [Act.put, List.setIfInBounds_toArray, List.set_cons_zero, List.set_cons_succ]
                  refine wpAnyT_take (i := 1) (oi := ⟨some 53, _, _, _, _, _⟩) (v := .int .i64 (-1)) rfl (by kernel_rfl) (by kernel_rfl) (by kernel_rfl) (fun _ _ _ h => h) (by kernel_rfl) (Or.inl ⟨rfl, fun w h => by kernel_rfl⟩) (trivial) ?_
                  simp only [Act.put, List.setIfInBounds_toArray, List.set_cons_zero, List.set_cons_succ]
                  refine wpAnyT_take (i := 2) (oi := ⟨some 54, _, _, _, _, _⟩) (v := .bool false) rfl (by kernel_rfl) (by kernel_rfl) (by kernel_rfl) (fun _ _ _ h => h) (by kernel_rfl) (Or.inl ⟨rfl, fun w h => by kernel_rfl⟩) (trivial) ?_
                  simp only [Act.put, List.setIfInBounds_toArray, List.set_cons_zero, List.set_cons_succ]
                  refine wpAnyT_take (i := 3) (oi := ⟨some 55, _, _, _, _, _⟩) (v := .bool false) rfl (by kernel_rfl) (by kernel_rfl) (by kernel_rfl) (fun _ _ _ h => h) (by kernel_rfl) (Or.inl ⟨rfl, fun w h => by kernel_rfl⟩) (trivial) ?_
                  simp only [Act.put, List.setIfInBounds_toArray, List.set_cons_zero, List.set_cons_succ]
                  refine wpAnyT_take (i := 4) (oi := ⟨some 56, _, _, _, _, _⟩) (v := .bool false) rfl (by kernel_rfl) (by kernel_rfl) (by kernel_rfl) (fun _ _ _ h => h) (by kernel_rfl) (Or.inl ⟨rfl, fun w h => by kernel_rfl⟩) (trivial) ?_
                  simp only [Act.put, List.setIfInBounds_toArray, List.set_cons_zero, List.set_cons_succ]
                  refine wpAnyT_take (i := 5) (oi := ⟨some 57, _, _, _, _, _⟩) (v := .bool false) rfl (by kernel_rfl) (by kernel_rfl) (by kernel_rfl) (fun _ _ _ h => h) (by kernel_rfl) (Or.inl ⟨rfl, fun w h => by kernel_rfl⟩) (trivial) ?_
                  simp only [Act.put, List.setIfInBounds_toArray, List.set_cons_zero, List.set_cons_succ]
                  refine wpAnyT_take (i := 6) (oi := ⟨some 58, _, _, _, _, _⟩) (v := .bool false) rfl (by kernel_rfl) (by kernel_rfl) (by kernel_rfl) (fun _ _ _ h => h) (by kernel_rfl) (Or.inl ⟨rfl, fun w h => by kernel_rfl⟩) (trivial) ?_
                  simp only [Act.put, List.setIfInBounds_toArray, List.set_cons_zero, List.set_cons_succ]
                  refine wpAnyT_take (i := 7) (oi := ⟨some 59, _, _, _, _, _⟩) (v := undef) rfl (by kernel_rfl) (by kernel_rfl) (by kernel_rfl) (fun _ _ _ h => h) (by kernel_rfl) (Or.inr ⟨rfl, rfl⟩) (trivial) ?_
                  simp only [Act.put, List.setIfInBounds_toArray, List.set_cons_zero, List.set_cons_succ]
                  refine wpAnyT_take (i := 8) (oi := ⟨some 60, _, _, _, _, _⟩) (v := undef) rfl (by kernel_rfl) (by kernel_rfl) (by kernel_rfl) (fun _ _ _ h => h) (by kernel_rfl) (Or.inr ⟨rfl, rfl⟩) (trivial) ?_
                  simp only [Act.put, List.setIfInBounds_toArray, List.set_cons_zero, List.set_cons_succ]
                  refine wpAnyT_take (i := 9) (oi := ⟨some 61, _, _, _, _, _⟩) (v := undef) rfl (by kernel_rfl) (by kernel_rfl) (by kernel_rfl) (fun _ _ _ h => h) (by kernel_rfl) (Or.inr ⟨rfl, rfl⟩) (trivial) ?_
                  simp only [Act.put, List.setIfInBounds_toArray, List.set_cons_zero, List.set_cons_succ]
                  refine wpAnyT_take (i := 10) (oi := ⟨some 62, _, _, _, _, _⟩) (v := undef) rfl (by kernel_rfl) (by kernel_rfl) (by kernel_rfl) (fun _ _ _ h => h) (by kernel_rfl) (Or.inr ⟨rfl, rfl⟩) (trivial) ?_
                  simp only [Act.put, List.setIfInBounds_toArray, List.set_cons_zero, List.set_cons_succ]
                  refine wpAnyT_take (i := 11) (oi := ⟨some 63, _, _, _, _, _⟩) (v := undef) rfl (by kernel_rfl) (by kernel_rfl) (by kernel_rfl) (fun _ _ _ h => h) (by kernel_rfl) (Or.inr ⟨rfl, rfl⟩) (trivial) ?_
                  simp only [Act.put, List.setIfInBounds_toArray, List.set_cons_zero, List.set_cons_succ]
                  refine wpAnyT_take (i := 12) (oi := ⟨some 64, _, _, _, _, _⟩) (v := undef) rfl (by kernel_rfl) (by kernel_rfl) (by kernel_rfl) (fun _ _ _ h => h) (by kernel_rfl) (Or.inr ⟨rfl, rfl⟩) (trivial) ?_
                  simp only [Act.put, List.setIfInBounds_toArray, List.set_cons_zero, List.set_cons_succ]
                  refine wpAnyT_take (i := 13) (oi := ⟨some 65, _, _, _, _, _⟩) (v := undef) rfl (by kernel_rfl) (by kernel_rfl) (by kernel_rfl) (fun _ _ _ h => h) (by kernel_rfl) (Or.inr ⟨rfl, rfl⟩) (trivial) ?_
                  simp only [Act.put, List.setIfInBounds_toArray, List.set_cons_zero, List.set_cons_succ]
                  refine wpAnyT_take (i := 14) (oi := ⟨some 66, _, _, _, _, _⟩) (v := undef) rfl (by kernel_rfl) (by kernel_rfl) (by kernel_rfl) (fun _ _ _ h => h) (by kernel_rfl) (Or.inr ⟨rfl, rfl⟩) (trivial) ?_
                  simp only [Act.put, List.setIfInBounds_toArray, List.set_cons_zero, List.set_cons_succ]
                  refine wpAnyT_take (i := 15) (oi := ⟨some 67, _, _, _, _, _⟩) (v := undef) rfl (by kernel_rfl) (by kernel_rfl) (by kernel_rfl) (fun _ _ _ h => h) (by kernel_rfl) (Or.inr ⟨rfl, rfl⟩) (trivial) ?_
                  simp only [Act.put, List.setIfInBounds_toArray, List.set_cons_zero, List.set_cons_succ]
                  refine wpAnyT_take (i := 16) (oi := ⟨some 68, _, _, _, _, _⟩) (v := undef) rfl (by kernel_rfl) (by kernel_rfl) (by kernel_rfl) (fun _ _ _ h => h) (by kernel_rfl) (Or.inr ⟨rfl, rfl⟩) (trivial) ?_
                  simp only [Act.put, List.setIfInBounds_toArray, List.set_cons_zero, List.set_cons_succ]
                  refine wpAnyT_take (i := 17) (oi := ⟨some 69, _, _, _, _, _⟩) (v := .bool false) rfl (by kernel_rfl) (by kernel_rfl) (by kernel_rfl) (fun _ _ _ h => h) (by kernel_rfl) (Or.inl ⟨rfl, fun w h => by kernel_rfl⟩) (trivial) ?_
                  simp only [Act.put, List.setIfInBounds_toArray, List.set_cons_zero, List.set_cons_succ]
                  refine wpAnyT_take (i := 18) (oi := ⟨some 70, _, _, _, _, _⟩) (v := .bool false) rfl (by kernel_rfl) (by kernel_rfl) (by kernel_rfl) (fun _ _ _ h => h) (by kernel_rfl) (Or.inl ⟨rfl, fun w h => by kernel_rfl⟩) (trivial) ?_
                  simp only [Act.put, List.setIfInBounds_toArray, List.set_cons_zero, List.set_cons_succ]
                  refine wpAnyT_done (by kernel_rfl) ?_ _
                  obtain ⟨ta, tc, et, _⟩ := F3.out.drew.two.ref.2.2.1.slice
                  subst et
                  have LN : Hid (rs.length = _) := Lib.hid F3.out.drew.len
                  go_upto_region 30 with (fail)
                  refine region_anyT (fun X => X.cell? ⟨r, 0, none⟩ = some (.slice ta rs.length tc)) (by kernel_rfl) 8 8 rfl ?_
                  refine wpAnyT_take (i := 0) (oi := ⟨some 159, _, _, _, _, _⟩) (v := .pointer (some ⟨b, 0, none⟩)) rfl (by kernel_rfl) (by kernel_rfl) (by kernel_rfl) (fun _ _ _ h => h) (by kernel_rfl) (Or.inl ⟨rfl, fun w h => by kernel_rfl⟩) ((by rw [F3.out.drew.two.ref.1.cell]; rfl : World.cell? X2.drew ⟨r, 0, none⟩ = _)) ?_
                  simp only [Act.put, List.setIfInBounds_toArray, List.set_cons_zero, List.set_cons_succ]
                  refine wpAnyT_take (i := 2) (oi := ⟨some 161, _, _, _, _, _⟩) (v := .pointer (some ⟨r, 0, none⟩)) rfl (by kernel_rfl) (by kernel_rfl) (by kernel_rfl) (fun _ _ _ h => h) (by kernel_rfl) (Or.inl ⟨rfl, fun w h => by kernel_rfl⟩) ((by rw [F3.out.drew.two.ref.1.cell]; rfl : World.cell? X2.drew ⟨r, 0, none⟩ = _)) ?_
                  simp only [Act.put, List.setIfInBounds_toArray, List.set_cons_zero, List.set_cons_succ]
                  refine wpAnyT_take (i := 3) (oi := ⟨some 162, _, _, _, _, _⟩) (v := .pointer (some ⟨r, 0, none⟩)) rfl (by kernel_rfl) (by kernel_rfl) (by kernel_rfl) (fun _ _ _ h => h) (by kernel_rfl) (Or.inl ⟨rfl, fun w h => by kernel_rfl⟩) ((by rw [F3.out.drew.two.ref.1.cell]; rfl : World.cell? X2.drew ⟨r, 0, none⟩ = _)) ?_
                  simp only [Act.put, List.setIfInBounds_toArray, List.set_cons_zero, List.set_cons_succ]
                  refine wpAnyT_take (i := 4) (oi := ⟨some 163, _, _, _, _, _⟩) (v := .pointer (some ⟨r, 0, none⟩)) rfl (by kernel_rfl) (by kernel_rfl) (by kernel_rfl) (fun _ _ _ h => h) (by kernel_rfl) (Or.inl ⟨rfl, fun w h => by kernel_rfl⟩) ((by rw [F3.out.drew.two.ref.1.cell]; rfl : World.cell? X2.drew ⟨r, 0, none⟩ = _)) ?_
                  simp only [Act.put, List.setIfInBounds_toArray, List.set_cons_zero, List.set_cons_succ]
                  refine wpAnyT_take (i := 5) (oi := ⟨some 164, _, _, _, _, _⟩) (v := .slice ta rs.length tc) rfl (by kernel_rfl) (by kernel_rfl) (by kernel_rfl) (fun _ _ _ h => h) (by kernel_rfl) (Or.inl ⟨rfl, fun w h => run_load_one _ _ _ 39 _ _ rfl (r) (0) rfl (h) (by kernel_rfl)⟩) ((by rw [F3.out.drew.two.ref.1.cell]; rfl : World.cell? X2.drew ⟨r, 0, none⟩ = _)) ?_
                  simp only [Act.put, List.setIfInBounds_toArray, List.set_cons_zero, List.set_cons_succ]
                  refine wpAnyT_take (i := 6) (oi := ⟨some 165, _, _, _, _, _⟩) (v := .int .i64 (rs.length : Int)) rfl (by kernel_rfl) (by kernel_rfl) (by kernel_rfl) (fun _ _ _ h => h) (by kernel_rfl) (Or.inl ⟨rfl, fun w h => by kernel_rfl⟩) ((by rw [F3.out.drew.two.ref.1.cell]; rfl : World.cell? X2.drew ⟨r, 0, none⟩ = _)) ?_
                  simp only [Act.put, List.setIfInBounds_toArray, List.set_cons_zero, List.set_cons_succ]
                  refine wpAnyT_one (i := 1) (by kernel_rfl) ?_
                  refine op_call (o := ⟨some 160, _, _, _, _, _⟩) 28 #[.pointer (some ⟨b, 0, none⟩)] rfl rfl (by kernel_rfl) ((count_any (World.drew X2.drew) b _ _ F3.out.drew.drew.two.net).mono fun e X1 hx => ?_)
                  obtain ⟨rfl, hx⟩ := hx
                  subst hx
                  refine ⟨_, rfl, ?_⟩
                  refine ⟨fun _ => (by rw [F3.out.drew.two.ref.1.cell]; rfl : World.cell? X2.drew ⟨r, 0, none⟩ = _), ?_⟩
                  simp only [Act.put, List.setIfInBounds_toArray, List.set_cons_zero, List.set_cons_succ]
                  rw [← LN.out]
                  refine wpAnyT_take (i := 7) (oi := ⟨some 166, _, _, _, _, _⟩) (v := .bool false) rfl (by kernel_rfl) (by kernel_rfl) (by kernel_rfl) (fun _ _ _ h => h) (by kernel_rfl) (Or.inl ⟨rfl, fun w h => run_nei Try.underlying3 rfl rfl rfl (by simp)⟩) ((by rw [F3.out.drew.two.ref.1.cell]; rfl : World.cell? X2.drew ⟨r, 0, none⟩ = _)) ?_
                  simp only [Act.put, List.setIfInBounds_toArray, List.set_cons_zero, List.set_cons_succ]
                  refine wpAnyT_done (by kernel_rfl) ?_ _
                  go_upto_region 6 with (fail)
                  refine wp_region_lit ?_
                  refine wpL_pure (.int .i64 (j : Int)) rfl (by kernel_rfl) ?_
                  simp only [Act.put, List.setIfInBounds_toArray, List.set_cons_zero, List.set_cons_succ]
                  refine wpL_pure (.int .i64 ((j + 1 : Nat) : Int)) rfl (run_addi Try.underlying3 rfl rfl rfl _ (by have := HK.out; have := HLN.out; rw [wrap_in _ (by omega) (by omega)]; omega)) ?_
                  simp only [Act.put, List.setIfInBounds_toArray, List.set_cons_zero, List.set_cons_succ]
                  refine wpL_pure (.int .i64 ((j + 1 : Nat) : Int)) rfl (by kernel_rfl) ?_
                  simp only [Act.put, List.setIfInBounds_toArray, List.set_cons_zero, List.set_cons_succ]
                  have NX : Hid (j + 1 ≤ ln ∧ ∃ s t ls rs, LK w (World.drew X2.drew) b r s t ls rs) := Lib.hid ⟨HK.out, _, _, _, _, F3.out.drew.drew⟩
                  unfold wpList
                  go_roundw
                  case rel => first | exact ⟨j + 1, rfl, NX⟩ | ((repeat apply Exists.intro); exact ⟨⟨j + 1, rfl, NX⟩, rfl⟩)
                  case measure => simp [intOf]; have := HK.out; omega
                · have HN : Hid (0 < ls.length ∧ ls.length ≤ 300 ∧ rs.length = ls.length) := Lib.hid ⟨by omega, Nat.le_trans F1.out.1.few (by omega), F1.out.1.len⟩
                  clear hn
                  rcases F1.out.1.two.ref.2.2.1.forms with ⟨_, e, _⟩ | ⟨gt, tc, cur, e, _, _, q4, q5, _⟩
                  · exact absurd e (by have := HN.out; omega)
                  subst e
                  obtain ⟨k, hk⟩ : ∃ k, plc I rs.length = k := ⟨_, rfl⟩
                  have hkl : k < rs.length := by rw [← hk]; exact plc_lt I _ (by have := HN.out; omega)
                  obtain rfl : pz = (k : Int) := by rw [← HPZ.out, plcR, if_neg (by have := HN.out; omega), hk]
                  obtain ⟨m, hm⟩ : ∃ m, rs[k]? = some m := ⟨_, List.getElem?_eq_getElem hkl⟩
                  obtain ⟨⟨ma, mn, mc, em, mr⟩, m16⟩ := F1.out.1.two.ref.2.2.2 m (List.mem_of_getElem? hm)
                  obtain ⟨mf, mt, mv, mx⟩ := m
                  simp only at em mr m16
                  subst em
                  have HM := Lib.hid hm
                  have HMR := Lib.hid (And.intro mr m16)
                  have HKL : Hid (k < rs.length ∧ rs.length ≤ maxLen) := Lib.hid ⟨hkl, by have := HN.out; unfold maxLen; omega⟩
                  have HPK : Hid (plc I ls.length = k) := Lib.hid (by rw [← F1.out.1.len]; exact hk)
                  have HK0 : Hid ((0 : Int) ≤ (k : Int)) := Lib.hid (by omega)
                  clear hm mr m16 hkl hk q4 q5 HPZ
                  go_upto_region 10 with (fail)
                  refine wp_region_lit ?_
                  refine wpL_pure (.pointer (some ⟨b, 0, none⟩)) rfl (by kernel_rfl) ?_
                  simp only [Act.put, List.setIfInBounds_toArray, List.set_cons_zero, List.set_cons_succ]
                  refine wpL_pure (.pointer (some ⟨bx, 1, none⟩)) rfl (by kernel_rfl) ?_
                  simp only [Act.put, List.setIfInBounds_toArray, List.set_cons_zero, List.set_cons_succ]
                  refine wpL_pure (.int .i64 I) rfl (run_load_one _ _ _ 3 _ _ rfl (bx) (1) rfl (by rw [F1.out.2.cell]; rfl) (by kernel_rfl)) ?_
                  simp only [Act.put, List.setIfInBounds_toArray, List.set_cons_zero, List.set_cons_succ]
                  refine wpL_call 27 #[.pointer (some ⟨b, 0, none⟩), .int .i64 I] rfl (by kernel_rfl) ((at_any W1 b I s ls F1.out.1.two.net HN.out.1 HN.out.2.1).mono fun e X1 ⟨l, v, hl, he, ho, hnt, hb⟩ => ⟨.tuple #[.agg #[.int .i64 l.f, .int .i64 l.t, v], .bool true], he, ?_⟩)
                  simp only [Act.put, List.setIfInBounds_toArray, List.set_cons_zero, List.set_cons_succ]
                  have HL : Hid (ls[k]? = some l) := Lib.hid (by rw [← HPK.out]; exact hl)
                  have F2 : Hid (LK w X1 b r s (.slice (some ⟨gt, 0, none⟩) rs.length tc) ls rs ∧ Own X1 W1.heap.size v l.xs) := Lib.hid ⟨F1.out.1.below hb, ho⟩
                  clear hl ho hnt hb F1
                  obtain ⟨va, vc, ev⟩ := F2.out.2.slice
                  subst ev
                  refine wpL_pure (.tuple #[.agg #[.int .i64 l.f, .int .i64 l.t, .slice va l.xs.length vc], .bool true]) rfl (by kernel_rfl) ?_
                  simp only [Act.put, List.setIfInBounds_toArray, List.set_cons_zero, List.set_cons_succ]
                  refine wpL_pure (.agg #[.int .i64 l.f, .int .i64 l.t, .slice va l.xs.length vc]) rfl (by kernel_rfl) ?_
                  simp only [Act.put, List.setIfInBounds_toArray, List.set_cons_zero, List.set_cons_succ]
                  refine wpL_pure (.bool true) rfl (by kernel_rfl) ?_
                  simp only [Act.put, List.setIfInBounds_toArray, List.set_cons_zero, List.set_cons_succ]
                  have BX := Lib.hid (box_frame X1 l.f l.t (.slice va l.xs.length vc))
                  obtain ⟨X2, hW⟩ : ∃ V, V = (World.alloc X1 (.cells #[.int .i64 0, .int .i64 0, .slice none 0 0] 43)).setRow (World.heap X1).size #[.int .i64 l.f, .int .i64 l.t, .slice va l.xs.length vc] := ⟨_, rfl⟩
                  rw [← hW] at BX
                  refine wpL_value (.pointer (some ⟨(World.heap X1).size, 0, none⟩)) (World.alloc X1 (.cells #[.int .i64 0, .int .i64 0, .slice none 0 0] 43)) rfl (by kernel_rfl) ?_
                  simp only [Act.put, List.setIfInBounds_toArray, List.set_cons_zero, List.set_cons_succ]
                  refine wpList_store_row rfl 43 _ _ rfl ((World.heap X1).size) (#[.int .i64 l.f, .int .i64 l.t, .slice va l.xs.length vc]) rfl rfl _ _ (Blk.new X1 43 _) (by kernel_rfl) rfl (all3 _ _ _ rfl) ?_
                  simp only [Act.put, List.setIfInBounds_toArray, List.set_cons_zero, List.set_cons_succ]
                  rw [← hW]
                  have F3 : Hid (LK w X2 b r s (.slice (some ⟨gt, 0, none⟩) rs.length tc) ls rs ∧ Row X2 va l.xs.length l.xs ∧ Blk X2 X1.heap.size 43 #[.int .i64 l.f, .int .i64 l.t, .slice va l.xs.length vc]) := Lib.hid ⟨F2.out.1.below BX.out.2, (F2.out.2.below BX.out.2).row.1, BX.out.1⟩
                  clear BX hW F2
                  generalize X1.heap.size = g13 at F3 ⊢
                  have EK := Lib.hid (F3.out.1.at HL.out HM.out)
                  refine wpL_pure (.bool true) rfl (by kernel_rfl) ?_
                  simp only [Act.put, List.setIfInBounds_toArray, List.set_cons_zero, List.set_cons_succ]
                  unfold wpList
                  go_upto_region 11 with (fail)
                  refine region_anyT (fun X => X.rangeAt g13 0 [.int .i64 l.f, .int .i64 l.t, .slice va l.xs.length vc] ∧ X.cell? ⟨r, 0, none⟩ = some (.slice (some ⟨gt, 0, none⟩) rs.length tc) ∧ X.rangeAt gt (k * 3) [.int .i64 mf, .int .i64 mt, .slice ma mn mc]) (by kernel_rfl) 19 19 rfl ?_
                  refine wpAnyT_take (i := 0) (oi := ⟨some 52, _, _, _, _, _⟩) (v := .bool true) rfl (by kernel_rfl) (by kernel_rfl) (by kernel_rfl) (fun _ _ _ h => h) (by kernel_rfl) (Or.inl ⟨rfl, fun w h => by kernel_rfl⟩) (⟨range_blk (t := 43) (show Blk X2.drew g13 43 _ from F3.out.2.2), (by rw [F3.out.1.drew.two.ref.1.cell]; rfl), row_range F3.out.1.drew.two.ref.2.2.1 HM.out⟩) ?_
                  simp only [Act.put, List.setIfInBounds_toArray, List.set_cons_zero, List.set_cons_succ]
                  refine wpAnyT_take (i := 1) (oi := ⟨some 53, _, _, _, _, _⟩) (v := .int .i64 (k : Int)) rfl (by kernel_rfl) (by kernel_rfl) (by kernel_rfl) (fun _ _ _ h => h) (by kernel_rfl) (Or.inl ⟨rfl, fun w h => by kernel_rfl⟩) (⟨range_blk (t := 43) (show Blk X2.drew g13 43 _ from F3.out.2.2), (by rw [F3.out.1.drew.two.ref.1.cell]; rfl), row_range F3.out.1.drew.two.ref.2.2.1 HM.out⟩) ?_
                  simp only [Act.put, List.setIfInBounds_toArray, List.set_cons_zero, List.set_cons_succ]
                  refine wpAnyT_take (i := 2) (oi := ⟨some 54, _, _, _, _, _⟩) (v := .bool true) rfl (by kernel_rfl) (by kernel_rfl) (by kernel_rfl) (fun _ _ _ h => h) (by kernel_rfl) (Or.inl ⟨rfl, fun w h => run_gei Try.underlying3 rfl rfl rfl (by have := HK0.out; rw [decide_eq_true_eq]; omega)⟩) (⟨range_blk (t := 43) (show Blk X2.drew g13 43 _ from F3.out.2.2), (by rw [F3.out.1.drew.two.ref.1.cell]; rfl), row_range F3.out.1.drew.two.ref.2.2.1 HM.out⟩) ?_
                  simp only [Act.put, List.setIfInBounds_toArray, List.set_cons_zero, List.set_cons_succ]
                  refine wpAnyT_take (i := 3) (oi := ⟨some 55, _, _, _, _, _⟩) (v := .bool false) rfl (by kernel_rfl) (by kernel_rfl) (by kernel_rfl) (fun _ _ _ h => h) (by kernel_rfl) (Or.inl ⟨rfl, fun w h => by kernel_rfl⟩) (⟨range_blk (t := 43) (show Blk X2.drew g13 43 _ from F3.out.2.2), (by rw [F3.out.1.drew.two.ref.1.cell]; rfl), row_range F3.out.1.drew.two.ref.2.2.1 HM.out⟩) ?_
                  simp only [Act.put, List.setIfInBounds_toArray, List.set_cons_zero, List.set_cons_succ]
                  refine wpAnyT_take (i := 4) (oi := ⟨some 56, _, _, _, _, _⟩) (v := .bool false) rfl (by kernel_rfl) (by kernel_rfl) (by kernel_rfl) (fun _ _ _ h => h) (by kernel_rfl) (Or.inl ⟨rfl, fun w h => by kernel_rfl⟩) (⟨range_blk (t := 43) (show Blk X2.drew g13 43 _ from F3.out.2.2), (by rw [F3.out.1.drew.two.ref.1.cell]; rfl), row_range F3.out.1.drew.two.ref.2.2.1 HM.out⟩) ?_
                  simp only [Act.put, List.setIfInBounds_toArray, List.set_cons_zero, List.set_cons_succ]
                  refine wpAnyT_take (i := 5) (oi := ⟨some 57, _, _, _, _, _⟩) (v := .bool true) rfl (by kernel_rfl) (by kernel_rfl) (by kernel_rfl) (fun _ _ _ h => h) (by kernel_rfl) (Or.inl ⟨rfl, fun w h => by kernel_rfl⟩) (⟨range_blk (t := 43) (show Blk X2.drew g13 43 _ from F3.out.2.2), (by rw [F3.out.1.drew.two.ref.1.cell]; rfl), row_range F3.out.1.drew.two.ref.2.2.1 HM.out⟩) ?_
                  simp only [Act.put, List.setIfInBounds_toArray, List.set_cons_zero, List.set_cons_succ]
                  refine wpAnyT_take (i := 6) (oi := ⟨some 58, _, _, _, _, _⟩) (v := .bool true) rfl (by kernel_rfl) (by kernel_rfl) (by kernel_rfl) (fun _ _ _ h => h) (by kernel_rfl) (Or.inl ⟨rfl, fun w h => by kernel_rfl⟩) (⟨range_blk (t := 43) (show Blk X2.drew g13 43 _ from F3.out.2.2), (by rw [F3.out.1.drew.two.ref.1.cell]; rfl), row_range F3.out.1.drew.two.ref.2.2.1 HM.out⟩) ?_
                  simp only [Act.put, List.setIfInBounds_toArray, List.set_cons_zero, List.set_cons_succ]
                  refine wpAnyT_take (i := 7) (oi := ⟨some 59, _, _, _, _, _⟩) (v := .agg #[.int .i64 l.f, .int .i64 l.t, .slice va l.xs.length vc]) rfl (by kernel_rfl) (by kernel_rfl) (by kernel_rfl) (fun _ _ _ h => h) (by kernel_rfl) (Or.inl ⟨rfl, fun w h => run_load_mid _ _ _ 43 _ rfl g13 0 rfl [.int .i64 l.f, .int .i64 l.t, .slice va l.xs.length vc] _ h.1 Try.underlying43 rfl (by kernel_rfl)⟩) (⟨range_blk (t := 43) (show Blk X2.drew g13 43 _ from F3.out.2.2), (by rw [F3.out.1.drew.two.ref.1.cell]; rfl), row_range F3.out.1.drew.two.ref.2.2.1 HM.out⟩) ?_
                  simp only [Act.put, List.setIfInBounds_toArray, List.set_cons_zero, List.set_cons_succ]
                  refine wpAnyT_take (i := 8) (oi := ⟨some 60, _, _, _, _, _⟩) (v := .pointer (some ⟨r, 0, none⟩)) rfl (by kernel_rfl) (by kernel_rfl) (by kernel_rfl) (fun _ _ _ h => h) (by kernel_rfl) (Or.inl ⟨rfl, fun w h => by kernel_rfl⟩) (⟨range_blk (t := 43) (show Blk X2.drew g13 43 _ from F3.out.2.2), (by rw [F3.out.1.drew.two.ref.1.cell]; rfl), row_range F3.out.1.drew.two.ref.2.2.1 HM.out⟩) ?_
                  simp only [Act.put, List.setIfInBounds_toArray, List.set_cons_zero, List.set_cons_succ]
                  refine wpAnyT_take (i := 9) (oi := ⟨some 61, _, _, _, _, _⟩) (v := .pointer (some ⟨r, 0, none⟩)) rfl (by kernel_rfl) (by kernel_rfl) (by kernel_rfl) (fun _ _ _ h => h) (by kernel_rfl) (Or.inl ⟨rfl, fun w h => by kernel_rfl⟩) (⟨range_blk (t := 43) (show Blk X2.drew g13 43 _ from F3.out.2.2), (by rw [F3.out.1.drew.two.ref.1.cell]; rfl), row_range F3.out.1.drew.two.ref.2.2.1 HM.out⟩) ?_
                  simp only [Act.put, List.setIfInBounds_toArray, List.set_cons_zero, List.set_cons_succ]
                  refine wpAnyT_take (i := 10) (oi := ⟨some 62, _, _, _, _, _⟩) (v := .pointer (some ⟨r, 0, none⟩)) rfl (by kernel_rfl) (by kernel_rfl) (by kernel_rfl) (fun _ _ _ h => h) (by kernel_rfl) (Or.inl ⟨rfl, fun w h => by kernel_rfl⟩) (⟨range_blk (t := 43) (show Blk X2.drew g13 43 _ from F3.out.2.2), (by rw [F3.out.1.drew.two.ref.1.cell]; rfl), row_range F3.out.1.drew.two.ref.2.2.1 HM.out⟩) ?_
                  simp only [Act.put, List.setIfInBounds_toArray, List.set_cons_zero, List.set_cons_succ]
                  refine wpAnyT_take (i := 11) (oi := ⟨some 63, _, _, _, _, _⟩) (v := .slice (some ⟨gt, 0, none⟩) rs.length tc) rfl (by kernel_rfl) (by kernel_rfl) (by kernel_rfl) (fun _ _ _ h => h) (by kernel_rfl) (Or.inl ⟨rfl, fun w h => run_load_one _ _ _ 39 _ _ rfl (r) (0) rfl (h.2.1) (by kernel_rfl)⟩) (⟨range_blk (t := 43) (show Blk X2.drew g13 43 _ from F3.out.2.2), (by rw [F3.out.1.drew.two.ref.1.cell]; rfl), row_range F3.out.1.drew.two.ref.2.2.1 HM.out⟩) ?_
                  simp only [Act.put, List.setIfInBounds_toArray, List.set_cons_zero, List.set_cons_succ]
                  refine wpAnyT_take (i := 12) (oi := ⟨some 64, _, _, _, _, _⟩) (v := .int .i64 (k : Int)) rfl (by kernel_rfl) (by kernel_rfl) (by kernel_rfl) (fun _ _ _ h => h) (by kernel_rfl) (Or.inl ⟨rfl, fun w h => by kernel_rfl⟩) (⟨range_blk (t := 43) (show Blk X2.drew g13 43 _ from F3.out.2.2), (by rw [F3.out.1.drew.two.ref.1.cell]; rfl), row_range F3.out.1.drew.two.ref.2.2.1 HM.out⟩) ?_
                  simp only [Act.put, List.setIfInBounds_toArray, List.set_cons_zero, List.set_cons_succ]
                  refine wpAnyT_take (i := 13) (oi := ⟨some 65, _, _, _, _, _⟩) (v := .pointer (some ⟨gt, k * 3, none⟩)) rfl (by kernel_rfl) (by kernel_rfl) (by kernel_rfl) (fun _ _ _ h => h) (by kernel_rfl) (Or.inl ⟨rfl, fun w h => run_idxl _ _ _ _ _ gt rs.length tc k rfl rfl rfl HKL.out.1 HKL.out.2⟩) (⟨range_blk (t := 43) (show Blk X2.drew g13 43 _ from F3.out.2.2), (by rw [F3.out.1.drew.two.ref.1.cell]; rfl), row_range F3.out.1.drew.two.ref.2.2.1 HM.out⟩) ?_
                  simp only [Act.put, List.setIfInBounds_toArray, List.set_cons_zero, List.set_cons_succ]
                  refine wpAnyT_take (i := 14) (oi := ⟨some 66, _, _, _, _, _⟩) (v := .agg #[.int .i64 mf, .int .i64 mt, .slice ma mn mc]) rfl (by kernel_rfl) (by kernel_rfl) (by kernel_rfl) (fun _ _ _ h => h) (by kernel_rfl) (Or.inl ⟨rfl, fun w h => run_load_mid _ _ _ 43 _ rfl gt (k * 3) rfl [.int .i64 mf, .int .i64 mt, .slice ma mn mc] _ h.2.2 Try.underlying43 rfl (by kernel_rfl)⟩) (⟨range_blk (t := 43) (show Blk X2.drew g13 43 _ from F3.out.2.2), (by rw [F3.out.1.drew.two.ref.1.cell]; rfl), row_range F3.out.1.drew.two.ref.2.2.1 HM.out⟩) ?_
                  simp only [Act.put, List.setIfInBounds_toArray, List.set_cons_zero, List.set_cons_succ]
                  refine wpAnyT_one (i := 15) (by kernel_rfl) ?_
                  refine op_call (o := ⟨some 67, _, _, _, _, _⟩) 24 #[.agg #[.int .i64 l.f, .int .i64 l.t, .slice va l.xs.length vc], .agg #[.int .i64 mf, .int .i64 mt, .slice ma mn mc]] rfl rfl (by kernel_rfl) ((same_any X2.drew l.f l.t mf mt va ma l.xs.length vc mn mc l.xs mx F3.out.2.1 (HMR.out.1.1.keep F3.out.1.drew.two.low)).mono fun e X3 hx => ?_)
                  obtain ⟨he, q1⟩ := hx
                  have F4 : Hid (LK w X3 b r s (.slice (some ⟨gt, 0, none⟩) rs.length tc) ls rs ∧ Blk X3 g13 43 #[.int .i64 l.f, .int .i64 l.t, .slice va l.xs.length vc]) := Lib.hid ⟨F3.out.1.drew.below q1, (show Blk X2.drew g13 43 _ from F3.out.2.2).below q1⟩
                  refine ⟨.bool true, by rw [he, decide_eq_true ⟨EK.out.1.symm, EK.out.2.1.symm, EK.out.2.2.symm⟩], ?_⟩
                  clear q1 he F3
                  refine ⟨fun _ => ⟨range_blk (t := 43) F4.out.2, (by rw [F4.out.1.two.ref.1.cell]; rfl), row_range F4.out.1.two.ref.2.2.1 HM.out⟩, ?_⟩
                  simp only [Act.put, List.setIfInBounds_toArray, List.set_cons_zero, List.set_cons_succ]
                  refine wpAnyT_take (i := 16) (oi := ⟨some 68, _, _, _, _, _⟩) (v := .bool false) rfl (by kernel_rfl) (by kernel_rfl) (by kernel_rfl) (fun _ _ _ h => h) (by kernel_rfl) (Or.inl ⟨rfl, fun w h => by kernel_rfl⟩) (⟨range_blk (t := 43) F4.out.2, (by rw [F4.out.1.two.ref.1.cell]; rfl), row_range F4.out.1.two.ref.2.2.1 HM.out⟩) ?_
                  simp only [Act.put, List.setIfInBounds_toArray, List.set_cons_zero, List.set_cons_succ]
                  refine wpAnyT_take (i := 17) (oi := ⟨some 69, _, _, _, _, _⟩) (v := .bool false) rfl (by kernel_rfl) (by kernel_rfl) (by kernel_rfl) (fun _ _ _ h => h) (by kernel_rfl) (Or.inl ⟨rfl, fun w h => by kernel_rfl⟩) (⟨range_blk (t := 43) F4.out.2, (by rw [F4.out.1.two.ref.1.cell]; rfl), row_range F4.out.1.two.ref.2.2.1 HM.out⟩) ?_
                  simp only [Act.put, List.setIfInBounds_toArray, List.set_cons_zero, List.set_cons_succ]
                  refine wpAnyT_take (i := 18) (oi := ⟨some 70, _, _, _, _, _⟩) (v := .bool false) rfl (by kernel_rfl) (by kernel_rfl) (by kernel_rfl) (fun _ _ _ h => h) (by kernel_rfl) (Or.inl ⟨rfl, fun w h => by kernel_rfl⟩) (⟨range_blk (t := 43) F4.out.2, (by rw [F4.out.1.two.ref.1.cell]; rfl), row_range F4.out.1.two.ref.2.2.1 HM.out⟩) ?_
                  simp only [Act.put, List.setIfInBounds_toArray, List.set_cons_zero, List.set_cons_succ]
                  refine wpAnyT_done (by kernel_rfl) ?_ _
                  have LN : Hid (rs.length = _) := Lib.hid F4.out.1.len
                  go_upto_region 30 with (fail)
                  refine region_anyT (fun X => X.cell? ⟨r, 0, none⟩ = some (.slice (some ⟨gt, 0, none⟩) rs.length tc)) (by kernel_rfl) 8 8 rfl ?_
                  refine wpAnyT_take (i := 0) (oi := ⟨some 159, _, _, _, _, _⟩) (v := .pointer (some ⟨b, 0, none⟩)) rfl (by kernel_rfl) (by kernel_rfl) (by kernel_rfl) (fun _ _ _ h => h) (by kernel_rfl) (Or.inl ⟨rfl, fun w h => by kernel_rfl⟩) ((by rw [F4.out.1.two.ref.1.cell]; rfl : World.cell? X3 ⟨r, 0, none⟩ = _)) ?_
                  simp only [Act.put, List.setIfInBounds_toArray, List.set_cons_zero, List.set_cons_succ]
                  refine wpAnyT_take (i := 2) (oi := ⟨some 161, _, _, _, _, _⟩) (v := .pointer (some ⟨r, 0, none⟩)) rfl (by kernel_rfl) (by kernel_rfl) (by kernel_rfl) (fun _ _ _ h => h) (by kernel_rfl) (Or.inl ⟨rfl, fun w h => by kernel_rfl⟩) ((by rw [F4.out.1.two.ref.1.cell]; rfl : World.cell? X3 ⟨r, 0, none⟩ = _)) ?_
                  simp only [Act.put, List.setIfInBounds_toArray, List.set_cons_zero, List.set_cons_succ]
                  refine wpAnyT_take (i := 3) (oi := ⟨some 162, _, _, _, _, _⟩) (v := .pointer (some ⟨r, 0, none⟩)) rfl (by kernel_rfl) (by kernel_rfl) (by kernel_rfl) (fun _ _ _ h => h) (by kernel_rfl) (Or.inl ⟨rfl, fun w h => by kernel_rfl⟩) ((by rw [F4.out.1.two.ref.1.cell]; rfl : World.cell? X3 ⟨r, 0, none⟩ = _)) ?_
                  simp only [Act.put, List.setIfInBounds_toArray, List.set_cons_zero, List.set_cons_succ]
                  refine wpAnyT_take (i := 4) (oi := ⟨some 163, _, _, _, _, _⟩) (v := .pointer (some ⟨r, 0, none⟩)) rfl (by kernel_rfl) (by kernel_rfl) (by kernel_rfl) (fun _ _ _ h => h) (by kernel_rfl) (Or.inl ⟨rfl, fun w h => by kernel_rfl⟩) ((by rw [F4.out.1.two.ref.1.cell]; rfl : World.cell? X3 ⟨r, 0, none⟩ = _)) ?_
                  simp only [Act.put, List.setIfInBounds_toArray, List.set_cons_zero, List.set_cons_succ]
                  refine wpAnyT_take (i := 5) (oi := ⟨some 164, _, _, _, _, _⟩) (v := .slice (some ⟨gt, 0, none⟩) rs.length tc) rfl (by kernel_rfl) (by kernel_rfl) (by kernel_rfl) (fun _ _ _ h => h) (by kernel_rfl) (Or.inl ⟨rfl, fun w h => run_load_one _ _ _ 39 _ _ rfl (r) (0) rfl (h) (by kernel_rfl)⟩) ((by rw [F4.out.1.two.ref.1.cell]; rfl : World.cell? X3 ⟨r, 0, none⟩ = _)) ?_
                  simp only [Act.put, List.setIfInBounds_toArray, List.set_cons_zero, List.set_cons_succ]
                  refine wpAnyT_take (i := 6) (oi := ⟨some 165, _, _, _, _, _⟩) (v := .int .i64 (rs.length : Int)) rfl (by kernel_rfl) (by kernel_rfl) (by kernel_rfl) (fun _ _ _ h => h) (by kernel_rfl) (Or.inl ⟨rfl, fun w h => by kernel_rfl⟩) ((by rw [F4.out.1.two.ref.1.cell]; rfl : World.cell? X3 ⟨r, 0, none⟩ = _)) ?_
                  simp only [Act.put, List.setIfInBounds_toArray, List.set_cons_zero, List.set_cons_succ]
                  refine wpAnyT_one (i := 1) (by kernel_rfl) ?_
                  refine op_call (o := ⟨some 160, _, _, _, _, _⟩) 28 #[.pointer (some ⟨b, 0, none⟩)] rfl rfl (by kernel_rfl) ((count_any (World.drew X3) b _ _ F4.out.1.drew.two.net).mono fun e X1 hx => ?_)
                  obtain ⟨rfl, hx⟩ := hx
                  subst hx
                  refine ⟨_, rfl, ?_⟩
                  refine ⟨fun _ => (by rw [F4.out.1.two.ref.1.cell]; rfl : World.cell? X3 ⟨r, 0, none⟩ = _), ?_⟩
                  simp only [Act.put, List.setIfInBounds_toArray, List.set_cons_zero, List.set_cons_succ]
                  rw [← LN.out]
                  refine wpAnyT_take (i := 7) (oi := ⟨some 166, _, _, _, _, _⟩) (v := .bool false) rfl (by kernel_rfl) (by kernel_rfl) (by kernel_rfl) (fun _ _ _ h => h) (by kernel_rfl) (Or.inl ⟨rfl, fun w h => run_nei Try.underlying3 rfl rfl rfl (by simp)⟩) ((by rw [F4.out.1.two.ref.1.cell]; rfl : World.cell? X3 ⟨r, 0, none⟩ = _)) ?_
                  simp only [Act.put, List.setIfInBounds_toArray, List.set_cons_zero, List.set_cons_succ]
                  refine wpAnyT_done (by kernel_rfl) ?_ _
                  go_upto_region 6 with (fail)
                  refine wp_region_lit ?_
                  refine wpL_pure (.int .i64 (j : Int)) rfl (by kernel_rfl) ?_
                  simp only [Act.put, List.setIfInBounds_toArray, List.set_cons_zero, List.set_cons_succ]
                  refine wpL_pure (.int .i64 ((j + 1 : Nat) : Int)) rfl (run_addi Try.underlying3 rfl rfl rfl _ (by have := HK.out; have := HLN.out; rw [wrap_in _ (by omega) (by omega)]; omega)) ?_
                  simp only [Act.put, List.setIfInBounds_toArray, List.set_cons_zero, List.set_cons_succ]
                  refine wpL_pure (.int .i64 ((j + 1 : Nat) : Int)) rfl (by kernel_rfl) ?_
                  simp only [Act.put, List.setIfInBounds_toArray, List.set_cons_zero, List.set_cons_succ]
                  have NX : Hid (j + 1 ≤ ln ∧ ∃ s t ls rs, LK w (World.drew X3) b r s t ls rs) := Lib.hid ⟨HK.out, _, _, _, _, F4.out.1.drew⟩
                  unfold wpList
                  go_roundw
                  case rel => first | exact ⟨j + 1, rfl, NX⟩ | ((repeat apply Exists.intro); exact ⟨⟨j + 1, rfl, NX⟩, rfl⟩)
                  case measure => simp [intOf]; have := HK.out; omega
      · have HK := Lib.hid hlt
        clear hlt
        go_upto_region 5 with (fail)
        refine wp_region_lit ?_
        refine wpL_pure (.int .i64 (j : Int)) rfl (by kernel_rfl) ?_
        simp only [Act.put, List.setIfInBounds_toArray, List.set_cons_zero, List.set_cons_succ]
        refine wpL_pure (.slice a ln lc) rfl (by kernel_rfl) ?_
        simp only [Act.put, List.setIfInBounds_toArray, List.set_cons_zero, List.set_cons_succ]
        refine wpL_pure (.int .i64 (ln : Int)) rfl (by kernel_rfl) ?_
        simp only [Act.put, List.setIfInBounds_toArray, List.set_cons_zero, List.set_cons_succ]
        refine wpL_pure (.bool false) rfl (run_lti Try.underlying3 rfl rfl rfl (by have := HK.out; rw [decide_eq_false_iff_not]; omega)) ?_
        simp only [Act.put, List.setIfInBounds_toArray, List.set_cons_zero, List.set_cons_succ]
        go_upto_region 32 with (fail)
        refine wp_region_lit ?_
        refine wpL_pure (.pointer (some ⟨b, 0, none⟩)) rfl (by kernel_rfl) ?_
        simp only [Act.put, List.setIfInBounds_toArray, List.set_cons_zero, List.set_cons_succ]
        refine wpL_call 29 #[.pointer (some ⟨b, 0, none⟩)] rfl (by kernel_rfl) ((way_any wr b s ls F0.out.two.net (Nat.le_trans F0.out.few (by omega))).mono fun e X1 ⟨v, ms, he, hnt, hv, hk, ho, hb⟩ => ⟨v, he, ?_⟩)
        simp only [Act.put, List.setIfInBounds_toArray, List.set_cons_zero, List.set_cons_succ]
        obtain ⟨va, vc, ev, _⟩ := hv.slice
        subst ev
        have F1 : Hid (LK w X1 b r s tt ls rs ∧ LRow X1 wr.heap.size (.slice va ms.length vc) ms.length (flat ms) ∧ ms.map Ltr.key = rs.map Ltr.key ∧ (∀ m ∈ ms, Own X1 wr.heap.size m.v m.xs) ∧ ms.length = rs.length ∧ ms.length ≤ 200) := Lib.hid (by
      have k1 := F0.out.below hb
      have e := hk.trans k1.key
      have e2 : ms.length = rs.length := by simpa using congrArg List.length e
      exact ⟨k1, hv, e, ho, e2, by rw [e2, k1.len]; exact k1.few⟩)
        clear hnt hv hk ho hb F0
        obtain ⟨ta, tc, et, _⟩ := F1.out.1.two.ref.2.2.1.slice
        subst et
        refine wpL_pure (.slice va ms.length vc) rfl (by kernel_rfl) ?_
        simp only [Act.put, List.setIfInBounds_toArray, List.set_cons_zero, List.set_cons_succ]
        unfold wpList
        generalize wr.heap.size = B0 at F1
        go_upto_region 33 with (fail)
        refine wp_region_lit ?_
        refine wpL_pure (.int .i64 0) rfl (by kernel_rfl) ?_
        simp only [Act.put, List.setIfInBounds_toArray, List.set_cons_zero, List.set_cons_succ]
        go_wp2_with fail
        go_loopw [16] (fun s16 wr => ∃ i : Nat, s16 = .int .i64 (i : Int) ∧ Hid (i ≤ ms.length ∧ Below X1.heap.size X1 wr)) (fun s16 _ => ms.length - (intOf s16).toNat)
        case atStart => exact ⟨0, rfl, Lib.hid ⟨Nat.zero_le _, Below.refl _ _⟩⟩
        case round =>
          obtain ⟨i, rfl, RI⟩ := hrel
          by_cases hlt : i < ms.length
          · have HK := Lib.hid hlt
            clear hlt
            go_upto_region 34 with (fail)
            refine wp_region_lit ?_
            refine wpL_pure (.int .i64 (i : Int)) rfl (by kernel_rfl) ?_
            simp only [Act.put, List.setIfInBounds_toArray, List.set_cons_zero, List.set_cons_succ]
            refine wpL_pure (.slice va ms.length vc) rfl (by kernel_rfl) ?_
            simp only [Act.put, List.setIfInBounds_toArray, List.set_cons_zero, List.set_cons_succ]
            refine wpL_pure (.int .i64 (ms.length : Int)) rfl (by kernel_rfl) ?_
            simp only [Act.put, List.setIfInBounds_toArray, List.set_cons_zero, List.set_cons_succ]
            refine wpL_pure (.bool true) rfl (run_lti Try.underlying3 rfl rfl rfl (by have := HK.out; rw [decide_eq_true_eq]; omega)) ?_
            simp only [Act.put, List.setIfInBounds_toArray, List.set_cons_zero, List.set_cons_succ]
            obtain ⟨gv, hgv⟩ : ∃ gv, va = some ⟨gv, 0, none⟩ := by
              rcases F1.out.2.1.forms with ⟨_, e, _⟩ | ⟨g, c, cur, e, _⟩
              · have := HK.out; omega
              · simp only [Value.slice.injEq] at e; exact ⟨g, e.1⟩
            subst hgv
            obtain ⟨gt, hgt⟩ : ∃ gt, ta = some ⟨gt, 0, none⟩ := by
              rcases F1.out.1.two.ref.2.2.1.forms with ⟨_, e, _⟩ | ⟨g, c, cur, e, _⟩
              · have := HK.out; have := F1.out.2.2.2.2.1; omega
              · simp only [Value.slice.injEq] at e; exact ⟨g, e.1⟩
            subst hgt
            obtain ⟨l, hl⟩ : ∃ l, ms[i]? = some l := ⟨_, List.getElem?_eq_getElem HK.out⟩
            obtain ⟨m, hm⟩ : ∃ m, rs[i]? = some m := ⟨_, List.getElem?_eq_getElem (by rw [← F1.out.2.2.2.2.1]; exact HK.out)⟩
            have EK : Hid (l.f = m.f ∧ l.t = m.t ∧ l.xs = m.xs) := Lib.hid (by
              have e := congrArg (fun x => x[i]?) F1.out.2.2.1
              simp only [List.getElem?_map, hl, hm, Option.map_some, Option.some.injEq, Ltr.key, Prod.mk.injEq] at e
              exact e)
            obtain ⟨va2, vc2, ev⟩ := (F1.out.2.2.2.1 l (List.mem_of_getElem? hl)).slice
            have hol := F1.out.2.2.2.1 l (List.mem_of_getElem? hl)
            rw [ev] at hol
            obtain ⟨⟨ma, mn, mc, em, mr⟩, _⟩ := F1.out.1.two.ref.2.2.2 m (List.mem_of_getElem? hm)
            have HL := Lib.hid hl
            have HM := Lib.hid hm
            have HEV := Lib.hid (And.intro ev em)
            have F2 : Hid (LK w wr b r s (.slice (some ⟨gt, 0, none⟩) rs.length tc) ls rs ∧ LRow wr B0 (.slice (some ⟨gv, 0, none⟩) ms.length vc) ms.length (flat ms) ∧ Row wr va2 l.xs.length l.xs ∧ Row wr ma mn m.xs) := Lib.hid (by
              have k1 := F1.out.1.below RI.out.2
              exact ⟨k1, F1.out.2.1.below RI.out.2, hol.row.1.keep RI.out.2, mr.1.keep k1.two.low⟩)
            clear hl hm ev em hol mr
            go_upto_region 36 with (fail)
            refine region_anyT (fun X => X.rangeAt gv (i * 3) [.int .i64 l.f, .int .i64 l.t, .slice va2 l.xs.length vc2] ∧ X.cell? ⟨r, 0, none⟩ = some (.slice (some ⟨gt, 0, none⟩) rs.length tc) ∧ X.rangeAt gt (i * 3) [.int .i64 m.f, .int .i64 m.t, .slice ma mn mc]) (by kernel_rfl) 13 13 rfl ?_
            refine wpAnyT_take (i := 0) (oi := ⟨some 175, _, _, _, _, _⟩) (v := .slice (some ⟨gv, 0, none⟩) ms.length vc) rfl (by kernel_rfl) (by kernel_rfl) (by kernel_rfl) (fun _ _ _ h => h) (by kernel_rfl) (Or.inl ⟨rfl, fun w h => by kernel_rfl⟩) (⟨(by have q := row_range (show LRow wr.drew _ _ _ _ from F2.out.2.1) HL.out; rw [HEV.out.1] at q; exact q), (by rw [F2.out.1.drew.two.ref.1.cell]; rfl), (by have q := row_range F2.out.1.drew.two.ref.2.2.1 HM.out; rw [HEV.out.2] at q; exact q)⟩) ?_
            simp only [Act.put, List.setIfInBounds_toArray, List.set_cons_zero, List.set_cons_succ]
            refine wpAnyT_take (i := 1) (oi := ⟨some 176, _, _, _, _, _⟩) (v := .int .i64 (i : Int)) rfl (by kernel_rfl) (by kernel_rfl) (by kernel_rfl) (fun _ _ _ h => h) (by kernel_rfl) (Or.inl ⟨rfl, fun w h => by kernel_rfl⟩) (⟨(by have q := row_range (show LRow wr.drew _ _ _ _ from F2.out.2.1) HL.out; rw [HEV.out.1] at q; exact q), (by rw [F2.out.1.drew.two.ref.1.cell]; rfl), (by have q := row_range F2.out.1.drew.two.ref.2.2.1 HM.out; rw [HEV.out.2] at q; exact q)⟩) ?_
            simp only [Act.put, List.setIfInBounds_toArray, List.set_cons_zero, List.set_cons_succ]
            refine wpAnyT_take (i := 2) (oi := ⟨some 177, _, _, _, _, _⟩) (v := .pointer (some ⟨gv, i * 3, none⟩)) rfl (by kernel_rfl) (by kernel_rfl) (by kernel_rfl) (fun _ _ _ h => h) (by kernel_rfl) (Or.inl ⟨rfl, fun w h => run_idxl _ _ _ _ _ gv ms.length vc i rfl rfl rfl HK.out (by have := F1.out.2.2.2.2.2; unfold maxLen; omega)⟩) (⟨(by have q := row_range (show LRow wr.drew _ _ _ _ from F2.out.2.1) HL.out; rw [HEV.out.1] at q; exact q), (by rw [F2.out.1.drew.two.ref.1.cell]; rfl), (by have q := row_range F2.out.1.drew.two.ref.2.2.1 HM.out; rw [HEV.out.2] at q; exact q)⟩) ?_
            simp only [Act.put, List.setIfInBounds_toArray, List.set_cons_zero, List.set_cons_succ]
            refine wpAnyT_take (i := 3) (oi := ⟨some 178, _, _, _, _, _⟩) (v := .agg #[.int .i64 l.f, .int .i64 l.t, .slice va2 l.xs.length vc2]) rfl (by kernel_rfl) (by kernel_rfl) (by kernel_rfl) (fun _ _ _ h => h) (by kernel_rfl) (Or.inl ⟨rfl, fun w h => run_load_mid _ _ _ 43 _ rfl gv (i * 3) rfl [.int .i64 l.f, .int .i64 l.t, .slice va2 l.xs.length vc2] _ h.1 Try.underlying43 rfl (by kernel_rfl)⟩) (⟨(by have q := row_range (show LRow wr.drew _ _ _ _ from F2.out.2.1) HL.out; rw [HEV.out.1] at q; exact q), (by rw [F2.out.1.drew.two.ref.1.cell]; rfl), (by have q := row_range F2.out.1.drew.two.ref.2.2.1 HM.out; rw [HEV.out.2] at q; exact q)⟩) ?_
            simp only [Act.put, List.setIfInBounds_toArray, List.set_cons_zero, List.set_cons_succ]
            refine wpAnyT_take (i := 4) (oi := ⟨some 179, _, _, _, _, _⟩) (v := .pointer (some ⟨r, 0, none⟩)) rfl (by kernel_rfl) (by kernel_rfl) (by kernel_rfl) (fun _ _ _ h => h) (by kernel_rfl) (Or.inl ⟨rfl, fun w h => by kernel_rfl⟩) (⟨(by have q := row_range (show LRow wr.drew _ _ _ _ from F2.out.2.1) HL.out; rw [HEV.out.1] at q; exact q), (by rw [F2.out.1.drew.two.ref.1.cell]; rfl), (by have q := row_range F2.out.1.drew.two.ref.2.2.1 HM.out; rw [HEV.out.2] at q; exact q)⟩) ?_
            simp only [Act.put, List.setIfInBounds_toArray, List.set_cons_zero, List.set_cons_succ]
            refine wpAnyT_take (i := 5) (oi := ⟨some 180, _, _, _, _, _⟩) (v := .pointer (some ⟨r, 0, none⟩)) rfl (by kernel_rfl) (by kernel_rfl) (by kernel_rfl) (fun _ _ _ h => h) (by kernel_rfl) (Or.inl ⟨rfl, fun w h => by kernel_rfl⟩) (⟨(by have q := row_range (show LRow wr.drew _ _ _ _ from F2.out.2.1) HL.out; rw [HEV.out.1] at q; exact q), (by rw [F2.out.1.drew.two.ref.1.cell]; rfl), (by have q := row_range F2.out.1.drew.two.ref.2.2.1 HM.out; rw [HEV.out.2] at q; exact q)⟩) ?_
            simp only [Act.put, List.setIfInBounds_toArray, List.set_cons_zero, List.set_cons_succ]
            refine wpAnyT_take (i := 6) (oi := ⟨some 181, _, _, _, _, _⟩) (v := .pointer (some ⟨r, 0, none⟩)) rfl (by kernel_rfl) (by kernel_rfl) (by kernel_rfl) (fun _ _ _ h => h) (by kernel_rfl) (Or.inl ⟨rfl, fun w h => by kernel_rfl⟩) (⟨(by have q := row_range (show LRow wr.drew _ _ _ _ from F2.out.2.1) HL.out; rw [HEV.out.1] at q; exact q), (by rw [F2.out.1.drew.two.ref.1.cell]; rfl), (by have q := row_range F2.out.1.drew.two.ref.2.2.1 HM.out; rw [HEV.out.2] at q; exact q)⟩) ?_
            simp only [Act.put, List.setIfInBounds_toArray, List.set_cons_zero, List.set_cons_succ]
            refine wpAnyT_take (i := 7) (oi := ⟨some 182, _, _, _, _, _⟩) (v := .slice (some ⟨gt, 0, none⟩) rs.length tc) rfl (by kernel_rfl) (by kernel_rfl) (by kernel_rfl) (fun _ _ _ h => h) (by kernel_rfl) (Or.inl ⟨rfl, fun w h => run_load_one _ _ _ 39 _ _ rfl (r) (0) rfl (h.2.1) (by kernel_rfl)⟩) (⟨(by have q := row_range (show LRow wr.drew _ _ _ _ from F2.out.2.1) HL.out; rw [HEV.out.1] at q; exact q), (by rw [F2.out.1.drew.two.ref.1.cell]; rfl), (by have q := row_range F2.out.1.drew.two.ref.2.2.1 HM.out; rw [HEV.out.2] at q; exact q)⟩) ?_
            simp only [Act.put, List.setIfInBounds_toArray, List.set_cons_zero, List.set_cons_succ]
            refine wpAnyT_take (i := 8) (oi := ⟨some 183, _, _, _, _, _⟩) (v := .int .i64 (i : Int)) rfl (by kernel_rfl) (by kernel_rfl) (by kernel_rfl) (fun _ _ _ h => h) (by kernel_rfl) (Or.inl ⟨rfl, fun w h => by kernel_rfl⟩) (⟨(by have q := row_range (show LRow wr.drew _ _ _ _ from F2.out.2.1) HL.out; rw [HEV.out.1] at q; exact q), (by rw [F2.out.1.drew.two.ref.1.cell]; rfl), (by have q := row_range F2.out.1.drew.two.ref.2.2.1 HM.out; rw [HEV.out.2] at q; exact q)⟩) ?_
            simp only [Act.put, List.setIfInBounds_toArray, List.set_cons_zero, List.set_cons_succ]
            refine wpAnyT_take (i := 9) (oi := ⟨some 184, _, _, _, _, _⟩) (v := .pointer (some ⟨gt, i * 3, none⟩)) rfl (by kernel_rfl) (by kernel_rfl) (by kernel_rfl) (fun _ _ _ h => h) (by kernel_rfl) (Or.inl ⟨rfl, fun w h => run_idxl _ _ _ _ _ gt rs.length tc i rfl rfl rfl (by have := F1.out.2.2.2.2.1; have := HK.out; omega) (by have := F1.out.2.2.2.2; unfold maxLen; omega)⟩) (⟨(by have q := row_range (show LRow wr.drew _ _ _ _ from F2.out.2.1) HL.out; rw [HEV.out.1] at q; exact q), (by rw [F2.out.1.drew.two.ref.1.cell]; rfl), (by have q := row_range F2.out.1.drew.two.ref.2.2.1 HM.out; rw [HEV.out.2] at q; exact q)⟩) ?_
            simp only [Act.put, List.setIfInBounds_toArray, List.set_cons_zero, List.set_cons_succ]
            refine wpAnyT_take (i := 10) (oi := ⟨some 185, _, _, _, _, _⟩) (v := .agg #[.int .i64 m.f, .int .i64 m.t, .slice ma mn mc]) rfl (by kernel_rfl) (by kernel_rfl) (by kernel_rfl) (fun _ _ _ h => h) (by kernel_rfl) (Or.inl ⟨rfl, fun w h => run_load_mid _ _ _ 43 _ rfl gt (i * 3) rfl [.int .i64 m.f, .int .i64 m.t, .slice ma mn mc] _ h.2.2 Try.underlying43 rfl (by kernel_rfl)⟩) (⟨(by have q := row_range (show LRow wr.drew _ _ _ _ from F2.out.2.1) HL.out; rw [HEV.out.1] at q; exact q), (by rw [F2.out.1.drew.two.ref.1.cell]; rfl), (by have q := row_range F2.out.1.drew.two.ref.2.2.1 HM.out; rw [HEV.out.2] at q; exact q)⟩) ?_
            simp only [Act.put, List.setIfInBounds_toArray, List.set_cons_zero, List.set_cons_succ]
            refine wpAnyT_one (i := 11) (by kernel_rfl) ?_
            refine op_call (o := ⟨some 186, _, _, _, _, _⟩) 24 #[.agg #[.int .i64 l.f, .int .i64 l.t, .slice va2 l.xs.length vc2], .agg #[.int .i64 m.f, .int .i64 m.t, .slice ma mn mc]] rfl rfl (by kernel_rfl) ((same_any wr.drew l.f l.t m.f m.t va2 ma l.xs.length vc2 mn mc l.xs m.xs F2.out.2.2.1 F2.out.2.2.2).mono fun e X3 hx => ?_)
            obtain ⟨he, q1⟩ := hx
            have q2 : Below wr.heap.size wr X3 := (Below.drew (Below.refl _ _)).trans q1
            have F3 : Hid (LK w X3 b r s (.slice (some ⟨gt, 0, none⟩) rs.length tc) ls rs ∧ LRow X3 B0 (.slice (some ⟨gv, 0, none⟩) ms.length vc) ms.length (flat ms) ∧ Below X1.heap.size X1 X3) := Lib.hid ⟨F2.out.1.below q2, F2.out.2.1.below q2, RI.out.2.trans (q2.mono RI.out.2.size)⟩
            refine ⟨.bool true, by rw [he, decide_eq_true EK.out], ?_⟩
            clear q1 q2 he F2
            refine ⟨fun _ => ⟨(by have q := row_range F3.out.2.1 HL.out; rw [HEV.out.1] at q; exact q), (by rw [F3.out.1.two.ref.1.cell]; rfl), (by have q := row_range F3.out.1.two.ref.2.2.1 HM.out; rw [HEV.out.2] at q; exact q)⟩, ?_⟩
            simp only [Act.put, List.setIfInBounds_toArray, List.set_cons_zero, List.set_cons_succ]
            refine wpAnyT_take (i := 12) (oi := ⟨some 187, _, _, _, _, _⟩) (v := .bool false) rfl (by kernel_rfl) (by kernel_rfl) (by kernel_rfl) (fun _ _ _ h => h) (by kernel_rfl) (Or.inl ⟨rfl, fun w h => by kernel_rfl⟩) (⟨(by have q := row_range F3.out.2.1 HL.out; rw [HEV.out.1] at q; exact q), (by rw [F3.out.1.two.ref.1.cell]; rfl), (by have q := row_range F3.out.1.two.ref.2.2.1 HM.out; rw [HEV.out.2] at q; exact q)⟩) ?_
            simp only [Act.put, List.setIfInBounds_toArray, List.set_cons_zero, List.set_cons_succ]
            refine wpAnyT_done (by kernel_rfl) ?_ _
            go_upto_region 35 with (fail)
            refine wp_region_lit ?_
            refine wpL_pure (.int .i64 (i : Int)) rfl (by kernel_rfl) ?_
            simp only [Act.put, List.setIfInBounds_toArray, List.set_cons_zero, List.set_cons_succ]
            refine wpL_pure (.int .i64 ((i + 1 : Nat) : Int)) rfl (run_addi Try.underlying3 rfl rfl rfl _ (by have := HK.out; have := F1.out.2.2.2.2.2; rw [wrap_in _ (by omega) (by omega)]; omega)) ?_
            simp only [Act.put, List.setIfInBounds_toArray, List.set_cons_zero, List.set_cons_succ]
            refine wpL_pure (.int .i64 ((i + 1 : Nat) : Int)) rfl (by kernel_rfl) ?_
            simp only [Act.put, List.setIfInBounds_toArray, List.set_cons_zero, List.set_cons_succ]
            have NX : Hid (i + 1 ≤ ms.length ∧ Below X1.heap.size X1 X3) := Lib.hid ⟨HK.out, F3.out.2.2⟩
            unfold wpList
            go_roundw
            case rel => first | exact ⟨i + 1, rfl, NX⟩ | ((repeat apply Exists.intro); exact ⟨⟨i + 1, rfl, NX⟩, rfl⟩)
            case measure => simp [intOf]; have := HK.out; omega
          · have HK := Lib.hid hlt
            clear hlt
            go_upto_region 34 with (fail)
            refine wp_region_lit ?_
            refine wpL_pure (.int .i64 (i : Int)) rfl (by kernel_rfl) ?_
            simp only [Act.put, List.setIfInBounds_toArray, List.set_cons_zero, List.set_cons_succ]
            refine wpL_pure (.slice va ms.length vc) rfl (by kernel_rfl) ?_
            simp only [Act.put, List.setIfInBounds_toArray, List.set_cons_zero, List.set_cons_succ]
            refine wpL_pure (.int .i64 (ms.length : Int)) rfl (by kernel_rfl) ?_
            simp only [Act.put, List.setIfInBounds_toArray, List.set_cons_zero, List.set_cons_succ]
            refine wpL_pure (.bool false) rfl (run_lti Try.underlying3 rfl rfl rfl (by have := HK.out; rw [decide_eq_false_iff_not]; omega)) ?_
            simp only [Act.put, List.setIfInBounds_toArray, List.set_cons_zero, List.set_cons_succ]
            have F2 : Hid (LK w wr b r s (.slice ta rs.length tc) ls rs) := Lib.hid (F1.out.1.below RI.out.2)
            go_upto_region 38 with (fail)
            refine wp_region_lit ?_
            refine wpL_pure (.slice va ms.length vc) rfl (by kernel_rfl) ?_
            simp only [Act.put, List.setIfInBounds_toArray, List.set_cons_zero, List.set_cons_succ]
            refine wpL_pure (.int .i64 (ms.length : Int)) rfl (by kernel_rfl) ?_
            simp only [Act.put, List.setIfInBounds_toArray, List.set_cons_zero, List.set_cons_succ]
            refine wpL_pure (.pointer (some ⟨r, 0, none⟩)) rfl (by kernel_rfl) ?_
            simp only [Act.put, List.setIfInBounds_toArray, List.set_cons_zero, List.set_cons_succ]
            refine wpL_pure (.pointer (some ⟨r, 0, none⟩)) rfl (by kernel_rfl) ?_
            simp only [Act.put, List.setIfInBounds_toArray, List.set_cons_zero, List.set_cons_succ]
            refine wpL_pure (.pointer (some ⟨r, 0, none⟩)) rfl (by kernel_rfl) ?_
            simp only [Act.put, List.setIfInBounds_toArray, List.set_cons_zero, List.set_cons_succ]
            refine wpL_pure (.slice ta rs.length tc) rfl (run_load_one _ _ _ 39 _ _ rfl (r) (0) rfl (by rw [F2.out.two.ref.1.cell]; rfl) (by kernel_rfl)) ?_
            simp only [Act.put, List.setIfInBounds_toArray, List.set_cons_zero, List.set_cons_succ]
            refine wpL_pure (.int .i64 (rs.length : Int)) rfl (by kernel_rfl) ?_
            simp only [Act.put, List.setIfInBounds_toArray, List.set_cons_zero, List.set_cons_succ]
            refine wpL_pure (.bool true) rfl (run_eqi Try.underlying3 rfl rfl rfl (by have := F1.out.2.2.2.2.1; rw [decide_eq_true_eq]; omega)) ?_
            simp only [Act.put, List.setIfInBounds_toArray, List.set_cons_zero, List.set_cons_succ]
            refine wpL_pure (.bool true) rfl (by kernel_rfl) ?_
            simp only [Act.put, List.setIfInBounds_toArray, List.set_cons_zero, List.set_cons_succ]
            go_wp2_with fail
            go_ret
            exact ⟨rfl, F2.out.two.low⟩
end Go.Proofs.Ytoeojgdolanggaa
