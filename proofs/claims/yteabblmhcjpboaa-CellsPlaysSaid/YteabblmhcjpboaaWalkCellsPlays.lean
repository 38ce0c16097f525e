/- 'CellsPlays', from its arguments. -/
import Derived.Test.YteabblmhcjpboaaPL1
namespace Go.Proofs.Yteabblmhcjpboaa.D
open Go Go.RowKit
set_option maxRecDepth 100000
theorem own_new0 (w : World) (B : Nat) (hB : B ≤ w.heap.size) : Own (w.alloc (.cells #[] 5)) B (.slice (some ⟨w.heap.size, 0, none⟩) 0 0) ([] : List Int) :=
  ⟨⟨by simp, .inr ⟨w.heap.size, 0, #[], rfl, hB, Blk.new w 5 #[], Nat.le_refl _, by simp [maxLen], by simp, by simp⟩⟩, by simp⟩
theorem wp_via6 {c : Code} {Q' : Exit → Act → World → Prop} {A0 : Act} {w : World} {P : Program} (K : Nat → Option Addr → Nat → Option Addr → Nat → Nat → Act) (F : Nat → Option Addr → Nat → Option Addr → Nat → Nat → World → Prop)
    (h : c.wp P (fun e A W => e = .normal ∧ ∃ g1 a1 c1 a2 c2 g2, A = K g1 a1 c1 a2 c2 g2 ∧ F g1 a1 c1 a2 c2 g2 W) A0 w) (hq : ∀ g1 a1 c1 a2 c2 g2 W, F g1 a1 c1 a2 c2 g2 W → Q' .normal (K g1 a1 c1 a2 c2 g2) W) : c.wp P Q' A0 w :=
  wp_mono h (fun e A W q => by
    obtain ⟨rfl, g1, a1, c1, a2, c2, g2, rfl, f⟩ := q
    exact hq g1 a1 c1 a2 c2 g2 W f)
theorem isrow_keep {w w' : World} {a : Option Addr} {n c : Nat} {zs : List Int} (h : IsRow .u8 w a n c zs) (bb : Below w.heap.size w w') : IsRow .u8 w' a n c zs := by
  rcases h with h | ⟨x, e, h1, h2, h3, h4, h5⟩
  · exact .inl h
  · exact .inr ⟨x, e, h1, h2, h3, fun i hi => (bb.cell (World.block_lt_of_cell? w _ (h4 i hi))).trans (h4 i hi), h5⟩
theorem ops_keep {w w' : World} {a : Option Addr} {ln lc : Nat} (h : OpsAt w a ln lc) (bb : Below w.heap.size w w') : OpsAt w' a ln lc := by
  rcases h with h | ⟨g, o, e, h1, h2, h3⟩
  · exact .inl h
  · refine .inr ⟨g, o, e, h1, h2, fun k hk => ?_⟩
    obtain ⟨q, I, X, a', n, c, bs, h⟩ := h3 k hk
    exact ⟨q, I, X, a', n, c, bs, cell_keep h.1 bb, cell_keep h.2.1 bb, cell_keep h.2.2.1 bb, cell_keep h.2.2.2.1 bb, h.2.2.2.2.1, h.2.2.2.2.2.1, h.2.2.2.2.2.2.1, isrow_keep h.2.2.2.2.2.2.2 bb⟩
attribute [local irreducible] wpList
set_option maxHeartbeats 16000000
theorem plays_any (w : World) (x : Int) (a : Option Addr) (ln lc rm : Nat) (hx : 0 ≤ x ∧ x < 256) (hr : x % 9 = (rm : Int) - 1 ∧ 1 ≤ rm ∧ rm ≤ 9) (h : OpsAt w a ln lc) : Calls Try.prog 5 #[.int .u8 x, .slice a ln lc] w fun e w' => e = .returned (.bool true) ∧ Below w.heap.size w w' := by
  have HP := Lib.hid h
  have HX := Lib.hid hx
  have XR : Hid ((0 ≤ x % 9 ∧ x % 9 < 9) ∧ x % 9 = (rm : Int) - 1 ∧ 1 ≤ rm ∧ rm ≤ 9) := Lib.hid ⟨by omega, hr⟩
  clear h hx hr
  go_enter Try.func5, Try.ntmps5
  go_upto_region 0 with (fail)
  refine wp_region_lit ?_
  refine wpL_pure (.bool false) rfl (by kernel_rfl) ?_
  simp only [Act.put, List.setIfInBounds_toArray, List.set_cons_zero, List.set_cons_succ]
  go_upto_region 1 with (fail)
  refine wp_region_lit ?_
  refine wpL_call 8 #[] rfl (by kernel_rfl) ((awake_any w).mono fun e W1 ⟨he, bb⟩ => ⟨.bool true, he, ?_⟩)
  simp only [Act.put, List.setIfInBounds_toArray, List.set_cons_zero, List.set_cons_succ]
  have B1 : Hid (Below w.heap.size w W1) := Lib.hid bb
  clear bb
  refine wpL_pure (.bool false) rfl (by kernel_rfl) ?_
  simp only [Act.put, List.setIfInBounds_toArray, List.set_cons_zero, List.set_cons_succ]
  refine wpL_pure (.bool false) rfl (by kernel_rfl) ?_
  simp only [Act.put, List.setIfInBounds_toArray, List.set_cons_zero, List.set_cons_succ]
  refine wpL_pure (.slice a ln lc) rfl (by kernel_rfl) ?_
  simp only [Act.put, List.setIfInBounds_toArray, List.set_cons_zero, List.set_cons_succ]
  refine wpL_call 24 #[.slice a ln lc] rfl (by kernel_rfl) ((few_any W1 a ln lc (ops_keep HP.out B1.out)).mono ?_)
  rintro e W2 ⟨z, he, rfl, hz⟩
  refine ⟨.bool z, he, ?_⟩
  simp only [Act.put, List.setIfInBounds_toArray, List.set_cons_zero, List.set_cons_succ]
  clear he
  have HZ := Lib.hid hz
  clear hz
  cases z with
  | false =>
    refine wpL_pure (.bool true) rfl (by kernel_rfl) ?_
    simp only [Act.put, List.setIfInBounds_toArray, List.set_cons_zero, List.set_cons_succ]
    refine wpL_pure (.bool true) rfl (by kernel_rfl) ?_
    simp only [Act.put, List.setIfInBounds_toArray, List.set_cons_zero, List.set_cons_succ]
    go_upto_region 2 with (fail)
    refine wp_region_lit ?_
    refine wpL_call 8 #[] rfl (by kernel_rfl) ((awake_any W2).mono fun e W3 ⟨he, bb⟩ => ⟨.bool true, he, ?_⟩)
    simp only [Act.put, List.setIfInBounds_toArray, List.set_cons_zero, List.set_cons_succ]
    have B2 : Hid (Below w.heap.size w W3) := Lib.hid (B1.out.trans (bb.mono B1.out.size))
    clear bb
    refine wpL_pure (.bool true) rfl (by kernel_rfl) ?_
    simp only [Act.put, List.setIfInBounds_toArray, List.set_cons_zero, List.set_cons_succ]
    go_wp2_with fail
    go_ret
    exact ⟨rfl, B2.out⟩
  | true =>
    have HN : Hid (ln ≤ 40) := Lib.hid (HZ.out rfl)
    clear HZ
    refine wpL_pure (.bool false) rfl (by kernel_rfl) ?_
    simp only [Act.put, List.setIfInBounds_toArray, List.set_cons_zero, List.set_cons_succ]
    refine wpL_pure (.bool false) rfl (by kernel_rfl) ?_
    simp only [Act.put, List.setIfInBounds_toArray, List.set_cons_zero, List.set_cons_succ]
    go_upto_region 3 with (fail)
    refine wp_region_lit ?_
    refine wpL_pure (.int .u8 x) rfl (by kernel_rfl) ?_
    simp only [Act.put, List.setIfInBounds_toArray, List.set_cons_zero, List.set_cons_succ]
    refine wpL_pure (.int .u8 (x % 9)) rfl (run_rem9 _ _ _ _ x rfl rfl HX.out) ?_
    simp only [Act.put, List.setIfInBounds_toArray, List.set_cons_zero, List.set_cons_succ]
    refine wpL_pure (.int .i64 (x % 9)) rfl (run_convi Try.underlying5 Try.underlying3 rfl rfl _ (wrap_in _ (by have := XR.out; omega) (by have := XR.out; omega))) ?_
    simp only [Act.put, List.setIfInBounds_toArray, List.set_cons_zero, List.set_cons_succ]
    refine wpL_pure (.int .i64 ((rm + 3 : Nat) : Int)) rfl (run_addi Try.underlying3 rfl rfl rfl _ (by have := XR.out; rw [wrap_in _ (by omega) (by omega)]; omega)) ?_
    simp only [Act.put, List.setIfInBounds_toArray, List.set_cons_zero, List.set_cons_succ]
    refine wpL_call 9 #[.int .i64 ((rm + 3 : Nat) : Int)] rfl (by kernel_rfl) ((newD (rm + 3) (by have := XR.out; omega) W2).mono fun e W3 ⟨b, gs, gm, he, d, bb, l1, l2, l3⟩ => ⟨.pointer (some ⟨b, 0, none⟩), he, ?_⟩)
    simp only [Act.put, List.setIfInBounds_toArray, List.set_cons_zero, List.set_cons_succ]
    obtain ⟨n, hn⟩ : ∃ q, rm + 3 = q := ⟨_, rfl⟩
    rw [hn] at d
    have NR : Hid (n = rm + 3) := Lib.hid hn.symm
    have F1 : Hid (DC w W3 b gs gm n) := Lib.hid (by have z := B1.out.size; exact ⟨B1.out.trans (bb.mono B1.out.size), ⟨_, _, _, d⟩, by omega, by omega, by omega⟩)
    clear hn bb d l1 l2 l3
    refine wpL_pure (.pointer (some ⟨b, 0, none⟩)) rfl (by kernel_rfl) ?_
    simp only [Act.put, List.setIfInBounds_toArray, List.set_cons_zero, List.set_cons_succ]
    go_upto_region 4 with (fail)
    refine wp_region_lit ?_
    refine wpL_pure (.pointer (some ⟨b, 0, none⟩)) rfl (by kernel_rfl) ?_
    simp only [Act.put, List.setIfInBounds_toArray, List.set_cons_zero, List.set_cons_succ]
    refine wpL_pure (.int .u8 x) rfl (by kernel_rfl) ?_
    simp only [Act.put, List.setIfInBounds_toArray, List.set_cons_zero, List.set_cons_succ]
    refine wpL_pure (.int .u8 (x % 9)) rfl (run_rem9 _ _ _ _ x rfl rfl HX.out) ?_
    simp only [Act.put, List.setIfInBounds_toArray, List.set_cons_zero, List.set_cons_succ]
    refine wpL_pure (.int .i64 (x % 9)) rfl (run_convi Try.underlying5 Try.underlying3 rfl rfl _ (wrap_in _ (by have := XR.out; omega) (by have := XR.out; omega))) ?_
    simp only [Act.put, List.setIfInBounds_toArray, List.set_cons_zero, List.set_cons_succ]
    refine wpL_pure (.int .i64 ((rm + 2 : Nat) : Int)) rfl (run_addi Try.underlying3 rfl rfl rfl _ (by have := XR.out; rw [wrap_in _ (by omega) (by omega)]; omega)) ?_
    simp only [Act.put, List.setIfInBounds_toArray, List.set_cons_zero, List.set_cons_succ]
    refine wpL_call 10 #[.pointer (some ⟨b, 0, none⟩), .int .i64 1, .int .i64 ((rm + 2 : Nat) : Int)] rfl (by kernel_rfl) ((open_pi F1.out XR.out.2.2.1 (by have := NR.out; omega)).mono ?_)
    rintro e W4 ⟨⟨lb0, s0, nt0, bs0, va0, vc0, dc0, fz0, S0, he, hp⟩, bb⟩
    have F2 : Hid (PI w W4 b gs gm n rm lb0 s0 nt0 bs0 va0 vc0 dc0 fz0 S0) := Lib.hid hp
    clear hp bb
    refine ⟨.tuple #[.pointer (some ⟨lb0, 0, none⟩), .int .i64 0], he, ?_⟩
    simp only [Act.put, List.setIfInBounds_toArray, List.set_cons_zero, List.set_cons_succ]
    clear he
    refine wpL_pure (.tuple #[.pointer (some ⟨lb0, 0, none⟩), .int .i64 0]) rfl (by kernel_rfl) ?_
    simp only [Act.put, List.setIfInBounds_toArray, List.set_cons_zero, List.set_cons_succ]
    refine wpL_pure (.pointer (some ⟨lb0, 0, none⟩)) rfl (by kernel_rfl) ?_
    simp only [Act.put, List.setIfInBounds_toArray, List.set_cons_zero, List.set_cons_succ]
    refine wpL_pure (.int .i64 0) rfl (by kernel_rfl) ?_
    simp only [Act.put, List.setIfInBounds_toArray, List.set_cons_zero, List.set_cons_succ]
    refine wpL_pure (.pointer (some ⟨lb0, 0, none⟩)) rfl (by kernel_rfl) ?_
    simp only [Act.put, List.setIfInBounds_toArray, List.set_cons_zero, List.set_cons_succ]
    refine wpL_pure (.int .i64 0) rfl (by kernel_rfl) ?_
    simp only [Act.put, List.setIfInBounds_toArray, List.set_cons_zero, List.set_cons_succ]
    go_upto_region 5 with (fail)
    refine wp_region_lit ?_
    refine wpL_pure (.int .i64 0) rfl (by kernel_rfl) ?_
    simp only [Act.put, List.setIfInBounds_toArray, List.set_cons_zero, List.set_cons_succ]
    refine wpL_pure (.bool false) rfl (by kernel_rfl) ?_
    simp only [Act.put, List.setIfInBounds_toArray, List.set_cons_zero, List.set_cons_succ]
    go_upto_region 7 with (fail)
    refine wp_region_lit ?_
    refine wpL_pure (.int .i64 0) rfl (by kernel_rfl) ?_
    simp only [Act.put, List.setIfInBounds_toArray, List.set_cons_zero, List.set_cons_succ]
    unfold wpList
    go_wp2_with fail
    go_loopw [6, 8] (fun s6 s8 wr => ∃ k lb : Nat, (s6 = .pointer (some ⟨lb, 0, none⟩) ∧ s8 = .int .i64 (k : Int)) ∧ Hid (k ≤ ln ∧ ∃ (s : Nat) (nt bs : List Int) (va : Option Addr) (vc dc : Nat) (fz : Int) (S : List (List Int)), PI w wr b gs gm n rm lb s nt bs va vc dc fz S)) (fun _ s8 _ => ln - (intOf s8).toNat)
    case atStart => exact ⟨0, lb0, ⟨rfl, rfl⟩, Lib.hid ⟨by omega, _, _, _, _, _, _, _, _, F2.out⟩⟩
    case round =>
      obtain ⟨k, lb, ⟨rfl, rfl⟩, RI0⟩ := hrel
      obtain ⟨k1, s, nt, bs, va, vc, dc, fz, S, k2⟩ := RI0.out
      have RK := Lib.hid k1
      have RP := Lib.hid k2
      clear RI0 k1 k2 F2
      by_cases hlt : k < ln
      · have HK := Lib.hid hlt
        clear hlt
        obtain ⟨g, o, EA, _, hm, hc⟩ : ∃ g o, a = some ⟨g, o, none⟩ ∧ ln ≤ lc ∧ lc ≤ maxLen ∧ ∀ k, k < ln → ∃ q I X a' n c bs, OpAt w g (o + k * 4) q I X a' n c bs := by
          rcases HP.out with h | h
          · have := HK.out; omega
          · exact h
        obtain ⟨q, I, X, pa, pn, pc, zs, hc⟩ := hc k HK.out
        have EA := Lib.hid EA
        have HM : Hid (ln ≤ maxLen) := Lib.hid (by omega)
        obtain ⟨ys, hys⟩ : ∃ t, zs.take pn = t := ⟨_, rfl⟩
        have HY : Hid (Sl w pa pn pc ys) := Lib.hid (by rw [← hys]; exact sl_of hc.2.2.2.2.2.2.2)
        have QB : Hid ((0 ≤ q ∧ q < 256) ∧ (-9223372036854775808 ≤ I ∧ I < 9223372036854775808) ∧ 0 ≤ X ∧ X < 256) := Lib.hid ⟨hc.2.2.2.2.1, hc.2.2.2.2.2.1, hc.2.2.2.2.2.2.1⟩
        have RG : Hid (wr.rangeAt g (o + k * 4) (opV q X I pa pn pc)) := Lib.hid (fun j v hj => cell_keep (op_range hc j v hj) RP.out.1)
        clear hc hm hys
        go_upto_region 8 with (fail)
        refine wp_region_lit ?_
        refine wpL_pure (.int .i64 (k : Int)) rfl (by kernel_rfl) ?_
        simp only [Act.put, List.setIfInBounds_toArray, List.set_cons_zero, List.set_cons_succ]
        refine wpL_pure (.slice a ln lc) rfl (by kernel_rfl) ?_
        simp only [Act.put, List.setIfInBounds_toArray, List.set_cons_zero, List.set_cons_succ]
        refine wpL_pure (.int .i64 (ln : Int)) rfl (by kernel_rfl) ?_
        simp only [Act.put, List.setIfInBounds_toArray, List.set_cons_zero, List.set_cons_succ]
        refine wpL_pure (.bool true) rfl (run_lti Try.underlying3 rfl rfl rfl (by have := HK.out; rw [decide_eq_true_eq]; omega)) ?_
        simp only [Act.put, List.setIfInBounds_toArray, List.set_cons_zero, List.set_cons_succ]
        go_upto_region 10 with (fail)
        refine wp_region_lit ?_
        refine wpL_pure (.slice a ln lc) rfl (by kernel_rfl) ?_
        simp only [Act.put, List.setIfInBounds_toArray, List.set_cons_zero, List.set_cons_succ]
        refine wpL_pure (.int .i64 (k : Int)) rfl (by kernel_rfl) ?_
        simp only [Act.put, List.setIfInBounds_toArray, List.set_cons_zero, List.set_cons_succ]
        refine wpL_pure (.pointer (some ⟨g, o + k * 4, none⟩)) rfl (run_idx49 _ _ _ _ _ g o ln lc k rfl (by rw [EA.out]; rfl) rfl HK.out HM.out) ?_
        simp only [Act.put, List.setIfInBounds_toArray, List.set_cons_zero, List.set_cons_succ]
        refine wpL_pure (.agg (opV q X I pa pn pc).toArray) rfl (run_load_mid _ _ _ 52 _ rfl g (o + k * 4) rfl (opV q X I pa pn pc) _ RG.out Try.underlying52 rfl (by kernel_rfl)) ?_
        simp only [Act.put, List.setIfInBounds_toArray, List.set_cons_zero, List.set_cons_succ]
        obtain ⟨W1', hW1⟩ : ∃ V, V = wr.alloc (.cells #[.int .u8 0, .int .u8 0, .int .i64 0, .slice none 0 0] 52) := ⟨_, rfl⟩
        refine wpL_value (.pointer (some ⟨wr.heap.size, 0, none⟩)) W1' rfl (by rw [hW1]; kernel_rfl) ?_
        simp only [Act.put, List.setIfInBounds_toArray, List.set_cons_zero, List.set_cons_succ]
        obtain ⟨g9, hg9⟩ : ∃ t, wr.heap.size = t := ⟨_, rfl⟩
        have C1 : Hid (Below wr.heap.size wr W1' ∧ Blk W1' g9 52 #[.int .u8 0, .int .u8 0, .int .i64 0, .slice none 0 0] ∧ wr.heap.size = g9) := Lib.hid (by rw [hW1, ← hg9]; exact ⟨(Below.refl _ _).alloc (Nat.le_refl _) _, Blk.new _ _ _, rfl⟩)
        rw [hg9]
        clear hW1 hg9
        refine wpList_store_row rfl 52 _ _ rfl g9 (opV q X I pa pn pc).toArray rfl rfl 52 _ C1.out.2.1 (by kernel_rfl) (by rfl) (op_one _ _ _ _ _ _) ?_
        simp only [Act.put, List.setIfInBounds_toArray, List.set_cons_zero, List.set_cons_succ]
        obtain ⟨X2, hX2⟩ : ∃ V, V = W1'.setRow g9 (opV q X I pa pn pc).toArray := ⟨_, rfl⟩
        rw [← hX2]
        have C2 : Hid (PI w X2 b gs gm n rm lb s nt bs va vc dc fz S ∧ Blk X2 g9 52 (opV q X I pa pn pc).toArray ∧ (∀ k, Pv lb b gs gm (.slice va bs.length vc) k → k < g9) ∧ w.heap.size ≤ g9) := Lib.hid (by have e := C1.out.2.2; rw [hX2]; exact ⟨RP.out.below (below_setRow C1.out.1 (Nat.le_of_eq e) _), setRow_heap _ _ _ _ _ _ C1.out.2.1, fun k hk => by have := (RP.out.pv k hk).2; omega, by have := RP.out.1.size; omega⟩)
        clear hX2
        go_upto_region 11 with (fail)
        refine wp_region_lit ?_
        refine wpL_pure (.pointer (some ⟨lb, 0, none⟩)) rfl (by kernel_rfl) ?_
        simp only [Act.put, List.setIfInBounds_toArray, List.set_cons_zero, List.set_cons_succ]
        refine wpL_call 21 #[.pointer (some ⟨lb, 0, none⟩)] rfl (by kernel_rfl) ((state_any (ov := false) C2.out.1.2.2.1.1 C2.out.1.2.2.1.2.1 rfl (by have := C2.out.1.2.2.1.2.2.1; have := XR.out; omega)).mono ?_)
        rintro e X3 ⟨ua, uc, he, bb, ow⟩
        have C3 : Hid (PI w X3 b gs gm n rm lb s nt bs va vc dc fz S ∧ Blk X3 g9 52 (opV q X I pa pn pc).toArray ∧ Own X3 (g9 + 1) (.slice ua bs.length uc) bs) := Lib.hid ⟨C2.out.1.below bb, C2.out.2.1.below bb, ow.mono (by have := C2.out.2.1.lt; omega)⟩
        clear bb ow
        refine ⟨.agg (stV s nt (.slice ua bs.length uc)).toArray, he, ?_⟩
        simp only [Act.put, List.setIfInBounds_toArray, List.set_cons_zero, List.set_cons_succ]
        clear he
        obtain ⟨X4, hX4⟩ : ∃ V, V = X3.alloc (.cells (stV 0 (List.replicate 16 0) (.slice none 0 0)).toArray 42) := ⟨_, rfl⟩
        refine wpL_value (.pointer (some ⟨X3.heap.size, 0, none⟩)) X4 rfl (by rw [hX4]; kernel_rfl) ?_
        simp only [Act.put, List.setIfInBounds_toArray, List.set_cons_zero, List.set_cons_succ]
        obtain ⟨g10, hg10⟩ : ∃ t, X3.heap.size = t := ⟨_, rfl⟩
        have C4 : Hid (Below X3.heap.size X3 X4 ∧ Blk X4 g10 42 (stV 0 (List.replicate 16 0) (.slice none 0 0)).toArray ∧ X3.heap.size = g10) := Lib.hid (by rw [hX4, ← hg10]; exact ⟨(Below.refl _ _).alloc (Nat.le_refl _) _, Blk.new _ _ _, rfl⟩)
        rw [hg10]
        clear hX4 hg10
        have NT := Lib.hid C3.out.1.2.2.1.1.2.1
        refine wpList_store_row rfl 42 _ _ rfl g10 (stV s nt (.slice ua bs.length uc)).toArray rfl rfl 42 _ C4.out.2.1 (by simp only [List.size_toArray, st_len NT.out] <;> kernel_rfl) (by simp only [List.size_toArray, st_len NT.out] <;> rfl) (st_one _ _ _ _ _) ?_
        simp only [Act.put, List.setIfInBounds_toArray, List.set_cons_zero, List.set_cons_succ]
        obtain ⟨X5, hX5⟩ : ∃ V, V = X4.setRow g10 (stV s nt (.slice ua bs.length uc)).toArray := ⟨_, rfl⟩
        rw [← hX5]
        have C5 : Hid (PI w X5 b gs gm n rm lb s nt bs va vc dc fz S ∧ Blk X5 g9 52 (opV q X I pa pn pc).toArray ∧ Blk X5 g10 42 (stV s nt (.slice ua bs.length uc)).toArray ∧ Own X5 (g9 + 1) (.slice ua bs.length uc) bs) := Lib.hid (by have bb : Below X3.heap.size X3 X5 := (by rw [hX5]; exact below_setRow C4.out.1 (Nat.le_of_eq C4.out.2.2) _); exact ⟨C3.out.1.below bb, C3.out.2.1.below bb, by rw [hX5]; exact setRow_heap _ _ _ _ _ _ C4.out.2.1, C3.out.2.2.below bb⟩)
        have NUM : Hid ((∀ k, Pv lb b gs gm (.slice va bs.length vc) k → k < g9) ∧ g9 < g10 ∧ (∀ k, (.slice ua bs.length uc : Value).ownBlock = some k → g9 < k ∧ k < g10) ∧ w.heap.size ≤ g9) := Lib.hid (by have e := C4.out.2.2; exact ⟨C2.out.2.2.1, by have := C3.out.2.1.lt; omega, fun k hk => by have z := C3.out.2.2.lt k hk; omega, C2.out.2.2.2⟩)
        clear hX5
        go_upto_region 12 with (fail)
        refine wp_region_lit ?_
        refine wpL_pure (.pointer (some ⟨lb, 0, none⟩)) rfl (by kernel_rfl) ?_
        simp only [Act.put, List.setIfInBounds_toArray, List.set_cons_zero, List.set_cons_succ]
        refine wpL_call 22 #[.pointer (some ⟨lb, 0, none⟩)] rfl (by kernel_rfl) ((roomD C5.out.1.2.2.1.1 va bs.length vc rfl (by have := C5.out.1.2.2.1.2.2.1; have := XR.out; omega)).mono fun e X6 ⟨he, bb⟩ => ⟨.int .i64 ((rm : Int) * 64 - (bs.length : Int)), he, ?_⟩)
        simp only [Act.put, List.setIfInBounds_toArray, List.set_cons_zero, List.set_cons_succ]
        have C6 : Hid (PI w X6 b gs gm n rm lb s nt bs va vc dc fz S ∧ Blk X6 g9 52 (opV q X I pa pn pc).toArray ∧ Blk X6 g10 42 (stV s nt (.slice ua bs.length uc)).toArray ∧ Own X6 (g9 + 1) (.slice ua bs.length uc) bs) := Lib.hid ⟨C5.out.1.below bb, C5.out.2.1.below bb, C5.out.2.2.1.below bb, C5.out.2.2.2.below bb⟩
        clear bb
        refine wpL_pure (.int .i64 ((rm : Int) * 64 - (bs.length : Int))) rfl (by kernel_rfl) ?_
        simp only [Act.put, List.setIfInBounds_toArray, List.set_cons_zero, List.set_cons_succ]
        by_cases hs : 4611686018427387904 ≤ s
        · have HS := Lib.hid hs
          clear hs
          go_upto_region 13 with (fail)
          refine wp_region_lit ?_
          refine wpL_pure (.pointer (some ⟨g10, 0, none⟩)) rfl (by kernel_rfl) ?_
          simp only [Act.put, List.setIfInBounds_toArray, List.set_cons_zero, List.set_cons_succ]
          refine wpL_pure (.int .u64 ((s : Nat) : Int)) rfl (run_load_one _ _ _ 35 _ _ rfl (g10) (0) rfl (by rw [C6.out.2.2.1.cell]; rfl) (by kernel_rfl)) ?_
          simp only [Act.put, List.setIfInBounds_toArray, List.set_cons_zero, List.set_cons_succ]
          refine wpL_pure (.bool true) rfl (run_gei Try.underlying35 rfl rfl rfl (by have := HS.out; rw [decide_eq_true_eq]; omega)) ?_
          simp only [Act.put, List.setIfInBounds_toArray, List.set_cons_zero, List.set_cons_succ]
          have D0 : Hid (PI w X6.drew b gs gm n rm lb s nt bs va vc dc fz S ∧ Blk X6.drew g9 52 (opV q X I pa pn pc).toArray ∧ Blk X6.drew g10 42 (stV s nt (.slice ua bs.length uc)).toArray ∧ Own X6.drew (g9 + 1) (.slice ua bs.length uc) bs) := Lib.hid (by have bb : Below X6.heap.size X6 X6.drew := (Below.refl _ X6).drew; exact ⟨C6.out.1.below bb, C6.out.2.1.below bb, C6.out.2.2.1.below bb, C6.out.2.2.2.below bb⟩)
          go_upto_region 14 with (fail)
          refine region_anyT (fun Y => Blk Y g9 52 (opV q X I pa pn pc).toArray ∧ Blk Y g10 42 (stV s nt (.slice ua bs.length uc)).toArray) (by kernel_rfl) 20 20 rfl ?_
          refine wpAnyT_take (i := 0) (oi := ⟨some 57, _, _, _, _, _⟩) (v := .pointer (some ⟨lb, 0, none⟩)) rfl (by kernel_rfl) (by kernel_rfl) (by kernel_rfl) (fun _ _ _ h => h) (by kernel_rfl) (Or.inl ⟨rfl, fun w h => by kernel_rfl⟩) (⟨D0.out.2.1, D0.out.2.2.1⟩) ?_
          simp only [Act.put, List.setIfInBounds_toArray, List.set_cons_zero, List.set_cons_succ]
          refine wpAnyT_take (i := 1) (oi := ⟨some 58, _, _, _, _, _⟩) (v := .pointer (some ⟨g9, 3, none⟩)) rfl (by kernel_rfl) (by kernel_rfl) (by kernel_rfl) (fun _ _ _ h => h) (by kernel_rfl) (Or.inl ⟨rfl, fun w h => by kernel_rfl⟩) (⟨D0.out.2.1, D0.out.2.2.1⟩) ?_
          simp only [Act.put, List.setIfInBounds_toArray, List.set_cons_zero, List.set_cons_succ]
          refine wpAnyT_take (i := 2) (oi := ⟨some 59, _, _, _, _, _⟩) (v := .slice pa pn pc) rfl (by kernel_rfl) (by kernel_rfl) (by kernel_rfl) (fun _ _ _ h => h) (by kernel_rfl) (Or.inl ⟨rfl, fun w h => run_load_one _ _ _ 26 _ _ rfl g9 3 rfl (by rw [(h.1).cell]; rfl) (by kernel_rfl)⟩) (⟨D0.out.2.1, D0.out.2.2.1⟩) ?_
          simp only [Act.put, List.setIfInBounds_toArray, List.set_cons_zero, List.set_cons_succ]
          refine wpAnyT_take (i := 3) (oi := ⟨some 60, _, _, _, _, _⟩) (v := .pointer (some ⟨g9, 1, none⟩)) rfl (by kernel_rfl) (by kernel_rfl) (by kernel_rfl) (fun _ _ _ h => h) (by kernel_rfl) (Or.inl ⟨rfl, fun w h => by kernel_rfl⟩) (⟨D0.out.2.1, D0.out.2.2.1⟩) ?_
          simp only [Act.put, List.setIfInBounds_toArray, List.set_cons_zero, List.set_cons_succ]
          refine wpAnyT_take (i := 4) (oi := ⟨some 61, _, _, _, _, _⟩) (v := .int .u8 X) rfl (by kernel_rfl) (by kernel_rfl) (by kernel_rfl) (fun _ _ _ h => h) (by kernel_rfl) (Or.inl ⟨rfl, fun w h => run_load_one _ _ _ 5 _ _ rfl g9 1 rfl (by rw [(h.1).cell]; rfl) (by kernel_rfl)⟩) (⟨D0.out.2.1, D0.out.2.2.1⟩) ?_
          simp only [Act.put, List.setIfInBounds_toArray, List.set_cons_zero, List.set_cons_succ]
          refine wpAnyT_one (i := 5) (by kernel_rfl) ?_
          refine op_call (o := ⟨some 62, _, _, _, _, _⟩) 12 #[.int .u8 X] rfl rfl (by kernel_rfl) ((notef_any X6.drew X).mono fun e Y1 h => ?_)
          have bb := h.2
          have D1 : Hid (PI w Y1 b gs gm n rm lb s nt bs va vc dc fz S ∧ Blk Y1 g9 52 (opV q X I pa pn pc).toArray ∧ Blk Y1 g10 42 (stV s nt (.slice ua bs.length uc)).toArray ∧ Own Y1 (g9 + 1) (.slice ua bs.length uc) bs) := Lib.hid ⟨D0.out.1.below bb, D0.out.2.1.below bb, D0.out.2.2.1.below bb, D0.out.2.2.2.below bb⟩
          refine ⟨.agg (u8l (List.replicate 16 X)).toArray, h.1, fun _ => ⟨D1.out.2.1, D1.out.2.2.1⟩, ?_⟩
          simp only [Act.put, List.setIfInBounds_toArray, List.set_cons_zero, List.set_cons_succ]
          clear h bb
          refine wpAnyT_one (i := 6) (by kernel_rfl) ?_
          refine op_call (o := ⟨some 63, _, _, _, _, _⟩) 11 #[.pointer (some ⟨lb, 0, none⟩), .slice pa pn pc, .agg (u8l (List.replicate 16 X)).toArray] rfl rfl (by kernel_rfl) ((app_spent D1.out.1 HS.out pa pn pc (List.replicate 16 X) (nt_ok X (by have := QB.out; omega))).mono fun e Y2 h => ?_)
          have bb := h.2
          have D2 : Hid (PI w Y2 b gs gm n rm lb s nt bs va vc dc fz S ∧ Blk Y2 g9 52 (opV q X I pa pn pc).toArray ∧ Blk Y2 g10 42 (stV s nt (.slice ua bs.length uc)).toArray ∧ Own Y2 (g9 + 1) (.slice ua bs.length uc) bs) := Lib.hid ⟨D1.out.1.below bb, D1.out.2.1.below bb, D1.out.2.2.1.below bb, D1.out.2.2.2.below bb⟩
          refine ⟨.int .i64 14, h.1, fun _ => ⟨D2.out.2.1, D2.out.2.2.1⟩, ?_⟩
          simp only [Act.put, List.setIfInBounds_toArray, List.set_cons_zero, List.set_cons_succ]
          clear h bb
          refine wpAnyT_take (i := 7) (oi := ⟨some 64, _, _, _, _, _⟩) (v := .bool true) rfl (by kernel_rfl) (by kernel_rfl) (by kernel_rfl) (fun _ _ _ h => h) (by kernel_rfl) (Or.inl ⟨rfl, fun w h => by kernel_rfl⟩) (⟨D2.out.2.1, D2.out.2.2.1⟩) ?_
          simp only [Act.put, List.setIfInBounds_toArray, List.set_cons_zero, List.set_cons_succ]
          refine wpAnyT_take (i := 8) (oi := ⟨some 65, _, _, _, _, _⟩) (v := .bool true) rfl (by kernel_rfl) (by kernel_rfl) (by kernel_rfl) (fun _ _ _ h => h) (by kernel_rfl) (Or.inl ⟨rfl, fun w h => by kernel_rfl⟩) (⟨D2.out.2.1, D2.out.2.2.1⟩) ?_
          simp only [Act.put, List.setIfInBounds_toArray, List.set_cons_zero, List.set_cons_succ]
          refine wpAnyT_take (i := 9) (oi := ⟨some 66, _, _, _, _, _⟩) (v := .pointer (some ⟨lb, 0, none⟩)) rfl (by kernel_rfl) (by kernel_rfl) (by kernel_rfl) (fun _ _ _ h => h) (by kernel_rfl) (Or.inl ⟨rfl, fun w h => by kernel_rfl⟩) (⟨D2.out.2.1, D2.out.2.2.1⟩) ?_
          simp only [Act.put, List.setIfInBounds_toArray, List.set_cons_zero, List.set_cons_succ]
          refine wpAnyT_one (i := 10) (by kernel_rfl) ?_
          refine op_call (o := ⟨some 67, _, _, _, _, _⟩) 25 #[.pointer (some ⟨lb, 0, none⟩)] rfl rfl (by kernel_rfl) ((clr_spent D2.out.1 HS.out).mono fun e Y3 h => ?_)
          have bb := h.2
          have D3 : Hid (PI w Y3 b gs gm n rm lb s nt bs va vc dc fz S ∧ Blk Y3 g9 52 (opV q X I pa pn pc).toArray ∧ Blk Y3 g10 42 (stV s nt (.slice ua bs.length uc)).toArray ∧ Own Y3 (g9 + 1) (.slice ua bs.length uc) bs) := Lib.hid ⟨D2.out.1.below bb, D2.out.2.1.below bb, D2.out.2.2.1.below bb, D2.out.2.2.2.below bb⟩
          refine ⟨.int .i64 14, h.1, fun _ => ⟨D3.out.2.1, D3.out.2.2.1⟩, ?_⟩
          simp only [Act.put, List.setIfInBounds_toArray, List.set_cons_zero, List.set_cons_succ]
          clear h bb
          refine wpAnyT_take (i := 11) (oi := ⟨some 68, _, _, _, _, _⟩) (v := .bool true) rfl (by kernel_rfl) (by kernel_rfl) (by kernel_rfl) (fun _ _ _ h => h) (by kernel_rfl) (Or.inl ⟨rfl, fun w h => by kernel_rfl⟩) (⟨D3.out.2.1, D3.out.2.2.1⟩) ?_
          simp only [Act.put, List.setIfInBounds_toArray, List.set_cons_zero, List.set_cons_succ]
          refine wpAnyT_take (i := 12) (oi := ⟨some 69, _, _, _, _, _⟩) (v := .bool true) rfl (by kernel_rfl) (by kernel_rfl) (by kernel_rfl) (fun _ _ _ h => h) (by kernel_rfl) (Or.inl ⟨rfl, fun w h => by kernel_rfl⟩) (⟨D3.out.2.1, D3.out.2.2.1⟩) ?_
          simp only [Act.put, List.setIfInBounds_toArray, List.set_cons_zero, List.set_cons_succ]
          refine wpAnyT_take (i := 13) (oi := ⟨some 70, _, _, _, _, _⟩) (v := .bool true) rfl (by kernel_rfl) (by kernel_rfl) (by kernel_rfl) (fun _ _ _ h => h) (by kernel_rfl) (Or.inl ⟨rfl, fun w h => by kernel_rfl⟩) (⟨D3.out.2.1, D3.out.2.2.1⟩) ?_
          simp only [Act.put, List.setIfInBounds_toArray, List.set_cons_zero, List.set_cons_succ]
          refine wpAnyT_take (i := 14) (oi := ⟨some 71, _, _, _, _, _⟩) (v := .pointer (some ⟨lb, 0, none⟩)) rfl (by kernel_rfl) (by kernel_rfl) (by kernel_rfl) (fun _ _ _ h => h) (by kernel_rfl) (Or.inl ⟨rfl, fun w h => by kernel_rfl⟩) (⟨D3.out.2.1, D3.out.2.2.1⟩) ?_
          simp only [Act.put, List.setIfInBounds_toArray, List.set_cons_zero, List.set_cons_succ]
          refine wpAnyT_take (i := 16) (oi := ⟨some 73, _, _, _, _, _⟩) (v := .agg (stV s nt (.slice ua bs.length uc)).toArray) rfl (by kernel_rfl) (by kernel_rfl) (by kernel_rfl) (fun _ _ _ h => h) (by kernel_rfl) (Or.inl ⟨rfl, fun w h => run_load_mid _ _ _ 42 _ rfl g10 0 rfl (stV s nt (.slice ua bs.length uc)) _ (blk_range' h.2) Try.underlying42 rfl (by simp only [List.size_toArray, st_len NT.out] <;> kernel_rfl)⟩) (⟨D3.out.2.1, D3.out.2.2.1⟩) ?_
          simp only [Act.put, List.setIfInBounds_toArray, List.set_cons_zero, List.set_cons_succ]
          refine wpAnyT_one (i := 15) (by kernel_rfl) ?_
          refine op_call (o := ⟨some 72, _, _, _, _, _⟩) 21 #[.pointer (some ⟨lb, 0, none⟩)] rfl rfl (by kernel_rfl) ((state_any (ov := false) D3.out.1.2.2.1.1 D3.out.1.2.2.1.2.1 rfl (by have := D3.out.1.2.2.1.2.2.1; have := XR.out; omega)).mono fun e Y4 h => ?_)
          obtain ⟨xa, xc, he, bb, ow⟩ := h
          have D4 : Hid ((PI w Y4 b gs gm n rm lb s nt bs va vc dc fz S ∧ Blk Y4 g9 52 (opV q X I pa pn pc).toArray ∧ Blk Y4 g10 42 (stV s nt (.slice ua bs.length uc)).toArray ∧ Own Y4 (g9 + 1) (.slice ua bs.length uc) bs) ∧ Row Y4 xa (bs).length (bs)) := Lib.hid ⟨⟨D3.out.1.below bb, D3.out.2.1.below bb, D3.out.2.2.1.below bb, D3.out.2.2.2.below bb⟩, fit_own ow⟩
          clear bb ow
          refine ⟨.agg (stV s nt (.slice xa (bs).length xc)).toArray, he, fun _ => ⟨D4.out.1.2.1, D4.out.1.2.2.1⟩, ?_⟩
          simp only [Act.put, List.setIfInBounds_toArray, List.set_cons_zero, List.set_cons_succ]
          clear he
          refine wpAnyT_one (i := 17) (by kernel_rfl) ?_
          refine op_call (o := ⟨some 74, _, _, _, _, _⟩) 20 #[.agg (stV s nt (.slice xa bs.length xc)).toArray, .agg (stV s nt (.slice ua bs.length uc)).toArray] rfl rfl (by kernel_rfl) ((same_any Y4 s s bs.length bs.length xc uc nt nt bs bs xa ua NT.out NT.out D4.out.2 (fit_own D4.out.1.2.2.2)).mono fun e Y5 h => ?_)
          have bb := h.2
          have D5 : Hid (PI w Y5 b gs gm n rm lb s nt bs va vc dc fz S ∧ Blk Y5 g9 52 (opV q X I pa pn pc).toArray ∧ Blk Y5 g10 42 (stV s nt (.slice ua bs.length uc)).toArray ∧ Own Y5 (g9 + 1) (.slice ua bs.length uc) bs) := Lib.hid ⟨D4.out.1.1.below bb, D4.out.1.2.1.below bb, D4.out.1.2.2.1.below bb, D4.out.1.2.2.2.below bb⟩
          refine ⟨.bool true, h.1.trans (by simp), fun _ => ⟨D5.out.2.1, D5.out.2.2.1⟩, ?_⟩
          simp only [Act.put, List.setIfInBounds_toArray, List.set_cons_zero, List.set_cons_succ]
          clear h bb
          refine wpAnyT_take (i := 18) (oi := ⟨some 75, _, _, _, _, _⟩) (v := .bool true) rfl (by kernel_rfl) (by kernel_rfl) (by kernel_rfl) (fun _ _ _ h => h) (by kernel_rfl) (Or.inl ⟨rfl, fun w h => by kernel_rfl⟩) (⟨D5.out.2.1, D5.out.2.2.1⟩) ?_
          simp only [Act.put, List.setIfInBounds_toArray, List.set_cons_zero, List.set_cons_succ]
          refine wpAnyT_take (i := 19) (oi := ⟨some 4, _, _, _, _, _⟩) (v := .bool true) rfl (by kernel_rfl) (by kernel_rfl) (by kernel_rfl) (fun _ _ _ h => h) (by kernel_rfl) (Or.inl ⟨rfl, fun w h => by kernel_rfl⟩) (⟨D5.out.2.1, D5.out.2.2.1⟩) ?_
          simp only [Act.put, List.setIfInBounds_toArray, List.set_cons_zero, List.set_cons_succ]
          refine wpAnyT_done (by kernel_rfl) ?_ _
          go_wp2_with fail
          go_ret
          exact ⟨rfl, D5.out.1.1⟩
        · have HS : Hid (s < 4611686018427387904) := Lib.hid (by omega)
          clear hs
          go_upto_region 13 with (fail)
          refine wp_region_lit ?_
          refine wpL_pure (.pointer (some ⟨g10, 0, none⟩)) rfl (by kernel_rfl) ?_
          simp only [Act.put, List.setIfInBounds_toArray, List.set_cons_zero, List.set_cons_succ]
          refine wpL_pure (.int .u64 ((s : Nat) : Int)) rfl (run_load_one _ _ _ 35 _ _ rfl (g10) (0) rfl (by rw [C6.out.2.2.1.cell]; rfl) (by kernel_rfl)) ?_
          simp only [Act.put, List.setIfInBounds_toArray, List.set_cons_zero, List.set_cons_succ]
          refine wpL_pure (.bool false) rfl (run_gei Try.underlying35 rfl rfl rfl (by have := HS.out; rw [decide_eq_false_iff_not]; omega)) ?_
          simp only [Act.put, List.setIfInBounds_toArray, List.set_cons_zero, List.set_cons_succ]
          go_upto_region 15 with (fail)
          refine wp_region_lit ?_
          refine wpL_pure (.pointer (some ⟨g9, 0, none⟩)) rfl (by kernel_rfl) ?_
          simp only [Act.put, List.setIfInBounds_toArray, List.set_cons_zero, List.set_cons_succ]
          refine wpL_pure (.int .u8 q) rfl (run_load_one _ _ _ 5 _ _ rfl (g9) (0) rfl (by rw [C6.out.2.1.cell]; rfl) (by kernel_rfl)) ?_
          simp only [Act.put, List.setIfInBounds_toArray, List.set_cons_zero, List.set_cons_succ]
          refine wpL_pure (.int .u8 (q % 5)) rfl (run_rem5 _ _ _ _ q rfl rfl QB.out.1) ?_
          simp only [Act.put, List.setIfInBounds_toArray, List.set_cons_zero, List.set_cons_succ]
          by_cases h0 : q % 5 = 0
          · have HQ := Lib.hid h0
            clear h0
            go_upto_region 23 with (fail)
            refine wp_region_lit ?_
            refine wpL_pure (.bool true) rfl (run_eqi Try.underlying5 rfl rfl rfl (by have := HQ.out; rw [decide_eq_true_eq]; omega)) ?_
            simp only [Act.put, List.setIfInBounds_toArray, List.set_cons_zero, List.set_cons_succ]
            refine wpL_pure (.bool true) rfl (by kernel_rfl) ?_
            simp only [Act.put, List.setIfInBounds_toArray, List.set_cons_zero, List.set_cons_succ]
            have D0 : Hid (PI w X6.drew b gs gm n rm lb s nt bs va vc dc fz S ∧ Blk X6.drew g9 52 (opV q X I pa pn pc).toArray ∧ Blk X6.drew g10 42 (stV s nt (.slice ua bs.length uc)).toArray ∧ Own X6.drew (g9 + 1) (.slice ua bs.length uc) bs) := Lib.hid (by have bb : Below X6.heap.size X6 X6.drew := (Below.refl _ X6).drew; exact ⟨C6.out.1.below bb, C6.out.2.1.below bb, C6.out.2.2.1.below bb, C6.out.2.2.2.below bb⟩)
            by_cases hf : bs.length + pn ≤ rm * 64
            · have HF : Hid (bs.length + pn ≤ rm * 64) := Lib.hid hf
              clear hf
              go_upto_region 24 with (fail)
              refine region_anyT (fun Y => Blk Y g9 52 (opV q X I pa pn pc).toArray ∧ True) (by kernel_rfl) 8 8 rfl ?_
              refine wpAnyT_take (i := 0) (oi := ⟨some 107, _, _, _, _, _⟩) (v := .pointer (some ⟨lb, 0, none⟩)) rfl (by kernel_rfl) (by kernel_rfl) (by kernel_rfl) (fun _ _ _ h => h) (by kernel_rfl) (Or.inl ⟨rfl, fun w h => by kernel_rfl⟩) (⟨D0.out.2.1, trivial⟩) ?_
              simp only [Act.put, List.setIfInBounds_toArray, List.set_cons_zero, List.set_cons_succ]
              refine wpAnyT_take (i := 1) (oi := ⟨some 108, _, _, _, _, _⟩) (v := .pointer (some ⟨g9, 3, none⟩)) rfl (by kernel_rfl) (by kernel_rfl) (by kernel_rfl) (fun _ _ _ h => h) (by kernel_rfl) (Or.inl ⟨rfl, fun w h => by kernel_rfl⟩) (⟨D0.out.2.1, trivial⟩) ?_
              simp only [Act.put, List.setIfInBounds_toArray, List.set_cons_zero, List.set_cons_succ]
              refine wpAnyT_take (i := 2) (oi := ⟨some 109, _, _, _, _, _⟩) (v := .slice pa pn pc) rfl (by kernel_rfl) (by kernel_rfl) (by kernel_rfl) (fun _ _ _ h => h) (by kernel_rfl) (Or.inl ⟨rfl, fun w h => run_load_one _ _ _ 26 _ _ rfl g9 3 rfl (by rw [(h.1).cell]; rfl) (by kernel_rfl)⟩) (⟨D0.out.2.1, trivial⟩) ?_
              simp only [Act.put, List.setIfInBounds_toArray, List.set_cons_zero, List.set_cons_succ]
              refine wpAnyT_take (i := 3) (oi := ⟨some 110, _, _, _, _, _⟩) (v := .pointer (some ⟨g9, 1, none⟩)) rfl (by kernel_rfl) (by kernel_rfl) (by kernel_rfl) (fun _ _ _ h => h) (by kernel_rfl) (Or.inl ⟨rfl, fun w h => by kernel_rfl⟩) (⟨D0.out.2.1, trivial⟩) ?_
              simp only [Act.put, List.setIfInBounds_toArray, List.set_cons_zero, List.set_cons_succ]
              refine wpAnyT_take (i := 4) (oi := ⟨some 111, _, _, _, _, _⟩) (v := .int .u8 X) rfl (by kernel_rfl) (by kernel_rfl) (by kernel_rfl) (fun _ _ _ h => h) (by kernel_rfl) (Or.inl ⟨rfl, fun w h => run_load_one _ _ _ 5 _ _ rfl g9 1 rfl (by rw [(h.1).cell]; rfl) (by kernel_rfl)⟩) (⟨D0.out.2.1, trivial⟩) ?_
              simp only [Act.put, List.setIfInBounds_toArray, List.set_cons_zero, List.set_cons_succ]
              refine wpAnyT_one (i := 5) (by kernel_rfl) ?_
              refine op_call (o := ⟨some 112, _, _, _, _, _⟩) 12 #[.int .u8 X] rfl rfl (by kernel_rfl) ((notef_any X6.drew X).mono fun e Y1 h => ?_)
              have bb := h.2
              have D1 : Hid (PI w Y1 b gs gm n rm lb s nt bs va vc dc fz S ∧ Blk Y1 g9 52 (opV q X I pa pn pc).toArray ∧ Blk Y1 g10 42 (stV s nt (.slice ua bs.length uc)).toArray ∧ Own Y1 (g9 + 1) (.slice ua bs.length uc) bs) := Lib.hid ⟨D0.out.1.below bb, D0.out.2.1.below bb, D0.out.2.2.1.below bb, D0.out.2.2.2.below bb⟩
              refine ⟨.agg (u8l (List.replicate 16 X)).toArray, h.1, fun _ => ⟨D1.out.2.1, trivial⟩, ?_⟩
              simp only [Act.put, List.setIfInBounds_toArray, List.set_cons_zero, List.set_cons_succ]
              clear h bb
              refine wpAnyT_one (i := 6) (by kernel_rfl) ?_
              refine op_call (o := ⟨some 113, _, _, _, _, _⟩) 11 #[.pointer (some ⟨lb, 0, none⟩), .slice pa pn pc, .agg (u8l (List.replicate 16 X)).toArray] rfl rfl (by kernel_rfl) ((app_px D1.out.1 HS.out pa pn pc ys HY.out (List.replicate 16 X) (nt_ok X (by have := QB.out; omega)) HF.out).mono fun e Y2 h => ?_)
              obtain ⟨he, va2, vc2, dc2, fz2, S2, hp, fl⟩ := h
              have D2 : Hid (PI w Y2 b gs gm n rm lb (s + 1) (List.replicate 16 X) (bs ++ ys) va2 vc2 dc2 fz2 S2 ∧ Blk Y2 g9 52 (opV q X I pa pn pc).toArray ∧ Blk Y2 g10 42 (stV s nt (.slice ua bs.length uc)).toArray ∧ Own Y2 (g9 + 1) (.slice ua bs.length uc) bs) := Lib.hid ⟨hp, fl.blk D1.out.2.1 (fun z => by have t1 := NUM.out.1 g9 z; omega), fl.blk D1.out.2.2.1 (fun z => by have t1 := NUM.out.1 g10 z; have t2 := NUM.out.2.1; omega), fl.own D1.out.2.2.2 (fun k hk z => by have t1 := NUM.out.1 k z; have t2 := NUM.out.2.2.1 k hk; omega)⟩
              clear hp fl
              refine ⟨.int .i64 0, he, fun _ => ⟨D2.out.2.1, trivial⟩, ?_⟩
              simp only [Act.put, List.setIfInBounds_toArray, List.set_cons_zero, List.set_cons_succ]
              clear he
              refine wpAnyT_take (i := 7) (oi := ⟨some 12, _, _, _, _, _⟩) (v := .int .i64 0) rfl (by kernel_rfl) (by kernel_rfl) (by kernel_rfl) (fun _ _ _ h => h) (by kernel_rfl) (Or.inl ⟨rfl, fun w h => by kernel_rfl⟩) (⟨D2.out.2.1, trivial⟩) ?_
              simp only [Act.put, List.setIfInBounds_toArray, List.set_cons_zero, List.set_cons_succ]
              refine wpAnyT_done (by kernel_rfl) ?_ _
              go_upto_region 25 with (fail)
              refine wp_region_lit ?_
              refine wpL_pure (.pointer (some ⟨g9, 3, none⟩)) rfl (by kernel_rfl) ?_
              simp only [Act.put, List.setIfInBounds_toArray, List.set_cons_zero, List.set_cons_succ]
              refine wpL_pure (.slice pa pn pc) rfl (run_load_one _ _ _ 26 _ _ rfl (g9) (3) rfl (by rw [D2.out.2.1.cell]; rfl) (by kernel_rfl)) ?_
              simp only [Act.put, List.setIfInBounds_toArray, List.set_cons_zero, List.set_cons_succ]
              refine wpL_pure (.int .i64 (pn : Int)) rfl (by kernel_rfl) ?_
              simp only [Act.put, List.setIfInBounds_toArray, List.set_cons_zero, List.set_cons_succ]
              refine wpL_pure (.int .i64 ((rm : Int) * 64 - (bs.length : Int))) rfl (by kernel_rfl) ?_
              simp only [Act.put, List.setIfInBounds_toArray, List.set_cons_zero, List.set_cons_succ]
              refine wpL_pure (.bool false) rfl (run_gti Try.underlying3 rfl rfl rfl (by have := HF.out; rw [decide_eq_false_iff_not]; omega)) ?_
              simp only [Act.put, List.setIfInBounds_toArray, List.set_cons_zero, List.set_cons_succ]
              have E0 : Hid ((PI w Y2.drew b gs gm n rm lb (s + 1) (List.replicate 16 X) (bs ++ ys) va2 vc2 dc2 fz2 S2 ∧ Blk Y2.drew g9 52 (opV q X I pa pn pc).toArray ∧ Blk Y2.drew g10 42 (stV s nt (.slice ua bs.length uc)).toArray ∧ Own Y2.drew (g9 + 1) (.slice ua bs.length uc) bs) ∧ Sl Y2.drew pa pn pc ys) := Lib.hid (by have bb : Below Y2.heap.size Y2 Y2.drew := (Below.refl _ Y2).drew; exact ⟨⟨D2.out.1.below bb, D2.out.2.1.below bb, D2.out.2.2.1.below bb, D2.out.2.2.2.below bb⟩, HY.out.below' (D2.out.1.1.drew)⟩)
              have YL : Hid (ys.length = pn) := Lib.hid HY.out.1.1
              obtain ⟨Wz, hWz⟩ : ∃ V, Y2.drew = V := ⟨_, rfl⟩
              go_upto_region 28 with (fail)
              apply wp_via6 (F := fun (_ : Nat) (_ : Option Addr) (_ : Nat) (a2 : Option Addr) (c2 g2 : Nat) (W : World) => Below Wz.heap.size Wz W ∧ Blk W g2 42 (stV (s + 1) (List.replicate 16 X) (.slice a2 (bs ++ ys).length c2)).toArray ∧ Own W Wz.heap.size (.slice a2 (bs ++ ys).length c2) (bs ++ ys) ∧ Wz.heap.size ≤ g2)
              case h =>
                have E1 : Hid (((PI w Wz b gs gm n rm lb (s + 1) (List.replicate 16 X) (bs ++ ys) va2 vc2 dc2 fz2 S2 ∧ Blk Wz g9 52 (opV q X I pa pn pc).toArray ∧ Blk Wz g10 42 (stV s nt (.slice ua bs.length uc)).toArray ∧ Own Wz (g9 + 1) (.slice ua bs.length uc) bs) ∧ Sl Wz pa pn pc ys)) := Lib.hid (by rw [← hWz]; exact E0.out)
                have BW := Lib.hid (Below.refl Wz.heap.size Wz)
                refine region_anyT (fun Y => Below Wz.heap.size Wz Y) (by kernel_rfl) 16 16 rfl ?_
                rw [hWz]
                refine wpAnyT_take (i := 0) (oi := ⟨some 128, _, _, _, _, _⟩) (v := .pointer (some ⟨g10, 0, none⟩)) rfl (by kernel_rfl) (by kernel_rfl) (by kernel_rfl) (fun _ _ _ h => nomatch h.1) (by kernel_rfl) (Or.inl ⟨rfl, fun w h => by kernel_rfl⟩) (BW.out) ?_
                simp only [Act.put, List.setIfInBounds_toArray, List.set_cons_zero, List.set_cons_succ]
                refine wpAnyT_take (i := 1) (oi := ⟨some 129, _, _, _, _, _⟩) (v := .int .u64 ((s : Nat) : Int)) rfl (by kernel_rfl) (by kernel_rfl) (by kernel_rfl) (fun _ _ _ h => nomatch h.1) (by kernel_rfl) (Or.inl ⟨rfl, fun w h => run_load_one _ _ _ 35 _ _ rfl g10 0 rfl (by rw [(E1.out.1.2.2.1.below h).cell]; rfl) (by kernel_rfl)⟩) (BW.out) ?_
                simp only [Act.put, List.setIfInBounds_toArray, List.set_cons_zero, List.set_cons_succ]
                refine wpAnyT_take (i := 2) (oi := ⟨some 130, _, _, _, _, _⟩) (v := .int .u64 ((s + 1 : Nat) : Int)) rfl (by kernel_rfl) (by kernel_rfl) (by kernel_rfl) (fun _ _ _ h => nomatch h.1) (by kernel_rfl) (Or.inl ⟨rfl, fun w h => run_addi Try.underlying35 rfl rfl rfl _ (by have := HS.out; rw [IntKind.wrap_u64]; omega)⟩) (BW.out) ?_
                simp only [Act.put, List.setIfInBounds_toArray, List.set_cons_zero, List.set_cons_succ]
                refine wpAnyT_take (i := 3) (oi := ⟨some 131, _, _, _, _, _⟩) (v := .pointer (some ⟨g9, 1, none⟩)) rfl (by kernel_rfl) (by kernel_rfl) (by kernel_rfl) (fun _ _ _ h => nomatch h.1) (by kernel_rfl) (Or.inl ⟨rfl, fun w h => by kernel_rfl⟩) (BW.out) ?_
                simp only [Act.put, List.setIfInBounds_toArray, List.set_cons_zero, List.set_cons_succ]
                refine wpAnyT_take (i := 4) (oi := ⟨some 132, _, _, _, _, _⟩) (v := .int .u8 X) rfl (by kernel_rfl) (by kernel_rfl) (by kernel_rfl) (fun _ _ _ h => nomatch h.1) (by kernel_rfl) (Or.inl ⟨rfl, fun w h => run_load_one _ _ _ 5 _ _ rfl g9 1 rfl (by rw [(E1.out.1.2.1.below h).cell]; rfl) (by kernel_rfl)⟩) (BW.out) ?_
                simp only [Act.put, List.setIfInBounds_toArray, List.set_cons_zero, List.set_cons_succ]
                refine wpAnyT_take (i := 7) (oi := ⟨some 135, _, _, _, _, _⟩) (v := .pointer (some ⟨g10, 17, none⟩)) rfl (by kernel_rfl) (by kernel_rfl) (by kernel_rfl) (fun _ _ _ h => nomatch h.1) (by kernel_rfl) (Or.inl ⟨rfl, fun w h => by kernel_rfl⟩) (BW.out) ?_
                simp only [Act.put, List.setIfInBounds_toArray, List.set_cons_zero, List.set_cons_succ]
                refine wpAnyT_take (i := 8) (oi := ⟨some 136, _, _, _, _, _⟩) (v := .slice ua bs.length uc) rfl (by kernel_rfl) (by kernel_rfl) (by kernel_rfl) (fun _ _ _ h => nomatch h.1) (by kernel_rfl) (Or.inl ⟨rfl, fun w h => run_load_one _ _ _ 26 _ _ rfl g10 17 rfl (st_last (E1.out.1.2.2.1.below h) NT.out) (by kernel_rfl)⟩) (BW.out) ?_
                simp only [Act.put, List.setIfInBounds_toArray, List.set_cons_zero, List.set_cons_succ]
                refine wpAnyT_take (i := 10) (oi := ⟨some 138, _, _, _, _, _⟩) (v := .pointer (some ⟨g9, 3, none⟩)) rfl (by kernel_rfl) (by kernel_rfl) (by kernel_rfl) (fun _ _ _ h => nomatch h.1) (by kernel_rfl) (Or.inl ⟨rfl, fun w h => by kernel_rfl⟩) (BW.out) ?_
                simp only [Act.put, List.setIfInBounds_toArray, List.set_cons_zero, List.set_cons_succ]
                refine wpAnyT_take (i := 11) (oi := ⟨some 139, _, _, _, _, _⟩) (v := .slice pa pn pc) rfl (by kernel_rfl) (by kernel_rfl) (by kernel_rfl) (fun _ _ _ h => nomatch h.1) (by kernel_rfl) (Or.inl ⟨rfl, fun w h => run_load_one _ _ _ 26 _ _ rfl g9 3 rfl (by rw [(E1.out.1.2.1.below h).cell]; rfl) (by kernel_rfl)⟩) (BW.out) ?_
                simp only [Act.put, List.setIfInBounds_toArray, List.set_cons_zero, List.set_cons_succ]
                refine wpAnyT_all (rs := [5, 6, 14]) (by kernel_rfl) (by simp) ?_
                intro i hi
                simp only [List.mem_cons, List.not_mem_nil, or_false] at hi
                rcases hi with rfl | rfl | rfl
                · refine op_call (o := ⟨some 133, _, _, _, _, _⟩) 12 #[.int .u8 X] rfl rfl (by kernel_rfl) ((notef_any Wz X).mono fun e A1 h => ?_)
                  have bb := h.2
                  have G1 := Lib.hid (show Below Wz.heap.size Wz A1 from (BW.out).trans (bb.mono (BW.out).size))
                  refine ⟨.agg (u8l (List.replicate 16 X)).toArray, h.1, fun _ => G1.out, ?_⟩
                  simp only [Act.put, List.setIfInBounds_toArray, List.set_cons_zero, List.set_cons_succ]
                  clear h bb
                  refine wpAnyT_all (rs := [6, 14]) (by kernel_rfl) (by simp) ?_
                  intro i hi
                  simp only [List.mem_cons, List.not_mem_nil, or_false] at hi
                  rcases hi with rfl | rfl
                  · obtain ⟨A2, hA2⟩ : ∃ V, V = A1.alloc (.cells #[] 5) := ⟨_, rfl⟩
                    obtain ⟨gA2, kA2⟩ : ∃ t, A1.heap.size = t := ⟨_, rfl⟩
                    have bb : Below A1.heap.size A1 A2 := by rw [hA2]; exact (Below.refl _ _).alloc (Nat.le_refl _) _
                    have G2 := Lib.hid (show Below Wz.heap.size Wz A2 ∧ Own A2 Wz.heap.size (.slice (some ⟨gA2, 0, none⟩) 0 0) ([] : List Int) from ⟨(G1.out).trans (bb.mono (G1.out).size), (by rw [hA2, ← kA2]; exact own_new0 A1 _ (G1.out).size)⟩)
                    refine op_valw (o := ⟨some 134, _, _, _, _, _⟩) (.slice (some ⟨gA2, 0, none⟩) 0 0) A2 rfl rfl (by rw [hA2, ← kA2]; kernel_rfl) ⟨fun _ => G2.out.1, ?_⟩
                    simp only [Act.put, List.setIfInBounds_toArray, List.set_cons_zero, List.set_cons_succ]
                    clear hA2 kA2 bb
                    refine wpAnyT_all (rs := [9, 14]) (by kernel_rfl) (by simp) ?_
                    intro i hi
                    simp only [List.mem_cons, List.not_mem_nil, or_false] at hi
                    rcases hi with rfl | rfl
                    · obtain ⟨v3, A3, r1, r2, r3, r4, r5⟩ := append_own A2 Wz.heap.size (.slice (some ⟨gA2, 0, none⟩) 0 0) (([] : List Int)) bs ua bs.length uc G2.out.2 ((fit_own E1.out.1.2.2.2).keep (G2.out.1)) (by have := HF.out; have := XR.out; (try simp only [List.length_nil]); omega) (G2.out.1).size
                      have R1 := Lib.hid r1
                      obtain ⟨xa3, xc3, e4⟩ := r2.slice
                      rw [List.nil_append] at r2 e4
                      subst e4
                      have G3 := Lib.hid (show Below Wz.heap.size Wz A3 ∧ Own A3 Wz.heap.size (.slice xa3 bs.length xc3) bs from ⟨(G2.out.1).grown r3 (G2.out.1).size (fun j hj => (G2.out.2.lt j hj).1), r2⟩)
                      clear r1 r2 r3 r4 r5
                      refine op_valw (o := ⟨some 137, _, _, _, _, _⟩) (.slice xa3 bs.length xc3) A3 rfl rfl (run_app _ _ _ _ _ _ _ _ _ rfl rfl rfl rfl R1.out) ⟨fun _ => G3.out.1, ?_⟩
                      simp only [Act.put, List.setIfInBounds_toArray, List.set_cons_zero, List.set_cons_succ]
                      clear R1
                      refine wpAnyT_all (rs := [12, 14]) (by kernel_rfl) (by simp) ?_
                      intro i hi
                      simp only [List.mem_cons, List.not_mem_nil, or_false] at hi
                      rcases hi with rfl | rfl
                      · obtain ⟨v4, A4, r1, r2, r3, r4, r5⟩ := append_own A3 Wz.heap.size (.slice xa3 bs.length xc3) (bs) ys pa pn pc G3.out.2 (E1.out.2.1.keep (G3.out.1)) (by have := HF.out; have := XR.out; (try simp only [List.length_nil]); omega) (G3.out.1).size
                        have R1 := Lib.hid r1
                        obtain ⟨xa4, xc4, e4⟩ := r2.slice
                        have e4 : v4 = .slice xa4 (bs ++ ys).length xc4 := e4
                        subst e4
                        have G4 := Lib.hid (show Below Wz.heap.size Wz A4 ∧ Own A4 Wz.heap.size (.slice xa4 (bs ++ ys).length xc4) (bs ++ ys) from ⟨(G3.out.1).grown r3 (G3.out.1).size (fun j hj => (G3.out.2.lt j hj).1), r2⟩)
                        clear r1 r2 r3 r4 r5
                        refine op_valw (o := ⟨some 140, _, _, _, _, _⟩) (.slice xa4 (bs ++ ys).length xc4) A4 rfl rfl (run_app _ _ _ _ _ _ _ _ _ rfl rfl rfl rfl R1.out) ⟨fun _ => G4.out.1, ?_⟩
                        simp only [Act.put, List.setIfInBounds_toArray, List.set_cons_zero, List.set_cons_succ]
                        clear R1
                        refine wpAnyT_take (i := 13) (oi := ⟨some 141, _, _, _, _, _⟩) (v := (.agg (stV (s + 1) (List.replicate 16 X) (.slice xa4 (bs ++ ys).length xc4)).toArray)) rfl (by kernel_rfl) (by kernel_rfl) (by kernel_rfl) (fun _ _ _ h => nomatch h.1) (by kernel_rfl) (Or.inl ⟨rfl, fun w h => run_build42 _ _ _ _ _ _ _ _ _ _ _ (by simp) rfl rfl rfl rfl⟩) (G4.out.1) ?_
                        simp only [Act.put, List.setIfInBounds_toArray, List.set_cons_zero, List.set_cons_succ]
                        refine wpAnyT_one (i := 14) (by kernel_rfl) ?_
                        obtain ⟨A5, hA5⟩ : ∃ V, V = A4.alloc (.cells (stV 0 (List.replicate 16 0) (.slice none 0 0)).toArray 42) := ⟨_, rfl⟩
                        obtain ⟨gA5, kA5⟩ : ∃ t, A4.heap.size = t := ⟨_, rfl⟩
                        have bb : Below A4.heap.size A4 A5 := by rw [hA5]; exact (Below.refl _ _).alloc (Nat.le_refl _) _
                        have G5 := Lib.hid (show Below Wz.heap.size Wz A5 ∧ Own A5 Wz.heap.size (.slice xa4 (bs ++ ys).length xc4) (bs ++ ys) ∧ (Blk A5 gA5 42 (stV 0 (List.replicate 16 0) (.slice none 0 0)).toArray ∧ Wz.heap.size ≤ gA5) from ⟨(G4.out.1).trans (bb.mono (G4.out.1).size), G4.out.2.below bb, ⟨by rw [hA5, ← kA5]; exact Blk.new _ _ _, (by have := (G4.out.1).size; omega)⟩⟩)
                        refine op_valw (o := ⟨some 13, _, _, _, _, _⟩) (.pointer (some ⟨gA5, 0, none⟩)) A5 rfl rfl (by rw [hA5, ← kA5]; kernel_rfl) ⟨fun _ => G5.out.1, ?_⟩
                        simp only [Act.put, List.setIfInBounds_toArray, List.set_cons_zero, List.set_cons_succ]
                        clear hA5 kA5 bb
                        refine wpAnyT_one (i := 15) (by kernel_rfl) ?_
                        have NTZ := Lib.hid (nt_ok X (by have := QB.out; omega))
                        have nq := own_ne42 G5.out.2.1 G5.out.2.2.1
                        obtain ⟨W9, hW9⟩ : ∃ V, V = A5.setRow gA5 (stV (s + 1) (List.replicate 16 X) (.slice xa4 (bs ++ ys).length xc4)).toArray := ⟨_, rfl⟩
                        have Q0 : Hid (Below Wz.heap.size Wz W9 ∧ Blk W9 gA5 42 (stV (s + 1) (List.replicate 16 X) (.slice xa4 (bs ++ ys).length xc4)).toArray ∧ Own W9 Wz.heap.size (.slice xa4 (bs ++ ys).length xc4) (bs ++ ys) ∧ Wz.heap.size ≤ gA5) := Lib.hid (by rw [hW9]; exact ⟨below_setRow (G5.out.1) G5.out.2.2.2 _, setRow_heap _ _ _ _ _ _ G5.out.2.2.1, G5.out.2.1.grown (row_gb A5 gA5 _) (.inr nq), G5.out.2.2.2⟩)
                        refine op_skip (o := ⟨none, _, _, _, _, _⟩) W9 rfl rfl (by rw [hW9]; exact run_store_row _ _ _ 42 _ _ rfl gA5 (stV (s + 1) (List.replicate 16 X) (.slice xa4 (bs ++ ys).length xc4)).toArray rfl rfl 42 _ G5.out.2.2.1 (by simp only [List.size_toArray, st_len NTZ.out] <;> kernel_rfl) (by simp only [List.size_toArray, st_len NTZ.out] <;> rfl) (st_one _ _ _ _ _)) ?_
                        refine ⟨fun _ => Q0.out.1, ?_⟩
                        simp only [Act.put, List.setIfInBounds_toArray, List.set_cons_zero, List.set_cons_succ]
                        clear hW9 nq
                        refine wpAnyT_done (by kernel_rfl) ?_ _
                        exact ⟨rfl, gA2, xa3, xc3, xa4, xc4, gA5, rfl, Q0.out⟩
                      · obtain ⟨A6, hA6⟩ : ∃ V, V = A3.alloc (.cells (stV 0 (List.replicate 16 0) (.slice none 0 0)).toArray 42) := ⟨_, rfl⟩
                        obtain ⟨gA6, kA6⟩ : ∃ t, A3.heap.size = t := ⟨_, rfl⟩
                        have bb : Below A3.heap.size A3 A6 := by rw [hA6]; exact (Below.refl _ _).alloc (Nat.le_refl _) _
                        have G6 := Lib.hid (show Below Wz.heap.size Wz A6 ∧ Own A6 Wz.heap.size (.slice xa3 bs.length xc3) bs ∧ (Blk A6 gA6 42 (stV 0 (List.replicate 16 0) (.slice none 0 0)).toArray ∧ Wz.heap.size ≤ gA6) from ⟨(G3.out.1).trans (bb.mono (G3.out.1).size), G3.out.2.below bb, ⟨by rw [hA6, ← kA6]; exact Blk.new _ _ _, (by have := (G3.out.1).size; omega)⟩⟩)
                        refine op_valw (o := ⟨some 13, _, _, _, _, _⟩) (.pointer (some ⟨gA6, 0, none⟩)) A6 rfl rfl (by rw [hA6, ← kA6]; kernel_rfl) ⟨fun _ => G6.out.1, ?_⟩
                        simp only [Act.put, List.setIfInBounds_toArray, List.set_cons_zero, List.set_cons_succ]
                        clear hA6 kA6 bb
                        refine wpAnyT_one (i := 12) (by kernel_rfl) ?_
                        obtain ⟨v7, A7, r1, r2, r3, r4, r5⟩ := append_own A6 Wz.heap.size (.slice xa3 bs.length xc3) (bs) ys pa pn pc G6.out.2.1 (E1.out.2.1.keep (G6.out.1)) (by have := HF.out; have := XR.out; (try simp only [List.length_nil]); omega) (G6.out.1).size
                        have R1 := Lib.hid r1
                        obtain ⟨xa7, xc7, e4⟩ := r2.slice
                        have e4 : v7 = .slice xa7 (bs ++ ys).length xc7 := e4
                        subst e4
                        have G7 := Lib.hid (show Below Wz.heap.size Wz A7 ∧ Own A7 Wz.heap.size (.slice xa7 (bs ++ ys).length xc7) (bs ++ ys) ∧ (Blk A7 gA6 42 (stV 0 (List.replicate 16 0) (.slice none 0 0)).toArray ∧ Wz.heap.size ≤ gA6) from ⟨(G6.out.1).grown r3 (G6.out.1).size (fun j hj => (G6.out.2.1.lt j hj).1), r2, ⟨G6.out.2.2.1.grown r3 (fun e => own_ne42 G6.out.2.1 G6.out.2.2.1 e.symm), G6.out.2.2.2⟩⟩)
                        clear r1 r2 r3 r4 r5
                        refine op_valw (o := ⟨some 140, _, _, _, _, _⟩) (.slice xa7 (bs ++ ys).length xc7) A7 rfl rfl (run_app _ _ _ _ _ _ _ _ _ rfl rfl rfl rfl R1.out) ⟨fun _ => G7.out.1, ?_⟩
                        simp only [Act.put, List.setIfInBounds_toArray, List.set_cons_zero, List.set_cons_succ]
                        clear R1
                        refine wpAnyT_take (i := 13) (oi := ⟨some 141, _, _, _, _, _⟩) (v := (.agg (stV (s + 1) (List.replicate 16 X) (.slice xa7 (bs ++ ys).length xc7)).toArray)) rfl (by kernel_rfl) (by kernel_rfl) (by kernel_rfl) (fun _ _ _ h => nomatch h.1) (by kernel_rfl) (Or.inl ⟨rfl, fun w h => run_build42 _ _ _ _ _ _ _ _ _ _ _ (by simp) rfl rfl rfl rfl⟩) (G7.out.1) ?_
                        simp only [Act.put, List.setIfInBounds_toArray, List.set_cons_zero, List.set_cons_succ]
                        refine wpAnyT_one (i := 15) (by kernel_rfl) ?_
                        have NTZ := Lib.hid (nt_ok X (by have := QB.out; omega))
                        have nq := own_ne42 G7.out.2.1 G7.out.2.2.1
                        obtain ⟨W9, hW9⟩ : ∃ V, V = A7.setRow gA6 (stV (s + 1) (List.replicate 16 X) (.slice xa7 (bs ++ ys).length xc7)).toArray := ⟨_, rfl⟩
                        have Q0 : Hid (Below Wz.heap.size Wz W9 ∧ Blk W9 gA6 42 (stV (s + 1) (List.replicate 16 X) (.slice xa7 (bs ++ ys).length xc7)).toArray ∧ Own W9 Wz.heap.size (.slice xa7 (bs ++ ys).length xc7) (bs ++ ys) ∧ Wz.heap.size ≤ gA6) := Lib.hid (by rw [hW9]; exact ⟨below_setRow (G7.out.1) G7.out.2.2.2 _, setRow_heap _ _ _ _ _ _ G7.out.2.2.1, G7.out.2.1.grown (row_gb A7 gA6 _) (.inr nq), G7.out.2.2.2⟩)
                        refine op_skip (o := ⟨none, _, _, _, _, _⟩) W9 rfl rfl (by rw [hW9]; exact run_store_row _ _ _ 42 _ _ rfl gA6 (stV (s + 1) (List.replicate 16 X) (.slice xa7 (bs ++ ys).length xc7)).toArray rfl rfl 42 _ G7.out.2.2.1 (by simp only [List.size_toArray, st_len NTZ.out] <;> kernel_rfl) (by simp only [List.size_toArray, st_len NTZ.out] <;> rfl) (st_one _ _ _ _ _)) ?_
                        refine ⟨fun _ => Q0.out.1, ?_⟩
                        simp only [Act.put, List.setIfInBounds_toArray, List.set_cons_zero, List.set_cons_succ]
                        clear hW9 nq
                        refine wpAnyT_done (by kernel_rfl) ?_ _
                        exact ⟨rfl, gA2, xa3, xc3, xa7, xc7, gA6, rfl, Q0.out⟩
                    · obtain ⟨A8, hA8⟩ : ∃ V, V = A2.alloc (.cells (stV 0 (List.replicate 16 0) (.slice none 0 0)).toArray 42) := ⟨_, rfl⟩
                      obtain ⟨gA8, kA8⟩ : ∃ t, A2.heap.size = t := ⟨_, rfl⟩
                      have bb : Below A2.heap.size A2 A8 := by rw [hA8]; exact (Below.refl _ _).alloc (Nat.le_refl _) _
                      have G8 := Lib.hid (show Below Wz.heap.size Wz A8 ∧ Own A8 Wz.heap.size (.slice (some ⟨gA2, 0, none⟩) 0 0) ([] : List Int) ∧ (Blk A8 gA8 42 (stV 0 (List.replicate 16 0) (.slice none 0 0)).toArray ∧ Wz.heap.size ≤ gA8) from ⟨(G2.out.1).trans (bb.mono (G2.out.1).size), G2.out.2.below bb, ⟨by rw [hA8, ← kA8]; exact Blk.new _ _ _, (by have := (G2.out.1).size; omega)⟩⟩)
                      refine op_valw (o := ⟨some 13, _, _, _, _, _⟩) (.pointer (some ⟨gA8, 0, none⟩)) A8 rfl rfl (by rw [hA8, ← kA8]; kernel_rfl) ⟨fun _ => G8.out.1, ?_⟩
                      simp only [Act.put, List.setIfInBounds_toArray, List.set_cons_zero, List.set_cons_succ]
                      clear hA8 kA8 bb
                      refine wpAnyT_one (i := 9) (by kernel_rfl) ?_
                      obtain ⟨v9, A9, r1, r2, r3, r4, r5⟩ := append_own A8 Wz.heap.size (.slice (some ⟨gA2, 0, none⟩) 0 0) (([] : List Int)) bs ua bs.length uc G8.out.2.1 ((fit_own E1.out.1.2.2.2).keep (G8.out.1)) (by have := HF.out; have := XR.out; (try simp only [List.length_nil]); omega) (G8.out.1).size
                      have R1 := Lib.hid r1
                      obtain ⟨xa9, xc9, e4⟩ := r2.slice
                      rw [List.nil_append] at r2 e4
                      subst e4
                      have G9 := Lib.hid (show Below Wz.heap.size Wz A9 ∧ Own A9 Wz.heap.size (.slice xa9 bs.length xc9) bs ∧ (Blk A9 gA8 42 (stV 0 (List.replicate 16 0) (.slice none 0 0)).toArray ∧ Wz.heap.size ≤ gA8) from ⟨(G8.out.1).grown r3 (G8.out.1).size (fun j hj => (G8.out.2.1.lt j hj).1), r2, ⟨G8.out.2.2.1.grown r3 (fun e => own_ne42 G8.out.2.1 G8.out.2.2.1 e.symm), G8.out.2.2.2⟩⟩)
                      clear r1 r2 r3 r4 r5
                      refine op_valw (o := ⟨some 137, _, _, _, _, _⟩) (.slice xa9 bs.length xc9) A9 rfl rfl (run_app _ _ _ _ _ _ _ _ _ rfl rfl rfl rfl R1.out) ⟨fun _ => G9.out.1, ?_⟩
                      simp only [Act.put, List.setIfInBounds_toArray, List.set_cons_zero, List.set_cons_succ]
                      clear R1
                      refine wpAnyT_one (i := 12) (by kernel_rfl) ?_
                      obtain ⟨v10, A10, r1, r2, r3, r4, r5⟩ := append_own A9 Wz.heap.size (.slice xa9 bs.length xc9) (bs) ys pa pn pc G9.out.2.1 (E1.out.2.1.keep (G9.out.1)) (by have := HF.out; have := XR.out; (try simp only [List.length_nil]); omega) (G9.out.1).size
                      have R1 := Lib.hid r1
                      obtain ⟨xa10, xc10, e4⟩ := r2.slice
                      have e4 : v10 = .slice xa10 (bs ++ ys).length xc10 := e4
                      subst e4
                      have G10 := Lib.hid (show Below Wz.heap.size Wz A10 ∧ Own A10 Wz.heap.size (.slice xa10 (bs ++ ys).length xc10) (bs ++ ys) ∧ (Blk A10 gA8 42 (stV 0 (List.replicate 16 0) (.slice none 0 0)).toArray ∧ Wz.heap.size ≤ gA8) from ⟨(G9.out.1).grown r3 (G9.out.1).size (fun j hj => (G9.out.2.1.lt j hj).1), r2, ⟨G9.out.2.2.1.grown r3 (fun e => own_ne42 G9.out.2.1 G9.out.2.2.1 e.symm), G9.out.2.2.2⟩⟩)
                      clear r1 r2 r3 r4 r5
                      refine op_valw (o := ⟨some 140, _, _, _, _, _⟩) (.slice xa10 (bs ++ ys).length xc10) A10 rfl rfl (run_app _ _ _ _ _ _ _ _ _ rfl rfl rfl rfl R1.out) ⟨fun _ => G10.out.1, ?_⟩
                      simp only [Act.put, List.setIfInBounds_toArray, List.set_cons_zero, List.set_cons_succ]
                      clear R1
                      refine wpAnyT_take (i := 13) (oi := ⟨some 141, _, _, _, _, _⟩) (v := (.agg (stV (s + 1) (List.replicate 16 X) (.slice xa10 (bs ++ ys).length xc10)).toArray)) rfl (by kernel_rfl) (by kernel_rfl) (by kernel_rfl) (fun _ _ _ h => nomatch h.1) (by kernel_rfl) (Or.inl ⟨rfl, fun w h => run_build42 _ _ _ _ _ _ _ _ _ _ _ (by simp) rfl rfl rfl rfl⟩) (G10.out.1) ?_
                      simp only [Act.put, List.setIfInBounds_toArray, List.set_cons_zero, List.set_cons_succ]
                      refine wpAnyT_one (i := 15) (by kernel_rfl) ?_
                      have NTZ := Lib.hid (nt_ok X (by have := QB.out; omega))
                      have nq := own_ne42 G10.out.2.1 G10.out.2.2.1
                      obtain ⟨W9, hW9⟩ : ∃ V, V = A10.setRow gA8 (stV (s + 1) (List.replicate 16 X) (.slice xa10 (bs ++ ys).length xc10)).toArray := ⟨_, rfl⟩
                      have Q0 : Hid (Below Wz.heap.size Wz W9 ∧ Blk W9 gA8 42 (stV (s + 1) (List.replicate 16 X) (.slice xa10 (bs ++ ys).length xc10)).toArray ∧ Own W9 Wz.heap.size (.slice xa10 (bs ++ ys).length xc10) (bs ++ ys) ∧ Wz.heap.size ≤ gA8) := Lib.hid (by rw [hW9]; exact ⟨below_setRow (G10.out.1) G10.out.2.2.2 _, setRow_heap _ _ _ _ _ _ G10.out.2.2.1, G10.out.2.1.grown (row_gb A10 gA8 _) (.inr nq), G10.out.2.2.2⟩)
                      refine op_skip (o := ⟨none, _, _, _, _, _⟩) W9 rfl rfl (by rw [hW9]; exact run_store_row _ _ _ 42 _ _ rfl gA8 (stV (s + 1) (List.replicate 16 X) (.slice xa10 (bs ++ ys).length xc10)).toArray rfl rfl 42 _ G10.out.2.2.1 (by simp only [List.size_toArray, st_len NTZ.out] <;> kernel_rfl) (by simp only [List.size_toArray, st_len NTZ.out] <;> rfl) (st_one _ _ _ _ _)) ?_
                      refine ⟨fun _ => Q0.out.1, ?_⟩
                      simp only [Act.put, List.setIfInBounds_toArray, List.set_cons_zero, List.set_cons_succ]
                      clear hW9 nq
                      refine wpAnyT_done (by kernel_rfl) ?_ _
                      exact ⟨rfl, gA2, xa9, xc9, xa10, xc10, gA8, rfl, Q0.out⟩
                  · obtain ⟨A11, hA11⟩ : ∃ V, V = A1.alloc (.cells (stV 0 (List.replicate 16 0) (.slice none 0 0)).toArray 42) := ⟨_, rfl⟩
                    obtain ⟨gA11, kA11⟩ : ∃ t, A1.heap.size = t := ⟨_, rfl⟩
                    have bb : Below A1.heap.size A1 A11 := by rw [hA11]; exact (Below.refl _ _).alloc (Nat.le_refl _) _
                    have G11 := Lib.hid (show Below Wz.heap.size Wz A11 ∧ (Blk A11 gA11 42 (stV 0 (List.replicate 16 0) (.slice none 0 0)).toArray ∧ Wz.heap.size ≤ gA11) from ⟨(G1.out).trans (bb.mono (G1.out).size), ⟨by rw [hA11, ← kA11]; exact Blk.new _ _ _, (by have := (G1.out).size; omega)⟩⟩)
                    refine op_valw (o := ⟨some 13, _, _, _, _, _⟩) (.pointer (some ⟨gA11, 0, none⟩)) A11 rfl rfl (by rw [hA11, ← kA11]; kernel_rfl) ⟨fun _ => G11.out.1, ?_⟩
                    simp only [Act.put, List.setIfInBounds_toArray, List.set_cons_zero, List.set_cons_succ]
                    clear hA11 kA11 bb
                    refine wpAnyT_one (i := 6) (by kernel_rfl) ?_
                    obtain ⟨A12, hA12⟩ : ∃ V, V = A11.alloc (.cells #[] 5) := ⟨_, rfl⟩
                    obtain ⟨gA12, kA12⟩ : ∃ t, A11.heap.size = t := ⟨_, rfl⟩
                    have bb : Below A11.heap.size A11 A12 := by rw [hA12]; exact (Below.refl _ _).alloc (Nat.le_refl _) _
                    have G12 := Lib.hid (show Below Wz.heap.size Wz A12 ∧ Own A12 Wz.heap.size (.slice (some ⟨gA12, 0, none⟩) 0 0) ([] : List Int) ∧ (Blk A12 gA11 42 (stV 0 (List.replicate 16 0) (.slice none 0 0)).toArray ∧ Wz.heap.size ≤ gA11) from ⟨(G11.out.1).trans (bb.mono (G11.out.1).size), (by rw [hA12, ← kA12]; exact own_new0 A11 _ (G11.out.1).size), ⟨G11.out.2.1.below bb, G11.out.2.2⟩⟩)
                    refine op_valw (o := ⟨some 134, _, _, _, _, _⟩) (.slice (some ⟨gA12, 0, none⟩) 0 0) A12 rfl rfl (by rw [hA12, ← kA12]; kernel_rfl) ⟨fun _ => G12.out.1, ?_⟩
                    simp only [Act.put, List.setIfInBounds_toArray, List.set_cons_zero, List.set_cons_succ]
                    clear hA12 kA12 bb
                    refine wpAnyT_one (i := 9) (by kernel_rfl) ?_
                    obtain ⟨v13, A13, r1, r2, r3, r4, r5⟩ := append_own A12 Wz.heap.size (.slice (some ⟨gA12, 0, none⟩) 0 0) (([] : List Int)) bs ua bs.length uc G12.out.2.1 ((fit_own E1.out.1.2.2.2).keep (G12.out.1)) (by have := HF.out; have := XR.out; (try simp only [List.length_nil]); omega) (G12.out.1).size
                    have R1 := Lib.hid r1
                    obtain ⟨xa13, xc13, e4⟩ := r2.slice
                    rw [List.nil_append] at r2 e4
                    subst e4
                    have G13 := Lib.hid (show Below Wz.heap.size Wz A13 ∧ Own A13 Wz.heap.size (.slice xa13 bs.length xc13) bs ∧ (Blk A13 gA11 42 (stV 0 (List.replicate 16 0) (.slice none 0 0)).toArray ∧ Wz.heap.size ≤ gA11) from ⟨(G12.out.1).grown r3 (G12.out.1).size (fun j hj => (G12.out.2.1.lt j hj).1), r2, ⟨G12.out.2.2.1.grown r3 (fun e => own_ne42 G12.out.2.1 G12.out.2.2.1 e.symm), G12.out.2.2.2⟩⟩)
                    clear r1 r2 r3 r4 r5
                    refine op_valw (o := ⟨some 137, _, _, _, _, _⟩) (.slice xa13 bs.length xc13) A13 rfl rfl (run_app _ _ _ _ _ _ _ _ _ rfl rfl rfl rfl R1.out) ⟨fun _ => G13.out.1, ?_⟩
                    simp only [Act.put, List.setIfInBounds_toArray, List.set_cons_zero, List.set_cons_succ]
                    clear R1
                    refine wpAnyT_one (i := 12) (by kernel_rfl) ?_
                    obtain ⟨v14, A14, r1, r2, r3, r4, r5⟩ := append_own A13 Wz.heap.size (.slice xa13 bs.length xc13) (bs) ys pa pn pc G13.out.2.1 (E1.out.2.1.keep (G13.out.1)) (by have := HF.out; have := XR.out; (try simp only [List.length_nil]); omega) (G13.out.1).size
                    have R1 := Lib.hid r1
                    obtain ⟨xa14, xc14, e4⟩ := r2.slice
                    have e4 : v14 = .slice xa14 (bs ++ ys).length xc14 := e4
                    subst e4
                    have G14 := Lib.hid (show Below Wz.heap.size Wz A14 ∧ Own A14 Wz.heap.size (.slice xa14 (bs ++ ys).length xc14) (bs ++ ys) ∧ (Blk A14 gA11 42 (stV 0 (List.replicate 16 0) (.slice none 0 0)).toArray ∧ Wz.heap.size ≤ gA11) from ⟨(G13.out.1).grown r3 (G13.out.1).size (fun j hj => (G13.out.2.1.lt j hj).1), r2, ⟨G13.out.2.2.1.grown r3 (fun e => own_ne42 G13.out.2.1 G13.out.2.2.1 e.symm), G13.out.2.2.2⟩⟩)
                    clear r1 r2 r3 r4 r5
                    refine op_valw (o := ⟨some 140, _, _, _, _, _⟩) (.slice xa14 (bs ++ ys).length xc14) A14 rfl rfl (run_app _ _ _ _ _ _ _ _ _ rfl rfl rfl rfl R1.out) ⟨fun _ => G14.out.1, ?_⟩
                    simp only [Act.put, List.setIfInBounds_toArray, List.set_cons_zero, List.set_cons_succ]
                    clear R1
                    refine wpAnyT_take (i := 13) (oi := ⟨some 141, _, _, _, _, _⟩) (v := (.agg (stV (s + 1) (List.replicate 16 X) (.slice xa14 (bs ++ ys).length xc14)).toArray)) rfl (by kernel_rfl) (by kernel_rfl) (by kernel_rfl) (fun _ _ _ h => nomatch h.1) (by kernel_rfl) (Or.inl ⟨rfl, fun w h => run_build42 _ _ _ _ _ _ _ _ _ _ _ (by simp) rfl rfl rfl rfl⟩) (G14.out.1) ?_
                    simp only [Act.put, List.setIfInBounds_toArray, List.set_cons_zero, List.set_cons_succ]
                    refine wpAnyT_one (i := 15) (by kernel_rfl) ?_
                    have NTZ := Lib.hid (nt_ok X (by have := QB.out; omega))
                    have nq := own_ne42 G14.out.2.1 G14.out.2.2.1
                    obtain ⟨W9, hW9⟩ : ∃ V, V = A14.setRow gA11 (stV (s + 1) (List.replicate 16 X) (.slice xa14 (bs ++ ys).length xc14)).toArray := ⟨_, rfl⟩
                    have Q0 : Hid (Below Wz.heap.size Wz W9 ∧ Blk W9 gA11 42 (stV (s + 1) (List.replicate 16 X) (.slice xa14 (bs ++ ys).length xc14)).toArray ∧ Own W9 Wz.heap.size (.slice xa14 (bs ++ ys).length xc14) (bs ++ ys) ∧ Wz.heap.size ≤ gA11) := Lib.hid (by rw [hW9]; exact ⟨below_setRow (G14.out.1) G14.out.2.2.2 _, setRow_heap _ _ _ _ _ _ G14.out.2.2.1, G14.out.2.1.grown (row_gb A14 gA11 _) (.inr nq), G14.out.2.2.2⟩)
                    refine op_skip (o := ⟨none, _, _, _, _, _⟩) W9 rfl rfl (by rw [hW9]; exact run_store_row _ _ _ 42 _ _ rfl gA11 (stV (s + 1) (List.replicate 16 X) (.slice xa14 (bs ++ ys).length xc14)).toArray rfl rfl 42 _ G14.out.2.2.1 (by simp only [List.size_toArray, st_len NTZ.out] <;> kernel_rfl) (by simp only [List.size_toArray, st_len NTZ.out] <;> rfl) (st_one _ _ _ _ _)) ?_
                    refine ⟨fun _ => Q0.out.1, ?_⟩
                    simp only [Act.put, List.setIfInBounds_toArray, List.set_cons_zero, List.set_cons_succ]
                    clear hW9 nq
                    refine wpAnyT_done (by kernel_rfl) ?_ _
                    exact ⟨rfl, gA12, xa13, xc13, xa14, xc14, gA11, rfl, Q0.out⟩
                · obtain ⟨A15, hA15⟩ : ∃ V, V = Wz.alloc (.cells #[] 5) := ⟨_, rfl⟩
                  obtain ⟨gA15, kA15⟩ : ∃ t, Wz.heap.size = t := ⟨_, rfl⟩
                  have bb : Below Wz.heap.size Wz A15 := by rw [hA15]; exact (Below.refl _ _).alloc (Nat.le_refl _) _
                  have G15 := Lib.hid (show Below Wz.heap.size Wz A15 ∧ Own A15 Wz.heap.size (.slice (some ⟨gA15, 0, none⟩) 0 0) ([] : List Int) from ⟨(BW.out).trans (bb.mono (BW.out).size), (by rw [hA15, ← kA15]; exact own_new0 Wz _ (BW.out).size)⟩)
                  refine op_valw (o := ⟨some 134, _, _, _, _, _⟩) (.slice (some ⟨gA15, 0, none⟩) 0 0) A15 rfl rfl (by rw [hA15, ← kA15]; kernel_rfl) ⟨fun _ => G15.out.1, ?_⟩
                  simp only [Act.put, List.setIfInBounds_toArray, List.set_cons_zero, List.set_cons_succ]
                  clear hA15 kA15 bb
                  refine wpAnyT_all (rs := [5, 14]) (by kernel_rfl) (by simp) ?_
                  intro i hi
                  simp only [List.mem_cons, List.not_mem_nil, or_false] at hi
                  rcases hi with rfl | rfl
                  · refine op_call (o := ⟨some 133, _, _, _, _, _⟩) 12 #[.int .u8 X] rfl rfl (by kernel_rfl) ((notef_any A15 X).mono fun e A16 h => ?_)
                    have bb := h.2
                    have G16 := Lib.hid (show Below Wz.heap.size Wz A16 ∧ Own A16 Wz.heap.size (.slice (some ⟨gA15, 0, none⟩) 0 0) ([] : List Int) from ⟨(G15.out.1).trans (bb.mono (G15.out.1).size), G15.out.2.below bb⟩)
                    refine ⟨.agg (u8l (List.replicate 16 X)).toArray, h.1, fun _ => G16.out.1, ?_⟩
                    simp only [Act.put, List.setIfInBounds_toArray, List.set_cons_zero, List.set_cons_succ]
                    clear h bb
                    refine wpAnyT_all (rs := [9, 14]) (by kernel_rfl) (by simp) ?_
                    intro i hi
                    simp only [List.mem_cons, List.not_mem_nil, or_false] at hi
                    rcases hi with rfl | rfl
                    · obtain ⟨v17, A17, r1, r2, r3, r4, r5⟩ := append_own A16 Wz.heap.size (.slice (some ⟨gA15, 0, none⟩) 0 0) (([] : List Int)) bs ua bs.length uc G16.out.2 ((fit_own E1.out.1.2.2.2).keep (G16.out.1)) (by have := HF.out; have := XR.out; (try simp only [List.length_nil]); omega) (G16.out.1).size
                      have R1 := Lib.hid r1
                      obtain ⟨xa17, xc17, e4⟩ := r2.slice
                      rw [List.nil_append] at r2 e4
                      subst e4
                      have G17 := Lib.hid (show Below Wz.heap.size Wz A17 ∧ Own A17 Wz.heap.size (.slice xa17 bs.length xc17) bs from ⟨(G16.out.1).grown r3 (G16.out.1).size (fun j hj => (G16.out.2.lt j hj).1), r2⟩)
                      clear r1 r2 r3 r4 r5
                      refine op_valw (o := ⟨some 137, _, _, _, _, _⟩) (.slice xa17 bs.length xc17) A17 rfl rfl (run_app _ _ _ _ _ _ _ _ _ rfl rfl rfl rfl R1.out) ⟨fun _ => G17.out.1, ?_⟩
                      simp only [Act.put, List.setIfInBounds_toArray, List.set_cons_zero, List.set_cons_succ]
                      clear R1
                      refine wpAnyT_all (rs := [12, 14]) (by kernel_rfl) (by simp) ?_
                      intro i hi
                      simp only [List.mem_cons, List.not_mem_nil, or_false] at hi
                      rcases hi with rfl | rfl
                      · obtain ⟨v18, A18, r1, r2, r3, r4, r5⟩ := append_own A17 Wz.heap.size (.slice xa17 bs.length xc17) (bs) ys pa pn pc G17.out.2 (E1.out.2.1.keep (G17.out.1)) (by have := HF.out; have := XR.out; (try simp only [List.length_nil]); omega) (G17.out.1).size
                        have R1 := Lib.hid r1
                        obtain ⟨xa18, xc18, e4⟩ := r2.slice
                        have e4 : v18 = .slice xa18 (bs ++ ys).length xc18 := e4
                        subst e4
                        have G18 := Lib.hid (show Below Wz.heap.size Wz A18 ∧ Own A18 Wz.heap.size (.slice xa18 (bs ++ ys).length xc18) (bs ++ ys) from ⟨(G17.out.1).grown r3 (G17.out.1).size (fun j hj => (G17.out.2.lt j hj).1), r2⟩)
                        clear r1 r2 r3 r4 r5
                        refine op_valw (o := ⟨some 140, _, _, _, _, _⟩) (.slice xa18 (bs ++ ys).length xc18) A18 rfl rfl (run_app _ _ _ _ _ _ _ _ _ rfl rfl rfl rfl R1.out) ⟨fun _ => G18.out.1, ?_⟩
                        simp only [Act.put, List.setIfInBounds_toArray, List.set_cons_zero, List.set_cons_succ]
                        clear R1
                        refine wpAnyT_take (i := 13) (oi := ⟨some 141, _, _, _, _, _⟩) (v := (.agg (stV (s + 1) (List.replicate 16 X) (.slice xa18 (bs ++ ys).length xc18)).toArray)) rfl (by kernel_rfl) (by kernel_rfl) (by kernel_rfl) (fun _ _ _ h => nomatch h.1) (by kernel_rfl) (Or.inl ⟨rfl, fun w h => run_build42 _ _ _ _ _ _ _ _ _ _ _ (by simp) rfl rfl rfl rfl⟩) (G18.out.1) ?_
                        simp only [Act.put, List.setIfInBounds_toArray, List.set_cons_zero, List.set_cons_succ]
                        refine wpAnyT_one (i := 14) (by kernel_rfl) ?_
                        obtain ⟨A19, hA19⟩ : ∃ V, V = A18.alloc (.cells (stV 0 (List.replicate 16 0) (.slice none 0 0)).toArray 42) := ⟨_, rfl⟩
                        obtain ⟨gA19, kA19⟩ : ∃ t, A18.heap.size = t := ⟨_, rfl⟩
                        have bb : Below A18.heap.size A18 A19 := by rw [hA19]; exact (Below.refl _ _).alloc (Nat.le_refl _) _
                        have G19 := Lib.hid (show Below Wz.heap.size Wz A19 ∧ Own A19 Wz.heap.size (.slice xa18 (bs ++ ys).length xc18) (bs ++ ys) ∧ (Blk A19 gA19 42 (stV 0 (List.replicate 16 0) (.slice none 0 0)).toArray ∧ Wz.heap.size ≤ gA19) from ⟨(G18.out.1).trans (bb.mono (G18.out.1).size), G18.out.2.below bb, ⟨by rw [hA19, ← kA19]; exact Blk.new _ _ _, (by have := (G18.out.1).size; omega)⟩⟩)
                        refine op_valw (o := ⟨some 13, _, _, _, _, _⟩) (.pointer (some ⟨gA19, 0, none⟩)) A19 rfl rfl (by rw [hA19, ← kA19]; kernel_rfl) ⟨fun _ => G19.out.1, ?_⟩
                        simp only [Act.put, List.setIfInBounds_toArray, List.set_cons_zero, List.set_cons_succ]
                        clear hA19 kA19 bb
                        refine wpAnyT_one (i := 15) (by kernel_rfl) ?_
                        have NTZ := Lib.hid (nt_ok X (by have := QB.out; omega))
                        have nq := own_ne42 G19.out.2.1 G19.out.2.2.1
                        obtain ⟨W9, hW9⟩ : ∃ V, V = A19.setRow gA19 (stV (s + 1) (List.replicate 16 X) (.slice xa18 (bs ++ ys).length xc18)).toArray := ⟨_, rfl⟩
                        have Q0 : Hid (Below Wz.heap.size Wz W9 ∧ Blk W9 gA19 42 (stV (s + 1) (List.replicate 16 X) (.slice xa18 (bs ++ ys).length xc18)).toArray ∧ Own W9 Wz.heap.size (.slice xa18 (bs ++ ys).length xc18) (bs ++ ys) ∧ Wz.heap.size ≤ gA19) := Lib.hid (by rw [hW9]; exact ⟨below_setRow (G19.out.1) G19.out.2.2.2 _, setRow_heap _ _ _ _ _ _ G19.out.2.2.1, G19.out.2.1.grown (row_gb A19 gA19 _) (.inr nq), G19.out.2.2.2⟩)
                        refine op_skip (o := ⟨none, _, _, _, _, _⟩) W9 rfl rfl (by rw [hW9]; exact run_store_row _ _ _ 42 _ _ rfl gA19 (stV (s + 1) (List.replicate 16 X) (.slice xa18 (bs ++ ys).length xc18)).toArray rfl rfl 42 _ G19.out.2.2.1 (by simp only [List.size_toArray, st_len NTZ.out] <;> kernel_rfl) (by simp only [List.size_toArray, st_len NTZ.out] <;> rfl) (st_one _ _ _ _ _)) ?_
                        refine ⟨fun _ => Q0.out.1, ?_⟩
                        simp only [Act.put, List.setIfInBounds_toArray, List.set_cons_zero, List.set_cons_succ]
                        clear hW9 nq
                        refine wpAnyT_done (by kernel_rfl) ?_ _
                        exact ⟨rfl, gA15, xa17, xc17, xa18, xc18, gA19, rfl, Q0.out⟩
                      · obtain ⟨A20, hA20⟩ : ∃ V, V = A17.alloc (.cells (stV 0 (List.replicate 16 0) (.slice none 0 0)).toArray 42) := ⟨_, rfl⟩
                        obtain ⟨gA20, kA20⟩ : ∃ t, A17.heap.size = t := ⟨_, rfl⟩
                        have bb : Below A17.heap.size A17 A20 := by rw [hA20]; exact (Below.refl _ _).alloc (Nat.le_refl _) _
                        have G20 := Lib.hid (show Below Wz.heap.size Wz A20 ∧ Own A20 Wz.heap.size (.slice xa17 bs.length xc17) bs ∧ (Blk A20 gA20 42 (stV 0 (List.replicate 16 0) (.slice none 0 0)).toArray ∧ Wz.heap.size ≤ gA20) from ⟨(G17.out.1).trans (bb.mono (G17.out.1).size), G17.out.2.below bb, ⟨by rw [hA20, ← kA20]; exact Blk.new _ _ _, (by have := (G17.out.1).size; omega)⟩⟩)
                        refine op_valw (o := ⟨some 13, _, _, _, _, _⟩) (.pointer (some ⟨gA20, 0, none⟩)) A20 rfl rfl (by rw [hA20, ← kA20]; kernel_rfl) ⟨fun _ => G20.out.1, ?_⟩
                        simp only [Act.put, List.setIfInBounds_toArray, List.set_cons_zero, List.set_cons_succ]
                        clear hA20 kA20 bb
                        refine wpAnyT_one (i := 12) (by kernel_rfl) ?_
                        obtain ⟨v21, A21, r1, r2, r3, r4, r5⟩ := append_own A20 Wz.heap.size (.slice xa17 bs.length xc17) (bs) ys pa pn pc G20.out.2.1 (E1.out.2.1.keep (G20.out.1)) (by have := HF.out; have := XR.out; (try simp only [List.length_nil]); omega) (G20.out.1).size
                        have R1 := Lib.hid r1
                        obtain ⟨xa21, xc21, e4⟩ := r2.slice
                        have e4 : v21 = .slice xa21 (bs ++ ys).length xc21 := e4
                        subst e4
                        have G21 := Lib.hid (show Below Wz.heap.size Wz A21 ∧ Own A21 Wz.heap.size (.slice xa21 (bs ++ ys).length xc21) (bs ++ ys) ∧ (Blk A21 gA20 42 (stV 0 (List.replicate 16 0) (.slice none 0 0)).toArray ∧ Wz.heap.size ≤ gA20) from ⟨(G20.out.1).grown r3 (G20.out.1).size (fun j hj => (G20.out.2.1.lt j hj).1), r2, ⟨G20.out.2.2.1.grown r3 (fun e => own_ne42 G20.out.2.1 G20.out.2.2.1 e.symm), G20.out.2.2.2⟩⟩)
                        clear r1 r2 r3 r4 r5
                        refine op_valw (o := ⟨some 140, _, _, _, _, _⟩) (.slice xa21 (bs ++ ys).length xc21) A21 rfl rfl (run_app _ _ _ _ _ _ _ _ _ rfl rfl rfl rfl R1.out) ⟨fun _ => G21.out.1, ?_⟩
                        simp only [Act.put, List.setIfInBounds_toArray, List.set_cons_zero, List.set_cons_succ]
                        clear R1
                        refine wpAnyT_take (i := 13) (oi := ⟨some 141, _, _, _, _, _⟩) (v := (.agg (stV (s + 1) (List.replicate 16 X) (.slice xa21 (bs ++ ys).length xc21)).toArray)) rfl (by kernel_rfl) (by kernel_rfl) (by kernel_rfl) (fun _ _ _ h => nomatch h.1) (by kernel_rfl) (Or.inl ⟨rfl, fun w h => run_build42 _ _ _ _ _ _ _ _ _ _ _ (by simp) rfl rfl rfl rfl⟩) (G21.out.1) ?_
                        simp only [Act.put, List.setIfInBounds_toArray, List.set_cons_zero, List.set_cons_succ]
                        refine wpAnyT_one (i := 15) (by kernel_rfl) ?_
                        have NTZ := Lib.hid (nt_ok X (by have := QB.out; omega))
                        have nq := own_ne42 G21.out.2.1 G21.out.2.2.1
                        obtain ⟨W9, hW9⟩ : ∃ V, V = A21.setRow gA20 (stV (s + 1) (List.replicate 16 X) (.slice xa21 (bs ++ ys).length xc21)).toArray := ⟨_, rfl⟩
                        have Q0 : Hid (Below Wz.heap.size Wz W9 ∧ Blk W9 gA20 42 (stV (s + 1) (List.replicate 16 X) (.slice xa21 (bs ++ ys).length xc21)).toArray ∧ Own W9 Wz.heap.size (.slice xa21 (bs ++ ys).length xc21) (bs ++ ys) ∧ Wz.heap.size ≤ gA20) := Lib.hid (by rw [hW9]; exact ⟨below_setRow (G21.out.1) G21.out.2.2.2 _, setRow_heap _ _ _ _ _ _ G21.out.2.2.1, G21.out.2.1.grown (row_gb A21 gA20 _) (.inr nq), G21.out.2.2.2⟩)
                        refine op_skip (o := ⟨none, _, _, _, _, _⟩) W9 rfl rfl (by rw [hW9]; exact run_store_row _ _ _ 42 _ _ rfl gA20 (stV (s + 1) (List.replicate 16 X) (.slice xa21 (bs ++ ys).length xc21)).toArray rfl rfl 42 _ G21.out.2.2.1 (by simp only [List.size_toArray, st_len NTZ.out] <;> kernel_rfl) (by simp only [List.size_toArray, st_len NTZ.out] <;> rfl) (st_one _ _ _ _ _)) ?_
                        refine ⟨fun _ => Q0.out.1, ?_⟩
                        simp only [Act.put, List.setIfInBounds_toArray, List.set_cons_zero, List.set_cons_succ]
                        clear hW9 nq
                        refine wpAnyT_done (by kernel_rfl) ?_ _
                        exact ⟨rfl, gA15, xa17, xc17, xa21, xc21, gA20, rfl, Q0.out⟩
                    · obtain ⟨A22, hA22⟩ : ∃ V, V = A16.alloc (.cells (stV 0 (List.replicate 16 0) (.slice none 0 0)).toArray 42) := ⟨_, rfl⟩
                      obtain ⟨gA22, kA22⟩ : ∃ t, A16.heap.size = t := ⟨_, rfl⟩
                      have bb : Below A16.heap.size A16 A22 := by rw [hA22]; exact (Below.refl _ _).alloc (Nat.le_refl _) _
                      have G22 := Lib.hid (show Below Wz.heap.size Wz A22 ∧ Own A22 Wz.heap.size (.slice (some ⟨gA15, 0, none⟩) 0 0) ([] : List Int) ∧ (Blk A22 gA22 42 (stV 0 (List.replicate 16 0) (.slice none 0 0)).toArray ∧ Wz.heap.size ≤ gA22) from ⟨(G16.out.1).trans (bb.mono (G16.out.1).size), G16.out.2.below bb, ⟨by rw [hA22, ← kA22]; exact Blk.new _ _ _, (by have := (G16.out.1).size; omega)⟩⟩)
                      refine op_valw (o := ⟨some 13, _, _, _, _, _⟩) (.pointer (some ⟨gA22, 0, none⟩)) A22 rfl rfl (by rw [hA22, ← kA22]; kernel_rfl) ⟨fun _ => G22.out.1, ?_⟩
                      simp only [Act.put, List.setIfInBounds_toArray, List.set_cons_zero, List.set_cons_succ]
                      clear hA22 kA22 bb
                      refine wpAnyT_one (i := 9) (by kernel_rfl) ?_
                      obtain ⟨v23, A23, r1, r2, r3, r4, r5⟩ := append_own A22 Wz.heap.size (.slice (some ⟨gA15, 0, none⟩) 0 0) (([] : List Int)) bs ua bs.length uc G22.out.2.1 ((fit_own E1.out.1.2.2.2).keep (G22.out.1)) (by have := HF.out; have := XR.out; (try simp only [List.length_nil]); omega) (G22.out.1).size
                      have R1 := Lib.hid r1
                      obtain ⟨xa23, xc23, e4⟩ := r2.slice
                      rw [List.nil_append] at r2 e4
                      subst e4
                      have G23 := Lib.hid (show Below Wz.heap.size Wz A23 ∧ Own A23 Wz.heap.size (.slice xa23 bs.length xc23) bs ∧ (Blk A23 gA22 42 (stV 0 (List.replicate 16 0) (.slice none 0 0)).toArray ∧ Wz.heap.size ≤ gA22) from ⟨(G22.out.1).grown r3 (G22.out.1).size (fun j hj => (G22.out.2.1.lt j hj).1), r2, ⟨G22.out.2.2.1.grown r3 (fun e => own_ne42 G22.out.2.1 G22.out.2.2.1 e.symm), G22.out.2.2.2⟩⟩)
                      clear r1 r2 r3 r4 r5
                      refine op_valw (o := ⟨some 137, _, _, _, _, _⟩) (.slice xa23 bs.length xc23) A23 rfl rfl (run_app _ _ _ _ _ _ _ _ _ rfl rfl rfl rfl R1.out) ⟨fun _ => G23.out.1, ?_⟩
                      simp only [Act.put, List.setIfInBounds_toArray, List.set_cons_zero, List.set_cons_succ]
                      clear R1
                      refine wpAnyT_one (i := 12) (by kernel_rfl) ?_
                      obtain ⟨v24, A24, r1, r2, r3, r4, r5⟩ := append_own A23 Wz.heap.size (.slice xa23 bs.length xc23) (bs) ys pa pn pc G23.out.2.1 (E1.out.2.1.keep (G23.out.1)) (by have := HF.out; have := XR.out; (try simp only [List.length_nil]); omega) (G23.out.1).size
                      have R1 := Lib.hid r1
                      obtain ⟨xa24, xc24, e4⟩ := r2.slice
                      have e4 : v24 = .slice xa24 (bs ++ ys).length xc24 := e4
                      subst e4
                      have G24 := Lib.hid (show Below Wz.heap.size Wz A24 ∧ Own A24 Wz.heap.size (.slice xa24 (bs ++ ys).length xc24) (bs ++ ys) ∧ (Blk A24 gA22 42 (stV 0 (List.replicate 16 0) (.slice none 0 0)).toArray ∧ Wz.heap.size ≤ gA22) from ⟨(G23.out.1).grown r3 (G23.out.1).size (fun j hj => (G23.out.2.1.lt j hj).1), r2, ⟨G23.out.2.2.1.grown r3 (fun e => own_ne42 G23.out.2.1 G23.out.2.2.1 e.symm), G23.out.2.2.2⟩⟩)
                      clear r1 r2 r3 r4 r5
                      refine op_valw (o := ⟨some 140, _, _, _, _, _⟩) (.slice xa24 (bs ++ ys).length xc24) A24 rfl rfl (run_app _ _ _ _ _ _ _ _ _ rfl rfl rfl rfl R1.out) ⟨fun _ => G24.out.1, ?_⟩
                      simp only [Act.put, List.setIfInBounds_toArray, List.set_cons_zero, List.set_cons_succ]
                      clear R1
                      refine wpAnyT_take (i := 13) (oi := ⟨some 141, _, _, _, _, _⟩) (v := (.agg (stV (s + 1) (List.replicate 16 X) (.slice xa24 (bs ++ ys).length xc24)).toArray)) rfl (by kernel_rfl) (by kernel_rfl) (by kernel_rfl) (fun _ _ _ h => nomatch h.1) (by kernel_rfl) (Or.inl ⟨rfl, fun w h => run_build42 _ _ _ _ _ _ _ _ _ _ _ (by simp) rfl rfl rfl rfl⟩) (G24.out.1) ?_
                      simp only [Act.put, List.setIfInBounds_toArray, List.set_cons_zero, List.set_cons_succ]
                      refine wpAnyT_one (i := 15) (by kernel_rfl) ?_
                      have NTZ := Lib.hid (nt_ok X (by have := QB.out; omega))
                      have nq := own_ne42 G24.out.2.1 G24.out.2.2.1
                      obtain ⟨W9, hW9⟩ : ∃ V, V = A24.setRow gA22 (stV (s + 1) (List.replicate 16 X) (.slice xa24 (bs ++ ys).length xc24)).toArray := ⟨_, rfl⟩
                      have Q0 : Hid (Below Wz.heap.size Wz W9 ∧ Blk W9 gA22 42 (stV (s + 1) (List.replicate 16 X) (.slice xa24 (bs ++ ys).length xc24)).toArray ∧ Own W9 Wz.heap.size (.slice xa24 (bs ++ ys).length xc24) (bs ++ ys) ∧ Wz.heap.size ≤ gA22) := Lib.hid (by rw [hW9]; exact ⟨below_setRow (G24.out.1) G24.out.2.2.2 _, setRow_heap _ _ _ _ _ _ G24.out.2.2.1, G24.out.2.1.grown (row_gb A24 gA22 _) (.inr nq), G24.out.2.2.2⟩)
                      refine op_skip (o := ⟨none, _, _, _, _, _⟩) W9 rfl rfl (by rw [hW9]; exact run_store_row _ _ _ 42 _ _ rfl gA22 (stV (s + 1) (List.replicate 16 X) (.slice xa24 (bs ++ ys).length xc24)).toArray rfl rfl 42 _ G24.out.2.2.1 (by simp only [List.size_toArray, st_len NTZ.out] <;> kernel_rfl) (by simp only [List.size_toArray, st_len NTZ.out] <;> rfl) (st_one _ _ _ _ _)) ?_
                      refine ⟨fun _ => Q0.out.1, ?_⟩
                      simp only [Act.put, List.setIfInBounds_toArray, List.set_cons_zero, List.set_cons_succ]
                      clear hW9 nq
                      refine wpAnyT_done (by kernel_rfl) ?_ _
                      exact ⟨rfl, gA15, xa23, xc23, xa24, xc24, gA22, rfl, Q0.out⟩
                  · obtain ⟨A25, hA25⟩ : ∃ V, V = A15.alloc (.cells (stV 0 (List.replicate 16 0) (.slice none 0 0)).toArray 42) := ⟨_, rfl⟩
                    obtain ⟨gA25, kA25⟩ : ∃ t, A15.heap.size = t := ⟨_, rfl⟩
                    have bb : Below A15.heap.size A15 A25 := by rw [hA25]; exact (Below.refl _ _).alloc (Nat.le_refl _) _
                    have G25 := Lib.hid (show Below Wz.heap.size Wz A25 ∧ Own A25 Wz.heap.size (.slice (some ⟨gA15, 0, none⟩) 0 0) ([] : List Int) ∧ (Blk A25 gA25 42 (stV 0 (List.replicate 16 0) (.slice none 0 0)).toArray ∧ Wz.heap.size ≤ gA25) from ⟨(G15.out.1).trans (bb.mono (G15.out.1).size), G15.out.2.below bb, ⟨by rw [hA25, ← kA25]; exact Blk.new _ _ _, (by have := (G15.out.1).size; omega)⟩⟩)
                    refine op_valw (o := ⟨some 13, _, _, _, _, _⟩) (.pointer (some ⟨gA25, 0, none⟩)) A25 rfl rfl (by rw [hA25, ← kA25]; kernel_rfl) ⟨fun _ => G25.out.1, ?_⟩
                    simp only [Act.put, List.setIfInBounds_toArray, List.set_cons_zero, List.set_cons_succ]
                    clear hA25 kA25 bb
                    refine wpAnyT_one (i := 5) (by kernel_rfl) ?_
                    refine op_call (o := ⟨some 133, _, _, _, _, _⟩) 12 #[.int .u8 X] rfl rfl (by kernel_rfl) ((notef_any A25 X).mono fun e A26 h => ?_)
                    have bb := h.2
                    have G26 := Lib.hid (show Below Wz.heap.size Wz A26 ∧ Own A26 Wz.heap.size (.slice (some ⟨gA15, 0, none⟩) 0 0) ([] : List Int) ∧ (Blk A26 gA25 42 (stV 0 (List.replicate 16 0) (.slice none 0 0)).toArray ∧ Wz.heap.size ≤ gA25) from ⟨(G25.out.1).trans (bb.mono (G25.out.1).size), G25.out.2.1.below bb, ⟨G25.out.2.2.1.below bb, G25.out.2.2.2⟩⟩)
                    refine ⟨.agg (u8l (List.replicate 16 X)).toArray, h.1, fun _ => G26.out.1, ?_⟩
                    simp only [Act.put, List.setIfInBounds_toArray, List.set_cons_zero, List.set_cons_succ]
                    clear h bb
                    refine wpAnyT_one (i := 9) (by kernel_rfl) ?_
                    obtain ⟨v27, A27, r1, r2, r3, r4, r5⟩ := append_own A26 Wz.heap.size (.slice (some ⟨gA15, 0, none⟩) 0 0) (([] : List Int)) bs ua bs.length uc G26.out.2.1 ((fit_own E1.out.1.2.2.2).keep (G26.out.1)) (by have := HF.out; have := XR.out; (try simp only [List.length_nil]); omega) (G26.out.1).size
                    have R1 := Lib.hid r1
                    obtain ⟨xa27, xc27, e4⟩ := r2.slice
                    rw [List.nil_append] at r2 e4
                    subst e4
                    have G27 := Lib.hid (show Below Wz.heap.size Wz A27 ∧ Own A27 Wz.heap.size (.slice xa27 bs.length xc27) bs ∧ (Blk A27 gA25 42 (stV 0 (List.replicate 16 0) (.slice none 0 0)).toArray ∧ Wz.heap.size ≤ gA25) from ⟨(G26.out.1).grown r3 (G26.out.1).size (fun j hj => (G26.out.2.1.lt j hj).1), r2, ⟨G26.out.2.2.1.grown r3 (fun e => own_ne42 G26.out.2.1 G26.out.2.2.1 e.symm), G26.out.2.2.2⟩⟩)
                    clear r1 r2 r3 r4 r5
                    refine op_valw (o := ⟨some 137, _, _, _, _, _⟩) (.slice xa27 bs.length xc27) A27 rfl rfl (run_app _ _ _ _ _ _ _ _ _ rfl rfl rfl rfl R1.out) ⟨fun _ => G27.out.1, ?_⟩
                    simp only [Act.put, List.setIfInBounds_toArray, List.set_cons_zero, List.set_cons_succ]
                    clear R1
                    refine wpAnyT_one (i := 12) (by kernel_rfl) ?_
                    obtain ⟨v28, A28, r1, r2, r3, r4, r5⟩ := append_own A27 Wz.heap.size (.slice xa27 bs.length xc27) (bs) ys pa pn pc G27.out.2.1 (E1.out.2.1.keep (G27.out.1)) (by have := HF.out; have := XR.out; (try simp only [List.length_nil]); omega) (G27.out.1).size
                    have R1 := Lib.hid r1
                    obtain ⟨xa28, xc28, e4⟩ := r2.slice
                    have e4 : v28 = .slice xa28 (bs ++ ys).length xc28 := e4
                    subst e4
                    have G28 := Lib.hid (show Below Wz.heap.size Wz A28 ∧ Own A28 Wz.heap.size (.slice xa28 (bs ++ ys).length xc28) (bs ++ ys) ∧ (Blk A28 gA25 42 (stV 0 (List.replicate 16 0) (.slice none 0 0)).toArray ∧ Wz.heap.size ≤ gA25) from ⟨(G27.out.1).grown r3 (G27.out.1).size (fun j hj => (G27.out.2.1.lt j hj).1), r2, ⟨G27.out.2.2.1.grown r3 (fun e => own_ne42 G27.out.2.1 G27.out.2.2.1 e.symm), G27.out.2.2.2⟩⟩)
                    clear r1 r2 r3 r4 r5
                    refine op_valw (o := ⟨some 140, _, _, _, _, _⟩) (.slice xa28 (bs ++ ys).length xc28) A28 rfl rfl (run_app _ _ _ _ _ _ _ _ _ rfl rfl rfl rfl R1.out) ⟨fun _ => G28.out.1, ?_⟩
                    simp only [Act.put, List.setIfInBounds_toArray, List.set_cons_zero, List.set_cons_succ]
                    clear R1
                    refine wpAnyT_take (i := 13) (oi := ⟨some 141, _, _, _, _, _⟩) (v := (.agg (stV (s + 1) (List.replicate 16 X) (.slice xa28 (bs ++ ys).length xc28)).toArray)) rfl (by kernel_rfl) (by kernel_rfl) (by kernel_rfl) (fun _ _ _ h => nomatch h.1) (by kernel_rfl) (Or.inl ⟨rfl, fun w h => run_build42 _ _ _ _ _ _ _ _ _ _ _ (by simp) rfl rfl rfl rfl⟩) (G28.out.1) ?_
                    simp only [Act.put, List.setIfInBounds_toArray, List.set_cons_zero, List.set_cons_succ]
                    refine wpAnyT_one (i := 15) (by kernel_rfl) ?_
                    have NTZ := Lib.hid (nt_ok X (by have := QB.out; omega))
                    have nq := own_ne42 G28.out.2.1 G28.out.2.2.1
                    obtain ⟨W9, hW9⟩ : ∃ V, V = A28.setRow gA25 (stV (s + 1) (List.replicate 16 X) (.slice xa28 (bs ++ ys).length xc28)).toArray := ⟨_, rfl⟩
                    have Q0 : Hid (Below Wz.heap.size Wz W9 ∧ Blk W9 gA25 42 (stV (s + 1) (List.replicate 16 X) (.slice xa28 (bs ++ ys).length xc28)).toArray ∧ Own W9 Wz.heap.size (.slice xa28 (bs ++ ys).length xc28) (bs ++ ys) ∧ Wz.heap.size ≤ gA25) := Lib.hid (by rw [hW9]; exact ⟨below_setRow (G28.out.1) G28.out.2.2.2 _, setRow_heap _ _ _ _ _ _ G28.out.2.2.1, G28.out.2.1.grown (row_gb A28 gA25 _) (.inr nq), G28.out.2.2.2⟩)
                    refine op_skip (o := ⟨none, _, _, _, _, _⟩) W9 rfl rfl (by rw [hW9]; exact run_store_row _ _ _ 42 _ _ rfl gA25 (stV (s + 1) (List.replicate 16 X) (.slice xa28 (bs ++ ys).length xc28)).toArray rfl rfl 42 _ G28.out.2.2.1 (by simp only [List.size_toArray, st_len NTZ.out] <;> kernel_rfl) (by simp only [List.size_toArray, st_len NTZ.out] <;> rfl) (st_one _ _ _ _ _)) ?_
                    refine ⟨fun _ => Q0.out.1, ?_⟩
                    simp only [Act.put, List.setIfInBounds_toArray, List.set_cons_zero, List.set_cons_succ]
                    clear hW9 nq
                    refine wpAnyT_done (by kernel_rfl) ?_ _
                    exact ⟨rfl, gA15, xa27, xc27, xa28, xc28, gA25, rfl, Q0.out⟩
                · obtain ⟨A29, hA29⟩ : ∃ V, V = Wz.alloc (.cells (stV 0 (List.replicate 16 0) (.slice none 0 0)).toArray 42) := ⟨_, rfl⟩
                  obtain ⟨gA29, kA29⟩ : ∃ t, Wz.heap.size = t := ⟨_, rfl⟩
                  have bb : Below Wz.heap.size Wz A29 := by rw [hA29]; exact (Below.refl _ _).alloc (Nat.le_refl _) _
                  have G29 := Lib.hid (show Below Wz.heap.size Wz A29 ∧ (Blk A29 gA29 42 (stV 0 (List.replicate 16 0) (.slice none 0 0)).toArray ∧ Wz.heap.size ≤ gA29) from ⟨(BW.out).trans (bb.mono (BW.out).size), ⟨by rw [hA29, ← kA29]; exact Blk.new _ _ _, (by have := (BW.out).size; omega)⟩⟩)
                  refine op_valw (o := ⟨some 13, _, _, _, _, _⟩) (.pointer (some ⟨gA29, 0, none⟩)) A29 rfl rfl (by rw [hA29, ← kA29]; kernel_rfl) ⟨fun _ => G29.out.1, ?_⟩
                  simp only [Act.put, List.setIfInBounds_toArray, List.set_cons_zero, List.set_cons_succ]
                  clear hA29 kA29 bb
                  refine wpAnyT_all (rs := [5, 6]) (by kernel_rfl) (by simp) ?_
                  intro i hi
                  simp only [List.mem_cons, List.not_mem_nil, or_false] at hi
                  rcases hi with rfl | rfl
                  · refine op_call (o := ⟨some 133, _, _, _, _, _⟩) 12 #[.int .u8 X] rfl rfl (by kernel_rfl) ((notef_any A29 X).mono fun e A30 h => ?_)
                    have bb := h.2
                    have G30 := Lib.hid (show Below Wz.heap.size Wz A30 ∧ (Blk A30 gA29 42 (stV 0 (List.replicate 16 0) (.slice none 0 0)).toArray ∧ Wz.heap.size ≤ gA29) from ⟨(G29.out.1).trans (bb.mono (G29.out.1).size), ⟨G29.out.2.1.below bb, G29.out.2.2⟩⟩)
                    refine ⟨.agg (u8l (List.replicate 16 X)).toArray, h.1, fun _ => G30.out.1, ?_⟩
                    simp only [Act.put, List.setIfInBounds_toArray, List.set_cons_zero, List.set_cons_succ]
                    clear h bb
                    refine wpAnyT_one (i := 6) (by kernel_rfl) ?_
                    obtain ⟨A31, hA31⟩ : ∃ V, V = A30.alloc (.cells #[] 5) := ⟨_, rfl⟩
                    obtain ⟨gA31, kA31⟩ : ∃ t, A30.heap.size = t := ⟨_, rfl⟩
                    have bb : Below A30.heap.size A30 A31 := by rw [hA31]; exact (Below.refl _ _).alloc (Nat.le_refl _) _
                    have G31 := Lib.hid (show Below Wz.heap.size Wz A31 ∧ Own A31 Wz.heap.size (.slice (some ⟨gA31, 0, none⟩) 0 0) ([] : List Int) ∧ (Blk A31 gA29 42 (stV 0 (List.replicate 16 0) (.slice none 0 0)).toArray ∧ Wz.heap.size ≤ gA29) from ⟨(G30.out.1).trans (bb.mono (G30.out.1).size), (by rw [hA31, ← kA31]; exact own_new0 A30 _ (G30.out.1).size), ⟨G30.out.2.1.below bb, G30.out.2.2⟩⟩)
                    refine op_valw (o := ⟨some 134, _, _, _, _, _⟩) (.slice (some ⟨gA31, 0, none⟩) 0 0) A31 rfl rfl (by rw [hA31, ← kA31]; kernel_rfl) ⟨fun _ => G31.out.1, ?_⟩
                    simp only [Act.put, List.setIfInBounds_toArray, List.set_cons_zero, List.set_cons_succ]
                    clear hA31 kA31 bb
                    refine wpAnyT_one (i := 9) (by kernel_rfl) ?_
                    obtain ⟨v32, A32, r1, r2, r3, r4, r5⟩ := append_own A31 Wz.heap.size (.slice (some ⟨gA31, 0, none⟩) 0 0) (([] : List Int)) bs ua bs.length uc G31.out.2.1 ((fit_own E1.out.1.2.2.2).keep (G31.out.1)) (by have := HF.out; have := XR.out; (try simp only [List.length_nil]); omega) (G31.out.1).size
                    have R1 := Lib.hid r1
                    obtain ⟨xa32, xc32, e4⟩ := r2.slice
                    rw [List.nil_append] at r2 e4
                    subst e4
                    have G32 := Lib.hid (show Below Wz.heap.size Wz A32 ∧ Own A32 Wz.heap.size (.slice xa32 bs.length xc32) bs ∧ (Blk A32 gA29 42 (stV 0 (List.replicate 16 0) (.slice none 0 0)).toArray ∧ Wz.heap.size ≤ gA29) from ⟨(G31.out.1).grown r3 (G31.out.1).size (fun j hj => (G31.out.2.1.lt j hj).1), r2, ⟨G31.out.2.2.1.grown r3 (fun e => own_ne42 G31.out.2.1 G31.out.2.2.1 e.symm), G31.out.2.2.2⟩⟩)
                    clear r1 r2 r3 r4 r5
                    refine op_valw (o := ⟨some 137, _, _, _, _, _⟩) (.slice xa32 bs.length xc32) A32 rfl rfl (run_app _ _ _ _ _ _ _ _ _ rfl rfl rfl rfl R1.out) ⟨fun _ => G32.out.1, ?_⟩
                    simp only [Act.put, List.setIfInBounds_toArray, List.set_cons_zero, List.set_cons_succ]
                    clear R1
                    refine wpAnyT_one (i := 12) (by kernel_rfl) ?_
                    obtain ⟨v33, A33, r1, r2, r3, r4, r5⟩ := append_own A32 Wz.heap.size (.slice xa32 bs.length xc32) (bs) ys pa pn pc G32.out.2.1 (E1.out.2.1.keep (G32.out.1)) (by have := HF.out; have := XR.out; (try simp only [List.length_nil]); omega) (G32.out.1).size
                    have R1 := Lib.hid r1
                    obtain ⟨xa33, xc33, e4⟩ := r2.slice
                    have e4 : v33 = .slice xa33 (bs ++ ys).length xc33 := e4
                    subst e4
                    have G33 := Lib.hid (show Below Wz.heap.size Wz A33 ∧ Own A33 Wz.heap.size (.slice xa33 (bs ++ ys).length xc33) (bs ++ ys) ∧ (Blk A33 gA29 42 (stV 0 (List.replicate 16 0) (.slice none 0 0)).toArray ∧ Wz.heap.size ≤ gA29) from ⟨(G32.out.1).grown r3 (G32.out.1).size (fun j hj => (G32.out.2.1.lt j hj).1), r2, ⟨G32.out.2.2.1.grown r3 (fun e => own_ne42 G32.out.2.1 G32.out.2.2.1 e.symm), G32.out.2.2.2⟩⟩)
                    clear r1 r2 r3 r4 r5
                    refine op_valw (o := ⟨some 140, _, _, _, _, _⟩) (.slice xa33 (bs ++ ys).length xc33) A33 rfl rfl (run_app _ _ _ _ _ _ _ _ _ rfl rfl rfl rfl R1.out) ⟨fun _ => G33.out.1, ?_⟩
                    simp only [Act.put, List.setIfInBounds_toArray, List.set_cons_zero, List.set_cons_succ]
                    clear R1
                    refine wpAnyT_take (i := 13) (oi := ⟨some 141, _, _, _, _, _⟩) (v := (.agg (stV (s + 1) (List.replicate 16 X) (.slice xa33 (bs ++ ys).length xc33)).toArray)) rfl (by kernel_rfl) (by kernel_rfl) (by kernel_rfl) (fun _ _ _ h => nomatch h.1) (by kernel_rfl) (Or.inl ⟨rfl, fun w h => run_build42 _ _ _ _ _ _ _ _ _ _ _ (by simp) rfl rfl rfl rfl⟩) (G33.out.1) ?_
                    simp only [Act.put, List.setIfInBounds_toArray, List.set_cons_zero, List.set_cons_succ]
                    refine wpAnyT_one (i := 15) (by kernel_rfl) ?_
                    have NTZ := Lib.hid (nt_ok X (by have := QB.out; omega))
                    have nq := own_ne42 G33.out.2.1 G33.out.2.2.1
                    obtain ⟨W9, hW9⟩ : ∃ V, V = A33.setRow gA29 (stV (s + 1) (List.replicate 16 X) (.slice xa33 (bs ++ ys).length xc33)).toArray := ⟨_, rfl⟩
                    have Q0 : Hid (Below Wz.heap.size Wz W9 ∧ Blk W9 gA29 42 (stV (s + 1) (List.replicate 16 X) (.slice xa33 (bs ++ ys).length xc33)).toArray ∧ Own W9 Wz.heap.size (.slice xa33 (bs ++ ys).length xc33) (bs ++ ys) ∧ Wz.heap.size ≤ gA29) := Lib.hid (by rw [hW9]; exact ⟨below_setRow (G33.out.1) G33.out.2.2.2 _, setRow_heap _ _ _ _ _ _ G33.out.2.2.1, G33.out.2.1.grown (row_gb A33 gA29 _) (.inr nq), G33.out.2.2.2⟩)
                    refine op_skip (o := ⟨none, _, _, _, _, _⟩) W9 rfl rfl (by rw [hW9]; exact run_store_row _ _ _ 42 _ _ rfl gA29 (stV (s + 1) (List.replicate 16 X) (.slice xa33 (bs ++ ys).length xc33)).toArray rfl rfl 42 _ G33.out.2.2.1 (by simp only [List.size_toArray, st_len NTZ.out] <;> kernel_rfl) (by simp only [List.size_toArray, st_len NTZ.out] <;> rfl) (st_one _ _ _ _ _)) ?_
                    refine ⟨fun _ => Q0.out.1, ?_⟩
                    simp only [Act.put, List.setIfInBounds_toArray, List.set_cons_zero, List.set_cons_succ]
                    clear hW9 nq
                    refine wpAnyT_done (by kernel_rfl) ?_ _
                    exact ⟨rfl, gA31, xa32, xc32, xa33, xc33, gA29, rfl, Q0.out⟩
                  · obtain ⟨A34, hA34⟩ : ∃ V, V = A29.alloc (.cells #[] 5) := ⟨_, rfl⟩
                    obtain ⟨gA34, kA34⟩ : ∃ t, A29.heap.size = t := ⟨_, rfl⟩
                    have bb : Below A29.heap.size A29 A34 := by rw [hA34]; exact (Below.refl _ _).alloc (Nat.le_refl _) _
                    have G34 := Lib.hid (show Below Wz.heap.size Wz A34 ∧ Own A34 Wz.heap.size (.slice (some ⟨gA34, 0, none⟩) 0 0) ([] : List Int) ∧ (Blk A34 gA29 42 (stV 0 (List.replicate 16 0) (.slice none 0 0)).toArray ∧ Wz.heap.size ≤ gA29) from ⟨(G29.out.1).trans (bb.mono (G29.out.1).size), (by rw [hA34, ← kA34]; exact own_new0 A29 _ (G29.out.1).size), ⟨G29.out.2.1.below bb, G29.out.2.2⟩⟩)
                    refine op_valw (o := ⟨some 134, _, _, _, _, _⟩) (.slice (some ⟨gA34, 0, none⟩) 0 0) A34 rfl rfl (by rw [hA34, ← kA34]; kernel_rfl) ⟨fun _ => G34.out.1, ?_⟩
                    simp only [Act.put, List.setIfInBounds_toArray, List.set_cons_zero, List.set_cons_succ]
                    clear hA34 kA34 bb
                    refine wpAnyT_one (i := 5) (by kernel_rfl) ?_
                    refine op_call (o := ⟨some 133, _, _, _, _, _⟩) 12 #[.int .u8 X] rfl rfl (by kernel_rfl) ((notef_any A34 X).mono fun e A35 h => ?_)
                    have bb := h.2
                    have G35 := Lib.hid (show Below Wz.heap.size Wz A35 ∧ Own A35 Wz.heap.size (.slice (some ⟨gA34, 0, none⟩) 0 0) ([] : List Int) ∧ (Blk A35 gA29 42 (stV 0 (List.replicate 16 0) (.slice none 0 0)).toArray ∧ Wz.heap.size ≤ gA29) from ⟨(G34.out.1).trans (bb.mono (G34.out.1).size), G34.out.2.1.below bb, ⟨G34.out.2.2.1.below bb, G34.out.2.2.2⟩⟩)
                    refine ⟨.agg (u8l (List.replicate 16 X)).toArray, h.1, fun _ => G35.out.1, ?_⟩
                    simp only [Act.put, List.setIfInBounds_toArray, List.set_cons_zero, List.set_cons_succ]
                    clear h bb
                    refine wpAnyT_one (i := 9) (by kernel_rfl) ?_
                    obtain ⟨v36, A36, r1, r2, r3, r4, r5⟩ := append_own A35 Wz.heap.size (.slice (some ⟨gA34, 0, none⟩) 0 0) (([] : List Int)) bs ua bs.length uc G35.out.2.1 ((fit_own E1.out.1.2.2.2).keep (G35.out.1)) (by have := HF.out; have := XR.out; (try simp only [List.length_nil]); omega) (G35.out.1).size
                    have R1 := Lib.hid r1
                    obtain ⟨xa36, xc36, e4⟩ := r2.slice
                    rw [List.nil_append] at r2 e4
                    subst e4
                    have G36 := Lib.hid (show Below Wz.heap.size Wz A36 ∧ Own A36 Wz.heap.size (.slice xa36 bs.length xc36) bs ∧ (Blk A36 gA29 42 (stV 0 (List.replicate 16 0) (.slice none 0 0)).toArray ∧ Wz.heap.size ≤ gA29) from ⟨(G35.out.1).grown r3 (G35.out.1).size (fun j hj => (G35.out.2.1.lt j hj).1), r2, ⟨G35.out.2.2.1.grown r3 (fun e => own_ne42 G35.out.2.1 G35.out.2.2.1 e.symm), G35.out.2.2.2⟩⟩)
                    clear r1 r2 r3 r4 r5
                    refine op_valw (o := ⟨some 137, _, _, _, _, _⟩) (.slice xa36 bs.length xc36) A36 rfl rfl (run_app _ _ _ _ _ _ _ _ _ rfl rfl rfl rfl R1.out) ⟨fun _ => G36.out.1, ?_⟩
                    simp only [Act.put, List.setIfInBounds_toArray, List.set_cons_zero, List.set_cons_succ]
                    clear R1
                    refine wpAnyT_one (i := 12) (by kernel_rfl) ?_
                    obtain ⟨v37, A37, r1, r2, r3, r4, r5⟩ := append_own A36 Wz.heap.size (.slice xa36 bs.length xc36) (bs) ys pa pn pc G36.out.2.1 (E1.out.2.1.keep (G36.out.1)) (by have := HF.out; have := XR.out; (try simp only [List.length_nil]); omega) (G36.out.1).size
                    have R1 := Lib.hid r1
                    obtain ⟨xa37, xc37, e4⟩ := r2.slice
                    have e4 : v37 = .slice xa37 (bs ++ ys).length xc37 := e4
                    subst e4
                    have G37 := Lib.hid (show Below Wz.heap.size Wz A37 ∧ Own A37 Wz.heap.size (.slice xa37 (bs ++ ys).length xc37) (bs ++ ys) ∧ (Blk A37 gA29 42 (stV 0 (List.replicate 16 0) (.slice none 0 0)).toArray ∧ Wz.heap.size ≤ gA29) from ⟨(G36.out.1).grown r3 (G36.out.1).size (fun j hj => (G36.out.2.1.lt j hj).1), r2, ⟨G36.out.2.2.1.grown r3 (fun e => own_ne42 G36.out.2.1 G36.out.2.2.1 e.symm), G36.out.2.2.2⟩⟩)
                    clear r1 r2 r3 r4 r5
                    refine op_valw (o := ⟨some 140, _, _, _, _, _⟩) (.slice xa37 (bs ++ ys).length xc37) A37 rfl rfl (run_app _ _ _ _ _ _ _ _ _ rfl rfl rfl rfl R1.out) ⟨fun _ => G37.out.1, ?_⟩
                    simp only [Act.put, List.setIfInBounds_toArray, List.set_cons_zero, List.set_cons_succ]
                    clear R1
                    refine wpAnyT_take (i := 13) (oi := ⟨some 141, _, _, _, _, _⟩) (v := (.agg (stV (s + 1) (List.replicate 16 X) (.slice xa37 (bs ++ ys).length xc37)).toArray)) rfl (by kernel_rfl) (by kernel_rfl) (by kernel_rfl) (fun _ _ _ h => nomatch h.1) (by kernel_rfl) (Or.inl ⟨rfl, fun w h => run_build42 _ _ _ _ _ _ _ _ _ _ _ (by simp) rfl rfl rfl rfl⟩) (G37.out.1) ?_
                    simp only [Act.put, List.setIfInBounds_toArray, List.set_cons_zero, List.set_cons_succ]
                    refine wpAnyT_one (i := 15) (by kernel_rfl) ?_
                    have NTZ := Lib.hid (nt_ok X (by have := QB.out; omega))
                    have nq := own_ne42 G37.out.2.1 G37.out.2.2.1
                    obtain ⟨W9, hW9⟩ : ∃ V, V = A37.setRow gA29 (stV (s + 1) (List.replicate 16 X) (.slice xa37 (bs ++ ys).length xc37)).toArray := ⟨_, rfl⟩
                    have Q0 : Hid (Below Wz.heap.size Wz W9 ∧ Blk W9 gA29 42 (stV (s + 1) (List.replicate 16 X) (.slice xa37 (bs ++ ys).length xc37)).toArray ∧ Own W9 Wz.heap.size (.slice xa37 (bs ++ ys).length xc37) (bs ++ ys) ∧ Wz.heap.size ≤ gA29) := Lib.hid (by rw [hW9]; exact ⟨below_setRow (G37.out.1) G37.out.2.2.2 _, setRow_heap _ _ _ _ _ _ G37.out.2.2.1, G37.out.2.1.grown (row_gb A37 gA29 _) (.inr nq), G37.out.2.2.2⟩)
                    refine op_skip (o := ⟨none, _, _, _, _, _⟩) W9 rfl rfl (by rw [hW9]; exact run_store_row _ _ _ 42 _ _ rfl gA29 (stV (s + 1) (List.replicate 16 X) (.slice xa37 (bs ++ ys).length xc37)).toArray rfl rfl 42 _ G37.out.2.2.1 (by simp only [List.size_toArray, st_len NTZ.out] <;> kernel_rfl) (by simp only [List.size_toArray, st_len NTZ.out] <;> rfl) (st_one _ _ _ _ _)) ?_
                    refine ⟨fun _ => Q0.out.1, ?_⟩
                    simp only [Act.put, List.setIfInBounds_toArray, List.set_cons_zero, List.set_cons_succ]
                    clear hW9 nq
                    refine wpAnyT_done (by kernel_rfl) ?_ _
                    exact ⟨rfl, gA34, xa36, xc36, xa37, xc37, gA29, rfl, Q0.out⟩
              case hq =>
                intro gb xa1 xc1 xa xc g13 X8 hF
                have HF8 := Lib.hid hF
                clear hF
                try dsimp only
                have E2 : Hid ((PI w X8 b gs gm n rm lb (s + 1) (List.replicate 16 X) (bs ++ ys) va2 vc2 dc2 fz2 S2 ∧ Blk X8 g9 52 (opV q X I pa pn pc).toArray ∧ Blk X8 g10 42 (stV s nt (.slice ua bs.length uc)).toArray ∧ Own X8 (g9 + 1) (.slice ua bs.length uc) bs) ∧ Blk X8 g13 42 (stV (s + 1) (List.replicate 16 X) (.slice xa (bs ++ ys).length xc)).toArray ∧ Row X8 xa (bs ++ ys).length (bs ++ ys)) := Lib.hid (by have bb : Below Y2.heap.size Y2 X8 := (Below.refl _ Y2).drew.trans (by have z := HF8.out.1; rw [← hWz] at z; exact z); exact ⟨⟨D2.out.1.below bb, D2.out.2.1.below bb, D2.out.2.2.1.below bb, D2.out.2.2.2.below bb⟩, HF8.out.2.1, fit_own HF8.out.2.2.1⟩)
                have LEN : Hid ((bs ++ ys).length = bs.length + pn) := Lib.hid (by rw [List.length_append, YL.out])
                have NTZ := Lib.hid (nt_ok X (by have := QB.out; omega))
                clear E0
                have K0 : Hid ((PI w X8.drew b gs gm n rm lb (s + 1) (List.replicate 16 X) (bs ++ ys) va2 vc2 dc2 fz2 S2 ∧ Blk X8.drew g9 52 (opV q X I pa pn pc).toArray ∧ Blk X8.drew g10 42 (stV s nt (.slice ua bs.length uc)).toArray ∧ Own X8.drew (g9 + 1) (.slice ua bs.length uc) bs) ∧ Blk X8.drew g13 42 (stV (s + 1) (List.replicate 16 X) (.slice xa (bs ++ ys).length xc)).toArray ∧ Row X8.drew xa (bs ++ ys).length (bs ++ ys)) := Lib.hid (by have bb : Below X8.heap.size X8 X8.drew := (Below.refl _ X8).drew; exact ⟨⟨E2.out.1.1.below bb, E2.out.1.2.1.below bb, E2.out.1.2.2.1.below bb, E2.out.1.2.2.2.below bb⟩, E2.out.2.1.below bb, E2.out.2.2.keep bb⟩)
                go_upto_region 29 with (fail)
                refine region_anyT (fun Y => Blk Y g13 42 (stV (s + 1) (List.replicate 16 X) (.slice xa (bs ++ ys).length xc)).toArray ∧ Blk Y g9 52 (opV q X I pa pn pc).toArray) (by kernel_rfl) 19 19 rfl ?_
                refine wpAnyT_take (i := 0) (oi := ⟨some 142, _, _, _, _, _⟩) (v := .int .i64 0) rfl (by kernel_rfl) (by kernel_rfl) (by kernel_rfl) (fun _ _ _ h => h) (by kernel_rfl) (Or.inl ⟨rfl, fun w h => by kernel_rfl⟩) (⟨K0.out.2.1, K0.out.1.2.1⟩) ?_
                simp only [Act.put, List.setIfInBounds_toArray, List.set_cons_zero, List.set_cons_succ]
                refine wpAnyT_take (i := 1) (oi := ⟨some 143, _, _, _, _, _⟩) (v := .bool false) rfl (by kernel_rfl) (by kernel_rfl) (by kernel_rfl) (fun _ _ _ h => h) (by kernel_rfl) (Or.inl ⟨rfl, fun w h => by kernel_rfl⟩) (⟨K0.out.2.1, K0.out.1.2.1⟩) ?_
                simp only [Act.put, List.setIfInBounds_toArray, List.set_cons_zero, List.set_cons_succ]
                refine wpAnyT_take (i := 2) (oi := ⟨some 144, _, _, _, _, _⟩) (v := .bool false) rfl (by kernel_rfl) (by kernel_rfl) (by kernel_rfl) (fun _ _ _ h => h) (by kernel_rfl) (Or.inl ⟨rfl, fun w h => by kernel_rfl⟩) (⟨K0.out.2.1, K0.out.1.2.1⟩) ?_
                simp only [Act.put, List.setIfInBounds_toArray, List.set_cons_zero, List.set_cons_succ]
                refine wpAnyT_take (i := 3) (oi := ⟨some 145, _, _, _, _, _⟩) (v := .pointer (some ⟨lb, 0, none⟩)) rfl (by kernel_rfl) (by kernel_rfl) (by kernel_rfl) (fun _ _ _ h => h) (by kernel_rfl) (Or.inl ⟨rfl, fun w h => by kernel_rfl⟩) (⟨K0.out.2.1, K0.out.1.2.1⟩) ?_
                simp only [Act.put, List.setIfInBounds_toArray, List.set_cons_zero, List.set_cons_succ]
                refine wpAnyT_take (i := 5) (oi := ⟨some 147, _, _, _, _, _⟩) (v := .agg (stV (s + 1) (List.replicate 16 X) (.slice xa (bs ++ ys).length xc)).toArray) rfl (by kernel_rfl) (by kernel_rfl) (by kernel_rfl) (fun _ _ _ h => h) (by kernel_rfl) (Or.inl ⟨rfl, fun w h => run_load_mid _ _ _ 42 _ rfl g13 0 rfl (stV (s + 1) (List.replicate 16 X) (.slice xa (bs ++ ys).length xc)) _ (blk_range' h.1) Try.underlying42 rfl (by simp only [List.size_toArray, st_len NTZ.out] <;> kernel_rfl)⟩) (⟨K0.out.2.1, K0.out.1.2.1⟩) ?_
                simp only [Act.put, List.setIfInBounds_toArray, List.set_cons_zero, List.set_cons_succ]
                refine wpAnyT_one (i := 4) (by kernel_rfl) ?_
                refine op_call (o := ⟨some 146, _, _, _, _, _⟩) 21 #[.pointer (some ⟨lb, 0, none⟩)] rfl rfl (by kernel_rfl) ((state_any (ov := false) K0.out.1.1.2.2.1.1 K0.out.1.1.2.2.1.2.1 rfl (by have := K0.out.1.1.2.2.1.2.2.1; have := XR.out; omega)).mono fun e Z1 h => ?_)
                obtain ⟨ya, yc, he, bb, ow⟩ := h
                have L1 : Hid (((PI w Z1 b gs gm n rm lb (s + 1) (List.replicate 16 X) (bs ++ ys) va2 vc2 dc2 fz2 S2 ∧ Blk Z1 g9 52 (opV q X I pa pn pc).toArray ∧ Blk Z1 g10 42 (stV s nt (.slice ua bs.length uc)).toArray ∧ Own Z1 (g9 + 1) (.slice ua bs.length uc) bs) ∧ Blk Z1 g13 42 (stV (s + 1) (List.replicate 16 X) (.slice xa (bs ++ ys).length xc)).toArray ∧ Row Z1 xa (bs ++ ys).length (bs ++ ys)) ∧ Row Z1 ya (bs ++ ys).length (bs ++ ys)) := Lib.hid ⟨⟨⟨K0.out.1.1.below bb, K0.out.1.2.1.below bb, K0.out.1.2.2.1.below bb, K0.out.1.2.2.2.below bb⟩, K0.out.2.1.below bb, K0.out.2.2.keep bb⟩, fit_own ow⟩
                clear bb ow
                refine ⟨.agg (stV (s + 1) (List.replicate 16 X) (.slice ya (bs ++ ys).length yc)).toArray, he, fun _ => ⟨L1.out.1.2.1, L1.out.1.1.2.1⟩, ?_⟩
                simp only [Act.put, List.setIfInBounds_toArray, List.set_cons_zero, List.set_cons_succ]
                clear he
                refine wpAnyT_one (i := 6) (by kernel_rfl) ?_
                refine op_call (o := ⟨some 148, _, _, _, _, _⟩) 20 #[.agg (stV (s + 1) (List.replicate 16 X) (.slice ya (bs ++ ys).length yc)).toArray, .agg (stV (s + 1) (List.replicate 16 X) (.slice xa (bs ++ ys).length xc)).toArray] rfl rfl (by kernel_rfl) ((same_any Z1 (s + 1) (s + 1) (bs ++ ys).length (bs ++ ys).length yc xc (List.replicate 16 X) (List.replicate 16 X) (bs ++ ys) (bs ++ ys) ya xa NTZ.out NTZ.out L1.out.2 L1.out.1.2.2).mono fun e Z2 h => ?_)
                have bb := h.2
                have L2 : Hid ((PI w Z2 b gs gm n rm lb (s + 1) (List.replicate 16 X) (bs ++ ys) va2 vc2 dc2 fz2 S2 ∧ Blk Z2 g9 52 (opV q X I pa pn pc).toArray ∧ Blk Z2 g10 42 (stV s nt (.slice ua bs.length uc)).toArray ∧ Own Z2 (g9 + 1) (.slice ua bs.length uc) bs) ∧ Blk Z2 g13 42 (stV (s + 1) (List.replicate 16 X) (.slice xa (bs ++ ys).length xc)).toArray ∧ Row Z2 xa (bs ++ ys).length (bs ++ ys)) := Lib.hid ⟨⟨L1.out.1.1.1.below bb, L1.out.1.1.2.1.below bb, L1.out.1.1.2.2.1.below bb, L1.out.1.1.2.2.2.below bb⟩, L1.out.1.2.1.below bb, L1.out.1.2.2.keep bb⟩
                refine ⟨.bool true, h.1.trans (by simp), fun _ => ⟨L2.out.2.1, L2.out.1.2.1⟩, ?_⟩
                simp only [Act.put, List.setIfInBounds_toArray, List.set_cons_zero, List.set_cons_succ]
                clear h bb
                refine wpAnyT_take (i := 7) (oi := ⟨some 149, _, _, _, _, _⟩) (v := .bool false) rfl (by kernel_rfl) (by kernel_rfl) (by kernel_rfl) (fun _ _ _ h => h) (by kernel_rfl) (Or.inl ⟨rfl, fun w h => by kernel_rfl⟩) (⟨L2.out.2.1, L2.out.1.2.1⟩) ?_
                simp only [Act.put, List.setIfInBounds_toArray, List.set_cons_zero, List.set_cons_succ]
                refine wpAnyT_take (i := 8) (oi := ⟨some 150, _, _, _, _, _⟩) (v := .bool false) rfl (by kernel_rfl) (by kernel_rfl) (by kernel_rfl) (fun _ _ _ h => h) (by kernel_rfl) (Or.inl ⟨rfl, fun w h => by kernel_rfl⟩) (⟨L2.out.2.1, L2.out.1.2.1⟩) ?_
                simp only [Act.put, List.setIfInBounds_toArray, List.set_cons_zero, List.set_cons_succ]
                refine wpAnyT_take (i := 9) (oi := ⟨some 151, _, _, _, _, _⟩) (v := .bool false) rfl (by kernel_rfl) (by kernel_rfl) (by kernel_rfl) (fun _ _ _ h => h) (by kernel_rfl) (Or.inl ⟨rfl, fun w h => by kernel_rfl⟩) (⟨L2.out.2.1, L2.out.1.2.1⟩) ?_
                simp only [Act.put, List.setIfInBounds_toArray, List.set_cons_zero, List.set_cons_succ]
                refine wpAnyT_take (i := 10) (oi := ⟨some 152, _, _, _, _, _⟩) (v := .pointer (some ⟨lb, 0, none⟩)) rfl (by kernel_rfl) (by kernel_rfl) (by kernel_rfl) (fun _ _ _ h => h) (by kernel_rfl) (Or.inl ⟨rfl, fun w h => by kernel_rfl⟩) (⟨L2.out.2.1, L2.out.1.2.1⟩) ?_
                simp only [Act.put, List.setIfInBounds_toArray, List.set_cons_zero, List.set_cons_succ]
                refine wpAnyT_take (i := 12) (oi := ⟨some 154, _, _, _, _, _⟩) (v := .int .i64 ((rm : Int) * 64 - (bs.length : Int))) rfl (by kernel_rfl) (by kernel_rfl) (by kernel_rfl) (fun _ _ _ h => h) (by kernel_rfl) (Or.inl ⟨rfl, fun w h => by kernel_rfl⟩) (⟨L2.out.2.1, L2.out.1.2.1⟩) ?_
                simp only [Act.put, List.setIfInBounds_toArray, List.set_cons_zero, List.set_cons_succ]
                refine wpAnyT_take (i := 13) (oi := ⟨some 155, _, _, _, _, _⟩) (v := .pointer (some ⟨g9, 3, none⟩)) rfl (by kernel_rfl) (by kernel_rfl) (by kernel_rfl) (fun _ _ _ h => h) (by kernel_rfl) (Or.inl ⟨rfl, fun w h => by kernel_rfl⟩) (⟨L2.out.2.1, L2.out.1.2.1⟩) ?_
                simp only [Act.put, List.setIfInBounds_toArray, List.set_cons_zero, List.set_cons_succ]
                refine wpAnyT_take (i := 14) (oi := ⟨some 156, _, _, _, _, _⟩) (v := .slice pa pn pc) rfl (by kernel_rfl) (by kernel_rfl) (by kernel_rfl) (fun _ _ _ h => h) (by kernel_rfl) (Or.inl ⟨rfl, fun w h => run_load_one _ _ _ 26 _ _ rfl g9 3 rfl (by rw [(h.2).cell]; rfl) (by kernel_rfl)⟩) (⟨L2.out.2.1, L2.out.1.2.1⟩) ?_
                simp only [Act.put, List.setIfInBounds_toArray, List.set_cons_zero, List.set_cons_succ]
                refine wpAnyT_take (i := 15) (oi := ⟨some 157, _, _, _, _, _⟩) (v := .int .i64 (pn : Int)) rfl (by kernel_rfl) (by kernel_rfl) (by kernel_rfl) (fun _ _ _ h => h) (by kernel_rfl) (Or.inl ⟨rfl, fun w h => by kernel_rfl⟩) (⟨L2.out.2.1, L2.out.1.2.1⟩) ?_
                simp only [Act.put, List.setIfInBounds_toArray, List.set_cons_zero, List.set_cons_succ]
                refine wpAnyT_take (i := 16) (oi := ⟨some 158, _, _, _, _, _⟩) (v := .int .i64 ((rm : Int) * 64 - (bs.length : Int) - (pn : Int))) rfl (by kernel_rfl) (by kernel_rfl) (by kernel_rfl) (fun _ _ _ h => h) (by kernel_rfl) (Or.inl ⟨rfl, fun w h => run_subi Try.underlying3 rfl rfl rfl _ (by have := XR.out; have := HF.out; rw [wrap_in _ (by omega) (by omega)])⟩) (⟨L2.out.2.1, L2.out.1.2.1⟩) ?_
                simp only [Act.put, List.setIfInBounds_toArray, List.set_cons_zero, List.set_cons_succ]
                refine wpAnyT_one (i := 11) (by kernel_rfl) ?_
                refine op_call (o := ⟨some 153, _, _, _, _, _⟩) 22 #[.pointer (some ⟨lb, 0, none⟩)] rfl rfl (by kernel_rfl) ((roomD L2.out.1.1.2.2.1.1 va2 (bs ++ ys).length vc2 rfl (by have := L2.out.1.1.2.2.1.2.2.1; have := XR.out; omega)).mono fun e Z3 h => ?_)
                have bb := h.2
                have L3 : Hid ((PI w Z3 b gs gm n rm lb (s + 1) (List.replicate 16 X) (bs ++ ys) va2 vc2 dc2 fz2 S2 ∧ Blk Z3 g9 52 (opV q X I pa pn pc).toArray ∧ Blk Z3 g10 42 (stV s nt (.slice ua bs.length uc)).toArray ∧ Own Z3 (g9 + 1) (.slice ua bs.length uc) bs) ∧ Blk Z3 g13 42 (stV (s + 1) (List.replicate 16 X) (.slice xa (bs ++ ys).length xc)).toArray ∧ Row Z3 xa (bs ++ ys).length (bs ++ ys)) := Lib.hid ⟨⟨L2.out.1.1.below bb, L2.out.1.2.1.below bb, L2.out.1.2.2.1.below bb, L2.out.1.2.2.2.below bb⟩, L2.out.2.1.below bb, L2.out.2.2.keep bb⟩
                refine ⟨.int .i64 ((rm : Int) * 64 - ((bs ++ ys).length : Int)), h.1, fun _ => ⟨L3.out.2.1, L3.out.1.2.1⟩, ?_⟩
                simp only [Act.put, List.setIfInBounds_toArray, List.set_cons_zero, List.set_cons_succ]
                clear h bb
                refine wpAnyT_take (i := 17) (oi := ⟨some 159, _, _, _, _, _⟩) (v := .bool false) rfl (by kernel_rfl) (by kernel_rfl) (by kernel_rfl) (fun _ _ _ h => h) (by kernel_rfl) (Or.inl ⟨rfl, fun w h => run_nei Try.underlying3 rfl rfl rfl (by have := LEN.out; rw [decide_eq_false_iff_not]; omega)⟩) (⟨L3.out.2.1, L3.out.1.2.1⟩) ?_
                simp only [Act.put, List.setIfInBounds_toArray, List.set_cons_zero, List.set_cons_succ]
                refine wpAnyT_take (i := 18) (oi := ⟨some 160, _, _, _, _, _⟩) (v := .bool false) rfl (by kernel_rfl) (by kernel_rfl) (by kernel_rfl) (fun _ _ _ h => h) (by kernel_rfl) (Or.inl ⟨rfl, fun w h => by kernel_rfl⟩) (⟨L3.out.2.1, L3.out.1.2.1⟩) ?_
                simp only [Act.put, List.setIfInBounds_toArray, List.set_cons_zero, List.set_cons_succ]
                refine wpAnyT_done (by kernel_rfl) ?_ _
                go_upto_region 34 with (fail)
                refine wp_region_lit ?_
                refine wpL_pure (.pointer (some ⟨b, 0, none⟩)) rfl (by kernel_rfl) ?_
                simp only [Act.put, List.setIfInBounds_toArray, List.set_cons_zero, List.set_cons_succ]
                refine wpL_call 27 #[.pointer (some ⟨b, 0, none⟩)] rfl (by kernel_rfl) ((looseD L3.out.1.1.2.1).mono fun e Xj ⟨he, hx⟩ => ⟨.int .i64 0, (he.trans rfl), ?_⟩)
                simp only [Act.put, List.setIfInBounds_toArray, List.set_cons_zero, List.set_cons_succ]
                subst hx
                refine wpL_pure (.bool false) rfl (by kernel_rfl) ?_
                simp only [Act.put, List.setIfInBounds_toArray, List.set_cons_zero, List.set_cons_succ]
                refine wpL_pure (.bool false) rfl (by kernel_rfl) ?_
                simp only [Act.put, List.setIfInBounds_toArray, List.set_cons_zero, List.set_cons_succ]
                refine wpL_pure (.pointer (some ⟨lb, 0, none⟩)) rfl (by kernel_rfl) ?_
                simp only [Act.put, List.setIfInBounds_toArray, List.set_cons_zero, List.set_cons_succ]
                refine wpL_call 21 #[.pointer (some ⟨lb, 0, none⟩)] rfl (by kernel_rfl) ((state_any (ov := false) L3.out.1.1.2.2.1.1 L3.out.1.1.2.2.1.2.1 rfl (by have := L3.out.1.1.2.2.1.2.2.1; have := XR.out; omega)).mono ?_)
                rintro e T1 ⟨ya, yc, he, bb, ow⟩
                have J1 : Hid (PI w T1 b gs gm n rm lb (s + 1) (List.replicate 16 X) (bs ++ ys) va2 vc2 dc2 fz2 S2 ∧ Row T1 ya ((bs ++ ys)).length ((bs ++ ys))) := Lib.hid ⟨L3.out.1.1.below bb, fit_own ow⟩
                clear bb ow
                refine ⟨.agg (stV ((s + 1)) ((List.replicate 16 X)) (.slice ya ((bs ++ ys)).length yc)).toArray, he, ?_⟩
                simp only [Act.put, List.setIfInBounds_toArray, List.set_cons_zero, List.set_cons_succ]
                clear he
                refine wpL_pure (.pointer (some ⟨b, 0, none⟩)) rfl (by kernel_rfl) ?_
                simp only [Act.put, List.setIfInBounds_toArray, List.set_cons_zero, List.set_cons_succ]
                refine wpL_call 19 #[.pointer (some ⟨b, 0, none⟩), .int .i64 1] rfl (by kernel_rfl) ((secs_any J1.out.1.2.1 1 (by have := NR.out; omega)).mono ?_)
                rintro e T2 ⟨v, vals, he, bb, ow, lr⟩
                have LD : ((S2).drop 1).length = rm + 2 := by rw [List.length_drop, J1.out.1.2.1.2.2.2.1]; have := NR.out; omega
                obtain ⟨gr, cr, ev, c1, c2, sr⟩ := sr_of ow lr (by omega) (rm + 2) (by omega)
                rw [LD] at ev
                subst ev
                have J2 : Hid (PI w T2 b gs gm n rm lb (s + 1) (List.replicate 16 X) (bs ++ ys) va2 vc2 dc2 fz2 S2 ∧ Row T2 ya ((bs ++ ys)).length ((bs ++ ys)) ∧ SR T2 gr (rm + 2) (((S2).drop 1).take (rm + 2))) := Lib.hid ⟨J1.out.1.below bb, J1.out.2.keep bb, sr⟩
                clear LD bb ow lr c1 c2 sr
                refine ⟨.slice (some ⟨gr, 0, none⟩) (rm + 2) cr, he, ?_⟩
                simp only [Act.put, List.setIfInBounds_toArray, List.set_cons_zero, List.set_cons_succ]
                clear he
                refine wpL_call 18 #[.slice (some ⟨gr, 0, none⟩) (rm + 2) cr] rfl (by kernel_rfl) ((of_any T2 gr (rm + 2) cr rm _ J2.out.2.2 ⟨rfl, by have := XR.out; omega, by have := XR.out; omega⟩).mono ?_)
                rintro e T3 ⟨s', nt', bs', za, zc, he, bb, ow, op, hn, _⟩
                obtain ⟨es, en, eb⟩ := ((J2.out.1.2.2.2.1).cutL J2.out.1.2.2.1.2.2.1).inj op
                subst es
                subst en
                subst eb
                have J3 : Hid (PI w T3 b gs gm n rm lb (s + 1) (List.replicate 16 X) (bs ++ ys) va2 vc2 dc2 fz2 S2 ∧ Row T3 ya ((bs ++ ys)).length ((bs ++ ys)) ∧ Row T3 za ((bs ++ ys)).length ((bs ++ ys)) ∧ NtOk ((List.replicate 16 X))) := Lib.hid ⟨J2.out.1.below bb, J2.out.2.1.keep bb, fit_own ow, hn⟩
                clear bb ow op hn
                refine ⟨.agg (stV ((s + 1)) ((List.replicate 16 X)) (.slice za ((bs ++ ys)).length zc)).toArray, he, ?_⟩
                simp only [Act.put, List.setIfInBounds_toArray, List.set_cons_zero, List.set_cons_succ]
                clear he
                refine wpL_call 20 #[.agg (stV ((s + 1)) ((List.replicate 16 X)) (.slice ya ((bs ++ ys)).length yc)).toArray, .agg (stV ((s + 1)) ((List.replicate 16 X)) (.slice za ((bs ++ ys)).length zc)).toArray] rfl (by kernel_rfl) ((same_any T3 ((s + 1)) ((s + 1)) ((bs ++ ys)).length ((bs ++ ys)).length yc zc ((List.replicate 16 X)) ((List.replicate 16 X)) ((bs ++ ys)) ((bs ++ ys)) ya za J3.out.2.2.2 J3.out.2.2.2 J3.out.2.1 J3.out.2.2.1).mono fun e T4 ⟨he, bb⟩ => ⟨.bool true, (he.trans (by simp)), ?_⟩)
                simp only [Act.put, List.setIfInBounds_toArray, List.set_cons_zero, List.set_cons_succ]
                have J4 : Hid (PI w T4 b gs gm n rm lb (s + 1) (List.replicate 16 X) (bs ++ ys) va2 vc2 dc2 fz2 S2) := Lib.hid (J3.out.1.below bb)
                clear bb
                refine wpL_pure (.bool false) rfl (by kernel_rfl) ?_
                simp only [Act.put, List.setIfInBounds_toArray, List.set_cons_zero, List.set_cons_succ]
                refine wpL_pure (.bool false) rfl (by kernel_rfl) ?_
                simp only [Act.put, List.setIfInBounds_toArray, List.set_cons_zero, List.set_cons_succ]
                refine wpL_pure (.bool false) rfl (by kernel_rfl) ?_
                simp only [Act.put, List.setIfInBounds_toArray, List.set_cons_zero, List.set_cons_succ]
                refine wpL_pure (.pointer (some ⟨lb, 0, none⟩)) rfl (by kernel_rfl) ?_
                simp only [Act.put, List.setIfInBounds_toArray, List.set_cons_zero, List.set_cons_succ]
                refine wpL_call 23 #[.pointer (some ⟨lb, 0, none⟩)] rfl (by kernel_rfl) ((over_any J4.out.2.2.1.1).mono fun e T5 ⟨he, bb⟩ => ⟨.bool false, he, ?_⟩)
                simp only [Act.put, List.setIfInBounds_toArray, List.set_cons_zero, List.set_cons_succ]
                have J5 : Hid (PI w T5 b gs gm n rm lb (s + 1) (List.replicate 16 X) (bs ++ ys) va2 vc2 dc2 fz2 S2) := Lib.hid (J4.out.below bb)
                clear bb
                refine wpL_pure (.bool false) rfl (by kernel_rfl) ?_
                simp only [Act.put, List.setIfInBounds_toArray, List.set_cons_zero, List.set_cons_succ]
                go_upto_region 9 with (fail)
                refine wp_region_lit ?_
                refine wpL_pure (.int .i64 (k : Int)) rfl (by kernel_rfl) ?_
                simp only [Act.put, List.setIfInBounds_toArray, List.set_cons_zero, List.set_cons_succ]
                refine wpL_pure (.int .i64 ((k + 1 : Nat) : Int)) rfl (run_addi Try.underlying3 rfl rfl rfl _ (by have := HK.out; have := HN.out; rw [wrap_in _ (by omega) (by omega)]; omega)) ?_
                simp only [Act.put, List.setIfInBounds_toArray, List.set_cons_zero, List.set_cons_succ]
                refine wpL_pure (.int .i64 ((k + 1 : Nat) : Int)) rfl (by kernel_rfl) ?_
                simp only [Act.put, List.setIfInBounds_toArray, List.set_cons_zero, List.set_cons_succ]
                have NX : Hid (k + 1 ≤ ln ∧ ∃ (s : Nat) (nt bs : List Int) (va : Option Addr) (vc dc : Nat) (fz : Int) (S : List (List Int)), PI w T5 b gs gm n rm lb s nt bs va vc dc fz S) := Lib.hid ⟨HK.out, (s + 1), (List.replicate 16 X), (bs ++ ys), va2, vc2, dc2, fz2, S2, J5.out⟩
                unfold wpList
                go_roundw
                case rel => first | exact ⟨_, _, ⟨rfl, rfl⟩, NX⟩ | ((repeat apply Exists.intro); exact ⟨⟨_, _, ⟨rfl, rfl⟩, NX⟩, rfl⟩)
                case measure => simp [intOf]; have := HK.out; omega
            · have HF : Hid (rm * 64 < bs.length + pn) := Lib.hid (by omega)
              clear hf
              go_upto_region 24 with (fail)
              refine region_anyT (fun Y => Blk Y g9 52 (opV q X I pa pn pc).toArray ∧ True) (by kernel_rfl) 8 8 rfl ?_
              refine wpAnyT_take (i := 0) (oi := ⟨some 107, _, _, _, _, _⟩) (v := .pointer (some ⟨lb, 0, none⟩)) rfl (by kernel_rfl) (by kernel_rfl) (by kernel_rfl) (fun _ _ _ h => h) (by kernel_rfl) (Or.inl ⟨rfl, fun w h => by kernel_rfl⟩) (⟨D0.out.2.1, trivial⟩) ?_
              simp only [Act.put, List.setIfInBounds_toArray, List.set_cons_zero, List.set_cons_succ]
              refine wpAnyT_take (i := 1) (oi := ⟨some 108, _, _, _, _, _⟩) (v := .pointer (some ⟨g9, 3, none⟩)) rfl (by kernel_rfl) (by kernel_rfl) (by kernel_rfl) (fun _ _ _ h => h) (by kernel_rfl) (Or.inl ⟨rfl, fun w h => by kernel_rfl⟩) (⟨D0.out.2.1, trivial⟩) ?_
              simp only [Act.put, List.setIfInBounds_toArray, List.set_cons_zero, List.set_cons_succ]
              refine wpAnyT_take (i := 2) (oi := ⟨some 109, _, _, _, _, _⟩) (v := .slice pa pn pc) rfl (by kernel_rfl) (by kernel_rfl) (by kernel_rfl) (fun _ _ _ h => h) (by kernel_rfl) (Or.inl ⟨rfl, fun w h => run_load_one _ _ _ 26 _ _ rfl g9 3 rfl (by rw [(h.1).cell]; rfl) (by kernel_rfl)⟩) (⟨D0.out.2.1, trivial⟩) ?_
              simp only [Act.put, List.setIfInBounds_toArray, List.set_cons_zero, List.set_cons_succ]
              refine wpAnyT_take (i := 3) (oi := ⟨some 110, _, _, _, _, _⟩) (v := .pointer (some ⟨g9, 1, none⟩)) rfl (by kernel_rfl) (by kernel_rfl) (by kernel_rfl) (fun _ _ _ h => h) (by kernel_rfl) (Or.inl ⟨rfl, fun w h => by kernel_rfl⟩) (⟨D0.out.2.1, trivial⟩) ?_
              simp only [Act.put, List.setIfInBounds_toArray, List.set_cons_zero, List.set_cons_succ]
              refine wpAnyT_take (i := 4) (oi := ⟨some 111, _, _, _, _, _⟩) (v := .int .u8 X) rfl (by kernel_rfl) (by kernel_rfl) (by kernel_rfl) (fun _ _ _ h => h) (by kernel_rfl) (Or.inl ⟨rfl, fun w h => run_load_one _ _ _ 5 _ _ rfl g9 1 rfl (by rw [(h.1).cell]; rfl) (by kernel_rfl)⟩) (⟨D0.out.2.1, trivial⟩) ?_
              simp only [Act.put, List.setIfInBounds_toArray, List.set_cons_zero, List.set_cons_succ]
              refine wpAnyT_one (i := 5) (by kernel_rfl) ?_
              refine op_call (o := ⟨some 112, _, _, _, _, _⟩) 12 #[.int .u8 X] rfl rfl (by kernel_rfl) ((notef_any X6.drew X).mono fun e Y1 h => ?_)
              have bb := h.2
              have D1 : Hid (PI w Y1 b gs gm n rm lb s nt bs va vc dc fz S ∧ Blk Y1 g9 52 (opV q X I pa pn pc).toArray ∧ Blk Y1 g10 42 (stV s nt (.slice ua bs.length uc)).toArray ∧ Own Y1 (g9 + 1) (.slice ua bs.length uc) bs) := Lib.hid ⟨D0.out.1.below bb, D0.out.2.1.below bb, D0.out.2.2.1.below bb, D0.out.2.2.2.below bb⟩
              refine ⟨.agg (u8l (List.replicate 16 X)).toArray, h.1, fun _ => ⟨D1.out.2.1, trivial⟩, ?_⟩
              simp only [Act.put, List.setIfInBounds_toArray, List.set_cons_zero, List.set_cons_succ]
              clear h bb
              refine wpAnyT_one (i := 6) (by kernel_rfl) ?_
              refine op_call (o := ⟨some 113, _, _, _, _, _⟩) 11 #[.pointer (some ⟨lb, 0, none⟩), .slice pa pn pc, .agg (u8l (List.replicate 16 X)).toArray] rfl rfl (by kernel_rfl) ((app_full D1.out.1 HS.out pa pn pc ys HY.out (List.replicate 16 X) (nt_ok X (by have := QB.out; omega)) HF.out).mono fun e Y2 h => ?_)
              have bb := h.2
              have D2 : Hid (PI w Y2 b gs gm n rm lb s nt bs va vc dc fz S ∧ Blk Y2 g9 52 (opV q X I pa pn pc).toArray ∧ Blk Y2 g10 42 (stV s nt (.slice ua bs.length uc)).toArray ∧ Own Y2 (g9 + 1) (.slice ua bs.length uc) bs) := Lib.hid ⟨D1.out.1.below bb, D1.out.2.1.below bb, D1.out.2.2.1.below bb, D1.out.2.2.2.below bb⟩
              refine ⟨.int .i64 4, h.1, fun _ => ⟨D2.out.2.1, trivial⟩, ?_⟩
              simp only [Act.put, List.setIfInBounds_toArray, List.set_cons_zero, List.set_cons_succ]
              clear h bb
              refine wpAnyT_take (i := 7) (oi := ⟨some 12, _, _, _, _, _⟩) (v := .int .i64 4) rfl (by kernel_rfl) (by kernel_rfl) (by kernel_rfl) (fun _ _ _ h => h) (by kernel_rfl) (Or.inl ⟨rfl, fun w h => by kernel_rfl⟩) (⟨D2.out.2.1, trivial⟩) ?_
              simp only [Act.put, List.setIfInBounds_toArray, List.set_cons_zero, List.set_cons_succ]
              refine wpAnyT_done (by kernel_rfl) ?_ _
              go_upto_region 25 with (fail)
              refine wp_region_lit ?_
              refine wpL_pure (.pointer (some ⟨g9, 3, none⟩)) rfl (by kernel_rfl) ?_
              simp only [Act.put, List.setIfInBounds_toArray, List.set_cons_zero, List.set_cons_succ]
              refine wpL_pure (.slice pa pn pc) rfl (run_load_one _ _ _ 26 _ _ rfl (g9) (3) rfl (by rw [D2.out.2.1.cell]; rfl) (by kernel_rfl)) ?_
              simp only [Act.put, List.setIfInBounds_toArray, List.set_cons_zero, List.set_cons_succ]
              refine wpL_pure (.int .i64 (pn : Int)) rfl (by kernel_rfl) ?_
              simp only [Act.put, List.setIfInBounds_toArray, List.set_cons_zero, List.set_cons_succ]
              refine wpL_pure (.int .i64 ((rm : Int) * 64 - (bs.length : Int))) rfl (by kernel_rfl) ?_
              simp only [Act.put, List.setIfInBounds_toArray, List.set_cons_zero, List.set_cons_succ]
              refine wpL_pure (.bool true) rfl (run_gti Try.underlying3 rfl rfl rfl (by have := HF.out; rw [decide_eq_true_eq]; omega)) ?_
              simp only [Act.put, List.setIfInBounds_toArray, List.set_cons_zero, List.set_cons_succ]
              have E0 : Hid (PI w Y2.drew b gs gm n rm lb s nt bs va vc dc fz S ∧ Blk Y2.drew g9 52 (opV q X I pa pn pc).toArray ∧ Blk Y2.drew g10 42 (stV s nt (.slice ua bs.length uc)).toArray ∧ Own Y2.drew (g9 + 1) (.slice ua bs.length uc) bs) := Lib.hid (by have bb : Below Y2.heap.size Y2 Y2.drew := (Below.refl _ Y2).drew; exact ⟨D2.out.1.below bb, D2.out.2.1.below bb, D2.out.2.2.1.below bb, D2.out.2.2.2.below bb⟩)
              go_upto_region 26 with (fail)
              refine region_anyT (fun Y => Blk Y g10 42 (stV s nt (.slice ua bs.length uc)).toArray ∧ True) (by kernel_rfl) 9 9 rfl ?_
              refine wpAnyT_take (i := 0) (oi := ⟨some 119, _, _, _, _, _⟩) (v := .int .i64 4) rfl (by kernel_rfl) (by kernel_rfl) (by kernel_rfl) (fun _ _ _ h => h) (by kernel_rfl) (Or.inl ⟨rfl, fun w h => by kernel_rfl⟩) (⟨E0.out.2.2.1, trivial⟩) ?_
              simp only [Act.put, List.setIfInBounds_toArray, List.set_cons_zero, List.set_cons_succ]
              refine wpAnyT_take (i := 1) (oi := ⟨some 120, _, _, _, _, _⟩) (v := .bool false) rfl (by kernel_rfl) (by kernel_rfl) (by kernel_rfl) (fun _ _ _ h => h) (by kernel_rfl) (Or.inl ⟨rfl, fun w h => by kernel_rfl⟩) (⟨E0.out.2.2.1, trivial⟩) ?_
              simp only [Act.put, List.setIfInBounds_toArray, List.set_cons_zero, List.set_cons_succ]
              refine wpAnyT_take (i := 2) (oi := ⟨some 121, _, _, _, _, _⟩) (v := .bool false) rfl (by kernel_rfl) (by kernel_rfl) (by kernel_rfl) (fun _ _ _ h => h) (by kernel_rfl) (Or.inl ⟨rfl, fun w h => by kernel_rfl⟩) (⟨E0.out.2.2.1, trivial⟩) ?_
              simp only [Act.put, List.setIfInBounds_toArray, List.set_cons_zero, List.set_cons_succ]
              refine wpAnyT_take (i := 3) (oi := ⟨some 122, _, _, _, _, _⟩) (v := .pointer (some ⟨lb, 0, none⟩)) rfl (by kernel_rfl) (by kernel_rfl) (by kernel_rfl) (fun _ _ _ h => h) (by kernel_rfl) (Or.inl ⟨rfl, fun w h => by kernel_rfl⟩) (⟨E0.out.2.2.1, trivial⟩) ?_
              simp only [Act.put, List.setIfInBounds_toArray, List.set_cons_zero, List.set_cons_succ]
              refine wpAnyT_take (i := 5) (oi := ⟨some 124, _, _, _, _, _⟩) (v := .agg (stV s nt (.slice ua bs.length uc)).toArray) rfl (by kernel_rfl) (by kernel_rfl) (by kernel_rfl) (fun _ _ _ h => h) (by kernel_rfl) (Or.inl ⟨rfl, fun w h => run_load_mid _ _ _ 42 _ rfl g10 0 rfl (stV s nt (.slice ua bs.length uc)) _ (blk_range' h.1) Try.underlying42 rfl (by simp only [List.size_toArray, st_len NT.out] <;> kernel_rfl)⟩) (⟨E0.out.2.2.1, trivial⟩) ?_
              simp only [Act.put, List.setIfInBounds_toArray, List.set_cons_zero, List.set_cons_succ]
              refine wpAnyT_one (i := 4) (by kernel_rfl) ?_
              refine op_call (o := ⟨some 123, _, _, _, _, _⟩) 21 #[.pointer (some ⟨lb, 0, none⟩)] rfl rfl (by kernel_rfl) ((state_any (ov := false) E0.out.1.2.2.1.1 E0.out.1.2.2.1.2.1 rfl (by have := E0.out.1.2.2.1.2.2.1; have := XR.out; omega)).mono fun e Y3 h => ?_)
              obtain ⟨xa, xc, he, bb, ow⟩ := h
              have E1 : Hid ((PI w Y3 b gs gm n rm lb s nt bs va vc dc fz S ∧ Blk Y3 g9 52 (opV q X I pa pn pc).toArray ∧ Blk Y3 g10 42 (stV s nt (.slice ua bs.length uc)).toArray ∧ Own Y3 (g9 + 1) (.slice ua bs.length uc) bs) ∧ Row Y3 xa (bs).length (bs)) := Lib.hid ⟨⟨E0.out.1.below bb, E0.out.2.1.below bb, E0.out.2.2.1.below bb, E0.out.2.2.2.below bb⟩, fit_own ow⟩
              clear bb ow
              refine ⟨.agg (stV s nt (.slice xa (bs).length xc)).toArray, he, fun _ => ⟨E1.out.1.2.2.1, trivial⟩, ?_⟩
              simp only [Act.put, List.setIfInBounds_toArray, List.set_cons_zero, List.set_cons_succ]
              clear he
              refine wpAnyT_one (i := 6) (by kernel_rfl) ?_
              refine op_call (o := ⟨some 125, _, _, _, _, _⟩) 20 #[.agg (stV s nt (.slice xa bs.length xc)).toArray, .agg (stV s nt (.slice ua bs.length uc)).toArray] rfl rfl (by kernel_rfl) ((same_any Y3 s s bs.length bs.length xc uc nt nt bs bs xa ua NT.out NT.out E1.out.2 (fit_own E1.out.1.2.2.2)).mono fun e Y4 h => ?_)
              have bb := h.2
              have E2 : Hid (PI w Y4 b gs gm n rm lb s nt bs va vc dc fz S ∧ Blk Y4 g9 52 (opV q X I pa pn pc).toArray ∧ Blk Y4 g10 42 (stV s nt (.slice ua bs.length uc)).toArray ∧ Own Y4 (g9 + 1) (.slice ua bs.length uc) bs) := Lib.hid ⟨E1.out.1.1.below bb, E1.out.1.2.1.below bb, E1.out.1.2.2.1.below bb, E1.out.1.2.2.2.below bb⟩
              refine ⟨.bool true, h.1.trans (by simp), fun _ => ⟨E2.out.2.2.1, trivial⟩, ?_⟩
              simp only [Act.put, List.setIfInBounds_toArray, List.set_cons_zero, List.set_cons_succ]
              clear h bb
              refine wpAnyT_take (i := 7) (oi := ⟨some 126, _, _, _, _, _⟩) (v := .bool false) rfl (by kernel_rfl) (by kernel_rfl) (by kernel_rfl) (fun _ _ _ h => h) (by kernel_rfl) (Or.inl ⟨rfl, fun w h => by kernel_rfl⟩) (⟨E2.out.2.2.1, trivial⟩) ?_
              simp only [Act.put, List.setIfInBounds_toArray, List.set_cons_zero, List.set_cons_succ]
              refine wpAnyT_take (i := 8) (oi := ⟨some 127, _, _, _, _, _⟩) (v := .bool false) rfl (by kernel_rfl) (by kernel_rfl) (by kernel_rfl) (fun _ _ _ h => h) (by kernel_rfl) (Or.inl ⟨rfl, fun w h => by kernel_rfl⟩) (⟨E2.out.2.2.1, trivial⟩) ?_
              simp only [Act.put, List.setIfInBounds_toArray, List.set_cons_zero, List.set_cons_succ]
              refine wpAnyT_done (by kernel_rfl) ?_ _
              go_upto_region 9 with (fail)
              refine wp_region_lit ?_
              refine wpL_pure (.int .i64 (k : Int)) rfl (by kernel_rfl) ?_
              simp only [Act.put, List.setIfInBounds_toArray, List.set_cons_zero, List.set_cons_succ]
              refine wpL_pure (.int .i64 ((k + 1 : Nat) : Int)) rfl (run_addi Try.underlying3 rfl rfl rfl _ (by have := HK.out; have := HN.out; rw [wrap_in _ (by omega) (by omega)]; omega)) ?_
              simp only [Act.put, List.setIfInBounds_toArray, List.set_cons_zero, List.set_cons_succ]
              refine wpL_pure (.int .i64 ((k + 1 : Nat) : Int)) rfl (by kernel_rfl) ?_
              simp only [Act.put, List.setIfInBounds_toArray, List.set_cons_zero, List.set_cons_succ]
              have NX : Hid (k + 1 ≤ ln ∧ ∃ (s : Nat) (nt bs : List Int) (va : Option Addr) (vc dc : Nat) (fz : Int) (S : List (List Int)), PI w Y4 b gs gm n rm lb s nt bs va vc dc fz S) := Lib.hid ⟨HK.out, s, nt, bs, va, vc, dc, fz, S, E2.out.1⟩
              unfold wpList
              go_roundw
              case rel => first | exact ⟨_, _, ⟨rfl, rfl⟩, NX⟩ | ((repeat apply Exists.intro); exact ⟨⟨_, _, ⟨rfl, rfl⟩, NX⟩, rfl⟩)
              case measure => simp [intOf]; have := HK.out; omega
          · by_cases h1 : q % 5 = 1
            · have HQ : Hid (q % 5 = 1) := Lib.hid h1
              clear h0 h1
              go_upto_region 23 with (fail)
              refine wp_region_lit ?_
              refine wpL_pure (.bool false) rfl (run_eqi Try.underlying5 rfl rfl rfl (by have := HQ.out; rw [decide_eq_false_iff_not]; omega)) ?_
              simp only [Act.put, List.setIfInBounds_toArray, List.set_cons_zero, List.set_cons_succ]
              refine wpL_pure (.bool false) rfl (by kernel_rfl) ?_
              simp only [Act.put, List.setIfInBounds_toArray, List.set_cons_zero, List.set_cons_succ]
              go_upto_region 31 with (fail)
              refine wp_region_lit ?_
              refine wpL_pure (.bool true) rfl (run_eqi Try.underlying5 rfl rfl rfl (by have := HQ.out; rw [decide_eq_true_eq]; omega)) ?_
              simp only [Act.put, List.setIfInBounds_toArray, List.set_cons_zero, List.set_cons_succ]
              refine wpL_pure (.bool true) rfl (by kernel_rfl) ?_
              simp only [Act.put, List.setIfInBounds_toArray, List.set_cons_zero, List.set_cons_succ]
              have D0 : Hid (PI w X6.drew b gs gm n rm lb s nt bs va vc dc fz S ∧ Blk X6.drew g9 52 (opV q X I pa pn pc).toArray ∧ Blk X6.drew g10 42 (stV s nt (.slice ua bs.length uc)).toArray ∧ Own X6.drew (g9 + 1) (.slice ua bs.length uc) bs) := Lib.hid (by have bb : Below X6.heap.size X6 X6.drew := (Below.refl _ X6).drew; exact ⟨C6.out.1.below bb, C6.out.2.1.below bb, C6.out.2.2.1.below bb, C6.out.2.2.2.below bb⟩)
              go_upto_region 32 with (fail)
              refine region_anyT (fun Y => Blk Y g10 42 (stV s nt (.slice ua bs.length uc)).toArray ∧ True) (by kernel_rfl) 15 15 rfl ?_
              refine wpAnyT_take (i := 0) (oi := ⟨some 163, _, _, _, _, _⟩) (v := .pointer (some ⟨lb, 0, none⟩)) rfl (by kernel_rfl) (by kernel_rfl) (by kernel_rfl) (fun _ _ _ h => h) (by kernel_rfl) (Or.inl ⟨rfl, fun w h => by kernel_rfl⟩) (⟨D0.out.2.2.1, trivial⟩) ?_
              simp only [Act.put, List.setIfInBounds_toArray, List.set_cons_zero, List.set_cons_succ]
              refine wpAnyT_one (i := 1) (by kernel_rfl) ?_
              refine op_call (o := ⟨some 164, _, _, _, _, _⟩) 25 #[.pointer (some ⟨lb, 0, none⟩)] rfl rfl (by kernel_rfl) ((clr_px D0.out.1 HS.out).mono fun e Y1 h => ?_)
              obtain ⟨he, va2, vc2, dc2, fz2, S2, hp, fl⟩ := h
              have D1 : Hid (PI w Y1 b gs gm n rm lb (s + 1) nt [] va2 vc2 dc2 fz2 S2 ∧ Blk Y1 g10 42 (stV s nt (.slice ua bs.length uc)).toArray) := Lib.hid ⟨hp, fl.blk D0.out.2.2.1 (fun z => by have t1 := NUM.out.1 g10 z; have t2 := NUM.out.2.1; omega)⟩
              clear hp fl
              refine ⟨.int .i64 0, he, fun _ => ⟨D1.out.2, trivial⟩, ?_⟩
              simp only [Act.put, List.setIfInBounds_toArray, List.set_cons_zero, List.set_cons_succ]
              clear he
              refine wpAnyT_take (i := 2) (oi := ⟨some 165, _, _, _, _, _⟩) (v := .bool false) rfl (by kernel_rfl) (by kernel_rfl) (by kernel_rfl) (fun _ _ _ h => h) (by kernel_rfl) (Or.inl ⟨rfl, fun w h => by kernel_rfl⟩) (⟨D1.out.2, trivial⟩) ?_
              simp only [Act.put, List.setIfInBounds_toArray, List.set_cons_zero, List.set_cons_succ]
              refine wpAnyT_take (i := 3) (oi := ⟨some 166, _, _, _, _, _⟩) (v := .bool false) rfl (by kernel_rfl) (by kernel_rfl) (by kernel_rfl) (fun _ _ _ h => h) (by kernel_rfl) (Or.inl ⟨rfl, fun w h => by kernel_rfl⟩) (⟨D1.out.2, trivial⟩) ?_
              simp only [Act.put, List.setIfInBounds_toArray, List.set_cons_zero, List.set_cons_succ]
              refine wpAnyT_take (i := 4) (oi := ⟨some 167, _, _, _, _, _⟩) (v := .pointer (some ⟨lb, 0, none⟩)) rfl (by kernel_rfl) (by kernel_rfl) (by kernel_rfl) (fun _ _ _ h => h) (by kernel_rfl) (Or.inl ⟨rfl, fun w h => by kernel_rfl⟩) (⟨D1.out.2, trivial⟩) ?_
              simp only [Act.put, List.setIfInBounds_toArray, List.set_cons_zero, List.set_cons_succ]
              refine wpAnyT_take (i := 6) (oi := ⟨some 169, _, _, _, _, _⟩) (v := .pointer (some ⟨g10, 0, none⟩)) rfl (by kernel_rfl) (by kernel_rfl) (by kernel_rfl) (fun _ _ _ h => h) (by kernel_rfl) (Or.inl ⟨rfl, fun w h => by kernel_rfl⟩) (⟨D1.out.2, trivial⟩) ?_
              simp only [Act.put, List.setIfInBounds_toArray, List.set_cons_zero, List.set_cons_succ]
              refine wpAnyT_take (i := 7) (oi := ⟨some 170, _, _, _, _, _⟩) (v := .int .u64 ((s : Nat) : Int)) rfl (by kernel_rfl) (by kernel_rfl) (by kernel_rfl) (fun _ _ _ h => h) (by kernel_rfl) (Or.inl ⟨rfl, fun w h => run_load_one _ _ _ 35 _ _ rfl g10 0 rfl (by rw [(h.1).cell]; rfl) (by kernel_rfl)⟩) (⟨D1.out.2, trivial⟩) ?_
              simp only [Act.put, List.setIfInBounds_toArray, List.set_cons_zero, List.set_cons_succ]
              refine wpAnyT_take (i := 8) (oi := ⟨some 171, _, _, _, _, _⟩) (v := .int .u64 ((s + 1 : Nat) : Int)) rfl (by kernel_rfl) (by kernel_rfl) (by kernel_rfl) (fun _ _ _ h => h) (by kernel_rfl) (Or.inl ⟨rfl, fun w h => run_addi Try.underlying35 rfl rfl rfl _ (by have := HS.out; rw [IntKind.wrap_u64]; omega)⟩) (⟨D1.out.2, trivial⟩) ?_
              simp only [Act.put, List.setIfInBounds_toArray, List.set_cons_zero, List.set_cons_succ]
              refine wpAnyT_take (i := 9) (oi := ⟨some 172, _, _, _, _, _⟩) (v := .pointer (some ⟨g10, 1, none⟩)) rfl (by kernel_rfl) (by kernel_rfl) (by kernel_rfl) (fun _ _ _ h => h) (by kernel_rfl) (Or.inl ⟨rfl, fun w h => by kernel_rfl⟩) (⟨D1.out.2, trivial⟩) ?_
              simp only [Act.put, List.setIfInBounds_toArray, List.set_cons_zero, List.set_cons_succ]
              refine wpAnyT_take (i := 10) (oi := ⟨some 173, _, _, _, _, _⟩) (v := .agg (u8l nt).toArray) rfl (by kernel_rfl) (by kernel_rfl) (by kernel_rfl) (fun _ _ _ h => h) (by kernel_rfl) (Or.inl ⟨rfl, fun w h => run_load_mid _ _ _ 32 _ rfl g10 1 rfl (u8l nt) _ (st_note h.1) Try.underlying32 rfl (by simp only [List.size_toArray, u8l_len, NT.out.1] <;> kernel_rfl)⟩) (⟨D1.out.2, trivial⟩) ?_
              simp only [Act.put, List.setIfInBounds_toArray, List.set_cons_zero, List.set_cons_succ]
              refine wpAnyT_take (i := 11) (oi := ⟨some 174, _, _, _, _, _⟩) (v := .agg (stV (s + 1) nt (.slice none 0 0)).toArray) rfl (by kernel_rfl) (by kernel_rfl) (by kernel_rfl) (fun _ _ _ h => h) (by kernel_rfl) (Or.inl ⟨rfl, fun w h => run_build42n _ _ _ _ _ _ _ NT.out.1 rfl rfl rfl⟩) (⟨D1.out.2, trivial⟩) ?_
              simp only [Act.put, List.setIfInBounds_toArray, List.set_cons_zero, List.set_cons_succ]
              refine wpAnyT_one (i := 5) (by kernel_rfl) ?_
              refine op_call (o := ⟨some 168, _, _, _, _, _⟩) 21 #[.pointer (some ⟨lb, 0, none⟩)] rfl rfl (by kernel_rfl) ((state_any (ov := false) D1.out.1.2.2.1.1 D1.out.1.2.2.1.2.1 rfl (by have := D1.out.1.2.2.1.2.2.1; have := XR.out; omega)).mono fun e Y2 h => ?_)
              obtain ⟨xa, xc, he, bb, ow⟩ := h
              have D2 : Hid ((PI w Y2 b gs gm n rm lb (s + 1) nt [] va2 vc2 dc2 fz2 S2 ∧ Blk Y2 g10 42 (stV s nt (.slice ua bs.length uc)).toArray) ∧ Row Y2 xa (([] : List Int)).length (([] : List Int))) := Lib.hid ⟨⟨D1.out.1.below bb, D1.out.2.below bb⟩, fit_own ow⟩
              clear bb ow
              refine ⟨.agg (stV (s + 1) nt (.slice xa (([] : List Int)).length xc)).toArray, he, fun _ => ⟨D2.out.1.2, trivial⟩, ?_⟩
              simp only [Act.put, List.setIfInBounds_toArray, List.set_cons_zero, List.set_cons_succ]
              clear he
              refine wpAnyT_one (i := 12) (by kernel_rfl) ?_
              refine op_call (o := ⟨some 175, _, _, _, _, _⟩) 20 #[.agg (stV (s + 1) nt (.slice xa ([] : List Int).length xc)).toArray, .agg (stV (s + 1) nt (.slice none 0 0)).toArray] rfl rfl (by kernel_rfl) ((same_any Y2 (s + 1) (s + 1) ([] : List Int).length 0 xc 0 nt nt [] [] xa none NT.out NT.out D2.out.2 (Row.nil _ _)).mono fun e Y3 h => ?_)
              have bb := h.2
              have D3 : Hid (PI w Y3 b gs gm n rm lb (s + 1) nt [] va2 vc2 dc2 fz2 S2 ∧ Blk Y3 g10 42 (stV s nt (.slice ua bs.length uc)).toArray) := Lib.hid ⟨D2.out.1.1.below bb, D2.out.1.2.below bb⟩
              refine ⟨.bool true, h.1.trans (by simp), fun _ => ⟨D3.out.2, trivial⟩, ?_⟩
              simp only [Act.put, List.setIfInBounds_toArray, List.set_cons_zero, List.set_cons_succ]
              clear h bb
              refine wpAnyT_take (i := 13) (oi := ⟨some 176, _, _, _, _, _⟩) (v := .bool false) rfl (by kernel_rfl) (by kernel_rfl) (by kernel_rfl) (fun _ _ _ h => h) (by kernel_rfl) (Or.inl ⟨rfl, fun w h => by kernel_rfl⟩) (⟨D3.out.2, trivial⟩) ?_
              simp only [Act.put, List.setIfInBounds_toArray, List.set_cons_zero, List.set_cons_succ]
              refine wpAnyT_take (i := 14) (oi := ⟨some 177, _, _, _, _, _⟩) (v := .bool false) rfl (by kernel_rfl) (by kernel_rfl) (by kernel_rfl) (fun _ _ _ h => h) (by kernel_rfl) (Or.inl ⟨rfl, fun w h => by kernel_rfl⟩) (⟨D3.out.2, trivial⟩) ?_
              simp only [Act.put, List.setIfInBounds_toArray, List.set_cons_zero, List.set_cons_succ]
              refine wpAnyT_done (by kernel_rfl) ?_ _
              go_upto_region 34 with (fail)
              refine wp_region_lit ?_
              refine wpL_pure (.pointer (some ⟨b, 0, none⟩)) rfl (by kernel_rfl) ?_
              simp only [Act.put, List.setIfInBounds_toArray, List.set_cons_zero, List.set_cons_succ]
              refine wpL_call 27 #[.pointer (some ⟨b, 0, none⟩)] rfl (by kernel_rfl) ((looseD D3.out.1.2.1).mono fun e Xj ⟨he, hx⟩ => ⟨.int .i64 0, (he.trans rfl), ?_⟩)
              simp only [Act.put, List.setIfInBounds_toArray, List.set_cons_zero, List.set_cons_succ]
              subst hx
              refine wpL_pure (.bool false) rfl (by kernel_rfl) ?_
              simp only [Act.put, List.setIfInBounds_toArray, List.set_cons_zero, List.set_cons_succ]
              refine wpL_pure (.bool false) rfl (by kernel_rfl) ?_
              simp only [Act.put, List.setIfInBounds_toArray, List.set_cons_zero, List.set_cons_succ]
              refine wpL_pure (.pointer (some ⟨lb, 0, none⟩)) rfl (by kernel_rfl) ?_
              simp only [Act.put, List.setIfInBounds_toArray, List.set_cons_zero, List.set_cons_succ]
              refine wpL_call 21 #[.pointer (some ⟨lb, 0, none⟩)] rfl (by kernel_rfl) ((state_any (ov := false) D3.out.1.2.2.1.1 D3.out.1.2.2.1.2.1 rfl (by have := D3.out.1.2.2.1.2.2.1; have := XR.out; omega)).mono ?_)
              rintro e T1 ⟨ya, yc, he, bb, ow⟩
              have J1 : Hid (PI w T1 b gs gm n rm lb (s + 1) nt ([] : List Int) va2 vc2 dc2 fz2 S2 ∧ Row T1 ya (([] : List Int)).length (([] : List Int))) := Lib.hid ⟨D3.out.1.below bb, fit_own ow⟩
              clear bb ow
              refine ⟨.agg (stV ((s + 1)) (nt) (.slice ya (([] : List Int)).length yc)).toArray, he, ?_⟩
              simp only [Act.put, List.setIfInBounds_toArray, List.set_cons_zero, List.set_cons_succ]
              clear he
              refine wpL_pure (.pointer (some ⟨b, 0, none⟩)) rfl (by kernel_rfl) ?_
              simp only [Act.put, List.setIfInBounds_toArray, List.set_cons_zero, List.set_cons_succ]
              refine wpL_call 19 #[.pointer (some ⟨b, 0, none⟩), .int .i64 1] rfl (by kernel_rfl) ((secs_any J1.out.1.2.1 1 (by have := NR.out; omega)).mono ?_)
              rintro e T2 ⟨v, vals, he, bb, ow, lr⟩
              have LD : ((S2).drop 1).length = rm + 2 := by rw [List.length_drop, J1.out.1.2.1.2.2.2.1]; have := NR.out; omega
              obtain ⟨gr, cr, ev, c1, c2, sr⟩ := sr_of ow lr (by omega) (rm + 2) (by omega)
              rw [LD] at ev
              subst ev
              have J2 : Hid (PI w T2 b gs gm n rm lb (s + 1) nt ([] : List Int) va2 vc2 dc2 fz2 S2 ∧ Row T2 ya (([] : List Int)).length (([] : List Int)) ∧ SR T2 gr (rm + 2) (((S2).drop 1).take (rm + 2))) := Lib.hid ⟨J1.out.1.below bb, J1.out.2.keep bb, sr⟩
              clear LD bb ow lr c1 c2 sr
              refine ⟨.slice (some ⟨gr, 0, none⟩) (rm + 2) cr, he, ?_⟩
              simp only [Act.put, List.setIfInBounds_toArray, List.set_cons_zero, List.set_cons_succ]
              clear he
              refine wpL_call 18 #[.slice (some ⟨gr, 0, none⟩) (rm + 2) cr] rfl (by kernel_rfl) ((of_any T2 gr (rm + 2) cr rm _ J2.out.2.2 ⟨rfl, by have := XR.out; omega, by have := XR.out; omega⟩).mono ?_)
              rintro e T3 ⟨s', nt', bs', za, zc, he, bb, ow, op, hn, _⟩
              obtain ⟨es, en, eb⟩ := ((J2.out.1.2.2.2.1).cutL J2.out.1.2.2.1.2.2.1).inj op
              subst es
              subst en
              subst eb
              have J3 : Hid (PI w T3 b gs gm n rm lb (s + 1) nt ([] : List Int) va2 vc2 dc2 fz2 S2 ∧ Row T3 ya (([] : List Int)).length (([] : List Int)) ∧ Row T3 za (([] : List Int)).length (([] : List Int)) ∧ NtOk (nt)) := Lib.hid ⟨J2.out.1.below bb, J2.out.2.1.keep bb, fit_own ow, hn⟩
              clear bb ow op hn
              refine ⟨.agg (stV ((s + 1)) (nt) (.slice za (([] : List Int)).length zc)).toArray, he, ?_⟩
              simp only [Act.put, List.setIfInBounds_toArray, List.set_cons_zero, List.set_cons_succ]
              clear he
              refine wpL_call 20 #[.agg (stV ((s + 1)) (nt) (.slice ya (([] : List Int)).length yc)).toArray, .agg (stV ((s + 1)) (nt) (.slice za (([] : List Int)).length zc)).toArray] rfl (by kernel_rfl) ((same_any T3 ((s + 1)) ((s + 1)) (([] : List Int)).length (([] : List Int)).length yc zc (nt) (nt) (([] : List Int)) (([] : List Int)) ya za J3.out.2.2.2 J3.out.2.2.2 J3.out.2.1 J3.out.2.2.1).mono fun e T4 ⟨he, bb⟩ => ⟨.bool true, (he.trans (by simp)), ?_⟩)
              simp only [Act.put, List.setIfInBounds_toArray, List.set_cons_zero, List.set_cons_succ]
              have J4 : Hid (PI w T4 b gs gm n rm lb (s + 1) nt ([] : List Int) va2 vc2 dc2 fz2 S2) := Lib.hid (J3.out.1.below bb)
              clear bb
              refine wpL_pure (.bool false) rfl (by kernel_rfl) ?_
              simp only [Act.put, List.setIfInBounds_toArray, List.set_cons_zero, List.set_cons_succ]
              refine wpL_pure (.bool false) rfl (by kernel_rfl) ?_
              simp only [Act.put, List.setIfInBounds_toArray, List.set_cons_zero, List.set_cons_succ]
              refine wpL_pure (.bool false) rfl (by kernel_rfl) ?_
              simp only [Act.put, List.setIfInBounds_toArray, List.set_cons_zero, List.set_cons_succ]
              refine wpL_pure (.pointer (some ⟨lb, 0, none⟩)) rfl (by kernel_rfl) ?_
              simp only [Act.put, List.setIfInBounds_toArray, List.set_cons_zero, List.set_cons_succ]
              refine wpL_call 23 #[.pointer (some ⟨lb, 0, none⟩)] rfl (by kernel_rfl) ((over_any J4.out.2.2.1.1).mono fun e T5 ⟨he, bb⟩ => ⟨.bool false, he, ?_⟩)
              simp only [Act.put, List.setIfInBounds_toArray, List.set_cons_zero, List.set_cons_succ]
              have J5 : Hid (PI w T5 b gs gm n rm lb (s + 1) nt ([] : List Int) va2 vc2 dc2 fz2 S2) := Lib.hid (J4.out.below bb)
              clear bb
              refine wpL_pure (.bool false) rfl (by kernel_rfl) ?_
              simp only [Act.put, List.setIfInBounds_toArray, List.set_cons_zero, List.set_cons_succ]
              go_upto_region 9 with (fail)
              refine wp_region_lit ?_
              refine wpL_pure (.int .i64 (k : Int)) rfl (by kernel_rfl) ?_
              simp only [Act.put, List.setIfInBounds_toArray, List.set_cons_zero, List.set_cons_succ]
              refine wpL_pure (.int .i64 ((k + 1 : Nat) : Int)) rfl (run_addi Try.underlying3 rfl rfl rfl _ (by have := HK.out; have := HN.out; rw [wrap_in _ (by omega) (by omega)]; omega)) ?_
              simp only [Act.put, List.setIfInBounds_toArray, List.set_cons_zero, List.set_cons_succ]
              refine wpL_pure (.int .i64 ((k + 1 : Nat) : Int)) rfl (by kernel_rfl) ?_
              simp only [Act.put, List.setIfInBounds_toArray, List.set_cons_zero, List.set_cons_succ]
              have NX : Hid (k + 1 ≤ ln ∧ ∃ (s : Nat) (nt bs : List Int) (va : Option Addr) (vc dc : Nat) (fz : Int) (S : List (List Int)), PI w T5 b gs gm n rm lb s nt bs va vc dc fz S) := Lib.hid ⟨HK.out, (s + 1), nt, ([] : List Int), va2, vc2, dc2, fz2, S2, J5.out⟩
              unfold wpList
              go_roundw
              case rel => first | exact ⟨_, _, ⟨rfl, rfl⟩, NX⟩ | ((repeat apply Exists.intro); exact ⟨⟨_, _, ⟨rfl, rfl⟩, NX⟩, rfl⟩)
              case measure => simp [intOf]; have := HK.out; omega
            · have HQ : Hid (¬ q % 5 = 0 ∧ ¬ q % 5 = 1) := Lib.hid ⟨h0, h1⟩
              clear h0 h1
              go_upto_region 23 with (fail)
              refine wp_region_lit ?_
              refine wpL_pure (.bool false) rfl (run_eqi Try.underlying5 rfl rfl rfl (by have := HQ.out; rw [decide_eq_false_iff_not]; omega)) ?_
              simp only [Act.put, List.setIfInBounds_toArray, List.set_cons_zero, List.set_cons_succ]
              refine wpL_pure (.bool false) rfl (by kernel_rfl) ?_
              simp only [Act.put, List.setIfInBounds_toArray, List.set_cons_zero, List.set_cons_succ]
              go_upto_region 31 with (fail)
              refine wp_region_lit ?_
              refine wpL_pure (.bool false) rfl (run_eqi Try.underlying5 rfl rfl rfl (by have := HQ.out; rw [decide_eq_false_iff_not]; omega)) ?_
              simp only [Act.put, List.setIfInBounds_toArray, List.set_cons_zero, List.set_cons_succ]
              refine wpL_pure (.bool false) rfl (by kernel_rfl) ?_
              simp only [Act.put, List.setIfInBounds_toArray, List.set_cons_zero, List.set_cons_succ]
              by_cases h4 : q % 5 = 4
              · have H4 := Lib.hid h4
                clear h4
                go_upto_region 16 with (fail)
                refine wp_region_lit ?_
                refine wpL_pure (.pointer (some ⟨g9, 0, none⟩)) rfl (by kernel_rfl) ?_
                simp only [Act.put, List.setIfInBounds_toArray, List.set_cons_zero, List.set_cons_succ]
                refine wpL_pure (.int .u8 q) rfl (run_load_one _ _ _ 5 _ _ rfl (g9) (0) rfl (by rw [C6.out.2.1.cell]; rfl) (by kernel_rfl)) ?_
                simp only [Act.put, List.setIfInBounds_toArray, List.set_cons_zero, List.set_cons_succ]
                refine wpL_pure (.int .u8 (q % 5)) rfl (run_rem5 _ _ _ _ q rfl rfl QB.out.1) ?_
                simp only [Act.put, List.setIfInBounds_toArray, List.set_cons_zero, List.set_cons_succ]
                refine wpL_pure (.bool true) rfl (run_eqi Try.underlying5 rfl rfl rfl (by have := H4.out; rw [decide_eq_true_eq]; omega)) ?_
                simp only [Act.put, List.setIfInBounds_toArray, List.set_cons_zero, List.set_cons_succ]
                have D0 : Hid (DI w X6.drew b gs gm n ∧ Blk X6.drew g9 52 (opV q X I pa pn pc).toArray) := Lib.hid (by have bb : Below X6.heap.size X6 X6.drew := (Below.refl _ X6).drew; exact ⟨C6.out.1.di.below bb, C6.out.2.1.below bb⟩)
                go_upto_region 17 with (fail)
                refine region_anyT (fun Y => Blk Y g9 52 (opV q X I pa pn pc).toArray ∧ True) (by kernel_rfl) 7 7 rfl ?_
                refine wpAnyT_take (i := 0) (oi := ⟨some 83, _, _, _, _, _⟩) (v := .pointer (some ⟨b, 0, none⟩)) rfl (by kernel_rfl) (by kernel_rfl) (by kernel_rfl) (fun _ _ _ h => h) (by kernel_rfl) (Or.inl ⟨rfl, fun w h => by kernel_rfl⟩) (⟨D0.out.2, trivial⟩) ?_
                simp only [Act.put, List.setIfInBounds_toArray, List.set_cons_zero, List.set_cons_succ]
                refine wpAnyT_take (i := 1) (oi := ⟨some 84, _, _, _, _, _⟩) (v := .pointer (some ⟨g9, 2, none⟩)) rfl (by kernel_rfl) (by kernel_rfl) (by kernel_rfl) (fun _ _ _ h => h) (by kernel_rfl) (Or.inl ⟨rfl, fun w h => by kernel_rfl⟩) (⟨D0.out.2, trivial⟩) ?_
                simp only [Act.put, List.setIfInBounds_toArray, List.set_cons_zero, List.set_cons_succ]
                refine wpAnyT_take (i := 2) (oi := ⟨some 85, _, _, _, _, _⟩) (v := .int .i64 I) rfl (by kernel_rfl) (by kernel_rfl) (by kernel_rfl) (fun _ _ _ h => h) (by kernel_rfl) (Or.inl ⟨rfl, fun w h => run_load_one _ _ _ 3 _ _ rfl g9 2 rfl (by rw [(h.1).cell]; rfl) (by kernel_rfl)⟩) (⟨D0.out.2, trivial⟩) ?_
                simp only [Act.put, List.setIfInBounds_toArray, List.set_cons_zero, List.set_cons_succ]
                refine wpAnyT_take (i := 3) (oi := ⟨some 86, _, _, _, _, _⟩) (v := .pointer (some ⟨g9, 3, none⟩)) rfl (by kernel_rfl) (by kernel_rfl) (by kernel_rfl) (fun _ _ _ h => h) (by kernel_rfl) (Or.inl ⟨rfl, fun w h => by kernel_rfl⟩) (⟨D0.out.2, trivial⟩) ?_
                simp only [Act.put, List.setIfInBounds_toArray, List.set_cons_zero, List.set_cons_succ]
                refine wpAnyT_take (i := 4) (oi := ⟨some 87, _, _, _, _, _⟩) (v := .slice pa pn pc) rfl (by kernel_rfl) (by kernel_rfl) (by kernel_rfl) (fun _ _ _ h => h) (by kernel_rfl) (Or.inl ⟨rfl, fun w h => run_load_one _ _ _ 26 _ _ rfl g9 3 rfl (by rw [(h.1).cell]; rfl) (by kernel_rfl)⟩) (⟨D0.out.2, trivial⟩) ?_
                simp only [Act.put, List.setIfInBounds_toArray, List.set_cons_zero, List.set_cons_succ]
                refine wpAnyT_one (i := 5) (by kernel_rfl) ?_
                refine op_call (o := ⟨some 88, _, _, _, _, _⟩) 17 #[.int .u8 0, .slice pa pn pc] rfl rfl (by kernel_rfl) ((full_any X6.drew 0 (by omega) pa pn pc ys (HY.out.1.keep D0.out.1.1)).mono fun e Y1 h => ?_)
                obtain ⟨v9, he, ho, bb⟩ := h
                obtain ⟨g88, c88, e88, r88, _, _, m88⟩ := own_slice64 ho (fullL_len _ _ _)
                subst e88
                have D1 : Hid (DI w Y1 b gs gm n ∧ Blk Y1 g9 52 (opV q X I pa pn pc).toArray ∧ Row Y1 (some ⟨g88, 0, none⟩) 64 (fullL 0 ys 64) ∧ (g88 ≠ b ∧ g88 ≠ gs ∧ g88 ≠ gm)) := Lib.hid (by obtain ⟨Lx, dcx, fzx, Sx, dx⟩ := D0.out.1.2.1; have l := dx.lts; exact ⟨D0.out.1.below bb, D0.out.2.below bb, r88, by omega, by omega, by omega⟩)
                clear ho bb r88 m88
                refine ⟨.slice (some ⟨g88, 0, none⟩) 64 c88, he, fun _ => ⟨D1.out.2.1, trivial⟩, ?_⟩
                simp only [Act.put, List.setIfInBounds_toArray, List.set_cons_zero, List.set_cons_succ]
                clear he
                refine wpAnyT_one (i := 6) (by kernel_rfl) ?_
                refine op_call (o := ⟨some 89, _, _, _, _, _⟩) 16 #[.pointer (some ⟨b, 0, none⟩), .int .i64 I, .slice (some ⟨g88, 0, none⟩) 64 c88] rfl rfl (by kernel_rfl) ((write_di D1.out.1 I (some ⟨g88, 0, none⟩) c88 _ D1.out.2.2.1 (fun p hp => by cases hp; exact D1.out.2.2.2)).mono fun e Y2 h => ?_)
                obtain ⟨⟨r, he⟩, hd, fd⟩ := h
                have D2 : Hid (DI w Y2 b gs gm n ∧ Blk Y2 g9 52 (opV q X I pa pn pc).toArray) := Lib.hid ⟨hd, (Fl.fd (p := fun k => k = b ∨ k = gs ∨ k = gm) fd (.inl rfl) (.inr (.inl rfl)) (.inr (.inr rfl))).blk D1.out.2.1 (fun z => by have t1 := NUM.out.1 b (.inl rfl); have t2 := NUM.out.1 gs (.inr (.inl rfl)); have t3 := NUM.out.1 gm (.inr (.inr (.inl rfl))); omega)⟩
                clear hd fd
                refine ⟨.int .i64 r, he, fun _ => ⟨D2.out.2, trivial⟩, ?_⟩
                simp only [Act.put, List.setIfInBounds_toArray, List.set_cons_zero, List.set_cons_succ]
                clear he
                refine wpAnyT_done (by kernel_rfl) ?_ _
                go_upto_region 18 with (fail)
                refine wp_region_lit ?_
                refine wpL_pure (.pointer (some ⟨b, 0, none⟩)) rfl (by kernel_rfl) ?_
                simp only [Act.put, List.setIfInBounds_toArray, List.set_cons_zero, List.set_cons_succ]
                obtain ⟨V1, hV1⟩ : ∃ V, V = Y2.alloc (.cells #[.int .u8 64] 5) := ⟨_, rfl⟩
                refine wpL_value (.slice (some ⟨Y2.heap.size, 0, none⟩) 1 1) V1 rfl (by rw [hV1]; kernel_rfl) ?_
                simp only [Act.put, List.setIfInBounds_toArray, List.set_cons_zero, List.set_cons_succ]
                obtain ⟨g91, hg91⟩ : ∃ t, Y2.heap.size = t := ⟨_, rfl⟩
                have K1 : Hid (DI w V1 b gs gm n ∧ Row V1 (some ⟨g91, 0, none⟩) 1 [64] ∧ (g91 ≠ b ∧ g91 ≠ gs ∧ g91 ≠ gm)) := Lib.hid (by have bb : Below Y2.heap.size Y2 V1 := (by rw [hV1]; exact (Below.refl _ _).alloc (Nat.le_refl _) _); obtain ⟨Lx, dcx, fzx, Sx, dx⟩ := (D2.out.1).2.1; have l := dx.lts; exact ⟨(D2.out.1).below bb, by rw [hV1, ← hg91]; exact row_marked Y2 [64] 1 (0, 0) rfl (by omega) (by intro z hz; simp at hz; omega), by omega, by omega, by omega⟩)
                rw [hg91]
                clear hV1 hg91
                refine wpL_call 26 #[.pointer (some ⟨b, 0, none⟩), .slice (some ⟨g91, 0, none⟩) 1 1] rfl (by kernel_rfl) ((crash_dc K1.out.1 _ 1 1 [64] K1.out.2.1 (fun _ p hp => by cases hp; exact K1.out.2.2)).mono fun e V2 ⟨he, hd, _⟩ => ⟨.tuple #[], he, ?_⟩)
                simp only [Act.put, List.setIfInBounds_toArray, List.set_cons_zero, List.set_cons_succ]
                have K2 : Hid (DC w V2 b gs gm n) := Lib.hid hd
                clear hd
                go_upto_region 19 with (fail)
                refine wp_region_lit ?_
                refine wpL_pure (.pointer (some ⟨b, 0, none⟩)) rfl (by kernel_rfl) ?_
                simp only [Act.put, List.setIfInBounds_toArray, List.set_cons_zero, List.set_cons_succ]
                refine wpL_pure (.int .u8 x) rfl (by kernel_rfl) ?_
                simp only [Act.put, List.setIfInBounds_toArray, List.set_cons_zero, List.set_cons_succ]
                refine wpL_pure (.int .u8 (x % 9)) rfl (run_rem9 _ _ _ _ x rfl rfl HX.out) ?_
                simp only [Act.put, List.setIfInBounds_toArray, List.set_cons_zero, List.set_cons_succ]
                refine wpL_pure (.int .i64 (x % 9)) rfl (run_convi Try.underlying5 Try.underlying3 rfl rfl _ (wrap_in _ (by have := XR.out; omega) (by have := XR.out; omega))) ?_
                simp only [Act.put, List.setIfInBounds_toArray, List.set_cons_zero, List.set_cons_succ]
                refine wpL_pure (.int .i64 ((rm + 2 : Nat) : Int)) rfl (run_addi Try.underlying3 rfl rfl rfl _ (by have := XR.out; rw [wrap_in _ (by omega) (by omega)]; omega)) ?_
                simp only [Act.put, List.setIfInBounds_toArray, List.set_cons_zero, List.set_cons_succ]
                refine wpL_call 10 #[.pointer (some ⟨b, 0, none⟩), .int .i64 1, .int .i64 ((rm + 2 : Nat) : Int)] rfl (by kernel_rfl) ((open_pi K2.out XR.out.2.2.1 (by have := NR.out; omega)).mono ?_)
                rintro e V3 ⟨⟨lbj, sj, ntj, bsj, vaj, vcj, dcj, fzj, Sj, he, hp⟩, bb⟩
                have K3 : Hid (PI w V3 b gs gm n rm lbj sj ntj bsj vaj vcj dcj fzj Sj) := Lib.hid hp
                clear hp bb
                refine ⟨.tuple #[.pointer (some ⟨lbj, 0, none⟩), .int .i64 0], he, ?_⟩
                simp only [Act.put, List.setIfInBounds_toArray, List.set_cons_zero, List.set_cons_succ]
                clear he
                refine wpL_pure (.tuple #[.pointer (some ⟨lbj, 0, none⟩), .int .i64 0]) rfl (by kernel_rfl) ?_
                simp only [Act.put, List.setIfInBounds_toArray, List.set_cons_zero, List.set_cons_succ]
                refine wpL_pure (.pointer (some ⟨lbj, 0, none⟩)) rfl (by kernel_rfl) ?_
                simp only [Act.put, List.setIfInBounds_toArray, List.set_cons_zero, List.set_cons_succ]
                refine wpL_pure (.int .i64 0) rfl (by kernel_rfl) ?_
                simp only [Act.put, List.setIfInBounds_toArray, List.set_cons_zero, List.set_cons_succ]
                refine wpL_pure (.pointer (some ⟨lbj, 0, none⟩)) rfl (by kernel_rfl) ?_
                simp only [Act.put, List.setIfInBounds_toArray, List.set_cons_zero, List.set_cons_succ]
                refine wpL_pure (.int .i64 0) rfl (by kernel_rfl) ?_
                simp only [Act.put, List.setIfInBounds_toArray, List.set_cons_zero, List.set_cons_succ]
                go_upto_region 20 with (fail)
                refine wp_region_lit ?_
                refine wpL_pure (.int .i64 0) rfl (by kernel_rfl) ?_
                simp only [Act.put, List.setIfInBounds_toArray, List.set_cons_zero, List.set_cons_succ]
                refine wpL_pure (.bool false) rfl (by kernel_rfl) ?_
                simp only [Act.put, List.setIfInBounds_toArray, List.set_cons_zero, List.set_cons_succ]
                go_upto_region 22 with (fail)
                refine wp_region_lit ?_
                refine wpL_pure (.pointer (some ⟨lbj, 0, none⟩)) rfl (by kernel_rfl) ?_
                simp only [Act.put, List.setIfInBounds_toArray, List.set_cons_zero, List.set_cons_succ]
                refine wpL_pure (.pointer (some ⟨lbj, 0, none⟩)) rfl (by kernel_rfl) ?_
                simp only [Act.put, List.setIfInBounds_toArray, List.set_cons_zero, List.set_cons_succ]
                go_upto_region 34 with (fail)
                refine wp_region_lit ?_
                refine wpL_pure (.pointer (some ⟨b, 0, none⟩)) rfl (by kernel_rfl) ?_
                simp only [Act.put, List.setIfInBounds_toArray, List.set_cons_zero, List.set_cons_succ]
                refine wpL_call 27 #[.pointer (some ⟨b, 0, none⟩)] rfl (by kernel_rfl) ((looseD K3.out.2.1).mono fun e Xj ⟨he, hx⟩ => ⟨.int .i64 0, (he.trans rfl), ?_⟩)
                simp only [Act.put, List.setIfInBounds_toArray, List.set_cons_zero, List.set_cons_succ]
                subst hx
                refine wpL_pure (.bool false) rfl (by kernel_rfl) ?_
                simp only [Act.put, List.setIfInBounds_toArray, List.set_cons_zero, List.set_cons_succ]
                refine wpL_pure (.bool false) rfl (by kernel_rfl) ?_
                simp only [Act.put, List.setIfInBounds_toArray, List.set_cons_zero, List.set_cons_succ]
                refine wpL_pure (.pointer (some ⟨lbj, 0, none⟩)) rfl (by kernel_rfl) ?_
                simp only [Act.put, List.setIfInBounds_toArray, List.set_cons_zero, List.set_cons_succ]
                refine wpL_call 21 #[.pointer (some ⟨lbj, 0, none⟩)] rfl (by kernel_rfl) ((state_any (ov := false) K3.out.2.2.1.1 K3.out.2.2.1.2.1 rfl (by have := K3.out.2.2.1.2.2.1; have := XR.out; omega)).mono ?_)
                rintro e T1 ⟨ya, yc, he, bb, ow⟩
                have J1 : Hid (PI w T1 b gs gm n rm lbj sj ntj bsj vaj vcj dcj fzj Sj ∧ Row T1 ya (bsj).length (bsj)) := Lib.hid ⟨K3.out.below bb, fit_own ow⟩
                clear bb ow
                refine ⟨.agg (stV (sj) (ntj) (.slice ya (bsj).length yc)).toArray, he, ?_⟩
                simp only [Act.put, List.setIfInBounds_toArray, List.set_cons_zero, List.set_cons_succ]
                clear he
                refine wpL_pure (.pointer (some ⟨b, 0, none⟩)) rfl (by kernel_rfl) ?_
                simp only [Act.put, List.setIfInBounds_toArray, List.set_cons_zero, List.set_cons_succ]
                refine wpL_call 19 #[.pointer (some ⟨b, 0, none⟩), .int .i64 1] rfl (by kernel_rfl) ((secs_any J1.out.1.2.1 1 (by have := NR.out; omega)).mono ?_)
                rintro e T2 ⟨v, vals, he, bb, ow, lr⟩
                have LD : ((Sj).drop 1).length = rm + 2 := by rw [List.length_drop, J1.out.1.2.1.2.2.2.1]; have := NR.out; omega
                obtain ⟨gr, cr, ev, c1, c2, sr⟩ := sr_of ow lr (by omega) (rm + 2) (by omega)
                rw [LD] at ev
                subst ev
                have J2 : Hid (PI w T2 b gs gm n rm lbj sj ntj bsj vaj vcj dcj fzj Sj ∧ Row T2 ya (bsj).length (bsj) ∧ SR T2 gr (rm + 2) (((Sj).drop 1).take (rm + 2))) := Lib.hid ⟨J1.out.1.below bb, J1.out.2.keep bb, sr⟩
                clear LD bb ow lr c1 c2 sr
                refine ⟨.slice (some ⟨gr, 0, none⟩) (rm + 2) cr, he, ?_⟩
                simp only [Act.put, List.setIfInBounds_toArray, List.set_cons_zero, List.set_cons_succ]
                clear he
                refine wpL_call 18 #[.slice (some ⟨gr, 0, none⟩) (rm + 2) cr] rfl (by kernel_rfl) ((of_any T2 gr (rm + 2) cr rm _ J2.out.2.2 ⟨rfl, by have := XR.out; omega, by have := XR.out; omega⟩).mono ?_)
                rintro e T3 ⟨s', nt', bs', za, zc, he, bb, ow, op, hn, _⟩
                obtain ⟨es, en, eb⟩ := ((J2.out.1.2.2.2.1).cutL J2.out.1.2.2.1.2.2.1).inj op
                subst es
                subst en
                subst eb
                have J3 : Hid (PI w T3 b gs gm n rm lbj sj ntj bsj vaj vcj dcj fzj Sj ∧ Row T3 ya (bsj).length (bsj) ∧ Row T3 za (bsj).length (bsj) ∧ NtOk (ntj)) := Lib.hid ⟨J2.out.1.below bb, J2.out.2.1.keep bb, fit_own ow, hn⟩
                clear bb ow op hn
                refine ⟨.agg (stV (sj) (ntj) (.slice za (bsj).length zc)).toArray, he, ?_⟩
                simp only [Act.put, List.setIfInBounds_toArray, List.set_cons_zero, List.set_cons_succ]
                clear he
                refine wpL_call 20 #[.agg (stV (sj) (ntj) (.slice ya (bsj).length yc)).toArray, .agg (stV (sj) (ntj) (.slice za (bsj).length zc)).toArray] rfl (by kernel_rfl) ((same_any T3 (sj) (sj) (bsj).length (bsj).length yc zc (ntj) (ntj) (bsj) (bsj) ya za J3.out.2.2.2 J3.out.2.2.2 J3.out.2.1 J3.out.2.2.1).mono fun e T4 ⟨he, bb⟩ => ⟨.bool true, (he.trans (by simp)), ?_⟩)
                simp only [Act.put, List.setIfInBounds_toArray, List.set_cons_zero, List.set_cons_succ]
                have J4 : Hid (PI w T4 b gs gm n rm lbj sj ntj bsj vaj vcj dcj fzj Sj) := Lib.hid (J3.out.1.below bb)
                clear bb
                refine wpL_pure (.bool false) rfl (by kernel_rfl) ?_
                simp only [Act.put, List.setIfInBounds_toArray, List.set_cons_zero, List.set_cons_succ]
                refine wpL_pure (.bool false) rfl (by kernel_rfl) ?_
                simp only [Act.put, List.setIfInBounds_toArray, List.set_cons_zero, List.set_cons_succ]
                refine wpL_pure (.bool false) rfl (by kernel_rfl) ?_
                simp only [Act.put, List.setIfInBounds_toArray, List.set_cons_zero, List.set_cons_succ]
                refine wpL_pure (.pointer (some ⟨lbj, 0, none⟩)) rfl (by kernel_rfl) ?_
                simp only [Act.put, List.setIfInBounds_toArray, List.set_cons_zero, List.set_cons_succ]
                refine wpL_call 23 #[.pointer (some ⟨lbj, 0, none⟩)] rfl (by kernel_rfl) ((over_any J4.out.2.2.1.1).mono fun e T5 ⟨he, bb⟩ => ⟨.bool false, he, ?_⟩)
                simp only [Act.put, List.setIfInBounds_toArray, List.set_cons_zero, List.set_cons_succ]
                have J5 : Hid (PI w T5 b gs gm n rm lbj sj ntj bsj vaj vcj dcj fzj Sj) := Lib.hid (J4.out.below bb)
                clear bb
                refine wpL_pure (.bool false) rfl (by kernel_rfl) ?_
                simp only [Act.put, List.setIfInBounds_toArray, List.set_cons_zero, List.set_cons_succ]
                go_upto_region 9 with (fail)
                refine wp_region_lit ?_
                refine wpL_pure (.int .i64 (k : Int)) rfl (by kernel_rfl) ?_
                simp only [Act.put, List.setIfInBounds_toArray, List.set_cons_zero, List.set_cons_succ]
                refine wpL_pure (.int .i64 ((k + 1 : Nat) : Int)) rfl (run_addi Try.underlying3 rfl rfl rfl _ (by have := HK.out; have := HN.out; rw [wrap_in _ (by omega) (by omega)]; omega)) ?_
                simp only [Act.put, List.setIfInBounds_toArray, List.set_cons_zero, List.set_cons_succ]
                refine wpL_pure (.int .i64 ((k + 1 : Nat) : Int)) rfl (by kernel_rfl) ?_
                simp only [Act.put, List.setIfInBounds_toArray, List.set_cons_zero, List.set_cons_succ]
                have NX : Hid (k + 1 ≤ ln ∧ ∃ (s : Nat) (nt bs : List Int) (va : Option Addr) (vc dc : Nat) (fz : Int) (S : List (List Int)), PI w T5 b gs gm n rm lbj s nt bs va vc dc fz S) := Lib.hid ⟨HK.out, sj, ntj, bsj, vaj, vcj, dcj, fzj, Sj, J5.out⟩
                unfold wpList
                go_roundw
                case rel => first | exact ⟨_, _, ⟨rfl, rfl⟩, NX⟩ | ((repeat apply Exists.intro); exact ⟨⟨_, _, ⟨rfl, rfl⟩, NX⟩, rfl⟩)
                case measure => simp [intOf]; have := HK.out; omega
              · have H4 := Lib.hid h4
                clear h4
                go_upto_region 16 with (fail)
                refine wp_region_lit ?_
                refine wpL_pure (.pointer (some ⟨g9, 0, none⟩)) rfl (by kernel_rfl) ?_
                simp only [Act.put, List.setIfInBounds_toArray, List.set_cons_zero, List.set_cons_succ]
                refine wpL_pure (.int .u8 q) rfl (run_load_one _ _ _ 5 _ _ rfl (g9) (0) rfl (by rw [C6.out.2.1.cell]; rfl) (by kernel_rfl)) ?_
                simp only [Act.put, List.setIfInBounds_toArray, List.set_cons_zero, List.set_cons_succ]
                refine wpL_pure (.int .u8 (q % 5)) rfl (run_rem5 _ _ _ _ q rfl rfl QB.out.1) ?_
                simp only [Act.put, List.setIfInBounds_toArray, List.set_cons_zero, List.set_cons_succ]
                refine wpL_pure (.bool false) rfl (run_eqi Try.underlying5 rfl rfl rfl (by have := H4.out; rw [decide_eq_false_iff_not]; omega)) ?_
                simp only [Act.put, List.setIfInBounds_toArray, List.set_cons_zero, List.set_cons_succ]
                go_upto_region 18 with (fail)
                refine wp_region_lit ?_
                refine wpL_pure (.pointer (some ⟨b, 0, none⟩)) rfl (by kernel_rfl) ?_
                simp only [Act.put, List.setIfInBounds_toArray, List.set_cons_zero, List.set_cons_succ]
                obtain ⟨V1, hV1⟩ : ∃ V, V = X6.alloc (.cells #[.int .u8 64] 5) := ⟨_, rfl⟩
                refine wpL_value (.slice (some ⟨X6.heap.size, 0, none⟩) 1 1) V1 rfl (by rw [hV1]; kernel_rfl) ?_
                simp only [Act.put, List.setIfInBounds_toArray, List.set_cons_zero, List.set_cons_succ]
                obtain ⟨g91, hg91⟩ : ∃ t, X6.heap.size = t := ⟨_, rfl⟩
                have K1 : Hid (DI w V1 b gs gm n ∧ Row V1 (some ⟨g91, 0, none⟩) 1 [64] ∧ (g91 ≠ b ∧ g91 ≠ gs ∧ g91 ≠ gm)) := Lib.hid (by have bb : Below X6.heap.size X6 V1 := (by rw [hV1]; exact (Below.refl _ _).alloc (Nat.le_refl _) _); obtain ⟨Lx, dcx, fzx, Sx, dx⟩ := (C6.out.1.di).2.1; have l := dx.lts; exact ⟨(C6.out.1.di).below bb, by rw [hV1, ← hg91]; exact row_marked X6 [64] 1 (0, 0) rfl (by omega) (by intro z hz; simp at hz; omega), by omega, by omega, by omega⟩)
                rw [hg91]
                clear hV1 hg91
                refine wpL_call 26 #[.pointer (some ⟨b, 0, none⟩), .slice (some ⟨g91, 0, none⟩) 1 1] rfl (by kernel_rfl) ((crash_dc K1.out.1 _ 1 1 [64] K1.out.2.1 (fun _ p hp => by cases hp; exact K1.out.2.2)).mono fun e V2 ⟨he, hd, _⟩ => ⟨.tuple #[], he, ?_⟩)
                simp only [Act.put, List.setIfInBounds_toArray, List.set_cons_zero, List.set_cons_succ]
                have K2 : Hid (DC w V2 b gs gm n) := Lib.hid hd
                clear hd
                go_upto_region 19 with (fail)
                refine wp_region_lit ?_
                refine wpL_pure (.pointer (some ⟨b, 0, none⟩)) rfl (by kernel_rfl) ?_
                simp only [Act.put, List.setIfInBounds_toArray, List.set_cons_zero, List.set_cons_succ]
                refine wpL_pure (.int .u8 x) rfl (by kernel_rfl) ?_
                simp only [Act.put, List.setIfInBounds_toArray, List.set_cons_zero, List.set_cons_succ]
                refine wpL_pure (.int .u8 (x % 9)) rfl (run_rem9 _ _ _ _ x rfl rfl HX.out) ?_
                simp only [Act.put, List.setIfInBounds_toArray, List.set_cons_zero, List.set_cons_succ]
                refine wpL_pure (.int .i64 (x % 9)) rfl (run_convi Try.underlying5 Try.underlying3 rfl rfl _ (wrap_in _ (by have := XR.out; omega) (by have := XR.out; omega))) ?_
                simp only [Act.put, List.setIfInBounds_toArray, List.set_cons_zero, List.set_cons_succ]
                refine wpL_pure (.int .i64 ((rm + 2 : Nat) : Int)) rfl (run_addi Try.underlying3 rfl rfl rfl _ (by have := XR.out; rw [wrap_in _ (by omega) (by omega)]; omega)) ?_
                simp only [Act.put, List.setIfInBounds_toArray, List.set_cons_zero, List.set_cons_succ]
                refine wpL_call 10 #[.pointer (some ⟨b, 0, none⟩), .int .i64 1, .int .i64 ((rm + 2 : Nat) : Int)] rfl (by kernel_rfl) ((open_pi K2.out XR.out.2.2.1 (by have := NR.out; omega)).mono ?_)
                rintro e V3 ⟨⟨lbj, sj, ntj, bsj, vaj, vcj, dcj, fzj, Sj, he, hp⟩, bb⟩
                have K3 : Hid (PI w V3 b gs gm n rm lbj sj ntj bsj vaj vcj dcj fzj Sj) := Lib.hid hp
                clear hp bb
                refine ⟨.tuple #[.pointer (some ⟨lbj, 0, none⟩), .int .i64 0], he, ?_⟩
                simp only [Act.put, List.setIfInBounds_toArray, List.set_cons_zero, List.set_cons_succ]
                clear he
                refine wpL_pure (.tuple #[.pointer (some ⟨lbj, 0, none⟩), .int .i64 0]) rfl (by kernel_rfl) ?_
                simp only [Act.put, List.setIfInBounds_toArray, List.set_cons_zero, List.set_cons_succ]
                refine wpL_pure (.pointer (some ⟨lbj, 0, none⟩)) rfl (by kernel_rfl) ?_
                simp only [Act.put, List.setIfInBounds_toArray, List.set_cons_zero, List.set_cons_succ]
                refine wpL_pure (.int .i64 0) rfl (by kernel_rfl) ?_
                simp only [Act.put, List.setIfInBounds_toArray, List.set_cons_zero, List.set_cons_succ]
                refine wpL_pure (.pointer (some ⟨lbj, 0, none⟩)) rfl (by kernel_rfl) ?_
                simp only [Act.put, List.setIfInBounds_toArray, List.set_cons_zero, List.set_cons_succ]
                refine wpL_pure (.int .i64 0) rfl (by kernel_rfl) ?_
                simp only [Act.put, List.setIfInBounds_toArray, List.set_cons_zero, List.set_cons_succ]
                go_upto_region 20 with (fail)
                refine wp_region_lit ?_
                refine wpL_pure (.int .i64 0) rfl (by kernel_rfl) ?_
                simp only [Act.put, List.setIfInBounds_toArray, List.set_cons_zero, List.set_cons_succ]
                refine wpL_pure (.bool false) rfl (by kernel_rfl) ?_
                simp only [Act.put, List.setIfInBounds_toArray, List.set_cons_zero, List.set_cons_succ]
                go_upto_region 22 with (fail)
                refine wp_region_lit ?_
                refine wpL_pure (.pointer (some ⟨lbj, 0, none⟩)) rfl (by kernel_rfl) ?_
                simp only [Act.put, List.setIfInBounds_toArray, List.set_cons_zero, List.set_cons_succ]
                refine wpL_pure (.pointer (some ⟨lbj, 0, none⟩)) rfl (by kernel_rfl) ?_
                simp only [Act.put, List.setIfInBounds_toArray, List.set_cons_zero, List.set_cons_succ]
                go_upto_region 34 with (fail)
                refine wp_region_lit ?_
                refine wpL_pure (.pointer (some ⟨b, 0, none⟩)) rfl (by kernel_rfl) ?_
                simp only [Act.put, List.setIfInBounds_toArray, List.set_cons_zero, List.set_cons_succ]
                refine wpL_call 27 #[.pointer (some ⟨b, 0, none⟩)] rfl (by kernel_rfl) ((looseD K3.out.2.1).mono fun e Xj ⟨he, hx⟩ => ⟨.int .i64 0, (he.trans rfl), ?_⟩)
                simp only [Act.put, List.setIfInBounds_toArray, List.set_cons_zero, List.set_cons_succ]
                subst hx
                refine wpL_pure (.bool false) rfl (by kernel_rfl) ?_
                simp only [Act.put, List.setIfInBounds_toArray, List.set_cons_zero, List.set_cons_succ]
                refine wpL_pure (.bool false) rfl (by kernel_rfl) ?_
                simp only [Act.put, List.setIfInBounds_toArray, List.set_cons_zero, List.set_cons_succ]
                refine wpL_pure (.pointer (some ⟨lbj, 0, none⟩)) rfl (by kernel_rfl) ?_
                simp only [Act.put, List.setIfInBounds_toArray, List.set_cons_zero, List.set_cons_succ]
                refine wpL_call 21 #[.pointer (some ⟨lbj, 0, none⟩)] rfl (by kernel_rfl) ((state_any (ov := false) K3.out.2.2.1.1 K3.out.2.2.1.2.1 rfl (by have := K3.out.2.2.1.2.2.1; have := XR.out; omega)).mono ?_)
                rintro e T1 ⟨ya, yc, he, bb, ow⟩
                have J1 : Hid (PI w T1 b gs gm n rm lbj sj ntj bsj vaj vcj dcj fzj Sj ∧ Row T1 ya (bsj).length (bsj)) := Lib.hid ⟨K3.out.below bb, fit_own ow⟩
                clear bb ow
                refine ⟨.agg (stV (sj) (ntj) (.slice ya (bsj).length yc)).toArray, he, ?_⟩
                simp only [Act.put, List.setIfInBounds_toArray, List.set_cons_zero, List.set_cons_succ]
                clear he
                refine wpL_pure (.pointer (some ⟨b, 0, none⟩)) rfl (by kernel_rfl) ?_
                simp only [Act.put, List.setIfInBounds_toArray, List.set_cons_zero, List.set_cons_succ]
                refine wpL_call 19 #[.pointer (some ⟨b, 0, none⟩), .int .i64 1] rfl (by kernel_rfl) ((secs_any J1.out.1.2.1 1 (by have := NR.out; omega)).mono ?_)
                rintro e T2 ⟨v, vals, he, bb, ow, lr⟩
                have LD : ((Sj).drop 1).length = rm + 2 := by rw [List.length_drop, J1.out.1.2.1.2.2.2.1]; have := NR.out; omega
                obtain ⟨gr, cr, ev, c1, c2, sr⟩ := sr_of ow lr (by omega) (rm + 2) (by omega)
                rw [LD] at ev
                subst ev
                have J2 : Hid (PI w T2 b gs gm n rm lbj sj ntj bsj vaj vcj dcj fzj Sj ∧ Row T2 ya (bsj).length (bsj) ∧ SR T2 gr (rm + 2) (((Sj).drop 1).take (rm + 2))) := Lib.hid ⟨J1.out.1.below bb, J1.out.2.keep bb, sr⟩
                clear LD bb ow lr c1 c2 sr
                refine ⟨.slice (some ⟨gr, 0, none⟩) (rm + 2) cr, he, ?_⟩
                simp only [Act.put, List.setIfInBounds_toArray, List.set_cons_zero, List.set_cons_succ]
                clear he
                refine wpL_call 18 #[.slice (some ⟨gr, 0, none⟩) (rm + 2) cr] rfl (by kernel_rfl) ((of_any T2 gr (rm + 2) cr rm _ J2.out.2.2 ⟨rfl, by have := XR.out; omega, by have := XR.out; omega⟩).mono ?_)
                rintro e T3 ⟨s', nt', bs', za, zc, he, bb, ow, op, hn, _⟩
                obtain ⟨es, en, eb⟩ := ((J2.out.1.2.2.2.1).cutL J2.out.1.2.2.1.2.2.1).inj op
                subst es
                subst en
                subst eb
                have J3 : Hid (PI w T3 b gs gm n rm lbj sj ntj bsj vaj vcj dcj fzj Sj ∧ Row T3 ya (bsj).length (bsj) ∧ Row T3 za (bsj).length (bsj) ∧ NtOk (ntj)) := Lib.hid ⟨J2.out.1.below bb, J2.out.2.1.keep bb, fit_own ow, hn⟩
                clear bb ow op hn
                refine ⟨.agg (stV (sj) (ntj) (.slice za (bsj).length zc)).toArray, he, ?_⟩
                simp only [Act.put, List.setIfInBounds_toArray, List.set_cons_zero, List.set_cons_succ]
                clear he
                refine wpL_call 20 #[.agg (stV (sj) (ntj) (.slice ya (bsj).length yc)).toArray, .agg (stV (sj) (ntj) (.slice za (bsj).length zc)).toArray] rfl (by kernel_rfl) ((same_any T3 (sj) (sj) (bsj).length (bsj).length yc zc (ntj) (ntj) (bsj) (bsj) ya za J3.out.2.2.2 J3.out.2.2.2 J3.out.2.1 J3.out.2.2.1).mono fun e T4 ⟨he, bb⟩ => ⟨.bool true, (he.trans (by simp)), ?_⟩)
                simp only [Act.put, List.setIfInBounds_toArray, List.set_cons_zero, List.set_cons_succ]
                have J4 : Hid (PI w T4 b gs gm n rm lbj sj ntj bsj vaj vcj dcj fzj Sj) := Lib.hid (J3.out.1.below bb)
                clear bb
                refine wpL_pure (.bool false) rfl (by kernel_rfl) ?_
                simp only [Act.put, List.setIfInBounds_toArray, List.set_cons_zero, List.set_cons_succ]
                refine wpL_pure (.bool false) rfl (by kernel_rfl) ?_
                simp only [Act.put, List.setIfInBounds_toArray, List.set_cons_zero, List.set_cons_succ]
                refine wpL_pure (.bool false) rfl (by kernel_rfl) ?_
                simp only [Act.put, List.setIfInBounds_toArray, List.set_cons_zero, List.set_cons_succ]
                refine wpL_pure (.pointer (some ⟨lbj, 0, none⟩)) rfl (by kernel_rfl) ?_
                simp only [Act.put, List.setIfInBounds_toArray, List.set_cons_zero, List.set_cons_succ]
                refine wpL_call 23 #[.pointer (some ⟨lbj, 0, none⟩)] rfl (by kernel_rfl) ((over_any J4.out.2.2.1.1).mono fun e T5 ⟨he, bb⟩ => ⟨.bool false, he, ?_⟩)
                simp only [Act.put, List.setIfInBounds_toArray, List.set_cons_zero, List.set_cons_succ]
                have J5 : Hid (PI w T5 b gs gm n rm lbj sj ntj bsj vaj vcj dcj fzj Sj) := Lib.hid (J4.out.below bb)
                clear bb
                refine wpL_pure (.bool false) rfl (by kernel_rfl) ?_
                simp only [Act.put, List.setIfInBounds_toArray, List.set_cons_zero, List.set_cons_succ]
                go_upto_region 9 with (fail)
                refine wp_region_lit ?_
                refine wpL_pure (.int .i64 (k : Int)) rfl (by kernel_rfl) ?_
                simp only [Act.put, List.setIfInBounds_toArray, List.set_cons_zero, List.set_cons_succ]
                refine wpL_pure (.int .i64 ((k + 1 : Nat) : Int)) rfl (run_addi Try.underlying3 rfl rfl rfl _ (by have := HK.out; have := HN.out; rw [wrap_in _ (by omega) (by omega)]; omega)) ?_
                simp only [Act.put, List.setIfInBounds_toArray, List.set_cons_zero, List.set_cons_succ]
                refine wpL_pure (.int .i64 ((k + 1 : Nat) : Int)) rfl (by kernel_rfl) ?_
                simp only [Act.put, List.setIfInBounds_toArray, List.set_cons_zero, List.set_cons_succ]
                have NX : Hid (k + 1 ≤ ln ∧ ∃ (s : Nat) (nt bs : List Int) (va : Option Addr) (vc dc : Nat) (fz : Int) (S : List (List Int)), PI w T5 b gs gm n rm lbj s nt bs va vc dc fz S) := Lib.hid ⟨HK.out, sj, ntj, bsj, vaj, vcj, dcj, fzj, Sj, J5.out⟩
                unfold wpList
                go_roundw
                case rel => first | exact ⟨_, _, ⟨rfl, rfl⟩, NX⟩ | ((repeat apply Exists.intro); exact ⟨⟨_, _, ⟨rfl, rfl⟩, NX⟩, rfl⟩)
                case measure => simp [intOf]; have := HK.out; omega
      · have EK : Hid (k = ln) := Lib.hid (by have := RK.out; omega)
        clear hlt
        go_upto_region 8 with (fail)
        refine wp_region_lit ?_
        refine wpL_pure (.int .i64 (k : Int)) rfl (by kernel_rfl) ?_
        simp only [Act.put, List.setIfInBounds_toArray, List.set_cons_zero, List.set_cons_succ]
        refine wpL_pure (.slice a ln lc) rfl (by kernel_rfl) ?_
        simp only [Act.put, List.setIfInBounds_toArray, List.set_cons_zero, List.set_cons_succ]
        refine wpL_pure (.int .i64 (ln : Int)) rfl (by kernel_rfl) ?_
        simp only [Act.put, List.setIfInBounds_toArray, List.set_cons_zero, List.set_cons_succ]
        refine wpL_pure (.bool false) rfl (run_lti Try.underlying3 rfl rfl rfl (by have := EK.out; rw [decide_eq_false_iff_not]; omega)) ?_
        simp only [Act.put, List.setIfInBounds_toArray, List.set_cons_zero, List.set_cons_succ]
        go_upto_region 36 with (fail)
        refine wp_region_lit ?_
        refine wpL_pure (.bool true) rfl (by kernel_rfl) ?_
        simp only [Act.put, List.setIfInBounds_toArray, List.set_cons_zero, List.set_cons_succ]
        go_wp2_with fail
        go_ret
        exact ⟨rfl, RP.out.1⟩
end Go.Proofs.Yteabblmhcjpboaa.D
namespace Go.Proofs.Yteabblmhcjpboaa
open Go Go.RowKit
theorem walkCellsPlays (x : Int) (a : Option Addr) (n ca : Nat) (hx : (Lit.int .u8 x).wf = true) (w : World) (h : D.OpsAt w a n ca) :
    Calls Try.prog 5 #[.int .u8 x, .slice a n ca] w fun e w' => e = .returned (.bool true) ∧ Below w.heap.size w w' :=
  D.plays_any w x a n ca ((x % 9).toNat + 1) (by have := bounds_u8 hx; omega) (by have := bounds_u8 hx; omega) h
end Go.Proofs.Yteabblmhcjpboaa
