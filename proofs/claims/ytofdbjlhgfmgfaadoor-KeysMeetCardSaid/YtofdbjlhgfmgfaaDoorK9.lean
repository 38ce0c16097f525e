/- keys.Meet. -/
import Derived.Test.YtofdbjlhgfmgfaaDoorK8
namespace Go.Proofs.YtofdbjlhgfmgfaaDoor.Ha
open Go Go.RowKit
set_option maxRecDepth 100000
def IfPost (n m : Nat) (L M : List (List Int)) (w : World) (e : Ending) (w' : World) : Prop := ∃ v : Int, e = .returned (.int .i64 v) ∧ (0 ≤ v ↔ ∃ k, k < n ∧ ∃ j, j < m ∧ M.getD j [] = L.getD k []) ∧ Below w.heap.size w w'
attribute [local irreducible] wpList
set_option maxHeartbeats 8000000 in
set_option maxRecDepth 100000 in
theorem meet1_any (w : World) (gb : Nat) (b : Option Addr) (m d : Nat) (M : List (List Int)) (t : List Int) (hc : w.cell? ⟨gb, 0, none⟩ = some (.slice b m d)) (hM : Toks w b m M) (ht : t.length = 16) :
    Calls Tryd.prog 38 #[.agg (u8l t).toArray, .pointer (some ⟨gb, 0, none⟩)] w fun e w' => InPost m M t w e w' := by
  have HC := Lib.hid hc
  have HM2 := Lib.hid hM
  have TL := Lib.hid ht
  clear hc hM ht
  go_enter Tryd.func38, Tryd.ntmps38
  obtain ⟨w1, hw1⟩ : ∃ V, V = w.alloc (.cells (u8l t).toArray 35) := ⟨_, rfl⟩
  have B1 : Hid (Below w.heap.size w w1 ∧ Blk w1 w.heap.size 35 (u8l t).toArray ∧ w1.cell? ⟨gb, 0, none⟩ = some (.slice b m d)) := Lib.hid (by
    have q : Below w.heap.size w w1 := by rw [hw1]; exact (Below.refl _ _).alloc (Nat.le_refl _) _
    exact ⟨q, by rw [hw1]; exact Blk.new _ _ _, by rw [q.cell (World.block_lt_of_cell? w _ HC.out)]; exact HC.out⟩)
  go_upto_region 0 with (fail)
  refine wp_region_lit ?_
  refine wpL_value (.pointer (some ⟨w.heap.size, 0, none⟩)) (w1) rfl (run_box35 _ _ _ _ _ t rfl rfl TL.out hw1) ?_
  simp only [Act.put, List.setIfInBounds_toArray, List.set_cons_zero, List.set_cons_succ]
  refine wpL_pure (.bool false) rfl (by kernel_rfl) ?_
  simp only [Act.put, List.setIfInBounds_toArray, List.set_cons_zero, List.set_cons_succ]
  clear hw1
  obtain ⟨g3, h3⟩ : ∃ q, w.heap.size = q := ⟨_, rfl⟩
  have G3 : Hid (w.heap.size = g3) := Lib.hid h3
  rw [h3] at B1
  try rw [h3]
  clear h3
  go_upto_region 1 with (fail)
  refine wp_region_lit ?_
  refine wpL_pure (.slice b m d) rfl (run_load_one _ _ _ 32 _ _ rfl gb 0 rfl B1.out.2.2 (by kernel_rfl)) ?_
  simp only [Act.put, List.setIfInBounds_toArray, List.set_cons_zero, List.set_cons_succ]
  refine wpL_pure (.agg (u8l t).toArray) rfl (run_load_mid _ _ _ 35 _ rfl g3 0 rfl (u8l t) _ (blk_range B1.out.2.1) Tryd.underlying35 rfl (by rw [u8l_len, TL.out]; kernel_rfl)) ?_
  simp only [Act.put, List.setIfInBounds_toArray, List.set_cons_zero, List.set_cons_succ]
  refine wpL_call 39 #[.slice b m d, .agg (u8l t).toArray] rfl (by kernel_rfl) (((contains_any w1 b m d M t (HM2.out.keep (by rw [G3.out]; exact B1.out.1)) TL.out)).mono fun e w2 ⟨z, he, hz, hb⟩ => ⟨.bool z, he, ?_⟩)
  simp only [Act.put, List.setIfInBounds_toArray, List.set_cons_zero, List.set_cons_succ]
  have HZ := Lib.hid hz
  have B2 : Hid (Below g3 w w2) := Lib.hid (B1.out.1.trans (hb.mono (by have := B1.out.2.1.lt; omega)))
  clear hz hb
  refine wpL_pure (.bool z) rfl (by kernel_rfl) ?_
  simp only [Act.put, List.setIfInBounds_toArray, List.set_cons_zero, List.set_cons_succ]
  go_wp2_with fail
  go_ret
  exact ⟨z, rfl, HZ.out, by rw [G3.out]; exact B2.out⟩
set_option maxHeartbeats 8000000 in
set_option maxRecDepth 100000 in
theorem indexfunc_any (w : World) (gb : Nat) (a : Option Addr) (n c : Nat) (L : List (List Int)) (b : Option Addr) (m d : Nat) (M : List (List Int)) (hc : w.cell? ⟨gb, 0, none⟩ = some (.slice b m d)) (hL : Toks w a n L) (hM : Toks w b m M) :
    Calls Tryd.prog 52 #[.slice a n c, .func (.func 38) #[] #[.pointer (some ⟨gb, 0, none⟩)]] w fun e w' => IfPost n m L M w e w' := by
  have HC0 := Lib.hid hc
  have HL := Lib.hid hL
  have HM2 := Lib.hid hM
  clear hc hL hM
  go_enter Tryd.func52, Tryd.ntmps52
  go_upto_region 0 with (fail)
  refine wp_region_lit ?_
  refine wpL_pure (.int .i64 0) rfl (by kernel_rfl) ?_
  simp only [Act.put, List.setIfInBounds_toArray, List.set_cons_zero, List.set_cons_succ]
  go_upto_region 1 with (fail)
  refine wp_region_lit ?_
  refine wpL_pure (.slice a n c) rfl (by kernel_rfl) ?_
  simp only [Act.put, List.setIfInBounds_toArray, List.set_cons_zero, List.set_cons_succ]
  refine wpL_pure (.int .i64 (n : Int)) rfl (by kernel_rfl) ?_
  simp only [Act.put, List.setIfInBounds_toArray, List.set_cons_zero, List.set_cons_succ]
  refine wpL_pure (.int .i64 0) rfl (by kernel_rfl) ?_
  simp only [Act.put, List.setIfInBounds_toArray, List.set_cons_zero, List.set_cons_succ]
  go_wp2_with fail
  go_loopw [8] (fun s8 wr => ∃ k : Nat, s8 = .int .i64 (k : Int) ∧ Hid (k ≤ n ∧ Below w.heap.size w wr ∧ ∀ i, i < k → ∀ j, j < m → M.getD j [] ≠ L.getD i [])) (fun s8 _ => n - (intOf s8).toNat)
  case atStart => exact ⟨0, rfl, Lib.hid ⟨by omega, Below.refl _ _, fun j h1 => by omega⟩⟩
  case round =>
    obtain ⟨k, rfl, RI⟩ := hrel
    by_cases hlt : k < n
    · have HK := Lib.hid hlt
      clear hlt
      go_upto_region 2 with (fail)
      refine wp_region_lit ?_
      refine wpL_pure (.bool true) rfl (run_lti Tryd.underlying3 rfl rfl rfl (by have := HK.out; rw [decide_eq_true_eq]; omega)) ?_
      simp only [Act.put, List.setIfInBounds_toArray, List.set_cons_zero, List.set_cons_succ]
      go_upto_region 3 with (fail)
      refine wp_region_lit ?_
      refine wpL_pure (.int .i64 (k : Int)) rfl (by kernel_rfl) ?_
      simp only [Act.put, List.setIfInBounds_toArray, List.set_cons_zero, List.set_cons_succ]
      refine wpL_pure (.int .i64 (k : Int)) rfl (by kernel_rfl) ?_
      simp only [Act.put, List.setIfInBounds_toArray, List.set_cons_zero, List.set_cons_succ]
      obtain ⟨g, o, ea, hm, ht⟩ := HL.out.2 (by have := HK.out; omega)
      have EA := Lib.hid ea
      have HM := Lib.hid hm
      have T0 : Hid (TokAt w g (o + k * 16) (L.getD k [])) := Lib.hid (ht k HK.out)
      clear ea hm ht
      obtain ⟨x, hx⟩ : ∃ x, L.getD k [] = x := ⟨_, rfl⟩
      rw [hx] at T0
      have HX := Lib.hid hx
      clear hx
      by_cases hc : ∃ j, j < m ∧ M.getD j [] = x
      · have HC := Lib.hid hc
        clear hc
        go_upto_region 4 with (fail)
        refine wp_region_lit ?_
        refine wpL_pure (.func (.func 38) #[] #[.pointer (some ⟨gb, 0, none⟩)]) rfl (by kernel_rfl) ?_
        simp only [Act.put, List.setIfInBounds_toArray, List.set_cons_zero, List.set_cons_succ]
        refine wpL_pure (.slice a n c) rfl (by kernel_rfl) ?_
        simp only [Act.put, List.setIfInBounds_toArray, List.set_cons_zero, List.set_cons_succ]
        refine wpL_pure (.int .i64 (k : Int)) rfl (by kernel_rfl) ?_
        simp only [Act.put, List.setIfInBounds_toArray, List.set_cons_zero, List.set_cons_succ]
        refine wpL_pure (.pointer (some ⟨g, o + k * 16, none⟩)) rfl (run_idx32 _ _ _ _ _ g o n c k rfl (by rw [EA.out]; rfl) rfl HK.out HM.out) ?_
        simp only [Act.put, List.setIfInBounds_toArray, List.set_cons_zero, List.set_cons_succ]
        refine wpL_pure (.agg (u8l x).toArray) rfl (run_load_mid _ _ _ 35 _ rfl g (o + k * 16) rfl (u8l x) _ (T0.out.keep RI.out.2.1).2.2 Tryd.underlying35 rfl (by rw [u8l_len, T0.out.1]; kernel_rfl)) ?_
        simp only [Act.put, List.setIfInBounds_toArray, List.set_cons_zero, List.set_cons_succ]
        refine wpL_call 38 #[.agg (u8l x).toArray, .pointer (some ⟨gb, 0, none⟩)] rfl (by kernel_rfl) ((meet1_any wr gb b m d M x (by rw [RI.out.2.1.cell (World.block_lt_of_cell? w _ HC0.out)]; exact HC0.out) (HM2.out.keep RI.out.2.1) T0.out.1).mono fun e w5 ⟨z, he, hz, hb⟩ => ⟨.bool true, (he.trans (by rw [hz.2 HC.out])), ?_⟩)
        simp only [Act.put, List.setIfInBounds_toArray, List.set_cons_zero, List.set_cons_succ]
        have HB5 : Hid (Below w.heap.size w w5) := Lib.hid (RI.out.2.1.trans (hb.mono RI.out.2.1.size))
        clear hb
        go_upto_region 5 with (fail)
        refine wp_region_lit ?_
        refine wpL_pure (.int .i64 (k : Int)) rfl (by kernel_rfl) ?_
        simp only [Act.put, List.setIfInBounds_toArray, List.set_cons_zero, List.set_cons_succ]
        refine wpL_pure (.int .i64 (k : Int)) rfl (by kernel_rfl) ?_
        simp only [Act.put, List.setIfInBounds_toArray, List.set_cons_zero, List.set_cons_succ]
        go_wp2_with fail
        go_ret
        exact ⟨(k : Int), rfl, ⟨fun _ => by obtain ⟨j, h1, h2⟩ := HC.out; exact ⟨k, HK.out, j, h1, by rw [HX.out]; exact h2⟩, fun _ => by omega⟩, HB5.out⟩
      · have HC := Lib.hid hc
        clear hc
        go_upto_region 4 with (fail)
        refine wp_region_lit ?_
        refine wpL_pure (.func (.func 38) #[] #[.pointer (some ⟨gb, 0, none⟩)]) rfl (by kernel_rfl) ?_
        simp only [Act.put, List.setIfInBounds_toArray, List.set_cons_zero, List.set_cons_succ]
        refine wpL_pure (.slice a n c) rfl (by kernel_rfl) ?_
        simp only [Act.put, List.setIfInBounds_toArray, List.set_cons_zero, List.set_cons_succ]
        refine wpL_pure (.int .i64 (k : Int)) rfl (by kernel_rfl) ?_
        simp only [Act.put, List.setIfInBounds_toArray, List.set_cons_zero, List.set_cons_succ]
        refine wpL_pure (.pointer (some ⟨g, o + k * 16, none⟩)) rfl (run_idx32 _ _ _ _ _ g o n c k rfl (by rw [EA.out]; rfl) rfl HK.out HM.out) ?_
        simp only [Act.put, List.setIfInBounds_toArray, List.set_cons_zero, List.set_cons_succ]
        refine wpL_pure (.agg (u8l x).toArray) rfl (run_load_mid _ _ _ 35 _ rfl g (o + k * 16) rfl (u8l x) _ (T0.out.keep RI.out.2.1).2.2 Tryd.underlying35 rfl (by rw [u8l_len, T0.out.1]; kernel_rfl)) ?_
        simp only [Act.put, List.setIfInBounds_toArray, List.set_cons_zero, List.set_cons_succ]
        refine wpL_call 38 #[.agg (u8l x).toArray, .pointer (some ⟨gb, 0, none⟩)] rfl (by kernel_rfl) ((meet1_any wr gb b m d M x (by rw [RI.out.2.1.cell (World.block_lt_of_cell? w _ HC0.out)]; exact HC0.out) (HM2.out.keep RI.out.2.1) T0.out.1).mono fun e w5 ⟨z, he, hz, hb⟩ => ⟨.bool false, (he.trans (by rw [show z = false by cases z with | false => rfl | true => exact absurd (hz.1 rfl) HC.out])), ?_⟩)
        simp only [Act.put, List.setIfInBounds_toArray, List.set_cons_zero, List.set_cons_succ]
        have HB5 : Hid (Below w.heap.size w w5) := Lib.hid (RI.out.2.1.trans (hb.mono RI.out.2.1.size))
        clear hb
        go_upto_region 6 with (fail)
        refine wp_region_lit ?_
        refine wpL_pure (.int .i64 ((k + 1 : Nat) : Int)) rfl (run_addi Tryd.underlying3 rfl rfl rfl _ (by have := HK.out; have := HM.out; unfold maxLen at this; rw [wrap_in _ (by omega) (by omega)]; omega)) ?_
        simp only [Act.put, List.setIfInBounds_toArray, List.set_cons_zero, List.set_cons_succ]
        refine wpL_pure (.int .i64 ((k + 1 : Nat) : Int)) rfl (by kernel_rfl) ?_
        simp only [Act.put, List.setIfInBounds_toArray, List.set_cons_zero, List.set_cons_succ]
        have NX : Hid ((k + 1) ≤ n ∧ Below w.heap.size w w5 ∧ ∀ i, i < (k + 1) → ∀ j, j < m → M.getD j [] ≠ L.getD i []) := Lib.hid ⟨HK.out, HB5.out, fun i h1 j h2 => by
          by_cases hj : i < k
          · exact RI.out.2.2 i hj j h2
          · obtain rfl : i = k := by omega
            rw [HX.out]; exact fun q => HC.out ⟨j, h2, q⟩⟩
        unfold wpList
        go_roundw
        case rel => first | exact ⟨k + 1, rfl, NX⟩ | ((repeat apply Exists.intro); exact ⟨⟨k + 1, rfl, NX⟩, rfl⟩)
        case measure => simp [intOf]; have := HK.out; omega
    · have HK := Lib.hid hlt
      clear hlt
      go_upto_region 2 with (fail)
      refine wp_region_lit ?_
      refine wpL_pure (.bool false) rfl (run_lti Tryd.underlying3 rfl rfl rfl (by have := HK.out; rw [decide_eq_false_iff_not]; omega)) ?_
      simp only [Act.put, List.setIfInBounds_toArray, List.set_cons_zero, List.set_cons_succ]
      go_upto_region 7 with (fail)
      refine wp_region_lit ?_
      refine wpL_pure (.int .i64 (-1)) rfl (by kernel_rfl) ?_
      simp only [Act.put, List.setIfInBounds_toArray, List.set_cons_zero, List.set_cons_succ]
      go_wp2_with fail
      go_ret
      exact ⟨(-1), rfl, ⟨(fun h => by omega), fun h => by obtain ⟨i, h1, j, h2, h3⟩ := h; exact absurd h3 (RI.out.2.2 i (by have := HK.out; omega) j h2)⟩, RI.out.2.1⟩
set_option maxHeartbeats 8000000 in
set_option maxRecDepth 100000 in
theorem containsfunc_any (w : World) (gb : Nat) (a : Option Addr) (n c : Nat) (L : List (List Int)) (b : Option Addr) (m d : Nat) (M : List (List Int)) (hc : w.cell? ⟨gb, 0, none⟩ = some (.slice b m d)) (hL : Toks w a n L) (hM : Toks w b m M) :
    Calls Tryd.prog 37 #[.slice a n c, .func (.func 38) #[] #[.pointer (some ⟨gb, 0, none⟩)]] w fun e w' => MeetPost n m L M w e w' := by
  have HC := Lib.hid hc
  have HL := Lib.hid hL
  have HM2 := Lib.hid hM
  clear hc hL hM
  go_enter Tryd.func37, Tryd.ntmps37
  go_upto_region 0 with (fail)
  refine wp_region_lit ?_
  refine wpL_pure (.bool false) rfl (by kernel_rfl) ?_
  simp only [Act.put, List.setIfInBounds_toArray, List.set_cons_zero, List.set_cons_succ]
  go_upto_region 1 with (fail)
  refine wp_region_lit ?_
  refine wpL_pure (.slice a n c) rfl (by kernel_rfl) ?_
  simp only [Act.put, List.setIfInBounds_toArray, List.set_cons_zero, List.set_cons_succ]
  refine wpL_pure (.func (.func 38) #[] #[.pointer (some ⟨gb, 0, none⟩)]) rfl (by kernel_rfl) ?_
  simp only [Act.put, List.setIfInBounds_toArray, List.set_cons_zero, List.set_cons_succ]
  refine wpL_call 52 #[.slice a n c, .func (.func 38) #[] #[.pointer (some ⟨gb, 0, none⟩)]] rfl (by kernel_rfl) (((indexfunc_any w gb a n c L b m d M HC.out HL.out HM2.out)).mono fun e w2 ⟨v, he, hv, hb⟩ => ⟨.int .i64 v, he, ?_⟩)
  simp only [Act.put, List.setIfInBounds_toArray, List.set_cons_zero, List.set_cons_succ]
  have HV := Lib.hid hv
  have B2 := Lib.hid hb
  clear hv hb
  obtain ⟨z, hz⟩ : ∃ z, decide (0 ≤ v) = z := ⟨_, rfl⟩
  have HZ := Lib.hid hz
  clear hz
  refine wpL_pure (.bool z) rfl (run_gei Tryd.underlying3 rfl rfl rfl HZ.out) ?_
  simp only [Act.put, List.setIfInBounds_toArray, List.set_cons_zero, List.set_cons_succ]
  refine wpL_pure (.bool z) rfl (by kernel_rfl) ?_
  simp only [Act.put, List.setIfInBounds_toArray, List.set_cons_zero, List.set_cons_succ]
  go_wp2_with fail
  go_ret
  exact ⟨z, rfl, by rw [← HV.out, ← HZ.out, decide_eq_true_eq], B2.out⟩
set_option maxHeartbeats 8000000 in
set_option maxRecDepth 100000 in
theorem meet_any (w : World) (a : Option Addr) (n c : Nat) (L : List (List Int)) (b : Option Addr) (m d : Nat) (M : List (List Int)) (hL : Toks w a n L) (hM : Toks w b m M) :
    Calls Tryd.prog 22 #[.slice a n c, .slice b m d] w fun e w' => MeetPost n m L M w e w' := by
  have HL := Lib.hid hL
  have HM2 := Lib.hid hM
  clear hL hM
  go_enter Tryd.func22, Tryd.ntmps22
  obtain ⟨w1, hw1⟩ : ∃ V, V = w.alloc (.cells #[.slice b m d] 32) := ⟨_, rfl⟩
  have B1 : Hid (Below w.heap.size w w1 ∧ w1.cell? ⟨w.heap.size, 0, none⟩ = some (.slice b m d) ∧ w.heap.size < w1.heap.size) := Lib.hid (by rw [hw1]; exact ⟨(Below.refl _ _).alloc (Nat.le_refl _) _, by rw [(Blk.new w 32 _).cell]; rfl, by simp⟩)
  go_upto_region 0 with (fail)
  refine wp_region_lit ?_
  refine wpL_value (.pointer (some ⟨w.heap.size, 0, none⟩)) (w1) rfl (by rw [hw1]; kernel_rfl) ?_
  simp only [Act.put, List.setIfInBounds_toArray, List.set_cons_zero, List.set_cons_succ]
  refine wpL_pure (.bool false) rfl (by kernel_rfl) ?_
  simp only [Act.put, List.setIfInBounds_toArray, List.set_cons_zero, List.set_cons_succ]
  clear hw1
  obtain ⟨gb, h3⟩ : ∃ q, w.heap.size = q := ⟨_, rfl⟩
  have G3 : Hid (w.heap.size = gb) := Lib.hid h3
  rw [h3] at B1
  try rw [h3]
  clear h3
  go_upto_region 1 with (fail)
  refine wp_region_lit ?_
  refine wpL_pure (.slice a n c) rfl (by kernel_rfl) ?_
  simp only [Act.put, List.setIfInBounds_toArray, List.set_cons_zero, List.set_cons_succ]
  refine wpL_pure (.func (.func 38) #[] #[.pointer (some ⟨gb, 0, none⟩)]) rfl (by kernel_rfl) ?_
  simp only [Act.put, List.setIfInBounds_toArray, List.set_cons_zero, List.set_cons_succ]
  refine wpL_call 37 #[.slice a n c, .func (.func 38) #[] #[.pointer (some ⟨gb, 0, none⟩)]] rfl (by kernel_rfl) (((containsfunc_any w1 gb a n c L b m d M B1.out.2.1 (HL.out.keep (by rw [G3.out]; exact B1.out.1)) (HM2.out.keep (by rw [G3.out]; exact B1.out.1)))).mono fun e w2 ⟨z, he, hz, hb⟩ => ⟨.bool z, he, ?_⟩)
  simp only [Act.put, List.setIfInBounds_toArray, List.set_cons_zero, List.set_cons_succ]
  have HZ := Lib.hid hz
  have B2 : Hid (Below gb w w2) := Lib.hid (B1.out.1.trans (hb.mono (by have := B1.out.2.2; omega)))
  clear hz hb
  refine wpL_pure (.bool z) rfl (by kernel_rfl) ?_
  simp only [Act.put, List.setIfInBounds_toArray, List.set_cons_zero, List.set_cons_succ]
  go_wp2_with fail
  go_ret
  exact ⟨z, rfl, HZ.out, by rw [G3.out]; exact B2.out⟩
end Go.Proofs.YtofdbjlhgfmgfaaDoor.Ha
