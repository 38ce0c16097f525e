import Derived.Test.YtfhjfpgfbeiacaaDoorHaKey
namespace Go.Proofs.YtfhjfpgfbeiacaaDoor.Ha
open Go Go.RowKit Go.ChangeShapes Go.WideShapes Go.ChangeAt
set_option maxRecDepth 100000

/-- texts that are handed in, of whatever length. -/
def RP (w : World) (a : Option Addr) (len : Nat) (L : List (List Int)) : Prop := L.length = len ∧ len ≤ maxLen ∧ ∀ k, k < len → ∃ g o a' n' c', a = some ⟨g, o, none⟩ ∧ w.cell? ⟨g, o + k, none⟩ = some (.slice a' n' c') ∧ Sl w a' n' c' (L.getD k [])
theorem RP.below {w w' : World} {a : Option Addr} {ln : Nat} {L : List (List Int)} (h : RP w a ln L) (hb : Below w.heap.size w w') : RP w' a ln L :=
  ⟨h.1, h.2.1, fun k hk => by
    obtain ⟨g, o, a', n', c', e, hc, hs⟩ := h.2.2 k hk
    exact ⟨g, o, a', n', c', e, (gb_of hb none).cell hc (by simp), hs.below hb⟩⟩
theorem RP.psl {w : World} {a : Option Addr} {ln : Nat} {L : List (List Int)} (h : RP w a ln L) (hl : ∀ x ∈ L, x.length ≤ 2500) : PSl w a ln L :=
  ⟨h.1, h.2.1, fun k hk => by
    obtain ⟨g, o, a', n', c', e, hc, hs⟩ := h.2.2 k hk
    have hx : k < L.length := by rw [h.1]; exact hk
    have := hl _ (List.getElem_mem hx)
    have h1 := hs.1.1
    rw [List.getD, List.getElem?_eq_getElem hx] at h1
    simp at h1
    exact ⟨g, o, a', n', c', e, hc, hs, by omega⟩⟩
theorem flat_take_le (L : List (List Int)) (k : Nat) : (L.take k).flatten.length ≤ L.flatten.length := by
  have h : L.flatten = (L.take k).flatten ++ (L.drop k).flatten := by rw [← List.flatten_append, List.take_append_drop]
  rw [h, List.length_append]
  omega
theorem gb_own {w w' : World} {B : Nat} {v : Value} {xs : List Int} (h : Own w B v xs) (hg : w.grownBy w' v.ownBlock) (hB : B ≤ w.heap.size) : Below B w w' :=
  ⟨hg.os, hg.tape, hg.output, hg.size, fun k hk => hg.block k (by omega) (fun e => by have := h.lt k e.symm; omega)⟩
theorem own_sl {w : World} {b : Nat} {v : Value} {xs : List Int} (h : Own w b v xs) : ∃ a c, v = .slice a xs.length c ∧ Sl w a xs.length c xs := by
  rcases h.form with ⟨h1, h2⟩ | ⟨g, cap, cur, h1, h2, h3, h4, h5, h6, h7⟩
  · subst h2
    exact ⟨none, 0, h1, sl_nil _⟩
  · refine ⟨_, _, h1, ?_⟩
    rw [h1] at h
    unfold maxLen at h5
    exact ⟨h.row.1, h4, by omega, fun _ p hp => by cases hp; rfl⟩
set_option maxHeartbeats 8000000 in
set_option maxRecDepth 100000 in
theorem joined_any (w : World) (a : Option Addr) (ln lc : Nat) (L : List (List Int)) (h : PSl w a ln L) (h8 : ln ≤ 100) (hF : L.flatten.length ≤ 100000) :
    Calls Tryd.prog 52 #[.slice a ln lc] w fun e w' => ∃ v, e = .returned v ∧ Own w' w.heap.size v L.flatten ∧ Below w.heap.size w w' := by
  have HP := Lib.hid h
  have HF := Lib.hid hF
  have HL8 := Lib.hid h8
  clear h h8 hF
  go_enter Tryd.func52, Tryd.ntmps52
  go_upto_region 0 with (fail)
  refine wp_region_lit ?_
  refine wpL_pure (.slice none 0 0) rfl (by kernel_rfl) ?_
  simp only [Act.put, List.setIfInBounds_toArray, List.set_cons_zero, List.set_cons_succ]
  go_upto_region 1 with (fail)
  refine wp_region_lit ?_
  refine wpL_pure (.slice none 0 0) rfl (by kernel_rfl) ?_
  simp only [Act.put, List.setIfInBounds_toArray, List.set_cons_zero, List.set_cons_succ]
  go_upto_region 2 with (fail)
  refine wp_region_lit ?_
  refine wpL_pure (.int .i64 0) rfl (by kernel_rfl) ?_
  simp only [Act.put, List.setIfInBounds_toArray, List.set_cons_zero, List.set_cons_succ]
  go_wp2_with fail
  go_loopw [3, 4] (fun s3 s4 wr => ∃ k : Nat, s4 = .int .i64 (k : Int) ∧ Hid (k ≤ ln ∧ Own wr w.heap.size s3 (L.take k).flatten ∧ Below w.heap.size w wr)) (fun _ s4 _ => ln - (intOf s4).toNat)
  case atStart => exact ⟨0, rfl, Lib.hid ⟨by omega, Own.nil _ _, Below.refl _ _⟩⟩
  case round =>
    obtain ⟨k, rfl, RI⟩ := hrel
    by_cases hlt : k < ln
    · have HK := Lib.hid hlt
      clear hlt
      go_upto_region 3 with (fail)
      refine wp_region_lit ?_
      refine wpL_pure (.int .i64 (k : Int)) rfl (by kernel_rfl) ?_
      simp only [Act.put, List.setIfInBounds_toArray, List.set_cons_zero, List.set_cons_succ]
      refine wpL_pure (.slice a ln lc) rfl (by kernel_rfl) ?_
      simp only [Act.put, List.setIfInBounds_toArray, List.set_cons_zero, List.set_cons_succ]
      refine wpL_pure (.int .i64 (ln : Int)) rfl (by kernel_rfl) ?_
      simp only [Act.put, List.setIfInBounds_toArray, List.set_cons_zero, List.set_cons_succ]
      refine wpL_pure (.bool true) rfl (run_lti Tryd.underlying3 rfl rfl rfl (by have := HK.out; rw [decide_eq_true_eq]; omega)) ?_
      simp only [Act.put, List.setIfInBounds_toArray, List.set_cons_zero, List.set_cons_succ]
      obtain ⟨g, o, pa, pn, pc, ea, hc, hsl, _⟩ := HP.out.2.2 k HK.out
      have EA := Lib.hid ea
      have PC : Hid (wr.cell? ⟨g, o + k, none⟩ = some (.slice pa pn pc)) := Lib.hid ((gb_of RI.out.2.2 none).cell hc (by simp))
      obtain ⟨v2, w2, r1, r2, r3, r4, r5⟩ := append_own wr w.heap.size u3 (L.take k).flatten (L.getD k []) pa pn pc RI.out.2.1 (hsl.1.keep RI.out.2.2) (by have h1 := flat_take_succ HP.out.1 HK.out; have h2 := flat_take_le L (k + 1); have h3 := HF.out; rw [← h1, List.length_append] at h2; rw [hsl.1.1] at h2; omega) RI.out.2.2.size
      have AP := Lib.hid r1
      have NX : Hid (k + 1 ≤ ln ∧ Own w2 w.heap.size v2 (L.take (k + 1)).flatten ∧ Below w.heap.size w w2) := Lib.hid ⟨HK.out, by rw [← flat_take_succ HP.out.1 HK.out]; exact r2, RI.out.2.2.trans (gb_own RI.out.2.1 r3 RI.out.2.2.size)⟩
      clear ea hc hsl r1 r2 r3 r4 r5
      go_upto_region 5 with (fail)
      refine wp_region_lit ?_
      refine wpL_pure (u3) rfl (by kernel_rfl) ?_
      simp only [Act.put, List.setIfInBounds_toArray, List.set_cons_zero, List.set_cons_succ]
      refine wpL_pure (.slice a ln lc) rfl (by kernel_rfl) ?_
      simp only [Act.put, List.setIfInBounds_toArray, List.set_cons_zero, List.set_cons_succ]
      refine wpL_pure (.int .i64 (k : Int)) rfl (by kernel_rfl) ?_
      simp only [Act.put, List.setIfInBounds_toArray, List.set_cons_zero, List.set_cons_succ]
      refine wpL_pure (.pointer (some ⟨g, o + k, none⟩)) rfl (run_idx35 _ _ _ _ _ g o ln lc k rfl (by rw [EA.out]; rfl) rfl HK.out HP.out.2.1) ?_
      simp only [Act.put, List.setIfInBounds_toArray, List.set_cons_zero, List.set_cons_succ]
      refine wpL_pure (.slice pa pn pc) rfl (run_load_one _ _ _ 32 _ _ rfl (g) (o + k) rfl (PC.out) (by kernel_rfl)) ?_
      simp only [Act.put, List.setIfInBounds_toArray, List.set_cons_zero, List.set_cons_succ]
      refine wpL_value (v2) (w2) rfl (run_app _ _ _ _ _ _ _ _ _ rfl rfl rfl rfl AP.out) ?_
      simp only [Act.put, List.setIfInBounds_toArray, List.set_cons_zero, List.set_cons_succ]
      refine wpL_pure (v2) rfl (by kernel_rfl) ?_
      simp only [Act.put, List.setIfInBounds_toArray, List.set_cons_zero, List.set_cons_succ]
      go_upto_region 4 with (fail)
      refine wp_region_lit ?_
      refine wpL_pure (.int .i64 (k : Int)) rfl (by kernel_rfl) ?_
      simp only [Act.put, List.setIfInBounds_toArray, List.set_cons_zero, List.set_cons_succ]
      refine wpL_pure (.int .i64 ((k + 1 : Nat) : Int)) rfl (run_addi Tryd.underlying3 rfl rfl rfl _ (by have := HK.out; have := HL8.out; rw [wrap_in _ (by omega) (by omega)]; omega)) ?_
      simp only [Act.put, List.setIfInBounds_toArray, List.set_cons_zero, List.set_cons_succ]
      refine wpL_pure (.int .i64 ((k + 1 : Nat) : Int)) rfl (by kernel_rfl) ?_
      simp only [Act.put, List.setIfInBounds_toArray, List.set_cons_zero, List.set_cons_succ]
      unfold wpList
      go_roundw
      case rel => first | exact ⟨k + 1, rfl, NX⟩ | ((repeat apply Exists.intro); exact ⟨⟨k + 1, rfl, NX⟩, rfl⟩)
      case measure => simp [intOf]; have := HK.out; omega
    · have HK := Lib.hid hlt
      have EK : Hid (k = ln) := Lib.hid (by have := RI.out.1; omega)
      clear hlt
      go_upto_region 3 with (fail)
      refine wp_region_lit ?_
      refine wpL_pure (.int .i64 (k : Int)) rfl (by kernel_rfl) ?_
      simp only [Act.put, List.setIfInBounds_toArray, List.set_cons_zero, List.set_cons_succ]
      refine wpL_pure (.slice a ln lc) rfl (by kernel_rfl) ?_
      simp only [Act.put, List.setIfInBounds_toArray, List.set_cons_zero, List.set_cons_succ]
      refine wpL_pure (.int .i64 (ln : Int)) rfl (by kernel_rfl) ?_
      simp only [Act.put, List.setIfInBounds_toArray, List.set_cons_zero, List.set_cons_succ]
      refine wpL_pure (.bool false) rfl (run_lti Tryd.underlying3 rfl rfl rfl (by have := HK.out; rw [decide_eq_false_iff_not]; omega)) ?_
      simp only [Act.put, List.setIfInBounds_toArray, List.set_cons_zero, List.set_cons_succ]
      go_upto_region 6 with (fail)
      refine wp_region_lit ?_
      refine wpL_pure (u3) rfl (by kernel_rfl) ?_
      simp only [Act.put, List.setIfInBounds_toArray, List.set_cons_zero, List.set_cons_succ]
      refine wpL_pure (u3) rfl (by kernel_rfl) ?_
      simp only [Act.put, List.setIfInBounds_toArray, List.set_cons_zero, List.set_cons_succ]
      go_wp2_with fail
      go_ret
      exact ⟨u3, rfl, by have h := RI.out.2.1; rw [EK.out, List.take_of_length_le (by rw [HP.out.1]; omega)] at h; exact h, RI.out.2.2⟩
end Go.Proofs.YtfhjfpgfbeiacaaDoor.Ha
