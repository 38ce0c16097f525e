/- 'DiskKeeps'. -/
import Derived.Test.YticjpjbmjnalhaaWalkDiskFuses
namespace Go.Proofs.Yticjpjbmjnalhaa
open Go Go.RowKit
/-- the i-th sector is as it was synced; it isn't loose. -/
def KI (b gs gm i : Nat) (X : List Int) (w : World) : Prop := ∃ L c S, DS w b gs gm 12 L c S false 0 false ∧ S[i]? = some X ∧ ∀ e ∈ L, e.1 ≠ (i : Int)
theorem write_ok {w w' : World} {b gs gm n c k : Nat} {L : List (Int × List Int × Nat)} {S : List (List Int)} {xs : List Int} {e : Ending} (h : WPost b gs gm n c L S false false 0 (k : Int) 64 xs w e w') (h0 : 0 ≤ (k : Int)) (hn : (k : Int) < (n : Int)) :
    e = .returned (.int .i64 0) ∧ ∃ L' c' S', DS w' b gs gm n L' c' S' false 0 false ∧ Fd b gs gm w w' ∧ (∀ j, j ≠ k → S'[j]? = S[j]?) ∧ (∀ j, j = k → S'[j]? = some xs) ∧ ∀ j : Nat, j ≠ k → (∀ e ∈ L, e.1 ≠ (j : Int)) → ∀ e ∈ L', e.1 ≠ (j : Int) := by
  rcases h with ⟨h, _⟩ | ⟨_, hm, _⟩ | ⟨_, _, rfl, kk, s, hk, hs, d, f⟩
  · exact absurd ⟨⟨h0, hn⟩, rfl⟩ h
  · simp [mayB] at hm
  · obtain rfl : kk = k := by omega
    refine ⟨rfl, _, _, _, d, f, fun j hj => ?_, fun j hj => ?_, fun j hj hl e he => ?_⟩
    · rw [List.getElem?_set_ne (fun q => hj q.symm)]
    · subst hj
      have hlt : j < S.length := by
        rcases Nat.lt_or_ge j S.length with q | q
        · exact q
        · rw [List.getElem?_eq_none q] at hs; cases hs
      rw [List.getElem?_set_self hlt]
    · unfold wrL at he
      split at he
      · exact hl e he
      · rcases List.mem_append.1 he with q | q
        · exact hl e q
        · obtain rfl := List.mem_singleton.1 q
          simp
          omega
theorem crS_other {F : List Int} {L : List (Int × List Int × Nat)} {ks : List Int} {S : List (List Int)} {i : Nat} (h : ∀ x ∈ ks, 0 ≤ x ∧ x ≠ (i : Int)) : ∀ j, j ≤ ks.length → (crS F L ks S j)[i]? = S[i]?
  | 0, _ => rfl
  | j + 1, hj => by
    rw [crS, crStep]
    have hm : ks.getD j 0 ∈ ks := by simp [List.getD, List.getElem?_eq_getElem (show j < ks.length by omega)]
    have q := h _ hm
    rw [List.getElem?_set_ne (by omega)]
    exact crS_other h j (by omega)
theorem far_row {w : World} {a : Option Addr} {m b gs gm : Nat} {xs : List Int} (h : Row w a m xs) (hm : 0 < m) (p : Addr) (hp : a = some p) (lb : w.heap.size ≤ b ∧ w.heap.size ≤ gs ∧ w.heap.size ≤ gm) : p.block ≠ b ∧ p.block ≠ gs ∧ p.block ≠ gm := by
  obtain ⟨g, o, e, hc⟩ := h.2.2.2 0 hm
  rw [hp] at e
  cases e
  have := cell_lt hc
  simp at this
  refine ⟨?_, ?_, ?_⟩ <;> simp <;> omega
attribute [local irreducible] wpList
set_option maxHeartbeats 4000000 in
set_option maxRecDepth 100000 in
theorem keeps_any (ab : Option Addr) (nb cb : Nat) (bs : List Int) (at_ : Nat) (ha : at_ < 256) (af : Option Addr) (nf cf : Nat) (fs : List Int) (w : World) (hb : Row w ab nb bs) (hf : Row w af nf fs) :
    Calls Try.prog 6 #[.slice ab nb cb, .int .u8 ((at_ : Nat) : Int), .slice af nf cf] w fun e w' => e = .returned (.bool true) ∧ Below w.heap.size w w' := by
  obtain ⟨i, hi⟩ : ∃ i, at_ % 12 = i := ⟨_, rfl⟩
  have HI : Hid (at_ % 12 = i ∧ i < 12) := Lib.hid ⟨hi, by omega⟩
  have HB := Lib.hid hb
  have HF := Lib.hid hf
  clear hi hb hf ha
  go_enter Try.func6, Try.ntmps6
  go_upto_region 1 with (fail)
  refine wp_region_lit ?_
  refine wpL_call 9 #[] rfl (by kernel_rfl) (((awakeD w)).mono fun e W1 ⟨he, ba⟩ => ⟨.bool true, he, ?_⟩)
  simp only [Act.put, List.setIfInBounds_toArray, List.set_cons_zero, List.set_cons_succ]
  have F1 : Hid (Below w.heap.size w W1) := Lib.hid (ba)
  clear ba
  refine wpL_pure (.bool false) rfl (by kernel_rfl) ?_
  simp only [Act.put, List.setIfInBounds_toArray, List.set_cons_zero, List.set_cons_succ]
  refine wpL_pure (.bool false) rfl (by kernel_rfl) ?_
  simp only [Act.put, List.setIfInBounds_toArray, List.set_cons_zero, List.set_cons_succ]
  refine wpL_pure (.slice af nf cf) rfl (by kernel_rfl) ?_
  simp only [Act.put, List.setIfInBounds_toArray, List.set_cons_zero, List.set_cons_succ]
  refine wpL_pure (.int .i64 (nf : Int)) rfl (by kernel_rfl) ?_
  simp only [Act.put, List.setIfInBounds_toArray, List.set_cons_zero, List.set_cons_succ]
  by_cases h5 : 50 < nf
  · have H5 := Lib.hid h5
    clear h5
    refine wpL_pure (.bool true) rfl (run_gti Try.underlying3 rfl rfl rfl (by have := H5.out; rw [decide_eq_true_eq]; omega)) ?_
    simp only [Act.put, List.setIfInBounds_toArray, List.set_cons_zero, List.set_cons_succ]
    refine wpL_pure (.bool true) rfl (by kernel_rfl) ?_
    simp only [Act.put, List.setIfInBounds_toArray, List.set_cons_zero, List.set_cons_succ]
    unfold wpList
    go_upto_region 2 with (fail)
    refine wp_region_lit ?_
    refine wpL_call 9 #[] rfl (by kernel_rfl) (((awakeD W1)).mono fun e W2 ⟨he, ba⟩ => ⟨.bool true, he, ?_⟩)
    simp only [Act.put, List.setIfInBounds_toArray, List.set_cons_zero, List.set_cons_succ]
    have F2 : Hid (Below w.heap.size w W2) := Lib.hid (F1.out.trans (ba.mono F1.out.size))
    clear ba
    refine wpL_pure (.bool true) rfl (by kernel_rfl) ?_
    simp only [Act.put, List.setIfInBounds_toArray, List.set_cons_zero, List.set_cons_succ]
    go_wp2_with fail
    go_ret
    exact ⟨rfl, F2.out⟩
  · have H5 : Hid (nf ≤ 50) := Lib.hid (by omega)
    clear h5
    refine wpL_pure (.bool false) rfl (run_gti Try.underlying3 rfl rfl rfl (by have := H5.out; rw [decide_eq_false_iff_not]; omega)) ?_
    simp only [Act.put, List.setIfInBounds_toArray, List.set_cons_zero, List.set_cons_succ]
    refine wpL_pure (.bool false) rfl (by kernel_rfl) ?_
    simp only [Act.put, List.setIfInBounds_toArray, List.set_cons_zero, List.set_cons_succ]
    unfold wpList
    go_upto_region 3 with (fail)
    refine wp_region_lit ?_
    refine wpL_call 8 #[.int .i64 12] rfl (by kernel_rfl) ((newD 12 (by omega) W1).mono ?_)
    rintro e W2 ⟨b, gs, gm, rfl, d1, b1, l1, l2, l3⟩
    have F2 : Hid (DS W2 b gs gm 12 [] 0 (zs 12) false 0 false ∧ Below w.heap.size w W2) := Lib.hid ⟨d1, F1.out.trans (b1.mono F1.out.size)⟩
    have LB : Hid (w.heap.size ≤ b ∧ w.heap.size ≤ gs ∧ w.heap.size ≤ gm) := Lib.hid (by have := F1.out.size; omega)
    clear d1 b1 l1 l2 l3 F1
    refine ⟨_, rfl, ?_⟩
    simp only [Act.put, List.setIfInBounds_toArray, List.set_cons_zero, List.set_cons_succ]
    refine wpL_pure (.pointer (some ⟨b, 0, none⟩)) rfl (by kernel_rfl) ?_
    simp only [Act.put, List.setIfInBounds_toArray, List.set_cons_zero, List.set_cons_succ]
    unfold wpList
    go_upto_region 4 with (fail)
    refine wp_region_lit ?_
    refine wpL_pure (.int .u8 ((at_ : Nat) : Int)) rfl (by kernel_rfl) ?_
    simp only [Act.put, List.setIfInBounds_toArray, List.set_cons_zero, List.set_cons_succ]
    refine wpL_pure (.int .u8 ((i : Nat) : Int)) rfl (run_remu _ _ _ _ at_ 12 i rfl rfl (by decide) HI.out.1) ?_
    simp only [Act.put, List.setIfInBounds_toArray, List.set_cons_zero, List.set_cons_succ]
    refine wpL_pure (.int .i64 ((i : Nat) : Int)) rfl (run_convi Try.underlying5 Try.underlying3 rfl rfl _ (by have := HI.out.2; rw [wrap_in _ (by omega) (by omega)])) ?_
    simp only [Act.put, List.setIfInBounds_toArray, List.set_cons_zero, List.set_cons_succ]
    refine wpL_pure (.int .i64 ((i : Nat) : Int)) rfl (by kernel_rfl) ?_
    simp only [Act.put, List.setIfInBounds_toArray, List.set_cons_zero, List.set_cons_succ]
    go_upto_region 5 with (fail)
    refine wp_region_lit ?_
    refine wpL_pure (.slice ab nb cb) rfl (by kernel_rfl) ?_
    simp only [Act.put, List.setIfInBounds_toArray, List.set_cons_zero, List.set_cons_succ]
    refine wpL_call 10 #[.int .u8 3, .slice ab nb cb] rfl (by kernel_rfl) (((full_any W2 3 (by omega) ab nb cb bs (HB.out.keep F2.out.2))).mono fun e W3 ⟨v, he, q1, q2⟩ => ⟨v, he, ?_⟩)
    simp only [Act.put, List.setIfInBounds_toArray, List.set_cons_zero, List.set_cons_succ]
    obtain ⟨gx, cx, hv⟩ := own64 q1 (fullL_len _ _ _)
    subst hv
    have lx := (q1.lt gx rfl).1
    have F3 : Hid (DS W3 b gs gm 12 [] 0 (zs 12) false 0 false ∧ Row W3 (some ⟨gx, 0, none⟩) 64 (fullL 3 bs 64) ∧ Below w.heap.size w W3) := Lib.hid ⟨F2.out.1.below q2, (Own.row q1).1, F2.out.2.trans (q2.mono F2.out.2.size)⟩
    have GX : Hid (gx ≠ b ∧ gx ≠ gs ∧ gx ≠ gm) := Lib.hid (by have := F2.out.1.lts; omega)
    have XOK : Hid (SOk (fullL 3 bs 64)) := Lib.hid ⟨fullL_len _ _ _, (Own.row q1).1.2.2.1⟩
    clear q1 q2 lx F2
    refine wpL_pure (.slice (some ⟨gx, 0, none⟩) 64 cx) rfl (by kernel_rfl) ?_
    simp only [Act.put, List.setIfInBounds_toArray, List.set_cons_zero, List.set_cons_succ]
    unfold wpList
    go_upto_region 6 with (fail)
    refine wp_region_lit ?_
    refine wpL_pure (.pointer (some ⟨b, 0, none⟩)) rfl (by kernel_rfl) ?_
    simp only [Act.put, List.setIfInBounds_toArray, List.set_cons_zero, List.set_cons_succ]
    refine wpL_pure (.int .i64 ((i : Nat) : Int)) rfl (by kernel_rfl) ?_
    simp only [Act.put, List.setIfInBounds_toArray, List.set_cons_zero, List.set_cons_succ]
    refine wpL_pure (.slice (some ⟨gx, 0, none⟩) 64 cx) rfl (by kernel_rfl) ?_
    simp only [Act.put, List.setIfInBounds_toArray, List.set_cons_zero, List.set_cons_succ]
    refine wpL_call 11 #[.pointer (some ⟨b, 0, none⟩), .int .i64 ((i : Nat) : Int), .slice (some ⟨gx, 0, none⟩) 64 cx] rfl (by kernel_rfl) ((writeD F3.out.1 ((i : Nat) : Int) (some ⟨gx, 0, none⟩) 64 cx _ F3.out.2.1 (fun p hp => by cases hp; exact GX.out)).mono ?_)
    rintro e W4 hw
    obtain ⟨rfl, L4, c4, S4, d4, f4, _, hs4, _⟩ := write_ok hw (by have := HI.out.2; omega) (by have := HI.out.2; omega)
    have F4 : Hid (DS W4 b gs gm 12 L4 c4 S4 false 0 false ∧ Row W4 (some ⟨gx, 0, none⟩) 64 (fullL 3 bs 64) ∧ Below w.heap.size w W4 ∧ S4[i]? = some (fullL 3 bs 64)) := Lib.hid ⟨d4, f4.row F3.out.2.1 (fun p hp => by cases hp; exact GX.out), f4.below F3.out.2.2 LB.out.1 LB.out.2.1 LB.out.2.2, hs4 i rfl⟩
    clear hw d4 f4 hs4 F3
    refine ⟨_, rfl, ?_⟩
    simp only [Act.put, List.setIfInBounds_toArray, List.set_cons_zero, List.set_cons_succ]
    refine wpL_pure (.pointer (some ⟨b, 0, none⟩)) rfl (by kernel_rfl) ?_
    simp only [Act.put, List.setIfInBounds_toArray, List.set_cons_zero, List.set_cons_succ]
    refine wpL_call 17 #[.pointer (some ⟨b, 0, none⟩)] rfl (by kernel_rfl) ((syncD F4.out.1).mono ?_)
    rintro e W5 hs
    rcases hs with ⟨h1, _⟩ | ⟨_, rfl, d5, f5⟩
    · simp [mayB] at h1
    have F5 : Hid (KI b gs gm i (fullL 3 bs 64) W5 ∧ Row W5 (some ⟨gx, 0, none⟩) 64 (fullL 3 bs 64) ∧ Below w.heap.size w W5) := Lib.hid ⟨⟨[], c4, S4, d5, F4.out.2.2.2, by simp⟩, f5.row F4.out.2.1 (fun p hp => by cases hp; exact GX.out), f5.below F4.out.2.2.1 LB.out.1 LB.out.2.1 LB.out.2.2⟩
    clear d5 f5 F4
    refine ⟨_, rfl, ?_⟩
    simp only [Act.put, List.setIfInBounds_toArray, List.set_cons_zero, List.set_cons_succ]
    refine wpL_pure (.int .i64 0) rfl (by kernel_rfl) ?_
    simp only [Act.put, List.setIfInBounds_toArray, List.set_cons_zero, List.set_cons_succ]
    refine wpL_pure (.int .i64 0) rfl (by kernel_rfl) ?_
    simp only [Act.put, List.setIfInBounds_toArray, List.set_cons_zero, List.set_cons_succ]
    unfold wpList
    go_wp2_with fail
    go_loopw [12] (fun s12 wr => ∃ (k : Nat), s12 = .int .i64 (k : Int) ∧ Hid (k ≤ 12 ∧ KI b gs gm i (fullL 3 bs 64) wr ∧ Row wr (some ⟨gx, 0, none⟩) 64 (fullL 3 bs 64) ∧ Below w.heap.size w wr)) (fun s12 _ => 12 - (intOf s12).toNat)
    case atStart => exact ⟨0, rfl, Lib.hid ⟨by omega, F5.out⟩⟩
    case round =>
      obtain ⟨k, rfl, RI⟩ := hrel
      by_cases hlt : k < 12
      · have HK := Lib.hid hlt
        clear hlt
        go_upto_region 8 with (fail)
        refine wp_region_lit ?_
        refine wpL_pure (.int .i64 (k : Int)) rfl (by kernel_rfl) ?_
        simp only [Act.put, List.setIfInBounds_toArray, List.set_cons_zero, List.set_cons_succ]
        refine wpL_pure (.bool true) rfl (run_lti Try.underlying3 rfl rfl rfl (by have := HK.out; rw [decide_eq_true_eq]; omega)) ?_
        simp only [Act.put, List.setIfInBounds_toArray, List.set_cons_zero, List.set_cons_succ]
        by_cases hki : k = i
        · have HKI := Lib.hid hki
          clear hki
          go_upto_region 10 with (fail)
          refine wp_region_lit ?_
          refine wpL_pure (.int .i64 (k : Int)) rfl (by kernel_rfl) ?_
          simp only [Act.put, List.setIfInBounds_toArray, List.set_cons_zero, List.set_cons_succ]
          refine wpL_pure (.int .i64 ((i : Nat) : Int)) rfl (by kernel_rfl) ?_
          simp only [Act.put, List.setIfInBounds_toArray, List.set_cons_zero, List.set_cons_succ]
          refine wpL_pure (.bool false) rfl (run_nei Try.underlying3 rfl rfl rfl (by have := HKI.out; rw [decide_eq_false_iff_not]; omega)) ?_
          simp only [Act.put, List.setIfInBounds_toArray, List.set_cons_zero, List.set_cons_succ]
          refine wpL_pure (.bool false) rfl (by kernel_rfl) ?_
          simp only [Act.put, List.setIfInBounds_toArray, List.set_cons_zero, List.set_cons_succ]
          refine wpL_skip (by kernel_rfl) ?_
          simp only [Act.put, List.setIfInBounds_toArray, List.set_cons_zero, List.set_cons_succ]
          refine wpL_skip (by kernel_rfl) ?_
          simp only [Act.put, List.setIfInBounds_toArray, List.set_cons_zero, List.set_cons_succ]
          refine wpL_skip (by kernel_rfl) ?_
          simp only [Act.put, List.setIfInBounds_toArray, List.set_cons_zero, List.set_cons_succ]
          refine wpL_skip (by kernel_rfl) ?_
          simp only [Act.put, List.setIfInBounds_toArray, List.set_cons_zero, List.set_cons_succ]
          refine wpL_skip (by kernel_rfl) ?_
          simp only [Act.put, List.setIfInBounds_toArray, List.set_cons_zero, List.set_cons_succ]
          refine wpL_skip (by kernel_rfl) ?_
          simp only [Act.put, List.setIfInBounds_toArray, List.set_cons_zero, List.set_cons_succ]
          refine wpL_skip (by kernel_rfl) ?_
          simp only [Act.put, List.setIfInBounds_toArray, List.set_cons_zero, List.set_cons_succ]
          refine wpL_pure (.bool false) rfl (by kernel_rfl) ?_
          simp only [Act.put, List.setIfInBounds_toArray, List.set_cons_zero, List.set_cons_succ]
          go_upto_region 9 with (fail)
          refine wp_region_lit ?_
          refine wpL_pure (.int .i64 (k : Int)) rfl (by kernel_rfl) ?_
          simp only [Act.put, List.setIfInBounds_toArray, List.set_cons_zero, List.set_cons_succ]
          refine wpL_pure (.int .i64 ((k + 1 : Nat) : Int)) rfl (run_addi Try.underlying3 rfl rfl rfl _ (by have := HK.out; rw [wrap_in _ (by omega) (by omega)]; omega)) ?_
          simp only [Act.put, List.setIfInBounds_toArray, List.set_cons_zero, List.set_cons_succ]
          refine wpL_pure (.int .i64 ((k + 1 : Nat) : Int)) rfl (by kernel_rfl) ?_
          simp only [Act.put, List.setIfInBounds_toArray, List.set_cons_zero, List.set_cons_succ]
          have NX : Hid (k + 1 ≤ 12 ∧ KI b gs gm i (fullL 3 bs 64) wr ∧ Row wr (some ⟨gx, 0, none⟩) 64 (fullL 3 bs 64) ∧ Below w.heap.size w wr) := Lib.hid ⟨HK.out, RI.out.2⟩
          unfold wpList
          go_roundw
          case rel => first | exact ⟨k + 1, rfl, NX⟩ | ((repeat apply Exists.intro); exact ⟨⟨k + 1, rfl, NX⟩, rfl⟩)
          case measure => simp [intOf]; have := HK.out; omega
        · have HKI := Lib.hid hki
          clear hki
          obtain ⟨L, c, S, hds, hsi, hli⟩ := RI.out.2.1
          have HD := Lib.hid hds
          have HSI := Lib.hid hsi
          have HLI := Lib.hid hli
          clear hds hsi hli
          go_upto_region 10 with (fail)
          refine wp_region_lit ?_
          refine wpL_pure (.int .i64 (k : Int)) rfl (by kernel_rfl) ?_
          simp only [Act.put, List.setIfInBounds_toArray, List.set_cons_zero, List.set_cons_succ]
          refine wpL_pure (.int .i64 ((i : Nat) : Int)) rfl (by kernel_rfl) ?_
          simp only [Act.put, List.setIfInBounds_toArray, List.set_cons_zero, List.set_cons_succ]
          refine wpL_pure (.bool true) rfl (run_nei Try.underlying3 rfl rfl rfl (by have := HKI.out; rw [decide_eq_true_eq]; omega)) ?_
          simp only [Act.put, List.setIfInBounds_toArray, List.set_cons_zero, List.set_cons_succ]
          refine wpL_pure (.bool true) rfl (by kernel_rfl) ?_
          simp only [Act.put, List.setIfInBounds_toArray, List.set_cons_zero, List.set_cons_succ]
          refine wpL_pure (.pointer (some ⟨b, 0, none⟩)) rfl (by kernel_rfl) ?_
          simp only [Act.put, List.setIfInBounds_toArray, List.set_cons_zero, List.set_cons_succ]
          refine wpL_pure (.int .i64 (k : Int)) rfl (by kernel_rfl) ?_
          simp only [Act.put, List.setIfInBounds_toArray, List.set_cons_zero, List.set_cons_succ]
          refine wpL_pure (.int .i64 (k : Int)) rfl (by kernel_rfl) ?_
          simp only [Act.put, List.setIfInBounds_toArray, List.set_cons_zero, List.set_cons_succ]
          refine wpL_pure (.int .u8 (k : Int)) rfl (run_convi Try.underlying3 Try.underlying5 rfl rfl _ (by have := HK.out; rw [wrap_u8 _ (by omega) (by omega)])) ?_
          simp only [Act.put, List.setIfInBounds_toArray, List.set_cons_zero, List.set_cons_succ]
          refine wpL_call 10 #[.int .u8 (k : Int), .slice none 0 0] rfl (by kernel_rfl) (((full_any wr (k : Int) (by have := HK.out; omega) none 0 0 [] (Row.nil _ _))).mono fun e w1 ⟨v, he, q1, q2⟩ => ⟨v, he, ?_⟩)
          simp only [Act.put, List.setIfInBounds_toArray, List.set_cons_zero, List.set_cons_succ]
          obtain ⟨gy, cy, hv⟩ := own64 q1 (fullL_len _ _ _)
          subst hv
          have ly := (q1.lt gy rfl).1
          have A1 : Hid (DS w1 b gs gm 12 L c S false 0 false ∧ Row w1 (some ⟨gx, 0, none⟩) 64 (fullL 3 bs 64) ∧ Below w.heap.size w w1 ∧ Row w1 (some ⟨gy, 0, none⟩) 64 (fullL (k : Int) [] 64) ∧ gy ≠ b ∧ gy ≠ gs ∧ gy ≠ gm) := Lib.hid ⟨HD.out.below q2, RI.out.2.2.1.keep q2, RI.out.2.2.2.trans (q2.mono RI.out.2.2.2.size), (Own.row q1).1, by have := HD.out.lts; omega, by have := HD.out.lts; omega, by have := HD.out.lts; omega⟩
          clear q1 q2 ly HD
          refine wpL_call 11 #[.pointer (some ⟨b, 0, none⟩), .int .i64 (k : Int), .slice (some ⟨gy, 0, none⟩) 64 cy] rfl (by kernel_rfl) ((writeD A1.out.1 (k : Int) (some ⟨gy, 0, none⟩) 64 cy _ A1.out.2.2.2.1 (fun p hp => by cases hp; exact A1.out.2.2.2.2)).mono ?_)
          rintro e w2 hw
          obtain ⟨rfl, L2, c2, S2, d2, f2, ho2, _, hl2⟩ := write_ok hw (by omega) (by have := HK.out; omega)
          have A2 : Hid (KI b gs gm i (fullL 3 bs 64) w2 ∧ Row w2 (some ⟨gx, 0, none⟩) 64 (fullL 3 bs 64) ∧ Below w.heap.size w w2) := Lib.hid ⟨⟨L2, c2, S2, d2, (ho2 i (by have := HKI.out; omega)).trans HSI.out, hl2 i (by have := HKI.out; omega) HLI.out⟩, f2.row A1.out.2.1 (fun p hp => by cases hp; exact GX.out), f2.below A1.out.2.2.1 LB.out.1 LB.out.2.1 LB.out.2.2⟩
          clear hw d2 f2 ho2 hl2 A1
          refine ⟨_, rfl, ?_⟩
          simp only [Act.put, List.setIfInBounds_toArray, List.set_cons_zero, List.set_cons_succ]
          refine wpL_pure (.bool false) rfl (by kernel_rfl) ?_
          simp only [Act.put, List.setIfInBounds_toArray, List.set_cons_zero, List.set_cons_succ]
          refine wpL_pure (.bool false) rfl (by kernel_rfl) ?_
          simp only [Act.put, List.setIfInBounds_toArray, List.set_cons_zero, List.set_cons_succ]
          unfold wpList
          go_upto_region 9 with (fail)
          refine wp_region_lit ?_
          refine wpL_pure (.int .i64 (k : Int)) rfl (by kernel_rfl) ?_
          simp only [Act.put, List.setIfInBounds_toArray, List.set_cons_zero, List.set_cons_succ]
          refine wpL_pure (.int .i64 ((k + 1 : Nat) : Int)) rfl (run_addi Try.underlying3 rfl rfl rfl _ (by have := HK.out; rw [wrap_in _ (by omega) (by omega)]; omega)) ?_
          simp only [Act.put, List.setIfInBounds_toArray, List.set_cons_zero, List.set_cons_succ]
          refine wpL_pure (.int .i64 ((k + 1 : Nat) : Int)) rfl (by kernel_rfl) ?_
          simp only [Act.put, List.setIfInBounds_toArray, List.set_cons_zero, List.set_cons_succ]
          have NX : Hid (k + 1 ≤ 12 ∧ KI b gs gm i (fullL 3 bs 64) w2 ∧ Row w2 (some ⟨gx, 0, none⟩) 64 (fullL 3 bs 64) ∧ Below w.heap.size w w2) := Lib.hid ⟨HK.out, A2.out⟩
          unfold wpList
          go_roundw
          case rel => first | exact ⟨k + 1, rfl, NX⟩ | ((repeat apply Exists.intro); exact ⟨⟨k + 1, rfl, NX⟩, rfl⟩)
          case measure => simp [intOf]; have := HK.out; omega
      · have HK := Lib.hid hlt
        clear hlt
        go_upto_region 8 with (fail)
        refine wp_region_lit ?_
        refine wpL_pure (.int .i64 (k : Int)) rfl (by kernel_rfl) ?_
        simp only [Act.put, List.setIfInBounds_toArray, List.set_cons_zero, List.set_cons_succ]
        refine wpL_pure (.bool false) rfl (run_lti Try.underlying3 rfl rfl rfl (by have := HK.out; rw [decide_eq_false_iff_not]; omega)) ?_
        simp only [Act.put, List.setIfInBounds_toArray, List.set_cons_zero, List.set_cons_succ]
        obtain ⟨L, c, S, hds, hsi, hli⟩ := RI.out.2.1
        have HD := Lib.hid hds
        have HSI := Lib.hid hsi
        have HLI := Lib.hid hli
        clear hds hsi hli
        go_upto_region 12 with (fail)
        refine wp_region_lit ?_
        refine zP (.pointer (some ⟨b, 0, none⟩)) ?_
        refine zP (.slice af nf cf) ?_
        refine wpL_call 18 #[.pointer (some ⟨b, 0, none⟩), .slice af nf cf] rfl (by kernel_rfl) ((crashD HD.out af nf cf fs (HF.out.keep RI.out.2.2.2) (fun hq p hp => far_row HF.out hq p hp LB.out)).mono ?_)
        rintro e w1 ⟨rfl, ks, hp, _, d1, f1⟩
        obtain ⟨S1, hS1⟩ : ∃ q, crS fs L ks S ks.length = q := ⟨_, rfl⟩
        have hs1 : S1[i]? = some (fullL 3 bs 64) := by rw [← hS1, crS_other (fun x hx => by obtain ⟨e0, he0, rfl⟩ := List.mem_map.1 (hp.mem_iff.1 hx); exact ⟨(HD.out.2.2.2.2.2.2.2.1.1 e0 he0).1, HLI.out e0 he0⟩) _ (Nat.le_refl _)]; exact HSI.out
        rw [hS1] at d1
        have A1 : Hid (DS w1 b gs gm 12 [] c S1 false 0 false ∧ Row w1 (some ⟨gx, 0, none⟩) 64 (fullL 3 bs 64) ∧ Below w.heap.size w w1 ∧ S1[i]? = some (fullL 3 bs 64)) := Lib.hid ⟨d1, f1.row RI.out.2.2.1 (fun p hp => by cases hp; exact GX.out), f1.below RI.out.2.2.2 LB.out.1 LB.out.2.1 LB.out.2.2, hs1⟩
        clear d1 f1 hS1 hs1 hp HD HSI HLI
        refine ⟨_, rfl, ?_⟩
        simp only [Act.put, List.setIfInBounds_toArray, List.set_cons_zero, List.set_cons_succ]
        unfold wpList
        go_upto_region 13 with (fail)
        refine wp_region_lit ?_
        refine zP (.pointer (some ⟨b, 0, none⟩)) ?_
        refine zP (.int .i64 ((i : Nat) : Int)) ?_
        refine wpL_call 12 #[.pointer (some ⟨b, 0, none⟩), .int .i64 ((i : Nat) : Int)] rfl (by kernel_rfl) ((readD A1.out.1 ((i : Nat) : Int)).mono ?_)
        rintro e w2 hr
        rcases hr with ⟨h1, _⟩ | ⟨_, h1, _⟩ | ⟨_, _, kk, s, v, hk, hs, rfl, q1, q2⟩
        · exact absurd ⟨by have := HI.out.2; omega, by have := HI.out.2; omega⟩ h1
        · cases h1
        obtain rfl : kk = i := by omega
        rw [A1.out.2.2.2] at hs
        obtain rfl := Option.some.inj hs
        obtain ⟨gz, cz, hv⟩ := own64 q1 (fullL_len _ _ _)
        subst hv
        have A2 : Hid (DS w2 b gs gm 12 [] c S1 false 0 false ∧ Row w2 (some ⟨gx, 0, none⟩) 64 (fullL 3 bs 64) ∧ Below w.heap.size w w2 ∧ Row w2 (some ⟨gz, 0, none⟩) 64 (fullL 3 bs 64)) := Lib.hid ⟨A1.out.1.below q2, A1.out.2.1.keep q2, A1.out.2.2.1.trans (q2.mono A1.out.2.2.1.size), (Own.row q1).1⟩
        clear q1 q2 hs hk A1
        refine ⟨_, rfl, ?_⟩
        simp only [Act.put, List.setIfInBounds_toArray, List.set_cons_zero, List.set_cons_succ]
        refine wpL_pure (.tuple #[.slice (some ⟨gz, 0, none⟩) 64 cz, .int .i64 0]) rfl (by kernel_rfl) ?_
        simp only [Act.put, List.setIfInBounds_toArray, List.set_cons_zero, List.set_cons_succ]
        refine wpL_pure (.slice (some ⟨gz, 0, none⟩) 64 cz) rfl (by kernel_rfl) ?_
        simp only [Act.put, List.setIfInBounds_toArray, List.set_cons_zero, List.set_cons_succ]
        refine wpL_pure (.int .i64 0) rfl (by kernel_rfl) ?_
        simp only [Act.put, List.setIfInBounds_toArray, List.set_cons_zero, List.set_cons_succ]
        refine wpL_pure (.slice (some ⟨gz, 0, none⟩) 64 cz) rfl (by kernel_rfl) ?_
        simp only [Act.put, List.setIfInBounds_toArray, List.set_cons_zero, List.set_cons_succ]
        refine wpL_pure (.int .i64 0) rfl (by kernel_rfl) ?_
        simp only [Act.put, List.setIfInBounds_toArray, List.set_cons_zero, List.set_cons_succ]
        unfold wpList
        go_upto_region 14 with (fail)
        refine wp_region_lit ?_
        refine wpL_pure (.int .i64 0) rfl (by kernel_rfl) ?_
        simp only [Act.put, List.setIfInBounds_toArray, List.set_cons_zero, List.set_cons_succ]
        refine wpL_pure (.bool true) rfl (by kernel_rfl) ?_
        simp only [Act.put, List.setIfInBounds_toArray, List.set_cons_zero, List.set_cons_succ]
        refine wpL_pure (.bool true) rfl (by kernel_rfl) ?_
        simp only [Act.put, List.setIfInBounds_toArray, List.set_cons_zero, List.set_cons_succ]
        refine wpL_pure (.int .i64 0) rfl (by kernel_rfl) ?_
        simp only [Act.put, List.setIfInBounds_toArray, List.set_cons_zero, List.set_cons_succ]
        refine wpL_pure (.bool true) rfl (by kernel_rfl) ?_
        simp only [Act.put, List.setIfInBounds_toArray, List.set_cons_zero, List.set_cons_succ]
        refine wpL_pure (.bool true) rfl (by kernel_rfl) ?_
        simp only [Act.put, List.setIfInBounds_toArray, List.set_cons_zero, List.set_cons_succ]
        refine wpL_pure (.bool true) rfl (by kernel_rfl) ?_
        simp only [Act.put, List.setIfInBounds_toArray, List.set_cons_zero, List.set_cons_succ]
        refine wpL_pure (.int .i64 0) rfl (by kernel_rfl) ?_
        simp only [Act.put, List.setIfInBounds_toArray, List.set_cons_zero, List.set_cons_succ]
        refine wpL_pure (.bool true) rfl (by kernel_rfl) ?_
        simp only [Act.put, List.setIfInBounds_toArray, List.set_cons_zero, List.set_cons_succ]
        refine wpL_pure (.bool true) rfl (by kernel_rfl) ?_
        simp only [Act.put, List.setIfInBounds_toArray, List.set_cons_zero, List.set_cons_succ]
        refine wpL_pure (.bool true) rfl (by kernel_rfl) ?_
        simp only [Act.put, List.setIfInBounds_toArray, List.set_cons_zero, List.set_cons_succ]
        refine wpL_pure (.slice (some ⟨gx, 0, none⟩) 64 cx) rfl (by kernel_rfl) ?_
        simp only [Act.put, List.setIfInBounds_toArray, List.set_cons_zero, List.set_cons_succ]
        refine wpL_pure (.string (strOfNums (fullL 3 bs 64))) rfl (run_conv_str _ _ _ _ (some ⟨gx, 0, none⟩) 64 cx (fullL 3 bs 64) rfl rfl A2.out.2.1) ?_
        simp only [Act.put, List.setIfInBounds_toArray, List.set_cons_zero, List.set_cons_succ]
        refine wpL_pure (.slice (some ⟨gz, 0, none⟩) 64 cz) rfl (by kernel_rfl) ?_
        simp only [Act.put, List.setIfInBounds_toArray, List.set_cons_zero, List.set_cons_succ]
        refine wpL_pure (.string (strOfNums (fullL 3 bs 64))) rfl (run_conv_str _ _ _ _ (some ⟨gz, 0, none⟩) 64 cz (fullL 3 bs 64) rfl rfl A2.out.2.2.2) ?_
        simp only [Act.put, List.setIfInBounds_toArray, List.set_cons_zero, List.set_cons_succ]
        refine wpL_pure (.bool true) rfl (run_str_eql _ _ _ _ _ (fullL 3 bs 64) (fullL 3 bs 64) true rfl rfl rfl (by simp) XOK.out.2 XOK.out.2) ?_
        simp only [Act.put, List.setIfInBounds_toArray, List.set_cons_zero, List.set_cons_succ]
        refine wpL_pure (.bool true) rfl (by kernel_rfl) ?_
        simp only [Act.put, List.setIfInBounds_toArray, List.set_cons_zero, List.set_cons_succ]
        refine wpL_pure (.bool true) rfl (by kernel_rfl) ?_
        simp only [Act.put, List.setIfInBounds_toArray, List.set_cons_zero, List.set_cons_succ]
        refine wpL_pure (.pointer (some ⟨b, 0, none⟩)) rfl (by kernel_rfl) ?_
        simp only [Act.put, List.setIfInBounds_toArray, List.set_cons_zero, List.set_cons_succ]
        refine wpL_call 19 #[.pointer (some ⟨b, 0, none⟩)] rfl (by kernel_rfl) (((looseD A2.out.1)).mono fun e w9 ⟨he, hx⟩ => ⟨.int .i64 0, he, ?_⟩)
        simp only [Act.put, List.setIfInBounds_toArray, List.set_cons_zero, List.set_cons_succ]
        subst hx
        refine wpL_pure (.bool true) rfl (by kernel_rfl) ?_
        simp only [Act.put, List.setIfInBounds_toArray, List.set_cons_zero, List.set_cons_succ]
        refine wpL_pure (.bool true) rfl (by kernel_rfl) ?_
        simp only [Act.put, List.setIfInBounds_toArray, List.set_cons_zero, List.set_cons_succ]
        refine wpL_pure (.bool true) rfl (by kernel_rfl) ?_
        simp only [Act.put, List.setIfInBounds_toArray, List.set_cons_zero, List.set_cons_succ]
        refine wpL_pure (.pointer (some ⟨b, 0, none⟩)) rfl (by kernel_rfl) ?_
        simp only [Act.put, List.setIfInBounds_toArray, List.set_cons_zero, List.set_cons_succ]
        refine wpL_call 20 #[.pointer (some ⟨b, 0, none⟩)] rfl (by kernel_rfl) (((goneD A2.out.1)).mono fun e w9 ⟨he, hx⟩ => ⟨.bool false, he, ?_⟩)
        simp only [Act.put, List.setIfInBounds_toArray, List.set_cons_zero, List.set_cons_succ]
        subst hx
        refine wpL_pure (.bool true) rfl (by kernel_rfl) ?_
        simp only [Act.put, List.setIfInBounds_toArray, List.set_cons_zero, List.set_cons_succ]
        refine wpL_pure (.bool true) rfl (by kernel_rfl) ?_
        simp only [Act.put, List.setIfInBounds_toArray, List.set_cons_zero, List.set_cons_succ]
        refine wpL_pure (.bool true) rfl (by kernel_rfl) ?_
        simp only [Act.put, List.setIfInBounds_toArray, List.set_cons_zero, List.set_cons_succ]
        go_wp2_with fail
        go_ret
        exact ⟨rfl, A2.out.2.2.1⟩
open Go.ChangeShapes Go.WideShapes Go.ChangeAt in
theorem walkDiskKeeps (a : Option Addr) (n c : Nat) (z : List Int) (x : Int) (f : Option Addr) (m e : Nat) (y : List Int) (wx : (Lit.int .u8 x).wf = true) (w : World) (h0 : IsRow .u8 w a n c z) (h1 : IsRow .u8 w f m e y) :
    Calls Try.prog 6 #[.slice a n c, .int .u8 x, .slice f m e] w fun e w' => e = .returned (.bool true) ∧ Below w.heap.size w w' := by
  have hx := bounds_u8 wx
  obtain ⟨x, rfl⟩ : ∃ k : Nat, x = (k : Int) := ⟨x.toNat, by omega⟩
  exact keeps_any a n c _ x (by omega) f m e _ w (row_of h0) (row_of h1)
end Go.Proofs.Yticjpjbmjnalhaa
