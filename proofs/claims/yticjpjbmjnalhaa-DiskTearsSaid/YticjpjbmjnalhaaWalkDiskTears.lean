/- 'DiskTears'. -/
import Derived.Test.YticjpjbmjnalhaaWalkDiskKeeps
namespace Go.Proofs.Yticjpjbmjnalhaa
open Go Go.RowKit
theorem one_set {S : List (List Int)} {Y : List Int} (h : S.length = 1) : S.set 0 Y = [Y] := by
  match S, h with
  | [s], _ => rfl
theorem write_one {w w' : World} {b gs gm c : Nat} {S : List (List Int)} {X xs : List Int} {e : Ending} (h : WPost b gs gm 1 c [] S false false 0 0 64 xs w e w') (hX : S[0]? = some X) : e = .returned (.int .i64 0) ∧ DS w' b gs gm 1 [(0, X, c)] (c + 1) (S.set 0 xs) false 0 false ∧ Fd b gs gm w w' := by
  rcases h with ⟨h, _⟩ | ⟨_, hm, _⟩ | ⟨_, _, rfl, kk, s, hk, hs, d, f⟩
  · exact absurd ⟨⟨by omega, by omega⟩, rfl⟩ h
  · simp [mayB] at hm
  · obtain rfl : kk = 0 := by omega
    rw [hX] at hs
    obtain rfl := Option.some.inj hs
    exact ⟨rfl, by simpa [wrL, mayF, mayB] using d, f⟩
theorem torn_get {O L : List Int} (hO : O.length = 64) (hL : L.length = 64) (k i : Nat) (hi : i < 64) : (tornV O L k).getD i 0 = O.getD i 0 ∨ (tornV O L k).getD i 0 = L.getD i 0 := by
  unfold tornV
  have h1 := Nat.min_le_right k 64
  have h2 := Nat.min_le_right (k - 128) 64
  change Nat.min k 64 ≤ 64 at h1
  change Nat.min (k - 128) 64 ≤ 64 at h2
  split
  · generalize Nat.min k 64 = m at *
    by_cases hm : i < m
    · right
      simp [List.getD, List.getElem?_append, hL, h1, hm, List.getElem?_take]
      rw [List.getElem?_eq_getElem (by omega)]; rfl
    · left
      simp only [List.getD, List.getElem?_append, List.length_take, hL, Nat.min_eq_left h1, hm, if_false, List.getElem?_drop]
      rw [show m + (i - m) = i by omega]
  · generalize 64 - Nat.min (k - 128) 64 = m at *
    by_cases hm : i < m
    · left
      by_cases h3 : m ≤ 64
      · simp [List.getD, List.getElem?_append, hO, h3, hm, List.getElem?_take]
        rw [List.getElem?_eq_getElem (by omega)]; rfl
      · rw [List.take_of_length_le (by omega)]
        simp [List.getD, List.getElem?_append, hO, hi]
    · right
      simp only [List.getD, List.getElem?_append, List.length_take, hO, List.getElem?_drop]
      by_cases h3 : m ≤ 64
      · rw [Nat.min_eq_left h3, if_neg hm, show m + (i - m) = i by omega]
      · omega
theorem tears {O L : List Int} (hO : SOk O) (hL : SOk L) (F : List Int) :
    ((F.length = 0 ∨ F.getD 0 0 = 0 ∨ F.getD 0 0 = 128) → tornV O L (fateN F 0) = O) ∧ ∀ k : Nat, 0 < F.length → F.getD 0 0 = (k : Int) → 64 ≤ k % 128 → k < 256 → tornV O L (fateN F 0) = L := by
  have z : tornV O L 0 = O := by simp [tornV]
  have z1 : tornV O L 128 = O := by
    unfold tornV
    rw [if_neg (by omega)]
    simp [List.take_of_length_le (show O.length ≤ 64 by rw [hO.1]; omega), List.drop_of_length_le (show L.length ≤ 64 by rw [hL.1]; omega)]
  constructor
  · intro h
    by_cases h0 : F.length = 0
    · rw [fateN, if_pos h0, z]
    · rw [fateN, if_neg h0, Nat.zero_mod]
      rcases h with h | h | h
      · exact absurd h h0
      · rw [h]; exact z
      · rw [h]; exact z1
  · intro k hF hk hm hlt
    have e : fateN F 0 = k := by rw [fateN, if_neg (by omega), Nat.zero_mod, hk]; omega
    rw [e]
    unfold tornV
    by_cases h8 : k < 128
    · have e2 : Nat.min k 64 = 64 := Nat.min_eq_right (by omega)
      rw [if_pos h8, e2, List.take_of_length_le (by rw [hL.1]; omega), List.drop_of_length_le (by rw [hO.1]; omega), List.append_nil]
    · have e2 : Nat.min (k - 128) 64 = 64 := Nat.min_eq_right (by omega)
      rw [if_neg h8, e2]
      simp
theorem cell_row64 {w : World} {g i : Nat} {xs : List Int} (h : Row w (some ⟨g, 0, none⟩) 64 xs) (hi : i < 64) : w.cell? ⟨g, 0 + i, none⟩ = some (.int .u8 (xs.getD i 0)) := by
  obtain ⟨g', o, e, hc⟩ := h.2.2.2 i hi
  cases e
  exact hc
theorem cell_below {w w' : World} {p : Addr} {v : Value} (h : w.cell? p = some v) (hb : Below w.heap.size w w') : w'.cell? p = some v := by rw [hb.cell (cell_lt h)]; exact h
attribute [local irreducible] wpList
set_option maxHeartbeats 4000000 in
set_option maxRecDepth 100000 in
theorem tears_any (a0 : Option Addr) (n0 c0 : Nat) (xs : List Int) (a1 : Option Addr) (n1 c1 : Nat) (ys : List Int) (af : Option Addr) (nf cf : Nat) (fs : List Int) (w : World) (hx : Row w a0 n0 xs) (hy : Row w a1 n1 ys) (hf : Row w af nf fs) :
    Calls Try.prog 5 #[.slice a0 n0 c0, .slice a1 n1 c1, .slice af nf cf] w fun e w' => e = .returned (.bool true) ∧ Below w.heap.size w w' := by
  have HX := Lib.hid hx
  have HY := Lib.hid hy
  have HF := Lib.hid hf
  clear hx hy hf
  go_enter Try.func5, Try.ntmps5
  go_upto_region 1 with (fail)
  refine wp_region_lit ?_
  refine wpL_call 9 #[] rfl (by kernel_rfl) (((awakeD w)).mono fun e W1 ⟨he, ba⟩ => ⟨.bool true, he, ?_⟩)
  simp only [Act.put, List.setIfInBounds_toArray, List.set_cons_zero, List.set_cons_succ]
  have F1 : Hid (Below w.heap.size w W1) := Lib.hid (ba)
  clear ba
  refine wpL_pure (.bool false) rfl (by kernel_rfl) ?_
  simp only [Act.put, List.setIfInBounds_toArray, List.set_cons_zero, List.set_cons_succ]
  refine wpL_pure (.bool false) rfl (by kernel_rfl) ?_
  simp only [Act.put, List.setIfInBounds_toArray, List.set_cons_zero, List.set_cons_succ]
  refine wpL_pure (.slice af nf cf) rfl (by kernel_rfl) ?_
  simp only [Act.put, List.setIfInBounds_toArray, List.set_cons_zero, List.set_cons_succ]
  refine wpL_pure (.int .i64 (nf : Int)) rfl (by kernel_rfl) ?_
  simp only [Act.put, List.setIfInBounds_toArray, List.set_cons_zero, List.set_cons_succ]
  by_cases h5 : 50 < nf
  · have H5 := Lib.hid h5
    clear h5
    refine wpL_pure (.bool true) rfl (run_gti Try.underlying3 rfl rfl rfl (by have := H5.out; rw [decide_eq_true_eq]; omega)) ?_
    simp only [Act.put, List.setIfInBounds_toArray, List.set_cons_zero, List.set_cons_succ]
    refine wpL_pure (.bool true) rfl (by kernel_rfl) ?_
    simp only [Act.put, List.setIfInBounds_toArray, List.set_cons_zero, List.set_cons_succ]
    unfold wpList
    go_upto_region 2 with (fail)
    refine wp_region_lit ?_
    refine wpL_call 9 #[] rfl (by kernel_rfl) (((awakeD W1)).mono fun e W2 ⟨he, ba⟩ => ⟨.bool true, he, ?_⟩)
    simp only [Act.put, List.setIfInBounds_toArray, List.set_cons_zero, List.set_cons_succ]
    have F2 : Hid (Below w.heap.size w W2) := Lib.hid (F1.out.trans (ba.mono F1.out.size))
    clear ba
    refine wpL_pure (.bool true) rfl (by kernel_rfl) ?_
    simp only [Act.put, List.setIfInBounds_toArray, List.set_cons_zero, List.set_cons_succ]
    go_wp2_with fail
    go_ret
    exact ⟨rfl, F2.out⟩
  · have H5 : Hid (nf ≤ 50) := Lib.hid (by omega)
    clear h5
    refine wpL_pure (.bool false) rfl (run_gti Try.underlying3 rfl rfl rfl (by have := H5.out; rw [decide_eq_false_iff_not]; omega)) ?_
    simp only [Act.put, List.setIfInBounds_toArray, List.set_cons_zero, List.set_cons_succ]
    refine wpL_pure (.bool false) rfl (by kernel_rfl) ?_
    simp only [Act.put, List.setIfInBounds_toArray, List.set_cons_zero, List.set_cons_succ]
    unfold wpList
    go_upto_region 3 with (fail)
    refine wp_region_lit ?_
    refine wpL_pure (.slice a0 n0 c0) rfl (by kernel_rfl) ?_
    simp only [Act.put, List.setIfInBounds_toArray, List.set_cons_zero, List.set_cons_succ]
    refine wpL_call 10 #[.int .u8 1, .slice a0 n0 c0] rfl (by kernel_rfl) (((full_any W1 1 (by omega) a0 n0 c0 xs (HX.out.keep F1.out))).mono fun e W2 ⟨v, he, q1, q2⟩ => ⟨v, he, ?_⟩)
    simp only [Act.put, List.setIfInBounds_toArray, List.set_cons_zero, List.set_cons_succ]
    obtain ⟨gx, cx, hv⟩ := own64 q1 (fullL_len _ _ _)
    subst hv
    have lx := q1.lt gx rfl
    have F2 : Hid (Row W2 (some ⟨gx, 0, none⟩) 64 (fullL 1 xs 64) ∧ Below w.heap.size w W2 ∧ gx < W2.heap.size ∧ w.heap.size ≤ gx) := Lib.hid ⟨(Own.row q1).1, F1.out.trans (q2.mono F1.out.size), lx.2, Nat.le_trans F1.out.size lx.1⟩
    clear q1 q2 lx F1
    refine wpL_pure (.slice a1 n1 c1) rfl (by kernel_rfl) ?_
    simp only [Act.put, List.setIfInBounds_toArray, List.set_cons_zero, List.set_cons_succ]
    refine wpL_call 10 #[.int .u8 2, .slice a1 n1 c1] rfl (by kernel_rfl) (((full_any W2 2 (by omega) a1 n1 c1 ys (HY.out.keep F2.out.2.1))).mono fun e W3 ⟨v, he, q1, q2⟩ => ⟨v, he, ?_⟩)
    simp only [Act.put, List.setIfInBounds_toArray, List.set_cons_zero, List.set_cons_succ]
    obtain ⟨gy, cy, hv⟩ := own64 q1 (fullL_len _ _ _)
    subst hv
    have ly := q1.lt gy rfl
    have F3 : Hid (Row W3 (some ⟨gx, 0, none⟩) 64 (fullL 1 xs 64) ∧ Row W3 (some ⟨gy, 0, none⟩) 64 (fullL 2 ys 64) ∧ Below w.heap.size w W3 ∧ gx < W3.heap.size ∧ gy < W3.heap.size) := Lib.hid ⟨F2.out.1.keep q2, (Own.row q1).1, F2.out.2.1.trans (q2.mono F2.out.2.1.size), Nat.lt_of_lt_of_le F2.out.2.2.1 q2.size, ly.2⟩
    have XOK : Hid (SOk (fullL 1 xs 64) ∧ SOk (fullL 2 ys 64)) := Lib.hid ⟨⟨fullL_len _ _ _, F2.out.1.2.2.1⟩, ⟨fullL_len _ _ _, (Own.row q1).1.2.2.1⟩⟩
    clear q1 q2 ly F2
    refine wpL_pure (.slice (some ⟨gx, 0, none⟩) 64 cx) rfl (by kernel_rfl) ?_
    simp only [Act.put, List.setIfInBounds_toArray, List.set_cons_zero, List.set_cons_succ]
    refine wpL_pure (.slice (some ⟨gy, 0, none⟩) 64 cy) rfl (by kernel_rfl) ?_
    simp only [Act.put, List.setIfInBounds_toArray, List.set_cons_zero, List.set_cons_succ]
    unfold wpList
    go_upto_region 4 with (fail)
    refine wp_region_lit ?_
    refine wpL_call 8 #[.int .i64 1] rfl (by kernel_rfl) ((newD 1 (by omega) W3).mono ?_)
    rintro e W4 ⟨b, gs, gm, rfl, d1, b1, l1, l2, l3⟩
    have F4 : Hid (DS W4 b gs gm 1 [] 0 (zs 1) false 0 false ∧ Row W4 (some ⟨gx, 0, none⟩) 64 (fullL 1 xs 64) ∧ Row W4 (some ⟨gy, 0, none⟩) 64 (fullL 2 ys 64) ∧ Below w.heap.size w W4) := Lib.hid ⟨d1, F3.out.1.keep b1, F3.out.2.1.keep b1, F3.out.2.2.1.trans (b1.mono F3.out.2.2.1.size)⟩
    have LB : Hid (w.heap.size ≤ b ∧ w.heap.size ≤ gs ∧ w.heap.size ≤ gm) := Lib.hid (by have := F3.out.2.2.1.size; omega)
    have GX : Hid (gx ≠ b ∧ gx ≠ gs ∧ gx ≠ gm) := Lib.hid (by have := F3.out.2.2.2; omega)
    have GY : Hid (gy ≠ b ∧ gy ≠ gs ∧ gy ≠ gm) := Lib.hid (by have := F3.out.2.2.2; omega)
    clear d1 b1 l1 l2 l3 F3
    refine ⟨_, rfl, ?_⟩
    simp only [Act.put, List.setIfInBounds_toArray, List.set_cons_zero, List.set_cons_succ]
    refine wpL_pure (.pointer (some ⟨b, 0, none⟩)) rfl (by kernel_rfl) ?_
    simp only [Act.put, List.setIfInBounds_toArray, List.set_cons_zero, List.set_cons_succ]
    unfold wpList
    go_upto_region 5 with (fail)
    refine wp_region_lit ?_
    refine wpL_pure (.pointer (some ⟨b, 0, none⟩)) rfl (by kernel_rfl) ?_
    simp only [Act.put, List.setIfInBounds_toArray, List.set_cons_zero, List.set_cons_succ]
    refine wpL_pure (.slice (some ⟨gx, 0, none⟩) 64 cx) rfl (by kernel_rfl) ?_
    simp only [Act.put, List.setIfInBounds_toArray, List.set_cons_zero, List.set_cons_succ]
    refine wpL_call 11 #[.pointer (some ⟨b, 0, none⟩), .int .i64 0, .slice (some ⟨gx, 0, none⟩) 64 cx] rfl (by kernel_rfl) ((writeD F4.out.1 0 (some ⟨gx, 0, none⟩) 64 cx _ F4.out.2.1 (fun p hp => by cases hp; exact GX.out)).mono ?_)
    rintro e W5 hw
    obtain ⟨rfl, L5, c5, S5, d5, f5, _, hs5, _⟩ := write_ok (k := 0) hw (by omega) (by omega)
    have F5 : Hid (DS W5 b gs gm 1 L5 c5 S5 false 0 false ∧ Row W5 (some ⟨gx, 0, none⟩) 64 (fullL 1 xs 64) ∧ Row W5 (some ⟨gy, 0, none⟩) 64 (fullL 2 ys 64) ∧ Below w.heap.size w W5 ∧ S5[0]? = some (fullL 1 xs 64)) := Lib.hid ⟨d5, f5.row F4.out.2.1 (fun p hp => by cases hp; exact GX.out), f5.row F4.out.2.2.1 (fun p hp => by cases hp; exact GY.out), f5.below F4.out.2.2.2 LB.out.1 LB.out.2.1 LB.out.2.2, hs5 0 rfl⟩
    clear hw d5 f5 hs5 F4
    refine ⟨_, rfl, ?_⟩
    simp only [Act.put, List.setIfInBounds_toArray, List.set_cons_zero, List.set_cons_succ]
    refine wpL_pure (.pointer (some ⟨b, 0, none⟩)) rfl (by kernel_rfl) ?_
    simp only [Act.put, List.setIfInBounds_toArray, List.set_cons_zero, List.set_cons_succ]
    refine wpL_call 17 #[.pointer (some ⟨b, 0, none⟩)] rfl (by kernel_rfl) ((syncD F5.out.1).mono ?_)
    rintro e W6 hs
    rcases hs with ⟨h1, _⟩ | ⟨_, rfl, d6, f6⟩
    · simp [mayB] at h1
    have F6 : Hid (DS W6 b gs gm 1 [] c5 S5 false 0 false ∧ Row W6 (some ⟨gx, 0, none⟩) 64 (fullL 1 xs 64) ∧ Row W6 (some ⟨gy, 0, none⟩) 64 (fullL 2 ys 64) ∧ Below w.heap.size w W6 ∧ S5[0]? = some (fullL 1 xs 64)) := Lib.hid ⟨d6, f6.row F5.out.2.1 (fun p hp => by cases hp; exact GX.out), f6.row F5.out.2.2.1 (fun p hp => by cases hp; exact GY.out), f6.below F5.out.2.2.2.1 LB.out.1 LB.out.2.1 LB.out.2.2, F5.out.2.2.2.2⟩
    clear d6 f6 F5
    refine ⟨_, rfl, ?_⟩
    simp only [Act.put, List.setIfInBounds_toArray, List.set_cons_zero, List.set_cons_succ]
    refine wpL_pure (.pointer (some ⟨b, 0, none⟩)) rfl (by kernel_rfl) ?_
    simp only [Act.put, List.setIfInBounds_toArray, List.set_cons_zero, List.set_cons_succ]
    refine wpL_pure (.slice (some ⟨gy, 0, none⟩) 64 cy) rfl (by kernel_rfl) ?_
    simp only [Act.put, List.setIfInBounds_toArray, List.set_cons_zero, List.set_cons_succ]
    refine wpL_call 11 #[.pointer (some ⟨b, 0, none⟩), .int .i64 0, .slice (some ⟨gy, 0, none⟩) 64 cy] rfl (by kernel_rfl) ((writeD F6.out.1 0 (some ⟨gy, 0, none⟩) 64 cy _ F6.out.2.2.1 (fun p hp => by cases hp; exact GY.out)).mono ?_)
    rintro e W7 hw
    obtain ⟨rfl, d7, f7⟩ := write_one hw F6.out.2.2.2.2
    have F7 : Hid (DS W7 b gs gm 1 [(0, (fullL 1 xs 64), c5)] (c5 + 1) [(fullL 2 ys 64)] false 0 false ∧ Row W7 (some ⟨gx, 0, none⟩) 64 (fullL 1 xs 64) ∧ Row W7 (some ⟨gy, 0, none⟩) 64 (fullL 2 ys 64) ∧ Below w.heap.size w W7) := Lib.hid ⟨by rw [one_set F6.out.1.2.2.2.1] at d7; exact d7, f7.row F6.out.2.1 (fun p hp => by cases hp; exact GX.out), f7.row F6.out.2.2.1 (fun p hp => by cases hp; exact GY.out), f7.below F6.out.2.2.2.1 LB.out.1 LB.out.2.1 LB.out.2.2⟩
    clear hw d7 f7 F6
    refine ⟨_, rfl, ?_⟩
    simp only [Act.put, List.setIfInBounds_toArray, List.set_cons_zero, List.set_cons_succ]
    refine wpL_pure (.int .i64 0) rfl (by kernel_rfl) ?_
    simp only [Act.put, List.setIfInBounds_toArray, List.set_cons_zero, List.set_cons_succ]
    refine wpL_pure (.int .i64 0) rfl (by kernel_rfl) ?_
    simp only [Act.put, List.setIfInBounds_toArray, List.set_cons_zero, List.set_cons_succ]
    refine wpL_pure (.int .i64 0) rfl (by kernel_rfl) ?_
    simp only [Act.put, List.setIfInBounds_toArray, List.set_cons_zero, List.set_cons_succ]
    unfold wpList
    go_upto_region 6 with (fail)
    refine wp_region_lit ?_
    refine zP (.pointer (some ⟨b, 0, none⟩)) ?_
    refine zP (.slice af nf cf) ?_
    refine wpL_call 18 #[.pointer (some ⟨b, 0, none⟩), .slice af nf cf] rfl (by kernel_rfl) ((crashD F7.out.1 af nf cf fs (HF.out.keep F7.out.2.2.2) (fun hq p hp => far_row HF.out hq p hp LB.out)).mono ?_)
    rintro e W8 ⟨rfl, ks, hp, _, d8, f8⟩
    have hks : ks = [0] := List.perm_singleton.1 (by simpa using hp)
    subst hks
    obtain ⟨zl, hzl⟩ : ∃ q, tornV (fullL 1 xs 64) (fullL 2 ys 64) (fateN fs 0) = q := ⟨_, rfl⟩
    have ecr : crS fs [(0, (fullL 1 xs 64), c5)] [0] [(fullL 2 ys 64)] 1 = [zl] := by rw [← hzl]; rfl
    have F8 : Hid (DS W8 b gs gm 1 [] (c5 + 1) [zl] false 0 false ∧ Row W8 (some ⟨gx, 0, none⟩) 64 (fullL 1 xs 64) ∧ Row W8 (some ⟨gy, 0, none⟩) 64 (fullL 2 ys 64) ∧ Below w.heap.size w W8) := Lib.hid ⟨by rw [show ([0] : List Int).length = 1 from rfl, ecr] at d8; exact d8, f8.row F7.out.2.1 (fun p hp => by cases hp; exact GX.out), f8.row F7.out.2.2.1 (fun p hp => by cases hp; exact GY.out), f8.below F7.out.2.2.2 LB.out.1 LB.out.2.1 LB.out.2.2⟩
    have ZL := Lib.hid hzl
    have ZOK : Hid (SOk zl) := Lib.hid (by rw [← hzl]; exact tornV_ok XOK.out.1 XOK.out.2 _)
    clear d8 f8 hp hzl ecr F7
    refine ⟨_, rfl, ?_⟩
    simp only [Act.put, List.setIfInBounds_toArray, List.set_cons_zero, List.set_cons_succ]
    unfold wpList
    go_upto_region 7 with (fail)
    refine wp_region_lit ?_
    refine zP (.pointer (some ⟨b, 0, none⟩)) ?_
    refine wpL_call 12 #[.pointer (some ⟨b, 0, none⟩), .int .i64 0] rfl (by kernel_rfl) ((readD F8.out.1 0).mono ?_)
    rintro e W9 hr
    rcases hr with ⟨h1, _⟩ | ⟨_, h1, _⟩ | ⟨_, _, kk, s, v, hk, hs, rfl, q1, q2⟩
    · exact absurd ⟨by omega, by omega⟩ h1
    · cases h1
    obtain rfl : kk = 0 := by omega
    obtain rfl : zl = s := by simpa using hs
    obtain ⟨gz, cz, hv⟩ := own64 q1 ZOK.out.1
    subst hv
    have F9 : Hid (Row W9 (some ⟨gx, 0, none⟩) 64 (fullL 1 xs 64) ∧ Row W9 (some ⟨gy, 0, none⟩) 64 (fullL 2 ys 64) ∧ Below w.heap.size w W9 ∧ Row W9 (some ⟨gz, 0, none⟩) 64 zl) := Lib.hid ⟨F8.out.2.1.keep q2, F8.out.2.2.1.keep q2, F8.out.2.2.2.trans (q2.mono F8.out.2.2.2.size), (Own.row q1).1⟩
    clear q1 q2 hs hk F8
    refine ⟨_, rfl, ?_⟩
    simp only [Act.put, List.setIfInBounds_toArray, List.set_cons_zero, List.set_cons_succ]
    refine wpL_pure (.tuple #[.slice (some ⟨gz, 0, none⟩) 64 cz, .int .i64 0]) rfl (by kernel_rfl) ?_
    simp only [Act.put, List.setIfInBounds_toArray, List.set_cons_zero, List.set_cons_succ]
    refine wpL_pure (.slice (some ⟨gz, 0, none⟩) 64 cz) rfl (by kernel_rfl) ?_
    simp only [Act.put, List.setIfInBounds_toArray, List.set_cons_zero, List.set_cons_succ]
    refine wpL_pure (.int .i64 0) rfl (by kernel_rfl) ?_
    simp only [Act.put, List.setIfInBounds_toArray, List.set_cons_zero, List.set_cons_succ]
    refine wpL_pure (.slice (some ⟨gz, 0, none⟩) 64 cz) rfl (by kernel_rfl) ?_
    simp only [Act.put, List.setIfInBounds_toArray, List.set_cons_zero, List.set_cons_succ]
    refine wpL_pure (.int .i64 0) rfl (by kernel_rfl) ?_
    simp only [Act.put, List.setIfInBounds_toArray, List.set_cons_zero, List.set_cons_succ]
    unfold wpList
    go_upto_region 8 with (fail)
    refine wp_region_lit ?_
    refine wpL_pure (.int .i64 0) rfl (by kernel_rfl) ?_
    simp only [Act.put, List.setIfInBounds_toArray, List.set_cons_zero, List.set_cons_succ]
    refine wpL_pure (.bool false) rfl (by kernel_rfl) ?_
    simp only [Act.put, List.setIfInBounds_toArray, List.set_cons_zero, List.set_cons_succ]
    refine wpL_pure (.bool false) rfl (by kernel_rfl) ?_
    simp only [Act.put, List.setIfInBounds_toArray, List.set_cons_zero, List.set_cons_succ]
    refine wpL_pure (.int .i64 0) rfl (by kernel_rfl) ?_
    simp only [Act.put, List.setIfInBounds_toArray, List.set_cons_zero, List.set_cons_succ]
    refine wpL_pure (.bool false) rfl (by kernel_rfl) ?_
    simp only [Act.put, List.setIfInBounds_toArray, List.set_cons_zero, List.set_cons_succ]
    refine wpL_pure (.bool false) rfl (by kernel_rfl) ?_
    simp only [Act.put, List.setIfInBounds_toArray, List.set_cons_zero, List.set_cons_succ]
    refine wpL_pure (.bool false) rfl (by kernel_rfl) ?_
    simp only [Act.put, List.setIfInBounds_toArray, List.set_cons_zero, List.set_cons_succ]
    refine wpL_pure (.int .i64 0) rfl (by kernel_rfl) ?_
    simp only [Act.put, List.setIfInBounds_toArray, List.set_cons_zero, List.set_cons_succ]
    refine wpL_pure (.bool false) rfl (by kernel_rfl) ?_
    simp only [Act.put, List.setIfInBounds_toArray, List.set_cons_zero, List.set_cons_succ]
    refine wpL_pure (.bool false) rfl (by kernel_rfl) ?_
    simp only [Act.put, List.setIfInBounds_toArray, List.set_cons_zero, List.set_cons_succ]
    refine wpL_pure (.bool false) rfl (by kernel_rfl) ?_
    simp only [Act.put, List.setIfInBounds_toArray, List.set_cons_zero, List.set_cons_succ]
    refine wpL_pure (.int .i64 0) rfl (by kernel_rfl) ?_
    simp only [Act.put, List.setIfInBounds_toArray, List.set_cons_zero, List.set_cons_succ]
    refine wpL_pure (.bool false) rfl (by kernel_rfl) ?_
    simp only [Act.put, List.setIfInBounds_toArray, List.set_cons_zero, List.set_cons_succ]
    refine wpL_pure (.bool false) rfl (by kernel_rfl) ?_
    simp only [Act.put, List.setIfInBounds_toArray, List.set_cons_zero, List.set_cons_succ]
    refine wpL_pure (.bool false) rfl (by kernel_rfl) ?_
    simp only [Act.put, List.setIfInBounds_toArray, List.set_cons_zero, List.set_cons_succ]
    refine wpL_pure (.slice (some ⟨gz, 0, none⟩) 64 cz) rfl (by kernel_rfl) ?_
    simp only [Act.put, List.setIfInBounds_toArray, List.set_cons_zero, List.set_cons_succ]
    refine wpL_pure (.int .i64 (64 : Int)) rfl (by kernel_rfl) ?_
    simp only [Act.put, List.setIfInBounds_toArray, List.set_cons_zero, List.set_cons_succ]
    refine wpL_pure (.bool false) rfl (by kernel_rfl) ?_
    simp only [Act.put, List.setIfInBounds_toArray, List.set_cons_zero, List.set_cons_succ]
    refine wpL_pure (.bool false) rfl (by kernel_rfl) ?_
    simp only [Act.put, List.setIfInBounds_toArray, List.set_cons_zero, List.set_cons_succ]
    go_upto_region 10 with (fail)
    refine wp_region_lit ?_
    refine zP (.int .i64 0) ?_
    unfold wpList
    go_wp2_with fail
    go_loopw [15] (fun s15 wr => ∃ (i : Nat), s15 = .int .i64 (i : Int) ∧ Hid (i ≤ 64 ∧ Row wr (some ⟨gx, 0, none⟩) 64 (fullL 1 xs 64) ∧ Row wr (some ⟨gy, 0, none⟩) 64 (fullL 2 ys 64) ∧ Below w.heap.size w wr ∧ Row wr (some ⟨gz, 0, none⟩) 64 zl)) (fun s15 _ => 64 - (intOf s15).toNat)
    case atStart => exact ⟨0, rfl, Lib.hid ⟨by omega, F9.out⟩⟩
    case round =>
      obtain ⟨i, rfl, RI⟩ := hrel
      by_cases hlt : i < 64
      · have HK := Lib.hid hlt
        clear hlt
        go_upto_region 11 with (fail)
        refine wp_region_lit ?_
        refine wpL_pure (.int .i64 (i : Int)) rfl (by kernel_rfl) ?_
        simp only [Act.put, List.setIfInBounds_toArray, List.set_cons_zero, List.set_cons_succ]
        refine wpL_pure (.bool true) rfl (run_lti Try.underlying3 rfl rfl rfl (by have := HK.out; rw [decide_eq_true_eq]; omega)) ?_
        simp only [Act.put, List.setIfInBounds_toArray, List.set_cons_zero, List.set_cons_succ]
        have ht := torn_get XOK.out.1.1 XOK.out.2.1 (fateN fs 0) i HK.out
        rw [ZL.out] at ht
        obtain ⟨zi, hzi⟩ : ∃ q, zl.getD i 0 = q := ⟨_, rfl⟩
        obtain ⟨xi, hxi⟩ : ∃ q, (fullL 1 xs 64).getD i 0 = q := ⟨_, rfl⟩
        obtain ⟨yi, hyi⟩ : ∃ q, (fullL 2 ys 64).getD i 0 = q := ⟨_, rfl⟩
        rw [hzi, hxi, hyi] at ht
        have EZ : Hid (zl.getD i 0 = zi ∧ (fullL 1 xs 64).getD i 0 = xi ∧ (fullL 2 ys 64).getD i 0 = yi) := Lib.hid ⟨hzi, hxi, hyi⟩
        clear hzi hxi hyi
        by_cases hzx : zi = xi
        · have HZX := Lib.hid hzx
          clear hzx ht
          go_upto_region 13 with (fail)
          refine region_held_all (fun X => Row X (some ⟨gx, 0, none⟩) 64 (fullL 1 xs 64) ∧ Row X (some ⟨gy, 0, none⟩) 64 (fullL 2 ys 64) ∧ Below w.heap.size w X ∧ Row X (some ⟨gz, 0, none⟩) 64 zl) (by kernel_rfl) (by kernel_rfl) (by exact ⟨RI.out.2.1, RI.out.2.2.1, RI.out.2.2.2.1.drew, RI.out.2.2.2.2⟩) ?_
          refine wpHeld_cons (.slice (some ⟨gz, 0, none⟩) 64 cz) rfl (fun w h => heldRun_value (by kernel_rfl) h) ?_
          simp only [Act.put, List.setIfInBounds_toArray, List.set_cons_zero, List.set_cons_succ]
          refine wpHeld_cons (.int .i64 (i : Int)) rfl (fun w h => heldRun_value (by kernel_rfl) h) ?_
          simp only [Act.put, List.setIfInBounds_toArray, List.set_cons_zero, List.set_cons_succ]
          refine wpHeld_cons (.pointer (some ⟨gz, 0 + i, none⟩)) rfl (fun w h => heldRun_value (run_idx _ _ _ _ _ gz 0 64 cz i rfl rfl rfl HK.out (by simp [maxLen])) h) ?_
          simp only [Act.put, List.setIfInBounds_toArray, List.set_cons_zero, List.set_cons_succ]
          refine wpHeld_cons (.int .u8 zi) rfl (fun w h => heldRun_value (run_load_one _ _ _ 5 _ _ rfl gz (0 + i) rfl (by rw [cell_row64 (h.2.2.2) HK.out, EZ.out.1]) (by kernel_rfl)) h) ?_
          simp only [Act.put, List.setIfInBounds_toArray, List.set_cons_zero, List.set_cons_succ]
          refine wpHeld_cons (.slice (some ⟨gx, 0, none⟩) 64 cx) rfl (fun w h => heldRun_value (by kernel_rfl) h) ?_
          simp only [Act.put, List.setIfInBounds_toArray, List.set_cons_zero, List.set_cons_succ]
          refine wpHeld_cons (.int .i64 (i : Int)) rfl (fun w h => heldRun_value (by kernel_rfl) h) ?_
          simp only [Act.put, List.setIfInBounds_toArray, List.set_cons_zero, List.set_cons_succ]
          refine wpHeld_cons (.pointer (some ⟨gx, 0 + i, none⟩)) rfl (fun w h => heldRun_value (run_idx _ _ _ _ _ gx 0 64 cx i rfl rfl rfl HK.out (by simp [maxLen])) h) ?_
          simp only [Act.put, List.setIfInBounds_toArray, List.set_cons_zero, List.set_cons_succ]
          refine wpHeld_cons (.int .u8 xi) rfl (fun w h => heldRun_value (run_load_one _ _ _ 5 _ _ rfl gx (0 + i) rfl (by rw [cell_row64 (h.1) HK.out, EZ.out.2.1]) (by kernel_rfl)) h) ?_
          simp only [Act.put, List.setIfInBounds_toArray, List.set_cons_zero, List.set_cons_succ]
          refine wpHeld_cons (.bool false) rfl (fun w h => heldRun_value (run_nei Try.underlying5 rfl rfl rfl (by have := HZX.out; rw [decide_eq_false_iff_not]; omega)) h) ?_
          simp only [Act.put, List.setIfInBounds_toArray, List.set_cons_zero, List.set_cons_succ]
          refine wpHeld_cons (.bool false) rfl (fun w h => heldRun_value (by kernel_rfl) h) ?_
          simp only [Act.put, List.setIfInBounds_toArray, List.set_cons_zero, List.set_cons_succ]
          refine wpHeld_skip rfl ?_
          simp only [Act.put, List.setIfInBounds_toArray, List.set_cons_zero, List.set_cons_succ]
          refine wpHeld_skip rfl ?_
          simp only [Act.put, List.setIfInBounds_toArray, List.set_cons_zero, List.set_cons_succ]
          refine wpHeld_skip rfl ?_
          simp only [Act.put, List.setIfInBounds_toArray, List.set_cons_zero, List.set_cons_succ]
          refine wpHeld_skip rfl ?_
          simp only [Act.put, List.setIfInBounds_toArray, List.set_cons_zero, List.set_cons_succ]
          refine wpHeld_skip rfl ?_
          simp only [Act.put, List.setIfInBounds_toArray, List.set_cons_zero, List.set_cons_succ]
          refine wpHeld_skip rfl ?_
          simp only [Act.put, List.setIfInBounds_toArray, List.set_cons_zero, List.set_cons_succ]
          refine wpHeld_skip rfl ?_
          simp only [Act.put, List.setIfInBounds_toArray, List.set_cons_zero, List.set_cons_succ]
          refine wpHeld_skip rfl ?_
          simp only [Act.put, List.setIfInBounds_toArray, List.set_cons_zero, List.set_cons_succ]
          refine wpHeld_skip rfl ?_
          simp only [Act.put, List.setIfInBounds_toArray, List.set_cons_zero, List.set_cons_succ]
          refine wpHeld_cons (.bool false) rfl (fun w h => heldRun_value (by kernel_rfl) h) ?_
          simp only [Act.put, List.setIfInBounds_toArray, List.set_cons_zero, List.set_cons_succ]
          refine wpHeld_nil ?_
          intro wq h1
          have RQ := Lib.hid h1
          clear h1
          unfold wpList
          go_upto_region 12 with (fail)
          refine wp_region_lit ?_
          refine wpL_pure (.int .i64 (i : Int)) rfl (by kernel_rfl) ?_
          simp only [Act.put, List.setIfInBounds_toArray, List.set_cons_zero, List.set_cons_succ]
          refine wpL_pure (.int .i64 ((i + 1 : Nat) : Int)) rfl (run_addi Try.underlying3 rfl rfl rfl _ (by have := HK.out; rw [wrap_in _ (by omega) (by omega)]; omega)) ?_
          simp only [Act.put, List.setIfInBounds_toArray, List.set_cons_zero, List.set_cons_succ]
          refine wpL_pure (.int .i64 ((i + 1 : Nat) : Int)) rfl (by kernel_rfl) ?_
          simp only [Act.put, List.setIfInBounds_toArray, List.set_cons_zero, List.set_cons_succ]
          have NX : Hid (i + 1 ≤ 64 ∧ Row wq (some ⟨gx, 0, none⟩) 64 (fullL 1 xs 64) ∧ Row wq (some ⟨gy, 0, none⟩) 64 (fullL 2 ys 64) ∧ Below w.heap.size w wq ∧ Row wq (some ⟨gz, 0, none⟩) 64 zl) := Lib.hid ⟨HK.out, RQ.out⟩
          unfold wpList
          go_roundw
          case rel => first | exact ⟨i + 1, rfl, NX⟩ | ((repeat apply Exists.intro); exact ⟨⟨i + 1, rfl, NX⟩, rfl⟩)
          case measure => simp [intOf]; have := HK.out; omega
        · have HZY : Hid (zi = yi) := Lib.hid (ht.resolve_left hzx)
          have HZX := Lib.hid hzx
          clear hzx ht
          go_upto_region 13 with (fail)
          refine region_held_all (fun X => Row X (some ⟨gx, 0, none⟩) 64 (fullL 1 xs 64) ∧ Row X (some ⟨gy, 0, none⟩) 64 (fullL 2 ys 64) ∧ Below w.heap.size w X ∧ Row X (some ⟨gz, 0, none⟩) 64 zl) (by kernel_rfl) (by kernel_rfl) (by exact ⟨RI.out.2.1, RI.out.2.2.1, RI.out.2.2.2.1.drew, RI.out.2.2.2.2⟩) ?_
          refine wpHeld_cons (.slice (some ⟨gz, 0, none⟩) 64 cz) rfl (fun w h => heldRun_value (by kernel_rfl) h) ?_
          simp only [Act.put, List.setIfInBounds_toArray, List.set_cons_zero, List.set_cons_succ]
          refine wpHeld_cons (.int .i64 (i : Int)) rfl (fun w h => heldRun_value (by kernel_rfl) h) ?_
          simp only [Act.put, List.setIfInBounds_toArray, List.set_cons_zero, List.set_cons_succ]
          refine wpHeld_cons (.pointer (some ⟨gz, 0 + i, none⟩)) rfl (fun w h => heldRun_value (run_idx _ _ _ _ _ gz 0 64 cz i rfl rfl rfl HK.out (by simp [maxLen])) h) ?_
          simp only [Act.put, List.setIfInBounds_toArray, List.set_cons_zero, List.set_cons_succ]
          refine wpHeld_cons (.int .u8 zi) rfl (fun w h => heldRun_value (run_load_one _ _ _ 5 _ _ rfl gz (0 + i) rfl (by rw [cell_row64 (h.2.2.2) HK.out, EZ.out.1]) (by kernel_rfl)) h) ?_
          simp only [Act.put, List.setIfInBounds_toArray, List.set_cons_zero, List.set_cons_succ]
          refine wpHeld_cons (.slice (some ⟨gx, 0, none⟩) 64 cx) rfl (fun w h => heldRun_value (by kernel_rfl) h) ?_
          simp only [Act.put, List.setIfInBounds_toArray, List.set_cons_zero, List.set_cons_succ]
          refine wpHeld_cons (.int .i64 (i : Int)) rfl (fun w h => heldRun_value (by kernel_rfl) h) ?_
          simp only [Act.put, List.setIfInBounds_toArray, List.set_cons_zero, List.set_cons_succ]
          refine wpHeld_cons (.pointer (some ⟨gx, 0 + i, none⟩)) rfl (fun w h => heldRun_value (run_idx _ _ _ _ _ gx 0 64 cx i rfl rfl rfl HK.out (by simp [maxLen])) h) ?_
          simp only [Act.put, List.setIfInBounds_toArray, List.set_cons_zero, List.set_cons_succ]
          refine wpHeld_cons (.int .u8 xi) rfl (fun w h => heldRun_value (run_load_one _ _ _ 5 _ _ rfl gx (0 + i) rfl (by rw [cell_row64 (h.1) HK.out, EZ.out.2.1]) (by kernel_rfl)) h) ?_
          simp only [Act.put, List.setIfInBounds_toArray, List.set_cons_zero, List.set_cons_succ]
          refine wpHeld_cons (.bool true) rfl (fun w h => heldRun_value (run_nei Try.underlying5 rfl rfl rfl (by have := HZX.out; rw [decide_eq_true_eq]; omega)) h) ?_
          simp only [Act.put, List.setIfInBounds_toArray, List.set_cons_zero, List.set_cons_succ]
          refine wpHeld_cons (.bool true) rfl (fun w h => heldRun_value (by kernel_rfl) h) ?_
          simp only [Act.put, List.setIfInBounds_toArray, List.set_cons_zero, List.set_cons_succ]
          refine wpHeld_cons (.slice (some ⟨gz, 0, none⟩) 64 cz) rfl (fun w h => heldRun_value (by kernel_rfl) h) ?_
          simp only [Act.put, List.setIfInBounds_toArray, List.set_cons_zero, List.set_cons_succ]
          refine wpHeld_cons (.int .i64 (i : Int)) rfl (fun w h => heldRun_value (by kernel_rfl) h) ?_
          simp only [Act.put, List.setIfInBounds_toArray, List.set_cons_zero, List.set_cons_succ]
          refine wpHeld_cons (.pointer (some ⟨gz, 0 + i, none⟩)) rfl (fun w h => heldRun_value (run_idx _ _ _ _ _ gz 0 64 cz i rfl rfl rfl HK.out (by simp [maxLen])) h) ?_
          simp only [Act.put, List.setIfInBounds_toArray, List.set_cons_zero, List.set_cons_succ]
          refine wpHeld_cons (.int .u8 zi) rfl (fun w h => heldRun_value (run_load_one _ _ _ 5 _ _ rfl gz (0 + i) rfl (by rw [cell_row64 (h.2.2.2) HK.out, EZ.out.1]) (by kernel_rfl)) h) ?_
          simp only [Act.put, List.setIfInBounds_toArray, List.set_cons_zero, List.set_cons_succ]
          refine wpHeld_cons (.slice (some ⟨gy, 0, none⟩) 64 cy) rfl (fun w h => heldRun_value (by kernel_rfl) h) ?_
          simp only [Act.put, List.setIfInBounds_toArray, List.set_cons_zero, List.set_cons_succ]
          refine wpHeld_cons (.int .i64 (i : Int)) rfl (fun w h => heldRun_value (by kernel_rfl) h) ?_
          simp only [Act.put, List.setIfInBounds_toArray, List.set_cons_zero, List.set_cons_succ]
          refine wpHeld_cons (.pointer (some ⟨gy, 0 + i, none⟩)) rfl (fun w h => heldRun_value (run_idx _ _ _ _ _ gy 0 64 cy i rfl rfl rfl HK.out (by simp [maxLen])) h) ?_
          simp only [Act.put, List.setIfInBounds_toArray, List.set_cons_zero, List.set_cons_succ]
          refine wpHeld_cons (.int .u8 yi) rfl (fun w h => heldRun_value (run_load_one _ _ _ 5 _ _ rfl gy (0 + i) rfl (by rw [cell_row64 (h.2.1) HK.out, EZ.out.2.2]) (by kernel_rfl)) h) ?_
          simp only [Act.put, List.setIfInBounds_toArray, List.set_cons_zero, List.set_cons_succ]
          refine wpHeld_cons (.bool false) rfl (fun w h => heldRun_value (run_nei Try.underlying5 rfl rfl rfl (by have := HZY.out; rw [decide_eq_false_iff_not]; omega)) h) ?_
          simp only [Act.put, List.setIfInBounds_toArray, List.set_cons_zero, List.set_cons_succ]
          refine wpHeld_cons (.bool false) rfl (fun w h => heldRun_value (by kernel_rfl) h) ?_
          simp only [Act.put, List.setIfInBounds_toArray, List.set_cons_zero, List.set_cons_succ]
          refine wpHeld_nil ?_
          intro wq h1
          have RQ := Lib.hid h1
          clear h1
          unfold wpList
          go_upto_region 12 with (fail)
          refine wp_region_lit ?_
          refine wpL_pure (.int .i64 (i : Int)) rfl (by kernel_rfl) ?_
          simp only [Act.put, List.setIfInBounds_toArray, List.set_cons_zero, List.set_cons_succ]
          refine wpL_pure (.int .i64 ((i + 1 : Nat) : Int)) rfl (run_addi Try.underlying3 rfl rfl rfl _ (by have := HK.out; rw [wrap_in _ (by omega) (by omega)]; omega)) ?_
          simp only [Act.put, List.setIfInBounds_toArray, List.set_cons_zero, List.set_cons_succ]
          refine wpL_pure (.int .i64 ((i + 1 : Nat) : Int)) rfl (by kernel_rfl) ?_
          simp only [Act.put, List.setIfInBounds_toArray, List.set_cons_zero, List.set_cons_succ]
          have NX : Hid (i + 1 ≤ 64 ∧ Row wq (some ⟨gx, 0, none⟩) 64 (fullL 1 xs 64) ∧ Row wq (some ⟨gy, 0, none⟩) 64 (fullL 2 ys 64) ∧ Below w.heap.size w wq ∧ Row wq (some ⟨gz, 0, none⟩) 64 zl) := Lib.hid ⟨HK.out, RQ.out⟩
          unfold wpList
          go_roundw
          case rel => first | exact ⟨i + 1, rfl, NX⟩ | ((repeat apply Exists.intro); exact ⟨⟨i + 1, rfl, NX⟩, rfl⟩)
          case measure => simp [intOf]; have := HK.out; omega
      · have HK := Lib.hid hlt
        clear hlt
        go_upto_region 11 with (fail)
        refine wp_region_lit ?_
        refine wpL_pure (.int .i64 (i : Int)) rfl (by kernel_rfl) ?_
        simp only [Act.put, List.setIfInBounds_toArray, List.set_cons_zero, List.set_cons_succ]
        refine wpL_pure (.bool false) rfl (run_lti Try.underlying3 rfl rfl rfl (by have := HK.out; rw [decide_eq_false_iff_not]; omega)) ?_
        simp only [Act.put, List.setIfInBounds_toArray, List.set_cons_zero, List.set_cons_succ]
        have ZK := Lib.hid (tears XOK.out.1 XOK.out.2 fs)
        rw [ZL.out] at ZK
        rcases Nat.eq_zero_or_pos nf with h0 | h0
        · have H0 := Lib.hid h0
          have ezx := ZK.out.1 (.inl (HF.out.1.trans h0))
          clear h0
          go_upto_region 15 with (fail)
          refine wp_region_lit ?_
          refine wpL_pure (.slice af nf cf) rfl (by kernel_rfl) ?_
          simp only [Act.put, List.setIfInBounds_toArray, List.set_cons_zero, List.set_cons_succ]
          refine wpL_pure (.int .i64 (nf : Int)) rfl (by kernel_rfl) ?_
          simp only [Act.put, List.setIfInBounds_toArray, List.set_cons_zero, List.set_cons_succ]
          refine wpL_pure (.bool true) rfl (run_eqi Try.underlying3 rfl rfl rfl (by have := H0.out; rw [decide_eq_true_eq]; omega)) ?_
          simp only [Act.put, List.setIfInBounds_toArray, List.set_cons_zero, List.set_cons_succ]
          refine wpL_pure (.bool true) rfl (by kernel_rfl) ?_
          simp only [Act.put, List.setIfInBounds_toArray, List.set_cons_zero, List.set_cons_succ]
          refine wpL_skip (by kernel_rfl) ?_
          simp only [Act.put, List.setIfInBounds_toArray, List.set_cons_zero, List.set_cons_succ]
          refine wpL_skip (by kernel_rfl) ?_
          simp only [Act.put, List.setIfInBounds_toArray, List.set_cons_zero, List.set_cons_succ]
          refine wpL_skip (by kernel_rfl) ?_
          simp only [Act.put, List.setIfInBounds_toArray, List.set_cons_zero, List.set_cons_succ]
          refine wpL_skip (by kernel_rfl) ?_
          simp only [Act.put, List.setIfInBounds_toArray, List.set_cons_zero, List.set_cons_succ]
          refine wpL_pure (.bool true) rfl (by kernel_rfl) ?_
          simp only [Act.put, List.setIfInBounds_toArray, List.set_cons_zero, List.set_cons_succ]
          refine wpL_pure (.bool true) rfl (by kernel_rfl) ?_
          simp only [Act.put, List.setIfInBounds_toArray, List.set_cons_zero, List.set_cons_succ]
          refine wpL_skip (by kernel_rfl) ?_
          simp only [Act.put, List.setIfInBounds_toArray, List.set_cons_zero, List.set_cons_succ]
          refine wpL_skip (by kernel_rfl) ?_
          simp only [Act.put, List.setIfInBounds_toArray, List.set_cons_zero, List.set_cons_succ]
          refine wpL_skip (by kernel_rfl) ?_
          simp only [Act.put, List.setIfInBounds_toArray, List.set_cons_zero, List.set_cons_succ]
          refine wpL_skip (by kernel_rfl) ?_
          simp only [Act.put, List.setIfInBounds_toArray, List.set_cons_zero, List.set_cons_succ]
          refine wpL_pure (.bool true) rfl (by kernel_rfl) ?_
          simp only [Act.put, List.setIfInBounds_toArray, List.set_cons_zero, List.set_cons_succ]
          have EZX : Hid (zl = (fullL 1 xs 64)) := Lib.hid ezx
          go_upto_region 16 with (fail)
          refine wp_region_lit ?_
          refine wpL_pure (.slice (some ⟨gz, 0, none⟩) 64 cz) rfl (by kernel_rfl) ?_
          simp only [Act.put, List.setIfInBounds_toArray, List.set_cons_zero, List.set_cons_succ]
          refine wpL_pure (.string (strOfNums zl)) rfl (run_conv_str _ _ _ _ (some ⟨gz, 0, none⟩) 64 cz zl rfl rfl RI.out.2.2.2.2) ?_
          simp only [Act.put, List.setIfInBounds_toArray, List.set_cons_zero, List.set_cons_succ]
          refine wpL_pure (.slice (some ⟨gx, 0, none⟩) 64 cx) rfl (by kernel_rfl) ?_
          simp only [Act.put, List.setIfInBounds_toArray, List.set_cons_zero, List.set_cons_succ]
          refine wpL_pure (.string (strOfNums (fullL 1 xs 64))) rfl (run_conv_str _ _ _ _ (some ⟨gx, 0, none⟩) 64 cx (fullL 1 xs 64) rfl rfl RI.out.2.1) ?_
          simp only [Act.put, List.setIfInBounds_toArray, List.set_cons_zero, List.set_cons_succ]
          refine wpL_pure (.bool true) rfl (run_str_eql _ _ _ _ _ zl (fullL 1 xs 64) true rfl rfl rfl (by simp [EZX.out]) ZOK.out.2 XOK.out.1.2) ?_
          simp only [Act.put, List.setIfInBounds_toArray, List.set_cons_zero, List.set_cons_succ]
          refine wpL_pure (.bool true) rfl (by kernel_rfl) ?_
          simp only [Act.put, List.setIfInBounds_toArray, List.set_cons_zero, List.set_cons_succ]
          go_wp2_with fail
          go_ret
          exact ⟨rfl, RI.out.2.2.2.1⟩
        · have H0 : Hid (0 < nf) := Lib.hid h0
          clear h0
          obtain ⟨ga, oa, ea, hca⟩ := HF.out.2.2.2 0 H0.out
          subst ea
          obtain ⟨k0, hk0⟩ : ∃ q : Nat, fs.getD 0 0 = (q : Int) := ⟨(fs.getD 0 0).toNat, by have := getD_byte HF.out.2.2.1 0; omega⟩
          rw [hk0] at hca
          have hca2 := cell_below hca RI.out.2.2.2.1
          have CA := Lib.hid hca2
          have K0 : Hid (fs.getD 0 0 = (k0 : Int) ∧ k0 < 256) := Lib.hid ⟨hk0, by have := getD_byte HF.out.2.2.1 0; omega⟩
          clear hca hca2 hk0
          by_cases hk : k0 = 0
          · have HZ0 := Lib.hid hk
            have ezx := ZK.out.1 (.inr (.inl (by rw [K0.out.1, hk]; rfl)))
            clear hk
            go_upto_region 15 with (fail)
            refine wp_region_lit ?_
            refine wpL_pure (.slice (some ⟨ga, oa, none⟩) nf cf) rfl (by kernel_rfl) ?_
            simp only [Act.put, List.setIfInBounds_toArray, List.set_cons_zero, List.set_cons_succ]
            refine wpL_pure (.int .i64 (nf : Int)) rfl (by kernel_rfl) ?_
            simp only [Act.put, List.setIfInBounds_toArray, List.set_cons_zero, List.set_cons_succ]
            refine wpL_pure (.bool false) rfl (run_eqi Try.underlying3 rfl rfl rfl (by have := H0.out; rw [decide_eq_false_iff_not]; omega)) ?_
            simp only [Act.put, List.setIfInBounds_toArray, List.set_cons_zero, List.set_cons_succ]
            refine wpL_pure (.bool false) rfl (by kernel_rfl) ?_
            simp only [Act.put, List.setIfInBounds_toArray, List.set_cons_zero, List.set_cons_succ]
            refine wpL_pure (.slice (some ⟨ga, oa, none⟩) nf cf) rfl (by kernel_rfl) ?_
            simp only [Act.put, List.setIfInBounds_toArray, List.set_cons_zero, List.set_cons_succ]
            refine wpL_pure (.pointer (some ⟨ga, oa + 0, none⟩)) rfl (run_idx _ _ _ _ _ ga oa nf cf 0 rfl rfl rfl H0.out HF.out.2.1) ?_
            simp only [Act.put, List.setIfInBounds_toArray, List.set_cons_zero, List.set_cons_succ]
            refine wpL_pure (.int .u8 (k0 : Int)) rfl (run_load_one _ _ _ 5 _ _ rfl ga (oa + 0) rfl CA.out (by kernel_rfl)) ?_
            simp only [Act.put, List.setIfInBounds_toArray, List.set_cons_zero, List.set_cons_succ]
            refine wpL_pure (.bool true) rfl (run_eqi Try.underlying5 rfl rfl rfl (by have := HZ0.out; rw [decide_eq_true_eq]; omega)) ?_
            simp only [Act.put, List.setIfInBounds_toArray, List.set_cons_zero, List.set_cons_succ]
            refine wpL_pure (.bool true) rfl (by kernel_rfl) ?_
            simp only [Act.put, List.setIfInBounds_toArray, List.set_cons_zero, List.set_cons_succ]
            refine wpL_pure (.bool true) rfl (by kernel_rfl) ?_
            simp only [Act.put, List.setIfInBounds_toArray, List.set_cons_zero, List.set_cons_succ]
            refine wpL_skip (by kernel_rfl) ?_
            simp only [Act.put, List.setIfInBounds_toArray, List.set_cons_zero, List.set_cons_succ]
            refine wpL_skip (by kernel_rfl) ?_
            simp only [Act.put, List.setIfInBounds_toArray, List.set_cons_zero, List.set_cons_succ]
            refine wpL_skip (by kernel_rfl) ?_
            simp only [Act.put, List.setIfInBounds_toArray, List.set_cons_zero, List.set_cons_succ]
            refine wpL_skip (by kernel_rfl) ?_
            simp only [Act.put, List.setIfInBounds_toArray, List.set_cons_zero, List.set_cons_succ]
            refine wpL_pure (.bool true) rfl (by kernel_rfl) ?_
            simp only [Act.put, List.setIfInBounds_toArray, List.set_cons_zero, List.set_cons_succ]
            have EZX : Hid (zl = (fullL 1 xs 64)) := Lib.hid ezx
            go_upto_region 16 with (fail)
            refine wp_region_lit ?_
            refine wpL_pure (.slice (some ⟨gz, 0, none⟩) 64 cz) rfl (by kernel_rfl) ?_
            simp only [Act.put, List.setIfInBounds_toArray, List.set_cons_zero, List.set_cons_succ]
            refine wpL_pure (.string (strOfNums zl)) rfl (run_conv_str _ _ _ _ (some ⟨gz, 0, none⟩) 64 cz zl rfl rfl RI.out.2.2.2.2) ?_
            simp only [Act.put, List.setIfInBounds_toArray, List.set_cons_zero, List.set_cons_succ]
            refine wpL_pure (.slice (some ⟨gx, 0, none⟩) 64 cx) rfl (by kernel_rfl) ?_
            simp only [Act.put, List.setIfInBounds_toArray, List.set_cons_zero, List.set_cons_succ]
            refine wpL_pure (.string (strOfNums (fullL 1 xs 64))) rfl (run_conv_str _ _ _ _ (some ⟨gx, 0, none⟩) 64 cx (fullL 1 xs 64) rfl rfl RI.out.2.1) ?_
            simp only [Act.put, List.setIfInBounds_toArray, List.set_cons_zero, List.set_cons_succ]
            refine wpL_pure (.bool true) rfl (run_str_eql _ _ _ _ _ zl (fullL 1 xs 64) true rfl rfl rfl (by simp [EZX.out]) ZOK.out.2 XOK.out.1.2) ?_
            simp only [Act.put, List.setIfInBounds_toArray, List.set_cons_zero, List.set_cons_succ]
            refine wpL_pure (.bool true) rfl (by kernel_rfl) ?_
            simp only [Act.put, List.setIfInBounds_toArray, List.set_cons_zero, List.set_cons_succ]
            go_wp2_with fail
            go_ret
            exact ⟨rfl, RI.out.2.2.2.1⟩
          · have HZ0 := Lib.hid hk
            clear hk
            by_cases hk : k0 = 128
            · have HZ1 := Lib.hid hk
              have ezx := ZK.out.1 (.inr (.inr (by rw [K0.out.1, hk]; rfl)))
              clear hk
              go_upto_region 15 with (fail)
              refine wp_region_lit ?_
              refine wpL_pure (.slice (some ⟨ga, oa, none⟩) nf cf) rfl (by kernel_rfl) ?_
              simp only [Act.put, List.setIfInBounds_toArray, List.set_cons_zero, List.set_cons_succ]
              refine wpL_pure (.int .i64 (nf : Int)) rfl (by kernel_rfl) ?_
              simp only [Act.put, List.setIfInBounds_toArray, List.set_cons_zero, List.set_cons_succ]
              refine wpL_pure (.bool false) rfl (run_eqi Try.underlying3 rfl rfl rfl (by have := H0.out; rw [decide_eq_false_iff_not]; omega)) ?_
              simp only [Act.put, List.setIfInBounds_toArray, List.set_cons_zero, List.set_cons_succ]
              refine wpL_pure (.bool false) rfl (by kernel_rfl) ?_
              simp only [Act.put, List.setIfInBounds_toArray, List.set_cons_zero, List.set_cons_succ]
              refine wpL_pure (.slice (some ⟨ga, oa, none⟩) nf cf) rfl (by kernel_rfl) ?_
              simp only [Act.put, List.setIfInBounds_toArray, List.set_cons_zero, List.set_cons_succ]
              refine wpL_pure (.pointer (some ⟨ga, oa + 0, none⟩)) rfl (run_idx _ _ _ _ _ ga oa nf cf 0 rfl rfl rfl H0.out HF.out.2.1) ?_
              simp only [Act.put, List.setIfInBounds_toArray, List.set_cons_zero, List.set_cons_succ]
              refine wpL_pure (.int .u8 (k0 : Int)) rfl (run_load_one _ _ _ 5 _ _ rfl ga (oa + 0) rfl CA.out (by kernel_rfl)) ?_
              simp only [Act.put, List.setIfInBounds_toArray, List.set_cons_zero, List.set_cons_succ]
              refine wpL_pure (.bool false) rfl (run_eqi Try.underlying5 rfl rfl rfl (by have := HZ0.out; rw [decide_eq_false_iff_not]; omega)) ?_
              simp only [Act.put, List.setIfInBounds_toArray, List.set_cons_zero, List.set_cons_succ]
              refine wpL_pure (.bool false) rfl (by kernel_rfl) ?_
              simp only [Act.put, List.setIfInBounds_toArray, List.set_cons_zero, List.set_cons_succ]
              refine wpL_pure (.bool false) rfl (by kernel_rfl) ?_
              simp only [Act.put, List.setIfInBounds_toArray, List.set_cons_zero, List.set_cons_succ]
              refine wpL_pure (.slice (some ⟨ga, oa, none⟩) nf cf) rfl (by kernel_rfl) ?_
              simp only [Act.put, List.setIfInBounds_toArray, List.set_cons_zero, List.set_cons_succ]
              refine wpL_pure (.pointer (some ⟨ga, oa + 0, none⟩)) rfl (run_idx _ _ _ _ _ ga oa nf cf 0 rfl rfl rfl H0.out HF.out.2.1) ?_
              simp only [Act.put, List.setIfInBounds_toArray, List.set_cons_zero, List.set_cons_succ]
              refine wpL_pure (.int .u8 (k0 : Int)) rfl (run_load_one _ _ _ 5 _ _ rfl ga (oa + 0) rfl CA.out (by kernel_rfl)) ?_
              simp only [Act.put, List.setIfInBounds_toArray, List.set_cons_zero, List.set_cons_succ]
              refine wpL_pure (.bool true) rfl (run_eqi Try.underlying5 rfl rfl rfl (by have := HZ1.out; rw [decide_eq_true_eq]; omega)) ?_
              simp only [Act.put, List.setIfInBounds_toArray, List.set_cons_zero, List.set_cons_succ]
              refine wpL_pure (.bool true) rfl (by kernel_rfl) ?_
              simp only [Act.put, List.setIfInBounds_toArray, List.set_cons_zero, List.set_cons_succ]
              have EZX : Hid (zl = (fullL 1 xs 64)) := Lib.hid ezx
              go_upto_region 16 with (fail)
              refine wp_region_lit ?_
              refine wpL_pure (.slice (some ⟨gz, 0, none⟩) 64 cz) rfl (by kernel_rfl) ?_
              simp only [Act.put, List.setIfInBounds_toArray, List.set_cons_zero, List.set_cons_succ]
              refine wpL_pure (.string (strOfNums zl)) rfl (run_conv_str _ _ _ _ (some ⟨gz, 0, none⟩) 64 cz zl rfl rfl RI.out.2.2.2.2) ?_
              simp only [Act.put, List.setIfInBounds_toArray, List.set_cons_zero, List.set_cons_succ]
              refine wpL_pure (.slice (some ⟨gx, 0, none⟩) 64 cx) rfl (by kernel_rfl) ?_
              simp only [Act.put, List.setIfInBounds_toArray, List.set_cons_zero, List.set_cons_succ]
              refine wpL_pure (.string (strOfNums (fullL 1 xs 64))) rfl (run_conv_str _ _ _ _ (some ⟨gx, 0, none⟩) 64 cx (fullL 1 xs 64) rfl rfl RI.out.2.1) ?_
              simp only [Act.put, List.setIfInBounds_toArray, List.set_cons_zero, List.set_cons_succ]
              refine wpL_pure (.bool true) rfl (run_str_eql _ _ _ _ _ zl (fullL 1 xs 64) true rfl rfl rfl (by simp [EZX.out]) ZOK.out.2 XOK.out.1.2) ?_
              simp only [Act.put, List.setIfInBounds_toArray, List.set_cons_zero, List.set_cons_succ]
              refine wpL_pure (.bool true) rfl (by kernel_rfl) ?_
              simp only [Act.put, List.setIfInBounds_toArray, List.set_cons_zero, List.set_cons_succ]
              go_wp2_with fail
              go_ret
              exact ⟨rfl, RI.out.2.2.2.1⟩
            · have HZ1 := Lib.hid hk
              clear hk
              go_upto_region 15 with (fail)
              refine wp_region_lit ?_
              refine wpL_pure (.slice (some ⟨ga, oa, none⟩) nf cf) rfl (by kernel_rfl) ?_
              simp only [Act.put, List.setIfInBounds_toArray, List.set_cons_zero, List.set_cons_succ]
              refine wpL_pure (.int .i64 (nf : Int)) rfl (by kernel_rfl) ?_
              simp only [Act.put, List.setIfInBounds_toArray, List.set_cons_zero, List.set_cons_succ]
              refine wpL_pure (.bool false) rfl (run_eqi Try.underlying3 rfl rfl rfl (by have := H0.out; rw [decide_eq_false_iff_not]; omega)) ?_
              simp only [Act.put, List.setIfInBounds_toArray, List.set_cons_zero, List.set_cons_succ]
              refine wpL_pure (.bool false) rfl (by kernel_rfl) ?_
              simp only [Act.put, List.setIfInBounds_toArray, List.set_cons_zero, List.set_cons_succ]
              refine wpL_pure (.slice (some ⟨ga, oa, none⟩) nf cf) rfl (by kernel_rfl) ?_
              simp only [Act.put, List.setIfInBounds_toArray, List.set_cons_zero, List.set_cons_succ]
              refine wpL_pure (.pointer (some ⟨ga, oa + 0, none⟩)) rfl (run_idx _ _ _ _ _ ga oa nf cf 0 rfl rfl rfl H0.out HF.out.2.1) ?_
              simp only [Act.put, List.setIfInBounds_toArray, List.set_cons_zero, List.set_cons_succ]
              refine wpL_pure (.int .u8 (k0 : Int)) rfl (run_load_one _ _ _ 5 _ _ rfl ga (oa + 0) rfl CA.out (by kernel_rfl)) ?_
              simp only [Act.put, List.setIfInBounds_toArray, List.set_cons_zero, List.set_cons_succ]
              refine wpL_pure (.bool false) rfl (run_eqi Try.underlying5 rfl rfl rfl (by have := HZ0.out; rw [decide_eq_false_iff_not]; omega)) ?_
              simp only [Act.put, List.setIfInBounds_toArray, List.set_cons_zero, List.set_cons_succ]
              refine wpL_pure (.bool false) rfl (by kernel_rfl) ?_
              simp only [Act.put, List.setIfInBounds_toArray, List.set_cons_zero, List.set_cons_succ]
              refine wpL_pure (.bool false) rfl (by kernel_rfl) ?_
              simp only [Act.put, List.setIfInBounds_toArray, List.set_cons_zero, List.set_cons_succ]
              refine wpL_pure (.slice (some ⟨ga, oa, none⟩) nf cf) rfl (by kernel_rfl) ?_
              simp only [Act.put, List.setIfInBounds_toArray, List.set_cons_zero, List.set_cons_succ]
              refine wpL_pure (.pointer (some ⟨ga, oa + 0, none⟩)) rfl (run_idx _ _ _ _ _ ga oa nf cf 0 rfl rfl rfl H0.out HF.out.2.1) ?_
              simp only [Act.put, List.setIfInBounds_toArray, List.set_cons_zero, List.set_cons_succ]
              refine wpL_pure (.int .u8 (k0 : Int)) rfl (run_load_one _ _ _ 5 _ _ rfl ga (oa + 0) rfl CA.out (by kernel_rfl)) ?_
              simp only [Act.put, List.setIfInBounds_toArray, List.set_cons_zero, List.set_cons_succ]
              refine wpL_pure (.bool false) rfl (run_eqi Try.underlying5 rfl rfl rfl (by have := HZ1.out; rw [decide_eq_false_iff_not]; omega)) ?_
              simp only [Act.put, List.setIfInBounds_toArray, List.set_cons_zero, List.set_cons_succ]
              refine wpL_pure (.bool false) rfl (by kernel_rfl) ?_
              simp only [Act.put, List.setIfInBounds_toArray, List.set_cons_zero, List.set_cons_succ]
              obtain ⟨km, hkm⟩ : ∃ q, k0 % 128 = q := ⟨_, rfl⟩
              have KM := Lib.hid hkm
              clear hkm
              by_cases hm : km < 64
              · have HM := Lib.hid hm
                clear hm
                go_upto_region 17 with (fail)
                refine wp_region_lit ?_
                refine wpL_pure (.slice (some ⟨ga, oa, none⟩) nf cf) rfl (by kernel_rfl) ?_
                simp only [Act.put, List.setIfInBounds_toArray, List.set_cons_zero, List.set_cons_succ]
                refine wpL_pure (.pointer (some ⟨ga, oa + 0, none⟩)) rfl (run_idx _ _ _ _ _ ga oa nf cf 0 rfl rfl rfl H0.out HF.out.2.1) ?_
                simp only [Act.put, List.setIfInBounds_toArray, List.set_cons_zero, List.set_cons_succ]
                refine wpL_pure (.int .u8 (k0 : Int)) rfl (run_load_one _ _ _ 5 _ _ rfl ga (oa + 0) rfl CA.out (by kernel_rfl)) ?_
                simp only [Act.put, List.setIfInBounds_toArray, List.set_cons_zero, List.set_cons_succ]
                refine wpL_pure (.int .u8 ((km : Nat) : Int)) rfl (run_remu _ _ _ _ k0 128 km rfl rfl (by decide) KM.out) ?_
                simp only [Act.put, List.setIfInBounds_toArray, List.set_cons_zero, List.set_cons_succ]
                refine wpL_pure (.bool true) rfl (run_lti Try.underlying5 rfl rfl rfl (by have := HM.out; rw [decide_eq_true_eq]; omega)) ?_
                simp only [Act.put, List.setIfInBounds_toArray, List.set_cons_zero, List.set_cons_succ]
                refine wpL_pure (.bool true) rfl (by kernel_rfl) ?_
                simp only [Act.put, List.setIfInBounds_toArray, List.set_cons_zero, List.set_cons_succ]
                refine wpL_skip (by kernel_rfl) ?_
                simp only [Act.put, List.setIfInBounds_toArray, List.set_cons_zero, List.set_cons_succ]
                refine wpL_skip (by kernel_rfl) ?_
                simp only [Act.put, List.setIfInBounds_toArray, List.set_cons_zero, List.set_cons_succ]
                refine wpL_skip (by kernel_rfl) ?_
                simp only [Act.put, List.setIfInBounds_toArray, List.set_cons_zero, List.set_cons_succ]
                refine wpL_skip (by kernel_rfl) ?_
                simp only [Act.put, List.setIfInBounds_toArray, List.set_cons_zero, List.set_cons_succ]
                refine wpL_skip (by kernel_rfl) ?_
                simp only [Act.put, List.setIfInBounds_toArray, List.set_cons_zero, List.set_cons_succ]
                refine wpL_pure (.bool true) rfl (by kernel_rfl) ?_
                simp only [Act.put, List.setIfInBounds_toArray, List.set_cons_zero, List.set_cons_succ]
                refine wpL_pure (.bool true) rfl (by kernel_rfl) ?_
                simp only [Act.put, List.setIfInBounds_toArray, List.set_cons_zero, List.set_cons_succ]
                go_wp2_with fail
                go_ret
                exact ⟨rfl, RI.out.2.2.2.1⟩
              · have HM := Lib.hid hm
                have EZY : Hid (zl = (fullL 2 ys 64)) := Lib.hid (ZK.out.2 k0 (by have := HF.out.1; have := H0.out; omega) K0.out.1 (by rw [KM.out]; omega) K0.out.2)
                clear hm
                go_upto_region 17 with (fail)
                refine wp_region_lit ?_
                refine wpL_pure (.slice (some ⟨ga, oa, none⟩) nf cf) rfl (by kernel_rfl) ?_
                simp only [Act.put, List.setIfInBounds_toArray, List.set_cons_zero, List.set_cons_succ]
                refine wpL_pure (.pointer (some ⟨ga, oa + 0, none⟩)) rfl (run_idx _ _ _ _ _ ga oa nf cf 0 rfl rfl rfl H0.out HF.out.2.1) ?_
                simp only [Act.put, List.setIfInBounds_toArray, List.set_cons_zero, List.set_cons_succ]
                refine wpL_pure (.int .u8 (k0 : Int)) rfl (run_load_one _ _ _ 5 _ _ rfl ga (oa + 0) rfl CA.out (by kernel_rfl)) ?_
                simp only [Act.put, List.setIfInBounds_toArray, List.set_cons_zero, List.set_cons_succ]
                refine wpL_pure (.int .u8 ((km : Nat) : Int)) rfl (run_remu _ _ _ _ k0 128 km rfl rfl (by decide) KM.out) ?_
                simp only [Act.put, List.setIfInBounds_toArray, List.set_cons_zero, List.set_cons_succ]
                refine wpL_pure (.bool false) rfl (run_lti Try.underlying5 rfl rfl rfl (by have := HM.out; rw [decide_eq_false_iff_not]; omega)) ?_
                simp only [Act.put, List.setIfInBounds_toArray, List.set_cons_zero, List.set_cons_succ]
                refine wpL_pure (.bool false) rfl (by kernel_rfl) ?_
                simp only [Act.put, List.setIfInBounds_toArray, List.set_cons_zero, List.set_cons_succ]
                refine wpL_pure (.slice (some ⟨gz, 0, none⟩) 64 cz) rfl (by kernel_rfl) ?_
                simp only [Act.put, List.setIfInBounds_toArray, List.set_cons_zero, List.set_cons_succ]
                refine wpL_pure (.string (strOfNums zl)) rfl (run_conv_str _ _ _ _ (some ⟨gz, 0, none⟩) 64 cz zl rfl rfl RI.out.2.2.2.2) ?_
                simp only [Act.put, List.setIfInBounds_toArray, List.set_cons_zero, List.set_cons_succ]
                refine wpL_pure (.slice (some ⟨gy, 0, none⟩) 64 cy) rfl (by kernel_rfl) ?_
                simp only [Act.put, List.setIfInBounds_toArray, List.set_cons_zero, List.set_cons_succ]
                refine wpL_pure (.string (strOfNums (fullL 2 ys 64))) rfl (run_conv_str _ _ _ _ (some ⟨gy, 0, none⟩) 64 cy (fullL 2 ys 64) rfl rfl RI.out.2.2.1) ?_
                simp only [Act.put, List.setIfInBounds_toArray, List.set_cons_zero, List.set_cons_succ]
                refine wpL_pure (.bool true) rfl (run_str_eql _ _ _ _ _ zl (fullL 2 ys 64) true rfl rfl rfl (by simp [EZY.out]) ZOK.out.2 XOK.out.2.2) ?_
                simp only [Act.put, List.setIfInBounds_toArray, List.set_cons_zero, List.set_cons_succ]
                refine wpL_pure (.bool true) rfl (by kernel_rfl) ?_
                simp only [Act.put, List.setIfInBounds_toArray, List.set_cons_zero, List.set_cons_succ]
                refine wpL_pure (.bool true) rfl (by kernel_rfl) ?_
                simp only [Act.put, List.setIfInBounds_toArray, List.set_cons_zero, List.set_cons_succ]
                go_wp2_with fail
                go_ret
                exact ⟨rfl, RI.out.2.2.2.1⟩
open Go.ChangeShapes Go.WideShapes Go.ChangeAt in
theorem walkDiskTears (a : Option Addr) (n c : Nat) (z : List Int) (b : Option Addr) (m d : Nat) (y : List Int) (f : Option Addr) (k e : Nat) (u : List Int) (w : World) (h0 : IsRow .u8 w a n c z) (h1 : IsRow .u8 w b m d y) (h2 : IsRow .u8 w f k e u) :
    Calls Try.prog 5 #[.slice a n c, .slice b m d, .slice f k e] w fun e w' => e = .returned (.bool true) ∧ Below w.heap.size w w' :=
  tears_any a n c _ b m d _ f k e _ w (row_of h0) (row_of h1) (row_of h2)
end Go.Proofs.Yticjpjbmjnalhaa
