import Derived.Test.YtggbmajajpafnaaDoorH18
namespace Go.Proofs.YtggbmajajpafnaaDoor
open Go Go.RowKit

attribute [local irreducible] wpList
set_option maxHeartbeats 8000000 in
set_option maxRecDepth 100000 in
/-- hash.Extract. -/
theorem extract_any (w : World) (ka : Option Addr) (kn kc : Nat) (ks : List Int) (a : Option Addr) (n c : Nat) (ts : List Int) (hk : Sl w ka kn kc ks) (hkn : kn ≤ 4611686018427387904) (h : Sl w a n c ts) (hn : n ≤ 4611686018427387904) (hT : TabK w) (hH : TabH w) :
    Calls Tryd.prog 18 #[.slice ka kn kc, .slice a n c] w fun e w' => e = .returned (.agg (u8l (macS ks ts)).toArray) ∧ Below w.heap.size w w' := by
  have HKS := Lib.hid hk
  have HKN := Lib.hid hkn
  have HS := Lib.hid h
  have HN := Lib.hid hn
  have HT := Lib.hid hT
  have HH := Lib.hid hH
  clear hk hkn h hn hT hH
  go_enter Tryd.func18, Tryd.ntmps18
  obtain ⟨w1, hw1⟩ : ∃ V, V = w.alloc (.cells (u8l (List.replicate 32 0)).toArray 26) := ⟨_, rfl⟩
  obtain ⟨w2, hw2⟩ : ∃ V, V = w1.alloc (.cells #[.slice a n c] 22) := ⟨_, rfl⟩
  have B2 : Hid (Blk w2 w.heap.size 26 (u8l (List.replicate 32 0)).toArray ∧ Below w.heap.size w w2 ∧ PSl w2 (some ⟨w1.heap.size, 0, none⟩) 1 [ts]) := Lib.hid (by
    have q1 : Below w.heap.size w w1 := by rw [hw1]; exact (Below.refl _ _).alloc (Nat.le_refl _) _
    have q2 : Below w1.heap.size w1 w2 := by rw [hw2]; exact (Below.refl _ _).alloc (Nat.le_refl _) _
    have q : Below w.heap.size w w2 := q1.trans (q2.mono q1.size)
    have b1 : Blk w1 w.heap.size 26 (u8l (List.replicate 32 0)).toArray := by rw [hw1]; exact Blk.new _ _ _
    exact ⟨b1.below q2, q, psl_one (by rw [hw2]; exact Blk.new _ _ _) (HS.out.below q) (by have := HN.out; omega)⟩)
  go_upto_region 0 with (fail)
  refine wp_region_lit ?_
  refine wpL_value (.pointer (some ⟨w.heap.size, 0, none⟩)) (w1) rfl (by rw [hw1]; kernel_rfl) ?_
  simp only [Act.put, List.setIfInBounds_toArray, List.set_cons_zero, List.set_cons_succ]
  go_upto_region 1 with (fail)
  refine wp_region_lit ?_
  refine wpL_pure (.slice ka kn kc) rfl (by kernel_rfl) ?_
  simp only [Act.put, List.setIfInBounds_toArray, List.set_cons_zero, List.set_cons_succ]
  refine wpL_pure (.slice a n c) rfl (by kernel_rfl) ?_
  simp only [Act.put, List.setIfInBounds_toArray, List.set_cons_zero, List.set_cons_succ]
  refine wpL_value (.slice (some ⟨w1.heap.size, 0, none⟩) 1 1) (w2) rfl (by rw [hw2]; kernel_rfl) ?_
  simp only [Act.put, List.setIfInBounds_toArray, List.set_cons_zero, List.set_cons_succ]
  refine wpL_call 12 #[.slice ka kn kc, .slice (some ⟨w1.heap.size, 0, none⟩) 1 1] rfl (by kernel_rfl) (((mac_any w2 ka kn kc ks (some ⟨w1.heap.size, 0, none⟩) 1 1 [ts] (HKS.out.below B2.out.2.1) HKN.out B2.out.2.2 (by omega) (HT.out.below B2.out.2.1) (HH.out.below B2.out.2.1))).mono fun e w3 ⟨he, hb⟩ => ⟨.agg (u8l (macS ks ts)).toArray, (he.trans (by simp)), ?_⟩)
  simp only [Act.put, List.setIfInBounds_toArray, List.set_cons_zero, List.set_cons_succ]
  have B3 : Hid (Blk w3 w.heap.size 26 (u8l (List.replicate 32 0)).toArray ∧ Below w.heap.size w w3) := Lib.hid ⟨B2.out.1.below hb, B2.out.2.1.trans (hb.mono B2.out.2.1.size)⟩
  clear hb
  refine wpList_store_rowTo rfl 26 _ _ rfl rfl w.heap.size (u8l (macS ks ts)).toArray rfl rfl 26 _ B3.out.1 (by simp only [List.size_toArray, u8l_len, macS_len]; kernel_rfl) (by simp [u8l_len, macS_len]) (u8l_one _) ?_
  go_wp2_with fail
  refine bodyPost_ret (results_cell_row rfl _ _ w.heap.size 26 _ (0, 0) _ rfl (setRow_heap _ _ _ _ _ _ B3.out.1) Tryd.underlying26 rfl (by simp only [List.size_toArray, u8l_len, macS_len]; kernel_rfl)) rfl ?_
  exact ⟨rfl, below_setRow B3.out.2 (Nat.le_refl _) _⟩
set_option maxHeartbeats 8000000 in
set_option maxRecDepth 100000 in
theorem walkHashMacs (ka : Option Addr) (kn kc : Nat) (kz : List Int) (a : Option Addr) (ln lc : Nat) (w : World) (hk : IsRow .u8 w ka kn kc kz) (h : ∃ L, RP w a ln L) (tabs : TabK w ∧ TabH w ∧ TabW w) :
    Calls Tryd.prog 6 #[.slice ka kn kc, .slice a ln lc] w fun e w' => e = .returned (.bool true) ∧ Below w.heap.size w w' := by
  obtain ⟨L, h⟩ := h
  obtain ⟨ks, hks⟩ : ∃ q, kz.take kn = q := ⟨_, rfl⟩
  have hs' := sl_of hk
  rw [hks] at hs'
  have HKS := Lib.hid hs'
  have HP := Lib.hid h
  have HT := Lib.hid tabs.1
  have HH := Lib.hid tabs.2.1
  have HW := Lib.hid tabs.2.2
  clear h tabs hks hs' hk
  go_enter Tryd.func6, Tryd.ntmps6
  go_upto_region 0 with (fail)
  refine wp_region_lit ?_
  refine wpL_pure (.bool false) rfl (by kernel_rfl) ?_
  simp only [Act.put, List.setIfInBounds_toArray, List.set_cons_zero, List.set_cons_succ]
  go_upto_region 1 with (fail)
  refine wp_region_lit ?_
  refine wpL_call 10 #[] rfl (by kernel_rfl) (((awake_any w HT.out HH.out)).mono fun e w1 ⟨he, hb⟩ => ⟨.bool true, he, ?_⟩)
  simp only [Act.put, List.setIfInBounds_toArray, List.set_cons_zero, List.set_cons_succ]
  have B1 := Lib.hid hb
  clear hb
  refine wpL_pure (.bool true) rfl (by kernel_rfl) ?_
  simp only [Act.put, List.setIfInBounds_toArray, List.set_cons_zero, List.set_cons_succ]
  refine wpL_pure (.slice a ln lc) rfl (by kernel_rfl) ?_
  simp only [Act.put, List.setIfInBounds_toArray, List.set_cons_zero, List.set_cons_succ]
  refine wpL_call 14 #[.slice a ln lc] rfl (by kernel_rfl) (((few_any w1 a ln lc L (HP.out.below B1.out))).mono fun e w2 ⟨z, he, hw, hz⟩ => ⟨.bool z, he, ?_⟩)
  simp only [Act.put, List.setIfInBounds_toArray, List.set_cons_zero, List.set_cons_succ]
  rw [hw]
  clear hw
  have HZ := Lib.hid hz
  clear hz
  cases z
  · refine wpL_pure (.bool true) rfl (by kernel_rfl) ?_
    simp only [Act.put, List.setIfInBounds_toArray, List.set_cons_zero, List.set_cons_succ]
    refine wpL_pure (.bool true) rfl (by kernel_rfl) ?_
    simp only [Act.put, List.setIfInBounds_toArray, List.set_cons_zero, List.set_cons_succ]
    refine wpL_skip (by kernel_rfl) ?_
    simp only [Act.put, List.setIfInBounds_toArray, List.set_cons_zero, List.set_cons_succ]
    refine wpL_skip (by kernel_rfl) ?_
    simp only [Act.put, List.setIfInBounds_toArray, List.set_cons_zero, List.set_cons_succ]
    refine wpL_skip (by kernel_rfl) ?_
    simp only [Act.put, List.setIfInBounds_toArray, List.set_cons_zero, List.set_cons_succ]
    refine wpL_pure (.bool true) rfl (by kernel_rfl) ?_
    simp only [Act.put, List.setIfInBounds_toArray, List.set_cons_zero, List.set_cons_succ]
    refine wpL_pure (.bool true) rfl (by kernel_rfl) ?_
    simp only [Act.put, List.setIfInBounds_toArray, List.set_cons_zero, List.set_cons_succ]
    refine wpL_skip (by kernel_rfl) ?_
    simp only [Act.put, List.setIfInBounds_toArray, List.set_cons_zero, List.set_cons_succ]
    refine wpL_skip (by kernel_rfl) ?_
    simp only [Act.put, List.setIfInBounds_toArray, List.set_cons_zero, List.set_cons_succ]
    refine wpL_skip (by kernel_rfl) ?_
    simp only [Act.put, List.setIfInBounds_toArray, List.set_cons_zero, List.set_cons_succ]
    refine wpL_skip (by kernel_rfl) ?_
    simp only [Act.put, List.setIfInBounds_toArray, List.set_cons_zero, List.set_cons_succ]
    refine wpL_skip (by kernel_rfl) ?_
    simp only [Act.put, List.setIfInBounds_toArray, List.set_cons_zero, List.set_cons_succ]
    refine wpL_skip (by kernel_rfl) ?_
    simp only [Act.put, List.setIfInBounds_toArray, List.set_cons_zero, List.set_cons_succ]
    refine wpL_skip (by kernel_rfl) ?_
    simp only [Act.put, List.setIfInBounds_toArray, List.set_cons_zero, List.set_cons_succ]
    refine wpL_skip (by kernel_rfl) ?_
    simp only [Act.put, List.setIfInBounds_toArray, List.set_cons_zero, List.set_cons_succ]
    refine wpL_skip (by kernel_rfl) ?_
    simp only [Act.put, List.setIfInBounds_toArray, List.set_cons_zero, List.set_cons_succ]
    refine wpL_skip (by kernel_rfl) ?_
    simp only [Act.put, List.setIfInBounds_toArray, List.set_cons_zero, List.set_cons_succ]
    refine wpL_skip (by kernel_rfl) ?_
    simp only [Act.put, List.setIfInBounds_toArray, List.set_cons_zero, List.set_cons_succ]
    refine wpL_skip (by kernel_rfl) ?_
    simp only [Act.put, List.setIfInBounds_toArray, List.set_cons_zero, List.set_cons_succ]
    refine wpL_skip (by kernel_rfl) ?_
    simp only [Act.put, List.setIfInBounds_toArray, List.set_cons_zero, List.set_cons_succ]
    refine wpL_skip (by kernel_rfl) ?_
    simp only [Act.put, List.setIfInBounds_toArray, List.set_cons_zero, List.set_cons_succ]
    refine wpL_skip (by kernel_rfl) ?_
    simp only [Act.put, List.setIfInBounds_toArray, List.set_cons_zero, List.set_cons_succ]
    refine wpL_skip (by kernel_rfl) ?_
    simp only [Act.put, List.setIfInBounds_toArray, List.set_cons_zero, List.set_cons_succ]
    refine wpL_skip (by kernel_rfl) ?_
    simp only [Act.put, List.setIfInBounds_toArray, List.set_cons_zero, List.set_cons_succ]
    refine wpL_skip (by kernel_rfl) ?_
    simp only [Act.put, List.setIfInBounds_toArray, List.set_cons_zero, List.set_cons_succ]
    refine wpL_skip (by kernel_rfl) ?_
    simp only [Act.put, List.setIfInBounds_toArray, List.set_cons_zero, List.set_cons_succ]
    refine wpL_pure (.bool true) rfl (by kernel_rfl) ?_
    simp only [Act.put, List.setIfInBounds_toArray, List.set_cons_zero, List.set_cons_succ]
    refine wpL_pure (.bool true) rfl (by kernel_rfl) ?_
    simp only [Act.put, List.setIfInBounds_toArray, List.set_cons_zero, List.set_cons_succ]
    refine wpL_pure (.bool true) rfl (by kernel_rfl) ?_
    simp only [Act.put, List.setIfInBounds_toArray, List.set_cons_zero, List.set_cons_succ]
    go_wp2_with fail
    go_ret
    exact ⟨rfl, B1.out⟩
  · have FW := Lib.hid (HZ.out rfl)
    clear HZ
    have PS : Hid (PSl w1 a ln L) := Lib.hid ((HP.out.below B1.out).psl FW.out.2.2)
    refine wpL_pure (.bool false) rfl (by kernel_rfl) ?_
    simp only [Act.put, List.setIfInBounds_toArray, List.set_cons_zero, List.set_cons_succ]
    refine wpL_pure (.bool false) rfl (by kernel_rfl) ?_
    simp only [Act.put, List.setIfInBounds_toArray, List.set_cons_zero, List.set_cons_succ]
    by_cases hk : 500 < kn
    · have HKN := Lib.hid hk
      clear hk
      refine wpL_pure (.slice ka kn kc) rfl (by kernel_rfl) ?_
      simp only [Act.put, List.setIfInBounds_toArray, List.set_cons_zero, List.set_cons_succ]
      refine wpL_pure (.int .i64 (kn : Int)) rfl (by kernel_rfl) ?_
      simp only [Act.put, List.setIfInBounds_toArray, List.set_cons_zero, List.set_cons_succ]
      refine wpL_pure (.bool true) rfl (run_gti Tryd.underlying3 rfl rfl rfl (by have := HKN.out; rw [decide_eq_true_eq]; omega)) ?_
      simp only [Act.put, List.setIfInBounds_toArray, List.set_cons_zero, List.set_cons_succ]
      refine wpL_pure (.bool true) rfl (by kernel_rfl) ?_
      simp only [Act.put, List.setIfInBounds_toArray, List.set_cons_zero, List.set_cons_succ]
      refine wpL_pure (.bool true) rfl (by kernel_rfl) ?_
      simp only [Act.put, List.setIfInBounds_toArray, List.set_cons_zero, List.set_cons_succ]
      refine wpL_skip (by kernel_rfl) ?_
      simp only [Act.put, List.setIfInBounds_toArray, List.set_cons_zero, List.set_cons_succ]
      refine wpL_skip (by kernel_rfl) ?_
      simp only [Act.put, List.setIfInBounds_toArray, List.set_cons_zero, List.set_cons_succ]
      refine wpL_skip (by kernel_rfl) ?_
      simp only [Act.put, List.setIfInBounds_toArray, List.set_cons_zero, List.set_cons_succ]
      refine wpL_skip (by kernel_rfl) ?_
      simp only [Act.put, List.setIfInBounds_toArray, List.set_cons_zero, List.set_cons_succ]
      refine wpL_skip (by kernel_rfl) ?_
      simp only [Act.put, List.setIfInBounds_toArray, List.set_cons_zero, List.set_cons_succ]
      refine wpL_skip (by kernel_rfl) ?_
      simp only [Act.put, List.setIfInBounds_toArray, List.set_cons_zero, List.set_cons_succ]
      refine wpL_skip (by kernel_rfl) ?_
      simp only [Act.put, List.setIfInBounds_toArray, List.set_cons_zero, List.set_cons_succ]
      refine wpL_skip (by kernel_rfl) ?_
      simp only [Act.put, List.setIfInBounds_toArray, List.set_cons_zero, List.set_cons_succ]
      refine wpL_skip (by kernel_rfl) ?_
      simp only [Act.put, List.setIfInBounds_toArray, List.set_cons_zero, List.set_cons_succ]
      refine wpL_skip (by kernel_rfl) ?_
      simp only [Act.put, List.setIfInBounds_toArray, List.set_cons_zero, List.set_cons_succ]
      refine wpL_skip (by kernel_rfl) ?_
      simp only [Act.put, List.setIfInBounds_toArray, List.set_cons_zero, List.set_cons_succ]
      refine wpL_skip (by kernel_rfl) ?_
      simp only [Act.put, List.setIfInBounds_toArray, List.set_cons_zero, List.set_cons_succ]
      refine wpL_skip (by kernel_rfl) ?_
      simp only [Act.put, List.setIfInBounds_toArray, List.set_cons_zero, List.set_cons_succ]
      refine wpL_skip (by kernel_rfl) ?_
      simp only [Act.put, List.setIfInBounds_toArray, List.set_cons_zero, List.set_cons_succ]
      refine wpL_skip (by kernel_rfl) ?_
      simp only [Act.put, List.setIfInBounds_toArray, List.set_cons_zero, List.set_cons_succ]
      refine wpL_skip (by kernel_rfl) ?_
      simp only [Act.put, List.setIfInBounds_toArray, List.set_cons_zero, List.set_cons_succ]
      refine wpL_skip (by kernel_rfl) ?_
      simp only [Act.put, List.setIfInBounds_toArray, List.set_cons_zero, List.set_cons_succ]
      refine wpL_skip (by kernel_rfl) ?_
      simp only [Act.put, List.setIfInBounds_toArray, List.set_cons_zero, List.set_cons_succ]
      refine wpL_skip (by kernel_rfl) ?_
      simp only [Act.put, List.setIfInBounds_toArray, List.set_cons_zero, List.set_cons_succ]
      refine wpL_pure (.bool true) rfl (by kernel_rfl) ?_
      simp only [Act.put, List.setIfInBounds_toArray, List.set_cons_zero, List.set_cons_succ]
      refine wpL_pure (.bool true) rfl (by kernel_rfl) ?_
      simp only [Act.put, List.setIfInBounds_toArray, List.set_cons_zero, List.set_cons_succ]
      refine wpL_pure (.bool true) rfl (by kernel_rfl) ?_
      simp only [Act.put, List.setIfInBounds_toArray, List.set_cons_zero, List.set_cons_succ]
      go_wp2_with fail
      go_ret
      exact ⟨rfl, B1.out⟩
    · have HKN := Lib.hid hk
      clear hk
      have A1 : Hid (Below w.heap.size w w1 ∧ PSl w1 a ln L) := Lib.hid ⟨B1.out, PS.out⟩
      refine wpL_pure (.slice ka kn kc) rfl (by kernel_rfl) ?_
      simp only [Act.put, List.setIfInBounds_toArray, List.set_cons_zero, List.set_cons_succ]
      refine wpL_pure (.int .i64 (kn : Int)) rfl (by kernel_rfl) ?_
      simp only [Act.put, List.setIfInBounds_toArray, List.set_cons_zero, List.set_cons_succ]
      refine wpL_pure (.bool false) rfl (run_gti Tryd.underlying3 rfl rfl rfl (by have := HKN.out; rw [decide_eq_false_iff_not]; omega)) ?_
      simp only [Act.put, List.setIfInBounds_toArray, List.set_cons_zero, List.set_cons_succ]
      refine wpL_pure (.bool false) rfl (by kernel_rfl) ?_
      simp only [Act.put, List.setIfInBounds_toArray, List.set_cons_zero, List.set_cons_succ]
      refine wpL_pure (.bool false) rfl (by kernel_rfl) ?_
      simp only [Act.put, List.setIfInBounds_toArray, List.set_cons_zero, List.set_cons_succ]
      refine wpL_pure (.slice ka kn kc) rfl (by kernel_rfl) ?_
      simp only [Act.put, List.setIfInBounds_toArray, List.set_cons_zero, List.set_cons_succ]
      refine wpL_pure (.slice a ln lc) rfl (by kernel_rfl) ?_
      simp only [Act.put, List.setIfInBounds_toArray, List.set_cons_zero, List.set_cons_succ]
      refine wpL_call 12 #[.slice ka kn kc, .slice a ln lc] rfl (by kernel_rfl) (((mac_any w1 ka kn kc ks a ln lc L (HKS.out.below A1.out.1) (by have := HKN.out; omega) A1.out.2 (by have := FW.out.1; omega) (HT.out.below A1.out.1) (HH.out.below A1.out.1))).mono fun e w3 ⟨he, hb⟩ => ⟨.agg (u8l (macS ks L.flatten)).toArray, he, ?_⟩)
      simp only [Act.put, List.setIfInBounds_toArray, List.set_cons_zero, List.set_cons_succ]
      have A2 : Hid (Below w.heap.size w w3 ∧ PSl w3 a ln L) := Lib.hid ⟨A1.out.1.trans (hb.mono A1.out.1.size), A1.out.2.below hb⟩
      clear hb
      refine wpL_pure (.slice ka kn kc) rfl (by kernel_rfl) ?_
      simp only [Act.put, List.setIfInBounds_toArray, List.set_cons_zero, List.set_cons_succ]
      refine wpL_pure (.slice a ln lc) rfl (by kernel_rfl) ?_
      simp only [Act.put, List.setIfInBounds_toArray, List.set_cons_zero, List.set_cons_succ]
      refine wpL_call 16 #[.slice a ln lc] rfl (by kernel_rfl) (((joined_any w3 a ln lc L A2.out.2 (by have := FW.out.1; omega) (by have := FW.out.2.1; omega))).mono fun e x1 ⟨v1, he, ho, hb⟩ => ⟨v1, he, ?_⟩)
      simp only [Act.put, List.setIfInBounds_toArray, List.set_cons_zero, List.set_cons_succ]
      obtain ⟨va1, vc1, ev, vs⟩ := own_sl ho
      subst ev
      have J1 := Lib.hid vs
      have C1 : Hid (Below w.heap.size w x1 ∧ PSl x1 a ln L) := Lib.hid ⟨A2.out.1.trans (hb.mono A2.out.1.size), A2.out.2.below hb⟩
      clear hb
      clear ho vs
      refine wpL_call 17 #[.slice ka kn kc, .slice va1 L.flatten.length vc1] rfl (by kernel_rfl) (((refmac_any x1 ka kn kc ks va1 L.flatten.length vc1 L.flatten (HKS.out.below C1.out.1) (by have := HKN.out; omega) J1.out (by have := FW.out.2.1; omega) (HW.out.below C1.out.1))).mono fun e w4 ⟨he, hb⟩ => ⟨.agg (u8l (macS ks L.flatten)).toArray, he, ?_⟩)
      simp only [Act.put, List.setIfInBounds_toArray, List.set_cons_zero, List.set_cons_succ]
      have A3 : Hid (Below w.heap.size w w4 ∧ PSl w4 a ln L) := Lib.hid ⟨C1.out.1.trans (hb.mono C1.out.1.size), C1.out.2.below hb⟩
      clear hb
      refine wpL_pure (.bool true) rfl (run_eq26 _ _ _ _ _ (macS ks L.flatten) (macS_len _ _) rfl rfl rfl) ?_
      simp only [Act.put, List.setIfInBounds_toArray, List.set_cons_zero, List.set_cons_succ]
      refine wpL_pure (.bool true) rfl (by kernel_rfl) ?_
      simp only [Act.put, List.setIfInBounds_toArray, List.set_cons_zero, List.set_cons_succ]
      refine wpL_pure (.slice ka kn kc) rfl (by kernel_rfl) ?_
      simp only [Act.put, List.setIfInBounds_toArray, List.set_cons_zero, List.set_cons_succ]
      refine wpL_pure (.slice a ln lc) rfl (by kernel_rfl) ?_
      simp only [Act.put, List.setIfInBounds_toArray, List.set_cons_zero, List.set_cons_succ]
      refine wpL_call 16 #[.slice a ln lc] rfl (by kernel_rfl) (((joined_any w4 a ln lc L A3.out.2 (by have := FW.out.1; omega) (by have := FW.out.2.1; omega))).mono fun e x2 ⟨v2, he, ho, hb⟩ => ⟨v2, he, ?_⟩)
      simp only [Act.put, List.setIfInBounds_toArray, List.set_cons_zero, List.set_cons_succ]
      obtain ⟨va2, vc2, ev, vs⟩ := own_sl ho
      subst ev
      have J2 := Lib.hid vs
      have C2 : Hid (Below w.heap.size w x2 ∧ PSl x2 a ln L) := Lib.hid ⟨A3.out.1.trans (hb.mono A3.out.1.size), A3.out.2.below hb⟩
      clear hb
      clear ho vs
      refine wpL_call 18 #[.slice ka kn kc, .slice va2 L.flatten.length vc2] rfl (by kernel_rfl) (((extract_any x2 ka kn kc ks va2 L.flatten.length vc2 L.flatten (HKS.out.below C2.out.1) (by have := HKN.out; omega) J2.out (by have := FW.out.2.1; omega) (HT.out.below C2.out.1) (HH.out.below C2.out.1))).mono fun e w5 ⟨he, hb⟩ => ⟨.agg (u8l (macS ks L.flatten)).toArray, he, ?_⟩)
      simp only [Act.put, List.setIfInBounds_toArray, List.set_cons_zero, List.set_cons_succ]
      have A4 : Hid (Below w.heap.size w w5 ∧ PSl w5 a ln L) := Lib.hid ⟨C2.out.1.trans (hb.mono C2.out.1.size), C2.out.2.below hb⟩
      clear hb
      refine wpL_pure (.slice ka kn kc) rfl (by kernel_rfl) ?_
      simp only [Act.put, List.setIfInBounds_toArray, List.set_cons_zero, List.set_cons_succ]
      refine wpL_pure (.slice a ln lc) rfl (by kernel_rfl) ?_
      simp only [Act.put, List.setIfInBounds_toArray, List.set_cons_zero, List.set_cons_succ]
      refine wpL_call 16 #[.slice a ln lc] rfl (by kernel_rfl) (((joined_any w5 a ln lc L A4.out.2 (by have := FW.out.1; omega) (by have := FW.out.2.1; omega))).mono fun e x3 ⟨v3, he, ho, hb⟩ => ⟨v3, he, ?_⟩)
      simp only [Act.put, List.setIfInBounds_toArray, List.set_cons_zero, List.set_cons_succ]
      obtain ⟨va3, vc3, ev, vs⟩ := own_sl ho
      subst ev
      have J3 := Lib.hid vs
      have C3 : Hid (Below w.heap.size w x3 ∧ PSl x3 a ln L) := Lib.hid ⟨A4.out.1.trans (hb.mono A4.out.1.size), A4.out.2.below hb⟩
      clear hb
      clear ho vs
      refine wpL_call 17 #[.slice ka kn kc, .slice va3 L.flatten.length vc3] rfl (by kernel_rfl) (((refmac_any x3 ka kn kc ks va3 L.flatten.length vc3 L.flatten (HKS.out.below C3.out.1) (by have := HKN.out; omega) J3.out (by have := FW.out.2.1; omega) (HW.out.below C3.out.1))).mono fun e w6 ⟨he, hb⟩ => ⟨.agg (u8l (macS ks L.flatten)).toArray, he, ?_⟩)
      simp only [Act.put, List.setIfInBounds_toArray, List.set_cons_zero, List.set_cons_succ]
      have A5 : Hid (Below w.heap.size w w6 ∧ PSl w6 a ln L) := Lib.hid ⟨C3.out.1.trans (hb.mono C3.out.1.size), C3.out.2.below hb⟩
      clear hb
      refine wpL_pure (.bool true) rfl (run_eq26 _ _ _ _ _ (macS ks L.flatten) (macS_len _ _) rfl rfl rfl) ?_
      simp only [Act.put, List.setIfInBounds_toArray, List.set_cons_zero, List.set_cons_succ]
      refine wpL_pure (.bool true) rfl (by kernel_rfl) ?_
      simp only [Act.put, List.setIfInBounds_toArray, List.set_cons_zero, List.set_cons_succ]
      refine wpL_pure (.bool true) rfl (by kernel_rfl) ?_
      simp only [Act.put, List.setIfInBounds_toArray, List.set_cons_zero, List.set_cons_succ]
      refine wpL_pure (.bool true) rfl (by kernel_rfl) ?_
      simp only [Act.put, List.setIfInBounds_toArray, List.set_cons_zero, List.set_cons_succ]
      refine wpL_pure (.bool true) rfl (by kernel_rfl) ?_
      simp only [Act.put, List.setIfInBounds_toArray, List.set_cons_zero, List.set_cons_succ]
      go_wp2_with fail
      go_ret
      exact ⟨rfl, A5.out.1⟩
end Go.Proofs.YtggbmajajpafnaaDoor
