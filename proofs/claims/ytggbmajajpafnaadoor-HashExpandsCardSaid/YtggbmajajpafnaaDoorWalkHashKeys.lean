import Derived.Test.YtggbmajajpafnaaDoorH15
import Derived.Test.YtggbmajajpafnaaDoorWalkHashParts
namespace Go.Proofs.YtggbmajajpafnaaDoor
open Go Go.RowKit

theorem mac_key {ks : List Int} (h : 64 < ks.length) (t : List Int) : macS (shaS ks) t = macS ks t := by
  have e : keyS (shaS ks) = keyS ks := by
    unfold keyS
    rw [if_pos h, if_neg (by rw [shaS_len]; omega)]
  unfold macS padK
  rw [e]
attribute [local irreducible] wpList
set_option maxHeartbeats 8000000 in
set_option maxRecDepth 100000 in
theorem walkHashKeys (ka : Option Addr) (kn kc : Nat) (kz : List Int) (a : Option Addr) (n c : Nat) (zs : List Int) (w : World) (hk : IsRow .u8 w ka kn kc kz) (h : IsRow .u8 w a n c zs) (tabs : TabK w ∧ TabH w ∧ TabW w) :
    Calls Tryd.prog 3 #[.slice ka kn kc, .slice a n c] w fun e w' => e = .returned (.bool true) ∧ Below w.heap.size w w' := by
  obtain ⟨bs, hbs⟩ : ∃ q, zs.take n = q := ⟨_, rfl⟩
  obtain ⟨ks, hks⟩ : ∃ q, kz.take kn = q := ⟨_, rfl⟩
  have hs := sl_of h
  have hs' := sl_of hk
  rw [hbs] at hs
  rw [hks] at hs'
  have HS := Lib.hid hs
  have HKS := Lib.hid hs'
  have HT := Lib.hid tabs.1
  have HH := Lib.hid tabs.2.1
  have HW := Lib.hid tabs.2.2
  clear hbs hks hs hs' h hk tabs
  go_enter Tryd.func3, Tryd.ntmps3
  go_upto_region 0 with (fail)
  refine wp_region_lit ?_
  refine wpL_pure (.bool false) rfl (by kernel_rfl) ?_
  simp only [Act.put, List.setIfInBounds_toArray, List.set_cons_zero, List.set_cons_succ]
  go_upto_region 1 with (fail)
  refine wp_region_lit ?_
  refine wpL_call 10 #[] rfl (by kernel_rfl) (((awake_any w HT.out HH.out)).mono fun e w1 ⟨he, hb⟩ => ⟨.bool true, he, ?_⟩)
  simp only [Act.put, List.setIfInBounds_toArray, List.set_cons_zero, List.set_cons_succ]
  have B1 := Lib.hid hb
  clear hb
  refine wpL_pure (.bool false) rfl (by kernel_rfl) ?_
  simp only [Act.put, List.setIfInBounds_toArray, List.set_cons_zero, List.set_cons_succ]
  refine wpL_pure (.bool false) rfl (by kernel_rfl) ?_
  simp only [Act.put, List.setIfInBounds_toArray, List.set_cons_zero, List.set_cons_succ]
  refine wpL_pure (.slice ka kn kc) rfl (by kernel_rfl) ?_
  simp only [Act.put, List.setIfInBounds_toArray, List.set_cons_zero, List.set_cons_succ]
  refine wpL_pure (.int .i64 (kn : Int)) rfl (by kernel_rfl) ?_
  simp only [Act.put, List.setIfInBounds_toArray, List.set_cons_zero, List.set_cons_succ]
  by_cases ha : kn ≤ 64
  · have HA := Lib.hid ha
    clear ha
    refine wpL_pure (.bool true) rfl (run_lei Tryd.underlying3 rfl rfl rfl (by have := HA.out; rw [decide_eq_true_eq]; omega)) ?_
    simp only [Act.put, List.setIfInBounds_toArray, List.set_cons_zero, List.set_cons_succ]
    refine wpL_pure (.bool true) rfl (by kernel_rfl) ?_
    simp only [Act.put, List.setIfInBounds_toArray, List.set_cons_zero, List.set_cons_succ]
    refine wpL_pure (.bool true) rfl (by kernel_rfl) ?_
    simp only [Act.put, List.setIfInBounds_toArray, List.set_cons_zero, List.set_cons_succ]
    refine wpL_skip (by kernel_rfl) ?_
    simp only [Act.put, List.setIfInBounds_toArray, List.set_cons_zero, List.set_cons_succ]
    refine wpL_skip (by kernel_rfl) ?_
    simp only [Act.put, List.setIfInBounds_toArray, List.set_cons_zero, List.set_cons_succ]
    refine wpL_skip (by kernel_rfl) ?_
    simp only [Act.put, List.setIfInBounds_toArray, List.set_cons_zero, List.set_cons_succ]
    refine wpL_pure (.bool true) rfl (by kernel_rfl) ?_
    simp only [Act.put, List.setIfInBounds_toArray, List.set_cons_zero, List.set_cons_succ]
    refine wpL_pure (.bool true) rfl (by kernel_rfl) ?_
    simp only [Act.put, List.setIfInBounds_toArray, List.set_cons_zero, List.set_cons_succ]
    refine wpL_skip (by kernel_rfl) ?_
    simp only [Act.put, List.setIfInBounds_toArray, List.set_cons_zero, List.set_cons_succ]
    refine wpL_skip (by kernel_rfl) ?_
    simp only [Act.put, List.setIfInBounds_toArray, List.set_cons_zero, List.set_cons_succ]
    refine wpL_skip (by kernel_rfl) ?_
    simp only [Act.put, List.setIfInBounds_toArray, List.set_cons_zero, List.set_cons_succ]
    refine wpL_pure (.bool true) rfl (by kernel_rfl) ?_
    simp only [Act.put, List.setIfInBounds_toArray, List.set_cons_zero, List.set_cons_succ]
    go_upto_region 2 with (fail)
    refine wp_region_lit ?_
    refine wpL_call 10 #[] rfl (by kernel_rfl) (((awake_any w1 (HT.out.below B1.out) (HH.out.below B1.out))).mono fun e w2 ⟨he, hb⟩ => ⟨.bool true, he, ?_⟩)
    simp only [Act.put, List.setIfInBounds_toArray, List.set_cons_zero, List.set_cons_succ]
    have B2 := Lib.hid (B1.out.trans (hb.mono B1.out.size))
    clear hb
    refine wpL_pure (.bool true) rfl (by kernel_rfl) ?_
    simp only [Act.put, List.setIfInBounds_toArray, List.set_cons_zero, List.set_cons_succ]
    go_wp2_with fail
    go_ret
    exact ⟨rfl, B2.out⟩
  · have HA := Lib.hid ha
    clear ha
    refine wpL_pure (.bool false) rfl (run_lei Tryd.underlying3 rfl rfl rfl (by have := HA.out; rw [decide_eq_false_iff_not]; omega)) ?_
    simp only [Act.put, List.setIfInBounds_toArray, List.set_cons_zero, List.set_cons_succ]
    refine wpL_pure (.bool false) rfl (by kernel_rfl) ?_
    simp only [Act.put, List.setIfInBounds_toArray, List.set_cons_zero, List.set_cons_succ]
    refine wpL_pure (.bool false) rfl (by kernel_rfl) ?_
    simp only [Act.put, List.setIfInBounds_toArray, List.set_cons_zero, List.set_cons_succ]
    refine wpL_pure (.slice ka kn kc) rfl (by kernel_rfl) ?_
    simp only [Act.put, List.setIfInBounds_toArray, List.set_cons_zero, List.set_cons_succ]
    refine wpL_pure (.int .i64 (kn : Int)) rfl (by kernel_rfl) ?_
    simp only [Act.put, List.setIfInBounds_toArray, List.set_cons_zero, List.set_cons_succ]
    by_cases hbk : kn ≤ 500
    · have HBK := Lib.hid hbk
      clear hbk
      refine wpL_pure (.bool false) rfl (run_gti Tryd.underlying3 rfl rfl rfl (by have := HBK.out; rw [decide_eq_false_iff_not]; omega)) ?_
      simp only [Act.put, List.setIfInBounds_toArray, List.set_cons_zero, List.set_cons_succ]
      refine wpL_pure (.bool false) rfl (by kernel_rfl) ?_
      simp only [Act.put, List.setIfInBounds_toArray, List.set_cons_zero, List.set_cons_succ]
      refine wpL_pure (.bool false) rfl (by kernel_rfl) ?_
      simp only [Act.put, List.setIfInBounds_toArray, List.set_cons_zero, List.set_cons_succ]
      refine wpL_pure (.slice a n c) rfl (by kernel_rfl) ?_
      simp only [Act.put, List.setIfInBounds_toArray, List.set_cons_zero, List.set_cons_succ]
      refine wpL_pure (.int .i64 (n : Int)) rfl (by kernel_rfl) ?_
      simp only [Act.put, List.setIfInBounds_toArray, List.set_cons_zero, List.set_cons_succ]
      by_cases hcn : n ≤ 500
      · have HCN := Lib.hid hcn
        clear hcn
        refine wpL_pure (.bool false) rfl (run_gti Tryd.underlying3 rfl rfl rfl (by have := HCN.out; rw [decide_eq_false_iff_not]; omega)) ?_
        simp only [Act.put, List.setIfInBounds_toArray, List.set_cons_zero, List.set_cons_succ]
        refine wpL_pure (.bool false) rfl (by kernel_rfl) ?_
        simp only [Act.put, List.setIfInBounds_toArray, List.set_cons_zero, List.set_cons_succ]
        go_upto_region 3 with (fail)
        refine wp_region_lit ?_
        refine wpL_pure (.slice ka kn kc) rfl (by kernel_rfl) ?_
        simp only [Act.put, List.setIfInBounds_toArray, List.set_cons_zero, List.set_cons_succ]
        refine wpL_call 11 #[.slice ka kn kc] rfl (by kernel_rfl) (((refsum_any w1 ka kn kc ks (HKS.out.below B1.out) (by have := HBK.out; omega) (HW.out.below B1.out))).mono fun e w2 ⟨he, hb⟩ => ⟨.agg (u8l (shaS ks)).toArray, he, ?_⟩)
        simp only [Act.put, List.setIfInBounds_toArray, List.set_cons_zero, List.set_cons_succ]
        obtain ⟨w3, hw3⟩ : ∃ V, V = (w2.alloc (.cells (u8l (List.replicate 32 0)).toArray 24)).setRow w2.heap.size (u8l (shaS ks)).toArray := ⟨_, rfl⟩
        have B3 : Hid (Below w.heap.size w w3.drew ∧ Blk w3.drew w2.heap.size 24 (u8l (shaS ks)).toArray) := Lib.hid (qq (show Below w2.heap.size w2 w3 by rw [hw3]; exact below_setRow ((Below.refl _ _).alloc (Nat.le_refl _) _) (Nat.le_refl _) _) fun q => qq (show Below w1.heap.size w1 w3 from hb.trans (q.mono hb.size)) fun q2 => ⟨(B1.out.trans (q2.mono B1.out.size)).drew, by rw [hw3]; exact setRow_heap _ _ _ _ _ _ (Blk.new w2 24 _)⟩)
        refine wpL_value (.pointer (some ⟨w2.heap.size, 0, none⟩)) (w2.alloc (.cells (u8l (List.replicate 32 0)).toArray 24)) rfl (by kernel_rfl) ?_
        simp only [Act.put, List.setIfInBounds_toArray, List.set_cons_zero, List.set_cons_succ]
        refine wpList_store_rowTo rfl 24 _ _ rfl rfl w2.heap.size (u8l (shaS ks)).toArray rfl rfl 24 _ (Blk.new w2 24 _) (by simp only [List.size_toArray, u8l_len, shaS_len]; kernel_rfl) (by simp [u8l_len, shaS_len]) (u8l_one _) ?_
        rw [← hw3]
        clear hw3 hb
        generalize w2.heap.size = g5 at B3 ⊢
        go_upto_region 4 with (fail)
        refine region_any (by kernel_rfl) 10 rfl ?_
        refine wpAny_take (i := 0) (oi := ⟨some 26, _, _, _, _, _⟩) (v := (.slice ka kn kc)) rfl (by kernel_rfl) (by kernel_rfl) (by kernel_rfl) (fun _ _ _ h => h) (Or.inl ⟨rfl, fun w => by kernel_rfl⟩) ?_
        simp only [Act.put, List.setIfInBounds_toArray, List.set_cons_zero, List.set_cons_succ]
        refine wpAny_take (i := 1) (oi := ⟨some 27, _, _, _, _, _⟩) (v := (.slice a n c)) rfl (by kernel_rfl) (by kernel_rfl) (by kernel_rfl) (fun _ _ _ h => h) (Or.inl ⟨rfl, fun w => by kernel_rfl⟩) ?_
        simp only [Act.put, List.setIfInBounds_toArray, List.set_cons_zero, List.set_cons_succ]
        refine wpAny_take (i := 4) (oi := ⟨some 30, _, _, _, _, _⟩) (v := (.slice (some ⟨g5, 0, none⟩) 32 32)) rfl (by kernel_rfl) (by kernel_rfl) (by kernel_rfl) (fun _ _ _ h => h) (Or.inl ⟨rfl, fun w => by kernel_rfl⟩) ?_
        simp only [Act.put, List.setIfInBounds_toArray, List.set_cons_zero, List.set_cons_succ]
        refine wpAny_take (i := 5) (oi := ⟨some 31, _, _, _, _, _⟩) (v := (.slice a n c)) rfl (by kernel_rfl) (by kernel_rfl) (by kernel_rfl) (fun _ _ _ h => h) (Or.inl ⟨rfl, fun w => by kernel_rfl⟩) ?_
        simp only [Act.put, List.setIfInBounds_toArray, List.set_cons_zero, List.set_cons_succ]
        refine wpAny_all (rs := [2, 6]) (by kernel_rfl) (by simp) ?_
        intro i hi
        simp only [List.mem_cons, List.not_mem_nil, or_false] at hi
        rcases hi with rfl | rfl
        · obtain ⟨z1, hz1⟩ : ∃ V, V = w3.drew.alloc (.cells #[.slice a n c] 22) := ⟨_, rfl⟩
          obtain ⟨gz1, kz1⟩ : ∃ q, w3.drew.heap.size = q := ⟨_, rfl⟩
          have qz1 : Below w3.drew.heap.size w3.drew z1 := by rw [hz1]; exact (Below.refl _ _).alloc (Nat.le_refl _) _
          have bz1 : Blk z1 gz1 22 #[.slice a n c] := by rw [hz1, ← kz1]; exact Blk.new _ _ _
          have Fz10 := Lib.hid (show Below w.heap.size w z1 ∧ Blk z1 g5 24 (u8l (shaS ks)).toArray from ⟨B3.out.1.trans (qz1.mono B3.out.1.size), B3.out.2.below qz1⟩)
          have Fz1 := Lib.hid (show Below w.heap.size w z1 ∧ Blk z1 g5 24 (u8l (shaS ks)).toArray ∧ PSl z1 (some ⟨gz1, 0, none⟩) 1 [bs] from ⟨Fz10.out.1, Fz10.out.2, psl_one bz1 (HS.out.below Fz10.out.1) (by have := HCN.out; omega)⟩)
          clear qz1 bz1 Fz10
          refine op_valw (o := ⟨some 28, _, _, _, _, _⟩) (.slice (some ⟨gz1, 0, none⟩) 1 1) z1 rfl rfl (by rw [hz1, ← kz1]; kernel_rfl) ?_
          simp only [Act.put, List.setIfInBounds_toArray, List.set_cons_zero, List.set_cons_succ]
          clear hz1 kz1
          refine wpAny_all (rs := [3, 6]) (by kernel_rfl) (by simp) ?_
          intro i hi
          simp only [List.mem_cons, List.not_mem_nil, or_false] at hi
          rcases hi with rfl | rfl
          · refine op_call (o := ⟨some 29, _, _, _, _, _⟩) 12 #[.slice ka kn kc, .slice (some ⟨gz1, 0, none⟩) 1 1] rfl rfl (by kernel_rfl) (((mac_any z1 ka kn kc ks (some ⟨gz1, 0, none⟩) 1 1 [bs] (HKS.out.below Fz1.out.1) (by have := HBK.out; omega) Fz1.out.2.2 (by omega) (HT.out.below Fz1.out.1) (HH.out.below Fz1.out.1))).mono fun e z2 ⟨he, qz2⟩ => ⟨.agg (u8l (macS ks bs)).toArray, (he.trans (by simp)), ?_⟩)
            simp only [Act.put, List.setIfInBounds_toArray, List.set_cons_zero, List.set_cons_succ]
            have Fz2 := Lib.hid (show Below w.heap.size w z2 ∧ Blk z2 g5 24 (u8l (shaS ks)).toArray ∧ PSl z2 (some ⟨gz1, 0, none⟩) 1 [bs] from ⟨Fz1.out.1.trans (qz2.mono Fz1.out.1.size), Fz1.out.2.1.below qz2, Fz1.out.2.2.below qz2⟩)
            clear qz2
            refine wpAny_all (rs := [6]) (by kernel_rfl) (by simp) ?_
            intro i hi
            simp only [List.mem_cons, List.not_mem_nil, or_false] at hi
            subst hi
            obtain ⟨z3, hz3⟩ : ∃ V, V = z2.alloc (.cells #[.slice a n c] 22) := ⟨_, rfl⟩
            obtain ⟨gz3, kz3⟩ : ∃ q, z2.heap.size = q := ⟨_, rfl⟩
            have qz3 : Below z2.heap.size z2 z3 := by rw [hz3]; exact (Below.refl _ _).alloc (Nat.le_refl _) _
            have bz3 : Blk z3 gz3 22 #[.slice a n c] := by rw [hz3, ← kz3]; exact Blk.new _ _ _
            have Fz30 := Lib.hid (show Below w.heap.size w z3 ∧ Blk z3 g5 24 (u8l (shaS ks)).toArray ∧ PSl z3 (some ⟨gz1, 0, none⟩) 1 [bs] from ⟨Fz2.out.1.trans (qz3.mono Fz2.out.1.size), Fz2.out.2.1.below qz3, Fz2.out.2.2.below qz3⟩)
            have Fz3 := Lib.hid (show Below w.heap.size w z3 ∧ Blk z3 g5 24 (u8l (shaS ks)).toArray ∧ PSl z3 (some ⟨gz1, 0, none⟩) 1 [bs] ∧ PSl z3 (some ⟨gz3, 0, none⟩) 1 [bs] from ⟨Fz30.out.1, Fz30.out.2.1, Fz30.out.2.2, psl_one bz3 (HS.out.below Fz30.out.1) (by have := HCN.out; omega)⟩)
            clear qz3 bz3 Fz30
            refine op_valw (o := ⟨some 32, _, _, _, _, _⟩) (.slice (some ⟨gz3, 0, none⟩) 1 1) z3 rfl rfl (by rw [hz3, ← kz3]; kernel_rfl) ?_
            simp only [Act.put, List.setIfInBounds_toArray, List.set_cons_zero, List.set_cons_succ]
            clear hz3 kz3
            refine wpAny_all (rs := [7]) (by kernel_rfl) (by simp) ?_
            intro i hi
            simp only [List.mem_cons, List.not_mem_nil, or_false] at hi
            subst hi
            refine op_call (o := ⟨some 33, _, _, _, _, _⟩) 12 #[.slice (some ⟨g5, 0, none⟩) 32 32, .slice (some ⟨gz3, 0, none⟩) 1 1] rfl rfl (by kernel_rfl) (((mac_any z3 (some ⟨g5, 0, none⟩) 32 32 (shaS ks) (some ⟨gz3, 0, none⟩) 1 1 [bs] (sl_blk Fz3.out.2.1 (shaS_len _) (shaS_byte _) (by omega)) (by have := HBK.out; omega) Fz3.out.2.2.2 (by omega) (HT.out.below Fz3.out.1) (HH.out.below Fz3.out.1))).mono fun e z4 ⟨he, qz4⟩ => ⟨.agg (u8l (macS ks bs)).toArray, (he.trans (by rw [mac_key (by have := HA.out; have := HKS.out.1.1; omega)]; simp)), ?_⟩)
            simp only [Act.put, List.setIfInBounds_toArray, List.set_cons_zero, List.set_cons_succ]
            have Fz4 := Lib.hid (show Below w.heap.size w z4 ∧ Blk z4 g5 24 (u8l (shaS ks)).toArray ∧ PSl z4 (some ⟨gz1, 0, none⟩) 1 [bs] ∧ PSl z4 (some ⟨gz3, 0, none⟩) 1 [bs] from ⟨Fz3.out.1.trans (qz4.mono Fz3.out.1.size), Fz3.out.2.1.below qz4, Fz3.out.2.2.1.below qz4, Fz3.out.2.2.2.below qz4⟩)
            clear qz4
            refine wpAny_take (i := 8) (oi := ⟨some 34, _, _, _, _, _⟩) (v := (.bool true)) rfl (by kernel_rfl) (by kernel_rfl) (by kernel_rfl) (fun _ _ _ h => h) (Or.inl ⟨rfl, fun w => run_eq26 _ _ _ _ _ (macS ks bs) (macS_len _ _) rfl rfl rfl⟩) ?_
            simp only [Act.put, List.setIfInBounds_toArray, List.set_cons_zero, List.set_cons_succ]
            refine wpAny_take (i := 9) (oi := ⟨some 4, _, _, _, _, _⟩) (v := (.bool true)) rfl (by kernel_rfl) (by kernel_rfl) (by kernel_rfl) (fun _ _ _ h => h) (Or.inl ⟨rfl, fun w => by kernel_rfl⟩) ?_
            simp only [Act.put, List.setIfInBounds_toArray, List.set_cons_zero, List.set_cons_succ]
            refine wpAny_done (by kernel_rfl) ?_ _
            go_wp2_with fail
            go_ret
            exact ⟨rfl, Fz4.out.1⟩
          · obtain ⟨z5, hz5⟩ : ∃ V, V = z1.alloc (.cells #[.slice a n c] 22) := ⟨_, rfl⟩
            obtain ⟨gz5, kz5⟩ : ∃ q, z1.heap.size = q := ⟨_, rfl⟩
            have qz5 : Below z1.heap.size z1 z5 := by rw [hz5]; exact (Below.refl _ _).alloc (Nat.le_refl _) _
            have bz5 : Blk z5 gz5 22 #[.slice a n c] := by rw [hz5, ← kz5]; exact Blk.new _ _ _
            have Fz50 := Lib.hid (show Below w.heap.size w z5 ∧ Blk z5 g5 24 (u8l (shaS ks)).toArray ∧ PSl z5 (some ⟨gz1, 0, none⟩) 1 [bs] from ⟨Fz1.out.1.trans (qz5.mono Fz1.out.1.size), Fz1.out.2.1.below qz5, Fz1.out.2.2.below qz5⟩)
            have Fz5 := Lib.hid (show Below w.heap.size w z5 ∧ Blk z5 g5 24 (u8l (shaS ks)).toArray ∧ PSl z5 (some ⟨gz1, 0, none⟩) 1 [bs] ∧ PSl z5 (some ⟨gz5, 0, none⟩) 1 [bs] from ⟨Fz50.out.1, Fz50.out.2.1, Fz50.out.2.2, psl_one bz5 (HS.out.below Fz50.out.1) (by have := HCN.out; omega)⟩)
            clear qz5 bz5 Fz50
            refine op_valw (o := ⟨some 32, _, _, _, _, _⟩) (.slice (some ⟨gz5, 0, none⟩) 1 1) z5 rfl rfl (by rw [hz5, ← kz5]; kernel_rfl) ?_
            simp only [Act.put, List.setIfInBounds_toArray, List.set_cons_zero, List.set_cons_succ]
            clear hz5 kz5
            refine wpAny_all (rs := [3]) (by kernel_rfl) (by simp) ?_
            intro i hi
            simp only [List.mem_cons, List.not_mem_nil, or_false] at hi
            subst hi
            refine op_call (o := ⟨some 29, _, _, _, _, _⟩) 12 #[.slice ka kn kc, .slice (some ⟨gz1, 0, none⟩) 1 1] rfl rfl (by kernel_rfl) (((mac_any z5 ka kn kc ks (some ⟨gz1, 0, none⟩) 1 1 [bs] (HKS.out.below Fz5.out.1) (by have := HBK.out; omega) Fz5.out.2.2.1 (by omega) (HT.out.below Fz5.out.1) (HH.out.below Fz5.out.1))).mono fun e z6 ⟨he, qz6⟩ => ⟨.agg (u8l (macS ks bs)).toArray, (he.trans (by simp)), ?_⟩)
            simp only [Act.put, List.setIfInBounds_toArray, List.set_cons_zero, List.set_cons_succ]
            have Fz6 := Lib.hid (show Below w.heap.size w z6 ∧ Blk z6 g5 24 (u8l (shaS ks)).toArray ∧ PSl z6 (some ⟨gz1, 0, none⟩) 1 [bs] ∧ PSl z6 (some ⟨gz5, 0, none⟩) 1 [bs] from ⟨Fz5.out.1.trans (qz6.mono Fz5.out.1.size), Fz5.out.2.1.below qz6, Fz5.out.2.2.1.below qz6, Fz5.out.2.2.2.below qz6⟩)
            clear qz6
            refine wpAny_all (rs := [7]) (by kernel_rfl) (by simp) ?_
            intro i hi
            simp only [List.mem_cons, List.not_mem_nil, or_false] at hi
            subst hi
            refine op_call (o := ⟨some 33, _, _, _, _, _⟩) 12 #[.slice (some ⟨g5, 0, none⟩) 32 32, .slice (some ⟨gz5, 0, none⟩) 1 1] rfl rfl (by kernel_rfl) (((mac_any z6 (some ⟨g5, 0, none⟩) 32 32 (shaS ks) (some ⟨gz5, 0, none⟩) 1 1 [bs] (sl_blk Fz6.out.2.1 (shaS_len _) (shaS_byte _) (by omega)) (by have := HBK.out; omega) Fz6.out.2.2.2 (by omega) (HT.out.below Fz6.out.1) (HH.out.below Fz6.out.1))).mono fun e z7 ⟨he, qz7⟩ => ⟨.agg (u8l (macS ks bs)).toArray, (he.trans (by rw [mac_key (by have := HA.out; have := HKS.out.1.1; omega)]; simp)), ?_⟩)
            simp only [Act.put, List.setIfInBounds_toArray, List.set_cons_zero, List.set_cons_succ]
            have Fz7 := Lib.hid (show Below w.heap.size w z7 ∧ Blk z7 g5 24 (u8l (shaS ks)).toArray ∧ PSl z7 (some ⟨gz1, 0, none⟩) 1 [bs] ∧ PSl z7 (some ⟨gz5, 0, none⟩) 1 [bs] from ⟨Fz6.out.1.trans (qz7.mono Fz6.out.1.size), Fz6.out.2.1.below qz7, Fz6.out.2.2.1.below qz7, Fz6.out.2.2.2.below qz7⟩)
            clear qz7
            refine wpAny_take (i := 8) (oi := ⟨some 34, _, _, _, _, _⟩) (v := (.bool true)) rfl (by kernel_rfl) (by kernel_rfl) (by kernel_rfl) (fun _ _ _ h => h) (Or.inl ⟨rfl, fun w => run_eq26 _ _ _ _ _ (macS ks bs) (macS_len _ _) rfl rfl rfl⟩) ?_
            simp only [Act.put, List.setIfInBounds_toArray, List.set_cons_zero, List.set_cons_succ]
            refine wpAny_take (i := 9) (oi := ⟨some 4, _, _, _, _, _⟩) (v := (.bool true)) rfl (by kernel_rfl) (by kernel_rfl) (by kernel_rfl) (fun _ _ _ h => h) (Or.inl ⟨rfl, fun w => by kernel_rfl⟩) ?_
            simp only [Act.put, List.setIfInBounds_toArray, List.set_cons_zero, List.set_cons_succ]
            refine wpAny_done (by kernel_rfl) ?_ _
            go_wp2_with fail
            go_ret
            exact ⟨rfl, Fz7.out.1⟩
        · obtain ⟨z8, hz8⟩ : ∃ V, V = w3.drew.alloc (.cells #[.slice a n c] 22) := ⟨_, rfl⟩
          obtain ⟨gz8, kz8⟩ : ∃ q, w3.drew.heap.size = q := ⟨_, rfl⟩
          have qz8 : Below w3.drew.heap.size w3.drew z8 := by rw [hz8]; exact (Below.refl _ _).alloc (Nat.le_refl _) _
          have bz8 : Blk z8 gz8 22 #[.slice a n c] := by rw [hz8, ← kz8]; exact Blk.new _ _ _
          have Fz80 := Lib.hid (show Below w.heap.size w z8 ∧ Blk z8 g5 24 (u8l (shaS ks)).toArray from ⟨B3.out.1.trans (qz8.mono B3.out.1.size), B3.out.2.below qz8⟩)
          have Fz8 := Lib.hid (show Below w.heap.size w z8 ∧ Blk z8 g5 24 (u8l (shaS ks)).toArray ∧ PSl z8 (some ⟨gz8, 0, none⟩) 1 [bs] from ⟨Fz80.out.1, Fz80.out.2, psl_one bz8 (HS.out.below Fz80.out.1) (by have := HCN.out; omega)⟩)
          clear qz8 bz8 Fz80
          refine op_valw (o := ⟨some 32, _, _, _, _, _⟩) (.slice (some ⟨gz8, 0, none⟩) 1 1) z8 rfl rfl (by rw [hz8, ← kz8]; kernel_rfl) ?_
          simp only [Act.put, List.setIfInBounds_toArray, List.set_cons_zero, List.set_cons_succ]
          clear hz8 kz8
          refine wpAny_all (rs := [2]) (by kernel_rfl) (by simp) ?_
          intro i hi
          simp only [List.mem_cons, List.not_mem_nil, or_false] at hi
          subst hi
          obtain ⟨z9, hz9⟩ : ∃ V, V = z8.alloc (.cells #[.slice a n c] 22) := ⟨_, rfl⟩
          obtain ⟨gz9, kz9⟩ : ∃ q, z8.heap.size = q := ⟨_, rfl⟩
          have qz9 : Below z8.heap.size z8 z9 := by rw [hz9]; exact (Below.refl _ _).alloc (Nat.le_refl _) _
          have bz9 : Blk z9 gz9 22 #[.slice a n c] := by rw [hz9, ← kz9]; exact Blk.new _ _ _
          have Fz90 := Lib.hid (show Below w.heap.size w z9 ∧ Blk z9 g5 24 (u8l (shaS ks)).toArray ∧ PSl z9 (some ⟨gz8, 0, none⟩) 1 [bs] from ⟨Fz8.out.1.trans (qz9.mono Fz8.out.1.size), Fz8.out.2.1.below qz9, Fz8.out.2.2.below qz9⟩)
          have Fz9 := Lib.hid (show Below w.heap.size w z9 ∧ Blk z9 g5 24 (u8l (shaS ks)).toArray ∧ PSl z9 (some ⟨gz8, 0, none⟩) 1 [bs] ∧ PSl z9 (some ⟨gz9, 0, none⟩) 1 [bs] from ⟨Fz90.out.1, Fz90.out.2.1, Fz90.out.2.2, psl_one bz9 (HS.out.below Fz90.out.1) (by have := HCN.out; omega)⟩)
          clear qz9 bz9 Fz90
          refine op_valw (o := ⟨some 28, _, _, _, _, _⟩) (.slice (some ⟨gz9, 0, none⟩) 1 1) z9 rfl rfl (by rw [hz9, ← kz9]; kernel_rfl) ?_
          simp only [Act.put, List.setIfInBounds_toArray, List.set_cons_zero, List.set_cons_succ]
          clear hz9 kz9
          refine wpAny_all (rs := [3]) (by kernel_rfl) (by simp) ?_
          intro i hi
          simp only [List.mem_cons, List.not_mem_nil, or_false] at hi
          subst hi
          refine op_call (o := ⟨some 29, _, _, _, _, _⟩) 12 #[.slice ka kn kc, .slice (some ⟨gz9, 0, none⟩) 1 1] rfl rfl (by kernel_rfl) (((mac_any z9 ka kn kc ks (some ⟨gz9, 0, none⟩) 1 1 [bs] (HKS.out.below Fz9.out.1) (by have := HBK.out; omega) Fz9.out.2.2.2 (by omega) (HT.out.below Fz9.out.1) (HH.out.below Fz9.out.1))).mono fun e z10 ⟨he, qz10⟩ => ⟨.agg (u8l (macS ks bs)).toArray, (he.trans (by simp)), ?_⟩)
          simp only [Act.put, List.setIfInBounds_toArray, List.set_cons_zero, List.set_cons_succ]
          have Fz10 := Lib.hid (show Below w.heap.size w z10 ∧ Blk z10 g5 24 (u8l (shaS ks)).toArray ∧ PSl z10 (some ⟨gz8, 0, none⟩) 1 [bs] ∧ PSl z10 (some ⟨gz9, 0, none⟩) 1 [bs] from ⟨Fz9.out.1.trans (qz10.mono Fz9.out.1.size), Fz9.out.2.1.below qz10, Fz9.out.2.2.1.below qz10, Fz9.out.2.2.2.below qz10⟩)
          clear qz10
          refine wpAny_all (rs := [7]) (by kernel_rfl) (by simp) ?_
          intro i hi
          simp only [List.mem_cons, List.not_mem_nil, or_false] at hi
          subst hi
          refine op_call (o := ⟨some 33, _, _, _, _, _⟩) 12 #[.slice (some ⟨g5, 0, none⟩) 32 32, .slice (some ⟨gz8, 0, none⟩) 1 1] rfl rfl (by kernel_rfl) (((mac_any z10 (some ⟨g5, 0, none⟩) 32 32 (shaS ks) (some ⟨gz8, 0, none⟩) 1 1 [bs] (sl_blk Fz10.out.2.1 (shaS_len _) (shaS_byte _) (by omega)) (by have := HBK.out; omega) Fz10.out.2.2.1 (by omega) (HT.out.below Fz10.out.1) (HH.out.below Fz10.out.1))).mono fun e z11 ⟨he, qz11⟩ => ⟨.agg (u8l (macS ks bs)).toArray, (he.trans (by rw [mac_key (by have := HA.out; have := HKS.out.1.1; omega)]; simp)), ?_⟩)
          simp only [Act.put, List.setIfInBounds_toArray, List.set_cons_zero, List.set_cons_succ]
          have Fz11 := Lib.hid (show Below w.heap.size w z11 ∧ Blk z11 g5 24 (u8l (shaS ks)).toArray ∧ PSl z11 (some ⟨gz8, 0, none⟩) 1 [bs] ∧ PSl z11 (some ⟨gz9, 0, none⟩) 1 [bs] from ⟨Fz10.out.1.trans (qz11.mono Fz10.out.1.size), Fz10.out.2.1.below qz11, Fz10.out.2.2.1.below qz11, Fz10.out.2.2.2.below qz11⟩)
          clear qz11
          refine wpAny_take (i := 8) (oi := ⟨some 34, _, _, _, _, _⟩) (v := (.bool true)) rfl (by kernel_rfl) (by kernel_rfl) (by kernel_rfl) (fun _ _ _ h => h) (Or.inl ⟨rfl, fun w => run_eq26 _ _ _ _ _ (macS ks bs) (macS_len _ _) rfl rfl rfl⟩) ?_
          simp only [Act.put, List.setIfInBounds_toArray, List.set_cons_zero, List.set_cons_succ]
          refine wpAny_take (i := 9) (oi := ⟨some 4, _, _, _, _, _⟩) (v := (.bool true)) rfl (by kernel_rfl) (by kernel_rfl) (by kernel_rfl) (fun _ _ _ h => h) (Or.inl ⟨rfl, fun w => by kernel_rfl⟩) ?_
          simp only [Act.put, List.setIfInBounds_toArray, List.set_cons_zero, List.set_cons_succ]
          refine wpAny_done (by kernel_rfl) ?_ _
          go_wp2_with fail
          go_ret
          exact ⟨rfl, Fz11.out.1⟩
      · have HCN := Lib.hid hcn
        clear hcn
        refine wpL_pure (.bool true) rfl (run_gti Tryd.underlying3 rfl rfl rfl (by have := HCN.out; rw [decide_eq_true_eq]; omega)) ?_
        simp only [Act.put, List.setIfInBounds_toArray, List.set_cons_zero, List.set_cons_succ]
        refine wpL_pure (.bool true) rfl (by kernel_rfl) ?_
        simp only [Act.put, List.setIfInBounds_toArray, List.set_cons_zero, List.set_cons_succ]
        go_upto_region 2 with (fail)
        refine wp_region_lit ?_
        refine wpL_call 10 #[] rfl (by kernel_rfl) (((awake_any w1 (HT.out.below B1.out) (HH.out.below B1.out))).mono fun e w2 ⟨he, hb⟩ => ⟨.bool true, he, ?_⟩)
        simp only [Act.put, List.setIfInBounds_toArray, List.set_cons_zero, List.set_cons_succ]
        have B2 := Lib.hid (B1.out.trans (hb.mono B1.out.size))
        clear hb
        refine wpL_pure (.bool true) rfl (by kernel_rfl) ?_
        simp only [Act.put, List.setIfInBounds_toArray, List.set_cons_zero, List.set_cons_succ]
        go_wp2_with fail
        go_ret
        exact ⟨rfl, B2.out⟩
    · have HBK := Lib.hid hbk
      clear hbk
      refine wpL_pure (.bool true) rfl (run_gti Tryd.underlying3 rfl rfl rfl (by have := HBK.out; rw [decide_eq_true_eq]; omega)) ?_
      simp only [Act.put, List.setIfInBounds_toArray, List.set_cons_zero, List.set_cons_succ]
      refine wpL_pure (.bool true) rfl (by kernel_rfl) ?_
      simp only [Act.put, List.setIfInBounds_toArray, List.set_cons_zero, List.set_cons_succ]
      refine wpL_pure (.bool true) rfl (by kernel_rfl) ?_
      simp only [Act.put, List.setIfInBounds_toArray, List.set_cons_zero, List.set_cons_succ]
      refine wpL_skip (by kernel_rfl) ?_
      simp only [Act.put, List.setIfInBounds_toArray, List.set_cons_zero, List.set_cons_succ]
      refine wpL_skip (by kernel_rfl) ?_
      simp only [Act.put, List.setIfInBounds_toArray, List.set_cons_zero, List.set_cons_succ]
      refine wpL_skip (by kernel_rfl) ?_
      simp only [Act.put, List.setIfInBounds_toArray, List.set_cons_zero, List.set_cons_succ]
      refine wpL_pure (.bool true) rfl (by kernel_rfl) ?_
      simp only [Act.put, List.setIfInBounds_toArray, List.set_cons_zero, List.set_cons_succ]
      go_upto_region 2 with (fail)
      refine wp_region_lit ?_
      refine wpL_call 10 #[] rfl (by kernel_rfl) (((awake_any w1 (HT.out.below B1.out) (HH.out.below B1.out))).mono fun e w2 ⟨he, hb⟩ => ⟨.bool true, he, ?_⟩)
      simp only [Act.put, List.setIfInBounds_toArray, List.set_cons_zero, List.set_cons_succ]
      have B2 := Lib.hid (B1.out.trans (hb.mono B1.out.size))
      clear hb
      refine wpL_pure (.bool true) rfl (by kernel_rfl) ?_
      simp only [Act.put, List.setIfInBounds_toArray, List.set_cons_zero, List.set_cons_succ]
      go_wp2_with fail
      go_ret
      exact ⟨rfl, B2.out⟩
end Go.Proofs.YtggbmajajpafnaaDoor
