import Derived.Test.YtfhjfpgfbeiacaaDoorHaH7
namespace Go.Proofs.YtfhjfpgfbeiacaaDoor.Ha
open Go Go.RowKit
set_option maxRecDepth 100000

def xorL (K : List Int) (x k : Nat) : List Int := (List.range 64).map fun i => if i < k then ((byte K i ^^^ x : Nat) : Int) else (byte K i : Int)
theorem xorL_end (ks : List Int) (x : Nat) : xorL (keyS ks) x 64 = padK ks x := by
  unfold xorL padK
  refine List.map_congr_left fun i hi => ?_
  rw [if_pos (by simpa using hi)]
theorem xorL_len (K : List Int) (x k : Nat) : (xorL K x k).length = 64 := by simp [xorL]
theorem padK_len (ks : List Int) (x : Nat) : (padK ks x).length = 64 := by simp [padK]
theorem padK_byte (ks : List Int) (x : Nat) (h : ∀ v ∈ keyS ks, 0 ≤ v ∧ v ≤ 255) (hx : x < 256) : ∀ v ∈ padK ks x, 0 ≤ v ∧ v ≤ 255 := by
  intro v hv
  simp only [padK, List.mem_map] at hv
  obtain ⟨i, _, rfl⟩ := hv
  have := Nat.xor_lt_two_pow (n := 8) (byte_lt h i) hx
  omega
theorem macS_len (k t : List Int) : (macS k t).length = 32 := shaS_len _
theorem macS_byte (k t : List Int) : ∀ x ∈ macS k t, 0 ≤ x ∧ x ≤ 255 := shaS_byte _
theorem mac_flat (ks : List Int) (L : List (List Int)) : shaS ([padK ks 92, shaS (padK ks 54 ++ L.flatten)].flatten) = macS ks L.flatten := by simp [macS]
theorem key64 {K : List Int} {n x : Nat} (hl : K.length = n) (hn : n ≤ 64) (hb : ∀ v ∈ K, 0 ≤ v ∧ v ≤ 255) : (u8l (List.replicate 64 0)).take 0 ++ u8l (K.take n) ++ (u8l (List.replicate 64 0)).drop (0 + n) = u8l (xorL K x 0) := by
  have e : xorL K x 0 = K ++ List.replicate (64 - n) 0 := by
    apply List.ext_getElem?
    intro i
    unfold xorL
    rcases Nat.lt_or_ge i 64 with hi | hi
    · rw [List.getElem?_map, List.getElem?_range hi]
      rcases Nat.lt_or_ge i n with h1 | h1
      · have hx : i < K.length := by omega
        rw [List.getElem?_append_left hx, List.getElem?_eq_getElem hx]
        have := hb _ (List.getElem_mem hx)
        simp [byte, List.getD, List.getElem?_eq_getElem hx]
        omega
      · rw [List.getElem?_append_right (by omega), List.getElem?_replicate]
        rw [if_pos (by omega)]
        simp [byte, List.getD, List.getElem?_eq_none (show K.length ≤ i by omega)]
    · rw [List.getElem?_eq_none (by simp; omega), List.getElem?_eq_none (by simp; omega)]
  rw [e, List.take_zero, List.nil_append, List.take_of_length_le (by omega)]
  unfold u8l
  rw [List.map_append, List.map_replicate, List.map_replicate, List.drop_replicate, Nat.zero_add]
theorem xorL_cell {w : World} {g k x : Nat} {K : List Int} (h : Blk w g 92 (u8l (xorL K x k)).toArray) (hk : k < 64) : w.cell? ⟨g, k, none⟩ = some (.int .u8 (byte K k : Nat)) := by
  rw [h.cell, List.getElem?_toArray]
  unfold u8l xorL
  rw [List.getElem?_map, List.getElem?_map, List.getElem?_range hk]
  simp
theorem xorL_set {w : World} {g k x : Nat} {K : List Int} (h : Blk w g 92 (u8l (xorL K x k)).toArray) (hk : k < 64) : Blk (w.setCell ⟨g, k, none⟩ (.int .u8 ((byte K k ^^^ x : Nat) : Int))) g 92 (u8l (xorL K x (k + 1))).toArray := by
  have e : (u8l (xorL K x k)).set k (.int .u8 ((byte K k ^^^ x : Nat) : Int)) = u8l (xorL K x (k + 1)) := by
    apply List.ext_getElem?
    intro i
    rw [List.getElem?_set]
    unfold u8l xorL
    rcases Nat.lt_or_ge i 64 with hi | hi
    · rw [List.getElem?_map, List.getElem?_map, List.getElem?_map, List.getElem?_map, List.getElem?_range hi]
      by_cases h1 : k = i
      · subst h1
        simp
        omega
      · rw [if_neg h1]
        simp only [Option.map_some]
        by_cases h2 : i < k
        · rw [if_pos h2, if_pos (by omega)]
        · rw [if_neg h2, if_neg (by omega)]
    · rw [if_neg (by omega), List.getElem?_eq_none (by simp; omega), List.getElem?_eq_none (by simp; omega)]
  rw [← e]
  exact Blk.set h k _
theorem sl_blk {w : World} {g t n : Nat} {xs : List Int} (h : Blk w g t (u8l xs).toArray) (hl : xs.length = n) (hb : ∀ x ∈ xs, 0 ≤ x ∧ x ≤ 255) (hn : n ≤ 4611686018427387904) : Sl w (some ⟨g, 0, none⟩) n n xs := by
  refine ⟨⟨hl, by unfold maxLen; omega, hb, fun j hj => ⟨g, 0, rfl, ?_⟩⟩, by omega, by omega, fun _ p hp => by cases hp; rfl⟩
  have hx : j < xs.length := by omega
  rw [h.cell, Nat.zero_add, List.getElem?_toArray]
  unfold u8l
  rw [List.getElem?_map, List.getElem?_eq_getElem hx, List.getD, List.getElem?_eq_getElem hx]
  rfl
theorem psl_two {w : World} {g : Nat} {a0 a1 : Option Addr} {n0 c0 n1 c1 : Nat} {x0 x1 : List Int} (h : Blk w g 32 #[.slice a0 n0 c0, .slice a1 n1 c1]) (hs0 : Sl w a0 n0 c0 x0) (hs1 : Sl w a1 n1 c1 x1) (hn0 : n0 ≤ 4611686018427387904) (hn1 : n1 ≤ 4611686018427387904) : PSl w (some ⟨g, 0, none⟩) 2 [x0, x1] :=
  ⟨rfl, by unfold maxLen; omega, fun k hk => by
    have : k = 0 ∨ k = 1 := by omega
    rcases this with rfl | rfl
    · exact ⟨g, 0, a0, n0, c0, rfl, by rw [h.cell]; rfl, hs0, hn0⟩
    · exact ⟨g, 0, a1, n1, c1, rfl, by rw [h.cell]; rfl, hs1, hn1⟩⟩
theorem psl_three {w : World} {g : Nat} {a0 a1 a2 : Option Addr} {n0 c0 n1 c1 n2 c2 : Nat} {x0 x1 x2 : List Int} (h : Blk w g 32 #[.slice a0 n0 c0, .slice a1 n1 c1, .slice a2 n2 c2]) (hs0 : Sl w a0 n0 c0 x0) (hs1 : Sl w a1 n1 c1 x1) (hs2 : Sl w a2 n2 c2 x2) (hn0 : n0 ≤ 4611686018427387904) (hn1 : n1 ≤ 4611686018427387904) (hn2 : n2 ≤ 4611686018427387904) : PSl w (some ⟨g, 0, none⟩) 3 [x0, x1, x2] :=
  ⟨rfl, by unfold maxLen; omega, fun k hk => by
    have : k = 0 ∨ k = 1 ∨ k = 2 := by omega
    rcases this with rfl | rfl | rfl
    · exact ⟨g, 0, a0, n0, c0, rfl, by rw [h.cell]; rfl, hs0, hn0⟩
    · exact ⟨g, 0, a1, n1, c1, rfl, by rw [h.cell]; rfl, hs1, hn1⟩
    · exact ⟨g, 0, a2, n2, c2, rfl, by rw [h.cell]; rfl, hs2, hn2⟩⟩
theorem Dig.below {w w' : World} {b : Nat} {t : List Int} (h : Dig w b t) (hb : Below w.heap.size w w') : Dig w' b t := by
  obtain ⟨R, h1, h2⟩ := h
  exact ⟨R, h1.below hb, h2⟩
theorem Dig.lt {w : World} {b : Nat} {t : List Int} (h : Dig w b t) : b < w.heap.size := by
  obtain ⟨R, h1, h2⟩ := h
  exact h1.1.lt
theorem run_idxa52 (a : Act) (o : Oper) (w : World) (x i : Operand) (g k : Nat) (ho : o.op = .indexAddr 92 x i) (hx : a.eval x = .pointer (some ⟨g, 0, none⟩)) (hi : a.eval i = .int .i64 (k : Int)) (hk : k < 64) : (execOp a.eval o).run Tryd.prog w = .ok (.value (.pointer (some ⟨g, k, none⟩))) w := by
  have j0 : (0 : Int) ≤ (k : Int) := by omega
  have j6 : (k : Int) < 64 := by omega
  unfold execOp
  simp only [ho, hx, hi]
  go_simp
attribute [local irreducible] wpList
set_option maxHeartbeats 8000000 in
set_option maxRecDepth 100000 in
/-- hash.Mac. -/
theorem mac_any (w : World) (a : Option Addr) (n c : Nat) (ks : List Int) (pa : Option Addr) (pl pc : Nat) (L : List (List Int)) (hk : Sl w a n c ks) (hn : n ≤ 4611686018427387904) (hp : PSl w pa pl L) (hln : pl ≤ 4611686018427387904) (hT : TabK w) (hH : TabH w) :
    Calls Tryd.prog 38 #[.slice a n c, .slice pa pl pc] w fun e w' => e = .returned (.agg (u8l (macS ks L.flatten)).toArray) ∧ Below w.heap.size w w' := by
  have HKs := Lib.hid hk
  have HN := Lib.hid hn
  have HP := Lib.hid hp
  have HLN := Lib.hid hln
  have HT := Lib.hid hT
  have HH := Lib.hid hH
  clear hk hn hp hln hT hH
  go_enter Tryd.func38, Tryd.ntmps38
  obtain ⟨w1, hw1⟩ : ∃ V, V = w.alloc (.cells (u8l (List.replicate 32 0)).toArray 23) := ⟨_, rfl⟩
  obtain ⟨w2, hw2⟩ : ∃ V, V = w1.alloc (.cells (u8l (List.replicate 64 0)).toArray 92) := ⟨_, rfl⟩
  obtain ⟨w3, hw3⟩ : ∃ V, V = w2.alloc (.cells (u8l (List.replicate 64 0)).toArray 92) := ⟨_, rfl⟩
  have B3 : Hid (Blk w3 w.heap.size 23 (u8l (List.replicate 32 0)).toArray ∧ Blk w3 w1.heap.size 92 (u8l (List.replicate 64 0)).toArray ∧ Blk w3 w2.heap.size 92 (u8l (List.replicate 64 0)).toArray ∧ Below w.heap.size w w3 ∧ w.heap.size < w1.heap.size ∧ w1.heap.size < w2.heap.size ∧ w2.heap.size < w3.heap.size) := Lib.hid (by
    have q1 : Below w.heap.size w w1 := by rw [hw1]; exact (Below.refl _ _).alloc (Nat.le_refl _) _
    have q2 : Below w1.heap.size w1 w2 := by rw [hw2]; exact (Below.refl _ _).alloc (Nat.le_refl _) _
    have q3 : Below w2.heap.size w2 w3 := by rw [hw3]; exact (Below.refl _ _).alloc (Nat.le_refl _) _
    have s1 : w.heap.size < w1.heap.size := by rw [hw1]; simp
    have s2 : w1.heap.size < w2.heap.size := by rw [hw2]; simp
    have s3 : w2.heap.size < w3.heap.size := by rw [hw3]; simp
    have b1 : Blk w1 w.heap.size 23 (u8l (List.replicate 32 0)).toArray := by rw [hw1]; exact Blk.new _ _ _
    have b2 : Blk w2 w1.heap.size 92 (u8l (List.replicate 64 0)).toArray := by rw [hw2]; exact Blk.new _ _ _
    have b3 : Blk w3 w2.heap.size 92 (u8l (List.replicate 64 0)).toArray := by rw [hw3]; exact Blk.new _ _ _
    exact ⟨(b1.below q2).below q3, b2.below q3, b3, q1.trans ((q2.mono (by omega)).trans (q3.mono (by omega))), s1, s2, s3⟩)
  go_upto_region 0 with (fail)
  refine wp_region_lit ?_
  refine wpL_value (.pointer (some ⟨w.heap.size, 0, none⟩)) (w1) rfl (by rw [hw1]; kernel_rfl) ?_
  simp only [Act.put, List.setIfInBounds_toArray, List.set_cons_zero, List.set_cons_succ]
  go_upto_region 1 with (fail)
  refine wp_region_lit ?_
  refine wpL_value (.pointer (some ⟨w1.heap.size, 0, none⟩)) (w2) rfl (by rw [hw2]; kernel_rfl) ?_
  simp only [Act.put, List.setIfInBounds_toArray, List.set_cons_zero, List.set_cons_succ]
  refine wpL_value (.pointer (some ⟨w2.heap.size, 0, none⟩)) (w3) rfl (by rw [hw3]; kernel_rfl) ?_
  simp only [Act.put, List.setIfInBounds_toArray, List.set_cons_zero, List.set_cons_succ]
  clear hw1 hw2 hw3
  obtain ⟨g4, h4⟩ : ∃ q, w.heap.size = q := ⟨_, rfl⟩
  have G4 : Hid (w.heap.size = g4) := Lib.hid h4
  rw [h4] at B3
  try rw [h4]
  clear h4
  generalize w1.heap.size = gi at B3 ⊢
  generalize w2.heap.size = go at B3 ⊢
  by_cases hl : 64 < n
  · have HL := Lib.hid hl
    clear hl
    go_upto_region 2 with (fail)
    refine wp_region_lit ?_
    refine wpL_pure (.slice a n c) rfl (by kernel_rfl) ?_
    simp only [Act.put, List.setIfInBounds_toArray, List.set_cons_zero, List.set_cons_succ]
    refine wpL_pure (.int .i64 (n : Int)) rfl (by kernel_rfl) ?_
    simp only [Act.put, List.setIfInBounds_toArray, List.set_cons_zero, List.set_cons_succ]
    refine wpL_pure (.bool true) rfl (run_gti Tryd.underlying3 rfl rfl rfl (by have := HL.out; rw [decide_eq_true_eq]; omega)) ?_
    simp only [Act.put, List.setIfInBounds_toArray, List.set_cons_zero, List.set_cons_succ]
    go_upto_region 3 with (fail)
    refine wp_region_lit ?_
    refine wpL_pure (.slice a n c) rfl (by kernel_rfl) ?_
    simp only [Act.put, List.setIfInBounds_toArray, List.set_cons_zero, List.set_cons_succ]
    refine wpL_value (.slice (some ⟨w3.heap.size, 0, none⟩) 1 1) (w3.alloc (.cells #[.slice a n c] 32)) rfl (by kernel_rfl) ?_
    simp only [Act.put, List.setIfInBounds_toArray, List.set_cons_zero, List.set_cons_succ]
    obtain ⟨u1, hu1⟩ : ∃ V, V = w3.alloc (.cells #[.slice a n c] 32) := ⟨_, rfl⟩
    rw [← hu1]
    have U1 : Hid (Blk u1 g4 23 (u8l (List.replicate 32 0)).toArray ∧ Blk u1 gi 92 (u8l (List.replicate 64 0)).toArray ∧ Blk u1 go 92 (u8l (List.replicate 64 0)).toArray ∧ Below g4 w u1 ∧ PSl u1 (some ⟨w3.heap.size, 0, none⟩) 1 [ks]) := Lib.hid (qq (show Below w3.heap.size w3 u1 by rw [hu1]; exact (Below.refl _ _).alloc (Nat.le_refl _) _) fun q => ⟨B3.out.1.below q, B3.out.2.1.below q, B3.out.2.2.1.below q, B3.out.2.2.2.1.trans (q.mono (by have := B3.out.1.lt; omega)), psl_one (by rw [hu1]; exact Blk.new _ _ _) (HKs.out.below (by rw [G4.out]; exact B3.out.2.2.2.1.trans (q.mono (by have := B3.out.1.lt; omega)))) HN.out⟩)
    clear hu1
    generalize w3.heap.size = gz at U1 ⊢
    refine wpL_call 47 #[.slice (some ⟨gz, 0, none⟩) 1 1] rfl (by kernel_rfl) (((sum_any u1 (some ⟨gz, 0, none⟩) 1 1 [ks] U1.out.2.2.2.2 (by omega) (HT.out.below (by rw [G4.out]; exact U1.out.2.2.2.1)) (HH.out.below (by rw [G4.out]; exact U1.out.2.2.2.1)))).mono fun e u2 ⟨he, hb⟩ => ⟨.agg (u8l (shaS ks)).toArray, (he.trans (by simp)), ?_⟩)
    simp only [Act.put, List.setIfInBounds_toArray, List.set_cons_zero, List.set_cons_succ]
    have U2 : Hid (Blk u2 g4 23 (u8l (List.replicate 32 0)).toArray ∧ Blk u2 gi 92 (u8l (List.replicate 64 0)).toArray ∧ Blk u2 go 92 (u8l (List.replicate 64 0)).toArray ∧ Below g4 w u2) := Lib.hid ⟨U1.out.1.below hb, U1.out.2.1.below hb, U1.out.2.2.1.below hb, U1.out.2.2.2.1.trans (hb.mono (by have := U1.out.1.lt; omega))⟩
    clear hb
    obtain ⟨u3, hu3⟩ : ∃ V, V = (u2.alloc (.cells (u8l (List.replicate 32 0)).toArray 23)).setRow u2.heap.size (u8l (shaS ks)).toArray := ⟨_, rfl⟩
    have U3 : Hid (Blk u3 g4 23 (u8l (List.replicate 32 0)).toArray ∧ Blk u3 gi 92 (u8l (List.replicate 64 0)).toArray ∧ Blk u3 go 92 (u8l (List.replicate 64 0)).toArray ∧ Below g4 w u3 ∧ Blk u3 u2.heap.size 23 (u8l (shaS ks)).toArray ∧ go < u2.heap.size) := Lib.hid (qq (show Below u2.heap.size u2 u3 by rw [hu3]; exact below_setRow ((Below.refl _ _).alloc (Nat.le_refl _) _) (Nat.le_refl _) _) fun q => ⟨U2.out.1.below q, U2.out.2.1.below q, U2.out.2.2.1.below q, U2.out.2.2.2.trans (q.mono (by have := U2.out.1.lt; omega)), by rw [hu3]; exact setRow_heap _ _ _ _ _ _ (Blk.new u2 23 _), U2.out.2.2.1.lt⟩)
    refine wpL_value (.pointer (some ⟨u2.heap.size, 0, none⟩)) (u2.alloc (.cells (u8l (List.replicate 32 0)).toArray 23)) rfl (by kernel_rfl) ?_
    simp only [Act.put, List.setIfInBounds_toArray, List.set_cons_zero, List.set_cons_succ]
    refine wpList_store_rowTo rfl 23 _ _ rfl rfl u2.heap.size (u8l (shaS ks)).toArray rfl rfl 23 _ (Blk.new u2 23 _) (by simp only [List.size_toArray, u8l_len, shaS_len]; kernel_rfl) (by simp [u8l_len, shaS_len]) (u8l_one _) ?_
    rw [← hu3]
    clear hu3 U2
    generalize u2.heap.size = g7 at U3 ⊢
    go_upto_region 4 with (fail)
    refine wp_region_lit ?_
    refine wpL_pure (.slice (some ⟨g7, 0, none⟩) 32 32) rfl (by kernel_rfl) ?_
    simp only [Act.put, List.setIfInBounds_toArray, List.set_cons_zero, List.set_cons_succ]
    refine wpL_pure (.slice (some ⟨g7, 0, none⟩) 32 32) rfl (by kernel_rfl) ?_
    simp only [Act.put, List.setIfInBounds_toArray, List.set_cons_zero, List.set_cons_succ]
    have KE : Hid (keyS ks = shaS ks) := Lib.hid (by unfold keyS; rw [if_pos (by have := HL.out; have := HKs.out.1.1; omega)])
    have KL : Hid (32 ≤ 64) := Lib.hid (by omega)
    have KB : Hid (∀ x ∈ keyS ks, 0 ≤ x ∧ x ≤ 255) := Lib.hid (by rw [KE.out]; exact shaS_byte _)
    have KF : Hid (∀ X, u3.grownBy X (some gi) → Sl X (some ⟨g7, 0, none⟩) 32 32 (keyS ks)) := Lib.hid (fun X hX => by rw [KE.out]; exact sl_blk (U3.out.2.2.2.2.1.grown hX (by have h1 := U3.out.2.2.2.2.2; have h2 := B3.out.2.2.2.2; simp; omega)) (shaS_len _) (shaS_byte _) (by omega))
    have BB : Hid (Blk u3 g4 23 (u8l (List.replicate 32 0)).toArray ∧ Blk u3 gi 92 (u8l (List.replicate 64 0)).toArray ∧ Blk u3 go 92 (u8l (List.replicate 64 0)).toArray ∧ Below g4 w u3) := Lib.hid ⟨U3.out.1, U3.out.2.1, U3.out.2.2.1, U3.out.2.2.2.1⟩
    go_upto_region 5 with (fail)
    refine wp_region_lit ?_
    refine wpL_pure (.slice (some ⟨gi, 0, none⟩) 64 64) rfl (by kernel_rfl) ?_
    simp only [Act.put, List.setIfInBounds_toArray, List.set_cons_zero, List.set_cons_succ]
    refine wpL_pure (.slice (some ⟨g7, 0, none⟩) 32 32) rfl (by kernel_rfl) ?_
    simp only [Act.put, List.setIfInBounds_toArray, List.set_cons_zero, List.set_cons_succ]
    obtain ⟨x1, r1, r2, r3⟩ := copy_blk u3 gi 92 0 64 64 (u8l (List.replicate 64 0)) (some ⟨g7, 0, none⟩) 32 32 (keyS ks) BB.out.2.1 (KF.out u3 (gb_refl _ _)).1 (by simp [u8l]) 32 (Nat.min_eq_left KL.out).symm
    have CP := Lib.hid r1
    have X1 : Hid (Blk x1 g4 23 (u8l (List.replicate 32 0)).toArray ∧ Blk x1 gi 92 (u8l (xorL (keyS ks) 54 0)).toArray ∧ Blk x1 go 92 (u8l (List.replicate 64 0)).toArray ∧ Below g4 w x1 ∧ u3.grownBy x1 (some gi)) := Lib.hid ⟨BB.out.1.grown r3 (by have := B3.out.2.2.2.2; simp; omega), by rw [← key64 (KF.out u3 (gb_refl _ _)).1.1 KL.out (KF.out u3 (gb_refl _ _)).1.2.2.1]; exact r2, BB.out.2.2.1.grown r3 (by have := B3.out.2.2.2.2; simp; omega), BB.out.2.2.2.trans (gb_below r3 (by have := B3.out.2.2.2.2; omega) (by have := BB.out.1.lt; omega)), r3⟩
    clear r1 r2 r3
    refine wpL_value (.int .i64 ((32 : Nat) : Int)) (x1) rfl (run_cpy _ _ _ _ _ _ _ _ _ rfl rfl rfl rfl CP.out) ?_
    simp only [Act.put, List.setIfInBounds_toArray, List.set_cons_zero, List.set_cons_succ]
    go_upto_region 6 with (fail)
    refine wp_region_lit ?_
    refine wpL_pure (.slice (some ⟨go, 0, none⟩) 64 64) rfl (by kernel_rfl) ?_
    simp only [Act.put, List.setIfInBounds_toArray, List.set_cons_zero, List.set_cons_succ]
    refine wpL_pure (.slice (some ⟨g7, 0, none⟩) 32 32) rfl (by kernel_rfl) ?_
    simp only [Act.put, List.setIfInBounds_toArray, List.set_cons_zero, List.set_cons_succ]
    obtain ⟨x2, r1, r2, r3⟩ := copy_blk x1 go 92 0 64 64 (u8l (List.replicate 64 0)) (some ⟨g7, 0, none⟩) 32 32 (keyS ks) X1.out.2.2.1 (KF.out x1 X1.out.2.2.2.2).1 (by simp [u8l]) 32 (Nat.min_eq_left KL.out).symm
    have CQ := Lib.hid r1
    have X2 : Hid (Blk x2 g4 23 (u8l (List.replicate 32 0)).toArray ∧ Blk x2 gi 92 (u8l (xorL (keyS ks) 54 0)).toArray ∧ Blk x2 go 92 (u8l (xorL (keyS ks) 92 0)).toArray ∧ Below g4 w x2) := Lib.hid ⟨X1.out.1.grown r3 (by have := B3.out.2.2.2.2; simp; omega), X1.out.2.1.grown r3 (by have := B3.out.2.2.2.2; simp; omega), by rw [← key64 (x := 92) (KF.out u3 (gb_refl _ _)).1.1 KL.out (KF.out u3 (gb_refl _ _)).1.2.2.1]; exact r2, X1.out.2.2.2.1.trans (gb_below r3 (by have := B3.out.2.2.2.2; omega) (by have := X1.out.1.lt; omega))⟩
    clear r1 r2 r3
    refine wpL_value (.int .i64 ((32 : Nat) : Int)) (x2) rfl (run_cpy _ _ _ _ _ _ _ _ _ rfl rfl rfl rfl CQ.out) ?_
    simp only [Act.put, List.setIfInBounds_toArray, List.set_cons_zero, List.set_cons_succ]
    go_wp2_with fail
    go_loopw [24] (fun s24 wr => ∃ k : Nat, s24 = .int .i64 (k : Int) ∧ Hid (k ≤ 64 ∧ Blk wr g4 23 (u8l (List.replicate 32 0)).toArray ∧ Blk wr gi 92 (u8l (xorL (keyS ks) 54 k)).toArray ∧ Blk wr go 92 (u8l (xorL (keyS ks) 92 k)).toArray ∧ Below g4 w wr)) (fun s24 _ => 64 - (intOf s24).toNat)
    case atStart => exact ⟨0, rfl, Lib.hid ⟨by omega, X2.out⟩⟩
    case round =>
      obtain ⟨k, rfl, RI⟩ := hrel
      by_cases hlt : k < 64
      · have HK := Lib.hid hlt
        clear hlt
        go_upto_region 8 with (fail)
        refine wp_region_lit ?_
        refine wpL_pure (.bool true) rfl (run_lti Tryd.underlying3 rfl rfl rfl (by have := HK.out; rw [decide_eq_true_eq]; omega)) ?_
        simp only [Act.put, List.setIfInBounds_toArray, List.set_cons_zero, List.set_cons_succ]
        go_upto_region 9 with (fail)
        refine wp_region_lit ?_
        refine wpL_pure (.int .i64 (k : Int)) rfl (by kernel_rfl) ?_
        simp only [Act.put, List.setIfInBounds_toArray, List.set_cons_zero, List.set_cons_succ]
        refine wpL_pure (.int .i64 (k : Int)) rfl (by kernel_rfl) ?_
        simp only [Act.put, List.setIfInBounds_toArray, List.set_cons_zero, List.set_cons_succ]
        go_upto_region 10 with (fail)
        refine wp_region_lit ?_
        refine wpL_pure (.int .i64 (k : Int)) rfl (by kernel_rfl) ?_
        simp only [Act.put, List.setIfInBounds_toArray, List.set_cons_zero, List.set_cons_succ]
        refine wpL_pure (.pointer (some ⟨gi, k, none⟩)) rfl (run_idxa52 _ _ _ _ _ gi k rfl rfl rfl HK.out) ?_
        simp only [Act.put, List.setIfInBounds_toArray, List.set_cons_zero, List.set_cons_succ]
        refine wpL_pure (.int .u8 (byte (keyS ks) k : Nat)) rfl (run_load_one _ _ _ 5 _ _ rfl (gi) (k) rfl (xorL_cell RI.out.2.2.1 HK.out) (by kernel_rfl)) ?_
        simp only [Act.put, List.setIfInBounds_toArray, List.set_cons_zero, List.set_cons_succ]
        refine wpL_pure (.int .u8 ((byte (keyS ks) k ^^^ 54 : Nat) : Int)) rfl (run_biti (.inr (.inr rfl)) Tryd.underlying5 rfl rfl rfl _ (u8_xor_nat _ 54 (byte_lt KB.out _) (by omega))) ?_
        simp only [Act.put, List.setIfInBounds_toArray, List.set_cons_zero, List.set_cons_succ]
        refine wpL_pure (.pointer (some ⟨gi, k, none⟩)) rfl (run_idxa52 _ _ _ _ _ gi k rfl rfl rfl HK.out) ?_
        simp only [Act.put, List.setIfInBounds_toArray, List.set_cons_zero, List.set_cons_succ]
        refine wpL_store_one rfl rfl (gi) (k) rfl (.int .u8 ((byte (keyS ks) k ^^^ 54 : Nat) : Int)) rfl rfl size5 (by rw [xorL_cell RI.out.2.2.1 HK.out]; rfl) (RI.out.2.2.1.free _) ?_
        simp only [Act.put, List.setIfInBounds_toArray, List.set_cons_zero, List.set_cons_succ]
        obtain ⟨y1, hy1⟩ : ∃ V, V = wr.setCell ⟨gi, k, none⟩ (.int .u8 ((byte (keyS ks) k ^^^ 54 : Nat) : Int)) := ⟨_, rfl⟩
        rw [← hy1]
        have Y1 : Hid (Blk y1 g4 23 (u8l (List.replicate 32 0)).toArray ∧ Blk y1 gi 92 (u8l (xorL (keyS ks) 54 (k + 1))).toArray ∧ Blk y1 go 92 (u8l (xorL (keyS ks) 92 k)).toArray ∧ Below g4 w y1) := Lib.hid (by rw [hy1]; exact ⟨RI.out.2.1.other _ _ (by have := B3.out.2.2.2.2; simp; omega), xorL_set RI.out.2.2.1 HK.out, RI.out.2.2.2.1.other _ _ (by have := B3.out.2.2.2.2; simp; omega), RI.out.2.2.2.2.setCell (p := ⟨gi, k, none⟩) (by have := B3.out.2.2.2.2; simp; omega) _⟩)
        clear hy1
        go_upto_region 11 with (fail)
        refine wp_region_lit ?_
        refine wpL_pure (.int .i64 (k : Int)) rfl (by kernel_rfl) ?_
        simp only [Act.put, List.setIfInBounds_toArray, List.set_cons_zero, List.set_cons_succ]
        refine wpL_pure (.pointer (some ⟨go, k, none⟩)) rfl (run_idxa52 _ _ _ _ _ go k rfl rfl rfl HK.out) ?_
        simp only [Act.put, List.setIfInBounds_toArray, List.set_cons_zero, List.set_cons_succ]
        refine wpL_pure (.int .u8 (byte (keyS ks) k : Nat)) rfl (run_load_one _ _ _ 5 _ _ rfl (go) (k) rfl (xorL_cell Y1.out.2.2.1 HK.out) (by kernel_rfl)) ?_
        simp only [Act.put, List.setIfInBounds_toArray, List.set_cons_zero, List.set_cons_succ]
        refine wpL_pure (.int .u8 ((byte (keyS ks) k ^^^ 92 : Nat) : Int)) rfl (run_biti (.inr (.inr rfl)) Tryd.underlying5 rfl rfl rfl _ (u8_xor_nat _ 92 (byte_lt KB.out _) (by omega))) ?_
        simp only [Act.put, List.setIfInBounds_toArray, List.set_cons_zero, List.set_cons_succ]
        refine wpL_pure (.pointer (some ⟨go, k, none⟩)) rfl (run_idxa52 _ _ _ _ _ go k rfl rfl rfl HK.out) ?_
        simp only [Act.put, List.setIfInBounds_toArray, List.set_cons_zero, List.set_cons_succ]
        refine wpL_store_one rfl rfl (go) (k) rfl (.int .u8 ((byte (keyS ks) k ^^^ 92 : Nat) : Int)) rfl rfl size5 (by rw [xorL_cell Y1.out.2.2.1 HK.out]; rfl) (Y1.out.2.2.1.free _) ?_
        simp only [Act.put, List.setIfInBounds_toArray, List.set_cons_zero, List.set_cons_succ]
        obtain ⟨y2, hy2⟩ : ∃ V, V = y1.setCell ⟨go, k, none⟩ (.int .u8 ((byte (keyS ks) k ^^^ 92 : Nat) : Int)) := ⟨_, rfl⟩
        rw [← hy2]
        have NX : Hid (k + 1 ≤ 64 ∧ Blk y2 g4 23 (u8l (List.replicate 32 0)).toArray ∧ Blk y2 gi 92 (u8l (xorL (keyS ks) 54 (k + 1))).toArray ∧ Blk y2 go 92 (u8l (xorL (keyS ks) 92 (k + 1))).toArray ∧ Below g4 w y2) := Lib.hid (by rw [hy2]; exact ⟨HK.out, Y1.out.1.other _ _ (by have := B3.out.2.2.2.2; simp; omega), Y1.out.2.1.other _ _ (by have := B3.out.2.2.2.2; simp; omega), xorL_set Y1.out.2.2.1 HK.out, Y1.out.2.2.2.setCell (p := ⟨go, k, none⟩) (by have := B3.out.2.2.2.2; simp; omega) _⟩)
        clear hy2
        go_upto_region 12 with (fail)
        refine wp_region_lit ?_
        refine wpL_pure (.int .i64 ((k + 1 : Nat) : Int)) rfl (run_addi Tryd.underlying3 rfl rfl rfl _ (by have := HK.out; rw [wrap_in _ (by omega) (by omega)]; omega)) ?_
        simp only [Act.put, List.setIfInBounds_toArray, List.set_cons_zero, List.set_cons_succ]
        refine wpL_pure (.int .i64 ((k + 1 : Nat) : Int)) rfl (by kernel_rfl) ?_
        simp only [Act.put, List.setIfInBounds_toArray, List.set_cons_zero, List.set_cons_succ]
        unfold wpList
        go_roundw
        case rel => first | exact ⟨_, rfl, NX⟩ | ((repeat apply Exists.intro); exact ⟨⟨_, rfl, NX⟩, rfl⟩)
        case measure => simp [intOf]; have := HK.out; omega
      · have HK := Lib.hid hlt
        have EK : Hid (k = 64) := Lib.hid (by have := RI.out.1; omega)
        clear hlt
        have F : Hid (Blk wr g4 23 (u8l (List.replicate 32 0)).toArray ∧ Blk wr gi 92 (u8l (padK ks 54)).toArray ∧ Blk wr go 92 (u8l (padK ks 92)).toArray ∧ Below g4 w wr) := Lib.hid (by have h := RI.out.2; rw [EK.out, xorL_end, xorL_end] at h; exact h)
        go_upto_region 8 with (fail)
        refine wp_region_lit ?_
        refine wpL_pure (.bool false) rfl (run_lti Tryd.underlying3 rfl rfl rfl (by have := HK.out; rw [decide_eq_false_iff_not]; omega)) ?_
        simp only [Act.put, List.setIfInBounds_toArray, List.set_cons_zero, List.set_cons_succ]
        go_upto_region 13 with (fail)
        refine wp_region_lit ?_
        refine wpL_call 48 #[] rfl (by kernel_rfl) (((begin_any wr (HH.out.below (by rw [G4.out]; exact F.out.2.2.2)))).mono fun e z2 ⟨he, hb⟩ => ⟨.agg (digL hh0 (List.replicate 64 0) 0 0).toArray, he, ?_⟩)
        simp only [Act.put, List.setIfInBounds_toArray, List.set_cons_zero, List.set_cons_succ]
        obtain ⟨z3, hz3⟩ : ∃ V, V = (z2.alloc (.cells (digL (List.replicate 8 0) (List.replicate 64 0) 0 0).toArray 97)).setRow z2.heap.size (digL hh0 (List.replicate 64 0) 0 0).toArray := ⟨_, rfl⟩
        have Z3 : Hid (Dig z3 z2.heap.size [] ∧ Blk z3 g4 23 (u8l (List.replicate 32 0)).toArray ∧ Blk z3 gi 92 (u8l (padK ks 54)).toArray ∧ Blk z3 go 92 (u8l (padK ks 92)).toArray ∧ Below g4 w z3 ∧ go < z2.heap.size) := Lib.hid (qq (show Below z2.heap.size z2 z3 by rw [hz3]; exact below_setRow ((Below.refl _ _).alloc (Nat.le_refl _) _) (Nat.le_refl _) _) fun q => ⟨⟨List.replicate 64 0, ⟨by rw [hz3]; exact setRow_heap _ _ _ _ _ _ (Blk.new z2 97 _), h0_ok, by simp, by simp⟩, rfl, by simp⟩, (F.out.1.below hb).below q, (F.out.2.1.below hb).below q, (F.out.2.2.1.below hb).below q, F.out.2.2.2.trans ((hb.mono (by have := F.out.1.lt; omega)).trans (q.mono (by have := (F.out.1.below hb).lt; omega))), (F.out.2.2.1.below hb).lt⟩)
        refine wpL_value (.pointer (some ⟨z2.heap.size, 0, none⟩)) (z2.alloc (.cells (digL (List.replicate 8 0) (List.replicate 64 0) 0 0).toArray 97)) rfl (by kernel_rfl) ?_
        simp only [Act.put, List.setIfInBounds_toArray, List.set_cons_zero, List.set_cons_succ]
        refine wpList_store_rowTo rfl 97 _ _ rfl rfl z2.heap.size (digL hh0 (List.replicate 64 0) 0 0).toArray rfl rfl 97 _ (Blk.new z2 97 _) (by kernel_rfl) (by kernel_rfl) (by kernel_rfl) ?_
        rw [← hz3]
        clear hz3 hb
        generalize z2.heap.size = gd at Z3 ⊢
        go_upto_region 14 with (fail)
        refine wp_region_lit ?_
        refine wpL_pure (.slice (some ⟨gi, 0, none⟩) 64 64) rfl (by kernel_rfl) ?_
        simp only [Act.put, List.setIfInBounds_toArray, List.set_cons_zero, List.set_cons_succ]
        refine wpL_value (.slice (some ⟨z3.heap.size, 0, none⟩) 1 1) (z3.alloc (.cells #[.slice (some ⟨gi, 0, none⟩) 64 64] 32)) rfl (by kernel_rfl) ?_
        simp only [Act.put, List.setIfInBounds_toArray, List.set_cons_zero, List.set_cons_succ]
        obtain ⟨z4, hz4⟩ : ∃ V, V = z3.alloc (.cells #[.slice (some ⟨gi, 0, none⟩) 64 64] 32) := ⟨_, rfl⟩
        rw [← hz4]
        have Z4 : Hid (Dig z4 gd [] ∧ Blk z4 g4 23 (u8l (List.replicate 32 0)).toArray ∧ Blk z4 gi 92 (u8l (padK ks 54)).toArray ∧ Blk z4 go 92 (u8l (padK ks 92)).toArray ∧ Below g4 w z4 ∧ Blk z4 z3.heap.size 32 #[.slice (some ⟨gi, 0, none⟩) 64 64] ∧ gd < z3.heap.size) := Lib.hid (qq (show Below z3.heap.size z3 z4 by rw [hz4]; exact (Below.refl _ _).alloc (Nat.le_refl _) _) fun q => ⟨Z3.out.1.below q, Z3.out.2.1.below q, Z3.out.2.2.1.below q, Z3.out.2.2.2.1.below q, Z3.out.2.2.2.2.1.trans (q.mono (by have := Z3.out.2.1.lt; omega)), by rw [hz4]; exact Blk.new _ _ _, Z3.out.1.lt⟩)
        clear hz4
        generalize z3.heap.size = gs at Z4 ⊢
        refine wpL_call 49 #[.pointer (some ⟨gd, 0, none⟩), .slice (some ⟨gs, 0, none⟩) 1 1] rfl (by kernel_rfl) (((write_any z4 gd [] (some ⟨gs, 0, none⟩) 1 1 [padK ks 54] Z4.out.1 (fun X hX => psl_one (Z4.out.2.2.2.2.2.1.grown hX (by have := Z4.out.2.2.2.2.2.2; simp; omega)) (sl_blk (Z4.out.2.2.1.grown hX (by have h3 := B3.out.2.2.2.2; have h4 := Z3.out.2.2.2.2.2; simp; omega)) (padK_len ks 54) (padK_byte ks 54 KB.out (by omega)) (by omega)) (by omega)) (fun _ p hp => by cases hp; have := Z4.out.2.2.2.2.2.2; show gs ≠ gd; omega) (by omega) (HT.out.below (by rw [G4.out]; exact Z4.out.2.2.2.2.1)) (by have h1 := HT.out.lt; have h2 := G4.out; have h3 := B3.out.2.2.2.2; have h4 := Z3.out.2.2.2.2.2; omega))).mono fun e z5 ⟨he, q1, q2⟩ => ⟨.tuple #[], he, ?_⟩)
        simp only [Act.put, List.setIfInBounds_toArray, List.set_cons_zero, List.set_cons_succ]
        have Z5 : Hid (Dig z5 gd (padK ks 54) ∧ Blk z5 g4 23 (u8l (List.replicate 32 0)).toArray ∧ Blk z5 go 92 (u8l (padK ks 92)).toArray ∧ Below g4 w z5) := Lib.hid ⟨by simpa using q1, Z4.out.2.1.grown q2 (by have h3 := B3.out.2.2.2.2; have h4 := Z3.out.2.2.2.2.2; simp; omega), Z4.out.2.2.2.1.grown q2 (by have h4 := Z3.out.2.2.2.2.2; simp; omega), Z4.out.2.2.2.2.1.trans (gb_below q2 (by have h3 := B3.out.2.2.2.2; have h4 := Z3.out.2.2.2.2.2; omega) (by have := Z4.out.2.1.lt; omega))⟩
        clear q1 q2
        go_upto_region 15 with (fail)
        refine wp_region_lit ?_
        refine wpL_pure (.slice pa pl pc) rfl (by kernel_rfl) ?_
        simp only [Act.put, List.setIfInBounds_toArray, List.set_cons_zero, List.set_cons_succ]
        refine wpL_call 49 #[.pointer (some ⟨gd, 0, none⟩), .slice pa pl pc] rfl (by kernel_rfl) (((write_any z5 gd (padK ks 54) pa pl pc L Z5.out.1 (fun X hX => HP.out.below (by rw [G4.out]; exact Z5.out.2.2.2.trans (gb_below hX (by have h3 := B3.out.2.2.2.2; have h4 := Z3.out.2.2.2.2.2; omega) (by have := Z5.out.2.1.lt; omega)))) (fun h0 p hp => by obtain ⟨g, o, _, _, _, e, hc, _⟩ := HP.out.2.2 0 h0; rw [hp] at e; cases e; have h1 := World.block_lt_of_cell? w _ hc; have h2 := G4.out; have h3 := B3.out.2.2.2.2; have h4 := Z3.out.2.2.2.2.2; simp at h1; show g ≠ gd; omega) HLN.out (HT.out.below (by rw [G4.out]; exact Z5.out.2.2.2)) (by have h1 := HT.out.lt; have h2 := G4.out; have h3 := B3.out.2.2.2.2; have h4 := Z3.out.2.2.2.2.2; omega))).mono fun e z6 ⟨he, q1, q2⟩ => ⟨.tuple #[], he, ?_⟩)
        simp only [Act.put, List.setIfInBounds_toArray, List.set_cons_zero, List.set_cons_succ]
        have Z6 : Hid (Dig z6 gd (padK ks 54 ++ L.flatten) ∧ Blk z6 g4 23 (u8l (List.replicate 32 0)).toArray ∧ Blk z6 go 92 (u8l (padK ks 92)).toArray ∧ Below g4 w z6) := Lib.hid ⟨q1, Z5.out.2.1.grown q2 (by have h3 := B3.out.2.2.2.2; have h4 := Z3.out.2.2.2.2.2; simp; omega), Z5.out.2.2.1.grown q2 (by have h4 := Z3.out.2.2.2.2.2; simp; omega), Z5.out.2.2.2.trans (gb_below q2 (by have h3 := B3.out.2.2.2.2; have h4 := Z3.out.2.2.2.2.2; omega) (by have := Z5.out.2.1.lt; omega))⟩
        clear q1 q2
        go_upto_region 16 with (fail)
        refine wp_region_lit ?_
        refine wpL_call 50 #[.pointer (some ⟨gd, 0, none⟩)] rfl (by kernel_rfl) (((dend_any z6 gd (padK ks 54 ++ L.flatten) Z6.out.1 (HT.out.below (by rw [G4.out]; exact Z6.out.2.2.2)) (by have h1 := HT.out.lt; have h2 := G4.out; have h3 := B3.out.2.2.2.2; have h4 := Z3.out.2.2.2.2.2; omega))).mono fun e z7 ⟨he, q2⟩ => ⟨.agg (u8l (shaS (padK ks 54 ++ L.flatten))).toArray, he, ?_⟩)
        simp only [Act.put, List.setIfInBounds_toArray, List.set_cons_zero, List.set_cons_succ]
        have Z7 : Hid (Blk z7 g4 23 (u8l (List.replicate 32 0)).toArray ∧ Blk z7 go 92 (u8l (padK ks 92)).toArray ∧ Below g4 w z7) := Lib.hid ⟨Z6.out.2.1.grown q2 (by have h3 := B3.out.2.2.2.2; have h4 := Z3.out.2.2.2.2.2; simp; omega), Z6.out.2.2.1.grown q2 (by have h4 := Z3.out.2.2.2.2.2; simp; omega), Z6.out.2.2.2.trans (gb_below q2 (by have h3 := B3.out.2.2.2.2; have h4 := Z3.out.2.2.2.2.2; omega) (by have := Z6.out.2.1.lt; omega))⟩
        clear q2
        obtain ⟨z8, hz8⟩ : ∃ V, V = (z7.alloc (.cells (u8l (List.replicate 32 0)).toArray 23)).setRow z7.heap.size (u8l (shaS (padK ks 54 ++ L.flatten))).toArray := ⟨_, rfl⟩
        have Z8 : Hid (Blk z8 g4 23 (u8l (List.replicate 32 0)).toArray ∧ Blk z8 go 92 (u8l (padK ks 92)).toArray ∧ Below g4 w z8 ∧ Blk z8 z7.heap.size 23 (u8l (shaS (padK ks 54 ++ L.flatten))).toArray) := Lib.hid (qq (show Below z7.heap.size z7 z8 by rw [hz8]; exact below_setRow ((Below.refl _ _).alloc (Nat.le_refl _) _) (Nat.le_refl _) _) fun q => ⟨Z7.out.1.below q, Z7.out.2.1.below q, Z7.out.2.2.trans (q.mono (by have := Z7.out.1.lt; omega)), by rw [hz8]; exact setRow_heap _ _ _ _ _ _ (Blk.new z7 23 _)⟩)
        refine wpL_value (.pointer (some ⟨z7.heap.size, 0, none⟩)) (z7.alloc (.cells (u8l (List.replicate 32 0)).toArray 23)) rfl (by kernel_rfl) ?_
        simp only [Act.put, List.setIfInBounds_toArray, List.set_cons_zero, List.set_cons_succ]
        refine wpList_store_rowTo rfl 23 _ _ rfl rfl z7.heap.size (u8l (shaS (padK ks 54 ++ L.flatten))).toArray rfl rfl 23 _ (Blk.new z7 23 _) (by simp only [List.size_toArray, u8l_len, shaS_len]; kernel_rfl) (by simp [u8l_len, shaS_len]) (u8l_one _) ?_
        rw [← hz8]
        clear hz8 Z7
        generalize z7.heap.size = gt at Z8 ⊢
        go_upto_region 17 with (fail)
        refine region_held (fun X => Blk X g4 23 (u8l (List.replicate 32 0)).toArray ∧ Blk X go 92 (u8l (padK ks 92)).toArray ∧ Below g4 w X ∧ Blk X gt 23 (u8l (shaS (padK ks 54 ++ L.flatten))).toArray) 2 (by kernel_rfl) (by kernel_rfl) (by exact ⟨Z8.out.1, Z8.out.2.1, Z8.out.2.2.1.drew, Z8.out.2.2.2⟩) ?_
        simp only [List.take_succ_cons, List.take_zero, List.drop_succ_cons, List.drop_zero]
        refine wpHeld_cons (.slice (some ⟨go, 0, none⟩) 64 64) rfl (fun w h => heldRun_value (by kernel_rfl) h) ?_
        simp only [Act.put, List.setIfInBounds_toArray, List.set_cons_zero, List.set_cons_succ]
        refine wpHeld_cons (.slice (some ⟨gt, 0, none⟩) 32 32) rfl (fun w h => heldRun_value (by kernel_rfl) h) ?_
        simp only [Act.put, List.setIfInBounds_toArray, List.set_cons_zero, List.set_cons_succ]
        refine wpHeld_nil ?_
        intro z9 h
        have Z9 := Lib.hid h
        clear h Z8
        obtain ⟨v1, hv1⟩ : ∃ V, V = z9.alloc (.cells #[.slice (some ⟨go, 0, none⟩) 64 64, .slice (some ⟨gt, 0, none⟩) 32 32] 32) := ⟨_, rfl⟩
        have V1 : Hid (Blk v1 g4 23 (u8l (List.replicate 32 0)).toArray ∧ Below g4 w v1 ∧ PSl v1 (some ⟨z9.heap.size, 0, none⟩) 2 [padK ks 92, shaS (padK ks 54 ++ L.flatten)]) := Lib.hid (qq (show Below z9.heap.size z9 v1 by rw [hv1]; exact (Below.refl _ _).alloc (Nat.le_refl _) _) fun q => ⟨Z9.out.1.below q, Z9.out.2.2.1.trans (q.mono (by have := Z9.out.1.lt; omega)), psl_two (by rw [hv1]; exact Blk.new _ _ _) (sl_blk (Z9.out.2.1.below q) (padK_len ks 92) (padK_byte ks 92 KB.out (by omega)) (by omega)) (sl_blk (Z9.out.2.2.2.below q) (shaS_len _) (shaS_byte _) (by omega)) (by omega) (by omega)⟩)
        refine wpL_value (.slice (some ⟨z9.heap.size, 0, none⟩) 2 2) (v1) rfl (by rw [hv1]; kernel_rfl) ?_
        simp only [Act.put, List.setIfInBounds_toArray, List.set_cons_zero, List.set_cons_succ]
        refine wpL_call 47 #[.slice (some ⟨z9.heap.size, 0, none⟩) 2 2] rfl (by kernel_rfl) (((sum_any v1 (some ⟨z9.heap.size, 0, none⟩) 2 2 [padK ks 92, shaS (padK ks 54 ++ L.flatten)] V1.out.2.2 (by omega) (HT.out.below (by rw [G4.out]; exact V1.out.2.1)) (HH.out.below (by rw [G4.out]; exact V1.out.2.1)))).mono fun e v2 ⟨he, hb⟩ => ⟨.agg (u8l (macS ks L.flatten)).toArray, (he.trans (by rw [mac_flat])), ?_⟩)
        simp only [Act.put, List.setIfInBounds_toArray, List.set_cons_zero, List.set_cons_succ]
        have V2 : Hid (Blk v2 g4 23 (u8l (List.replicate 32 0)).toArray ∧ Below g4 w v2) := Lib.hid ⟨V1.out.1.below hb, V1.out.2.1.trans (hb.mono (by have := V1.out.1.lt; omega))⟩
        clear hb
        refine wpList_store_rowTo rfl 23 _ _ rfl rfl g4 (u8l (macS ks L.flatten)).toArray rfl rfl 23 _ V2.out.1 (by simp only [List.size_toArray, u8l_len, macS_len]; kernel_rfl) (by simp [u8l_len, macS_len]) (u8l_one _) ?_
        go_wp2_with fail
        refine bodyPost_ret (results_cell_row rfl _ _ g4 23 _ (0, 0) _ rfl (setRow_heap _ _ _ _ _ _ V2.out.1) Tryd.underlying23 rfl (by simp only [List.size_toArray, u8l_len, macS_len]; kernel_rfl)) rfl ?_
        exact ⟨rfl, by rw [G4.out]; exact below_setRow V2.out.2 (Nat.le_refl _) _⟩
  · have HL := Lib.hid hl
    clear hl
    go_upto_region 2 with (fail)
    refine wp_region_lit ?_
    refine wpL_pure (.slice a n c) rfl (by kernel_rfl) ?_
    simp only [Act.put, List.setIfInBounds_toArray, List.set_cons_zero, List.set_cons_succ]
    refine wpL_pure (.int .i64 (n : Int)) rfl (by kernel_rfl) ?_
    simp only [Act.put, List.setIfInBounds_toArray, List.set_cons_zero, List.set_cons_succ]
    refine wpL_pure (.bool false) rfl (run_gti Tryd.underlying3 rfl rfl rfl (by have := HL.out; rw [decide_eq_false_iff_not]; omega)) ?_
    simp only [Act.put, List.setIfInBounds_toArray, List.set_cons_zero, List.set_cons_succ]
    have KE : Hid (keyS ks = ks) := Lib.hid (by unfold keyS; rw [if_neg (by have := HL.out; have := HKs.out.1.1; omega)])
    have KL : Hid (n ≤ 64) := Lib.hid (by have := HL.out; omega)
    have KB : Hid (∀ x ∈ keyS ks, 0 ≤ x ∧ x ≤ 255) := Lib.hid (by rw [KE.out]; exact HKs.out.1.2.2.1)
    have KF : Hid (∀ X, w3.grownBy X (some gi) → Sl X a n c (keyS ks)) := Lib.hid (fun X hX => by rw [KE.out]; exact HKs.out.below (by rw [G4.out]; exact B3.out.2.2.2.1.trans (gb_below hX (by have := B3.out.2.2.2.2; omega) (by have := B3.out.1.lt; omega))))
    have BB : Hid (Blk w3 g4 23 (u8l (List.replicate 32 0)).toArray ∧ Blk w3 gi 92 (u8l (List.replicate 64 0)).toArray ∧ Blk w3 go 92 (u8l (List.replicate 64 0)).toArray ∧ Below g4 w w3) := Lib.hid ⟨B3.out.1, B3.out.2.1, B3.out.2.2.1, B3.out.2.2.2.1⟩
    go_upto_region 5 with (fail)
    refine wp_region_lit ?_
    refine wpL_pure (.slice (some ⟨gi, 0, none⟩) 64 64) rfl (by kernel_rfl) ?_
    simp only [Act.put, List.setIfInBounds_toArray, List.set_cons_zero, List.set_cons_succ]
    refine wpL_pure (.slice a n c) rfl (by kernel_rfl) ?_
    simp only [Act.put, List.setIfInBounds_toArray, List.set_cons_zero, List.set_cons_succ]
    obtain ⟨x1, r1, r2, r3⟩ := copy_blk w3 gi 92 0 64 64 (u8l (List.replicate 64 0)) a n c (keyS ks) BB.out.2.1 (KF.out w3 (gb_refl _ _)).1 (by simp [u8l]) n (Nat.min_eq_left KL.out).symm
    have CP := Lib.hid r1
    have X1 : Hid (Blk x1 g4 23 (u8l (List.replicate 32 0)).toArray ∧ Blk x1 gi 92 (u8l (xorL (keyS ks) 54 0)).toArray ∧ Blk x1 go 92 (u8l (List.replicate 64 0)).toArray ∧ Below g4 w x1 ∧ w3.grownBy x1 (some gi)) := Lib.hid ⟨BB.out.1.grown r3 (by have := B3.out.2.2.2.2; simp; omega), by rw [← key64 (KF.out w3 (gb_refl _ _)).1.1 KL.out (KF.out w3 (gb_refl _ _)).1.2.2.1]; exact r2, BB.out.2.2.1.grown r3 (by have := B3.out.2.2.2.2; simp; omega), BB.out.2.2.2.trans (gb_below r3 (by have := B3.out.2.2.2.2; omega) (by have := BB.out.1.lt; omega)), r3⟩
    clear r1 r2 r3
    refine wpL_value (.int .i64 ((n : Nat) : Int)) (x1) rfl (run_cpy _ _ _ _ _ _ _ _ _ rfl rfl rfl rfl CP.out) ?_
    simp only [Act.put, List.setIfInBounds_toArray, List.set_cons_zero, List.set_cons_succ]
    go_upto_region 6 with (fail)
    refine wp_region_lit ?_
    refine wpL_pure (.slice (some ⟨go, 0, none⟩) 64 64) rfl (by kernel_rfl) ?_
    simp only [Act.put, List.setIfInBounds_toArray, List.set_cons_zero, List.set_cons_succ]
    refine wpL_pure (.slice a n c) rfl (by kernel_rfl) ?_
    simp only [Act.put, List.setIfInBounds_toArray, List.set_cons_zero, List.set_cons_succ]
    obtain ⟨x2, r1, r2, r3⟩ := copy_blk x1 go 92 0 64 64 (u8l (List.replicate 64 0)) a n c (keyS ks) X1.out.2.2.1 (KF.out x1 X1.out.2.2.2.2).1 (by simp [u8l]) n (Nat.min_eq_left KL.out).symm
    have CQ := Lib.hid r1
    have X2 : Hid (Blk x2 g4 23 (u8l (List.replicate 32 0)).toArray ∧ Blk x2 gi 92 (u8l (xorL (keyS ks) 54 0)).toArray ∧ Blk x2 go 92 (u8l (xorL (keyS ks) 92 0)).toArray ∧ Below g4 w x2) := Lib.hid ⟨X1.out.1.grown r3 (by have := B3.out.2.2.2.2; simp; omega), X1.out.2.1.grown r3 (by have := B3.out.2.2.2.2; simp; omega), by rw [← key64 (x := 92) (KF.out w3 (gb_refl _ _)).1.1 KL.out (KF.out w3 (gb_refl _ _)).1.2.2.1]; exact r2, X1.out.2.2.2.1.trans (gb_below r3 (by have := B3.out.2.2.2.2; omega) (by have := X1.out.1.lt; omega))⟩
    clear r1 r2 r3
    refine wpL_value (.int .i64 ((n : Nat) : Int)) (x2) rfl (run_cpy _ _ _ _ _ _ _ _ _ rfl rfl rfl rfl CQ.out) ?_
    simp only [Act.put, List.setIfInBounds_toArray, List.set_cons_zero, List.set_cons_succ]
    go_wp2_with fail
    go_loopw [24] (fun s24 wr => ∃ k : Nat, s24 = .int .i64 (k : Int) ∧ Hid (k ≤ 64 ∧ Blk wr g4 23 (u8l (List.replicate 32 0)).toArray ∧ Blk wr gi 92 (u8l (xorL (keyS ks) 54 k)).toArray ∧ Blk wr go 92 (u8l (xorL (keyS ks) 92 k)).toArray ∧ Below g4 w wr)) (fun s24 _ => 64 - (intOf s24).toNat)
    case atStart => exact ⟨0, rfl, Lib.hid ⟨by omega, X2.out⟩⟩
    case round =>
      obtain ⟨k, rfl, RI⟩ := hrel
      by_cases hlt : k < 64
      · have HK := Lib.hid hlt
        clear hlt
        go_upto_region 8 with (fail)
        refine wp_region_lit ?_
        refine wpL_pure (.bool true) rfl (run_lti Tryd.underlying3 rfl rfl rfl (by have := HK.out; rw [decide_eq_true_eq]; omega)) ?_
        simp only [Act.put, List.setIfInBounds_toArray, List.set_cons_zero, List.set_cons_succ]
        go_upto_region 9 with (fail)
        refine wp_region_lit ?_
        refine wpL_pure (.int .i64 (k : Int)) rfl (by kernel_rfl) ?_
        simp only [Act.put, List.setIfInBounds_toArray, List.set_cons_zero, List.set_cons_succ]
        refine wpL_pure (.int .i64 (k : Int)) rfl (by kernel_rfl) ?_
        simp only [Act.put, List.setIfInBounds_toArray, List.set_cons_zero, List.set_cons_succ]
        go_upto_region 10 with (fail)
        refine wp_region_lit ?_
        refine wpL_pure (.int .i64 (k : Int)) rfl (by kernel_rfl) ?_
        simp only [Act.put, List.setIfInBounds_toArray, List.set_cons_zero, List.set_cons_succ]
        refine wpL_pure (.pointer (some ⟨gi, k, none⟩)) rfl (run_idxa52 _ _ _ _ _ gi k rfl rfl rfl HK.out) ?_
        simp only [Act.put, List.setIfInBounds_toArray, List.set_cons_zero, List.set_cons_succ]
        refine wpL_pure (.int .u8 (byte (keyS ks) k : Nat)) rfl (run_load_one _ _ _ 5 _ _ rfl (gi) (k) rfl (xorL_cell RI.out.2.2.1 HK.out) (by kernel_rfl)) ?_
        simp only [Act.put, List.setIfInBounds_toArray, List.set_cons_zero, List.set_cons_succ]
        refine wpL_pure (.int .u8 ((byte (keyS ks) k ^^^ 54 : Nat) : Int)) rfl (run_biti (.inr (.inr rfl)) Tryd.underlying5 rfl rfl rfl _ (u8_xor_nat _ 54 (byte_lt KB.out _) (by omega))) ?_
        simp only [Act.put, List.setIfInBounds_toArray, List.set_cons_zero, List.set_cons_succ]
        refine wpL_pure (.pointer (some ⟨gi, k, none⟩)) rfl (run_idxa52 _ _ _ _ _ gi k rfl rfl rfl HK.out) ?_
        simp only [Act.put, List.setIfInBounds_toArray, List.set_cons_zero, List.set_cons_succ]
        refine wpL_store_one rfl rfl (gi) (k) rfl (.int .u8 ((byte (keyS ks) k ^^^ 54 : Nat) : Int)) rfl rfl size5 (by rw [xorL_cell RI.out.2.2.1 HK.out]; rfl) (RI.out.2.2.1.free _) ?_
        simp only [Act.put, List.setIfInBounds_toArray, List.set_cons_zero, List.set_cons_succ]
        obtain ⟨y1, hy1⟩ : ∃ V, V = wr.setCell ⟨gi, k, none⟩ (.int .u8 ((byte (keyS ks) k ^^^ 54 : Nat) : Int)) := ⟨_, rfl⟩
        rw [← hy1]
        have Y1 : Hid (Blk y1 g4 23 (u8l (List.replicate 32 0)).toArray ∧ Blk y1 gi 92 (u8l (xorL (keyS ks) 54 (k + 1))).toArray ∧ Blk y1 go 92 (u8l (xorL (keyS ks) 92 k)).toArray ∧ Below g4 w y1) := Lib.hid (by rw [hy1]; exact ⟨RI.out.2.1.other _ _ (by have := B3.out.2.2.2.2; simp; omega), xorL_set RI.out.2.2.1 HK.out, RI.out.2.2.2.1.other _ _ (by have := B3.out.2.2.2.2; simp; omega), RI.out.2.2.2.2.setCell (p := ⟨gi, k, none⟩) (by have := B3.out.2.2.2.2; simp; omega) _⟩)
        clear hy1
        go_upto_region 11 with (fail)
        refine wp_region_lit ?_
        refine wpL_pure (.int .i64 (k : Int)) rfl (by kernel_rfl) ?_
        simp only [Act.put, List.setIfInBounds_toArray, List.set_cons_zero, List.set_cons_succ]
        refine wpL_pure (.pointer (some ⟨go, k, none⟩)) rfl (run_idxa52 _ _ _ _ _ go k rfl rfl rfl HK.out) ?_
        simp only [Act.put, List.setIfInBounds_toArray, List.set_cons_zero, List.set_cons_succ]
        refine wpL_pure (.int .u8 (byte (keyS ks) k : Nat)) rfl (run_load_one _ _ _ 5 _ _ rfl (go) (k) rfl (xorL_cell Y1.out.2.2.1 HK.out) (by kernel_rfl)) ?_
        simp only [Act.put, List.setIfInBounds_toArray, List.set_cons_zero, List.set_cons_succ]
        refine wpL_pure (.int .u8 ((byte (keyS ks) k ^^^ 92 : Nat) : Int)) rfl (run_biti (.inr (.inr rfl)) Tryd.underlying5 rfl rfl rfl _ (u8_xor_nat _ 92 (byte_lt KB.out _) (by omega))) ?_
        simp only [Act.put, List.setIfInBounds_toArray, List.set_cons_zero, List.set_cons_succ]
        refine wpL_pure (.pointer (some ⟨go, k, none⟩)) rfl (run_idxa52 _ _ _ _ _ go k rfl rfl rfl HK.out) ?_
        simp only [Act.put, List.setIfInBounds_toArray, List.set_cons_zero, List.set_cons_succ]
        refine wpL_store_one rfl rfl (go) (k) rfl (.int .u8 ((byte (keyS ks) k ^^^ 92 : Nat) : Int)) rfl rfl size5 (by rw [xorL_cell Y1.out.2.2.1 HK.out]; rfl) (Y1.out.2.2.1.free _) ?_
        simp only [Act.put, List.setIfInBounds_toArray, List.set_cons_zero, List.set_cons_succ]
        obtain ⟨y2, hy2⟩ : ∃ V, V = y1.setCell ⟨go, k, none⟩ (.int .u8 ((byte (keyS ks) k ^^^ 92 : Nat) : Int)) := ⟨_, rfl⟩
        rw [← hy2]
        have NX : Hid (k + 1 ≤ 64 ∧ Blk y2 g4 23 (u8l (List.replicate 32 0)).toArray ∧ Blk y2 gi 92 (u8l (xorL (keyS ks) 54 (k + 1))).toArray ∧ Blk y2 go 92 (u8l (xorL (keyS ks) 92 (k + 1))).toArray ∧ Below g4 w y2) := Lib.hid (by rw [hy2]; exact ⟨HK.out, Y1.out.1.other _ _ (by have := B3.out.2.2.2.2; simp; omega), Y1.out.2.1.other _ _ (by have := B3.out.2.2.2.2; simp; omega), xorL_set Y1.out.2.2.1 HK.out, Y1.out.2.2.2.setCell (p := ⟨go, k, none⟩) (by have := B3.out.2.2.2.2; simp; omega) _⟩)
        clear hy2
        go_upto_region 12 with (fail)
        refine wp_region_lit ?_
        refine wpL_pure (.int .i64 ((k + 1 : Nat) : Int)) rfl (run_addi Tryd.underlying3 rfl rfl rfl _ (by have := HK.out; rw [wrap_in _ (by omega) (by omega)]; omega)) ?_
        simp only [Act.put, List.setIfInBounds_toArray, List.set_cons_zero, List.set_cons_succ]
        refine wpL_pure (.int .i64 ((k + 1 : Nat) : Int)) rfl (by kernel_rfl) ?_
        simp only [Act.put, List.setIfInBounds_toArray, List.set_cons_zero, List.set_cons_succ]
        unfold wpList
        go_roundw
        case rel => first | exact ⟨_, rfl, NX⟩ | ((repeat apply Exists.intro); exact ⟨⟨_, rfl, NX⟩, rfl⟩)
        case measure => simp [intOf]; have := HK.out; omega
      · have HK := Lib.hid hlt
        have EK : Hid (k = 64) := Lib.hid (by have := RI.out.1; omega)
        clear hlt
        have F : Hid (Blk wr g4 23 (u8l (List.replicate 32 0)).toArray ∧ Blk wr gi 92 (u8l (padK ks 54)).toArray ∧ Blk wr go 92 (u8l (padK ks 92)).toArray ∧ Below g4 w wr) := Lib.hid (by have h := RI.out.2; rw [EK.out, xorL_end, xorL_end] at h; exact h)
        go_upto_region 8 with (fail)
        refine wp_region_lit ?_
        refine wpL_pure (.bool false) rfl (run_lti Tryd.underlying3 rfl rfl rfl (by have := HK.out; rw [decide_eq_false_iff_not]; omega)) ?_
        simp only [Act.put, List.setIfInBounds_toArray, List.set_cons_zero, List.set_cons_succ]
        go_upto_region 13 with (fail)
        refine wp_region_lit ?_
        refine wpL_call 48 #[] rfl (by kernel_rfl) (((begin_any wr (HH.out.below (by rw [G4.out]; exact F.out.2.2.2)))).mono fun e z2 ⟨he, hb⟩ => ⟨.agg (digL hh0 (List.replicate 64 0) 0 0).toArray, he, ?_⟩)
        simp only [Act.put, List.setIfInBounds_toArray, List.set_cons_zero, List.set_cons_succ]
        obtain ⟨z3, hz3⟩ : ∃ V, V = (z2.alloc (.cells (digL (List.replicate 8 0) (List.replicate 64 0) 0 0).toArray 97)).setRow z2.heap.size (digL hh0 (List.replicate 64 0) 0 0).toArray := ⟨_, rfl⟩
        have Z3 : Hid (Dig z3 z2.heap.size [] ∧ Blk z3 g4 23 (u8l (List.replicate 32 0)).toArray ∧ Blk z3 gi 92 (u8l (padK ks 54)).toArray ∧ Blk z3 go 92 (u8l (padK ks 92)).toArray ∧ Below g4 w z3 ∧ go < z2.heap.size) := Lib.hid (qq (show Below z2.heap.size z2 z3 by rw [hz3]; exact below_setRow ((Below.refl _ _).alloc (Nat.le_refl _) _) (Nat.le_refl _) _) fun q => ⟨⟨List.replicate 64 0, ⟨by rw [hz3]; exact setRow_heap _ _ _ _ _ _ (Blk.new z2 97 _), h0_ok, by simp, by simp⟩, rfl, by simp⟩, (F.out.1.below hb).below q, (F.out.2.1.below hb).below q, (F.out.2.2.1.below hb).below q, F.out.2.2.2.trans ((hb.mono (by have := F.out.1.lt; omega)).trans (q.mono (by have := (F.out.1.below hb).lt; omega))), (F.out.2.2.1.below hb).lt⟩)
        refine wpL_value (.pointer (some ⟨z2.heap.size, 0, none⟩)) (z2.alloc (.cells (digL (List.replicate 8 0) (List.replicate 64 0) 0 0).toArray 97)) rfl (by kernel_rfl) ?_
        simp only [Act.put, List.setIfInBounds_toArray, List.set_cons_zero, List.set_cons_succ]
        refine wpList_store_rowTo rfl 97 _ _ rfl rfl z2.heap.size (digL hh0 (List.replicate 64 0) 0 0).toArray rfl rfl 97 _ (Blk.new z2 97 _) (by kernel_rfl) (by kernel_rfl) (by kernel_rfl) ?_
        rw [← hz3]
        clear hz3 hb
        generalize z2.heap.size = gd at Z3 ⊢
        go_upto_region 14 with (fail)
        refine wp_region_lit ?_
        refine wpL_pure (.slice (some ⟨gi, 0, none⟩) 64 64) rfl (by kernel_rfl) ?_
        simp only [Act.put, List.setIfInBounds_toArray, List.set_cons_zero, List.set_cons_succ]
        refine wpL_value (.slice (some ⟨z3.heap.size, 0, none⟩) 1 1) (z3.alloc (.cells #[.slice (some ⟨gi, 0, none⟩) 64 64] 32)) rfl (by kernel_rfl) ?_
        simp only [Act.put, List.setIfInBounds_toArray, List.set_cons_zero, List.set_cons_succ]
        obtain ⟨z4, hz4⟩ : ∃ V, V = z3.alloc (.cells #[.slice (some ⟨gi, 0, none⟩) 64 64] 32) := ⟨_, rfl⟩
        rw [← hz4]
        have Z4 : Hid (Dig z4 gd [] ∧ Blk z4 g4 23 (u8l (List.replicate 32 0)).toArray ∧ Blk z4 gi 92 (u8l (padK ks 54)).toArray ∧ Blk z4 go 92 (u8l (padK ks 92)).toArray ∧ Below g4 w z4 ∧ Blk z4 z3.heap.size 32 #[.slice (some ⟨gi, 0, none⟩) 64 64] ∧ gd < z3.heap.size) := Lib.hid (qq (show Below z3.heap.size z3 z4 by rw [hz4]; exact (Below.refl _ _).alloc (Nat.le_refl _) _) fun q => ⟨Z3.out.1.below q, Z3.out.2.1.below q, Z3.out.2.2.1.below q, Z3.out.2.2.2.1.below q, Z3.out.2.2.2.2.1.trans (q.mono (by have := Z3.out.2.1.lt; omega)), by rw [hz4]; exact Blk.new _ _ _, Z3.out.1.lt⟩)
        clear hz4
        generalize z3.heap.size = gs at Z4 ⊢
        refine wpL_call 49 #[.pointer (some ⟨gd, 0, none⟩), .slice (some ⟨gs, 0, none⟩) 1 1] rfl (by kernel_rfl) (((write_any z4 gd [] (some ⟨gs, 0, none⟩) 1 1 [padK ks 54] Z4.out.1 (fun X hX => psl_one (Z4.out.2.2.2.2.2.1.grown hX (by have := Z4.out.2.2.2.2.2.2; simp; omega)) (sl_blk (Z4.out.2.2.1.grown hX (by have h3 := B3.out.2.2.2.2; have h4 := Z3.out.2.2.2.2.2; simp; omega)) (padK_len ks 54) (padK_byte ks 54 KB.out (by omega)) (by omega)) (by omega)) (fun _ p hp => by cases hp; have := Z4.out.2.2.2.2.2.2; show gs ≠ gd; omega) (by omega) (HT.out.below (by rw [G4.out]; exact Z4.out.2.2.2.2.1)) (by have h1 := HT.out.lt; have h2 := G4.out; have h3 := B3.out.2.2.2.2; have h4 := Z3.out.2.2.2.2.2; omega))).mono fun e z5 ⟨he, q1, q2⟩ => ⟨.tuple #[], he, ?_⟩)
        simp only [Act.put, List.setIfInBounds_toArray, List.set_cons_zero, List.set_cons_succ]
        have Z5 : Hid (Dig z5 gd (padK ks 54) ∧ Blk z5 g4 23 (u8l (List.replicate 32 0)).toArray ∧ Blk z5 go 92 (u8l (padK ks 92)).toArray ∧ Below g4 w z5) := Lib.hid ⟨by simpa using q1, Z4.out.2.1.grown q2 (by have h3 := B3.out.2.2.2.2; have h4 := Z3.out.2.2.2.2.2; simp; omega), Z4.out.2.2.2.1.grown q2 (by have h4 := Z3.out.2.2.2.2.2; simp; omega), Z4.out.2.2.2.2.1.trans (gb_below q2 (by have h3 := B3.out.2.2.2.2; have h4 := Z3.out.2.2.2.2.2; omega) (by have := Z4.out.2.1.lt; omega))⟩
        clear q1 q2
        go_upto_region 15 with (fail)
        refine wp_region_lit ?_
        refine wpL_pure (.slice pa pl pc) rfl (by kernel_rfl) ?_
        simp only [Act.put, List.setIfInBounds_toArray, List.set_cons_zero, List.set_cons_succ]
        refine wpL_call 49 #[.pointer (some ⟨gd, 0, none⟩), .slice pa pl pc] rfl (by kernel_rfl) (((write_any z5 gd (padK ks 54) pa pl pc L Z5.out.1 (fun X hX => HP.out.below (by rw [G4.out]; exact Z5.out.2.2.2.trans (gb_below hX (by have h3 := B3.out.2.2.2.2; have h4 := Z3.out.2.2.2.2.2; omega) (by have := Z5.out.2.1.lt; omega)))) (fun h0 p hp => by obtain ⟨g, o, _, _, _, e, hc, _⟩ := HP.out.2.2 0 h0; rw [hp] at e; cases e; have h1 := World.block_lt_of_cell? w _ hc; have h2 := G4.out; have h3 := B3.out.2.2.2.2; have h4 := Z3.out.2.2.2.2.2; simp at h1; show g ≠ gd; omega) HLN.out (HT.out.below (by rw [G4.out]; exact Z5.out.2.2.2)) (by have h1 := HT.out.lt; have h2 := G4.out; have h3 := B3.out.2.2.2.2; have h4 := Z3.out.2.2.2.2.2; omega))).mono fun e z6 ⟨he, q1, q2⟩ => ⟨.tuple #[], he, ?_⟩)
        simp only [Act.put, List.setIfInBounds_toArray, List.set_cons_zero, List.set_cons_succ]
        have Z6 : Hid (Dig z6 gd (padK ks 54 ++ L.flatten) ∧ Blk z6 g4 23 (u8l (List.replicate 32 0)).toArray ∧ Blk z6 go 92 (u8l (padK ks 92)).toArray ∧ Below g4 w z6) := Lib.hid ⟨q1, Z5.out.2.1.grown q2 (by have h3 := B3.out.2.2.2.2; have h4 := Z3.out.2.2.2.2.2; simp; omega), Z5.out.2.2.1.grown q2 (by have h4 := Z3.out.2.2.2.2.2; simp; omega), Z5.out.2.2.2.trans (gb_below q2 (by have h3 := B3.out.2.2.2.2; have h4 := Z3.out.2.2.2.2.2; omega) (by have := Z5.out.2.1.lt; omega))⟩
        clear q1 q2
        go_upto_region 16 with (fail)
        refine wp_region_lit ?_
        refine wpL_call 50 #[.pointer (some ⟨gd, 0, none⟩)] rfl (by kernel_rfl) (((dend_any z6 gd (padK ks 54 ++ L.flatten) Z6.out.1 (HT.out.below (by rw [G4.out]; exact Z6.out.2.2.2)) (by have h1 := HT.out.lt; have h2 := G4.out; have h3 := B3.out.2.2.2.2; have h4 := Z3.out.2.2.2.2.2; omega))).mono fun e z7 ⟨he, q2⟩ => ⟨.agg (u8l (shaS (padK ks 54 ++ L.flatten))).toArray, he, ?_⟩)
        simp only [Act.put, List.setIfInBounds_toArray, List.set_cons_zero, List.set_cons_succ]
        have Z7 : Hid (Blk z7 g4 23 (u8l (List.replicate 32 0)).toArray ∧ Blk z7 go 92 (u8l (padK ks 92)).toArray ∧ Below g4 w z7) := Lib.hid ⟨Z6.out.2.1.grown q2 (by have h3 := B3.out.2.2.2.2; have h4 := Z3.out.2.2.2.2.2; simp; omega), Z6.out.2.2.1.grown q2 (by have h4 := Z3.out.2.2.2.2.2; simp; omega), Z6.out.2.2.2.trans (gb_below q2 (by have h3 := B3.out.2.2.2.2; have h4 := Z3.out.2.2.2.2.2; omega) (by have := Z6.out.2.1.lt; omega))⟩
        clear q2
        obtain ⟨z8, hz8⟩ : ∃ V, V = (z7.alloc (.cells (u8l (List.replicate 32 0)).toArray 23)).setRow z7.heap.size (u8l (shaS (padK ks 54 ++ L.flatten))).toArray := ⟨_, rfl⟩
        have Z8 : Hid (Blk z8 g4 23 (u8l (List.replicate 32 0)).toArray ∧ Blk z8 go 92 (u8l (padK ks 92)).toArray ∧ Below g4 w z8 ∧ Blk z8 z7.heap.size 23 (u8l (shaS (padK ks 54 ++ L.flatten))).toArray) := Lib.hid (qq (show Below z7.heap.size z7 z8 by rw [hz8]; exact below_setRow ((Below.refl _ _).alloc (Nat.le_refl _) _) (Nat.le_refl _) _) fun q => ⟨Z7.out.1.below q, Z7.out.2.1.below q, Z7.out.2.2.trans (q.mono (by have := Z7.out.1.lt; omega)), by rw [hz8]; exact setRow_heap _ _ _ _ _ _ (Blk.new z7 23 _)⟩)
        refine wpL_value (.pointer (some ⟨z7.heap.size, 0, none⟩)) (z7.alloc (.cells (u8l (List.replicate 32 0)).toArray 23)) rfl (by kernel_rfl) ?_
        simp only [Act.put, List.setIfInBounds_toArray, List.set_cons_zero, List.set_cons_succ]
        refine wpList_store_rowTo rfl 23 _ _ rfl rfl z7.heap.size (u8l (shaS (padK ks 54 ++ L.flatten))).toArray rfl rfl 23 _ (Blk.new z7 23 _) (by simp only [List.size_toArray, u8l_len, shaS_len]; kernel_rfl) (by simp [u8l_len, shaS_len]) (u8l_one _) ?_
        rw [← hz8]
        clear hz8 Z7
        generalize z7.heap.size = gt at Z8 ⊢
        go_upto_region 17 with (fail)
        refine region_held (fun X => Blk X g4 23 (u8l (List.replicate 32 0)).toArray ∧ Blk X go 92 (u8l (padK ks 92)).toArray ∧ Below g4 w X ∧ Blk X gt 23 (u8l (shaS (padK ks 54 ++ L.flatten))).toArray) 2 (by kernel_rfl) (by kernel_rfl) (by exact ⟨Z8.out.1, Z8.out.2.1, Z8.out.2.2.1.drew, Z8.out.2.2.2⟩) ?_
        simp only [List.take_succ_cons, List.take_zero, List.drop_succ_cons, List.drop_zero]
        refine wpHeld_cons (.slice (some ⟨go, 0, none⟩) 64 64) rfl (fun w h => heldRun_value (by kernel_rfl) h) ?_
        simp only [Act.put, List.setIfInBounds_toArray, List.set_cons_zero, List.set_cons_succ]
        refine wpHeld_cons (.slice (some ⟨gt, 0, none⟩) 32 32) rfl (fun w h => heldRun_value (by kernel_rfl) h) ?_
        simp only [Act.put, List.setIfInBounds_toArray, List.set_cons_zero, List.set_cons_succ]
        refine wpHeld_nil ?_
        intro z9 h
        have Z9 := Lib.hid h
        clear h Z8
        obtain ⟨v1, hv1⟩ : ∃ V, V = z9.alloc (.cells #[.slice (some ⟨go, 0, none⟩) 64 64, .slice (some ⟨gt, 0, none⟩) 32 32] 32) := ⟨_, rfl⟩
        have V1 : Hid (Blk v1 g4 23 (u8l (List.replicate 32 0)).toArray ∧ Below g4 w v1 ∧ PSl v1 (some ⟨z9.heap.size, 0, none⟩) 2 [padK ks 92, shaS (padK ks 54 ++ L.flatten)]) := Lib.hid (qq (show Below z9.heap.size z9 v1 by rw [hv1]; exact (Below.refl _ _).alloc (Nat.le_refl _) _) fun q => ⟨Z9.out.1.below q, Z9.out.2.2.1.trans (q.mono (by have := Z9.out.1.lt; omega)), psl_two (by rw [hv1]; exact Blk.new _ _ _) (sl_blk (Z9.out.2.1.below q) (padK_len ks 92) (padK_byte ks 92 KB.out (by omega)) (by omega)) (sl_blk (Z9.out.2.2.2.below q) (shaS_len _) (shaS_byte _) (by omega)) (by omega) (by omega)⟩)
        refine wpL_value (.slice (some ⟨z9.heap.size, 0, none⟩) 2 2) (v1) rfl (by rw [hv1]; kernel_rfl) ?_
        simp only [Act.put, List.setIfInBounds_toArray, List.set_cons_zero, List.set_cons_succ]
        refine wpL_call 47 #[.slice (some ⟨z9.heap.size, 0, none⟩) 2 2] rfl (by kernel_rfl) (((sum_any v1 (some ⟨z9.heap.size, 0, none⟩) 2 2 [padK ks 92, shaS (padK ks 54 ++ L.flatten)] V1.out.2.2 (by omega) (HT.out.below (by rw [G4.out]; exact V1.out.2.1)) (HH.out.below (by rw [G4.out]; exact V1.out.2.1)))).mono fun e v2 ⟨he, hb⟩ => ⟨.agg (u8l (macS ks L.flatten)).toArray, (he.trans (by rw [mac_flat])), ?_⟩)
        simp only [Act.put, List.setIfInBounds_toArray, List.set_cons_zero, List.set_cons_succ]
        have V2 : Hid (Blk v2 g4 23 (u8l (List.replicate 32 0)).toArray ∧ Below g4 w v2) := Lib.hid ⟨V1.out.1.below hb, V1.out.2.1.trans (hb.mono (by have := V1.out.1.lt; omega))⟩
        clear hb
        refine wpList_store_rowTo rfl 23 _ _ rfl rfl g4 (u8l (macS ks L.flatten)).toArray rfl rfl 23 _ V2.out.1 (by simp only [List.size_toArray, u8l_len, macS_len]; kernel_rfl) (by simp [u8l_len, macS_len]) (u8l_one _) ?_
        go_wp2_with fail
        refine bodyPost_ret (results_cell_row rfl _ _ g4 23 _ (0, 0) _ rfl (setRow_heap _ _ _ _ _ _ V2.out.1) Tryd.underlying23 rfl (by simp only [List.size_toArray, u8l_len, macS_len]; kernel_rfl)) rfl ?_
        exact ⟨rfl, by rw [G4.out]; exact below_setRow V2.out.2 (Nat.le_refl _) _⟩
end Go.Proofs.YtfhjfpgfbeiacaaDoor.Ha
