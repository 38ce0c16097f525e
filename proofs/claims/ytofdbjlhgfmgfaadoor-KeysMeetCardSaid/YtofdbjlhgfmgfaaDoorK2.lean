/- The keys of an epoch. -/
import Derived.Test.YtofdbjlhgfmgfaaDoorHaH20
import Derived.Test.YtofdbjlhgfmgfaaDoorHaBT
namespace Go.Proofs.YtofdbjlhgfmgfaaDoor.Ha
open Go Go.RowKit
set_option maxRecDepth 100000
def labB : List Int := [106, 97, 108, 111, 117, 115, 105, 101, 32, 98, 111, 100, 121]
def labC : List Int := [106, 97, 108, 111, 117, 115, 105, 101, 32, 99, 111, 100, 101]
def labT : List Int := [106, 97, 108, 111, 117, 115, 105, 101, 32, 116, 97, 103]
def labI : List Int := [106, 97, 108, 111, 117, 115, 105, 101, 32, 105, 116, 101, 109]
def setL (ks : List Int) : List Value := (u8l (macS ks (labB ++ [1]))) ++ ((u8l (macS ks (labC ++ [1]))) ++ ((u8l (macS ks (labT ++ [1]))) ++ (u8l (macS ks (labI ++ [1])))))
theorem setL_len {ks : List Int} : (setL ks).length = 128 := by
  simp only [setL, List.length_append, u8l_len, macS_len]
theorem setL_one {ks : List Int} : (setL ks).toArray.all (·.oneCell') = true := by
  have h : setL ks = u8l (macS ks (labB ++ [1]) ++ (macS ks (labC ++ [1]) ++ (macS ks (labT ++ [1]) ++ macS ks (labI ++ [1])))) := by simp [setL, u8l]
  rw [h]
  exact u8l_one _
theorem list_cons {n : Nat} {l : List Int} (h : l.length = n + 1) : ∃ x r, l = x :: r ∧ r.length = n := by
  cases l with
  | nil => cases h
  | cons x r => exact ⟨x, r, rfl, by simpa using h⟩
theorem list32 {l : List Int} (h : l.length = 32) : ∃ x0 x1 x2 x3 x4 x5 x6 x7 x8 x9 x10 x11 x12 x13 x14 x15 x16 x17 x18 x19 x20 x21 x22 x23 x24 x25 x26 x27 x28 x29 x30 x31, l = [x0, x1, x2, x3, x4, x5, x6, x7, x8, x9, x10, x11, x12, x13, x14, x15, x16, x17, x18, x19, x20, x21, x22, x23, x24, x25, x26, x27, x28, x29, x30, x31] := by
  obtain ⟨x0, l0, e0, h0⟩ := list_cons h
  obtain ⟨x1, l1, e1, h1⟩ := list_cons h0
  obtain ⟨x2, l2, e2, h2⟩ := list_cons h1
  obtain ⟨x3, l3, e3, h3⟩ := list_cons h2
  obtain ⟨x4, l4, e4, h4⟩ := list_cons h3
  obtain ⟨x5, l5, e5, h5⟩ := list_cons h4
  obtain ⟨x6, l6, e6, h6⟩ := list_cons h5
  obtain ⟨x7, l7, e7, h7⟩ := list_cons h6
  obtain ⟨x8, l8, e8, h8⟩ := list_cons h7
  obtain ⟨x9, l9, e9, h9⟩ := list_cons h8
  obtain ⟨x10, l10, e10, h10⟩ := list_cons h9
  obtain ⟨x11, l11, e11, h11⟩ := list_cons h10
  obtain ⟨x12, l12, e12, h12⟩ := list_cons h11
  obtain ⟨x13, l13, e13, h13⟩ := list_cons h12
  obtain ⟨x14, l14, e14, h14⟩ := list_cons h13
  obtain ⟨x15, l15, e15, h15⟩ := list_cons h14
  obtain ⟨x16, l16, e16, h16⟩ := list_cons h15
  obtain ⟨x17, l17, e17, h17⟩ := list_cons h16
  obtain ⟨x18, l18, e18, h18⟩ := list_cons h17
  obtain ⟨x19, l19, e19, h19⟩ := list_cons h18
  obtain ⟨x20, l20, e20, h20⟩ := list_cons h19
  obtain ⟨x21, l21, e21, h21⟩ := list_cons h20
  obtain ⟨x22, l22, e22, h22⟩ := list_cons h21
  obtain ⟨x23, l23, e23, h23⟩ := list_cons h22
  obtain ⟨x24, l24, e24, h24⟩ := list_cons h23
  obtain ⟨x25, l25, e25, h25⟩ := list_cons h24
  obtain ⟨x26, l26, e26, h26⟩ := list_cons h25
  obtain ⟨x27, l27, e27, h27⟩ := list_cons h26
  obtain ⟨x28, l28, e28, h28⟩ := list_cons h27
  obtain ⟨x29, l29, e29, h29⟩ := list_cons h28
  obtain ⟨x30, l30, e30, h30⟩ := list_cons h29
  obtain ⟨x31, l31, e31, h31⟩ := list_cons h30
  obtain e32 : l31 = [] := List.eq_nil_of_length_eq_zero h31
  rw [e0, e1, e2, e3, e4, e5, e6, e7, e8, e9, e10, e11, e12, e13, e14, e15, e16, e17, e18, e19, e20, e21, e22, e23, e24, e25, e26, e27, e28, e29, e30, e31, e32]
  exact ⟨x0, x1, x2, x3, x4, x5, x6, x7, x8, x9, x10, x11, x12, x13, x14, x15, x16, x17, x18, x19, x20, x21, x22, x23, x24, x25, x26, x27, x28, x29, x30, x31, rfl⟩
theorem built_set (m0 m1 m2 m3 : List Int) (h0 : m0.length = 32) (h1 : m1.length = 32) (h2 : m2.length = 32) (h3 : m3.length = 32) :
    Tryd.prog.built 30 [(0, .agg (u8l m0).toArray), (1, .agg (u8l m1).toArray), (2, .agg (u8l m2).toArray), (3, .agg (u8l m3).toArray)] = some (u8l m0 ++ (u8l m1 ++ (u8l m2 ++ u8l m3))).toArray := by
  obtain ⟨a0, a1, a2, a3, a4, a5, a6, a7, a8, a9, a10, a11, a12, a13, a14, a15, a16, a17, a18, a19, a20, a21, a22, a23, a24, a25, a26, a27, a28, a29, a30, a31, rfl⟩ := list32 h0
  obtain ⟨b0, b1, b2, b3, b4, b5, b6, b7, b8, b9, b10, b11, b12, b13, b14, b15, b16, b17, b18, b19, b20, b21, b22, b23, b24, b25, b26, b27, b28, b29, b30, b31, rfl⟩ := list32 h1
  obtain ⟨c0, c1, c2, c3, c4, c5, c6, c7, c8, c9, c10, c11, c12, c13, c14, c15, c16, c17, c18, c19, c20, c21, c22, c23, c24, c25, c26, c27, c28, c29, c30, c31, rfl⟩ := list32 h2
  obtain ⟨d0, d1, d2, d3, d4, d5, d6, d7, d8, d9, d10, d11, d12, d13, d14, d15, d16, d17, d18, d19, d20, d21, d22, d23, d24, d25, d26, d27, d28, d29, d30, d31, rfl⟩ := list32 h3
  kernel_rfl
theorem run_set (a : Act) (o : Oper) (w : World) (x0 x1 x2 x3 : Operand) (m0 m1 m2 m3 : List Int) (ho : o.op = .build 30 #[(0, x0), (1, x1), (2, x2), (3, x3)]) (e0 : a.eval x0 = .agg (u8l m0).toArray) (e1 : a.eval x1 = .agg (u8l m1).toArray) (e2 : a.eval x2 = .agg (u8l m2).toArray) (e3 : a.eval x3 = .agg (u8l m3).toArray)
    (h0 : m0.length = 32) (h1 : m1.length = 32) (h2 : m2.length = 32) (h3 : m3.length = 32) : (execOp a.eval o).run Tryd.prog w = .ok (.value (.agg (u8l m0 ++ (u8l m1 ++ (u8l m2 ++ u8l m3))).toArray)) w := by
  have r := run_build (P := Tryd.prog) w 30 #[(0, .agg (u8l m0).toArray), (1, .agg (u8l m1).toArray), (2, .agg (u8l m2).toArray), (3, .agg (u8l m3).toArray)] _ (built_set m0 m1 m2 m3 h0 h1 h2 h3)
  unfold execOp
  simp only [ho]
  have e : (#[(0, x0), (1, x1), (2, x2), (3, x3)] : Array (Nat × Operand)).map (fun (i, x) => (i, a.eval x)) = #[(0, .agg (u8l m0).toArray), (1, .agg (u8l m1).toArray), (2, .agg (u8l m2).toArray), (3, .agg (u8l m3).toArray)] := by simp [e0, e1, e2, e3]
  rw [e]
  simp only [Sem.run_bind, r, Result.andThen_ok, Sem.run_pure]
theorem derive_s (w : World) (ks bs : List Int) (s : ByteArray) (hs : s = strOfNums bs) (hk : ks.length = 32) (hkb : ∀ x ∈ ks, 0 ≤ x ∧ x ≤ 255) (hb : ∀ x ∈ bs, 0 ≤ x ∧ x ≤ 255) (hn : bs.length ≤ 100000) (hT : TabK w) (hH : TabH w) :
    Calls Tryd.prog 27 #[.agg (u8l ks).toArray, .string s] w fun e w' => e = .returned (.agg (u8l (macS ks (bs ++ [1]))).toArray) ∧ Below w.heap.size w w' := by
  rw [hs]
  exact derive_any w ks bs hk hkb hb hn hT hH
attribute [local irreducible] wpList
set_option maxHeartbeats 8000000 in
set_option maxRecDepth 100000 in
theorem of_any (w : World) (ks : List Int) (hk : ks.length = 32) (hkb : ∀ v ∈ ks, 0 ≤ v ∧ v ≤ 255) (hT : TabK w) (hH : TabH w) :
    Calls Tryd.prog 12 #[.agg (u8l ks).toArray] w fun e w' => e = .returned (.agg (setL ks).toArray) ∧ Below w.heap.size w w' := by
  have HKL := Lib.hid hk
  have HKB := Lib.hid hkb
  have HT := Lib.hid hT
  have HH := Lib.hid hH
  clear hk hkb hT hH
  go_enter Tryd.func12, Tryd.ntmps12
  obtain ⟨w1, hw1⟩ : ∃ V, V = w.alloc (.cells (u8l ks).toArray 23) := ⟨_, rfl⟩
  obtain ⟨w2, hw2⟩ : ∃ V, V = w1.alloc (.cells (u8l (List.replicate 128 0)).toArray 30) := ⟨_, rfl⟩
  have B2 : Hid (Blk w2 w.heap.size 23 (u8l ks).toArray ∧ Blk w2 w1.heap.size 30 (u8l (List.replicate 128 0)).toArray ∧ Below w.heap.size w w2 ∧ w.heap.size < w1.heap.size ∧ w1.heap.size < w2.heap.size) := Lib.hid (by
    have q1 : Below w.heap.size w w1 := by rw [hw1]; exact (Below.refl _ _).alloc (Nat.le_refl _) _
    have q2 : Below w1.heap.size w1 w2 := by rw [hw2]; exact (Below.refl _ _).alloc (Nat.le_refl _) _
    have b1 : Blk w1 w.heap.size 23 (u8l ks).toArray := by rw [hw1]; exact Blk.new _ _ _
    exact ⟨b1.below q2, by rw [hw2]; exact Blk.new _ _ _, q1.trans (q2.mono q1.size), b1.lt, by rw [hw2]; simp⟩)
  go_upto_region 0 with (fail)
  refine wp_region_lit ?_
  refine wpL_value (.pointer (some ⟨w.heap.size, 0, none⟩)) (w1) rfl (run_box26 _ _ _ _ _ ks rfl rfl HKL.out hw1) ?_
  simp only [Act.put, List.setIfInBounds_toArray, List.set_cons_zero, List.set_cons_succ]
  refine wpL_value (.pointer (some ⟨w1.heap.size, 0, none⟩)) (w2) rfl (by rw [hw2]; kernel_rfl) ?_
  simp only [Act.put, List.setIfInBounds_toArray, List.set_cons_zero, List.set_cons_succ]
  clear hw1 hw2
  obtain ⟨g2, h2⟩ : ∃ q, w.heap.size = q := ⟨_, rfl⟩
  have G2 : Hid (w.heap.size = g2) := Lib.hid h2
  rw [h2] at B2
  try rw [h2]
  clear h2
  generalize w1.heap.size = g4 at B2 ⊢
  have A0 : Hid (Below g2 w w2.drew ∧ Blk w2.drew g2 23 (u8l ks).toArray ∧ Blk w2.drew g4 30 (u8l (List.replicate 128 0)).toArray ∧ TabK w2.drew ∧ TabH w2.drew) := Lib.hid ⟨B2.out.2.2.1.drew, B2.out.1.drew, B2.out.2.1.drew, HT.out.below (by rw [G2.out]; exact B2.out.2.2.1.drew), HH.out.below (by rw [G2.out]; exact B2.out.2.2.1.drew)⟩
  go_upto_region 1 with (fail)
  refine region_anyT (fun X => Below g2 w X ∧ Blk X g2 23 (u8l ks).toArray ∧ Blk X g4 30 (u8l (List.replicate 128 0)).toArray ∧ TabK X ∧ TabH X) (by kernel_rfl) 9 10 rfl ?_
  refine wpAnyT_take (i := 0) (oi := ⟨some 3, _, _, _, _, _⟩) (v := .agg (u8l ks).toArray) rfl (by kernel_rfl) (by kernel_rfl) (by kernel_rfl) (fun _ _ _ h => h) (by kernel_rfl) (Or.inl ⟨rfl, fun w h => run_load_mid _ _ _ 23 _ rfl g2 0 rfl (u8l ks) _ (blk_range (h.2.1)) Tryd.underlying23 rfl (by simp only [u8l_len, HKL.out]; kernel_rfl)⟩) A0.out ?_
  simp only [Act.put, List.setIfInBounds_toArray, List.set_cons_zero, List.set_cons_succ]
  refine wpAnyT_take (i := 2) (oi := ⟨some 5, _, _, _, _, _⟩) (v := .agg (u8l ks).toArray) rfl (by kernel_rfl) (by kernel_rfl) (by kernel_rfl) (fun _ _ _ h => h) (by kernel_rfl) (Or.inl ⟨rfl, fun w h => run_load_mid _ _ _ 23 _ rfl g2 0 rfl (u8l ks) _ (blk_range (h.2.1)) Tryd.underlying23 rfl (by simp only [u8l_len, HKL.out]; kernel_rfl)⟩) A0.out ?_
  simp only [Act.put, List.setIfInBounds_toArray, List.set_cons_zero, List.set_cons_succ]
  refine wpAnyT_take (i := 4) (oi := ⟨some 7, _, _, _, _, _⟩) (v := .agg (u8l ks).toArray) rfl (by kernel_rfl) (by kernel_rfl) (by kernel_rfl) (fun _ _ _ h => h) (by kernel_rfl) (Or.inl ⟨rfl, fun w h => run_load_mid _ _ _ 23 _ rfl g2 0 rfl (u8l ks) _ (blk_range (h.2.1)) Tryd.underlying23 rfl (by simp only [u8l_len, HKL.out]; kernel_rfl)⟩) A0.out ?_
  simp only [Act.put, List.setIfInBounds_toArray, List.set_cons_zero, List.set_cons_succ]
  refine wpAnyT_take (i := 6) (oi := ⟨some 9, _, _, _, _, _⟩) (v := .agg (u8l ks).toArray) rfl (by kernel_rfl) (by kernel_rfl) (by kernel_rfl) (fun _ _ _ h => h) (by kernel_rfl) (Or.inl ⟨rfl, fun w h => run_load_mid _ _ _ 23 _ rfl g2 0 rfl (u8l ks) _ (blk_range (h.2.1)) Tryd.underlying23 rfl (by simp only [u8l_len, HKL.out]; kernel_rfl)⟩) A0.out ?_
  simp only [Act.put, List.setIfInBounds_toArray, List.set_cons_zero, List.set_cons_succ]
  refine wpAnyT_one (i := 1) (by kernel_rfl) ?_
  refine op_call (o := ⟨some 4, _, _, _, _, _⟩) 27 #[.agg (u8l ks).toArray, .string { data := #[106, 97, 108, 111, 117, 115, 105, 101, 32, 98, 111, 100, 121] }] rfl rfl (by kernel_rfl) (((derive_s w2.drew ks labB _ (by kernel_rfl) HKL.out HKB.out (by decide) (by decide) (A0.out.2.2.2.1) (A0.out.2.2.2.2))).mono fun e s1 ⟨he, qs1⟩ => ⟨.agg (u8l (macS ks (labB ++ [1]))).toArray, he, ?_, ?_⟩)
  · exact fun _ => ⟨A0.out.1.trans (qs1.mono (by have := (A0.out.2.1).lt; omega)), A0.out.2.1.below qs1, A0.out.2.2.1.below qs1, A0.out.2.2.2.1.below qs1, A0.out.2.2.2.2.below qs1⟩
  simp only [Act.put, List.setIfInBounds_toArray, List.set_cons_zero, List.set_cons_succ]
  have Fs1 := Lib.hid (show Below g2 w s1 ∧ Blk s1 g2 23 (u8l ks).toArray ∧ Blk s1 g4 30 (u8l (List.replicate 128 0)).toArray ∧ TabK s1 ∧ TabH s1 from ⟨A0.out.1.trans (qs1.mono (by have := (A0.out.2.1).lt; omega)), A0.out.2.1.below qs1, A0.out.2.2.1.below qs1, A0.out.2.2.2.1.below qs1, A0.out.2.2.2.2.below qs1⟩)
  clear qs1
  refine wpAnyT_one (i := 3) (by kernel_rfl) ?_
  refine op_call (o := ⟨some 6, _, _, _, _, _⟩) 27 #[.agg (u8l ks).toArray, .string { data := #[106, 97, 108, 111, 117, 115, 105, 101, 32, 99, 111, 100, 101] }] rfl rfl (by kernel_rfl) (((derive_s s1 ks labC _ (by kernel_rfl) HKL.out HKB.out (by decide) (by decide) (Fs1.out.2.2.2.1) (Fs1.out.2.2.2.2))).mono fun e s2 ⟨he, qs2⟩ => ⟨.agg (u8l (macS ks (labC ++ [1]))).toArray, he, ?_, ?_⟩)
  · exact fun _ => ⟨Fs1.out.1.trans (qs2.mono (by have := (Fs1.out.2.1).lt; omega)), Fs1.out.2.1.below qs2, Fs1.out.2.2.1.below qs2, Fs1.out.2.2.2.1.below qs2, Fs1.out.2.2.2.2.below qs2⟩
  simp only [Act.put, List.setIfInBounds_toArray, List.set_cons_zero, List.set_cons_succ]
  have Fs2 := Lib.hid (show Below g2 w s2 ∧ Blk s2 g2 23 (u8l ks).toArray ∧ Blk s2 g4 30 (u8l (List.replicate 128 0)).toArray ∧ TabK s2 ∧ TabH s2 from ⟨Fs1.out.1.trans (qs2.mono (by have := (Fs1.out.2.1).lt; omega)), Fs1.out.2.1.below qs2, Fs1.out.2.2.1.below qs2, Fs1.out.2.2.2.1.below qs2, Fs1.out.2.2.2.2.below qs2⟩)
  clear qs2
  refine wpAnyT_one (i := 5) (by kernel_rfl) ?_
  refine op_call (o := ⟨some 8, _, _, _, _, _⟩) 27 #[.agg (u8l ks).toArray, .string { data := #[106, 97, 108, 111, 117, 115, 105, 101, 32, 116, 97, 103] }] rfl rfl (by kernel_rfl) (((derive_s s2 ks labT _ (by kernel_rfl) HKL.out HKB.out (by decide) (by decide) (Fs2.out.2.2.2.1) (Fs2.out.2.2.2.2))).mono fun e s3 ⟨he, qs3⟩ => ⟨.agg (u8l (macS ks (labT ++ [1]))).toArray, he, ?_, ?_⟩)
  · exact fun _ => ⟨Fs2.out.1.trans (qs3.mono (by have := (Fs2.out.2.1).lt; omega)), Fs2.out.2.1.below qs3, Fs2.out.2.2.1.below qs3, Fs2.out.2.2.2.1.below qs3, Fs2.out.2.2.2.2.below qs3⟩
  simp only [Act.put, List.setIfInBounds_toArray, List.set_cons_zero, List.set_cons_succ]
  have Fs3 := Lib.hid (show Below g2 w s3 ∧ Blk s3 g2 23 (u8l ks).toArray ∧ Blk s3 g4 30 (u8l (List.replicate 128 0)).toArray ∧ TabK s3 ∧ TabH s3 from ⟨Fs2.out.1.trans (qs3.mono (by have := (Fs2.out.2.1).lt; omega)), Fs2.out.2.1.below qs3, Fs2.out.2.2.1.below qs3, Fs2.out.2.2.2.1.below qs3, Fs2.out.2.2.2.2.below qs3⟩)
  clear qs3
  refine wpAnyT_one (i := 7) (by kernel_rfl) ?_
  refine op_call (o := ⟨some 10, _, _, _, _, _⟩) 27 #[.agg (u8l ks).toArray, .string { data := #[106, 97, 108, 111, 117, 115, 105, 101, 32, 105, 116, 101, 109] }] rfl rfl (by kernel_rfl) (((derive_s s3 ks labI _ (by kernel_rfl) HKL.out HKB.out (by decide) (by decide) (Fs3.out.2.2.2.1) (Fs3.out.2.2.2.2))).mono fun e s4 ⟨he, qs4⟩ => ⟨.agg (u8l (macS ks (labI ++ [1]))).toArray, he, ?_, ?_⟩)
  · exact fun _ => ⟨Fs3.out.1.trans (qs4.mono (by have := (Fs3.out.2.1).lt; omega)), Fs3.out.2.1.below qs4, Fs3.out.2.2.1.below qs4, Fs3.out.2.2.2.1.below qs4, Fs3.out.2.2.2.2.below qs4⟩
  simp only [Act.put, List.setIfInBounds_toArray, List.set_cons_zero, List.set_cons_succ]
  have Fs4 := Lib.hid (show Below g2 w s4 ∧ Blk s4 g2 23 (u8l ks).toArray ∧ Blk s4 g4 30 (u8l (List.replicate 128 0)).toArray ∧ TabK s4 ∧ TabH s4 from ⟨Fs3.out.1.trans (qs4.mono (by have := (Fs3.out.2.1).lt; omega)), Fs3.out.2.1.below qs4, Fs3.out.2.2.1.below qs4, Fs3.out.2.2.2.1.below qs4, Fs3.out.2.2.2.2.below qs4⟩)
  clear qs4
  refine wpAnyT_take (i := 8) (oi := ⟨some 11, _, _, _, _, _⟩) (v := .agg (setL ks).toArray) rfl (by kernel_rfl) (by kernel_rfl) (by kernel_rfl) (fun _ _ _ h => h) (by kernel_rfl) (Or.inl ⟨rfl, fun w h => run_set _ _ _ _ _ _ _ _ _ _ _ rfl rfl rfl rfl rfl (macS_len _ _) (macS_len _ _) (macS_len _ _) (macS_len _ _)⟩) Fs4.out ?_
  simp only [Act.put, List.setIfInBounds_toArray, List.set_cons_zero, List.set_cons_succ]
  refine wpAnyT_tail _ _ _ _ (headB_spec (by kernel_rfl)) ?_
  refine wpAny_of_idx [9] [⟨none, _, _, _, _, _⟩] _ _ _ (by rfl) (by kernel_rfl) ?_
  refine wpList_store_rowTo rfl 30 _ _ rfl rfl g4 (setL ks).toArray rfl rfl 30 _ (Fs4.out.2.2.1) (by simp only [List.size_toArray, setL_len]; kernel_rfl) (by simp [setL_len, u8l_len]) setL_one ?_
  go_wp2_with fail
  refine bodyPost_ret (results_cell_row rfl _ _ g4 30 _ (0, 0) _ rfl (setRow_heap _ _ _ _ _ _ (Fs4.out.2.2.1)) Tryd.underlying30 rfl (by simp only [List.size_toArray, setL_len]; kernel_rfl)) rfl ?_
  exact ⟨rfl, by rw [G2.out]; exact below_setRow (Fs4.out.1) (by have := B2.out.2.2.2; omega) _⟩
end Go.Proofs.YtofdbjlhgfmgfaaDoor.Ha
