/- Whether a head, torn on its way, could tell a state that never was. -/
import Derived.Test.YteabblmhcjpboaaC6
namespace Go.Proofs.Yteabblmhcjpboaa.D
open Go Go.RowKit
set_option maxRecDepth 100000
theorem own_slice64 {w : World} {B : Nat} {v : Value} {xs : List Int} (h : Own w B v xs) (hx : xs.length = 64) : ∃ g c, v = .slice (some ⟨g, 0, none⟩) 64 c ∧ Row w (some ⟨g, 0, none⟩) 64 xs ∧ 64 ≤ c ∧ c < 9223372036854775808 ∧ B ≤ g := by
  obtain ⟨g, c, e⟩ := own64 h hx
  subst e
  have q := h.row
  refine ⟨g, c, rfl, q.1, q.2, ?_, (h.lt g rfl).1⟩
  rcases h.form with ⟨e, _⟩ | ⟨_, _, _, e, _, _, _, h5, _⟩
  · simp at e
  · simp only [Value.slice.injEq] at e
    obtain ⟨_, _, rfl⟩ := e
    unfold maxLen at h5; omega
theorem row_from {w : World} {g o : Nat} {xs : List Int} (h : Row w (some ⟨g, o, none⟩) 64 xs) (k : Nat) (hk : k ≤ 64) : Row w (some ⟨g, o + k, none⟩) (64 - k) (xs.drop k) := by
  have q := h.sub k (64 - k) (by omega)
  rwa [List.take_of_length_le (by rw [List.length_drop, h.1]; omega)] at q
def SlipPost (rm s : Nat) (xs : List Int) (s1 c1 : Nat) (nt1 : List Int) (w : World) (e : Ending) (w' : World) : Prop := ∃ z : Bool, e = .returned (.bool z) ∧ Below w.heap.size w w' ∧ (whole xs = true → z = false) ∧
  (whole xs = false → z = false → ∀ j, 1 ≤ j → j < 64 → liesB rm s ((secV s1 c1 nt1).take j ++ xs.drop j) s1 c1 nt1 = false ∧ liesB rm s (xs.take j ++ (secV s1 c1 nt1).drop j) s1 c1 nt1 = false)
attribute [local irreducible] wpList
set_option maxHeartbeats 8000000
theorem slips_any {w : World} {lb b fr rm : Nat} {s c : Nat} {nt : List Int} {v : Value} {ov : Bool} (h : LS w lb b fr rm s c nt v ov) (g o cx : Nat) (xs : List Int) (hr : Row w (some ⟨g, o, none⟩) 64 xs) (hcx : 64 ≤ cx ∧ cx < 9223372036854775808) (s1 c1 : Nat) (nt1 : List Int) (hn : NtOk nt1) (hs : U64 s1) (hc : U64 c1) : Calls Try.prog 47 #[.pointer (some ⟨lb, 0, none⟩), .slice (some ⟨g, o, none⟩) 64 cx, .agg (hdV s1 c1 nt1).toArray] w fun e w' => SlipPost rm s xs s1 c1 nt1 w e w' := by
  have H := Lib.hid h
  have HR := Lib.hid hr
  have CX := Lib.hid hcx
  have NX16 : Hid ((nteL xs).length = 16) := Lib.hid (nte_ok (xs := xs) ⟨hr.1, hr.2.2.1⟩).1
  have NN := Lib.hid (And.intro hn (And.intro hs hc))
  clear h hr hcx hn hs hc
  go_enter Try.func47, Try.ntmps47
  go_upto_region 0 with (fail)
  refine wp_region_lit ?_
  obtain ⟨W1, hW1⟩ : ∃ V, V = w.alloc (.cells (hdV s1 c1 nt1).toArray 64) := ⟨_, rfl⟩
  refine wpL_value (.pointer (some ⟨w.heap.size, 0, none⟩)) W1 rfl (by rw [hW1]; kernel_rfl) ?_
  simp only [Act.put, List.setIfInBounds_toArray, List.set_cons_zero, List.set_cons_succ]
  obtain ⟨g5, hg5⟩ : ∃ q, w.heap.size = q := ⟨_, rfl⟩
  have F1 : Hid (Below w.heap.size w W1 ∧ LS W1 lb b fr rm s c nt v ov ∧ Blk W1 g5 64 (hdV s1 c1 nt1).toArray ∧ Row W1 (some ⟨g, o, none⟩) 64 xs) := Lib.hid (by rw [hW1, ← hg5]; exact ⟨(Below.refl _ _).alloc (Nat.le_refl _) _, H.out.below ((Below.refl _ _).alloc (Nat.le_refl _) _), Blk.new _ _ _, HR.out.keep ((Below.refl _ _).alloc (Nat.le_refl _) _)⟩)
  rw [hg5]
  clear hW1 hg5
  refine wpL_pure (.bool false) rfl (by kernel_rfl) ?_
  simp only [Act.put, List.setIfInBounds_toArray, List.set_cons_zero, List.set_cons_succ]
  obtain ⟨wb, hwb⟩ : ∃ q, whole xs = q := ⟨_, rfl⟩
  have HW := Lib.hid hwb
  clear hwb
  cases wb
  · go_upto_region 1 with (fail)
    refine wp_region_lit ?_
    refine wpL_pure (.slice (some ⟨g, o, none⟩) 64 cx) rfl (by kernel_rfl) ?_
    simp only [Act.put, List.setIfInBounds_toArray, List.set_cons_zero, List.set_cons_succ]
    refine wpL_call 31 #[.slice (some ⟨g, o, none⟩) 64 cx] rfl (by kernel_rfl) ((parse_any _ g o cx xs F1.out.2.2.2 CX.out).mono fun e W2 ⟨he, bb⟩ => ⟨.tuple #[.agg (hdV 0 0 (List.replicate 16 0)).toArray, .bool false], he.trans (by rw [HW.out]; rfl), ?_⟩)
    simp only [Act.put, List.setIfInBounds_toArray, List.set_cons_zero, List.set_cons_succ]
    have F2 : Hid (Below w.heap.size w W2 ∧ LS W2 lb b fr rm s c nt v ov ∧ Blk W2 g5 64 (hdV s1 c1 nt1).toArray ∧ Row W2 (some ⟨g, o, none⟩) 64 xs) := Lib.hid ⟨F1.out.1.trans (bb.mono F1.out.1.size), F1.out.2.1.below bb, F1.out.2.2.1.below bb, F1.out.2.2.2.keep bb⟩
    clear bb
    refine wpL_pure (.tuple #[.agg (hdV 0 0 (List.replicate 16 0)).toArray, .bool false]) rfl (by kernel_rfl) ?_
    simp only [Act.put, List.setIfInBounds_toArray, List.set_cons_zero, List.set_cons_succ]
    refine wpL_pure (.agg (hdV 0 0 (List.replicate 16 0)).toArray) rfl (by kernel_rfl) ?_
    simp only [Act.put, List.setIfInBounds_toArray, List.set_cons_zero, List.set_cons_succ]
    refine wpL_pure (.bool false) rfl (by kernel_rfl) ?_
    simp only [Act.put, List.setIfInBounds_toArray, List.set_cons_zero, List.set_cons_succ]
    obtain ⟨W3, hW3⟩ : ∃ V, V = W2.alloc (.cells (hdV 0 0 (List.replicate 16 0)).toArray 64) := ⟨_, rfl⟩
    refine wpL_value (.pointer (some ⟨W2.heap.size, 0, none⟩)) W3 rfl (by rw [hW3]; kernel_rfl) ?_
    simp only [Act.put, List.setIfInBounds_toArray, List.set_cons_zero, List.set_cons_succ]
    obtain ⟨g7, hg7⟩ : ∃ q, W2.heap.size = q := ⟨_, rfl⟩
    have F3 : Hid (Below w.heap.size w W3 ∧ LS W3 lb b fr rm s c nt v ov ∧ Blk W3 g5 64 (hdV s1 c1 nt1).toArray ∧ Row W3 (some ⟨g, o, none⟩) 64 xs ∧ Blk W3 g7 64 (hdV 0 0 (List.replicate 16 0)).toArray ∧ w.heap.size ≤ g7 ∧ g5 ≠ g7 ∧ lb ≠ g7) := Lib.hid (by rw [hW3, ← hg7]; exact ⟨F2.out.1.alloc F2.out.1.size _, F2.out.2.1.below ((Below.refl _ _).alloc (Nat.le_refl _) _), F2.out.2.2.1.alloc _, F2.out.2.2.2.keep ((Below.refl _ _).alloc (Nat.le_refl _) _), Blk.new _ _ _, F2.out.1.size, Nat.ne_of_lt F2.out.2.2.1.lt, Nat.ne_of_lt F2.out.2.1.1.lt⟩)
    rw [hg7]
    clear hW3 hg7 F2
    refine wpList_store_row rfl 64 _ _ rfl g7 (hdV 0 0 (List.replicate 16 0)).toArray rfl rfl 64 _ (F3.out.2.2.2.2.1) (by simp only [List.size_toArray, hdV, List.length_cons, List.length_map, List.length_replicate, NX16.out] <;> kernel_rfl) (by simp only [List.size_toArray, hdV, List.length_cons, List.length_map, List.length_replicate, NX16.out] <;> rfl) (hd_one _ _ _) ?_
    simp only [Act.put, List.setIfInBounds_toArray, List.set_cons_zero, List.set_cons_succ]
    obtain ⟨W4, hW4⟩ : ∃ V, V = W3.setRow g7 (hdV 0 0 (List.replicate 16 0)).toArray := ⟨_, rfl⟩
    rw [← hW4]
    have F4 : Hid (Below w.heap.size w W4 ∧ LS W4 lb b fr rm s c nt v ov ∧ Blk W4 g5 64 (hdV s1 c1 nt1).toArray ∧ Row W4 (some ⟨g, o, none⟩) 64 xs) := Lib.hid (by rw [hW4]; have bw : Below w.heap.size w (W3.setRow g7 (hdV 0 0 (List.replicate 16 0)).toArray) := below_setRow F3.out.1 F3.out.2.2.2.2.2.1 _; exact ⟨bw, ⟨(setRow_other _ _ _ _ F3.out.2.2.2.2.2.2.2).trans F3.out.2.1.1, F3.out.2.1.2⟩, (setRow_other _ _ _ _ F3.out.2.2.2.2.2.2.1).trans F3.out.2.2.1, HR.out.keep bw⟩)
    clear hW4 F3
    refine wpL_pure (.bool false) rfl (by kernel_rfl) ?_
    simp only [Act.put, List.setIfInBounds_toArray, List.set_cons_zero, List.set_cons_succ]
    go_upto_region 2 with (fail)
    refine wp_region_lit ?_
    refine wpL_pure (.bool false) rfl (by kernel_rfl) ?_
    simp only [Act.put, List.setIfInBounds_toArray, List.set_cons_zero, List.set_cons_succ]
    go_upto_region 4 with (fail)
    refine wp_region_lit ?_
    refine wpL_pure (.agg (hdV s1 c1 nt1).toArray) rfl (run_load_mid _ _ _ 64 _ rfl g5 0 rfl _ _ (blk_range' F4.out.2.2.1) Try.underlying64 rfl (by simp only [List.size_toArray, hd_len NN.out.1]; kernel_rfl)) ?_
    simp only [Act.put, List.setIfInBounds_toArray, List.set_cons_zero, List.set_cons_succ]
    refine wpL_call 50 #[.agg (hdV s1 c1 nt1).toArray] rfl (by kernel_rfl) ((sector_any _ s1 c1 nt1 NN.out.1 NN.out.2.1 NN.out.2.2).mono fun e W5 ⟨v9, he, bb, ho⟩ => ⟨v9, he, ?_⟩)
    simp only [Act.put, List.setIfInBounds_toArray, List.set_cons_zero, List.set_cons_succ]
    obtain ⟨g9, c9, e9, r9, k9, l9, m9⟩ := own_slice64 ho (secV_ok NN.out.1).1
    subst e9
    have F5 : Hid (Below w.heap.size w W5 ∧ LS W5 lb b fr rm s c nt v ov ∧ Blk W5 g5 64 (hdV s1 c1 nt1).toArray ∧ Row W5 (some ⟨g, o, none⟩) 64 xs ∧ Row W5 (some ⟨g9, 0, none⟩) 64 (secV s1 c1 nt1)) := Lib.hid ⟨F4.out.1.trans (bb.mono F4.out.1.size), F4.out.2.1.below bb, F4.out.2.2.1.below bb, F4.out.2.2.2.keep bb, r9⟩
    have C9 : Hid (64 ≤ c9 ∧ c9 < 9223372036854775808) := Lib.hid ⟨k9, l9⟩
    clear bb ho r9 k9 l9 m9 F4
    refine wpL_pure (.slice (some ⟨g9, 0, none⟩) 64 c9) rfl (by kernel_rfl) ?_
    simp only [Act.put, List.setIfInBounds_toArray, List.set_cons_zero, List.set_cons_succ]
    go_upto_region 5 with (fail)
    refine wp_region_lit ?_
    refine wpL_pure (.int .i64 1) rfl (by kernel_rfl) ?_
    simp only [Act.put, List.setIfInBounds_toArray, List.set_cons_zero, List.set_cons_succ]
    unfold wpList
    go_wp2_with fail
    go_loopw [10] (fun s10 wr => ∃ k : Nat, s10 = .int .i64 (k : Int) ∧ Hid ((1 ≤ k ∧ k ≤ 64 ∧ ∀ j, 1 ≤ j → j < k → liesB rm s ((secV s1 c1 nt1).take j ++ xs.drop j) s1 c1 nt1 = false ∧ liesB rm s (xs.take j ++ (secV s1 c1 nt1).drop j) s1 c1 nt1 = false) ∧ Below w.heap.size w wr ∧ LS wr lb b fr rm s c nt v ov ∧ Blk wr g5 64 (hdV s1 c1 nt1).toArray ∧ Row wr (some ⟨g, o, none⟩) 64 xs ∧ Row wr (some ⟨g9, 0, none⟩) 64 (secV s1 c1 nt1))) (fun s10 _ => 64 - (intOf s10).toNat)
    case atStart => exact ⟨1, rfl, Lib.hid ⟨⟨by omega, by omega, fun j h1 h2 => by omega⟩, F5.out⟩⟩
    case round =>
      obtain ⟨k, rfl, RI0⟩ := hrel
      have RI := Lib.hid RI0.out.2
      have RN := Lib.hid RI0.out.1
      clear RI0
      by_cases hlt : k < 64
      · have HK : Hid (1 ≤ k ∧ k < 64) := Lib.hid ⟨RN.out.1, hlt⟩
        clear hlt
        go_upto_region 6 with (fail)
        refine wp_region_lit ?_
        refine wpL_pure (.int .i64 (k : Int)) rfl (by kernel_rfl) ?_
        simp only [Act.put, List.setIfInBounds_toArray, List.set_cons_zero, List.set_cons_succ]
        refine wpL_pure (.bool true) rfl (run_lti Try.underlying3 rfl rfl rfl (by have := HK.out; rw [decide_eq_true_eq]; omega)) ?_
        simp only [Act.put, List.setIfInBounds_toArray, List.set_cons_zero, List.set_cons_succ]
        obtain ⟨b1, hb1⟩ : ∃ q, liesB rm s ((secV s1 c1 nt1).take k ++ xs.drop k) s1 c1 nt1 = q := ⟨_, rfl⟩
        have HB1 := Lib.hid hb1
        clear hb1
        obtain ⟨b2, hb2⟩ : ∃ q, liesB rm s (xs.take k ++ (secV s1 c1 nt1).drop k) s1 c1 nt1 = q := ⟨_, rfl⟩
        have HB2 := Lib.hid hb2
        clear hb2
        cases b1
        · have F0 : Hid (Below w.heap.size w wr.drew ∧ LS wr.drew lb b fr rm s c nt v ov ∧ Blk wr.drew g5 64 (hdV s1 c1 nt1).toArray ∧ Row wr.drew (some ⟨g, o, none⟩) 64 xs ∧ Row wr.drew (some ⟨g9, 0, none⟩) 64 (secV s1 c1 nt1)) := Lib.hid ⟨RI.out.1.drew, RI.out.2.1, RI.out.2.2.1, RI.out.2.2.2.1, RI.out.2.2.2.2⟩
          have LN1 : Hid (((secV s1 c1 nt1).take k ++ xs.drop k).length = 64 ∧ (xs.take k ++ (secV s1 c1 nt1).drop k).length = 64) := Lib.hid (by have h1 := (secV_ok (s := s1) (c := c1) NN.out.1).1; have h2 := HR.out.1; have := HK.out; simp only [List.length_append, List.length_take, List.length_drop, h1, h2]; omega)
          go_upto_region 8 with (fail)
          refine region_anyT (fun X => Below w.heap.size w X ∧ LS X lb b fr rm s c nt v ov ∧ Blk X g5 64 (hdV s1 c1 nt1).toArray ∧ Row X (some ⟨g, o, none⟩) 64 xs ∧ Row X (some ⟨g9, 0, none⟩) 64 (secV s1 c1 nt1)) (by kernel_rfl) 24 24 rfl ?_
          refine wpAnyT_take (i := 0) (oi := ⟨some 23, _, _, _, _, _⟩) (v := .pointer (some ⟨lb, 0, none⟩)) rfl (by kernel_rfl) (by kernel_rfl) (by kernel_rfl) (fun _ _ _ h => h) (by kernel_rfl) (Or.inl ⟨rfl, fun w h => by kernel_rfl⟩) (F0.out) ?_
          simp only [Act.put, List.setIfInBounds_toArray, List.set_cons_zero, List.set_cons_succ]
          refine wpAnyT_take (i := 1) (oi := ⟨some 24, _, _, _, _, _⟩) (v := .slice (some ⟨g9, 0, none⟩) 64 c9) rfl (by kernel_rfl) (by kernel_rfl) (by kernel_rfl) (fun _ _ _ h => h) (by kernel_rfl) (Or.inl ⟨rfl, fun w h => by kernel_rfl⟩) (F0.out) ?_
          simp only [Act.put, List.setIfInBounds_toArray, List.set_cons_zero, List.set_cons_succ]
          refine wpAnyT_take (i := 2) (oi := ⟨some 25, _, _, _, _, _⟩) (v := .int .i64 (k : Int)) rfl (by kernel_rfl) (by kernel_rfl) (by kernel_rfl) (fun _ _ _ h => h) (by kernel_rfl) (Or.inl ⟨rfl, fun w h => by kernel_rfl⟩) (F0.out) ?_
          simp only [Act.put, List.setIfInBounds_toArray, List.set_cons_zero, List.set_cons_succ]
          refine wpAnyT_take (i := 3) (oi := ⟨some 26, _, _, _, _, _⟩) (v := .slice (some ⟨g9, 0, none⟩) k c9) rfl (by kernel_rfl) (by kernel_rfl) (by kernel_rfl) (fun _ _ _ h => h) (by kernel_rfl) (Or.inl ⟨rfl, fun w h => run_slto _ _ _ _ _ g9 0 64 c9 k rfl rfl rfl C9.out.1 C9.out.2 (by have := HK.out; omega)⟩) (F0.out) ?_
          simp only [Act.put, List.setIfInBounds_toArray, List.set_cons_zero, List.set_cons_succ]
          refine wpAnyT_take (i := 4) (oi := ⟨some 27, _, _, _, _, _⟩) (v := .slice (some ⟨g, o, none⟩) 64 cx) rfl (by kernel_rfl) (by kernel_rfl) (by kernel_rfl) (fun _ _ _ h => h) (by kernel_rfl) (Or.inl ⟨rfl, fun w h => by kernel_rfl⟩) (F0.out) ?_
          simp only [Act.put, List.setIfInBounds_toArray, List.set_cons_zero, List.set_cons_succ]
          refine wpAnyT_take (i := 5) (oi := ⟨some 28, _, _, _, _, _⟩) (v := .int .i64 (k : Int)) rfl (by kernel_rfl) (by kernel_rfl) (by kernel_rfl) (fun _ _ _ h => h) (by kernel_rfl) (Or.inl ⟨rfl, fun w h => by kernel_rfl⟩) (F0.out) ?_
          simp only [Act.put, List.setIfInBounds_toArray, List.set_cons_zero, List.set_cons_succ]
          refine wpAnyT_take (i := 6) (oi := ⟨some 29, _, _, _, _, _⟩) (v := .slice (some ⟨g, o + k, none⟩) (64 - k) (cx - k)) rfl (by kernel_rfl) (by kernel_rfl) (by kernel_rfl) (fun _ _ _ h => h) (by kernel_rfl) (Or.inl ⟨rfl, fun w h => run_slfr _ _ _ _ _ g o 64 cx k rfl rfl rfl HK.out.2 CX.out.1 CX.out.2⟩) (F0.out) ?_
          simp only [Act.put, List.setIfInBounds_toArray, List.set_cons_zero, List.set_cons_succ]
          refine wpAnyT_take (i := 9) (oi := ⟨some 32, _, _, _, _, _⟩) (v := .agg (hdV s1 c1 nt1).toArray) rfl (by kernel_rfl) (by kernel_rfl) (by kernel_rfl) (fun _ _ _ h => h) (by kernel_rfl) (Or.inl ⟨rfl, fun w h => run_load_mid _ _ _ 64 _ rfl g5 0 rfl _ _ (blk_range' h.2.2.1) Try.underlying64 rfl (by simp only [List.size_toArray, hd_len NN.out.1]; kernel_rfl)⟩) (F0.out) ?_
          simp only [Act.put, List.setIfInBounds_toArray, List.set_cons_zero, List.set_cons_succ]
          refine wpAnyT_one (i := 7) (by kernel_rfl) ?_
          obtain ⟨Y1, hY1⟩ : ∃ V, V = wr.drew.alloc (.cells #[.slice (some ⟨g9, 0, none⟩) k c9, .slice (some ⟨g, o + k, none⟩) (64 - k) (cx - k)] 26) := ⟨_, rfl⟩
          obtain ⟨p1, hp1⟩ : ∃ q, wr.drew.heap.size = q := ⟨_, rfl⟩
          have G1 : Hid ((Below w.heap.size w Y1 ∧ LS Y1 lb b fr rm s c nt v ov ∧ Blk Y1 g5 64 (hdV s1 c1 nt1).toArray ∧ Row Y1 (some ⟨g, o, none⟩) 64 xs ∧ Row Y1 (some ⟨g9, 0, none⟩) 64 (secV s1 c1 nt1)) ∧ Blk Y1 p1 26 #[.slice (some ⟨g9, 0, none⟩) k c9, .slice (some ⟨g, o + k, none⟩) (64 - k) (cx - k)]) := Lib.hid (by have bb : Below wr.drew.heap.size wr.drew Y1 := (by rw [hY1]; exact (Below.refl _ _).alloc (Nat.le_refl _) _); exact ⟨⟨F0.out.1.trans (bb.mono F0.out.1.size), F0.out.2.1.below bb, F0.out.2.2.1.below bb, F0.out.2.2.2.1.keep bb, F0.out.2.2.2.2.keep bb⟩, by rw [hY1, ← hp1]; exact Blk.new _ _ _⟩)
          refine op_valw (o := ⟨some 30, _, _, _, _, _⟩) (.slice (some ⟨p1, 0, none⟩) 2 2) Y1 rfl rfl (by rw [hY1, ← hp1]; kernel_rfl) ?_
          refine ⟨fun _ => G1.out.1, ?_⟩
          simp only [Act.put, List.setIfInBounds_toArray, List.set_cons_zero, List.set_cons_succ]
          clear hY1 hp1
          refine wpAnyT_one (i := 8) (by kernel_rfl) ?_
          refine op_call (o := ⟨some 31, _, _, _, _, _⟩) 56 #[.slice (some ⟨p1, 0, none⟩) 2 2] rfl rfl (by kernel_rfl) ((concat_any _ p1 (some ⟨g9, 0, none⟩) (some ⟨g, o + k, none⟩) k (64 - k) c9 (cx - k) ((secV s1 c1 nt1).take k) (xs.drop k) G1.out.2 (G1.out.1.2.2.2.2.take k (by have := HK.out; omega)) (row_from G1.out.1.2.2.2.1 k (by have := HK.out; omega)) (by have := HK.out; omega)).mono fun e Y2 ⟨vv, he, bb, ho⟩ => ⟨vv, he, ?_, ?_⟩)
          · exact fun _ => ⟨G1.out.1.1.trans (bb.mono G1.out.1.1.size), G1.out.1.2.1.below bb, G1.out.1.2.2.1.below bb, G1.out.1.2.2.2.1.keep bb, G1.out.1.2.2.2.2.keep bb⟩
          simp only [Act.put, List.setIfInBounds_toArray, List.set_cons_zero, List.set_cons_succ]
          obtain ⟨ga, ca, ee, rr, kk, ll, mm⟩ := own_slice64 ho LN1.out.1
          subst ee
          have F6 : Hid ((Below w.heap.size w Y2 ∧ LS Y2 lb b fr rm s c nt v ov ∧ Blk Y2 g5 64 (hdV s1 c1 nt1).toArray ∧ Row Y2 (some ⟨g, o, none⟩) 64 xs ∧ Row Y2 (some ⟨g9, 0, none⟩) 64 (secV s1 c1 nt1)) ∧ Row Y2 (some ⟨ga, 0, none⟩) 64 ((secV s1 c1 nt1).take k ++ xs.drop k) ∧ 64 ≤ ca ∧ ca < 9223372036854775808) := Lib.hid ⟨⟨G1.out.1.1.trans (bb.mono G1.out.1.1.size), G1.out.1.2.1.below bb, G1.out.1.2.2.1.below bb, G1.out.1.2.2.2.1.keep bb, G1.out.1.2.2.2.2.keep bb⟩, rr, kk, ll⟩
          clear bb ho rr kk ll mm
          refine wpAnyT_one (i := 10) (by kernel_rfl) ?_
          refine op_call (o := ⟨some 33, _, _, _, _, _⟩) 55 #[.pointer (some ⟨lb, 0, none⟩), .slice (some ⟨ga, 0, none⟩) 64 ca, .agg (hdV s1 c1 nt1).toArray] rfl rfl (by kernel_rfl) ((lies_any F6.out.1.2.1 ga 0 ca ((secV s1 c1 nt1).take k ++ xs.drop k) F6.out.2.1 F6.out.2.2 s1 c1 nt1 NN.out.1 NN.out.2.1).mono fun e Y3 ⟨he, bb⟩ => ⟨.bool false, (he.trans (by rw [HB1.out])), ?_, ?_⟩)
          · exact fun _ => ⟨F6.out.1.1.trans (bb.mono F6.out.1.1.size), F6.out.1.2.1.below bb, F6.out.1.2.2.1.below bb, F6.out.1.2.2.2.1.keep bb, F6.out.1.2.2.2.2.keep bb⟩
          simp only [Act.put, List.setIfInBounds_toArray, List.set_cons_zero, List.set_cons_succ]
          have F7 : Hid (Below w.heap.size w Y3 ∧ LS Y3 lb b fr rm s c nt v ov ∧ Blk Y3 g5 64 (hdV s1 c1 nt1).toArray ∧ Row Y3 (some ⟨g, o, none⟩) 64 xs ∧ Row Y3 (some ⟨g9, 0, none⟩) 64 (secV s1 c1 nt1)) := Lib.hid ⟨F6.out.1.1.trans (bb.mono F6.out.1.1.size), F6.out.1.2.1.below bb, F6.out.1.2.2.1.below bb, F6.out.1.2.2.2.1.keep bb, F6.out.1.2.2.2.2.keep bb⟩
          clear bb
          refine wpAnyT_take (i := 11) (oi := ⟨some 34, _, _, _, _, _⟩) (v := .bool false) rfl (by kernel_rfl) (by kernel_rfl) (by kernel_rfl) (fun _ _ _ h => h) (by kernel_rfl) (Or.inl ⟨rfl, fun w h => by kernel_rfl⟩) (F7.out) ?_
          simp only [Act.put, List.setIfInBounds_toArray, List.set_cons_zero, List.set_cons_succ]
          refine wpAnyT_take (i := 12) (oi := ⟨some 35, _, _, _, _, _⟩) (v := .pointer (some ⟨lb, 0, none⟩)) rfl (by kernel_rfl) (by kernel_rfl) (by kernel_rfl) (fun _ _ _ h => h) (by kernel_rfl) (Or.inl ⟨rfl, fun w h => by kernel_rfl⟩) (F7.out) ?_
          simp only [Act.put, List.setIfInBounds_toArray, List.set_cons_zero, List.set_cons_succ]
          refine wpAnyT_take (i := 13) (oi := ⟨some 36, _, _, _, _, _⟩) (v := .slice (some ⟨g, o, none⟩) 64 cx) rfl (by kernel_rfl) (by kernel_rfl) (by kernel_rfl) (fun _ _ _ h => h) (by kernel_rfl) (Or.inl ⟨rfl, fun w h => by kernel_rfl⟩) (F7.out) ?_
          simp only [Act.put, List.setIfInBounds_toArray, List.set_cons_zero, List.set_cons_succ]
          refine wpAnyT_take (i := 14) (oi := ⟨some 37, _, _, _, _, _⟩) (v := .int .i64 (k : Int)) rfl (by kernel_rfl) (by kernel_rfl) (by kernel_rfl) (fun _ _ _ h => h) (by kernel_rfl) (Or.inl ⟨rfl, fun w h => by kernel_rfl⟩) (F7.out) ?_
          simp only [Act.put, List.setIfInBounds_toArray, List.set_cons_zero, List.set_cons_succ]
          refine wpAnyT_take (i := 15) (oi := ⟨some 38, _, _, _, _, _⟩) (v := .slice (some ⟨g, o, none⟩) k cx) rfl (by kernel_rfl) (by kernel_rfl) (by kernel_rfl) (fun _ _ _ h => h) (by kernel_rfl) (Or.inl ⟨rfl, fun w h => run_slto _ _ _ _ _ g o 64 cx k rfl rfl rfl CX.out.1 CX.out.2 (by have := HK.out; omega)⟩) (F7.out) ?_
          simp only [Act.put, List.setIfInBounds_toArray, List.set_cons_zero, List.set_cons_succ]
          refine wpAnyT_take (i := 16) (oi := ⟨some 39, _, _, _, _, _⟩) (v := .slice (some ⟨g9, 0, none⟩) 64 c9) rfl (by kernel_rfl) (by kernel_rfl) (by kernel_rfl) (fun _ _ _ h => h) (by kernel_rfl) (Or.inl ⟨rfl, fun w h => by kernel_rfl⟩) (F7.out) ?_
          simp only [Act.put, List.setIfInBounds_toArray, List.set_cons_zero, List.set_cons_succ]
          refine wpAnyT_take (i := 17) (oi := ⟨some 40, _, _, _, _, _⟩) (v := .int .i64 (k : Int)) rfl (by kernel_rfl) (by kernel_rfl) (by kernel_rfl) (fun _ _ _ h => h) (by kernel_rfl) (Or.inl ⟨rfl, fun w h => by kernel_rfl⟩) (F7.out) ?_
          simp only [Act.put, List.setIfInBounds_toArray, List.set_cons_zero, List.set_cons_succ]
          refine wpAnyT_take (i := 18) (oi := ⟨some 41, _, _, _, _, _⟩) (v := .slice (some ⟨g9, 0 + k, none⟩) (64 - k) (c9 - k)) rfl (by kernel_rfl) (by kernel_rfl) (by kernel_rfl) (fun _ _ _ h => h) (by kernel_rfl) (Or.inl ⟨rfl, fun w h => run_slfr _ _ _ _ _ g9 0 64 c9 k rfl rfl rfl HK.out.2 C9.out.1 C9.out.2⟩) (F7.out) ?_
          simp only [Act.put, List.setIfInBounds_toArray, List.set_cons_zero, List.set_cons_succ]
          refine wpAnyT_take (i := 21) (oi := ⟨some 44, _, _, _, _, _⟩) (v := .agg (hdV s1 c1 nt1).toArray) rfl (by kernel_rfl) (by kernel_rfl) (by kernel_rfl) (fun _ _ _ h => h) (by kernel_rfl) (Or.inl ⟨rfl, fun w h => run_load_mid _ _ _ 64 _ rfl g5 0 rfl _ _ (blk_range' h.2.2.1) Try.underlying64 rfl (by simp only [List.size_toArray, hd_len NN.out.1]; kernel_rfl)⟩) (F7.out) ?_
          simp only [Act.put, List.setIfInBounds_toArray, List.set_cons_zero, List.set_cons_succ]
          refine wpAnyT_one (i := 19) (by kernel_rfl) ?_
          obtain ⟨Y4, hY4⟩ : ∃ V, V = Y3.alloc (.cells #[.slice (some ⟨g, o, none⟩) k cx, .slice (some ⟨g9, 0 + k, none⟩) (64 - k) (c9 - k)] 26) := ⟨_, rfl⟩
          obtain ⟨p2, hp2⟩ : ∃ q, Y3.heap.size = q := ⟨_, rfl⟩
          have G2 : Hid ((Below w.heap.size w Y4 ∧ LS Y4 lb b fr rm s c nt v ov ∧ Blk Y4 g5 64 (hdV s1 c1 nt1).toArray ∧ Row Y4 (some ⟨g, o, none⟩) 64 xs ∧ Row Y4 (some ⟨g9, 0, none⟩) 64 (secV s1 c1 nt1)) ∧ Blk Y4 p2 26 #[.slice (some ⟨g, o, none⟩) k cx, .slice (some ⟨g9, 0 + k, none⟩) (64 - k) (c9 - k)]) := Lib.hid (by have bb : Below Y3.heap.size Y3 Y4 := (by rw [hY4]; exact (Below.refl _ _).alloc (Nat.le_refl _) _); exact ⟨⟨F7.out.1.trans (bb.mono F7.out.1.size), F7.out.2.1.below bb, F7.out.2.2.1.below bb, F7.out.2.2.2.1.keep bb, F7.out.2.2.2.2.keep bb⟩, by rw [hY4, ← hp2]; exact Blk.new _ _ _⟩)
          refine op_valw (o := ⟨some 42, _, _, _, _, _⟩) (.slice (some ⟨p2, 0, none⟩) 2 2) Y4 rfl rfl (by rw [hY4, ← hp2]; kernel_rfl) ?_
          refine ⟨fun _ => G2.out.1, ?_⟩
          simp only [Act.put, List.setIfInBounds_toArray, List.set_cons_zero, List.set_cons_succ]
          clear hY4 hp2
          refine wpAnyT_one (i := 20) (by kernel_rfl) ?_
          refine op_call (o := ⟨some 43, _, _, _, _, _⟩) 56 #[.slice (some ⟨p2, 0, none⟩) 2 2] rfl rfl (by kernel_rfl) ((concat_any _ p2 (some ⟨g, o, none⟩) (some ⟨g9, 0 + k, none⟩) k (64 - k) cx (c9 - k) (xs.take k) ((secV s1 c1 nt1).drop k) G2.out.2 (G2.out.1.2.2.2.1.take k (by have := HK.out; omega)) (row_from G2.out.1.2.2.2.2 k (by have := HK.out; omega)) (by have := HK.out; omega)).mono fun e Y5 ⟨vv, he, bb, ho⟩ => ⟨vv, he, ?_, ?_⟩)
          · exact fun _ => ⟨G2.out.1.1.trans (bb.mono G2.out.1.1.size), G2.out.1.2.1.below bb, G2.out.1.2.2.1.below bb, G2.out.1.2.2.2.1.keep bb, G2.out.1.2.2.2.2.keep bb⟩
          simp only [Act.put, List.setIfInBounds_toArray, List.set_cons_zero, List.set_cons_succ]
          obtain ⟨gb, cb, ee, rr, kk, ll, mm⟩ := own_slice64 ho LN1.out.2
          subst ee
          have F8 : Hid ((Below w.heap.size w Y5 ∧ LS Y5 lb b fr rm s c nt v ov ∧ Blk Y5 g5 64 (hdV s1 c1 nt1).toArray ∧ Row Y5 (some ⟨g, o, none⟩) 64 xs ∧ Row Y5 (some ⟨g9, 0, none⟩) 64 (secV s1 c1 nt1)) ∧ Row Y5 (some ⟨gb, 0, none⟩) 64 (xs.take k ++ (secV s1 c1 nt1).drop k) ∧ 64 ≤ cb ∧ cb < 9223372036854775808) := Lib.hid ⟨⟨G2.out.1.1.trans (bb.mono G2.out.1.1.size), G2.out.1.2.1.below bb, G2.out.1.2.2.1.below bb, G2.out.1.2.2.2.1.keep bb, G2.out.1.2.2.2.2.keep bb⟩, rr, kk, ll⟩
          clear bb ho rr kk ll mm
          refine wpAnyT_one (i := 22) (by kernel_rfl) ?_
          refine op_call (o := ⟨some 45, _, _, _, _, _⟩) 55 #[.pointer (some ⟨lb, 0, none⟩), .slice (some ⟨gb, 0, none⟩) 64 cb, .agg (hdV s1 c1 nt1).toArray] rfl rfl (by kernel_rfl) ((lies_any F8.out.1.2.1 gb 0 cb (xs.take k ++ (secV s1 c1 nt1).drop k) F8.out.2.1 F8.out.2.2 s1 c1 nt1 NN.out.1 NN.out.2.1).mono fun e Y6 ⟨he, bb⟩ => ⟨.bool b2, (he.trans (by rw [HB2.out])), ?_, ?_⟩)
          · exact fun _ => ⟨F8.out.1.1.trans (bb.mono F8.out.1.1.size), F8.out.1.2.1.below bb, F8.out.1.2.2.1.below bb, F8.out.1.2.2.2.1.keep bb, F8.out.1.2.2.2.2.keep bb⟩
          simp only [Act.put, List.setIfInBounds_toArray, List.set_cons_zero, List.set_cons_succ]
          have F9 : Hid (Below w.heap.size w Y6 ∧ LS Y6 lb b fr rm s c nt v ov ∧ Blk Y6 g5 64 (hdV s1 c1 nt1).toArray ∧ Row Y6 (some ⟨g, o, none⟩) 64 xs ∧ Row Y6 (some ⟨g9, 0, none⟩) 64 (secV s1 c1 nt1)) := Lib.hid ⟨F8.out.1.1.trans (bb.mono F8.out.1.1.size), F8.out.1.2.1.below bb, F8.out.1.2.2.1.below bb, F8.out.1.2.2.2.1.keep bb, F8.out.1.2.2.2.2.keep bb⟩
          clear bb
          refine wpAnyT_take (i := 23) (oi := ⟨some 46, _, _, _, _, _⟩) (v := .bool b2) rfl (by kernel_rfl) (by kernel_rfl) (by kernel_rfl) (fun _ _ _ h => h) (by kernel_rfl) (Or.inl ⟨rfl, fun w h => by kernel_rfl⟩) (F9.out) ?_
          simp only [Act.put, List.setIfInBounds_toArray, List.set_cons_zero, List.set_cons_succ]
          refine wpAnyT_done (by kernel_rfl) ?_ _
          cases b2
          · go_upto_region 7 with (fail)
            refine wp_region_lit ?_
            refine wpL_pure (.int .i64 (k : Int)) rfl (by kernel_rfl) ?_
            simp only [Act.put, List.setIfInBounds_toArray, List.set_cons_zero, List.set_cons_succ]
            refine wpL_pure (.int .i64 ((k + 1 : Nat) : Int)) rfl (run_addi Try.underlying3 rfl rfl rfl _ (by have := HK.out; rw [wrap_in _ (by omega) (by omega)]; omega)) ?_
            simp only [Act.put, List.setIfInBounds_toArray, List.set_cons_zero, List.set_cons_succ]
            refine wpL_pure (.int .i64 ((k + 1 : Nat) : Int)) rfl (by kernel_rfl) ?_
            simp only [Act.put, List.setIfInBounds_toArray, List.set_cons_zero, List.set_cons_succ]
            have NX : Hid ((1 ≤ k + 1 ∧ k + 1 ≤ 64 ∧ ∀ j, 1 ≤ j → j < k + 1 → liesB rm s ((secV s1 c1 nt1).take j ++ xs.drop j) s1 c1 nt1 = false ∧ liesB rm s (xs.take j ++ (secV s1 c1 nt1).drop j) s1 c1 nt1 = false) ∧ Below w.heap.size w Y6 ∧ LS Y6 lb b fr rm s c nt v ov ∧ Blk Y6 g5 64 (hdV s1 c1 nt1).toArray ∧ Row Y6 (some ⟨g, o, none⟩) 64 xs ∧ Row Y6 (some ⟨g9, 0, none⟩) 64 (secV s1 c1 nt1)) := Lib.hid ⟨⟨by omega, HK.out.2, fun j h1 h2 => by
            by_cases q : j < k
            · exact RN.out.2.2 j h1 q
            · obtain rfl : j = k := by omega
              exact ⟨HB1.out, HB2.out⟩⟩, F9.out⟩
            unfold wpList
            go_roundw
            case rel => first | exact ⟨_, rfl, NX⟩ | ((repeat apply Exists.intro); exact ⟨⟨_, rfl, NX⟩, rfl⟩)
            case measure => simp [intOf]; have := HK.out; omega
          · go_upto_region 9 with (fail)
            refine wp_region_lit ?_
            refine wpL_pure (.bool true) rfl (by kernel_rfl) ?_
            simp only [Act.put, List.setIfInBounds_toArray, List.set_cons_zero, List.set_cons_succ]
            go_wp2_with fail
            go_ret
            exact ⟨true, rfl, F9.out.1, (fun q => by rw [HW.out] at q; cases q), (fun _ q => by cases q)⟩
        · have F0 : Hid (Below w.heap.size w wr.drew ∧ LS wr.drew lb b fr rm s c nt v ov ∧ Blk wr.drew g5 64 (hdV s1 c1 nt1).toArray ∧ Row wr.drew (some ⟨g, o, none⟩) 64 xs ∧ Row wr.drew (some ⟨g9, 0, none⟩) 64 (secV s1 c1 nt1)) := Lib.hid ⟨RI.out.1.drew, RI.out.2.1, RI.out.2.2.1, RI.out.2.2.2.1, RI.out.2.2.2.2⟩
          have LN1 : Hid (((secV s1 c1 nt1).take k ++ xs.drop k).length = 64 ∧ (xs.take k ++ (secV s1 c1 nt1).drop k).length = 64) := Lib.hid (by have h1 := (secV_ok (s := s1) (c := c1) NN.out.1).1; have h2 := HR.out.1; have := HK.out; simp only [List.length_append, List.length_take, List.length_drop, h1, h2]; omega)
          go_upto_region 8 with (fail)
          refine region_anyT (fun X => Below w.heap.size w X ∧ LS X lb b fr rm s c nt v ov ∧ Blk X g5 64 (hdV s1 c1 nt1).toArray ∧ Row X (some ⟨g, o, none⟩) 64 xs ∧ Row X (some ⟨g9, 0, none⟩) 64 (secV s1 c1 nt1)) (by kernel_rfl) 24 24 rfl ?_
          refine wpAnyT_take (i := 0) (oi := ⟨some 23, _, _, _, _, _⟩) (v := .pointer (some ⟨lb, 0, none⟩)) rfl (by kernel_rfl) (by kernel_rfl) (by kernel_rfl) (fun _ _ _ h => h) (by kernel_rfl) (Or.inl ⟨rfl, fun w h => by kernel_rfl⟩) (F0.out) ?_
          simp only [Act.put, List.setIfInBounds_toArray, List.set_cons_zero, List.set_cons_succ]
          refine wpAnyT_take (i := 1) (oi := ⟨some 24, _, _, _, _, _⟩) (v := .slice (some ⟨g9, 0, none⟩) 64 c9) rfl (by kernel_rfl) (by kernel_rfl) (by kernel_rfl) (fun _ _ _ h => h) (by kernel_rfl) (Or.inl ⟨rfl, fun w h => by kernel_rfl⟩) (F0.out) ?_
          simp only [Act.put, List.setIfInBounds_toArray, List.set_cons_zero, List.set_cons_succ]
          refine wpAnyT_take (i := 2) (oi := ⟨some 25, _, _, _, _, _⟩) (v := .int .i64 (k : Int)) rfl (by kernel_rfl) (by kernel_rfl) (by kernel_rfl) (fun _ _ _ h => h) (by kernel_rfl) (Or.inl ⟨rfl, fun w h => by kernel_rfl⟩) (F0.out) ?_
          simp only [Act.put, List.setIfInBounds_toArray, List.set_cons_zero, List.set_cons_succ]
          refine wpAnyT_take (i := 3) (oi := ⟨some 26, _, _, _, _, _⟩) (v := .slice (some ⟨g9, 0, none⟩) k c9) rfl (by kernel_rfl) (by kernel_rfl) (by kernel_rfl) (fun _ _ _ h => h) (by kernel_rfl) (Or.inl ⟨rfl, fun w h => run_slto _ _ _ _ _ g9 0 64 c9 k rfl rfl rfl C9.out.1 C9.out.2 (by have := HK.out; omega)⟩) (F0.out) ?_
          simp only [Act.put, List.setIfInBounds_toArray, List.set_cons_zero, List.set_cons_succ]
          refine wpAnyT_take (i := 4) (oi := ⟨some 27, _, _, _, _, _⟩) (v := .slice (some ⟨g, o, none⟩) 64 cx) rfl (by kernel_rfl) (by kernel_rfl) (by kernel_rfl) (fun _ _ _ h => h) (by kernel_rfl) (Or.inl ⟨rfl, fun w h => by kernel_rfl⟩) (F0.out) ?_
          simp only [Act.put, List.setIfInBounds_toArray, List.set_cons_zero, List.set_cons_succ]
          refine wpAnyT_take (i := 5) (oi := ⟨some 28, _, _, _, _, _⟩) (v := .int .i64 (k : Int)) rfl (by kernel_rfl) (by kernel_rfl) (by kernel_rfl) (fun _ _ _ h => h) (by kernel_rfl) (Or.inl ⟨rfl, fun w h => by kernel_rfl⟩) (F0.out) ?_
          simp only [Act.put, List.setIfInBounds_toArray, List.set_cons_zero, List.set_cons_succ]
          refine wpAnyT_take (i := 6) (oi := ⟨some 29, _, _, _, _, _⟩) (v := .slice (some ⟨g, o + k, none⟩) (64 - k) (cx - k)) rfl (by kernel_rfl) (by kernel_rfl) (by kernel_rfl) (fun _ _ _ h => h) (by kernel_rfl) (Or.inl ⟨rfl, fun w h => run_slfr _ _ _ _ _ g o 64 cx k rfl rfl rfl HK.out.2 CX.out.1 CX.out.2⟩) (F0.out) ?_
          simp only [Act.put, List.setIfInBounds_toArray, List.set_cons_zero, List.set_cons_succ]
          refine wpAnyT_take (i := 9) (oi := ⟨some 32, _, _, _, _, _⟩) (v := .agg (hdV s1 c1 nt1).toArray) rfl (by kernel_rfl) (by kernel_rfl) (by kernel_rfl) (fun _ _ _ h => h) (by kernel_rfl) (Or.inl ⟨rfl, fun w h => run_load_mid _ _ _ 64 _ rfl g5 0 rfl _ _ (blk_range' h.2.2.1) Try.underlying64 rfl (by simp only [List.size_toArray, hd_len NN.out.1]; kernel_rfl)⟩) (F0.out) ?_
          simp only [Act.put, List.setIfInBounds_toArray, List.set_cons_zero, List.set_cons_succ]
          refine wpAnyT_one (i := 7) (by kernel_rfl) ?_
          obtain ⟨Y1, hY1⟩ : ∃ V, V = wr.drew.alloc (.cells #[.slice (some ⟨g9, 0, none⟩) k c9, .slice (some ⟨g, o + k, none⟩) (64 - k) (cx - k)] 26) := ⟨_, rfl⟩
          obtain ⟨p1, hp1⟩ : ∃ q, wr.drew.heap.size = q := ⟨_, rfl⟩
          have G1 : Hid ((Below w.heap.size w Y1 ∧ LS Y1 lb b fr rm s c nt v ov ∧ Blk Y1 g5 64 (hdV s1 c1 nt1).toArray ∧ Row Y1 (some ⟨g, o, none⟩) 64 xs ∧ Row Y1 (some ⟨g9, 0, none⟩) 64 (secV s1 c1 nt1)) ∧ Blk Y1 p1 26 #[.slice (some ⟨g9, 0, none⟩) k c9, .slice (some ⟨g, o + k, none⟩) (64 - k) (cx - k)]) := Lib.hid (by have bb : Below wr.drew.heap.size wr.drew Y1 := (by rw [hY1]; exact (Below.refl _ _).alloc (Nat.le_refl _) _); exact ⟨⟨F0.out.1.trans (bb.mono F0.out.1.size), F0.out.2.1.below bb, F0.out.2.2.1.below bb, F0.out.2.2.2.1.keep bb, F0.out.2.2.2.2.keep bb⟩, by rw [hY1, ← hp1]; exact Blk.new _ _ _⟩)
          refine op_valw (o := ⟨some 30, _, _, _, _, _⟩) (.slice (some ⟨p1, 0, none⟩) 2 2) Y1 rfl rfl (by rw [hY1, ← hp1]; kernel_rfl) ?_
          refine ⟨fun _ => G1.out.1, ?_⟩
          simp only [Act.put, List.setIfInBounds_toArray, List.set_cons_zero, List.set_cons_succ]
          clear hY1 hp1
          refine wpAnyT_one (i := 8) (by kernel_rfl) ?_
          refine op_call (o := ⟨some 31, _, _, _, _, _⟩) 56 #[.slice (some ⟨p1, 0, none⟩) 2 2] rfl rfl (by kernel_rfl) ((concat_any _ p1 (some ⟨g9, 0, none⟩) (some ⟨g, o + k, none⟩) k (64 - k) c9 (cx - k) ((secV s1 c1 nt1).take k) (xs.drop k) G1.out.2 (G1.out.1.2.2.2.2.take k (by have := HK.out; omega)) (row_from G1.out.1.2.2.2.1 k (by have := HK.out; omega)) (by have := HK.out; omega)).mono fun e Y2 ⟨vv, he, bb, ho⟩ => ⟨vv, he, ?_, ?_⟩)
          · exact fun _ => ⟨G1.out.1.1.trans (bb.mono G1.out.1.1.size), G1.out.1.2.1.below bb, G1.out.1.2.2.1.below bb, G1.out.1.2.2.2.1.keep bb, G1.out.1.2.2.2.2.keep bb⟩
          simp only [Act.put, List.setIfInBounds_toArray, List.set_cons_zero, List.set_cons_succ]
          obtain ⟨ga, ca, ee, rr, kk, ll, mm⟩ := own_slice64 ho LN1.out.1
          subst ee
          have F6 : Hid ((Below w.heap.size w Y2 ∧ LS Y2 lb b fr rm s c nt v ov ∧ Blk Y2 g5 64 (hdV s1 c1 nt1).toArray ∧ Row Y2 (some ⟨g, o, none⟩) 64 xs ∧ Row Y2 (some ⟨g9, 0, none⟩) 64 (secV s1 c1 nt1)) ∧ Row Y2 (some ⟨ga, 0, none⟩) 64 ((secV s1 c1 nt1).take k ++ xs.drop k) ∧ 64 ≤ ca ∧ ca < 9223372036854775808) := Lib.hid ⟨⟨G1.out.1.1.trans (bb.mono G1.out.1.1.size), G1.out.1.2.1.below bb, G1.out.1.2.2.1.below bb, G1.out.1.2.2.2.1.keep bb, G1.out.1.2.2.2.2.keep bb⟩, rr, kk, ll⟩
          clear bb ho rr kk ll mm
          refine wpAnyT_one (i := 10) (by kernel_rfl) ?_
          refine op_call (o := ⟨some 33, _, _, _, _, _⟩) 55 #[.pointer (some ⟨lb, 0, none⟩), .slice (some ⟨ga, 0, none⟩) 64 ca, .agg (hdV s1 c1 nt1).toArray] rfl rfl (by kernel_rfl) ((lies_any F6.out.1.2.1 ga 0 ca ((secV s1 c1 nt1).take k ++ xs.drop k) F6.out.2.1 F6.out.2.2 s1 c1 nt1 NN.out.1 NN.out.2.1).mono fun e Y3 ⟨he, bb⟩ => ⟨.bool true, (he.trans (by rw [HB1.out])), ?_, ?_⟩)
          · exact fun _ => ⟨F6.out.1.1.trans (bb.mono F6.out.1.1.size), F6.out.1.2.1.below bb, F6.out.1.2.2.1.below bb, F6.out.1.2.2.2.1.keep bb, F6.out.1.2.2.2.2.keep bb⟩
          simp only [Act.put, List.setIfInBounds_toArray, List.set_cons_zero, List.set_cons_succ]
          have F7 : Hid (Below w.heap.size w Y3 ∧ LS Y3 lb b fr rm s c nt v ov ∧ Blk Y3 g5 64 (hdV s1 c1 nt1).toArray ∧ Row Y3 (some ⟨g, o, none⟩) 64 xs ∧ Row Y3 (some ⟨g9, 0, none⟩) 64 (secV s1 c1 nt1)) := Lib.hid ⟨F6.out.1.1.trans (bb.mono F6.out.1.1.size), F6.out.1.2.1.below bb, F6.out.1.2.2.1.below bb, F6.out.1.2.2.2.1.keep bb, F6.out.1.2.2.2.2.keep bb⟩
          clear bb
          refine wpAnyT_take (i := 11) (oi := ⟨some 34, _, _, _, _, _⟩) (v := .bool true) rfl (by kernel_rfl) (by kernel_rfl) (by kernel_rfl) (fun _ _ _ h => h) (by kernel_rfl) (Or.inl ⟨rfl, fun w h => by kernel_rfl⟩) (F7.out) ?_
          simp only [Act.put, List.setIfInBounds_toArray, List.set_cons_zero, List.set_cons_succ]
          refine wpAnyT_take (i := 12) (oi := ⟨some 35, _, _, _, _, _⟩) (v := undef) rfl (by kernel_rfl) (by kernel_rfl) (by kernel_rfl) (fun _ _ _ h => h) (by kernel_rfl) (Or.inr ⟨rfl, rfl⟩) (F7.out) ?_
          simp only [Act.put, List.setIfInBounds_toArray, List.set_cons_zero, List.set_cons_succ]
          refine wpAnyT_take (i := 13) (oi := ⟨some 36, _, _, _, _, _⟩) (v := undef) rfl (by kernel_rfl) (by kernel_rfl) (by kernel_rfl) (fun _ _ _ h => h) (by kernel_rfl) (Or.inr ⟨rfl, rfl⟩) (F7.out) ?_
          simp only [Act.put, List.setIfInBounds_toArray, List.set_cons_zero, List.set_cons_succ]
          refine wpAnyT_take (i := 14) (oi := ⟨some 37, _, _, _, _, _⟩) (v := undef) rfl (by kernel_rfl) (by kernel_rfl) (by kernel_rfl) (fun _ _ _ h => h) (by kernel_rfl) (Or.inr ⟨rfl, rfl⟩) (F7.out) ?_
          simp only [Act.put, List.setIfInBounds_toArray, List.set_cons_zero, List.set_cons_succ]
          refine wpAnyT_take (i := 15) (oi := ⟨some 38, _, _, _, _, _⟩) (v := undef) rfl (by kernel_rfl) (by kernel_rfl) (by kernel_rfl) (fun _ _ _ h => h) (by kernel_rfl) (Or.inr ⟨rfl, rfl⟩) (F7.out) ?_
          simp only [Act.put, List.setIfInBounds_toArray, List.set_cons_zero, List.set_cons_succ]
          refine wpAnyT_take (i := 16) (oi := ⟨some 39, _, _, _, _, _⟩) (v := undef) rfl (by kernel_rfl) (by kernel_rfl) (by kernel_rfl) (fun _ _ _ h => h) (by kernel_rfl) (Or.inr ⟨rfl, rfl⟩) (F7.out) ?_
          simp only [Act.put, List.setIfInBounds_toArray, List.set_cons_zero, List.set_cons_succ]
          refine wpAnyT_take (i := 17) (oi := ⟨some 40, _, _, _, _, _⟩) (v := undef) rfl (by kernel_rfl) (by kernel_rfl) (by kernel_rfl) (fun _ _ _ h => h) (by kernel_rfl) (Or.inr ⟨rfl, rfl⟩) (F7.out) ?_
          simp only [Act.put, List.setIfInBounds_toArray, List.set_cons_zero, List.set_cons_succ]
          refine wpAnyT_take (i := 18) (oi := ⟨some 41, _, _, _, _, _⟩) (v := undef) rfl (by kernel_rfl) (by kernel_rfl) (by kernel_rfl) (fun _ _ _ h => h) (by kernel_rfl) (Or.inr ⟨rfl, rfl⟩) (F7.out) ?_
          simp only [Act.put, List.setIfInBounds_toArray, List.set_cons_zero, List.set_cons_succ]
          refine wpAnyT_take (i := 19) (oi := ⟨some 42, _, _, _, _, _⟩) (v := undef) rfl (by kernel_rfl) (by kernel_rfl) (by kernel_rfl) (fun _ _ _ h => h) (by kernel_rfl) (Or.inr ⟨rfl, rfl⟩) (F7.out) ?_
          simp only [Act.put, List.setIfInBounds_toArray, List.set_cons_zero, List.set_cons_succ]
          refine wpAnyT_take (i := 20) (oi := ⟨some 43, _, _, _, _, _⟩) (v := undef) rfl (by kernel_rfl) (by kernel_rfl) (by kernel_rfl) (fun _ _ _ h => h) (by kernel_rfl) (Or.inr ⟨rfl, rfl⟩) (F7.out) ?_
          simp only [Act.put, List.setIfInBounds_toArray, List.set_cons_zero, List.set_cons_succ]
          refine wpAnyT_take (i := 21) (oi := ⟨some 44, _, _, _, _, _⟩) (v := undef) rfl (by kernel_rfl) (by kernel_rfl) (by kernel_rfl) (fun _ _ _ h => h) (by kernel_rfl) (Or.inr ⟨rfl, rfl⟩) (F7.out) ?_
          simp only [Act.put, List.setIfInBounds_toArray, List.set_cons_zero, List.set_cons_succ]
          refine wpAnyT_take (i := 22) (oi := ⟨some 45, _, _, _, _, _⟩) (v := undef) rfl (by kernel_rfl) (by kernel_rfl) (by kernel_rfl) (fun _ _ _ h => h) (by kernel_rfl) (Or.inr ⟨rfl, rfl⟩) (F7.out) ?_
          simp only [Act.put, List.setIfInBounds_toArray, List.set_cons_zero, List.set_cons_succ]
          refine wpAnyT_take (i := 23) (oi := ⟨some 46, _, _, _, _, _⟩) (v := .bool true) rfl (by kernel_rfl) (by kernel_rfl) (by kernel_rfl) (fun _ _ _ h => h) (by kernel_rfl) (Or.inl ⟨rfl, fun w h => by kernel_rfl⟩) (F7.out) ?_
          simp only [Act.put, List.setIfInBounds_toArray, List.set_cons_zero, List.set_cons_succ]
          refine wpAnyT_done (by kernel_rfl) ?_ _
          go_upto_region 9 with (fail)
          refine wp_region_lit ?_
          refine wpL_pure (.bool true) rfl (by kernel_rfl) ?_
          simp only [Act.put, List.setIfInBounds_toArray, List.set_cons_zero, List.set_cons_succ]
          go_wp2_with fail
          go_ret
          exact ⟨true, rfl, F7.out.1, (fun q => by rw [HW.out] at q; cases q), (fun _ q => by cases q)⟩
      · have EK : Hid (k = 64) := Lib.hid (by have := RN.out.2.1; omega)
        clear hlt
        go_upto_region 6 with (fail)
        refine wp_region_lit ?_
        refine wpL_pure (.int .i64 (k : Int)) rfl (by kernel_rfl) ?_
        simp only [Act.put, List.setIfInBounds_toArray, List.set_cons_zero, List.set_cons_succ]
        refine wpL_pure (.bool false) rfl (run_lti Try.underlying3 rfl rfl rfl (by have := EK.out; rw [decide_eq_false_iff_not]; omega)) ?_
        simp only [Act.put, List.setIfInBounds_toArray, List.set_cons_zero, List.set_cons_succ]
        go_upto_region 10 with (fail)
        refine wp_region_lit ?_
        refine wpL_pure (.bool false) rfl (by kernel_rfl) ?_
        simp only [Act.put, List.setIfInBounds_toArray, List.set_cons_zero, List.set_cons_succ]
        go_wp2_with fail
        go_ret
        exact ⟨false, rfl, RI.out.1, fun _ => rfl, fun _ _ j h1 h2 => RN.out.2.2 j h1 (by rw [EK.out]; exact h2)⟩
  · go_upto_region 1 with (fail)
    refine wp_region_lit ?_
    refine wpL_pure (.slice (some ⟨g, o, none⟩) 64 cx) rfl (by kernel_rfl) ?_
    simp only [Act.put, List.setIfInBounds_toArray, List.set_cons_zero, List.set_cons_succ]
    refine wpL_call 31 #[.slice (some ⟨g, o, none⟩) 64 cx] rfl (by kernel_rfl) ((parse_any _ g o cx xs F1.out.2.2.2 CX.out).mono fun e W2 ⟨he, bb⟩ => ⟨.tuple #[.agg (hdV (srl xs) (cntL xs) (nteL xs)).toArray, .bool true], he.trans (by rw [HW.out]; rfl), ?_⟩)
    simp only [Act.put, List.setIfInBounds_toArray, List.set_cons_zero, List.set_cons_succ]
    have F2 : Hid (Below w.heap.size w W2 ∧ LS W2 lb b fr rm s c nt v ov ∧ Blk W2 g5 64 (hdV s1 c1 nt1).toArray ∧ Row W2 (some ⟨g, o, none⟩) 64 xs) := Lib.hid ⟨F1.out.1.trans (bb.mono F1.out.1.size), F1.out.2.1.below bb, F1.out.2.2.1.below bb, F1.out.2.2.2.keep bb⟩
    clear bb
    refine wpL_pure (.tuple #[.agg (hdV (srl xs) (cntL xs) (nteL xs)).toArray, .bool true]) rfl (by kernel_rfl) ?_
    simp only [Act.put, List.setIfInBounds_toArray, List.set_cons_zero, List.set_cons_succ]
    refine wpL_pure (.agg (hdV (srl xs) (cntL xs) (nteL xs)).toArray) rfl (by kernel_rfl) ?_
    simp only [Act.put, List.setIfInBounds_toArray, List.set_cons_zero, List.set_cons_succ]
    refine wpL_pure (.bool true) rfl (by kernel_rfl) ?_
    simp only [Act.put, List.setIfInBounds_toArray, List.set_cons_zero, List.set_cons_succ]
    obtain ⟨W3, hW3⟩ : ∃ V, V = W2.alloc (.cells (hdV 0 0 (List.replicate 16 0)).toArray 64) := ⟨_, rfl⟩
    refine wpL_value (.pointer (some ⟨W2.heap.size, 0, none⟩)) W3 rfl (by rw [hW3]; kernel_rfl) ?_
    simp only [Act.put, List.setIfInBounds_toArray, List.set_cons_zero, List.set_cons_succ]
    obtain ⟨g7, hg7⟩ : ∃ q, W2.heap.size = q := ⟨_, rfl⟩
    have F3 : Hid (Below w.heap.size w W3 ∧ LS W3 lb b fr rm s c nt v ov ∧ Blk W3 g5 64 (hdV s1 c1 nt1).toArray ∧ Row W3 (some ⟨g, o, none⟩) 64 xs ∧ Blk W3 g7 64 (hdV 0 0 (List.replicate 16 0)).toArray ∧ w.heap.size ≤ g7 ∧ g5 ≠ g7 ∧ lb ≠ g7) := Lib.hid (by rw [hW3, ← hg7]; exact ⟨F2.out.1.alloc F2.out.1.size _, F2.out.2.1.below ((Below.refl _ _).alloc (Nat.le_refl _) _), F2.out.2.2.1.alloc _, F2.out.2.2.2.keep ((Below.refl _ _).alloc (Nat.le_refl _) _), Blk.new _ _ _, F2.out.1.size, Nat.ne_of_lt F2.out.2.2.1.lt, Nat.ne_of_lt F2.out.2.1.1.lt⟩)
    rw [hg7]
    clear hW3 hg7 F2
    refine wpList_store_row rfl 64 _ _ rfl g7 (hdV (srl xs) (cntL xs) (nteL xs)).toArray rfl rfl 64 _ (F3.out.2.2.2.2.1) (by simp only [List.size_toArray, hdV, List.length_cons, List.length_map, List.length_replicate, NX16.out] <;> kernel_rfl) (by simp only [List.size_toArray, hdV, List.length_cons, List.length_map, List.length_replicate, NX16.out] <;> rfl) (hd_one _ _ _) ?_
    simp only [Act.put, List.setIfInBounds_toArray, List.set_cons_zero, List.set_cons_succ]
    obtain ⟨W4, hW4⟩ : ∃ V, V = W3.setRow g7 (hdV (srl xs) (cntL xs) (nteL xs)).toArray := ⟨_, rfl⟩
    rw [← hW4]
    have F4 : Hid (Below w.heap.size w W4 ∧ LS W4 lb b fr rm s c nt v ov ∧ Blk W4 g5 64 (hdV s1 c1 nt1).toArray ∧ Row W4 (some ⟨g, o, none⟩) 64 xs) := Lib.hid (by rw [hW4]; have bw : Below w.heap.size w (W3.setRow g7 (hdV (srl xs) (cntL xs) (nteL xs)).toArray) := below_setRow F3.out.1 F3.out.2.2.2.2.2.1 _; exact ⟨bw, ⟨(setRow_other _ _ _ _ F3.out.2.2.2.2.2.2.2).trans F3.out.2.1.1, F3.out.2.1.2⟩, (setRow_other _ _ _ _ F3.out.2.2.2.2.2.2.1).trans F3.out.2.2.1, HR.out.keep bw⟩)
    clear hW4 F3
    refine wpL_pure (.bool true) rfl (by kernel_rfl) ?_
    simp only [Act.put, List.setIfInBounds_toArray, List.set_cons_zero, List.set_cons_succ]
    go_upto_region 2 with (fail)
    refine wp_region_lit ?_
    refine wpL_pure (.bool true) rfl (by kernel_rfl) ?_
    simp only [Act.put, List.setIfInBounds_toArray, List.set_cons_zero, List.set_cons_succ]
    go_upto_region 3 with (fail)
    refine wp_region_lit ?_
    refine wpL_pure (.bool false) rfl (by kernel_rfl) ?_
    simp only [Act.put, List.setIfInBounds_toArray, List.set_cons_zero, List.set_cons_succ]
    go_wp2_with fail
    go_ret
    exact ⟨false, rfl, F4.out.1, fun _ => rfl, fun q => by rw [HW.out] at q; cases q⟩
end Go.Proofs.Yteabblmhcjpboaa.D
