import Derived.Test.YteblaknbehfkgaaK6
namespace Go.Proofs.Yteblaknbehfkgaa
open Go Go.RowKit

theorem row_pre {w : World} {a : Option Addr} {n : Nat} {xs : List Int} (h : Row w a n xs) (m : Nat) (hm : m ≤ n) : Row w a m (xs.take m) := by
  refine ⟨by rw [List.length_take, h.1]; omega, by have := h.2.1; omega, fun x hx => h.2.2.1 x (List.mem_of_mem_take hx), fun j hj => ?_⟩
  obtain ⟨g, o, e, hc⟩ := h.2.2.2 j (by omega)
  exact ⟨g, o, e, by rw [hc]; simp [List.getD, List.getElem?_take, hj]⟩
theorem run_sliceto (a : Act) (o : Oper) (w : World) (x i : Operand) (ad : Option Addr) (len cap m : Nat) (ho : o.op = .slice 25 x none (some i) none) (hx : a.eval x = .slice ad len cap) (hi : a.eval i = .int .i64 (m : Int)) (hm : m ≤ len) (hc : len ≤ cap) (hw : cap < 9223372036854775808 ∧ ∀ p, ad = some p → p.spot = none) :
    (execOp a.eval o).run Try.prog w = .ok (.value (.slice ad m cap)) w := by
  obtain ⟨hw, hsp⟩ := hw
  have h1 : (0 : Int) ≤ (m : Int) := by omega
  have h2 : (m : Int) ≤ (len : Int) := by omega
  have h3 : (len : Int) ≤ (cap : Int) := by omega
  have h4 : (m : Int) ≤ (cap : Int) := by omega
  unfold execOp
  cases ad with
  | none =>
    simp only [ho, hx, Option.map_some, Option.map_none, hi]
    go_simp
  | some p =>
    obtain ⟨g, off, spot⟩ := p
    obtain rfl : spot = none := hsp _ rfl
    simp only [ho, hx, Option.map_some, Option.map_none, hi]
    by_cases hq : cap = 0
    · subst hq
      obtain rfl : m = 0 := by omega
      go_simp
    · go_simp
/-- what is known of a slice that came in. -/
theorem row_more {w : World} {a : Option Addr} {len cap : Nat} {zs : List Int} (h : IsRow .u8 w a len cap zs) : len ≤ cap ∧ (a = none → cap = 0) ∧ cap < 9223372036854775808 ∧ (0 < cap → ∀ p, a = some p → p.spot = none) := by
  rcases h with ⟨rfl, rfl, rfl, rfl⟩ | ⟨p, rfl, h2, h3, h4, h5, h6⟩
  · exact ⟨Nat.le_refl _, fun _ => rfl, by omega, fun h => by omega⟩
  · refine ⟨h2, (fun h => by cases h), by unfold maxLen at h3; omega, fun hc q hq => ?_⟩
    obtain rfl : p = q := by simpa using hq
    simpa [Addr.add] using World.cell?_spot (h5 0 (by omega))
set_option maxHeartbeats 1000000 in
theorem walkPackNumbers (a1 : Option Addr) (n1 c1 : Nat) (z1 : List Int) (w : World) (h1 : IsRow .u8 w a1 n1 c1 z1) :
    Calls Try.prog 6 #[.slice a1 n1 c1] w fun e w' => e = .returned (.bool true) ∧ Below w.heap.size w w' := by
  have m1 := row_more h1
  have hr := row_of h1
  generalize z1.take n1 = xs at hr
  have HR := Lib.hid hr
  have HC := Lib.hid m1.1
  have HNIL := Lib.hid m1.2.1
  have HM := Lib.hid m1.2.2
  clear h1 hr m1
  by_cases i1 : 40 < n1
  · have BIG : Hid (decide ((40 : Int) < (n1 : Int)) = true) := Lib.hid (by rw [decide_eq_true_eq]; omega)
    clear i1
    go_enter Try.func6, Try.ntmps6
    go_upto_region 1 with (fail)
    refine wp_region_lit ?_
    refine wpL_call 8 #[] rfl (by kernel_rfl) ((awake_any w).mono fun e w1 ⟨he, hb⟩ => ⟨.bool true, he, ?_⟩)
    simp only [Act.put, List.setIfInBounds_toArray, List.set_cons_zero, List.set_cons_succ]
    have B1 := Lib.hid hb
    clear hb
    refine wpL_pure (.bool false) rfl (by kernel_rfl) ?_
    simp only [Act.put, List.setIfInBounds_toArray, List.set_cons_zero, List.set_cons_succ]
    refine wpL_pure (.bool false) rfl (by kernel_rfl) ?_
    simp only [Act.put, List.setIfInBounds_toArray, List.set_cons_zero, List.set_cons_succ]
    refine wpL_pure (.slice a1 n1 c1) rfl (by kernel_rfl) ?_
    simp only [Act.put, List.setIfInBounds_toArray, List.set_cons_zero, List.set_cons_succ]
    refine wpL_pure (.int .i64 (n1 : Int)) rfl (by kernel_rfl) ?_
    simp only [Act.put, List.setIfInBounds_toArray, List.set_cons_zero, List.set_cons_succ]
    refine wpL_pure (.bool true) rfl (run_gti Try.underlying3 rfl rfl rfl BIG.out) ?_
    simp only [Act.put, List.setIfInBounds_toArray, List.set_cons_zero, List.set_cons_succ]
    refine wpL_pure (.bool true) rfl (by kernel_rfl) ?_
    simp only [Act.put, List.setIfInBounds_toArray, List.set_cons_zero, List.set_cons_succ]
    go_upto_region 2 with (fail)
    refine wp_region_lit ?_
    refine wpL_call 8 #[] rfl (by kernel_rfl) ((awake_any w1).mono fun e w2 ⟨he, hb⟩ => ⟨.bool true, he, ?_⟩)
    simp only [Act.put, List.setIfInBounds_toArray, List.set_cons_zero, List.set_cons_succ]
    have B2 := Lib.hid (B1.out.trans (hb.mono B1.out.size))
    clear hb
    refine wpL_pure (.bool true) rfl (by kernel_rfl) ?_
    simp only [Act.put, List.setIfInBounds_toArray, List.set_cons_zero, List.set_cons_succ]
    go_wp2_with fail
    go_ret
    exact ⟨rfl, B2.out⟩
  · have BIG : Hid (decide ((40 : Int) < (n1 : Int)) = false) := Lib.hid (by rw [decide_eq_false_iff_not]; omega)
    clear i1
    go_enter Try.func6, Try.ntmps6
    go_upto_region 1 with (fail)
    refine wp_region_lit ?_
    refine wpL_call 8 #[] rfl (by kernel_rfl) ((awake_any w).mono fun e w1 ⟨he, hb⟩ => ⟨.bool true, he, ?_⟩)
    simp only [Act.put, List.setIfInBounds_toArray, List.set_cons_zero, List.set_cons_succ]
    have B1 := Lib.hid hb
    clear hb
    refine wpL_pure (.bool false) rfl (by kernel_rfl) ?_
    simp only [Act.put, List.setIfInBounds_toArray, List.set_cons_zero, List.set_cons_succ]
    refine wpL_pure (.bool false) rfl (by kernel_rfl) ?_
    simp only [Act.put, List.setIfInBounds_toArray, List.set_cons_zero, List.set_cons_succ]
    refine wpL_pure (.slice a1 n1 c1) rfl (by kernel_rfl) ?_
    simp only [Act.put, List.setIfInBounds_toArray, List.set_cons_zero, List.set_cons_succ]
    refine wpL_pure (.int .i64 (n1 : Int)) rfl (by kernel_rfl) ?_
    simp only [Act.put, List.setIfInBounds_toArray, List.set_cons_zero, List.set_cons_succ]
    refine wpL_pure (.bool false) rfl (run_gti Try.underlying3 rfl rfl rfl BIG.out) ?_
    simp only [Act.put, List.setIfInBounds_toArray, List.set_cons_zero, List.set_cons_succ]
    refine wpL_pure (.bool false) rfl (by kernel_rfl) ?_
    simp only [Act.put, List.setIfInBounds_toArray, List.set_cons_zero, List.set_cons_succ]
    have RD := Lib.hid (read_any w1 a1 n1 c1 xs (HR.out.keep B1.out) (by have := BIG.out; rw [decide_eq_false_iff_not] at this; omega) HNIL.out)
    go_upto_region 3 with (fail)
    refine wp_region_lit ?_
    refine wpL_pure (.slice a1 n1 c1) rfl (by kernel_rfl) ?_
    simp only [Act.put, List.setIfInBounds_toArray, List.set_cons_zero, List.set_cons_succ]
    refine wpL_call 13 #[.slice a1 n1 c1] rfl (by kernel_rfl) ((RD.out).mono fun e w2 ⟨gi, he, q0, q1, q2⟩ => ⟨.pointer (some ⟨gi, 0, none⟩), he, ?_⟩)
    simp only [Act.put, List.setIfInBounds_toArray, List.set_cons_zero, List.set_cons_succ]
    have G0 : Hid (w.heap.size ≤ gi) := Lib.hid (Nat.le_trans B1.out.size q0)
    have B2 := Lib.hid (B1.out.trans (q2.mono B1.out.size))
    have NU := Lib.hid (inum_any w2 gi 18446744073709551615 xs false q1 (by omega))
    clear q0 q1 q2 RD B1
    refine wpL_pure (.pointer (some ⟨gi, 0, none⟩)) rfl (by kernel_rfl) ?_
    simp only [Act.put, List.setIfInBounds_toArray, List.set_cons_zero, List.set_cons_succ]
    go_upto_region 4 with (fail)
    refine wp_region_lit ?_
    refine wpL_pure (.pointer (some ⟨gi, 0, none⟩)) rfl (by kernel_rfl) ?_
    simp only [Act.put, List.setIfInBounds_toArray, List.set_cons_zero, List.set_cons_succ]
    refine wpL_call 19 #[.pointer (some ⟨gi, 0, none⟩), .int .u64 18446744073709551615] rfl (by kernel_rfl) ((NU.out).mono fun e w3 ⟨r, he, q1, q2⟩ => ⟨.int .u64 (r : Int), he, ?_⟩)
    simp only [Act.put, List.setIfInBounds_toArray, List.set_cons_zero, List.set_cons_succ]
    have B3 : Hid (Below w.heap.size w w3) := Lib.hid (B2.out.trans (gb_below q1 G0.out B2.out.size))
    clear q1 NU B2
    refine wpL_pure (.int .u64 (r : Int)) rfl (by kernel_rfl) ?_
    simp only [Act.put, List.setIfInBounds_toArray, List.set_cons_zero, List.set_cons_succ]
    rcases q2 with ⟨_, k, hk, hr, _, hr2, hi⟩ | ⟨_, rfl, hi⟩
    · have HSP : Hid (c1 < 9223372036854775808 ∧ ∀ p, a1 = some p → p.spot = none) := Lib.hid ⟨HM.out.1, HM.out.2 (by have := hk.1; have := HR.out.1; have := HC.out; omega)⟩
      have HI := Lib.hid hi
      have HK : Hid (Good (byt xs) xs.length k ∧ r = accN (byt xs) (k + 1) ∧ r < 18446744073709551616) := Lib.hid ⟨hk, hr, hr2⟩
      have HE : Hid (enc r = xs.take (k + 1) ∧ k + 1 ≤ n1 ∧ n1 ≤ 40) := Lib.hid ⟨by rw [hr]; exact enc_good HR.out.2.2.1 hk, by have := hk.1; have := HR.out.1; omega, by have := BIG.out; rw [decide_eq_false_iff_not] at this; omega⟩
      clear hi hk hr hr2
      go_upto_region 5 with (fail)
      refine wp_region_lit ?_
      refine wpL_pure (.pointer (some ⟨gi, 0, none⟩)) rfl (by kernel_rfl) ?_
      simp only [Act.put, List.setIfInBounds_toArray, List.set_cons_zero, List.set_cons_succ]
      refine wpL_call 16 #[.pointer (some ⟨gi, 0, none⟩)] rfl (by kernel_rfl) ((bad_any w3 gi _ _ HI.out).mono fun e w4 ⟨he, hw⟩ => ⟨.bool false, he, ?_⟩)
      simp only [Act.put, List.setIfInBounds_toArray, List.set_cons_zero, List.set_cons_succ]
      subst hw
      go_upto_region 8 with (fail)
      have O0 := OutSt.new w3
      have W0 : Below w3.heap.size w3 (w3.alloc (.cells #[.slice none 0 0, .bool false, .pointer none] 30)) := (Below.refl _ _).alloc (Nat.le_refl _) _
      generalize w3.alloc (.cells #[.slice none 0 0, .bool false, .pointer none] 30) = w4 at O0 W0 ⊢
      have PU := Lib.hid (onum_any w4 w3.heap.size r [] O0 HK.out.2.2 (by have := enc_10 r HK.out.2.2; simp; omega))
      have H4 := Lib.hid W0
      clear O0 W0
      generalize hg : w3.heap.size = go at *
      have HG := Lib.hid hg
      clear hg
      refine wp_region_lit ?_
      refine wpL_pure (.int .u64 (r : Int)) rfl (by kernel_rfl) ?_
      simp only [Act.put, List.setIfInBounds_toArray, List.set_cons_zero, List.set_cons_succ]
      refine wpL_call 20 #[.pointer (some ⟨go, 0, none⟩), .int .u64 (r : Int)] rfl (by kernel_rfl) ((PU.out).mono fun e w5 ⟨he, q1, q2⟩ => ⟨.tuple #[], he, ?_⟩)
      simp only [Act.put, List.setIfInBounds_toArray, List.set_cons_zero, List.set_cons_succ]
      have EN := Lib.hid (end_any w5 go (enc r) (by simpa using q1) (by have := enc_10 r HK.out.2.2; omega))
      have H5 : Hid (Below w3.heap.size w3 w5 ∧ go < w5.heap.size) := Lib.hid ⟨by rw [HG.out]; exact H4.out.trans q2, q1.lt⟩
      clear q1 q2 PU H4
      go_upto_region 9 with (fail)
      refine wp_region_lit ?_
      refine wpL_call 12 #[.pointer (some ⟨go, 0, none⟩)] rfl (by kernel_rfl) ((EN.out).mono fun e w6 ⟨v, he, q1, q2⟩ => ⟨.tuple #[v, .int .i64 0], he, ?_⟩)
      simp only [Act.put, List.setIfInBounds_toArray, List.set_cons_zero, List.set_cons_succ]
      obtain ⟨a2, c2, ev⟩ := q1.slice
      subst ev
      have H6 : Hid (Below w3.heap.size w3 w6) := Lib.hid (H5.out.1.trans (q2.mono (by have := H5.out.2; have := HG.out; omega)))
      have R2 : Hid (Row w6 a2 (enc r).length (enc r)) := Lib.hid q1.row.1
      have SX : Hid (Below w.heap.size w w6 ∧ InSt w6 gi (xs.drop (k + 1)) false ∧ Row w6 a1 n1 xs ∧ Row w6 a2 (enc r).length (enc r)) := Lib.hid ⟨B3.out.trans (H6.out.mono B3.out.size), HI.out.below H6.out, (HR.out.keep B3.out).keep H6.out, R2.out⟩
      have LE : Hid ((enc r).length = k + 1) := Lib.hid (by rw [HE.out.1, List.length_take, HR.out.1]; have := HE.out.2.1; omega)
      clear q1 q2 EN H5 H6 R2 HI B3
      refine wpL_pure (.tuple #[.slice a2 (enc r).length c2, .int .i64 0]) rfl (by kernel_rfl) ?_
      simp only [Act.put, List.setIfInBounds_toArray, List.set_cons_zero, List.set_cons_succ]
      refine wpL_pure (.slice a2 (enc r).length c2) rfl (by kernel_rfl) ?_
      simp only [Act.put, List.setIfInBounds_toArray, List.set_cons_zero, List.set_cons_succ]
      refine wpL_pure (.int .i64 0) rfl (by kernel_rfl) ?_
      simp only [Act.put, List.setIfInBounds_toArray, List.set_cons_zero, List.set_cons_succ]
      refine wpL_pure (.slice a2 (enc r).length c2) rfl (by kernel_rfl) ?_
      simp only [Act.put, List.setIfInBounds_toArray, List.set_cons_zero, List.set_cons_succ]
      refine wpL_pure (.int .i64 0) rfl (by kernel_rfl) ?_
      simp only [Act.put, List.setIfInBounds_toArray, List.set_cons_zero, List.set_cons_succ]
      go_upto_region 10 with (fail)
      refine region_held (fun X => Below w.heap.size w X ∧ InSt X gi (xs.drop (k + 1)) false ∧ Row X a1 n1 xs ∧ Row X a2 (enc r).length (enc r)) 22 (by kernel_rfl) (by kernel_rfl) (by exact ⟨SX.out.1.drew, (by obtain ⟨a, n, c, q⟩ := SX.out.2.1; exact ⟨a, n, c, q⟩), SX.out.2.2⟩) ?_
      simp only [List.take_succ_cons, List.take_zero, List.drop_succ_cons, List.drop_zero]
      refine wpHeld_cons (.int .i64 0) rfl (fun w h => heldRun_value (by kernel_rfl) h) ?_
      simp only [Act.put, List.setIfInBounds_toArray, List.set_cons_zero, List.set_cons_succ]
      refine wpHeld_cons (.bool true) rfl (fun w h => heldRun_value (run_eqi Try.underlying38 rfl rfl rfl (by simp)) h) ?_
      simp only [Act.put, List.setIfInBounds_toArray, List.set_cons_zero, List.set_cons_succ]
      refine wpHeld_cons (.bool true) rfl (fun w h => heldRun_value (by kernel_rfl) h) ?_
      simp only [Act.put, List.setIfInBounds_toArray, List.set_cons_zero, List.set_cons_succ]
      refine wpHeld_cons (.slice a2 (enc r).length c2) rfl (fun w h => heldRun_value (by kernel_rfl) h) ?_
      simp only [Act.put, List.setIfInBounds_toArray, List.set_cons_zero, List.set_cons_succ]
      refine wpHeld_cons (.int .i64 ((enc r).length : Int)) rfl (fun w h => heldRun_value (by kernel_rfl) h) ?_
      simp only [Act.put, List.setIfInBounds_toArray, List.set_cons_zero, List.set_cons_succ]
      refine wpHeld_cons (.pointer (some ⟨gi, 0, none⟩)) rfl (fun w h => heldRun_value (by kernel_rfl) h) ?_
      simp only [Act.put, List.setIfInBounds_toArray, List.set_cons_zero, List.set_cons_succ]
      refine wpHeld_call (.int .i64 ((xs.drop (k + 1)).length : Int)) 17 #[.pointer (some ⟨gi, 0, none⟩)] rfl (fun w => by kernel_rfl) (fun X h => (left_any X gi _ _ h.2.1).mono fun e X' ⟨he, hx⟩ => ⟨he, by subst hx; exact h⟩) ?_
      simp only [Act.put, List.setIfInBounds_toArray, List.set_cons_zero, List.set_cons_succ]
      refine wpHeld_cons (.int .i64 (n1 : Int)) rfl (fun w h => heldRun_value (run_addi Try.underlying3 rfl rfl rfl _ (by have h1 := LE.out; have h2 := HE.out; have h3 := HR.out.1; rw [wrap_in _ (by simp; omega) (by simp; omega)]; simp; omega)) h) ?_
      simp only [Act.put, List.setIfInBounds_toArray, List.set_cons_zero, List.set_cons_succ]
      refine wpHeld_cons (.slice a1 n1 c1) rfl (fun w h => heldRun_value (by kernel_rfl) h) ?_
      simp only [Act.put, List.setIfInBounds_toArray, List.set_cons_zero, List.set_cons_succ]
      refine wpHeld_cons (.int .i64 (n1 : Int)) rfl (fun w h => heldRun_value (by kernel_rfl) h) ?_
      simp only [Act.put, List.setIfInBounds_toArray, List.set_cons_zero, List.set_cons_succ]
      refine wpHeld_cons (.bool true) rfl (fun w h => heldRun_value (run_eqi Try.underlying3 rfl rfl rfl (by simp)) h) ?_
      simp only [Act.put, List.setIfInBounds_toArray, List.set_cons_zero, List.set_cons_succ]
      refine wpHeld_cons (.bool true) rfl (fun w h => heldRun_value (by kernel_rfl) h) ?_
      simp only [Act.put, List.setIfInBounds_toArray, List.set_cons_zero, List.set_cons_succ]
      refine wpHeld_cons (.bool true) rfl (fun w h => heldRun_value (by kernel_rfl) h) ?_
      simp only [Act.put, List.setIfInBounds_toArray, List.set_cons_zero, List.set_cons_succ]
      refine wpHeld_cons (.slice a1 n1 c1) rfl (fun w h => heldRun_value (by kernel_rfl) h) ?_
      simp only [Act.put, List.setIfInBounds_toArray, List.set_cons_zero, List.set_cons_succ]
      refine wpHeld_cons (.slice a2 (enc r).length c2) rfl (fun w h => heldRun_value (by kernel_rfl) h) ?_
      simp only [Act.put, List.setIfInBounds_toArray, List.set_cons_zero, List.set_cons_succ]
      refine wpHeld_cons (.int .i64 ((enc r).length : Int)) rfl (fun w h => heldRun_value (by kernel_rfl) h) ?_
      simp only [Act.put, List.setIfInBounds_toArray, List.set_cons_zero, List.set_cons_succ]
      refine wpHeld_cons (.slice a1 (enc r).length c1) rfl (fun w h => heldRun_value (run_sliceto _ _ _ _ _ a1 n1 c1 (enc r).length rfl rfl rfl (by have h1 := LE.out; have h2 := HE.out; omega) HC.out (by have := HSP.out; exact this)) h) ?_
      simp only [Act.put, List.setIfInBounds_toArray, List.set_cons_zero, List.set_cons_succ]
      refine wpHeld_cons (.string (strOfNums (enc r))) rfl (fun w h => heldRun_value (run_conv_str _ _ _ _ a1 (enc r).length c1 (enc r) rfl rfl (by have h1 := LE.out; have h2 := HE.out.2; have q := row_pre h.2.2.1 (enc r).length (by omega); rw [h1, ← HE.out.1] at q; rw [h1]; exact q)) h) ?_
      simp only [Act.put, List.setIfInBounds_toArray, List.set_cons_zero, List.set_cons_succ]
      refine wpHeld_cons (.slice a2 (enc r).length c2) rfl (fun w h => heldRun_value (by kernel_rfl) h) ?_
      simp only [Act.put, List.setIfInBounds_toArray, List.set_cons_zero, List.set_cons_succ]
      refine wpHeld_cons (.string (strOfNums (enc r))) rfl (fun w h => heldRun_value (run_conv_str _ _ _ _ a2 (enc r).length c2 (enc r) rfl rfl h.2.2.2) h) ?_
      simp only [Act.put, List.setIfInBounds_toArray, List.set_cons_zero, List.set_cons_succ]
      refine wpHeld_cons (.bool true) rfl (fun w h => heldRun_value (run_str_eql _ _ _ _ _ (enc r) (enc r) true rfl rfl rfl (by simp) (enc_byte r r (Nat.le_refl _)) (enc_byte r r (Nat.le_refl _))) h) ?_
      simp only [Act.put, List.setIfInBounds_toArray, List.set_cons_zero, List.set_cons_succ]
      refine wpHeld_cons (.bool true) rfl (fun w h => heldRun_value (by kernel_rfl) h) ?_
      simp only [Act.put, List.setIfInBounds_toArray, List.set_cons_zero, List.set_cons_succ]
      refine wpHeld_nil ?_
      intro X h
      have HX := Lib.hid h.1
      clear h SX
      refine wpL_pure (.bool true) rfl (by kernel_rfl) ?_
      simp only [Act.put, List.setIfInBounds_toArray, List.set_cons_zero, List.set_cons_succ]
      go_wp2_with fail
      go_ret
      exact ⟨rfl, HX.out⟩
    · have HI := Lib.hid hi
      clear hi
      go_upto_region 5 with (fail)
      refine wp_region_lit ?_
      refine wpL_pure (.pointer (some ⟨gi, 0, none⟩)) rfl (by kernel_rfl) ?_
      simp only [Act.put, List.setIfInBounds_toArray, List.set_cons_zero, List.set_cons_succ]
      refine wpL_call 16 #[.pointer (some ⟨gi, 0, none⟩)] rfl (by kernel_rfl) ((bad_any w3 gi _ _ HI.out).mono fun e w4 ⟨he, hw⟩ => ⟨.bool true, he, ?_⟩)
      simp only [Act.put, List.setIfInBounds_toArray, List.set_cons_zero, List.set_cons_succ]
      subst hw
      go_upto_region 6 with (fail)
      refine wp_region_lit ?_
      refine wpL_pure (.int .u64 0) rfl (by kernel_rfl) ?_
      simp only [Act.put, List.setIfInBounds_toArray, List.set_cons_zero, List.set_cons_succ]
      refine wpL_pure (.bool true) rfl (by kernel_rfl) ?_
      simp only [Act.put, List.setIfInBounds_toArray, List.set_cons_zero, List.set_cons_succ]
      refine wpL_pure (.bool true) rfl (by kernel_rfl) ?_
      simp only [Act.put, List.setIfInBounds_toArray, List.set_cons_zero, List.set_cons_succ]
      refine wpL_pure (.pointer (some ⟨gi, 0, none⟩)) rfl (by kernel_rfl) ?_
      simp only [Act.put, List.setIfInBounds_toArray, List.set_cons_zero, List.set_cons_succ]
      refine wpL_call 17 #[.pointer (some ⟨gi, 0, none⟩)] rfl (by kernel_rfl) ((left_any w3 gi _ _ HI.out).mono fun e w5 ⟨he, hw⟩ => ⟨.int .i64 (xs.length : Int), he, ?_⟩)
      simp only [Act.put, List.setIfInBounds_toArray, List.set_cons_zero, List.set_cons_succ]
      subst hw
      refine wpL_pure (.slice a1 n1 c1) rfl (by kernel_rfl) ?_
      simp only [Act.put, List.setIfInBounds_toArray, List.set_cons_zero, List.set_cons_succ]
      refine wpL_pure (.int .i64 (n1 : Int)) rfl (by kernel_rfl) ?_
      simp only [Act.put, List.setIfInBounds_toArray, List.set_cons_zero, List.set_cons_succ]
      refine wpL_pure (.bool true) rfl (run_eqi Try.underlying3 rfl rfl rfl (by rw [HR.out.1]; simp)) ?_
      simp only [Act.put, List.setIfInBounds_toArray, List.set_cons_zero, List.set_cons_succ]
      refine wpL_pure (.bool true) rfl (by kernel_rfl) ?_
      simp only [Act.put, List.setIfInBounds_toArray, List.set_cons_zero, List.set_cons_succ]
      refine wpL_pure (.bool true) rfl (by kernel_rfl) ?_
      simp only [Act.put, List.setIfInBounds_toArray, List.set_cons_zero, List.set_cons_succ]
      go_wp2_with fail
      go_ret
      exact ⟨rfl, B3.out⟩
end Go.Proofs.Yteblaknbehfkgaa
