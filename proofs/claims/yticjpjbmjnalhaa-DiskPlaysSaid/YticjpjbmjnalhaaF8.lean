/- The reference's Crash. -/
import Derived.Test.YticjpjbmjnalhaaF7
namespace Go.Proofs.Yticjpjbmjnalhaa
open Go Go.RowKit
set_option maxRecDepth 100000
theorem run_idx0 (a : Act) (o : Oper) (w : World) (x i : Operand) (ad : Option Addr) (g n c k : Nat) (ho : o.op = .indexAddr 22 x i) (hx : a.eval x = .slice ad n c) (ha : ad = some ⟨g, 0, none⟩) (hi : a.eval i = .int .i64 (k : Int)) (hk : k < n) (hn : n ≤ maxLen) : (execOp a.eval o).run Try.prog w = .ok (.value (.pointer (some ⟨g, k, none⟩))) w := by
  subst ha
  have q := run_idx a o w x i g 0 n c k ho hx hi hk hn
  rw [Nat.zero_add] at q
  exact q
theorem run_as0 (a : Act) (o : Oper) (w : World) (kf : Nat) (h : kf = 0) (ho : o.op = .assign (.const (.int .i64 0))) : (execOp a.eval o).run Try.prog w = .ok (.value (.int .i64 (kf : Int))) w := by
  subst h
  unfold execOp
  simp only [ho]
  rfl
theorem size5 (w' : World) : (sizeOf 5).run Try.prog w' = .ok 1 w' := by kernel_rfl
theorem size3 (w' : World) : (sizeOf 3).run Try.prog w' = .ok 1 w' := by kernel_rfl
/-- does the j-th byte stay, by a fate of f? -/
def stB (f j : Nat) : Bool := (decide (f < 128) && decide (j < f)) || (decide (128 ≤ f) && decide (192 ≤ f + j))
/-- the first j bytes by the fate, the others as they are. -/
def inP (old cur : List Int) (f j : Nat) : List Int := (List.range 64).map fun q => if q < j ∧ stB f q = false then old.getD q 0 else cur.getD q 0
theorem inP_zero {cur : List Int} (old : List Int) (h : SOk cur) {f : Nat} : inP old cur f 0 = cur := by
  apply List.ext_getElem?
  intro i
  unfold inP
  rw [List.getElem?_map]
  by_cases hi : i < 64
  · rw [List.getElem?_range hi, List.getElem?_eq_getElem (show i < cur.length by rw [h.1]; exact hi)]
    simp [List.getD, List.getElem?_eq_getElem (show i < cur.length by rw [h.1]; exact hi)]
  · rw [List.getElem?_eq_none (by simp; omega), List.getElem?_eq_none (by rw [h.1]; omega)]; rfl
theorem inP_keep {old cur : List Int} {f j : Nat} (h : stB f j = true) : inP old cur f (j + 1) = inP old cur f j := by
  unfold inP
  apply List.map_congr_left
  intro q _
  by_cases e : q = j
  · subst e; simp [h]
  · by_cases l : q < j
    · simp [l, show q < j + 1 by omega]
    · simp [l, show ¬ q < j + 1 by omega]
theorem inP_put {old cur : List Int} {f j : Nat} (h : stB f j = false) : inP old cur f (j + 1) = (inP old cur f j).set j (old.getD j 0) := by
  apply List.ext_getElem?
  intro i
  unfold inP
  rw [List.getElem?_set, List.getElem?_map, List.getElem?_map]
  by_cases hi : i < 64
  · rw [List.getElem?_range hi]
    by_cases e : j = i
    · subst e; simp [h, hi]
    · by_cases l : i < j
      · simp [e, l, show i < j + 1 by omega]
      · simp [e, l, show ¬ i < j + 1 by omega]
  · rw [List.getElem?_eq_none (by simp; omega)]
    by_cases e : j = i
    · subst e; simp [hi]
    · simp [e]
theorem upF_upF {α : Type} (f : Nat → α) (k : Nat) (x y : α) : upF (upF f k x) k y = upF f k y := by
  funext j
  by_cases e : j = k <;> simp [upF, e]
/-- what a crash leaves of the j-th sector. -/
def crN (F : List Int) (N W : Nat → List Int) (I : Nat → Bool) (j : Nat) : List Int := if I j = true then inP (W j) (N j) (fateN F (cntB I j)) 64 else N j
def ouN (F : List Int) (N W : Nat → List Int) (I : Nat → Bool) (k : Nat) : Nat → List Int := fun j => if j < k then crN F N W I j else N j
def ouW (F : List Int) (N W : Nat → List Int) (I : Nat → Bool) (k : Nat) : Nat → List Int := fun j => if j < k then (if I j = true then crN F N W I j else W j) else W j
section
variable {F : List Int} {N W : Nat → List Int} {I : Nat → Bool} {k : Nat}
theorem ouN_self (F : List Int) (N W : Nat → List Int) (I : Nat → Bool) (k : Nat) : ouN F N W I k k = N k := by simp [ouN]
theorem ouW_self (F : List Int) (N W : Nat → List Int) (I : Nat → Bool) (k : Nat) : ouW F N W I k k = W k := by simp [ouW]
theorem syI_self (I : Nat → Bool) (k : Nat) : syI I k k = I k := by simp [syI]
theorem ouN_up : upF (ouN F N W I k) k (N k) = ouN F N W I k := by
  funext j
  by_cases e : j = k
  · subst e; simp [upF, ouN]
  · simp [upF, e]
theorem ouN_skip (h : I k = false) : ouN F N W I (k + 1) = ouN F N W I k := by
  funext j
  unfold ouN
  by_cases e : j = k
  · subst e; simp [crN, h]
  · by_cases l : j < k
    · simp [l, show j < k + 1 by omega]
    · simp [l, show ¬ j < k + 1 by omega]
theorem ouW_skip (h : I k = false) : ouW F N W I (k + 1) = ouW F N W I k := by
  funext j
  unfold ouW
  by_cases e : j = k
  · subst e; simp [h]
  · by_cases l : j < k
    · simp [l, show j < k + 1 by omega]
    · simp [l, show ¬ j < k + 1 by omega]
theorem syI_skip (h : I k = false) : syI I (k + 1) = syI I k := by
  funext j
  unfold syI
  by_cases e : j = k
  · subst e; simp [h]
  · by_cases l : j < k
    · simp [l, show j < k + 1 by omega]
    · simp [l, show ¬ j < k + 1 by omega]
theorem ouN_next (h : I k = true) : ouN F N W I (k + 1) = upF (ouN F N W I k) k (inP (W k) (N k) (fateN F (cntB I k)) 64) := by
  funext j
  unfold ouN upF
  by_cases e : j = k
  · subst e; simp [crN, h]
  · by_cases l : j < k
    · simp [e, l, show j < k + 1 by omega]
    · simp [e, l, show ¬ j < k + 1 by omega]
theorem ouW_next (h : I k = true) : ouW F N W I (k + 1) = upF (ouW F N W I k) k (ouN F N W I (k + 1) k) := by
  funext j
  unfold ouW ouN upF
  by_cases e : j = k
  · subst e; simp [h]
  · by_cases l : j < k
    · simp [e, l, show j < k + 1 by omega]
    · simp [e, l, show ¬ j < k + 1 by omega]
end
def RCPost (base r n : Nat) (F : List Int) (N W : Nat → List Int) (I : Nat → Bool) (w : World) (e : Ending) (w' : World) : Prop :=
  e = .returned (.tuple #[]) ∧ RS w' base r n (crN F N W I) (fun j => if I j = true then crN F N W I j else W j) (fun _ => false) (-1) false ∧ FR base w w'
attribute [local irreducible] wpList
set_option maxHeartbeats 8000000 in
theorem refcrash0 (w : World) (base n : Nat) (D : RD) (N W : Nat → List Int) (I : Nat → Bool) (fz : Int) (go : Bool) (h : RSD w base n D N W I fz go) (hb : base ≤ w.heap.size) (a : Option Addr) (q cx : Nat) (F : List Int) (hr : Row w a q F) (hq : q = 0) :
    Calls Try.prog 28 #[.pointer (some ⟨D.r, 0, none⟩), .slice a q cx] w fun e w' => RCPost base D.r n F N W I w e w' := by
  have HN := Lib.hid h.few
  have H := Lib.hid h
  have HB := Lib.hid hb
  have HR := Lib.hid hr
  have QE := Lib.hid hq
  clear h hb hr hq
  obtain ⟨r, gN, gW, gI, cN, cW, cI, aN, aW, aI, pN, kN, pW, kW⟩ := D
  change Calls Try.prog 28 #[.pointer (some ⟨r, 0, none⟩), .slice a q cx] w fun e w' => RCPost base r n F N W I w e w'
  go_enter Try.func28, Try.ntmps28
  go_upto_region 0 with (fail)
  refine wp_region_lit ?_
  refine wpL_pure (.int .i64 0) rfl (by kernel_rfl) ?_
  simp only [Act.put, List.setIfInBounds_toArray, List.set_cons_zero, List.set_cons_succ]
  go_upto_region 1 with (fail)
  refine wp_region_lit ?_
  refine wpL_pure (.int .i64 0) rfl (by kernel_rfl) ?_
  simp only [Act.put, List.setIfInBounds_toArray, List.set_cons_zero, List.set_cons_succ]
  have F0 : Hid (RS w base r n N W I fz go) := Lib.hid ⟨_, rfl, H.out⟩
  clear H gN gW gI cN cW cI aN aW aI pN kN pW kW
  go_wp2_with fail
  go_loopw [4, 5] (fun s4 s5 wr => ∃ k : Nat, s4 = .int .i64 (cntB I k : Nat) ∧ s5 = .int .i64 (k : Int) ∧ Hid (k ≤ n ∧ RS wr base r n (ouN F N W I k) (ouW F N W I k) (syI I k) fz go ∧ FR base w wr)) (fun _ s5 _ => n - (intOf s5).toNat)
  case atStart => exact ⟨0, rfl, rfl, Lib.hid ⟨Nat.zero_le _, F0.out, FR.refl _⟩⟩
  case round =>
    clear F0
    obtain ⟨k, rfl, rfl, RI⟩ := hrel
    obtain ⟨cc, hcc⟩ : ∃ s, cntB I k = s := ⟨_, rfl⟩
    have CC := Lib.hid hcc
    have CB : Hid (cc ≤ k) := Lib.hid (by rw [← hcc]; exact cntB_le I k)
    rw [hcc]
    clear hcc
    obtain ⟨⟨r', gN, gW, gI, cN, cW, cI, aN, aW, aI, pN, kN, pW, kW⟩, hr, hd⟩ := RI.out.2.1
    obtain rfl : r = r' := hr.symm
    clear hr
    have F1 : Hid (RSD wr base n ⟨r, gN, gW, gI, cN, cW, cI, aN, aW, aI, pN, kN, pW, kW⟩ (ouN F N W I k) (ouW F N W I k) (syI I k) fz go ∧ FR base w wr) := Lib.hid ⟨hd, RI.out.2.2⟩
    clear hd
    by_cases hlt : k < n
    · have HK := Lib.hid hlt
      clear hlt
      obtain ⟨ea, eb, ec⟩ := F1.out.1.addr (by have := HK.out; omega)
      simp only at ea eb ec
      subst ea eb ec
      go_upto_region 2 with (fail)
      refine wp_region_lit ?_
      refine wpL_pure (.int .i64 (k : Int)) rfl (by kernel_rfl) ?_
      simp only [Act.put, List.setIfInBounds_toArray, List.set_cons_zero, List.set_cons_succ]
      refine wpL_pure (.pointer (some ⟨r, 0, none⟩)) rfl (by kernel_rfl) ?_
      simp only [Act.put, List.setIfInBounds_toArray, List.set_cons_zero, List.set_cons_succ]
      refine wpL_pure (.pointer (some ⟨r, 0, none⟩)) rfl (by kernel_rfl) ?_
      simp only [Act.put, List.setIfInBounds_toArray, List.set_cons_zero, List.set_cons_succ]
      refine wpL_pure (.pointer (some ⟨r, 0, none⟩)) rfl (by kernel_rfl) ?_
      simp only [Act.put, List.setIfInBounds_toArray, List.set_cons_zero, List.set_cons_succ]
      refine wpL_pure (.slice (some ⟨gN, 0, none⟩) n cN) rfl (run_load_one _ _ _ 56 _ _ rfl (r) (0) rfl ((F1.out.1.see k HK.out).1) (by kernel_rfl)) ?_
      simp only [Act.put, List.setIfInBounds_toArray, List.set_cons_zero, List.set_cons_succ]
      refine wpL_pure (.int .i64 (n : Int)) rfl (by kernel_rfl) ?_
      simp only [Act.put, List.setIfInBounds_toArray, List.set_cons_zero, List.set_cons_succ]
      refine wpL_pure (.bool true) rfl (run_lti Try.underlying3 rfl rfl rfl (by have := HK.out; rw [decide_eq_true_eq]; omega)) ?_
      simp only [Act.put, List.setIfInBounds_toArray, List.set_cons_zero, List.set_cons_succ]
      obtain ⟨zi, hzi⟩ : ∃ z, I k = z := ⟨_, rfl⟩
      have ZI := Lib.hid hzi
      have CI : Hid (wr.cell? ⟨gI, k, none⟩ = some (.bool zi)) := Lib.hid (by rw [← hzi, ← syI_self I k]; exact (F1.out.1.see k HK.out).2.2.2.2.2)
      clear hzi
      cases zi
      · go_upto_region 4 with (fail)
        refine wp_region_lit ?_
        refine wpL_pure (.pointer (some ⟨r, 0, none⟩)) rfl (by kernel_rfl) ?_
        simp only [Act.put, List.setIfInBounds_toArray, List.set_cons_zero, List.set_cons_succ]
        refine wpL_pure (.pointer (some ⟨r, 0, none⟩)) rfl (by kernel_rfl) ?_
        simp only [Act.put, List.setIfInBounds_toArray, List.set_cons_zero, List.set_cons_succ]
        refine wpL_pure (.pointer (some ⟨r, 2, none⟩)) rfl (by kernel_rfl) ?_
        simp only [Act.put, List.setIfInBounds_toArray, List.set_cons_zero, List.set_cons_succ]
        refine wpL_pure (.slice (some ⟨gI, 0, none⟩) n cI) rfl (run_load_one _ _ _ 57 _ _ rfl (r) (2) rfl ((F1.out.1.see k HK.out).2.2.1) (by kernel_rfl)) ?_
        simp only [Act.put, List.setIfInBounds_toArray, List.set_cons_zero, List.set_cons_succ]
        refine wpL_pure (.int .i64 (k : Int)) rfl (by kernel_rfl) ?_
        simp only [Act.put, List.setIfInBounds_toArray, List.set_cons_zero, List.set_cons_succ]
        refine wpL_pure (.pointer (some ⟨gI, k, none⟩)) rfl (run_idx57' _ _ _ _ _ _ gI n cI k rfl rfl rfl rfl HK.out (by have := HN.out; unfold maxLen; omega)) ?_
        simp only [Act.put, List.setIfInBounds_toArray, List.set_cons_zero, List.set_cons_succ]
        refine wpL_pure (.bool false) rfl (run_load_one _ _ _ 4 _ _ rfl (gI) (k) rfl (CI.out) (by kernel_rfl)) ?_
        simp only [Act.put, List.setIfInBounds_toArray, List.set_cons_zero, List.set_cons_succ]
        refine wpL_pure (.bool true) rfl (by kernel_rfl) ?_
        simp only [Act.put, List.setIfInBounds_toArray, List.set_cons_zero, List.set_cons_succ]
        go_upto_region 3 with (fail)
        refine wp_region_lit ?_
        refine wpL_pure (.int .i64 (k : Int)) rfl (by kernel_rfl) ?_
        simp only [Act.put, List.setIfInBounds_toArray, List.set_cons_zero, List.set_cons_succ]
        refine wpL_pure (.int .i64 ((k + 1 : Nat) : Int)) rfl (run_addi Try.underlying3 rfl rfl rfl _ (by have := HK.out; have := HN.out; rw [wrap_in _ (by omega) (by omega)]; omega)) ?_
        simp only [Act.put, List.setIfInBounds_toArray, List.set_cons_zero, List.set_cons_succ]
        refine wpL_pure (.int .i64 ((k + 1 : Nat) : Int)) rfl (by kernel_rfl) ?_
        simp only [Act.put, List.setIfInBounds_toArray, List.set_cons_zero, List.set_cons_succ]
        have EC : cntB I (k + 1) = cc := by simp [cntB, ZI.out, CC.out]
        have NX : Hid (k + 1 ≤ n ∧ RS wr base r n (ouN F N W I (k + 1)) (ouW F N W I (k + 1)) (syI I (k + 1)) fz go ∧ FR base w wr) := Lib.hid ⟨HK.out, by rw [ouN_skip ZI.out, ouW_skip ZI.out, syI_skip ZI.out]; exact ⟨_, rfl, F1.out.1⟩, F1.out.2⟩
        unfold wpList
        go_roundw
        case rel => first | exact ⟨k + 1, by rw [EC], rfl, NX⟩ | ((repeat apply Exists.intro); exact ⟨⟨k + 1, by rw [EC], rfl, NX⟩, rfl⟩)
        case measure => simp [intOf]; have := HK.out; omega
      · go_upto_region 4 with (fail)
        refine wp_region_lit ?_
        refine wpL_pure (.pointer (some ⟨r, 0, none⟩)) rfl (by kernel_rfl) ?_
        simp only [Act.put, List.setIfInBounds_toArray, List.set_cons_zero, List.set_cons_succ]
        refine wpL_pure (.pointer (some ⟨r, 0, none⟩)) rfl (by kernel_rfl) ?_
        simp only [Act.put, List.setIfInBounds_toArray, List.set_cons_zero, List.set_cons_succ]
        refine wpL_pure (.pointer (some ⟨r, 2, none⟩)) rfl (by kernel_rfl) ?_
        simp only [Act.put, List.setIfInBounds_toArray, List.set_cons_zero, List.set_cons_succ]
        refine wpL_pure (.slice (some ⟨gI, 0, none⟩) n cI) rfl (run_load_one _ _ _ 57 _ _ rfl (r) (2) rfl ((F1.out.1.see k HK.out).2.2.1) (by kernel_rfl)) ?_
        simp only [Act.put, List.setIfInBounds_toArray, List.set_cons_zero, List.set_cons_succ]
        refine wpL_pure (.int .i64 (k : Int)) rfl (by kernel_rfl) ?_
        simp only [Act.put, List.setIfInBounds_toArray, List.set_cons_zero, List.set_cons_succ]
        refine wpL_pure (.pointer (some ⟨gI, k, none⟩)) rfl (run_idx57' _ _ _ _ _ _ gI n cI k rfl rfl rfl rfl HK.out (by have := HN.out; unfold maxLen; omega)) ?_
        simp only [Act.put, List.setIfInBounds_toArray, List.set_cons_zero, List.set_cons_succ]
        refine wpL_pure (.bool true) rfl (run_load_one _ _ _ 4 _ _ rfl (gI) (k) rfl (CI.out) (by kernel_rfl)) ?_
        simp only [Act.put, List.setIfInBounds_toArray, List.set_cons_zero, List.set_cons_succ]
        refine wpL_pure (.bool false) rfl (by kernel_rfl) ?_
        simp only [Act.put, List.setIfInBounds_toArray, List.set_cons_zero, List.set_cons_succ]
        obtain ⟨kf, hkf⟩ : ∃ q0, fateN F cc = q0 := ⟨_, rfl⟩
        have KF : Hid (fateN F cc = kf ∧ kf < 256 ∧ kf = 0) := Lib.hid (by subst hkf; exact ⟨rfl, by rw [fate_none (HR.out.1.trans QE.out)]; decide, fate_none (HR.out.1.trans QE.out)⟩)
        clear hkf
        go_upto_region 5 with (fail)
        refine wp_region_lit ?_
        refine wpL_pure (.int .i64 (kf : Int)) rfl (run_as0 _ _ _ kf KF.out.2.2 rfl) ?_
        simp only [Act.put, List.setIfInBounds_toArray, List.set_cons_zero, List.set_cons_succ]
        go_upto_region 6 with (fail)
        refine wp_region_lit ?_
        refine wpL_pure (.slice a q cx) rfl (by kernel_rfl) ?_
        simp only [Act.put, List.setIfInBounds_toArray, List.set_cons_zero, List.set_cons_succ]
        refine wpL_pure (.int .i64 (q : Int)) rfl (by kernel_rfl) ?_
        simp only [Act.put, List.setIfInBounds_toArray, List.set_cons_zero, List.set_cons_succ]
        refine wpL_pure (.bool false) rfl (run_gti Try.underlying3 rfl rfl rfl (by rw [QE.out]; decide)) ?_
        simp only [Act.put, List.setIfInBounds_toArray, List.set_cons_zero, List.set_cons_succ]
        go_upto_region 8 with (fail)
        refine wp_region_lit ?_
        refine wpL_pure (.int .i64 (cc : Nat)) rfl (by kernel_rfl) ?_
        simp only [Act.put, List.setIfInBounds_toArray, List.set_cons_zero, List.set_cons_succ]
        refine wpL_pure (.int .i64 ((cc + 1 : Nat) : Int)) rfl (run_addi Try.underlying3 rfl rfl rfl _ (by have := CB.out; have := HK.out; have := HN.out; rw [wrap_in _ (by omega) (by omega)]; omega)) ?_
        simp only [Act.put, List.setIfInBounds_toArray, List.set_cons_zero, List.set_cons_succ]
        refine wpL_pure (.int .i64 ((cc + 1 : Nat) : Int)) rfl (by kernel_rfl) ?_
        simp only [Act.put, List.setIfInBounds_toArray, List.set_cons_zero, List.set_cons_succ]
        go_upto_region 9 with (fail)
        refine wp_region_lit ?_
        refine wpL_pure (.int .i64 0) rfl (by kernel_rfl) ?_
        simp only [Act.put, List.setIfInBounds_toArray, List.set_cons_zero, List.set_cons_succ]
        have G0 : Hid (SOk (N k) ∧ SOk (W k)) := Lib.hid ⟨by rw [← ouN_self F N W I k]; exact F1.out.1.oN k HK.out, by rw [← ouW_self F N W I k]; exact F1.out.1.oW k HK.out⟩
        have F2 : Hid (RS wr base r n (upF (ouN F N W I k) k (inP (W k) (N k) kf 0)) (ouW F N W I k) (syI I k) fz go ∧ FR base w wr) := Lib.hid ⟨⟨_, rfl, by rw [inP_zero _ G0.out.1, ouN_up]; exact F1.out.1⟩, F1.out.2⟩
        clear CI
        go_wp2_with fail
        go_loopw [7] (fun s7 wr => ∃ j : Nat, s7 = .int .i64 (j : Int) ∧ Hid (j ≤ 64 ∧ RS wr base r n (upF (ouN F N W I k) k (inP (W k) (N k) kf j)) (ouW F N W I k) (syI I k) fz go ∧ FR base w wr)) (fun s7 _ => 64 - (intOf s7).toNat)
        case atStart => exact ⟨0, rfl, Lib.hid ⟨Nat.zero_le _, F2.out.1, F2.out.2⟩⟩
        case round =>
          clear F1 F2 RI
          obtain ⟨j, rfl, RJ⟩ := hrel
          obtain ⟨⟨r', gN, gW, gI, cN, cW, cI, aN, aW, aI, pN, kN, pW, kW⟩, hr, hd⟩ := RJ.out.2.1
          obtain rfl : r = r' := hr.symm
          clear hr
          have F1 : Hid (RSD wr base n ⟨r, gN, gW, gI, cN, cW, cI, aN, aW, aI, pN, kN, pW, kW⟩ (upF (ouN F N W I k) k (inP (W k) (N k) kf j)) (ouW F N W I k) (syI I k) fz go ∧ FR base w wr) := Lib.hid ⟨hd, RJ.out.2.2⟩
          clear hd
          obtain ⟨ea, eb, ec⟩ := F1.out.1.addr (by have := HK.out; omega)
          simp only at ea eb ec
          subst ea eb ec
          by_cases hj : j < 64
          · have HJ := Lib.hid hj
            clear hj
            go_upto_region 10 with (fail)
            refine wp_region_lit ?_
            refine wpL_pure (.int .i64 (j : Int)) rfl (by kernel_rfl) ?_
            simp only [Act.put, List.setIfInBounds_toArray, List.set_cons_zero, List.set_cons_succ]
            refine wpL_pure (.bool true) rfl (run_lti Try.underlying3 rfl rfl rfl (by have := HJ.out; rw [decide_eq_true_eq]; omega)) ?_
            simp only [Act.put, List.setIfInBounds_toArray, List.set_cons_zero, List.set_cons_succ]
            by_cases h1 : kf < 128
            · have H1 := Lib.hid h1
              clear h1
              by_cases h2 : j < kf
              · have H2 := Lib.hid h2
                clear h2
                have HST : Hid (stB kf j = true) := Lib.hid (by have := H1.out; have := H2.out; simp [stB]; omega)
                go_upto_region 12 with (fail)
                refine wp_region_lit ?_
                refine wpL_pure (.int .i64 (kf : Int)) rfl (by kernel_rfl) ?_
                simp only [Act.put, List.setIfInBounds_toArray, List.set_cons_zero, List.set_cons_succ]
                refine wpL_pure (.bool true) rfl (run_lti Try.underlying3 rfl rfl rfl (by have := H1.out; rw [decide_eq_true_eq]; omega)) ?_
                simp only [Act.put, List.setIfInBounds_toArray, List.set_cons_zero, List.set_cons_succ]
                refine wpL_pure (.bool true) rfl (by kernel_rfl) ?_
                simp only [Act.put, List.setIfInBounds_toArray, List.set_cons_zero, List.set_cons_succ]
                refine wpL_pure (.int .i64 (j : Int)) rfl (by kernel_rfl) ?_
                simp only [Act.put, List.setIfInBounds_toArray, List.set_cons_zero, List.set_cons_succ]
                refine wpL_pure (.int .i64 (kf : Int)) rfl (by kernel_rfl) ?_
                simp only [Act.put, List.setIfInBounds_toArray, List.set_cons_zero, List.set_cons_succ]
                refine wpL_pure (.bool true) rfl (run_lti Try.underlying3 rfl rfl rfl (by have := H2.out; rw [decide_eq_true_eq]; omega)) ?_
                simp only [Act.put, List.setIfInBounds_toArray, List.set_cons_zero, List.set_cons_succ]
                refine wpL_pure (.bool true) rfl (by kernel_rfl) ?_
                simp only [Act.put, List.setIfInBounds_toArray, List.set_cons_zero, List.set_cons_succ]
                refine wpL_pure (.bool true) rfl (by kernel_rfl) ?_
                simp only [Act.put, List.setIfInBounds_toArray, List.set_cons_zero, List.set_cons_succ]
                refine wpL_skip (by kernel_rfl) ?_
                simp only [Act.put, List.setIfInBounds_toArray, List.set_cons_zero, List.set_cons_succ]
                refine wpL_skip (by kernel_rfl) ?_
                simp only [Act.put, List.setIfInBounds_toArray, List.set_cons_zero, List.set_cons_succ]
                refine wpL_skip (by kernel_rfl) ?_
                simp only [Act.put, List.setIfInBounds_toArray, List.set_cons_zero, List.set_cons_succ]
                refine wpL_skip (by kernel_rfl) ?_
                simp only [Act.put, List.setIfInBounds_toArray, List.set_cons_zero, List.set_cons_succ]
                refine wpL_skip (by kernel_rfl) ?_
                simp only [Act.put, List.setIfInBounds_toArray, List.set_cons_zero, List.set_cons_succ]
                refine wpL_skip (by kernel_rfl) ?_
                simp only [Act.put, List.setIfInBounds_toArray, List.set_cons_zero, List.set_cons_succ]
                refine wpL_skip (by kernel_rfl) ?_
                simp only [Act.put, List.setIfInBounds_toArray, List.set_cons_zero, List.set_cons_succ]
                refine wpL_skip (by kernel_rfl) ?_
                simp only [Act.put, List.setIfInBounds_toArray, List.set_cons_zero, List.set_cons_succ]
                refine wpL_skip (by kernel_rfl) ?_
                simp only [Act.put, List.setIfInBounds_toArray, List.set_cons_zero, List.set_cons_succ]
                refine wpL_pure (.bool true) rfl (by kernel_rfl) ?_
                simp only [Act.put, List.setIfInBounds_toArray, List.set_cons_zero, List.set_cons_succ]
                refine wpL_pure (.bool true) rfl (by kernel_rfl) ?_
                simp only [Act.put, List.setIfInBounds_toArray, List.set_cons_zero, List.set_cons_succ]
                go_upto_region 13 with (fail)
                refine wp_region_lit ?_
                refine wpL_pure (.bool true) rfl (by kernel_rfl) ?_
                simp only [Act.put, List.setIfInBounds_toArray, List.set_cons_zero, List.set_cons_succ]
                refine wpL_pure (.bool false) rfl (by kernel_rfl) ?_
                simp only [Act.put, List.setIfInBounds_toArray, List.set_cons_zero, List.set_cons_succ]
                go_upto_region 11 with (fail)
                refine wp_region_lit ?_
                refine wpL_pure (.int .i64 (j : Int)) rfl (by kernel_rfl) ?_
                simp only [Act.put, List.setIfInBounds_toArray, List.set_cons_zero, List.set_cons_succ]
                refine wpL_pure (.int .i64 ((j + 1 : Nat) : Int)) rfl (run_addi Try.underlying3 rfl rfl rfl _ (by have := HJ.out; rw [wrap_in _ (by omega) (by omega)]; omega)) ?_
                simp only [Act.put, List.setIfInBounds_toArray, List.set_cons_zero, List.set_cons_succ]
                refine wpL_pure (.int .i64 ((j + 1 : Nat) : Int)) rfl (by kernel_rfl) ?_
                simp only [Act.put, List.setIfInBounds_toArray, List.set_cons_zero, List.set_cons_succ]
                have NX : Hid (j + 1 ≤ 64 ∧ RS wr base r n (upF (ouN F N W I k) k (inP (W k) (N k) kf (j + 1))) (ouW F N W I k) (syI I k) fz go ∧ FR base w wr) := Lib.hid ⟨HJ.out, by rw [inP_keep HST.out]; exact ⟨_, rfl, F1.out.1⟩, F1.out.2⟩
                unfold wpList
                go_roundw
                case rel => first | exact ⟨j + 1, rfl, NX⟩ | ((repeat apply Exists.intro); exact ⟨⟨j + 1, rfl, NX⟩, rfl⟩)
                case measure => simp [intOf]; have := HJ.out; omega
              · have H2 := Lib.hid h2
                clear h2
                have HST : Hid (stB kf j = false) := Lib.hid (by have := H1.out; have := H2.out; simp [stB]; omega)
                go_upto_region 12 with (fail)
                refine wp_region_lit ?_
                refine wpL_pure (.int .i64 (kf : Int)) rfl (by kernel_rfl) ?_
                simp only [Act.put, List.setIfInBounds_toArray, List.set_cons_zero, List.set_cons_succ]
                refine wpL_pure (.bool true) rfl (run_lti Try.underlying3 rfl rfl rfl (by have := H1.out; rw [decide_eq_true_eq]; omega)) ?_
                simp only [Act.put, List.setIfInBounds_toArray, List.set_cons_zero, List.set_cons_succ]
                refine wpL_pure (.bool true) rfl (by kernel_rfl) ?_
                simp only [Act.put, List.setIfInBounds_toArray, List.set_cons_zero, List.set_cons_succ]
                refine wpL_pure (.int .i64 (j : Int)) rfl (by kernel_rfl) ?_
                simp only [Act.put, List.setIfInBounds_toArray, List.set_cons_zero, List.set_cons_succ]
                refine wpL_pure (.int .i64 (kf : Int)) rfl (by kernel_rfl) ?_
                simp only [Act.put, List.setIfInBounds_toArray, List.set_cons_zero, List.set_cons_succ]
                refine wpL_pure (.bool false) rfl (run_lti Try.underlying3 rfl rfl rfl (by have := H2.out; rw [decide_eq_false_iff_not]; omega)) ?_
                simp only [Act.put, List.setIfInBounds_toArray, List.set_cons_zero, List.set_cons_succ]
                refine wpL_pure (.bool false) rfl (by kernel_rfl) ?_
                simp only [Act.put, List.setIfInBounds_toArray, List.set_cons_zero, List.set_cons_succ]
                refine wpL_pure (.bool false) rfl (by kernel_rfl) ?_
                simp only [Act.put, List.setIfInBounds_toArray, List.set_cons_zero, List.set_cons_succ]
                refine wpL_pure (.int .i64 (kf : Int)) rfl (by kernel_rfl) ?_
                simp only [Act.put, List.setIfInBounds_toArray, List.set_cons_zero, List.set_cons_succ]
                refine wpL_pure (.bool false) rfl (run_gei Try.underlying3 rfl rfl rfl (by have := H1.out; rw [decide_eq_false_iff_not]; omega)) ?_
                simp only [Act.put, List.setIfInBounds_toArray, List.set_cons_zero, List.set_cons_succ]
                refine wpL_pure (.bool false) rfl (by kernel_rfl) ?_
                simp only [Act.put, List.setIfInBounds_toArray, List.set_cons_zero, List.set_cons_succ]
                refine wpL_skip (by kernel_rfl) ?_
                simp only [Act.put, List.setIfInBounds_toArray, List.set_cons_zero, List.set_cons_succ]
                refine wpL_skip (by kernel_rfl) ?_
                simp only [Act.put, List.setIfInBounds_toArray, List.set_cons_zero, List.set_cons_succ]
                refine wpL_skip (by kernel_rfl) ?_
                simp only [Act.put, List.setIfInBounds_toArray, List.set_cons_zero, List.set_cons_succ]
                refine wpL_skip (by kernel_rfl) ?_
                simp only [Act.put, List.setIfInBounds_toArray, List.set_cons_zero, List.set_cons_succ]
                refine wpL_skip (by kernel_rfl) ?_
                simp only [Act.put, List.setIfInBounds_toArray, List.set_cons_zero, List.set_cons_succ]
                refine wpL_pure (.bool false) rfl (by kernel_rfl) ?_
                simp only [Act.put, List.setIfInBounds_toArray, List.set_cons_zero, List.set_cons_succ]
                refine wpL_pure (.bool false) rfl (by kernel_rfl) ?_
                simp only [Act.put, List.setIfInBounds_toArray, List.set_cons_zero, List.set_cons_succ]
                refine wpL_pure (.bool false) rfl (by kernel_rfl) ?_
                simp only [Act.put, List.setIfInBounds_toArray, List.set_cons_zero, List.set_cons_succ]
                go_upto_region 13 with (fail)
                refine wp_region_lit ?_
                refine wpL_pure (.bool false) rfl (by kernel_rfl) ?_
                simp only [Act.put, List.setIfInBounds_toArray, List.set_cons_zero, List.set_cons_succ]
                refine wpL_pure (.bool true) rfl (by kernel_rfl) ?_
                simp only [Act.put, List.setIfInBounds_toArray, List.set_cons_zero, List.set_cons_succ]
                obtain ⟨x, hx⟩ : ∃ q, (W k).getD j 0 = q := ⟨_, rfl⟩
                have XV := Lib.hid hx
                have XB : Hid (0 ≤ x ∧ x ≤ 255) := Lib.hid (by rw [← hx]; exact getD_byte G0.out.2.2 j)
                clear hx
                go_upto_region 14 with (fail)
                refine region_anyT (fun X => X.cell? ⟨r, 0, none⟩ = some (.slice (some ⟨gN, 0, none⟩) n cN) ∧ X.cell? ⟨gN, k, none⟩ = some (.slice (some ⟨pN k, 0, none⟩) 64 (kN k)) ∧ X.cell? ⟨r, 1, none⟩ = some (.slice (some ⟨gW, 0, none⟩) n cW) ∧ X.cell? ⟨gW, k, none⟩ = some (.slice (some ⟨pW k, 0, none⟩) 64 (kW k)) ∧ X.cell? ⟨pW k, j, none⟩ = some (.int .u8 x)) (by kernel_rfl) 20 20 rfl ?_
                refine wpAnyT_take (i := 0) (oi := ⟨some 63, _, _, _, _, _⟩) (v := .pointer (some ⟨r, 0, none⟩)) rfl (by kernel_rfl) (by kernel_rfl) (by kernel_rfl) (fun _ _ _ h => h) (by kernel_rfl) (Or.inl ⟨rfl, fun w h => by kernel_rfl⟩) (⟨(F1.out.1.see k HK.out).1, (F1.out.1.see k HK.out).2.2.2.1, (F1.out.1.see k HK.out).2.1, (F1.out.1.see k HK.out).2.2.2.2.1, (by have q := (F1.out.1.rW k HK.out).cell j HJ.out; rw [ouW_self] at q; rw [← XV.out]; exact q)⟩) ?_
                simp only [Act.put, List.setIfInBounds_toArray, List.set_cons_zero, List.set_cons_succ]
                refine wpAnyT_take (i := 1) (oi := ⟨some 64, _, _, _, _, _⟩) (v := .pointer (some ⟨r, 0, none⟩)) rfl (by kernel_rfl) (by kernel_rfl) (by kernel_rfl) (fun _ _ _ h => h) (by kernel_rfl) (Or.inl ⟨rfl, fun w h => by kernel_rfl⟩) (⟨(F1.out.1.see k HK.out).1, (F1.out.1.see k HK.out).2.2.2.1, (F1.out.1.see k HK.out).2.1, (F1.out.1.see k HK.out).2.2.2.2.1, (by have q := (F1.out.1.rW k HK.out).cell j HJ.out; rw [ouW_self] at q; rw [← XV.out]; exact q)⟩) ?_
                simp only [Act.put, List.setIfInBounds_toArray, List.set_cons_zero, List.set_cons_succ]
                refine wpAnyT_take (i := 2) (oi := ⟨some 65, _, _, _, _, _⟩) (v := .pointer (some ⟨r, 0, none⟩)) rfl (by kernel_rfl) (by kernel_rfl) (by kernel_rfl) (fun _ _ _ h => h) (by kernel_rfl) (Or.inl ⟨rfl, fun w h => by kernel_rfl⟩) (⟨(F1.out.1.see k HK.out).1, (F1.out.1.see k HK.out).2.2.2.1, (F1.out.1.see k HK.out).2.1, (F1.out.1.see k HK.out).2.2.2.2.1, (by have q := (F1.out.1.rW k HK.out).cell j HJ.out; rw [ouW_self] at q; rw [← XV.out]; exact q)⟩) ?_
                simp only [Act.put, List.setIfInBounds_toArray, List.set_cons_zero, List.set_cons_succ]
                refine wpAnyT_take (i := 3) (oi := ⟨some 66, _, _, _, _, _⟩) (v := .slice (some ⟨gN, 0, none⟩) n cN) rfl (by kernel_rfl) (by kernel_rfl) (by kernel_rfl) (fun _ _ _ h => h) (by kernel_rfl) (Or.inl ⟨rfl, fun w h => run_load_one _ _ _ 56 _ _ rfl (r) (0) rfl (h.1) (by kernel_rfl)⟩) (⟨(F1.out.1.see k HK.out).1, (F1.out.1.see k HK.out).2.2.2.1, (F1.out.1.see k HK.out).2.1, (F1.out.1.see k HK.out).2.2.2.2.1, (by have q := (F1.out.1.rW k HK.out).cell j HJ.out; rw [ouW_self] at q; rw [← XV.out]; exact q)⟩) ?_
                simp only [Act.put, List.setIfInBounds_toArray, List.set_cons_zero, List.set_cons_succ]
                refine wpAnyT_take (i := 4) (oi := ⟨some 67, _, _, _, _, _⟩) (v := .int .i64 (k : Int)) rfl (by kernel_rfl) (by kernel_rfl) (by kernel_rfl) (fun _ _ _ h => h) (by kernel_rfl) (Or.inl ⟨rfl, fun w h => by kernel_rfl⟩) (⟨(F1.out.1.see k HK.out).1, (F1.out.1.see k HK.out).2.2.2.1, (F1.out.1.see k HK.out).2.1, (F1.out.1.see k HK.out).2.2.2.2.1, (by have q := (F1.out.1.rW k HK.out).cell j HJ.out; rw [ouW_self] at q; rw [← XV.out]; exact q)⟩) ?_
                simp only [Act.put, List.setIfInBounds_toArray, List.set_cons_zero, List.set_cons_succ]
                refine wpAnyT_take (i := 5) (oi := ⟨some 68, _, _, _, _, _⟩) (v := .pointer (some ⟨gN, k, none⟩)) rfl (by kernel_rfl) (by kernel_rfl) (by kernel_rfl) (fun _ _ _ h => h) (by kernel_rfl) (Or.inl ⟨rfl, fun w h => run_idx56' _ _ w _ _ _ gN n cN k rfl rfl rfl rfl HK.out (by have := HN.out; unfold maxLen; omega)⟩) (⟨(F1.out.1.see k HK.out).1, (F1.out.1.see k HK.out).2.2.2.1, (F1.out.1.see k HK.out).2.1, (F1.out.1.see k HK.out).2.2.2.2.1, (by have q := (F1.out.1.rW k HK.out).cell j HJ.out; rw [ouW_self] at q; rw [← XV.out]; exact q)⟩) ?_
                simp only [Act.put, List.setIfInBounds_toArray, List.set_cons_zero, List.set_cons_succ]
                refine wpAnyT_take (i := 6) (oi := ⟨some 69, _, _, _, _, _⟩) (v := .slice (some ⟨pN k, 0, none⟩) 64 (kN k)) rfl (by kernel_rfl) (by kernel_rfl) (by kernel_rfl) (fun _ _ _ h => h) (by kernel_rfl) (Or.inl ⟨rfl, fun w h => run_load_one _ _ _ 22 _ _ rfl (gN) (k) rfl (h.2.1) (by kernel_rfl)⟩) (⟨(F1.out.1.see k HK.out).1, (F1.out.1.see k HK.out).2.2.2.1, (F1.out.1.see k HK.out).2.1, (F1.out.1.see k HK.out).2.2.2.2.1, (by have q := (F1.out.1.rW k HK.out).cell j HJ.out; rw [ouW_self] at q; rw [← XV.out]; exact q)⟩) ?_
                simp only [Act.put, List.setIfInBounds_toArray, List.set_cons_zero, List.set_cons_succ]
                refine wpAnyT_take (i := 7) (oi := ⟨some 70, _, _, _, _, _⟩) (v := .int .i64 (j : Int)) rfl (by kernel_rfl) (by kernel_rfl) (by kernel_rfl) (fun _ _ _ h => h) (by kernel_rfl) (Or.inl ⟨rfl, fun w h => by kernel_rfl⟩) (⟨(F1.out.1.see k HK.out).1, (F1.out.1.see k HK.out).2.2.2.1, (F1.out.1.see k HK.out).2.1, (F1.out.1.see k HK.out).2.2.2.2.1, (by have q := (F1.out.1.rW k HK.out).cell j HJ.out; rw [ouW_self] at q; rw [← XV.out]; exact q)⟩) ?_
                simp only [Act.put, List.setIfInBounds_toArray, List.set_cons_zero, List.set_cons_succ]
                refine wpAnyT_take (i := 8) (oi := ⟨some 71, _, _, _, _, _⟩) (v := .pointer (some ⟨r, 0, none⟩)) rfl (by kernel_rfl) (by kernel_rfl) (by kernel_rfl) (fun _ _ _ h => h) (by kernel_rfl) (Or.inl ⟨rfl, fun w h => by kernel_rfl⟩) (⟨(F1.out.1.see k HK.out).1, (F1.out.1.see k HK.out).2.2.2.1, (F1.out.1.see k HK.out).2.1, (F1.out.1.see k HK.out).2.2.2.2.1, (by have q := (F1.out.1.rW k HK.out).cell j HJ.out; rw [ouW_self] at q; rw [← XV.out]; exact q)⟩) ?_
                simp only [Act.put, List.setIfInBounds_toArray, List.set_cons_zero, List.set_cons_succ]
                refine wpAnyT_take (i := 9) (oi := ⟨some 72, _, _, _, _, _⟩) (v := .pointer (some ⟨r, 0, none⟩)) rfl (by kernel_rfl) (by kernel_rfl) (by kernel_rfl) (fun _ _ _ h => h) (by kernel_rfl) (Or.inl ⟨rfl, fun w h => by kernel_rfl⟩) (⟨(F1.out.1.see k HK.out).1, (F1.out.1.see k HK.out).2.2.2.1, (F1.out.1.see k HK.out).2.1, (F1.out.1.see k HK.out).2.2.2.2.1, (by have q := (F1.out.1.rW k HK.out).cell j HJ.out; rw [ouW_self] at q; rw [← XV.out]; exact q)⟩) ?_
                simp only [Act.put, List.setIfInBounds_toArray, List.set_cons_zero, List.set_cons_succ]
                refine wpAnyT_take (i := 10) (oi := ⟨some 73, _, _, _, _, _⟩) (v := .pointer (some ⟨r, 1, none⟩)) rfl (by kernel_rfl) (by kernel_rfl) (by kernel_rfl) (fun _ _ _ h => h) (by kernel_rfl) (Or.inl ⟨rfl, fun w h => by kernel_rfl⟩) (⟨(F1.out.1.see k HK.out).1, (F1.out.1.see k HK.out).2.2.2.1, (F1.out.1.see k HK.out).2.1, (F1.out.1.see k HK.out).2.2.2.2.1, (by have q := (F1.out.1.rW k HK.out).cell j HJ.out; rw [ouW_self] at q; rw [← XV.out]; exact q)⟩) ?_
                simp only [Act.put, List.setIfInBounds_toArray, List.set_cons_zero, List.set_cons_succ]
                refine wpAnyT_take (i := 11) (oi := ⟨some 74, _, _, _, _, _⟩) (v := .slice (some ⟨gW, 0, none⟩) n cW) rfl (by kernel_rfl) (by kernel_rfl) (by kernel_rfl) (fun _ _ _ h => h) (by kernel_rfl) (Or.inl ⟨rfl, fun w h => run_load_one _ _ _ 56 _ _ rfl (r) (1) rfl (h.2.2.1) (by kernel_rfl)⟩) (⟨(F1.out.1.see k HK.out).1, (F1.out.1.see k HK.out).2.2.2.1, (F1.out.1.see k HK.out).2.1, (F1.out.1.see k HK.out).2.2.2.2.1, (by have q := (F1.out.1.rW k HK.out).cell j HJ.out; rw [ouW_self] at q; rw [← XV.out]; exact q)⟩) ?_
                simp only [Act.put, List.setIfInBounds_toArray, List.set_cons_zero, List.set_cons_succ]
                refine wpAnyT_take (i := 12) (oi := ⟨some 75, _, _, _, _, _⟩) (v := .int .i64 (k : Int)) rfl (by kernel_rfl) (by kernel_rfl) (by kernel_rfl) (fun _ _ _ h => h) (by kernel_rfl) (Or.inl ⟨rfl, fun w h => by kernel_rfl⟩) (⟨(F1.out.1.see k HK.out).1, (F1.out.1.see k HK.out).2.2.2.1, (F1.out.1.see k HK.out).2.1, (F1.out.1.see k HK.out).2.2.2.2.1, (by have q := (F1.out.1.rW k HK.out).cell j HJ.out; rw [ouW_self] at q; rw [← XV.out]; exact q)⟩) ?_
                simp only [Act.put, List.setIfInBounds_toArray, List.set_cons_zero, List.set_cons_succ]
                refine wpAnyT_take (i := 13) (oi := ⟨some 76, _, _, _, _, _⟩) (v := .pointer (some ⟨gW, k, none⟩)) rfl (by kernel_rfl) (by kernel_rfl) (by kernel_rfl) (fun _ _ _ h => h) (by kernel_rfl) (Or.inl ⟨rfl, fun w h => run_idx56' _ _ w _ _ _ gW n cW k rfl rfl rfl rfl HK.out (by have := HN.out; unfold maxLen; omega)⟩) (⟨(F1.out.1.see k HK.out).1, (F1.out.1.see k HK.out).2.2.2.1, (F1.out.1.see k HK.out).2.1, (F1.out.1.see k HK.out).2.2.2.2.1, (by have q := (F1.out.1.rW k HK.out).cell j HJ.out; rw [ouW_self] at q; rw [← XV.out]; exact q)⟩) ?_
                simp only [Act.put, List.setIfInBounds_toArray, List.set_cons_zero, List.set_cons_succ]
                refine wpAnyT_take (i := 14) (oi := ⟨some 77, _, _, _, _, _⟩) (v := .slice (some ⟨pW k, 0, none⟩) 64 (kW k)) rfl (by kernel_rfl) (by kernel_rfl) (by kernel_rfl) (fun _ _ _ h => h) (by kernel_rfl) (Or.inl ⟨rfl, fun w h => run_load_one _ _ _ 22 _ _ rfl (gW) (k) rfl (h.2.2.2.1) (by kernel_rfl)⟩) (⟨(F1.out.1.see k HK.out).1, (F1.out.1.see k HK.out).2.2.2.1, (F1.out.1.see k HK.out).2.1, (F1.out.1.see k HK.out).2.2.2.2.1, (by have q := (F1.out.1.rW k HK.out).cell j HJ.out; rw [ouW_self] at q; rw [← XV.out]; exact q)⟩) ?_
                simp only [Act.put, List.setIfInBounds_toArray, List.set_cons_zero, List.set_cons_succ]
                refine wpAnyT_take (i := 15) (oi := ⟨some 78, _, _, _, _, _⟩) (v := .int .i64 (j : Int)) rfl (by kernel_rfl) (by kernel_rfl) (by kernel_rfl) (fun _ _ _ h => h) (by kernel_rfl) (Or.inl ⟨rfl, fun w h => by kernel_rfl⟩) (⟨(F1.out.1.see k HK.out).1, (F1.out.1.see k HK.out).2.2.2.1, (F1.out.1.see k HK.out).2.1, (F1.out.1.see k HK.out).2.2.2.2.1, (by have q := (F1.out.1.rW k HK.out).cell j HJ.out; rw [ouW_self] at q; rw [← XV.out]; exact q)⟩) ?_
                simp only [Act.put, List.setIfInBounds_toArray, List.set_cons_zero, List.set_cons_succ]
                refine wpAnyT_take (i := 16) (oi := ⟨some 79, _, _, _, _, _⟩) (v := .pointer (some ⟨pW k, j, none⟩)) rfl (by kernel_rfl) (by kernel_rfl) (by kernel_rfl) (fun _ _ _ h => h) (by kernel_rfl) (Or.inl ⟨rfl, fun w h => run_idx0 _ _ w _ _ _ (pW k) 64 _ j rfl rfl rfl rfl HJ.out (by decide)⟩) (⟨(F1.out.1.see k HK.out).1, (F1.out.1.see k HK.out).2.2.2.1, (F1.out.1.see k HK.out).2.1, (F1.out.1.see k HK.out).2.2.2.2.1, (by have q := (F1.out.1.rW k HK.out).cell j HJ.out; rw [ouW_self] at q; rw [← XV.out]; exact q)⟩) ?_
                simp only [Act.put, List.setIfInBounds_toArray, List.set_cons_zero, List.set_cons_succ]
                refine wpAnyT_take (i := 17) (oi := ⟨some 80, _, _, _, _, _⟩) (v := .int .u8 x) rfl (by kernel_rfl) (by kernel_rfl) (by kernel_rfl) (fun _ _ _ h => h) (by kernel_rfl) (Or.inl ⟨rfl, fun w h => run_load_one _ _ _ 5 _ _ rfl (pW k) (j) rfl (h.2.2.2.2) (by kernel_rfl)⟩) (⟨(F1.out.1.see k HK.out).1, (F1.out.1.see k HK.out).2.2.2.1, (F1.out.1.see k HK.out).2.1, (F1.out.1.see k HK.out).2.2.2.2.1, (by have q := (F1.out.1.rW k HK.out).cell j HJ.out; rw [ouW_self] at q; rw [← XV.out]; exact q)⟩) ?_
                simp only [Act.put, List.setIfInBounds_toArray, List.set_cons_zero, List.set_cons_succ]
                refine wpAnyT_take (i := 18) (oi := ⟨some 81, _, _, _, _, _⟩) (v := .pointer (some ⟨pN k, j, none⟩)) rfl (by kernel_rfl) (by kernel_rfl) (by kernel_rfl) (fun _ _ _ h => h) (by kernel_rfl) (Or.inl ⟨rfl, fun w h => run_idx0 _ _ w _ _ _ (pN k) 64 _ j rfl rfl rfl rfl HJ.out (by decide)⟩) (⟨(F1.out.1.see k HK.out).1, (F1.out.1.see k HK.out).2.2.2.1, (F1.out.1.see k HK.out).2.1, (F1.out.1.see k HK.out).2.2.2.2.1, (by have q := (F1.out.1.rW k HK.out).cell j HJ.out; rw [ouW_self] at q; rw [← XV.out]; exact q)⟩) ?_
                simp only [Act.put, List.setIfInBounds_toArray, List.set_cons_zero, List.set_cons_succ]
                refine wpAnyT_one (i := 19) (by kernel_rfl) ?_
                obtain ⟨W3, hW3⟩ : ∃ V, V = wr.drew.setCell ⟨pN k, j, none⟩ (.int .u8 x) := ⟨_, rfl⟩
                have RN := F1.out.1.rN k HK.out
                have F4 : Hid (RSD W3 base n ⟨r, gN, gW, gI, cN, cW, cI, some ⟨gN, 0, none⟩, some ⟨gW, 0, none⟩, some ⟨gI, 0, none⟩, pN, kN, pW, kW⟩ (upF (ouN F N W I k) k (inP (W k) (N k) kf (j + 1))) (ouW F N W I k) (syI I k) fz go ∧ FR base w W3) := Lib.hid (by rw [hW3]; exact ⟨by have q := (F1.out.1.below (Below.drew (Below.refl _ _))).putB k HK.out j x XB.out; rw [upF_upF, upF_same, ← XV.out, ← inP_put HST.out] at q; rw [← XV.out]; exact q, F1.out.2.drewR.set (F1.out.1.base2 k HK.out).1 (RTg.bp RN (by decide)) _ _⟩)
                refine op_skip (o := ⟨none, _, _, _, _, _⟩) W3 rfl rfl (by rw [hW3]; exact run_store_one _ _ _ 5 _ _ rfl (pN k) j rfl _ rfl rfl size5 (by rw [show wr.drew.cell? ⟨pN k, j, none⟩ = wr.cell? ⟨pN k, j, none⟩ from rfl, RN.cell j HJ.out]; rfl) (RN.free j)) ?_
                refine ⟨fun _ => ⟨(F4.out.1.see k HK.out).1, (F4.out.1.see k HK.out).2.2.2.1, (F4.out.1.see k HK.out).2.1, (F4.out.1.see k HK.out).2.2.2.2.1, (by have q := (F4.out.1.rW k HK.out).cell j HJ.out; rw [ouW_self] at q; rw [← XV.out]; exact q)⟩, ?_⟩
                simp only [Act.put, List.setIfInBounds_toArray, List.set_cons_zero, List.set_cons_succ]
                clear hW3 RN
                refine wpAnyT_done (by kernel_rfl) ?_ _
                go_upto_region 11 with (fail)
                refine wp_region_lit ?_
                refine wpL_pure (.int .i64 (j : Int)) rfl (by kernel_rfl) ?_
                simp only [Act.put, List.setIfInBounds_toArray, List.set_cons_zero, List.set_cons_succ]
                refine wpL_pure (.int .i64 ((j + 1 : Nat) : Int)) rfl (run_addi Try.underlying3 rfl rfl rfl _ (by have := HJ.out; rw [wrap_in _ (by omega) (by omega)]; omega)) ?_
                simp only [Act.put, List.setIfInBounds_toArray, List.set_cons_zero, List.set_cons_succ]
                refine wpL_pure (.int .i64 ((j + 1 : Nat) : Int)) rfl (by kernel_rfl) ?_
                simp only [Act.put, List.setIfInBounds_toArray, List.set_cons_zero, List.set_cons_succ]
                have NX : Hid (j + 1 ≤ 64 ∧ RS W3 base r n (upF (ouN F N W I k) k (inP (W k) (N k) kf (j + 1))) (ouW F N W I k) (syI I k) fz go ∧ FR base w W3) := Lib.hid ⟨HJ.out, ⟨_, rfl, F4.out.1⟩, F4.out.2⟩
                unfold wpList
                go_roundw
                case rel => first | exact ⟨j + 1, rfl, NX⟩ | ((repeat apply Exists.intro); exact ⟨⟨j + 1, rfl, NX⟩, rfl⟩)
                case measure => simp [intOf]; have := HJ.out; omega
            · have H1 := Lib.hid h1
              clear h1
              by_cases h2 : 192 ≤ kf + j
              · have H2 := Lib.hid h2
                clear h2
                have HST : Hid (stB kf j = true) := Lib.hid (by have := H1.out; have := H2.out; simp [stB]; omega)
                go_upto_region 12 with (fail)
                refine wp_region_lit ?_
                refine wpL_pure (.int .i64 (kf : Int)) rfl (by kernel_rfl) ?_
                simp only [Act.put, List.setIfInBounds_toArray, List.set_cons_zero, List.set_cons_succ]
                refine wpL_pure (.bool false) rfl (run_lti Try.underlying3 rfl rfl rfl (by have := H1.out; rw [decide_eq_false_iff_not]; omega)) ?_
                simp only [Act.put, List.setIfInBounds_toArray, List.set_cons_zero, List.set_cons_succ]
                refine wpL_pure (.bool false) rfl (by kernel_rfl) ?_
                simp only [Act.put, List.setIfInBounds_toArray, List.set_cons_zero, List.set_cons_succ]
                refine wpL_skip (by kernel_rfl) ?_
                simp only [Act.put, List.setIfInBounds_toArray, List.set_cons_zero, List.set_cons_succ]
                refine wpL_skip (by kernel_rfl) ?_
                simp only [Act.put, List.setIfInBounds_toArray, List.set_cons_zero, List.set_cons_succ]
                refine wpL_skip (by kernel_rfl) ?_
                simp only [Act.put, List.setIfInBounds_toArray, List.set_cons_zero, List.set_cons_succ]
                refine wpL_pure (.bool false) rfl (by kernel_rfl) ?_
                simp only [Act.put, List.setIfInBounds_toArray, List.set_cons_zero, List.set_cons_succ]
                refine wpL_pure (.bool false) rfl (by kernel_rfl) ?_
                simp only [Act.put, List.setIfInBounds_toArray, List.set_cons_zero, List.set_cons_succ]
                refine wpL_pure (.int .i64 (kf : Int)) rfl (by kernel_rfl) ?_
                simp only [Act.put, List.setIfInBounds_toArray, List.set_cons_zero, List.set_cons_succ]
                refine wpL_pure (.bool true) rfl (run_gei Try.underlying3 rfl rfl rfl (by have := H1.out; rw [decide_eq_true_eq]; omega)) ?_
                simp only [Act.put, List.setIfInBounds_toArray, List.set_cons_zero, List.set_cons_succ]
                refine wpL_pure (.bool true) rfl (by kernel_rfl) ?_
                simp only [Act.put, List.setIfInBounds_toArray, List.set_cons_zero, List.set_cons_succ]
                refine wpL_pure (.int .i64 (j : Int)) rfl (by kernel_rfl) ?_
                simp only [Act.put, List.setIfInBounds_toArray, List.set_cons_zero, List.set_cons_succ]
                refine wpL_pure (.int .i64 (64 - (j : Int))) rfl (run_subi Try.underlying3 rfl rfl rfl _ (by have := HJ.out; rw [wrap_in _ (by omega) (by omega)])) ?_
                simp only [Act.put, List.setIfInBounds_toArray, List.set_cons_zero, List.set_cons_succ]
                refine wpL_pure (.int .i64 (kf : Int)) rfl (by kernel_rfl) ?_
                simp only [Act.put, List.setIfInBounds_toArray, List.set_cons_zero, List.set_cons_succ]
                refine wpL_pure (.int .i64 ((kf : Int) - 128)) rfl (run_subi Try.underlying3 rfl rfl rfl _ (by have := KF.out.2.1; rw [wrap_in _ (by omega) (by omega)])) ?_
                simp only [Act.put, List.setIfInBounds_toArray, List.set_cons_zero, List.set_cons_succ]
                refine wpL_pure (.bool true) rfl (run_lei Try.underlying3 rfl rfl rfl (by have := H2.out; rw [decide_eq_true_eq]; omega)) ?_
                simp only [Act.put, List.setIfInBounds_toArray, List.set_cons_zero, List.set_cons_succ]
                refine wpL_pure (.bool true) rfl (by kernel_rfl) ?_
                simp only [Act.put, List.setIfInBounds_toArray, List.set_cons_zero, List.set_cons_succ]
                refine wpL_pure (.bool true) rfl (by kernel_rfl) ?_
                simp only [Act.put, List.setIfInBounds_toArray, List.set_cons_zero, List.set_cons_succ]
                refine wpL_pure (.bool true) rfl (by kernel_rfl) ?_
                simp only [Act.put, List.setIfInBounds_toArray, List.set_cons_zero, List.set_cons_succ]
                go_upto_region 13 with (fail)
                refine wp_region_lit ?_
                refine wpL_pure (.bool true) rfl (by kernel_rfl) ?_
                simp only [Act.put, List.setIfInBounds_toArray, List.set_cons_zero, List.set_cons_succ]
                refine wpL_pure (.bool false) rfl (by kernel_rfl) ?_
                simp only [Act.put, List.setIfInBounds_toArray, List.set_cons_zero, List.set_cons_succ]
                go_upto_region 11 with (fail)
                refine wp_region_lit ?_
                refine wpL_pure (.int .i64 (j : Int)) rfl (by kernel_rfl) ?_
                simp only [Act.put, List.setIfInBounds_toArray, List.set_cons_zero, List.set_cons_succ]
                refine wpL_pure (.int .i64 ((j + 1 : Nat) : Int)) rfl (run_addi Try.underlying3 rfl rfl rfl _ (by have := HJ.out; rw [wrap_in _ (by omega) (by omega)]; omega)) ?_
                simp only [Act.put, List.setIfInBounds_toArray, List.set_cons_zero, List.set_cons_succ]
                refine wpL_pure (.int .i64 ((j + 1 : Nat) : Int)) rfl (by kernel_rfl) ?_
                simp only [Act.put, List.setIfInBounds_toArray, List.set_cons_zero, List.set_cons_succ]
                have NX : Hid (j + 1 ≤ 64 ∧ RS wr base r n (upF (ouN F N W I k) k (inP (W k) (N k) kf (j + 1))) (ouW F N W I k) (syI I k) fz go ∧ FR base w wr) := Lib.hid ⟨HJ.out, by rw [inP_keep HST.out]; exact ⟨_, rfl, F1.out.1⟩, F1.out.2⟩
                unfold wpList
                go_roundw
                case rel => first | exact ⟨j + 1, rfl, NX⟩ | ((repeat apply Exists.intro); exact ⟨⟨j + 1, rfl, NX⟩, rfl⟩)
                case measure => simp [intOf]; have := HJ.out; omega
              · have H2 := Lib.hid h2
                clear h2
                have HST : Hid (stB kf j = false) := Lib.hid (by have := H1.out; have := H2.out; simp [stB]; omega)
                go_upto_region 12 with (fail)
                refine wp_region_lit ?_
                refine wpL_pure (.int .i64 (kf : Int)) rfl (by kernel_rfl) ?_
                simp only [Act.put, List.setIfInBounds_toArray, List.set_cons_zero, List.set_cons_succ]
                refine wpL_pure (.bool false) rfl (run_lti Try.underlying3 rfl rfl rfl (by have := H1.out; rw [decide_eq_false_iff_not]; omega)) ?_
                simp only [Act.put, List.setIfInBounds_toArray, List.set_cons_zero, List.set_cons_succ]
                refine wpL_pure (.bool false) rfl (by kernel_rfl) ?_
                simp only [Act.put, List.setIfInBounds_toArray, List.set_cons_zero, List.set_cons_succ]
                refine wpL_skip (by kernel_rfl) ?_
                simp only [Act.put, List.setIfInBounds_toArray, List.set_cons_zero, List.set_cons_succ]
                refine wpL_skip (by kernel_rfl) ?_
                simp only [Act.put, List.setIfInBounds_toArray, List.set_cons_zero, List.set_cons_succ]
                refine wpL_skip (by kernel_rfl) ?_
                simp only [Act.put, List.setIfInBounds_toArray, List.set_cons_zero, List.set_cons_succ]
                refine wpL_pure (.bool false) rfl (by kernel_rfl) ?_
                simp only [Act.put, List.setIfInBounds_toArray, List.set_cons_zero, List.set_cons_succ]
                refine wpL_pure (.bool false) rfl (by kernel_rfl) ?_
                simp only [Act.put, List.setIfInBounds_toArray, List.set_cons_zero, List.set_cons_succ]
                refine wpL_pure (.int .i64 (kf : Int)) rfl (by kernel_rfl) ?_
                simp only [Act.put, List.setIfInBounds_toArray, List.set_cons_zero, List.set_cons_succ]
                refine wpL_pure (.bool true) rfl (run_gei Try.underlying3 rfl rfl rfl (by have := H1.out; rw [decide_eq_true_eq]; omega)) ?_
                simp only [Act.put, List.setIfInBounds_toArray, List.set_cons_zero, List.set_cons_succ]
                refine wpL_pure (.bool true) rfl (by kernel_rfl) ?_
                simp only [Act.put, List.setIfInBounds_toArray, List.set_cons_zero, List.set_cons_succ]
                refine wpL_pure (.int .i64 (j : Int)) rfl (by kernel_rfl) ?_
                simp only [Act.put, List.setIfInBounds_toArray, List.set_cons_zero, List.set_cons_succ]
                refine wpL_pure (.int .i64 (64 - (j : Int))) rfl (run_subi Try.underlying3 rfl rfl rfl _ (by have := HJ.out; rw [wrap_in _ (by omega) (by omega)])) ?_
                simp only [Act.put, List.setIfInBounds_toArray, List.set_cons_zero, List.set_cons_succ]
                refine wpL_pure (.int .i64 (kf : Int)) rfl (by kernel_rfl) ?_
                simp only [Act.put, List.setIfInBounds_toArray, List.set_cons_zero, List.set_cons_succ]
                refine wpL_pure (.int .i64 ((kf : Int) - 128)) rfl (run_subi Try.underlying3 rfl rfl rfl _ (by have := KF.out.2.1; rw [wrap_in _ (by omega) (by omega)])) ?_
                simp only [Act.put, List.setIfInBounds_toArray, List.set_cons_zero, List.set_cons_succ]
                refine wpL_pure (.bool false) rfl (run_lei Try.underlying3 rfl rfl rfl (by have := H2.out; rw [decide_eq_false_iff_not]; omega)) ?_
                simp only [Act.put, List.setIfInBounds_toArray, List.set_cons_zero, List.set_cons_succ]
                refine wpL_pure (.bool false) rfl (by kernel_rfl) ?_
                simp only [Act.put, List.setIfInBounds_toArray, List.set_cons_zero, List.set_cons_succ]
                refine wpL_pure (.bool false) rfl (by kernel_rfl) ?_
                simp only [Act.put, List.setIfInBounds_toArray, List.set_cons_zero, List.set_cons_succ]
                refine wpL_pure (.bool false) rfl (by kernel_rfl) ?_
                simp only [Act.put, List.setIfInBounds_toArray, List.set_cons_zero, List.set_cons_succ]
                go_upto_region 13 with (fail)
                refine wp_region_lit ?_
                refine wpL_pure (.bool false) rfl (by kernel_rfl) ?_
                simp only [Act.put, List.setIfInBounds_toArray, List.set_cons_zero, List.set_cons_succ]
                refine wpL_pure (.bool true) rfl (by kernel_rfl) ?_
                simp only [Act.put, List.setIfInBounds_toArray, List.set_cons_zero, List.set_cons_succ]
                obtain ⟨x, hx⟩ : ∃ q, (W k).getD j 0 = q := ⟨_, rfl⟩
                have XV := Lib.hid hx
                have XB : Hid (0 ≤ x ∧ x ≤ 255) := Lib.hid (by rw [← hx]; exact getD_byte G0.out.2.2 j)
                clear hx
                go_upto_region 14 with (fail)
                refine region_anyT (fun X => X.cell? ⟨r, 0, none⟩ = some (.slice (some ⟨gN, 0, none⟩) n cN) ∧ X.cell? ⟨gN, k, none⟩ = some (.slice (some ⟨pN k, 0, none⟩) 64 (kN k)) ∧ X.cell? ⟨r, 1, none⟩ = some (.slice (some ⟨gW, 0, none⟩) n cW) ∧ X.cell? ⟨gW, k, none⟩ = some (.slice (some ⟨pW k, 0, none⟩) 64 (kW k)) ∧ X.cell? ⟨pW k, j, none⟩ = some (.int .u8 x)) (by kernel_rfl) 20 20 rfl ?_
                refine wpAnyT_take (i := 0) (oi := ⟨some 63, _, _, _, _, _⟩) (v := .pointer (some ⟨r, 0, none⟩)) rfl (by kernel_rfl) (by kernel_rfl) (by kernel_rfl) (fun _ _ _ h => h) (by kernel_rfl) (Or.inl ⟨rfl, fun w h => by kernel_rfl⟩) (⟨(F1.out.1.see k HK.out).1, (F1.out.1.see k HK.out).2.2.2.1, (F1.out.1.see k HK.out).2.1, (F1.out.1.see k HK.out).2.2.2.2.1, (by have q := (F1.out.1.rW k HK.out).cell j HJ.out; rw [ouW_self] at q; rw [← XV.out]; exact q)⟩) ?_
                simp only [Act.put, List.setIfInBounds_toArray, List.set_cons_zero, List.set_cons_succ]
                refine wpAnyT_take (i := 1) (oi := ⟨some 64, _, _, _, _, _⟩) (v := .pointer (some ⟨r, 0, none⟩)) rfl (by kernel_rfl) (by kernel_rfl) (by kernel_rfl) (fun _ _ _ h => h) (by kernel_rfl) (Or.inl ⟨rfl, fun w h => by kernel_rfl⟩) (⟨(F1.out.1.see k HK.out).1, (F1.out.1.see k HK.out).2.2.2.1, (F1.out.1.see k HK.out).2.1, (F1.out.1.see k HK.out).2.2.2.2.1, (by have q := (F1.out.1.rW k HK.out).cell j HJ.out; rw [ouW_self] at q; rw [← XV.out]; exact q)⟩) ?_
                simp only [Act.put, List.setIfInBounds_toArray, List.set_cons_zero, List.set_cons_succ]
                refine wpAnyT_take (i := 2) (oi := ⟨some 65, _, _, _, _, _⟩) (v := .pointer (some ⟨r, 0, none⟩)) rfl (by kernel_rfl) (by kernel_rfl) (by kernel_rfl) (fun _ _ _ h => h) (by kernel_rfl) (Or.inl ⟨rfl, fun w h => by kernel_rfl⟩) (⟨(F1.out.1.see k HK.out).1, (F1.out.1.see k HK.out).2.2.2.1, (F1.out.1.see k HK.out).2.1, (F1.out.1.see k HK.out).2.2.2.2.1, (by have q := (F1.out.1.rW k HK.out).cell j HJ.out; rw [ouW_self] at q; rw [← XV.out]; exact q)⟩) ?_
                simp only [Act.put, List.setIfInBounds_toArray, List.set_cons_zero, List.set_cons_succ]
                refine wpAnyT_take (i := 3) (oi := ⟨some 66, _, _, _, _, _⟩) (v := .slice (some ⟨gN, 0, none⟩) n cN) rfl (by kernel_rfl) (by kernel_rfl) (by kernel_rfl) (fun _ _ _ h => h) (by kernel_rfl) (Or.inl ⟨rfl, fun w h => run_load_one _ _ _ 56 _ _ rfl (r) (0) rfl (h.1) (by kernel_rfl)⟩) (⟨(F1.out.1.see k HK.out).1, (F1.out.1.see k HK.out).2.2.2.1, (F1.out.1.see k HK.out).2.1, (F1.out.1.see k HK.out).2.2.2.2.1, (by have q := (F1.out.1.rW k HK.out).cell j HJ.out; rw [ouW_self] at q; rw [← XV.out]; exact q)⟩) ?_
                simp only [Act.put, List.setIfInBounds_toArray, List.set_cons_zero, List.set_cons_succ]
                refine wpAnyT_take (i := 4) (oi := ⟨some 67, _, _, _, _, _⟩) (v := .int .i64 (k : Int)) rfl (by kernel_rfl) (by kernel_rfl) (by kernel_rfl) (fun _ _ _ h => h) (by kernel_rfl) (Or.inl ⟨rfl, fun w h => by kernel_rfl⟩) (⟨(F1.out.1.see k HK.out).1, (F1.out.1.see k HK.out).2.2.2.1, (F1.out.1.see k HK.out).2.1, (F1.out.1.see k HK.out).2.2.2.2.1, (by have q := (F1.out.1.rW k HK.out).cell j HJ.out; rw [ouW_self] at q; rw [← XV.out]; exact q)⟩) ?_
                simp only [Act.put, List.setIfInBounds_toArray, List.set_cons_zero, List.set_cons_succ]
                refine wpAnyT_take (i := 5) (oi := ⟨some 68, _, _, _, _, _⟩) (v := .pointer (some ⟨gN, k, none⟩)) rfl (by kernel_rfl) (by kernel_rfl) (by kernel_rfl) (fun _ _ _ h => h) (by kernel_rfl) (Or.inl ⟨rfl, fun w h => run_idx56' _ _ w _ _ _ gN n cN k rfl rfl rfl rfl HK.out (by have := HN.out; unfold maxLen; omega)⟩) (⟨(F1.out.1.see k HK.out).1, (F1.out.1.see k HK.out).2.2.2.1, (F1.out.1.see k HK.out).2.1, (F1.out.1.see k HK.out).2.2.2.2.1, (by have q := (F1.out.1.rW k HK.out).cell j HJ.out; rw [ouW_self] at q; rw [← XV.out]; exact q)⟩) ?_
                simp only [Act.put, List.setIfInBounds_toArray, List.set_cons_zero, List.set_cons_succ]
                refine wpAnyT_take (i := 6) (oi := ⟨some 69, _, _, _, _, _⟩) (v := .slice (some ⟨pN k, 0, none⟩) 64 (kN k)) rfl (by kernel_rfl) (by kernel_rfl) (by kernel_rfl) (fun _ _ _ h => h) (by kernel_rfl) (Or.inl ⟨rfl, fun w h => run_load_one _ _ _ 22 _ _ rfl (gN) (k) rfl (h.2.1) (by kernel_rfl)⟩) (⟨(F1.out.1.see k HK.out).1, (F1.out.1.see k HK.out).2.2.2.1, (F1.out.1.see k HK.out).2.1, (F1.out.1.see k HK.out).2.2.2.2.1, (by have q := (F1.out.1.rW k HK.out).cell j HJ.out; rw [ouW_self] at q; rw [← XV.out]; exact q)⟩) ?_
                simp only [Act.put, List.setIfInBounds_toArray, List.set_cons_zero, List.set_cons_succ]
                refine wpAnyT_take (i := 7) (oi := ⟨some 70, _, _, _, _, _⟩) (v := .int .i64 (j : Int)) rfl (by kernel_rfl) (by kernel_rfl) (by kernel_rfl) (fun _ _ _ h => h) (by kernel_rfl) (Or.inl ⟨rfl, fun w h => by kernel_rfl⟩) (⟨(F1.out.1.see k HK.out).1, (F1.out.1.see k HK.out).2.2.2.1, (F1.out.1.see k HK.out).2.1, (F1.out.1.see k HK.out).2.2.2.2.1, (by have q := (F1.out.1.rW k HK.out).cell j HJ.out; rw [ouW_self] at q; rw [← XV.out]; exact q)⟩) ?_
                simp only [Act.put, List.setIfInBounds_toArray, List.set_cons_zero, List.set_cons_succ]
                refine wpAnyT_take (i := 8) (oi := ⟨some 71, _, _, _, _, _⟩) (v := .pointer (some ⟨r, 0, none⟩)) rfl (by kernel_rfl) (by kernel_rfl) (by kernel_rfl) (fun _ _ _ h => h) (by kernel_rfl) (Or.inl ⟨rfl, fun w h => by kernel_rfl⟩) (⟨(F1.out.1.see k HK.out).1, (F1.out.1.see k HK.out).2.2.2.1, (F1.out.1.see k HK.out).2.1, (F1.out.1.see k HK.out).2.2.2.2.1, (by have q := (F1.out.1.rW k HK.out).cell j HJ.out; rw [ouW_self] at q; rw [← XV.out]; exact q)⟩) ?_
                simp only [Act.put, List.setIfInBounds_toArray, List.set_cons_zero, List.set_cons_succ]
                refine wpAnyT_take (i := 9) (oi := ⟨some 72, _, _, _, _, _⟩) (v := .pointer (some ⟨r, 0, none⟩)) rfl (by kernel_rfl) (by kernel_rfl) (by kernel_rfl) (fun _ _ _ h => h) (by kernel_rfl) (Or.inl ⟨rfl, fun w h => by kernel_rfl⟩) (⟨(F1.out.1.see k HK.out).1, (F1.out.1.see k HK.out).2.2.2.1, (F1.out.1.see k HK.out).2.1, (F1.out.1.see k HK.out).2.2.2.2.1, (by have q := (F1.out.1.rW k HK.out).cell j HJ.out; rw [ouW_self] at q; rw [← XV.out]; exact q)⟩) ?_
                simp only [Act.put, List.setIfInBounds_toArray, List.set_cons_zero, List.set_cons_succ]
                refine wpAnyT_take (i := 10) (oi := ⟨some 73, _, _, _, _, _⟩) (v := .pointer (some ⟨r, 1, none⟩)) rfl (by kernel_rfl) (by kernel_rfl) (by kernel_rfl) (fun _ _ _ h => h) (by kernel_rfl) (Or.inl ⟨rfl, fun w h => by kernel_rfl⟩) (⟨(F1.out.1.see k HK.out).1, (F1.out.1.see k HK.out).2.2.2.1, (F1.out.1.see k HK.out).2.1, (F1.out.1.see k HK.out).2.2.2.2.1, (by have q := (F1.out.1.rW k HK.out).cell j HJ.out; rw [ouW_self] at q; rw [← XV.out]; exact q)⟩) ?_
                simp only [Act.put, List.setIfInBounds_toArray, List.set_cons_zero, List.set_cons_succ]
                refine wpAnyT_take (i := 11) (oi := ⟨some 74, _, _, _, _, _⟩) (v := .slice (some ⟨gW, 0, none⟩) n cW) rfl (by kernel_rfl) (by kernel_rfl) (by kernel_rfl) (fun _ _ _ h => h) (by kernel_rfl) (Or.inl ⟨rfl, fun w h => run_load_one _ _ _ 56 _ _ rfl (r) (1) rfl (h.2.2.1) (by kernel_rfl)⟩) (⟨(F1.out.1.see k HK.out).1, (F1.out.1.see k HK.out).2.2.2.1, (F1.out.1.see k HK.out).2.1, (F1.out.1.see k HK.out).2.2.2.2.1, (by have q := (F1.out.1.rW k HK.out).cell j HJ.out; rw [ouW_self] at q; rw [← XV.out]; exact q)⟩) ?_
                simp only [Act.put, List.setIfInBounds_toArray, List.set_cons_zero, List.set_cons_succ]
                refine wpAnyT_take (i := 12) (oi := ⟨some 75, _, _, _, _, _⟩) (v := .int .i64 (k : Int)) rfl (by kernel_rfl) (by kernel_rfl) (by kernel_rfl) (fun _ _ _ h => h) (by kernel_rfl) (Or.inl ⟨rfl, fun w h => by kernel_rfl⟩) (⟨(F1.out.1.see k HK.out).1, (F1.out.1.see k HK.out).2.2.2.1, (F1.out.1.see k HK.out).2.1, (F1.out.1.see k HK.out).2.2.2.2.1, (by have q := (F1.out.1.rW k HK.out).cell j HJ.out; rw [ouW_self] at q; rw [← XV.out]; exact q)⟩) ?_
                simp only [Act.put, List.setIfInBounds_toArray, List.set_cons_zero, List.set_cons_succ]
                refine wpAnyT_take (i := 13) (oi := ⟨some 76, _, _, _, _, _⟩) (v := .pointer (some ⟨gW, k, none⟩)) rfl (by kernel_rfl) (by kernel_rfl) (by kernel_rfl) (fun _ _ _ h => h) (by kernel_rfl) (Or.inl ⟨rfl, fun w h => run_idx56' _ _ w _ _ _ gW n cW k rfl rfl rfl rfl HK.out (by have := HN.out; unfold maxLen; omega)⟩) (⟨(F1.out.1.see k HK.out).1, (F1.out.1.see k HK.out).2.2.2.1, (F1.out.1.see k HK.out).2.1, (F1.out.1.see k HK.out).2.2.2.2.1, (by have q := (F1.out.1.rW k HK.out).cell j HJ.out; rw [ouW_self] at q; rw [← XV.out]; exact q)⟩) ?_
                simp only [Act.put, List.setIfInBounds_toArray, List.set_cons_zero, List.set_cons_succ]
                refine wpAnyT_take (i := 14) (oi := ⟨some 77, _, _, _, _, _⟩) (v := .slice (some ⟨pW k, 0, none⟩) 64 (kW k)) rfl (by kernel_rfl) (by kernel_rfl) (by kernel_rfl) (fun _ _ _ h => h) (by kernel_rfl) (Or.inl ⟨rfl, fun w h => run_load_one _ _ _ 22 _ _ rfl (gW) (k) rfl (h.2.2.2.1) (by kernel_rfl)⟩) (⟨(F1.out.1.see k HK.out).1, (F1.out.1.see k HK.out).2.2.2.1, (F1.out.1.see k HK.out).2.1, (F1.out.1.see k HK.out).2.2.2.2.1, (by have q := (F1.out.1.rW k HK.out).cell j HJ.out; rw [ouW_self] at q; rw [← XV.out]; exact q)⟩) ?_
                simp only [Act.put, List.setIfInBounds_toArray, List.set_cons_zero, List.set_cons_succ]
                refine wpAnyT_take (i := 15) (oi := ⟨some 78, _, _, _, _, _⟩) (v := .int .i64 (j : Int)) rfl (by kernel_rfl) (by kernel_rfl) (by kernel_rfl) (fun _ _ _ h => h) (by kernel_rfl) (Or.inl ⟨rfl, fun w h => by kernel_rfl⟩) (⟨(F1.out.1.see k HK.out).1, (F1.out.1.see k HK.out).2.2.2.1, (F1.out.1.see k HK.out).2.1, (F1.out.1.see k HK.out).2.2.2.2.1, (by have q := (F1.out.1.rW k HK.out).cell j HJ.out; rw [ouW_self] at q; rw [← XV.out]; exact q)⟩) ?_
                simp only [Act.put, List.setIfInBounds_toArray, List.set_cons_zero, List.set_cons_succ]
                refine wpAnyT_take (i := 16) (oi := ⟨some 79, _, _, _, _, _⟩) (v := .pointer (some ⟨pW k, j, none⟩)) rfl (by kernel_rfl) (by kernel_rfl) (by kernel_rfl) (fun _ _ _ h => h) (by kernel_rfl) (Or.inl ⟨rfl, fun w h => run_idx0 _ _ w _ _ _ (pW k) 64 _ j rfl rfl rfl rfl HJ.out (by decide)⟩) (⟨(F1.out.1.see k HK.out).1, (F1.out.1.see k HK.out).2.2.2.1, (F1.out.1.see k HK.out).2.1, (F1.out.1.see k HK.out).2.2.2.2.1, (by have q := (F1.out.1.rW k HK.out).cell j HJ.out; rw [ouW_self] at q; rw [← XV.out]; exact q)⟩) ?_
                simp only [Act.put, List.setIfInBounds_toArray, List.set_cons_zero, List.set_cons_succ]
                refine wpAnyT_take (i := 17) (oi := ⟨some 80, _, _, _, _, _⟩) (v := .int .u8 x) rfl (by kernel_rfl) (by kernel_rfl) (by kernel_rfl) (fun _ _ _ h => h) (by kernel_rfl) (Or.inl ⟨rfl, fun w h => run_load_one _ _ _ 5 _ _ rfl (pW k) (j) rfl (h.2.2.2.2) (by kernel_rfl)⟩) (⟨(F1.out.1.see k HK.out).1, (F1.out.1.see k HK.out).2.2.2.1, (F1.out.1.see k HK.out).2.1, (F1.out.1.see k HK.out).2.2.2.2.1, (by have q := (F1.out.1.rW k HK.out).cell j HJ.out; rw [ouW_self] at q; rw [← XV.out]; exact q)⟩) ?_
                simp only [Act.put, List.setIfInBounds_toArray, List.set_cons_zero, List.set_cons_succ]
                refine wpAnyT_take (i := 18) (oi := ⟨some 81, _, _, _, _, _⟩) (v := .pointer (some ⟨pN k, j, none⟩)) rfl (by kernel_rfl) (by kernel_rfl) (by kernel_rfl) (fun _ _ _ h => h) (by kernel_rfl) (Or.inl ⟨rfl, fun w h => run_idx0 _ _ w _ _ _ (pN k) 64 _ j rfl rfl rfl rfl HJ.out (by decide)⟩) (⟨(F1.out.1.see k HK.out).1, (F1.out.1.see k HK.out).2.2.2.1, (F1.out.1.see k HK.out).2.1, (F1.out.1.see k HK.out).2.2.2.2.1, (by have q := (F1.out.1.rW k HK.out).cell j HJ.out; rw [ouW_self] at q; rw [← XV.out]; exact q)⟩) ?_
                simp only [Act.put, List.setIfInBounds_toArray, List.set_cons_zero, List.set_cons_succ]
                refine wpAnyT_one (i := 19) (by kernel_rfl) ?_
                obtain ⟨W3, hW3⟩ : ∃ V, V = wr.drew.setCell ⟨pN k, j, none⟩ (.int .u8 x) := ⟨_, rfl⟩
                have RN := F1.out.1.rN k HK.out
                have F4 : Hid (RSD W3 base n ⟨r, gN, gW, gI, cN, cW, cI, some ⟨gN, 0, none⟩, some ⟨gW, 0, none⟩, some ⟨gI, 0, none⟩, pN, kN, pW, kW⟩ (upF (ouN F N W I k) k (inP (W k) (N k) kf (j + 1))) (ouW F N W I k) (syI I k) fz go ∧ FR base w W3) := Lib.hid (by rw [hW3]; exact ⟨by have q := (F1.out.1.below (Below.drew (Below.refl _ _))).putB k HK.out j x XB.out; rw [upF_upF, upF_same, ← XV.out, ← inP_put HST.out] at q; rw [← XV.out]; exact q, F1.out.2.drewR.set (F1.out.1.base2 k HK.out).1 (RTg.bp RN (by decide)) _ _⟩)
                refine op_skip (o := ⟨none, _, _, _, _, _⟩) W3 rfl rfl (by rw [hW3]; exact run_store_one _ _ _ 5 _ _ rfl (pN k) j rfl _ rfl rfl size5 (by rw [show wr.drew.cell? ⟨pN k, j, none⟩ = wr.cell? ⟨pN k, j, none⟩ from rfl, RN.cell j HJ.out]; rfl) (RN.free j)) ?_
                refine ⟨fun _ => ⟨(F4.out.1.see k HK.out).1, (F4.out.1.see k HK.out).2.2.2.1, (F4.out.1.see k HK.out).2.1, (F4.out.1.see k HK.out).2.2.2.2.1, (by have q := (F4.out.1.rW k HK.out).cell j HJ.out; rw [ouW_self] at q; rw [← XV.out]; exact q)⟩, ?_⟩
                simp only [Act.put, List.setIfInBounds_toArray, List.set_cons_zero, List.set_cons_succ]
                clear hW3 RN
                refine wpAnyT_done (by kernel_rfl) ?_ _
                go_upto_region 11 with (fail)
                refine wp_region_lit ?_
                refine wpL_pure (.int .i64 (j : Int)) rfl (by kernel_rfl) ?_
                simp only [Act.put, List.setIfInBounds_toArray, List.set_cons_zero, List.set_cons_succ]
                refine wpL_pure (.int .i64 ((j + 1 : Nat) : Int)) rfl (run_addi Try.underlying3 rfl rfl rfl _ (by have := HJ.out; rw [wrap_in _ (by omega) (by omega)]; omega)) ?_
                simp only [Act.put, List.setIfInBounds_toArray, List.set_cons_zero, List.set_cons_succ]
                refine wpL_pure (.int .i64 ((j + 1 : Nat) : Int)) rfl (by kernel_rfl) ?_
                simp only [Act.put, List.setIfInBounds_toArray, List.set_cons_zero, List.set_cons_succ]
                have NX : Hid (j + 1 ≤ 64 ∧ RS W3 base r n (upF (ouN F N W I k) k (inP (W k) (N k) kf (j + 1))) (ouW F N W I k) (syI I k) fz go ∧ FR base w W3) := Lib.hid ⟨HJ.out, ⟨_, rfl, F4.out.1⟩, F4.out.2⟩
                unfold wpList
                go_roundw
                case rel => first | exact ⟨j + 1, rfl, NX⟩ | ((repeat apply Exists.intro); exact ⟨⟨j + 1, rfl, NX⟩, rfl⟩)
                case measure => simp [intOf]; have := HJ.out; omega
          · have HJ := Lib.hid hj
            clear hj
            go_upto_region 10 with (fail)
            refine wp_region_lit ?_
            refine wpL_pure (.int .i64 (j : Int)) rfl (by kernel_rfl) ?_
            simp only [Act.put, List.setIfInBounds_toArray, List.set_cons_zero, List.set_cons_succ]
            refine wpL_pure (.bool false) rfl (run_lti Try.underlying3 rfl rfl rfl (by have := HJ.out; rw [decide_eq_false_iff_not]; omega)) ?_
            simp only [Act.put, List.setIfInBounds_toArray, List.set_cons_zero, List.set_cons_succ]
            have EJ : j = 64 := by have := RJ.out.1; have := HJ.out; omega
            have F5 : Hid (RSD wr base n ⟨r, gN, gW, gI, cN, cW, cI, some ⟨gN, 0, none⟩, some ⟨gW, 0, none⟩, some ⟨gI, 0, none⟩, pN, kN, pW, kW⟩ (ouN F N W I (k + 1)) (ouW F N W I k) (syI I k) fz go ∧ FR base w wr) := Lib.hid (by rw [ouN_next ZI.out, CC.out, KF.out.1, ← EJ]; exact F1.out)
            clear F1 RJ EJ
            have F1 := F5
            clear F5
            go_upto_region 15 with (fail)
            refine region_anyT (fun X => X.cell? ⟨r, 0, none⟩ = some (.slice (some ⟨gN, 0, none⟩) n cN) ∧ X.cell? ⟨r, 1, none⟩ = some (.slice (some ⟨gW, 0, none⟩) n cW) ∧ X.cell? ⟨gN, k, none⟩ = some (.slice (some ⟨pN k, 0, none⟩) 64 (kN k))) (by kernel_rfl) 16 16 rfl ?_
            refine wpAnyT_take (i := 0) (oi := ⟨some 82, _, _, _, _, _⟩) (v := .pointer (some ⟨r, 0, none⟩)) rfl (by kernel_rfl) (by kernel_rfl) (by kernel_rfl) (fun _ _ _ h => h) (by kernel_rfl) (Or.inl ⟨rfl, fun w h => by kernel_rfl⟩) (⟨(F1.out.1.see k HK.out).1, (F1.out.1.see k HK.out).2.1, (F1.out.1.see k HK.out).2.2.2.1⟩) ?_
            simp only [Act.put, List.setIfInBounds_toArray, List.set_cons_zero, List.set_cons_succ]
            refine wpAnyT_take (i := 1) (oi := ⟨some 83, _, _, _, _, _⟩) (v := .pointer (some ⟨r, 0, none⟩)) rfl (by kernel_rfl) (by kernel_rfl) (by kernel_rfl) (fun _ _ _ h => h) (by kernel_rfl) (Or.inl ⟨rfl, fun w h => by kernel_rfl⟩) (⟨(F1.out.1.see k HK.out).1, (F1.out.1.see k HK.out).2.1, (F1.out.1.see k HK.out).2.2.2.1⟩) ?_
            simp only [Act.put, List.setIfInBounds_toArray, List.set_cons_zero, List.set_cons_succ]
            refine wpAnyT_take (i := 2) (oi := ⟨some 84, _, _, _, _, _⟩) (v := .pointer (some ⟨r, 1, none⟩)) rfl (by kernel_rfl) (by kernel_rfl) (by kernel_rfl) (fun _ _ _ h => h) (by kernel_rfl) (Or.inl ⟨rfl, fun w h => by kernel_rfl⟩) (⟨(F1.out.1.see k HK.out).1, (F1.out.1.see k HK.out).2.1, (F1.out.1.see k HK.out).2.2.2.1⟩) ?_
            simp only [Act.put, List.setIfInBounds_toArray, List.set_cons_zero, List.set_cons_succ]
            refine wpAnyT_take (i := 3) (oi := ⟨some 85, _, _, _, _, _⟩) (v := .slice (some ⟨gW, 0, none⟩) n cW) rfl (by kernel_rfl) (by kernel_rfl) (by kernel_rfl) (fun _ _ _ h => h) (by kernel_rfl) (Or.inl ⟨rfl, fun w h => run_load_one _ _ _ 56 _ _ rfl (r) (1) rfl (h.2.1) (by kernel_rfl)⟩) (⟨(F1.out.1.see k HK.out).1, (F1.out.1.see k HK.out).2.1, (F1.out.1.see k HK.out).2.2.2.1⟩) ?_
            simp only [Act.put, List.setIfInBounds_toArray, List.set_cons_zero, List.set_cons_succ]
            refine wpAnyT_take (i := 4) (oi := ⟨some 86, _, _, _, _, _⟩) (v := .int .i64 (k : Int)) rfl (by kernel_rfl) (by kernel_rfl) (by kernel_rfl) (fun _ _ _ h => h) (by kernel_rfl) (Or.inl ⟨rfl, fun w h => by kernel_rfl⟩) (⟨(F1.out.1.see k HK.out).1, (F1.out.1.see k HK.out).2.1, (F1.out.1.see k HK.out).2.2.2.1⟩) ?_
            simp only [Act.put, List.setIfInBounds_toArray, List.set_cons_zero, List.set_cons_succ]
            refine wpAnyT_take (i := 6) (oi := ⟨some 88, _, _, _, _, _⟩) (v := .pointer (some ⟨r, 0, none⟩)) rfl (by kernel_rfl) (by kernel_rfl) (by kernel_rfl) (fun _ _ _ h => h) (by kernel_rfl) (Or.inl ⟨rfl, fun w h => by kernel_rfl⟩) (⟨(F1.out.1.see k HK.out).1, (F1.out.1.see k HK.out).2.1, (F1.out.1.see k HK.out).2.2.2.1⟩) ?_
            simp only [Act.put, List.setIfInBounds_toArray, List.set_cons_zero, List.set_cons_succ]
            refine wpAnyT_take (i := 7) (oi := ⟨some 89, _, _, _, _, _⟩) (v := .pointer (some ⟨r, 0, none⟩)) rfl (by kernel_rfl) (by kernel_rfl) (by kernel_rfl) (fun _ _ _ h => h) (by kernel_rfl) (Or.inl ⟨rfl, fun w h => by kernel_rfl⟩) (⟨(F1.out.1.see k HK.out).1, (F1.out.1.see k HK.out).2.1, (F1.out.1.see k HK.out).2.2.2.1⟩) ?_
            simp only [Act.put, List.setIfInBounds_toArray, List.set_cons_zero, List.set_cons_succ]
            refine wpAnyT_take (i := 8) (oi := ⟨some 90, _, _, _, _, _⟩) (v := .pointer (some ⟨r, 0, none⟩)) rfl (by kernel_rfl) (by kernel_rfl) (by kernel_rfl) (fun _ _ _ h => h) (by kernel_rfl) (Or.inl ⟨rfl, fun w h => by kernel_rfl⟩) (⟨(F1.out.1.see k HK.out).1, (F1.out.1.see k HK.out).2.1, (F1.out.1.see k HK.out).2.2.2.1⟩) ?_
            simp only [Act.put, List.setIfInBounds_toArray, List.set_cons_zero, List.set_cons_succ]
            refine wpAnyT_take (i := 9) (oi := ⟨some 91, _, _, _, _, _⟩) (v := .slice (some ⟨gN, 0, none⟩) n cN) rfl (by kernel_rfl) (by kernel_rfl) (by kernel_rfl) (fun _ _ _ h => h) (by kernel_rfl) (Or.inl ⟨rfl, fun w h => run_load_one _ _ _ 56 _ _ rfl (r) (0) rfl (h.1) (by kernel_rfl)⟩) (⟨(F1.out.1.see k HK.out).1, (F1.out.1.see k HK.out).2.1, (F1.out.1.see k HK.out).2.2.2.1⟩) ?_
            simp only [Act.put, List.setIfInBounds_toArray, List.set_cons_zero, List.set_cons_succ]
            refine wpAnyT_take (i := 10) (oi := ⟨some 92, _, _, _, _, _⟩) (v := .int .i64 (k : Int)) rfl (by kernel_rfl) (by kernel_rfl) (by kernel_rfl) (fun _ _ _ h => h) (by kernel_rfl) (Or.inl ⟨rfl, fun w h => by kernel_rfl⟩) (⟨(F1.out.1.see k HK.out).1, (F1.out.1.see k HK.out).2.1, (F1.out.1.see k HK.out).2.2.2.1⟩) ?_
            simp only [Act.put, List.setIfInBounds_toArray, List.set_cons_zero, List.set_cons_succ]
            refine wpAnyT_take (i := 11) (oi := ⟨some 93, _, _, _, _, _⟩) (v := .pointer (some ⟨gN, k, none⟩)) rfl (by kernel_rfl) (by kernel_rfl) (by kernel_rfl) (fun _ _ _ h => h) (by kernel_rfl) (Or.inl ⟨rfl, fun w h => run_idx56' _ _ w _ _ _ gN n cN k rfl rfl rfl rfl HK.out (by have := HN.out; unfold maxLen; omega)⟩) (⟨(F1.out.1.see k HK.out).1, (F1.out.1.see k HK.out).2.1, (F1.out.1.see k HK.out).2.2.2.1⟩) ?_
            simp only [Act.put, List.setIfInBounds_toArray, List.set_cons_zero, List.set_cons_succ]
            refine wpAnyT_take (i := 12) (oi := ⟨some 94, _, _, _, _, _⟩) (v := .slice (some ⟨pN k, 0, none⟩) 64 (kN k)) rfl (by kernel_rfl) (by kernel_rfl) (by kernel_rfl) (fun _ _ _ h => h) (by kernel_rfl) (Or.inl ⟨rfl, fun w h => run_load_one _ _ _ 22 _ _ rfl (gN) (k) rfl (h.2.2) (by kernel_rfl)⟩) (⟨(F1.out.1.see k HK.out).1, (F1.out.1.see k HK.out).2.1, (F1.out.1.see k HK.out).2.2.2.1⟩) ?_
            simp only [Act.put, List.setIfInBounds_toArray, List.set_cons_zero, List.set_cons_succ]
            refine wpAnyT_one (i := 5) (by kernel_rfl) ?_
            obtain ⟨W1, hW1⟩ : ∃ V, V = wr.drew.alloc (.cells #[] 5) := ⟨_, rfl⟩
            obtain ⟨g1, hg1⟩ : ∃ q, wr.drew.heap.size = q := ⟨_, rfl⟩
            have A0 : Below wr.heap.size wr W1 := by rw [hW1]; exact ((Below.refl _ _).drew).alloc (Nat.le_refl _) _
            have F2 : Hid (RSD W1 base n ⟨r, gN, gW, gI, cN, cW, cI, some ⟨gN, 0, none⟩, some ⟨gW, 0, none⟩, some ⟨gI, 0, none⟩, pN, kN, pW, kW⟩ (ouN F N W I (k + 1)) (ouW F N W I k) (syI I k) fz go ∧ Own W1 g1 (.slice (some ⟨g1, 0, none⟩) 0 0) [] ∧ Below wr.heap.size wr W1 ∧ wr.heap.size = g1) := Lib.hid ⟨F1.out.1.below A0, ⟨by rw [hW1, ← hg1]; exact World.ownsRow_lit wr.drew #[] 0 (Nat.le_refl _) (by simp [maxLen]) rfl, by simp⟩, A0, hg1⟩
            clear A0
            refine op_valw (o := ⟨some 87, _, _, _, _, _⟩) (.slice (some ⟨g1, 0, none⟩) 0 0) W1 rfl rfl (by rw [hW1, ← hg1]; kernel_rfl) ?_
            refine ⟨fun _ => ⟨(F2.out.1.see k HK.out).1, (F2.out.1.see k HK.out).2.1, (F2.out.1.see k HK.out).2.2.2.1⟩, ?_⟩
            simp only [Act.put, List.setIfInBounds_toArray, List.set_cons_zero, List.set_cons_succ]
            clear hW1 hg1
            refine wpAnyT_one (i := 13) (by kernel_rfl) ?_
            have ON : Hid (SOk ((ouN F N W I (k + 1)) k)) := Lib.hid (F2.out.1.oN k HK.out)
            obtain ⟨v2, W2, r1, r2, r3, r4, _⟩ := append_own W1 g1 (.slice (some ⟨g1, 0, none⟩) 0 0) [] ((ouN F N W I (k + 1)) k) _ 64 (kN k) F2.out.2.1 ((F2.out.1.rN k HK.out).row ON.out) (by simp) (by rw [← F2.out.2.2.2]; exact F2.out.2.2.1.size)
            have R1 := Lib.hid r1
            rw [List.nil_append] at r2
            have A0 : Below wr.heap.size wr W2 := F2.out.2.2.1.grown r3 F2.out.2.2.1.size (fun j hj => by have e := F2.out.2.2.2; simp [Value.ownBlock] at hj; omega)
            obtain ⟨g2, c2, e2, q1, q2, q3⟩ := own_bp r2 ON.out
            have F3 : Hid (RSD W2 base n ⟨r, gN, gW, gI, cN, cW, cI, some ⟨gN, 0, none⟩, some ⟨gW, 0, none⟩, some ⟨gI, 0, none⟩, pN, kN, pW, kW⟩ (ouN F N W I (k + 1)) (ouW F N W I k) (syI I k) fz go ∧ FR base w W2 ∧ BP W2 g2 5 64 (rowF ((ouN F N W I (k + 1)) k)) ∧ (64 ≤ c2 ∧ c2 ≤ maxLen) ∧ base ≤ g2 ∧ (∀ j, j < n → g2 ≠ pN j ∧ g2 ≠ pW j)) := Lib.hid ⟨F1.out.1.below A0, F1.out.2.trans (FR.of A0), q1, q3, by have e := F2.out.2.2.2; have := F1.out.2.2.2.2.1; have := HB.out; omega, fun j hj => by have e := F2.out.2.2.2; have := (F1.out.1.rN j hj).lt; have := (F1.out.1.rW j hj).lt; simp only at *; omega⟩
            subst e2
            clear r1 r2 r3 r4 q1 q2 q3 A0
            refine op_valw (o := ⟨some 95, _, _, _, _, _⟩) (.slice (some ⟨g2, 0, none⟩) 64 c2) W2 rfl rfl (run_app _ _ _ _ _ _ _ _ _ rfl rfl rfl rfl R1.out) ?_
            refine ⟨fun _ => ⟨(F3.out.1.see k HK.out).1, (F3.out.1.see k HK.out).2.1, (F3.out.1.see k HK.out).2.2.2.1⟩, ?_⟩
            simp only [Act.put, List.setIfInBounds_toArray, List.set_cons_zero, List.set_cons_succ]
            clear R1 F2 F1
            refine wpAnyT_take (i := 14) (oi := ⟨some 96, _, _, _, _, _⟩) (v := .pointer (some ⟨gW, k, none⟩)) rfl (by kernel_rfl) (by kernel_rfl) (by kernel_rfl) (fun _ _ _ h => h) (by kernel_rfl) (Or.inl ⟨rfl, fun w h => run_idx56' _ _ w _ _ _ gW n cW k rfl rfl rfl rfl HK.out (by have := HN.out; unfold maxLen; omega)⟩) (⟨(F3.out.1.see k HK.out).1, (F3.out.1.see k HK.out).2.1, (F3.out.1.see k HK.out).2.2.2.1⟩) ?_
            simp only [Act.put, List.setIfInBounds_toArray, List.set_cons_zero, List.set_cons_succ]
            refine wpAnyT_one (i := 15) (by kernel_rfl) ?_
            obtain ⟨W3, hW3⟩ : ∃ V, V = W2.setCell ⟨gW, k, none⟩ (.slice (some ⟨g2, 0, none⟩) 64 c2) := ⟨_, rfl⟩
            have F4 : Hid (RSD W3 base n ⟨r, gN, gW, gI, cN, cW, cI, some ⟨gN, 0, none⟩, some ⟨gW, 0, none⟩, some ⟨gI, 0, none⟩, pN, kN, upF pW k g2, upF kW k c2⟩ (ouN F N W I (k + 1)) (upF (ouW F N W I k) k ((ouN F N W I (k + 1)) k)) (syI I k) fz go ∧ FR base w W3) := Lib.hid (by rw [hW3]; exact ⟨F3.out.1.putW k HK.out g2 c2 _ ON.out F3.out.2.2.1 F3.out.2.2.2.1 F3.out.2.2.2.2.1 F3.out.2.2.2.2.2, F3.out.2.1.set (F3.out.1.base1 (by have := HK.out; omega)).2.1 (RTg.bp (F3.out.1.bW (by have := HK.out; omega)) (by decide)) _ _⟩)
            have BN := F3.out.1.bW (by have := HK.out; omega)
            refine op_skip (o := ⟨none, _, _, _, _, _⟩) W3 rfl rfl (by rw [hW3]; exact run_store_one _ _ _ 22 _ _ rfl gW k rfl _ rfl rfl size22 (by rw [BN.cell k HK.out]; rfl) (BN.free k)) ?_
            refine ⟨fun _ => ⟨(F4.out.1.see k HK.out).1, (F4.out.1.see k HK.out).2.1, (F4.out.1.see k HK.out).2.2.2.1⟩, ?_⟩
            simp only [Act.put, List.setIfInBounds_toArray, List.set_cons_zero, List.set_cons_succ]
            clear hW3 F3 BN ON
            refine wpAnyT_done (by kernel_rfl) ?_ _
            go_upto_region 16 with (fail)
            refine wp_region_lit ?_
            refine wpL_pure (.pointer (some ⟨r, 0, none⟩)) rfl (by kernel_rfl) ?_
            simp only [Act.put, List.setIfInBounds_toArray, List.set_cons_zero, List.set_cons_succ]
            refine wpL_pure (.pointer (some ⟨r, 0, none⟩)) rfl (by kernel_rfl) ?_
            simp only [Act.put, List.setIfInBounds_toArray, List.set_cons_zero, List.set_cons_succ]
            refine wpL_pure (.pointer (some ⟨r, 2, none⟩)) rfl (by kernel_rfl) ?_
            simp only [Act.put, List.setIfInBounds_toArray, List.set_cons_zero, List.set_cons_succ]
            refine wpL_pure (.slice (some ⟨gI, 0, none⟩) n cI) rfl (run_load_one _ _ _ 57 _ _ rfl (r) (2) rfl ((F4.out.1.see k HK.out).2.2.1) (by kernel_rfl)) ?_
            simp only [Act.put, List.setIfInBounds_toArray, List.set_cons_zero, List.set_cons_succ]
            refine wpL_pure (.int .i64 (k : Int)) rfl (by kernel_rfl) ?_
            simp only [Act.put, List.setIfInBounds_toArray, List.set_cons_zero, List.set_cons_succ]
            refine wpL_pure (.pointer (some ⟨gI, k, none⟩)) rfl (run_idx57' _ _ _ _ _ _ gI n cI k rfl rfl rfl rfl HK.out (by have := HN.out; unfold maxLen; omega)) ?_
            simp only [Act.put, List.setIfInBounds_toArray, List.set_cons_zero, List.set_cons_succ]
            have BI := Lib.hid (F4.out.1.bI (by have := HK.out; omega))
            simp only at BI
            refine wpL_store_one rfl rfl gI k rfl (.bool false) rfl rfl size4 (by rw [BI.out.cell k HK.out]; rfl) (BI.out.free k) ?_
            simp only [Act.put, List.setIfInBounds_toArray, List.set_cons_zero, List.set_cons_succ]
            obtain ⟨W5, hW5⟩ : ∃ V, V = W3.setCell ⟨gI, k, none⟩ (.bool false) := ⟨_, rfl⟩
            rw [← hW5]
            have F5 : Hid (RSD W5 base n ⟨r, gN, gW, gI, cN, cW, cI, some ⟨gN, 0, none⟩, some ⟨gW, 0, none⟩, some ⟨gI, 0, none⟩, pN, kN, upF pW k g2, upF kW k c2⟩ (ouN F N W I (k + 1)) (upF (ouW F N W I k) k ((ouN F N W I (k + 1)) k)) (upF (syI I k) k false) fz go ∧ FR base w W5) := Lib.hid (by rw [hW5]; exact ⟨F4.out.1.putI k HK.out false, F4.out.2.set (F4.out.1.base1 (by have := HK.out; omega)).2.2 (RTg.bp BI.out (by decide)) _ _⟩)
            clear hW5 F4 BI
            go_upto_region 3 with (fail)
            refine wp_region_lit ?_
            refine wpL_pure (.int .i64 (k : Int)) rfl (by kernel_rfl) ?_
            simp only [Act.put, List.setIfInBounds_toArray, List.set_cons_zero, List.set_cons_succ]
            refine wpL_pure (.int .i64 ((k + 1 : Nat) : Int)) rfl (run_addi Try.underlying3 rfl rfl rfl _ (by have := HK.out; have := HN.out; rw [wrap_in _ (by omega) (by omega)]; omega)) ?_
            simp only [Act.put, List.setIfInBounds_toArray, List.set_cons_zero, List.set_cons_succ]
            refine wpL_pure (.int .i64 ((k + 1 : Nat) : Int)) rfl (by kernel_rfl) ?_
            simp only [Act.put, List.setIfInBounds_toArray, List.set_cons_zero, List.set_cons_succ]
            have EC : cntB I (k + 1) = cc + 1 := by simp [cntB, ZI.out, CC.out]
            have NX : Hid (k + 1 ≤ n ∧ RS W5 base r n (ouN F N W I (k + 1)) (ouW F N W I (k + 1)) (syI I (k + 1)) fz go ∧ FR base w W5) := Lib.hid ⟨HK.out, ⟨_, rfl, by rw [ouW_next ZI.out, ← syI_next]; exact F5.out.1⟩, F5.out.2⟩
            unfold wpList
            go_roundw
            case rel => first | exact ⟨k + 1, by rw [EC], rfl, NX⟩ | ((repeat apply Exists.intro); exact ⟨⟨k + 1, by rw [EC], rfl, NX⟩, rfl⟩)
            case measure => simp [intOf]; have := HK.out; omega
    · have HK := Lib.hid hlt
      clear hlt
      go_upto_region 2 with (fail)
      refine wp_region_lit ?_
      refine wpL_pure (.int .i64 (k : Int)) rfl (by kernel_rfl) ?_
      simp only [Act.put, List.setIfInBounds_toArray, List.set_cons_zero, List.set_cons_succ]
      refine wpL_pure (.pointer (some ⟨r, 0, none⟩)) rfl (by kernel_rfl) ?_
      simp only [Act.put, List.setIfInBounds_toArray, List.set_cons_zero, List.set_cons_succ]
      refine wpL_pure (.pointer (some ⟨r, 0, none⟩)) rfl (by kernel_rfl) ?_
      simp only [Act.put, List.setIfInBounds_toArray, List.set_cons_zero, List.set_cons_succ]
      refine wpL_pure (.pointer (some ⟨r, 0, none⟩)) rfl (by kernel_rfl) ?_
      simp only [Act.put, List.setIfInBounds_toArray, List.set_cons_zero, List.set_cons_succ]
      refine wpL_pure (.slice aN n cN) rfl (run_load_one _ _ _ 56 _ _ rfl (r) (0) rfl (by rw [F1.out.1.cells.cell]; rfl) (by kernel_rfl)) ?_
      simp only [Act.put, List.setIfInBounds_toArray, List.set_cons_zero, List.set_cons_succ]
      refine wpL_pure (.int .i64 (n : Int)) rfl (by kernel_rfl) ?_
      simp only [Act.put, List.setIfInBounds_toArray, List.set_cons_zero, List.set_cons_succ]
      refine wpL_pure (.bool false) rfl (run_lti Try.underlying3 rfl rfl rfl (by have := HK.out; rw [decide_eq_false_iff_not]; omega)) ?_
      simp only [Act.put, List.setIfInBounds_toArray, List.set_cons_zero, List.set_cons_succ]
      go_upto_region 17 with (fail)
      refine wp_region_lit ?_
      refine wpL_pure (.pointer (some ⟨r, 0, none⟩)) rfl (by kernel_rfl) ?_
      simp only [Act.put, List.setIfInBounds_toArray, List.set_cons_zero, List.set_cons_succ]
      refine wpL_pure (.pointer (some ⟨r, 0, none⟩)) rfl (by kernel_rfl) ?_
      simp only [Act.put, List.setIfInBounds_toArray, List.set_cons_zero, List.set_cons_succ]
      refine wpL_pure (.pointer (some ⟨r, 4, none⟩)) rfl (by kernel_rfl) ?_
      simp only [Act.put, List.setIfInBounds_toArray, List.set_cons_zero, List.set_cons_succ]
      have BC := F1.out.1.cells
      refine wpL_store_one rfl rfl (r) (4) rfl (.bool false) rfl rfl size4 (by rw [BC.cell]; rfl) (BC.free 4) ?_
      obtain ⟨w3, hw3⟩ : ∃ V, V = wr.setCell ⟨r, 4, none⟩ (.bool false) := ⟨_, rfl⟩
      rw [← hw3]
      have F3 : Hid (RSD w3 base n ⟨r, gN, gW, gI, cN, cW, cI, aN, aW, aI, pN, kN, pW, kW⟩ (ouN F N W I k) (ouW F N W I k) (syI I k) fz false ∧ FR base w w3) := Lib.hid (by rw [hw3]; exact ⟨F1.out.1.setRec (gb_set (gb_refl _ _) _ _) (RL.setGone BC false) F1.out.1.fuse, F1.out.2.set F1.out.1.base0 (RTg.blk BC (by decide)) _ _⟩)
      clear hw3 BC F1
      go_upto_region 18 with (fail)
      refine wp_region_lit ?_
      refine wpL_pure (.pointer (some ⟨r, 0, none⟩)) rfl (by kernel_rfl) ?_
      simp only [Act.put, List.setIfInBounds_toArray, List.set_cons_zero, List.set_cons_succ]
      refine wpL_pure (.pointer (some ⟨r, 0, none⟩)) rfl (by kernel_rfl) ?_
      simp only [Act.put, List.setIfInBounds_toArray, List.set_cons_zero, List.set_cons_succ]
      refine wpL_pure (.pointer (some ⟨r, 3, none⟩)) rfl (by kernel_rfl) ?_
      simp only [Act.put, List.setIfInBounds_toArray, List.set_cons_zero, List.set_cons_succ]
      have BC := F3.out.1.cells
      refine wpL_store_one rfl rfl (r) (3) rfl (.int .i64 (-1)) rfl rfl size3 (by rw [BC.cell]; rfl) (BC.free 3) ?_
      obtain ⟨w4, hw4⟩ : ∃ V, V = w3.setCell ⟨r, 3, none⟩ (.int .i64 (-1)) := ⟨_, rfl⟩
      rw [← hw4]
      have F4 : Hid (RSD w4 base n ⟨r, gN, gW, gI, cN, cW, cI, aN, aW, aI, pN, kN, pW, kW⟩ (ouN F N W I k) (ouW F N W I k) (syI I k) (-1) false ∧ FR base w w4) := Lib.hid (by rw [hw4]; exact ⟨F3.out.1.setRec (gb_set (gb_refl _ _) _ _) (RL.setFuse BC (-1)) (by omega), F3.out.2.set F3.out.1.base0 (RTg.blk BC (by decide)) _ _⟩)
      clear hw4 BC F3
      go_wp2_with fail
      refine bodyPost_end (results_none rfl _ _ _) rfl ?_
      have EK : k = n := by have := RI.out.1; have := HK.out; omega
      exact ⟨rfl, ⟨_, rfl, F4.out.1.ext (fun j hj => by simp [ouN, show j < k by omega]) (fun j hj => by simp [ouW, show j < k by omega]) (fun j hj => by simp [syI, show j < k by omega])⟩, F4.out.2⟩
set_option maxHeartbeats 8000000 in
theorem refcrash1 (w : World) (base n : Nat) (D : RD) (N W : Nat → List Int) (I : Nat → Bool) (fz : Int) (go : Bool) (h : RSD w base n D N W I fz go) (hb : base ≤ w.heap.size) (a : Option Addr) (q cx : Nat) (F : List Int) (hr : Row w a q F) (hq : 0 < q) (ng : 0 < q → ∀ p, a = some p → p.block < base) :
    Calls Try.prog 28 #[.pointer (some ⟨D.r, 0, none⟩), .slice a q cx] w fun e w' => RCPost base D.r n F N W I w e w' := by
  have HN := Lib.hid h.few
  have H := Lib.hid h
  have HB := Lib.hid hb
  have HR := Lib.hid hr
  have QE := Lib.hid hq
  have NG := Lib.hid ng
  clear h hb hr hq ng
  obtain ⟨r, gN, gW, gI, cN, cW, cI, aN, aW, aI, pN, kN, pW, kW⟩ := D
  change Calls Try.prog 28 #[.pointer (some ⟨r, 0, none⟩), .slice a q cx] w fun e w' => RCPost base r n F N W I w e w'
  go_enter Try.func28, Try.ntmps28
  go_upto_region 0 with (fail)
  refine wp_region_lit ?_
  refine wpL_pure (.int .i64 0) rfl (by kernel_rfl) ?_
  simp only [Act.put, List.setIfInBounds_toArray, List.set_cons_zero, List.set_cons_succ]
  go_upto_region 1 with (fail)
  refine wp_region_lit ?_
  refine wpL_pure (.int .i64 0) rfl (by kernel_rfl) ?_
  simp only [Act.put, List.setIfInBounds_toArray, List.set_cons_zero, List.set_cons_succ]
  have F0 : Hid (RS w base r n N W I fz go) := Lib.hid ⟨_, rfl, H.out⟩
  clear H gN gW gI cN cW cI aN aW aI pN kN pW kW
  go_wp2_with fail
  go_loopw [4, 5] (fun s4 s5 wr => ∃ k : Nat, s4 = .int .i64 (cntB I k : Nat) ∧ s5 = .int .i64 (k : Int) ∧ Hid (k ≤ n ∧ RS wr base r n (ouN F N W I k) (ouW F N W I k) (syI I k) fz go ∧ FR base w wr)) (fun _ s5 _ => n - (intOf s5).toNat)
  case atStart => exact ⟨0, rfl, rfl, Lib.hid ⟨Nat.zero_le _, F0.out, FR.refl _⟩⟩
  case round =>
    clear F0
    obtain ⟨k, rfl, rfl, RI⟩ := hrel
    obtain ⟨cc, hcc⟩ : ∃ s, cntB I k = s := ⟨_, rfl⟩
    have CC := Lib.hid hcc
    have CB : Hid (cc ≤ k) := Lib.hid (by rw [← hcc]; exact cntB_le I k)
    rw [hcc]
    clear hcc
    obtain ⟨⟨r', gN, gW, gI, cN, cW, cI, aN, aW, aI, pN, kN, pW, kW⟩, hr, hd⟩ := RI.out.2.1
    obtain rfl : r = r' := hr.symm
    clear hr
    have F1 : Hid (RSD wr base n ⟨r, gN, gW, gI, cN, cW, cI, aN, aW, aI, pN, kN, pW, kW⟩ (ouN F N W I k) (ouW F N W I k) (syI I k) fz go ∧ FR base w wr) := Lib.hid ⟨hd, RI.out.2.2⟩
    clear hd
    by_cases hlt : k < n
    · have HK := Lib.hid hlt
      clear hlt
      obtain ⟨ea, eb, ec⟩ := F1.out.1.addr (by have := HK.out; omega)
      simp only at ea eb ec
      subst ea eb ec
      go_upto_region 2 with (fail)
      refine wp_region_lit ?_
      refine wpL_pure (.int .i64 (k : Int)) rfl (by kernel_rfl) ?_
      simp only [Act.put, List.setIfInBounds_toArray, List.set_cons_zero, List.set_cons_succ]
      refine wpL_pure (.pointer (some ⟨r, 0, none⟩)) rfl (by kernel_rfl) ?_
      simp only [Act.put, List.setIfInBounds_toArray, List.set_cons_zero, List.set_cons_succ]
      refine wpL_pure (.pointer (some ⟨r, 0, none⟩)) rfl (by kernel_rfl) ?_
      simp only [Act.put, List.setIfInBounds_toArray, List.set_cons_zero, List.set_cons_succ]
      refine wpL_pure (.pointer (some ⟨r, 0, none⟩)) rfl (by kernel_rfl) ?_
      simp only [Act.put, List.setIfInBounds_toArray, List.set_cons_zero, List.set_cons_succ]
      refine wpL_pure (.slice (some ⟨gN, 0, none⟩) n cN) rfl (run_load_one _ _ _ 56 _ _ rfl (r) (0) rfl ((F1.out.1.see k HK.out).1) (by kernel_rfl)) ?_
      simp only [Act.put, List.setIfInBounds_toArray, List.set_cons_zero, List.set_cons_succ]
      refine wpL_pure (.int .i64 (n : Int)) rfl (by kernel_rfl) ?_
      simp only [Act.put, List.setIfInBounds_toArray, List.set_cons_zero, List.set_cons_succ]
      refine wpL_pure (.bool true) rfl (run_lti Try.underlying3 rfl rfl rfl (by have := HK.out; rw [decide_eq_true_eq]; omega)) ?_
      simp only [Act.put, List.setIfInBounds_toArray, List.set_cons_zero, List.set_cons_succ]
      obtain ⟨zi, hzi⟩ : ∃ z, I k = z := ⟨_, rfl⟩
      have ZI := Lib.hid hzi
      have CI : Hid (wr.cell? ⟨gI, k, none⟩ = some (.bool zi)) := Lib.hid (by rw [← hzi, ← syI_self I k]; exact (F1.out.1.see k HK.out).2.2.2.2.2)
      clear hzi
      cases zi
      · go_upto_region 4 with (fail)
        refine wp_region_lit ?_
        refine wpL_pure (.pointer (some ⟨r, 0, none⟩)) rfl (by kernel_rfl) ?_
        simp only [Act.put, List.setIfInBounds_toArray, List.set_cons_zero, List.set_cons_succ]
        refine wpL_pure (.pointer (some ⟨r, 0, none⟩)) rfl (by kernel_rfl) ?_
        simp only [Act.put, List.setIfInBounds_toArray, List.set_cons_zero, List.set_cons_succ]
        refine wpL_pure (.pointer (some ⟨r, 2, none⟩)) rfl (by kernel_rfl) ?_
        simp only [Act.put, List.setIfInBounds_toArray, List.set_cons_zero, List.set_cons_succ]
        refine wpL_pure (.slice (some ⟨gI, 0, none⟩) n cI) rfl (run_load_one _ _ _ 57 _ _ rfl (r) (2) rfl ((F1.out.1.see k HK.out).2.2.1) (by kernel_rfl)) ?_
        simp only [Act.put, List.setIfInBounds_toArray, List.set_cons_zero, List.set_cons_succ]
        refine wpL_pure (.int .i64 (k : Int)) rfl (by kernel_rfl) ?_
        simp only [Act.put, List.setIfInBounds_toArray, List.set_cons_zero, List.set_cons_succ]
        refine wpL_pure (.pointer (some ⟨gI, k, none⟩)) rfl (run_idx57' _ _ _ _ _ _ gI n cI k rfl rfl rfl rfl HK.out (by have := HN.out; unfold maxLen; omega)) ?_
        simp only [Act.put, List.setIfInBounds_toArray, List.set_cons_zero, List.set_cons_succ]
        refine wpL_pure (.bool false) rfl (run_load_one _ _ _ 4 _ _ rfl (gI) (k) rfl (CI.out) (by kernel_rfl)) ?_
        simp only [Act.put, List.setIfInBounds_toArray, List.set_cons_zero, List.set_cons_succ]
        refine wpL_pure (.bool true) rfl (by kernel_rfl) ?_
        simp only [Act.put, List.setIfInBounds_toArray, List.set_cons_zero, List.set_cons_succ]
        go_upto_region 3 with (fail)
        refine wp_region_lit ?_
        refine wpL_pure (.int .i64 (k : Int)) rfl (by kernel_rfl) ?_
        simp only [Act.put, List.setIfInBounds_toArray, List.set_cons_zero, List.set_cons_succ]
        refine wpL_pure (.int .i64 ((k + 1 : Nat) : Int)) rfl (run_addi Try.underlying3 rfl rfl rfl _ (by have := HK.out; have := HN.out; rw [wrap_in _ (by omega) (by omega)]; omega)) ?_
        simp only [Act.put, List.setIfInBounds_toArray, List.set_cons_zero, List.set_cons_succ]
        refine wpL_pure (.int .i64 ((k + 1 : Nat) : Int)) rfl (by kernel_rfl) ?_
        simp only [Act.put, List.setIfInBounds_toArray, List.set_cons_zero, List.set_cons_succ]
        have EC : cntB I (k + 1) = cc := by simp [cntB, ZI.out, CC.out]
        have NX : Hid (k + 1 ≤ n ∧ RS wr base r n (ouN F N W I (k + 1)) (ouW F N W I (k + 1)) (syI I (k + 1)) fz go ∧ FR base w wr) := Lib.hid ⟨HK.out, by rw [ouN_skip ZI.out, ouW_skip ZI.out, syI_skip ZI.out]; exact ⟨_, rfl, F1.out.1⟩, F1.out.2⟩
        unfold wpList
        go_roundw
        case rel => first | exact ⟨k + 1, by rw [EC], rfl, NX⟩ | ((repeat apply Exists.intro); exact ⟨⟨k + 1, by rw [EC], rfl, NX⟩, rfl⟩)
        case measure => simp [intOf]; have := HK.out; omega
      · go_upto_region 4 with (fail)
        refine wp_region_lit ?_
        refine wpL_pure (.pointer (some ⟨r, 0, none⟩)) rfl (by kernel_rfl) ?_
        simp only [Act.put, List.setIfInBounds_toArray, List.set_cons_zero, List.set_cons_succ]
        refine wpL_pure (.pointer (some ⟨r, 0, none⟩)) rfl (by kernel_rfl) ?_
        simp only [Act.put, List.setIfInBounds_toArray, List.set_cons_zero, List.set_cons_succ]
        refine wpL_pure (.pointer (some ⟨r, 2, none⟩)) rfl (by kernel_rfl) ?_
        simp only [Act.put, List.setIfInBounds_toArray, List.set_cons_zero, List.set_cons_succ]
        refine wpL_pure (.slice (some ⟨gI, 0, none⟩) n cI) rfl (run_load_one _ _ _ 57 _ _ rfl (r) (2) rfl ((F1.out.1.see k HK.out).2.2.1) (by kernel_rfl)) ?_
        simp only [Act.put, List.setIfInBounds_toArray, List.set_cons_zero, List.set_cons_succ]
        refine wpL_pure (.int .i64 (k : Int)) rfl (by kernel_rfl) ?_
        simp only [Act.put, List.setIfInBounds_toArray, List.set_cons_zero, List.set_cons_succ]
        refine wpL_pure (.pointer (some ⟨gI, k, none⟩)) rfl (run_idx57' _ _ _ _ _ _ gI n cI k rfl rfl rfl rfl HK.out (by have := HN.out; unfold maxLen; omega)) ?_
        simp only [Act.put, List.setIfInBounds_toArray, List.set_cons_zero, List.set_cons_succ]
        refine wpL_pure (.bool true) rfl (run_load_one _ _ _ 4 _ _ rfl (gI) (k) rfl (CI.out) (by kernel_rfl)) ?_
        simp only [Act.put, List.setIfInBounds_toArray, List.set_cons_zero, List.set_cons_succ]
        refine wpL_pure (.bool false) rfl (by kernel_rfl) ?_
        simp only [Act.put, List.setIfInBounds_toArray, List.set_cons_zero, List.set_cons_succ]
        obtain ⟨kf, hkf⟩ : ∃ q0, fateN F cc = q0 := ⟨_, rfl⟩
        go_upto_region 5 with (fail)
        refine wp_region_lit ?_
        refine wpL_pure (.int .i64 0) rfl (by kernel_rfl) ?_
        simp only [Act.put, List.setIfInBounds_toArray, List.set_cons_zero, List.set_cons_succ]
        go_upto_region 6 with (fail)
        refine wp_region_lit ?_
        refine wpL_pure (.slice a q cx) rfl (by kernel_rfl) ?_
        simp only [Act.put, List.setIfInBounds_toArray, List.set_cons_zero, List.set_cons_succ]
        refine wpL_pure (.int .i64 (q : Int)) rfl (by kernel_rfl) ?_
        simp only [Act.put, List.setIfInBounds_toArray, List.set_cons_zero, List.set_cons_succ]
        refine wpL_pure (.bool true) rfl (run_gti Try.underlying3 rfl rfl rfl (by have := QE.out; simp; omega)) ?_
        simp only [Act.put, List.setIfInBounds_toArray, List.set_cons_zero, List.set_cons_succ]
        obtain ⟨jr, hjr⟩ : ∃ q0, cc % q = q0 := ⟨_, rfl⟩
        have JR : Hid (cc % q = jr ∧ jr < q) := Lib.hid ⟨hjr, by rw [← hjr]; exact Nat.mod_lt _ QE.out⟩
        clear hjr
        obtain ⟨ga, oa, ea, hca⟩ := (F1.out.2.row HR.out (NG.out QE.out)).2.2.2 jr JR.out.2
        have EA := Lib.hid ea
        clear ea
        have KF : Hid (fateN F cc = kf ∧ kf < 256 ∧ F.getD jr 0 = (kf : Int)) := Lib.hid (by subst hkf; exact fate_some HR.out JR.out.1 JR.out.2)
        have CA := Lib.hid hca
        clear hca hkf
        go_upto_region 7 with (fail)
        refine wp_region_lit ?_
        refine wpL_pure (.slice a q cx) rfl (by kernel_rfl) ?_
        simp only [Act.put, List.setIfInBounds_toArray, List.set_cons_zero, List.set_cons_succ]
        refine wpL_pure (.int .i64 (cc : Nat)) rfl (by kernel_rfl) ?_
        simp only [Act.put, List.setIfInBounds_toArray, List.set_cons_zero, List.set_cons_succ]
        refine wpL_pure (.slice a q cx) rfl (by kernel_rfl) ?_
        simp only [Act.put, List.setIfInBounds_toArray, List.set_cons_zero, List.set_cons_succ]
        refine wpL_pure (.int .i64 (q : Int)) rfl (by kernel_rfl) ?_
        simp only [Act.put, List.setIfInBounds_toArray, List.set_cons_zero, List.set_cons_succ]
        refine wpL_pure (.int .i64 ((jr : Nat) : Int)) rfl (run_remn _ _ _ _ _ cc q jr rfl rfl rfl QE.out JR.out.1) ?_
        simp only [Act.put, List.setIfInBounds_toArray, List.set_cons_zero, List.set_cons_succ]
        refine wpL_pure (.pointer (some ⟨ga, oa + jr, none⟩)) rfl (run_idx _ _ _ _ _ ga oa q cx jr rfl (by rw [EA.out]; rfl) rfl JR.out.2 HR.out.2.1) ?_
        simp only [Act.put, List.setIfInBounds_toArray, List.set_cons_zero, List.set_cons_succ]
        refine wpL_pure (.int .u8 (kf : Int)) rfl (run_load_one _ _ _ 5 _ _ rfl ga (oa + jr) rfl (by rw [CA.out, KF.out.2.2]) (by kernel_rfl)) ?_
        simp only [Act.put, List.setIfInBounds_toArray, List.set_cons_zero, List.set_cons_succ]
        refine wpL_pure (.int .i64 (kf : Int)) rfl (run_convi Try.underlying5 Try.underlying3 rfl rfl _ (by have := KF.out.2.1; rw [wrap_in _ (by omega) (by omega)])) ?_
        simp only [Act.put, List.setIfInBounds_toArray, List.set_cons_zero, List.set_cons_succ]
        refine wpL_pure (.int .i64 (kf : Int)) rfl (by kernel_rfl) ?_
        simp only [Act.put, List.setIfInBounds_toArray, List.set_cons_zero, List.set_cons_succ]
        go_upto_region 8 with (fail)
        refine wp_region_lit ?_
        refine wpL_pure (.int .i64 (cc : Nat)) rfl (by kernel_rfl) ?_
        simp only [Act.put, List.setIfInBounds_toArray, List.set_cons_zero, List.set_cons_succ]
        refine wpL_pure (.int .i64 ((cc + 1 : Nat) : Int)) rfl (run_addi Try.underlying3 rfl rfl rfl _ (by have := CB.out; have := HK.out; have := HN.out; rw [wrap_in _ (by omega) (by omega)]; omega)) ?_
        simp only [Act.put, List.setIfInBounds_toArray, List.set_cons_zero, List.set_cons_succ]
        refine wpL_pure (.int .i64 ((cc + 1 : Nat) : Int)) rfl (by kernel_rfl) ?_
        simp only [Act.put, List.setIfInBounds_toArray, List.set_cons_zero, List.set_cons_succ]
        go_upto_region 9 with (fail)
        refine wp_region_lit ?_
        refine wpL_pure (.int .i64 0) rfl (by kernel_rfl) ?_
        simp only [Act.put, List.setIfInBounds_toArray, List.set_cons_zero, List.set_cons_succ]
        have G0 : Hid (SOk (N k) ∧ SOk (W k)) := Lib.hid ⟨by rw [← ouN_self F N W I k]; exact F1.out.1.oN k HK.out, by rw [← ouW_self F N W I k]; exact F1.out.1.oW k HK.out⟩
        have F2 : Hid (RS wr base r n (upF (ouN F N W I k) k (inP (W k) (N k) kf 0)) (ouW F N W I k) (syI I k) fz go ∧ FR base w wr) := Lib.hid ⟨⟨_, rfl, by rw [inP_zero _ G0.out.1, ouN_up]; exact F1.out.1⟩, F1.out.2⟩
        clear CI
        go_wp2_with fail
        go_loopw [7] (fun s7 wr => ∃ j : Nat, s7 = .int .i64 (j : Int) ∧ Hid (j ≤ 64 ∧ RS wr base r n (upF (ouN F N W I k) k (inP (W k) (N k) kf j)) (ouW F N W I k) (syI I k) fz go ∧ FR base w wr)) (fun s7 _ => 64 - (intOf s7).toNat)
        case atStart => exact ⟨0, rfl, Lib.hid ⟨Nat.zero_le _, F2.out.1, F2.out.2⟩⟩
        case round =>
          clear F1 F2 RI
          obtain ⟨j, rfl, RJ⟩ := hrel
          obtain ⟨⟨r', gN, gW, gI, cN, cW, cI, aN, aW, aI, pN, kN, pW, kW⟩, hr, hd⟩ := RJ.out.2.1
          obtain rfl : r = r' := hr.symm
          clear hr
          have F1 : Hid (RSD wr base n ⟨r, gN, gW, gI, cN, cW, cI, aN, aW, aI, pN, kN, pW, kW⟩ (upF (ouN F N W I k) k (inP (W k) (N k) kf j)) (ouW F N W I k) (syI I k) fz go ∧ FR base w wr) := Lib.hid ⟨hd, RJ.out.2.2⟩
          clear hd
          obtain ⟨ea, eb, ec⟩ := F1.out.1.addr (by have := HK.out; omega)
          simp only at ea eb ec
          subst ea eb ec
          by_cases hj : j < 64
          · have HJ := Lib.hid hj
            clear hj
            go_upto_region 10 with (fail)
            refine wp_region_lit ?_
            refine wpL_pure (.int .i64 (j : Int)) rfl (by kernel_rfl) ?_
            simp only [Act.put, List.setIfInBounds_toArray, List.set_cons_zero, List.set_cons_succ]
            refine wpL_pure (.bool true) rfl (run_lti Try.underlying3 rfl rfl rfl (by have := HJ.out; rw [decide_eq_true_eq]; omega)) ?_
            simp only [Act.put, List.setIfInBounds_toArray, List.set_cons_zero, List.set_cons_succ]
            by_cases h1 : kf < 128
            · have H1 := Lib.hid h1
              clear h1
              by_cases h2 : j < kf
              · have H2 := Lib.hid h2
                clear h2
                have HST : Hid (stB kf j = true) := Lib.hid (by have := H1.out; have := H2.out; simp [stB]; omega)
                go_upto_region 12 with (fail)
                refine wp_region_lit ?_
                refine wpL_pure (.int .i64 (kf : Int)) rfl (by kernel_rfl) ?_
                simp only [Act.put, List.setIfInBounds_toArray, List.set_cons_zero, List.set_cons_succ]
                refine wpL_pure (.bool true) rfl (run_lti Try.underlying3 rfl rfl rfl (by have := H1.out; rw [decide_eq_true_eq]; omega)) ?_
                simp only [Act.put, List.setIfInBounds_toArray, List.set_cons_zero, List.set_cons_succ]
                refine wpL_pure (.bool true) rfl (by kernel_rfl) ?_
                simp only [Act.put, List.setIfInBounds_toArray, List.set_cons_zero, List.set_cons_succ]
                refine wpL_pure (.int .i64 (j : Int)) rfl (by kernel_rfl) ?_
                simp only [Act.put, List.setIfInBounds_toArray, List.set_cons_zero, List.set_cons_succ]
                refine wpL_pure (.int .i64 (kf : Int)) rfl (by kernel_rfl) ?_
                simp only [Act.put, List.setIfInBounds_toArray, List.set_cons_zero, List.set_cons_succ]
                refine wpL_pure (.bool true) rfl (run_lti Try.underlying3 rfl rfl rfl (by have := H2.out; rw [decide_eq_true_eq]; omega)) ?_
                simp only [Act.put, List.setIfInBounds_toArray, List.set_cons_zero, List.set_cons_succ]
                refine wpL_pure (.bool true) rfl (by kernel_rfl) ?_
                simp only [Act.put, List.setIfInBounds_toArray, List.set_cons_zero, List.set_cons_succ]
                refine wpL_pure (.bool true) rfl (by kernel_rfl) ?_
                simp only [Act.put, List.setIfInBounds_toArray, List.set_cons_zero, List.set_cons_succ]
                refine wpL_skip (by kernel_rfl) ?_
                simp only [Act.put, List.setIfInBounds_toArray, List.set_cons_zero, List.set_cons_succ]
                refine wpL_skip (by kernel_rfl) ?_
                simp only [Act.put, List.setIfInBounds_toArray, List.set_cons_zero, List.set_cons_succ]
                refine wpL_skip (by kernel_rfl) ?_
                simp only [Act.put, List.setIfInBounds_toArray, List.set_cons_zero, List.set_cons_succ]
                refine wpL_skip (by kernel_rfl) ?_
                simp only [Act.put, List.setIfInBounds_toArray, List.set_cons_zero, List.set_cons_succ]
                refine wpL_skip (by kernel_rfl) ?_
                simp only [Act.put, List.setIfInBounds_toArray, List.set_cons_zero, List.set_cons_succ]
                refine wpL_skip (by kernel_rfl) ?_
                simp only [Act.put, List.setIfInBounds_toArray, List.set_cons_zero, List.set_cons_succ]
                refine wpL_skip (by kernel_rfl) ?_
                simp only [Act.put, List.setIfInBounds_toArray, List.set_cons_zero, List.set_cons_succ]
                refine wpL_skip (by kernel_rfl) ?_
                simp only [Act.put, List.setIfInBounds_toArray, List.set_cons_zero, List.set_cons_succ]
                refine wpL_skip (by kernel_rfl) ?_
                simp only [Act.put, List.setIfInBounds_toArray, List.set_cons_zero, List.set_cons_succ]
                refine wpL_pure (.bool true) rfl (by kernel_rfl) ?_
                simp only [Act.put, List.setIfInBounds_toArray, List.set_cons_zero, List.set_cons_succ]
                refine wpL_pure (.bool true) rfl (by kernel_rfl) ?_
                simp only [Act.put, List.setIfInBounds_toArray, List.set_cons_zero, List.set_cons_succ]
                go_upto_region 13 with (fail)
                refine wp_region_lit ?_
                refine wpL_pure (.bool true) rfl (by kernel_rfl) ?_
                simp only [Act.put, List.setIfInBounds_toArray, List.set_cons_zero, List.set_cons_succ]
                refine wpL_pure (.bool false) rfl (by kernel_rfl) ?_
                simp only [Act.put, List.setIfInBounds_toArray, List.set_cons_zero, List.set_cons_succ]
                go_upto_region 11 with (fail)
                refine wp_region_lit ?_
                refine wpL_pure (.int .i64 (j : Int)) rfl (by kernel_rfl) ?_
                simp only [Act.put, List.setIfInBounds_toArray, List.set_cons_zero, List.set_cons_succ]
                refine wpL_pure (.int .i64 ((j + 1 : Nat) : Int)) rfl (run_addi Try.underlying3 rfl rfl rfl _ (by have := HJ.out; rw [wrap_in _ (by omega) (by omega)]; omega)) ?_
                simp only [Act.put, List.setIfInBounds_toArray, List.set_cons_zero, List.set_cons_succ]
                refine wpL_pure (.int .i64 ((j + 1 : Nat) : Int)) rfl (by kernel_rfl) ?_
                simp only [Act.put, List.setIfInBounds_toArray, List.set_cons_zero, List.set_cons_succ]
                have NX : Hid (j + 1 ≤ 64 ∧ RS wr base r n (upF (ouN F N W I k) k (inP (W k) (N k) kf (j + 1))) (ouW F N W I k) (syI I k) fz go ∧ FR base w wr) := Lib.hid ⟨HJ.out, by rw [inP_keep HST.out]; exact ⟨_, rfl, F1.out.1⟩, F1.out.2⟩
                unfold wpList
                go_roundw
                case rel => first | exact ⟨j + 1, rfl, NX⟩ | ((repeat apply Exists.intro); exact ⟨⟨j + 1, rfl, NX⟩, rfl⟩)
                case measure => simp [intOf]; have := HJ.out; omega
              · have H2 := Lib.hid h2
                clear h2
                have HST : Hid (stB kf j = false) := Lib.hid (by have := H1.out; have := H2.out; simp [stB]; omega)
                go_upto_region 12 with (fail)
                refine wp_region_lit ?_
                refine wpL_pure (.int .i64 (kf : Int)) rfl (by kernel_rfl) ?_
                simp only [Act.put, List.setIfInBounds_toArray, List.set_cons_zero, List.set_cons_succ]
                refine wpL_pure (.bool true) rfl (run_lti Try.underlying3 rfl rfl rfl (by have := H1.out; rw [decide_eq_true_eq]; omega)) ?_
                simp only [Act.put, List.setIfInBounds_toArray, List.set_cons_zero, List.set_cons_succ]
                refine wpL_pure (.bool true) rfl (by kernel_rfl) ?_
                simp only [Act.put, List.setIfInBounds_toArray, List.set_cons_zero, List.set_cons_succ]
                refine wpL_pure (.int .i64 (j : Int)) rfl (by kernel_rfl) ?_
                simp only [Act.put, List.setIfInBounds_toArray, List.set_cons_zero, List.set_cons_succ]
                refine wpL_pure (.int .i64 (kf : Int)) rfl (by kernel_rfl) ?_
                simp only [Act.put, List.setIfInBounds_toArray, List.set_cons_zero, List.set_cons_succ]
                refine wpL_pure (.bool false) rfl (run_lti Try.underlying3 rfl rfl rfl (by have := H2.out; rw [decide_eq_false_iff_not]; omega)) ?_
                simp only [Act.put, List.setIfInBounds_toArray, List.set_cons_zero, List.set_cons_succ]
                refine wpL_pure (.bool false) rfl (by kernel_rfl) ?_
                simp only [Act.put, List.setIfInBounds_toArray, List.set_cons_zero, List.set_cons_succ]
                refine wpL_pure (.bool false) rfl (by kernel_rfl) ?_
                simp only [Act.put, List.setIfInBounds_toArray, List.set_cons_zero, List.set_cons_succ]
                refine wpL_pure (.int .i64 (kf : Int)) rfl (by kernel_rfl) ?_
                simp only [Act.put, List.setIfInBounds_toArray, List.set_cons_zero, List.set_cons_succ]
                refine wpL_pure (.bool false) rfl (run_gei Try.underlying3 rfl rfl rfl (by have := H1.out; rw [decide_eq_false_iff_not]; omega)) ?_
                simp only [Act.put, List.setIfInBounds_toArray, List.set_cons_zero, List.set_cons_succ]
                refine wpL_pure (.bool false) rfl (by kernel_rfl) ?_
                simp only [Act.put, List.setIfInBounds_toArray, List.set_cons_zero, List.set_cons_succ]
                refine wpL_skip (by kernel_rfl) ?_
                simp only [Act.put, List.setIfInBounds_toArray, List.set_cons_zero, List.set_cons_succ]
                refine wpL_skip (by kernel_rfl) ?_
                simp only [Act.put, List.setIfInBounds_toArray, List.set_cons_zero, List.set_cons_succ]
                refine wpL_skip (by kernel_rfl) ?_
                simp only [Act.put, List.setIfInBounds_toArray, List.set_cons_zero, List.set_cons_succ]
                refine wpL_skip (by kernel_rfl) ?_
                simp only [Act.put, List.setIfInBounds_toArray, List.set_cons_zero, List.set_cons_succ]
                refine wpL_skip (by kernel_rfl) ?_
                simp only [Act.put, List.setIfInBounds_toArray, List.set_cons_zero, List.set_cons_succ]
                refine wpL_pure (.bool false) rfl (by kernel_rfl) ?_
                simp only [Act.put, List.setIfInBounds_toArray, List.set_cons_zero, List.set_cons_succ]
                refine wpL_pure (.bool false) rfl (by kernel_rfl) ?_
                simp only [Act.put, List.setIfInBounds_toArray, List.set_cons_zero, List.set_cons_succ]
                refine wpL_pure (.bool false) rfl (by kernel_rfl) ?_
                simp only [Act.put, List.setIfInBounds_toArray, List.set_cons_zero, List.set_cons_succ]
                go_upto_region 13 with (fail)
                refine wp_region_lit ?_
                refine wpL_pure (.bool false) rfl (by kernel_rfl) ?_
                simp only [Act.put, List.setIfInBounds_toArray, List.set_cons_zero, List.set_cons_succ]
                refine wpL_pure (.bool true) rfl (by kernel_rfl) ?_
                simp only [Act.put, List.setIfInBounds_toArray, List.set_cons_zero, List.set_cons_succ]
                obtain ⟨x, hx⟩ : ∃ q, (W k).getD j 0 = q := ⟨_, rfl⟩
                have XV := Lib.hid hx
                have XB : Hid (0 ≤ x ∧ x ≤ 255) := Lib.hid (by rw [← hx]; exact getD_byte G0.out.2.2 j)
                clear hx
                go_upto_region 14 with (fail)
                refine region_anyT (fun X => X.cell? ⟨r, 0, none⟩ = some (.slice (some ⟨gN, 0, none⟩) n cN) ∧ X.cell? ⟨gN, k, none⟩ = some (.slice (some ⟨pN k, 0, none⟩) 64 (kN k)) ∧ X.cell? ⟨r, 1, none⟩ = some (.slice (some ⟨gW, 0, none⟩) n cW) ∧ X.cell? ⟨gW, k, none⟩ = some (.slice (some ⟨pW k, 0, none⟩) 64 (kW k)) ∧ X.cell? ⟨pW k, j, none⟩ = some (.int .u8 x)) (by kernel_rfl) 20 20 rfl ?_
                refine wpAnyT_take (i := 0) (oi := ⟨some 63, _, _, _, _, _⟩) (v := .pointer (some ⟨r, 0, none⟩)) rfl (by kernel_rfl) (by kernel_rfl) (by kernel_rfl) (fun _ _ _ h => h) (by kernel_rfl) (Or.inl ⟨rfl, fun w h => by kernel_rfl⟩) (⟨(F1.out.1.see k HK.out).1, (F1.out.1.see k HK.out).2.2.2.1, (F1.out.1.see k HK.out).2.1, (F1.out.1.see k HK.out).2.2.2.2.1, (by have q := (F1.out.1.rW k HK.out).cell j HJ.out; rw [ouW_self] at q; rw [← XV.out]; exact q)⟩) ?_
                simp only [Act.put, List.setIfInBounds_toArray, List.set_cons_zero, List.set_cons_succ]
                refine wpAnyT_take (i := 1) (oi := ⟨some 64, _, _, _, _, _⟩) (v := .pointer (some ⟨r, 0, none⟩)) rfl (by kernel_rfl) (by kernel_rfl) (by kernel_rfl) (fun _ _ _ h => h) (by kernel_rfl) (Or.inl ⟨rfl, fun w h => by kernel_rfl⟩) (⟨(F1.out.1.see k HK.out).1, (F1.out.1.see k HK.out).2.2.2.1, (F1.out.1.see k HK.out).2.1, (F1.out.1.see k HK.out).2.2.2.2.1, (by have q := (F1.out.1.rW k HK.out).cell j HJ.out; rw [ouW_self] at q; rw [← XV.out]; exact q)⟩) ?_
                simp only [Act.put, List.setIfInBounds_toArray, List.set_cons_zero, List.set_cons_succ]
                refine wpAnyT_take (i := 2) (oi := ⟨some 65, _, _, _, _, _⟩) (v := .pointer (some ⟨r, 0, none⟩)) rfl (by kernel_rfl) (by kernel_rfl) (by kernel_rfl) (fun _ _ _ h => h) (by kernel_rfl) (Or.inl ⟨rfl, fun w h => by kernel_rfl⟩) (⟨(F1.out.1.see k HK.out).1, (F1.out.1.see k HK.out).2.2.2.1, (F1.out.1.see k HK.out).2.1, (F1.out.1.see k HK.out).2.2.2.2.1, (by have q := (F1.out.1.rW k HK.out).cell j HJ.out; rw [ouW_self] at q; rw [← XV.out]; exact q)⟩) ?_
                simp only [Act.put, List.setIfInBounds_toArray, List.set_cons_zero, List.set_cons_succ]
                refine wpAnyT_take (i := 3) (oi := ⟨some 66, _, _, _, _, _⟩) (v := .slice (some ⟨gN, 0, none⟩) n cN) rfl (by kernel_rfl) (by kernel_rfl) (by kernel_rfl) (fun _ _ _ h => h) (by kernel_rfl) (Or.inl ⟨rfl, fun w h => run_load_one _ _ _ 56 _ _ rfl (r) (0) rfl (h.1) (by kernel_rfl)⟩) (⟨(F1.out.1.see k HK.out).1, (F1.out.1.see k HK.out).2.2.2.1, (F1.out.1.see k HK.out).2.1, (F1.out.1.see k HK.out).2.2.2.2.1, (by have q := (F1.out.1.rW k HK.out).cell j HJ.out; rw [ouW_self] at q; rw [← XV.out]; exact q)⟩) ?_
                simp only [Act.put, List.setIfInBounds_toArray, List.set_cons_zero, List.set_cons_succ]
                refine wpAnyT_take (i := 4) (oi := ⟨some 67, _, _, _, _, _⟩) (v := .int .i64 (k : Int)) rfl (by kernel_rfl) (by kernel_rfl) (by kernel_rfl) (fun _ _ _ h => h) (by kernel_rfl) (Or.inl ⟨rfl, fun w h => by kernel_rfl⟩) (⟨(F1.out.1.see k HK.out).1, (F1.out.1.see k HK.out).2.2.2.1, (F1.out.1.see k HK.out).2.1, (F1.out.1.see k HK.out).2.2.2.2.1, (by have q := (F1.out.1.rW k HK.out).cell j HJ.out; rw [ouW_self] at q; rw [← XV.out]; exact q)⟩) ?_
                simp only [Act.put, List.setIfInBounds_toArray, List.set_cons_zero, List.set_cons_succ]
                refine wpAnyT_take (i := 5) (oi := ⟨some 68, _, _, _, _, _⟩) (v := .pointer (some ⟨gN, k, none⟩)) rfl (by kernel_rfl) (by kernel_rfl) (by kernel_rfl) (fun _ _ _ h => h) (by kernel_rfl) (Or.inl ⟨rfl, fun w h => run_idx56' _ _ w _ _ _ gN n cN k rfl rfl rfl rfl HK.out (by have := HN.out; unfold maxLen; omega)⟩) (⟨(F1.out.1.see k HK.out).1, (F1.out.1.see k HK.out).2.2.2.1, (F1.out.1.see k HK.out).2.1, (F1.out.1.see k HK.out).2.2.2.2.1, (by have q := (F1.out.1.rW k HK.out).cell j HJ.out; rw [ouW_self] at q; rw [← XV.out]; exact q)⟩) ?_
                simp only [Act.put, List.setIfInBounds_toArray, List.set_cons_zero, List.set_cons_succ]
                refine wpAnyT_take (i := 6) (oi := ⟨some 69, _, _, _, _, _⟩) (v := .slice (some ⟨pN k, 0, none⟩) 64 (kN k)) rfl (by kernel_rfl) (by kernel_rfl) (by kernel_rfl) (fun _ _ _ h => h) (by kernel_rfl) (Or.inl ⟨rfl, fun w h => run_load_one _ _ _ 22 _ _ rfl (gN) (k) rfl (h.2.1) (by kernel_rfl)⟩) (⟨(F1.out.1.see k HK.out).1, (F1.out.1.see k HK.out).2.2.2.1, (F1.out.1.see k HK.out).2.1, (F1.out.1.see k HK.out).2.2.2.2.1, (by have q := (F1.out.1.rW k HK.out).cell j HJ.out; rw [ouW_self] at q; rw [← XV.out]; exact q)⟩) ?_
                simp only [Act.put, List.setIfInBounds_toArray, List.set_cons_zero, List.set_cons_succ]
                refine wpAnyT_take (i := 7) (oi := ⟨some 70, _, _, _, _, _⟩) (v := .int .i64 (j : Int)) rfl (by kernel_rfl) (by kernel_rfl) (by kernel_rfl) (fun _ _ _ h => h) (by kernel_rfl) (Or.inl ⟨rfl, fun w h => by kernel_rfl⟩) (⟨(F1.out.1.see k HK.out).1, (F1.out.1.see k HK.out).2.2.2.1, (F1.out.1.see k HK.out).2.1, (F1.out.1.see k HK.out).2.2.2.2.1, (by have q := (F1.out.1.rW k HK.out).cell j HJ.out; rw [ouW_self] at q; rw [← XV.out]; exact q)⟩) ?_
                simp only [Act.put, List.setIfInBounds_toArray, List.set_cons_zero, List.set_cons_succ]
                refine wpAnyT_take (i := 8) (oi := ⟨some 71, _, _, _, _, _⟩) (v := .pointer (some ⟨r, 0, none⟩)) rfl (by kernel_rfl) (by kernel_rfl) (by kernel_rfl) (fun _ _ _ h => h) (by kernel_rfl) (Or.inl ⟨rfl, fun w h => by kernel_rfl⟩) (⟨(F1.out.1.see k HK.out).1, (F1.out.1.see k HK.out).2.2.2.1, (F1.out.1.see k HK.out).2.1, (F1.out.1.see k HK.out).2.2.2.2.1, (by have q := (F1.out.1.rW k HK.out).cell j HJ.out; rw [ouW_self] at q; rw [← XV.out]; exact q)⟩) ?_
                simp only [Act.put, List.setIfInBounds_toArray, List.set_cons_zero, List.set_cons_succ]
                refine wpAnyT_take (i := 9) (oi := ⟨some 72, _, _, _, _, _⟩) (v := .pointer (some ⟨r, 0, none⟩)) rfl (by kernel_rfl) (by kernel_rfl) (by kernel_rfl) (fun _ _ _ h => h) (by kernel_rfl) (Or.inl ⟨rfl, fun w h => by kernel_rfl⟩) (⟨(F1.out.1.see k HK.out).1, (F1.out.1.see k HK.out).2.2.2.1, (F1.out.1.see k HK.out).2.1, (F1.out.1.see k HK.out).2.2.2.2.1, (by have q := (F1.out.1.rW k HK.out).cell j HJ.out; rw [ouW_self] at q; rw [← XV.out]; exact q)⟩) ?_
                simp only [Act.put, List.setIfInBounds_toArray, List.set_cons_zero, List.set_cons_succ]
                refine wpAnyT_take (i := 10) (oi := ⟨some 73, _, _, _, _, _⟩) (v := .pointer (some ⟨r, 1, none⟩)) rfl (by kernel_rfl) (by kernel_rfl) (by kernel_rfl) (fun _ _ _ h => h) (by kernel_rfl) (Or.inl ⟨rfl, fun w h => by kernel_rfl⟩) (⟨(F1.out.1.see k HK.out).1, (F1.out.1.see k HK.out).2.2.2.1, (F1.out.1.see k HK.out).2.1, (F1.out.1.see k HK.out).2.2.2.2.1, (by have q := (F1.out.1.rW k HK.out).cell j HJ.out; rw [ouW_self] at q; rw [← XV.out]; exact q)⟩) ?_
                simp only [Act.put, List.setIfInBounds_toArray, List.set_cons_zero, List.set_cons_succ]
                refine wpAnyT_take (i := 11) (oi := ⟨some 74, _, _, _, _, _⟩) (v := .slice (some ⟨gW, 0, none⟩) n cW) rfl (by kernel_rfl) (by kernel_rfl) (by kernel_rfl) (fun _ _ _ h => h) (by kernel_rfl) (Or.inl ⟨rfl, fun w h => run_load_one _ _ _ 56 _ _ rfl (r) (1) rfl (h.2.2.1) (by kernel_rfl)⟩) (⟨(F1.out.1.see k HK.out).1, (F1.out.1.see k HK.out).2.2.2.1, (F1.out.1.see k HK.out).2.1, (F1.out.1.see k HK.out).2.2.2.2.1, (by have q := (F1.out.1.rW k HK.out).cell j HJ.out; rw [ouW_self] at q; rw [← XV.out]; exact q)⟩) ?_
                simp only [Act.put, List.setIfInBounds_toArray, List.set_cons_zero, List.set_cons_succ]
                refine wpAnyT_take (i := 12) (oi := ⟨some 75, _, _, _, _, _⟩) (v := .int .i64 (k : Int)) rfl (by kernel_rfl) (by kernel_rfl) (by kernel_rfl) (fun _ _ _ h => h) (by kernel_rfl) (Or.inl ⟨rfl, fun w h => by kernel_rfl⟩) (⟨(F1.out.1.see k HK.out).1, (F1.out.1.see k HK.out).2.2.2.1, (F1.out.1.see k HK.out).2.1, (F1.out.1.see k HK.out).2.2.2.2.1, (by have q := (F1.out.1.rW k HK.out).cell j HJ.out; rw [ouW_self] at q; rw [← XV.out]; exact q)⟩) ?_
                simp only [Act.put, List.setIfInBounds_toArray, List.set_cons_zero, List.set_cons_succ]
                refine wpAnyT_take (i := 13) (oi := ⟨some 76, _, _, _, _, _⟩) (v := .pointer (some ⟨gW, k, none⟩)) rfl (by kernel_rfl) (by kernel_rfl) (by kernel_rfl) (fun _ _ _ h => h) (by kernel_rfl) (Or.inl ⟨rfl, fun w h => run_idx56' _ _ w _ _ _ gW n cW k rfl rfl rfl rfl HK.out (by have := HN.out; unfold maxLen; omega)⟩) (⟨(F1.out.1.see k HK.out).1, (F1.out.1.see k HK.out).2.2.2.1, (F1.out.1.see k HK.out).2.1, (F1.out.1.see k HK.out).2.2.2.2.1, (by have q := (F1.out.1.rW k HK.out).cell j HJ.out; rw [ouW_self] at q; rw [← XV.out]; exact q)⟩) ?_
                simp only [Act.put, List.setIfInBounds_toArray, List.set_cons_zero, List.set_cons_succ]
                refine wpAnyT_take (i := 14) (oi := ⟨some 77, _, _, _, _, _⟩) (v := .slice (some ⟨pW k, 0, none⟩) 64 (kW k)) rfl (by kernel_rfl) (by kernel_rfl) (by kernel_rfl) (fun _ _ _ h => h) (by kernel_rfl) (Or.inl ⟨rfl, fun w h => run_load_one _ _ _ 22 _ _ rfl (gW) (k) rfl (h.2.2.2.1) (by kernel_rfl)⟩) (⟨(F1.out.1.see k HK.out).1, (F1.out.1.see k HK.out).2.2.2.1, (F1.out.1.see k HK.out).2.1, (F1.out.1.see k HK.out).2.2.2.2.1, (by have q := (F1.out.1.rW k HK.out).cell j HJ.out; rw [ouW_self] at q; rw [← XV.out]; exact q)⟩) ?_
                simp only [Act.put, List.setIfInBounds_toArray, List.set_cons_zero, List.set_cons_succ]
                refine wpAnyT_take (i := 15) (oi := ⟨some 78, _, _, _, _, _⟩) (v := .int .i64 (j : Int)) rfl (by kernel_rfl) (by kernel_rfl) (by kernel_rfl) (fun _ _ _ h => h) (by kernel_rfl) (Or.inl ⟨rfl, fun w h => by kernel_rfl⟩) (⟨(F1.out.1.see k HK.out).1, (F1.out.1.see k HK.out).2.2.2.1, (F1.out.1.see k HK.out).2.1, (F1.out.1.see k HK.out).2.2.2.2.1, (by have q := (F1.out.1.rW k HK.out).cell j HJ.out; rw [ouW_self] at q; rw [← XV.out]; exact q)⟩) ?_
                simp only [Act.put, List.setIfInBounds_toArray, List.set_cons_zero, List.set_cons_succ]
                refine wpAnyT_take (i := 16) (oi := ⟨some 79, _, _, _, _, _⟩) (v := .pointer (some ⟨pW k, j, none⟩)) rfl (by kernel_rfl) (by kernel_rfl) (by kernel_rfl) (fun _ _ _ h => h) (by kernel_rfl) (Or.inl ⟨rfl, fun w h => run_idx0 _ _ w _ _ _ (pW k) 64 _ j rfl rfl rfl rfl HJ.out (by decide)⟩) (⟨(F1.out.1.see k HK.out).1, (F1.out.1.see k HK.out).2.2.2.1, (F1.out.1.see k HK.out).2.1, (F1.out.1.see k HK.out).2.2.2.2.1, (by have q := (F1.out.1.rW k HK.out).cell j HJ.out; rw [ouW_self] at q; rw [← XV.out]; exact q)⟩) ?_
                simp only [Act.put, List.setIfInBounds_toArray, List.set_cons_zero, List.set_cons_succ]
                refine wpAnyT_take (i := 17) (oi := ⟨some 80, _, _, _, _, _⟩) (v := .int .u8 x) rfl (by kernel_rfl) (by kernel_rfl) (by kernel_rfl) (fun _ _ _ h => h) (by kernel_rfl) (Or.inl ⟨rfl, fun w h => run_load_one _ _ _ 5 _ _ rfl (pW k) (j) rfl (h.2.2.2.2) (by kernel_rfl)⟩) (⟨(F1.out.1.see k HK.out).1, (F1.out.1.see k HK.out).2.2.2.1, (F1.out.1.see k HK.out).2.1, (F1.out.1.see k HK.out).2.2.2.2.1, (by have q := (F1.out.1.rW k HK.out).cell j HJ.out; rw [ouW_self] at q; rw [← XV.out]; exact q)⟩) ?_
                simp only [Act.put, List.setIfInBounds_toArray, List.set_cons_zero, List.set_cons_succ]
                refine wpAnyT_take (i := 18) (oi := ⟨some 81, _, _, _, _, _⟩) (v := .pointer (some ⟨pN k, j, none⟩)) rfl (by kernel_rfl) (by kernel_rfl) (by kernel_rfl) (fun _ _ _ h => h) (by kernel_rfl) (Or.inl ⟨rfl, fun w h => run_idx0 _ _ w _ _ _ (pN k) 64 _ j rfl rfl rfl rfl HJ.out (by decide)⟩) (⟨(F1.out.1.see k HK.out).1, (F1.out.1.see k HK.out).2.2.2.1, (F1.out.1.see k HK.out).2.1, (F1.out.1.see k HK.out).2.2.2.2.1, (by have q := (F1.out.1.rW k HK.out).cell j HJ.out; rw [ouW_self] at q; rw [← XV.out]; exact q)⟩) ?_
                simp only [Act.put, List.setIfInBounds_toArray, List.set_cons_zero, List.set_cons_succ]
                refine wpAnyT_one (i := 19) (by kernel_rfl) ?_
                obtain ⟨W3, hW3⟩ : ∃ V, V = wr.drew.setCell ⟨pN k, j, none⟩ (.int .u8 x) := ⟨_, rfl⟩
                have RN := F1.out.1.rN k HK.out
                have F4 : Hid (RSD W3 base n ⟨r, gN, gW, gI, cN, cW, cI, some ⟨gN, 0, none⟩, some ⟨gW, 0, none⟩, some ⟨gI, 0, none⟩, pN, kN, pW, kW⟩ (upF (ouN F N W I k) k (inP (W k) (N k) kf (j + 1))) (ouW F N W I k) (syI I k) fz go ∧ FR base w W3) := Lib.hid (by rw [hW3]; exact ⟨by have q := (F1.out.1.below (Below.drew (Below.refl _ _))).putB k HK.out j x XB.out; rw [upF_upF, upF_same, ← XV.out, ← inP_put HST.out] at q; rw [← XV.out]; exact q, F1.out.2.drewR.set (F1.out.1.base2 k HK.out).1 (RTg.bp RN (by decide)) _ _⟩)
                refine op_skip (o := ⟨none, _, _, _, _, _⟩) W3 rfl rfl (by rw [hW3]; exact run_store_one _ _ _ 5 _ _ rfl (pN k) j rfl _ rfl rfl size5 (by rw [show wr.drew.cell? ⟨pN k, j, none⟩ = wr.cell? ⟨pN k, j, none⟩ from rfl, RN.cell j HJ.out]; rfl) (RN.free j)) ?_
                refine ⟨fun _ => ⟨(F4.out.1.see k HK.out).1, (F4.out.1.see k HK.out).2.2.2.1, (F4.out.1.see k HK.out).2.1, (F4.out.1.see k HK.out).2.2.2.2.1, (by have q := (F4.out.1.rW k HK.out).cell j HJ.out; rw [ouW_self] at q; rw [← XV.out]; exact q)⟩, ?_⟩
                simp only [Act.put, List.setIfInBounds_toArray, List.set_cons_zero, List.set_cons_succ]
                clear hW3 RN
                refine wpAnyT_done (by kernel_rfl) ?_ _
                go_upto_region 11 with (fail)
                refine wp_region_lit ?_
                refine wpL_pure (.int .i64 (j : Int)) rfl (by kernel_rfl) ?_
                simp only [Act.put, List.setIfInBounds_toArray, List.set_cons_zero, List.set_cons_succ]
                refine wpL_pure (.int .i64 ((j + 1 : Nat) : Int)) rfl (run_addi Try.underlying3 rfl rfl rfl _ (by have := HJ.out; rw [wrap_in _ (by omega) (by omega)]; omega)) ?_
                simp only [Act.put, List.setIfInBounds_toArray, List.set_cons_zero, List.set_cons_succ]
                refine wpL_pure (.int .i64 ((j + 1 : Nat) : Int)) rfl (by kernel_rfl) ?_
                simp only [Act.put, List.setIfInBounds_toArray, List.set_cons_zero, List.set_cons_succ]
                have NX : Hid (j + 1 ≤ 64 ∧ RS W3 base r n (upF (ouN F N W I k) k (inP (W k) (N k) kf (j + 1))) (ouW F N W I k) (syI I k) fz go ∧ FR base w W3) := Lib.hid ⟨HJ.out, ⟨_, rfl, F4.out.1⟩, F4.out.2⟩
                unfold wpList
                go_roundw
                case rel => first | exact ⟨j + 1, rfl, NX⟩ | ((repeat apply Exists.intro); exact ⟨⟨j + 1, rfl, NX⟩, rfl⟩)
                case measure => simp [intOf]; have := HJ.out; omega
            · have H1 := Lib.hid h1
              clear h1
              by_cases h2 : 192 ≤ kf + j
              · have H2 := Lib.hid h2
                clear h2
                have HST : Hid (stB kf j = true) := Lib.hid (by have := H1.out; have := H2.out; simp [stB]; omega)
                go_upto_region 12 with (fail)
                refine wp_region_lit ?_
                refine wpL_pure (.int .i64 (kf : Int)) rfl (by kernel_rfl) ?_
                simp only [Act.put, List.setIfInBounds_toArray, List.set_cons_zero, List.set_cons_succ]
                refine wpL_pure (.bool false) rfl (run_lti Try.underlying3 rfl rfl rfl (by have := H1.out; rw [decide_eq_false_iff_not]; omega)) ?_
                simp only [Act.put, List.setIfInBounds_toArray, List.set_cons_zero, List.set_cons_succ]
                refine wpL_pure (.bool false) rfl (by kernel_rfl) ?_
                simp only [Act.put, List.setIfInBounds_toArray, List.set_cons_zero, List.set_cons_succ]
                refine wpL_skip (by kernel_rfl) ?_
                simp only [Act.put, List.setIfInBounds_toArray, List.set_cons_zero, List.set_cons_succ]
                refine wpL_skip (by kernel_rfl) ?_
                simp only [Act.put, List.setIfInBounds_toArray, List.set_cons_zero, List.set_cons_succ]
                refine wpL_skip (by kernel_rfl) ?_
                simp only [Act.put, List.setIfInBounds_toArray, List.set_cons_zero, List.set_cons_succ]
                refine wpL_pure (.bool false) rfl (by kernel_rfl) ?_
                simp only [Act.put, List.setIfInBounds_toArray, List.set_cons_zero, List.set_cons_succ]
                refine wpL_pure (.bool false) rfl (by kernel_rfl) ?_
                simp only [Act.put, List.setIfInBounds_toArray, List.set_cons_zero, List.set_cons_succ]
                refine wpL_pure (.int .i64 (kf : Int)) rfl (by kernel_rfl) ?_
                simp only [Act.put, List.setIfInBounds_toArray, List.set_cons_zero, List.set_cons_succ]
                refine wpL_pure (.bool true) rfl (run_gei Try.underlying3 rfl rfl rfl (by have := H1.out; rw [decide_eq_true_eq]; omega)) ?_
                simp only [Act.put, List.setIfInBounds_toArray, List.set_cons_zero, List.set_cons_succ]
                refine wpL_pure (.bool true) rfl (by kernel_rfl) ?_
                simp only [Act.put, List.setIfInBounds_toArray, List.set_cons_zero, List.set_cons_succ]
                refine wpL_pure (.int .i64 (j : Int)) rfl (by kernel_rfl) ?_
                simp only [Act.put, List.setIfInBounds_toArray, List.set_cons_zero, List.set_cons_succ]
                refine wpL_pure (.int .i64 (64 - (j : Int))) rfl (run_subi Try.underlying3 rfl rfl rfl _ (by have := HJ.out; rw [wrap_in _ (by omega) (by omega)])) ?_
                simp only [Act.put, List.setIfInBounds_toArray, List.set_cons_zero, List.set_cons_succ]
                refine wpL_pure (.int .i64 (kf : Int)) rfl (by kernel_rfl) ?_
                simp only [Act.put, List.setIfInBounds_toArray, List.set_cons_zero, List.set_cons_succ]
                refine wpL_pure (.int .i64 ((kf : Int) - 128)) rfl (run_subi Try.underlying3 rfl rfl rfl _ (by have := KF.out.2.1; rw [wrap_in _ (by omega) (by omega)])) ?_
                simp only [Act.put, List.setIfInBounds_toArray, List.set_cons_zero, List.set_cons_succ]
                refine wpL_pure (.bool true) rfl (run_lei Try.underlying3 rfl rfl rfl (by have := H2.out; rw [decide_eq_true_eq]; omega)) ?_
                simp only [Act.put, List.setIfInBounds_toArray, List.set_cons_zero, List.set_cons_succ]
                refine wpL_pure (.bool true) rfl (by kernel_rfl) ?_
                simp only [Act.put, List.setIfInBounds_toArray, List.set_cons_zero, List.set_cons_succ]
                refine wpL_pure (.bool true) rfl (by kernel_rfl) ?_
                simp only [Act.put, List.setIfInBounds_toArray, List.set_cons_zero, List.set_cons_succ]
                refine wpL_pure (.bool true) rfl (by kernel_rfl) ?_
                simp only [Act.put, List.setIfInBounds_toArray, List.set_cons_zero, List.set_cons_succ]
                go_upto_region 13 with (fail)
                refine wp_region_lit ?_
                refine wpL_pure (.bool true) rfl (by kernel_rfl) ?_
                simp only [Act.put, List.setIfInBounds_toArray, List.set_cons_zero, List.set_cons_succ]
                refine wpL_pure (.bool false) rfl (by kernel_rfl) ?_
                simp only [Act.put, List.setIfInBounds_toArray, List.set_cons_zero, List.set_cons_succ]
                go_upto_region 11 with (fail)
                refine wp_region_lit ?_
                refine wpL_pure (.int .i64 (j : Int)) rfl (by kernel_rfl) ?_
                simp only [Act.put, List.setIfInBounds_toArray, List.set_cons_zero, List.set_cons_succ]
                refine wpL_pure (.int .i64 ((j + 1 : Nat) : Int)) rfl (run_addi Try.underlying3 rfl rfl rfl _ (by have := HJ.out; rw [wrap_in _ (by omega) (by omega)]; omega)) ?_
                simp only [Act.put, List.setIfInBounds_toArray, List.set_cons_zero, List.set_cons_succ]
                refine wpL_pure (.int .i64 ((j + 1 : Nat) : Int)) rfl (by kernel_rfl) ?_
                simp only [Act.put, List.setIfInBounds_toArray, List.set_cons_zero, List.set_cons_succ]
                have NX : Hid (j + 1 ≤ 64 ∧ RS wr base r n (upF (ouN F N W I k) k (inP (W k) (N k) kf (j + 1))) (ouW F N W I k) (syI I k) fz go ∧ FR base w wr) := Lib.hid ⟨HJ.out, by rw [inP_keep HST.out]; exact ⟨_, rfl, F1.out.1⟩, F1.out.2⟩
                unfold wpList
                go_roundw
                case rel => first | exact ⟨j + 1, rfl, NX⟩ | ((repeat apply Exists.intro); exact ⟨⟨j + 1, rfl, NX⟩, rfl⟩)
                case measure => simp [intOf]; have := HJ.out; omega
              · have H2 := Lib.hid h2
                clear h2
                have HST : Hid (stB kf j = false) := Lib.hid (by have := H1.out; have := H2.out; simp [stB]; omega)
                go_upto_region 12 with (fail)
                refine wp_region_lit ?_
                refine wpL_pure (.int .i64 (kf : Int)) rfl (by kernel_rfl) ?_
                simp only [Act.put, List.setIfInBounds_toArray, List.set_cons_zero, List.set_cons_succ]
                refine wpL_pure (.bool false) rfl (run_lti Try.underlying3 rfl rfl rfl (by have := H1.out; rw [decide_eq_false_iff_not]; omega)) ?_
                simp only [Act.put, List.setIfInBounds_toArray, List.set_cons_zero, List.set_cons_succ]
                refine wpL_pure (.bool false) rfl (by kernel_rfl) ?_
                simp only [Act.put, List.setIfInBounds_toArray, List.set_cons_zero, List.set_cons_succ]
                refine wpL_skip (by kernel_rfl) ?_
                simp only [Act.put, List.setIfInBounds_toArray, List.set_cons_zero, List.set_cons_succ]
                refine wpL_skip (by kernel_rfl) ?_
                simp only [Act.put, List.setIfInBounds_toArray, List.set_cons_zero, List.set_cons_succ]
                refine wpL_skip (by kernel_rfl) ?_
                simp only [Act.put, List.setIfInBounds_toArray, List.set_cons_zero, List.set_cons_succ]
                refine wpL_pure (.bool false) rfl (by kernel_rfl) ?_
                simp only [Act.put, List.setIfInBounds_toArray, List.set_cons_zero, List.set_cons_succ]
                refine wpL_pure (.bool false) rfl (by kernel_rfl) ?_
                simp only [Act.put, List.setIfInBounds_toArray, List.set_cons_zero, List.set_cons_succ]
                refine wpL_pure (.int .i64 (kf : Int)) rfl (by kernel_rfl) ?_
                simp only [Act.put, List.setIfInBounds_toArray, List.set_cons_zero, List.set_cons_succ]
                refine wpL_pure (.bool true) rfl (run_gei Try.underlying3 rfl rfl rfl (by have := H1.out; rw [decide_eq_true_eq]; omega)) ?_
                simp only [Act.put, List.setIfInBounds_toArray, List.set_cons_zero, List.set_cons_succ]
                refine wpL_pure (.bool true) rfl (by kernel_rfl) ?_
                simp only [Act.put, List.setIfInBounds_toArray, List.set_cons_zero, List.set_cons_succ]
                refine wpL_pure (.int .i64 (j : Int)) rfl (by kernel_rfl) ?_
                simp only [Act.put, List.setIfInBounds_toArray, List.set_cons_zero, List.set_cons_succ]
                refine wpL_pure (.int .i64 (64 - (j : Int))) rfl (run_subi Try.underlying3 rfl rfl rfl _ (by have := HJ.out; rw [wrap_in _ (by omega) (by omega)])) ?_
                simp only [Act.put, List.setIfInBounds_toArray, List.set_cons_zero, List.set_cons_succ]
                refine wpL_pure (.int .i64 (kf : Int)) rfl (by kernel_rfl) ?_
                simp only [Act.put, List.setIfInBounds_toArray, List.set_cons_zero, List.set_cons_succ]
                refine wpL_pure (.int .i64 ((kf : Int) - 128)) rfl (run_subi Try.underlying3 rfl rfl rfl _ (by have := KF.out.2.1; rw [wrap_in _ (by omega) (by omega)])) ?_
                simp only [Act.put, List.setIfInBounds_toArray, List.set_cons_zero, List.set_cons_succ]
                refine wpL_pure (.bool false) rfl (run_lei Try.underlying3 rfl rfl rfl (by have := H2.out; rw [decide_eq_false_iff_not]; omega)) ?_
                simp only [Act.put, List.setIfInBounds_toArray, List.set_cons_zero, List.set_cons_succ]
                refine wpL_pure (.bool false) rfl (by kernel_rfl) ?_
                simp only [Act.put, List.setIfInBounds_toArray, List.set_cons_zero, List.set_cons_succ]
                refine wpL_pure (.bool false) rfl (by kernel_rfl) ?_
                simp only [Act.put, List.setIfInBounds_toArray, List.set_cons_zero, List.set_cons_succ]
                refine wpL_pure (.bool false) rfl (by kernel_rfl) ?_
                simp only [Act.put, List.setIfInBounds_toArray, List.set_cons_zero, List.set_cons_succ]
                go_upto_region 13 with (fail)
                refine wp_region_lit ?_
                refine wpL_pure (.bool false) rfl (by kernel_rfl) ?_
                simp only [Act.put, List.setIfInBounds_toArray, List.set_cons_zero, List.set_cons_succ]
                refine wpL_pure (.bool true) rfl (by kernel_rfl) ?_
                simp only [Act.put, List.setIfInBounds_toArray, List.set_cons_zero, List.set_cons_succ]
                obtain ⟨x, hx⟩ : ∃ q, (W k).getD j 0 = q := ⟨_, rfl⟩
                have XV := Lib.hid hx
                have XB : Hid (0 ≤ x ∧ x ≤ 255) := Lib.hid (by rw [← hx]; exact getD_byte G0.out.2.2 j)
                clear hx
                go_upto_region 14 with (fail)
                refine region_anyT (fun X => X.cell? ⟨r, 0, none⟩ = some (.slice (some ⟨gN, 0, none⟩) n cN) ∧ X.cell? ⟨gN, k, none⟩ = some (.slice (some ⟨pN k, 0, none⟩) 64 (kN k)) ∧ X.cell? ⟨r, 1, none⟩ = some (.slice (some ⟨gW, 0, none⟩) n cW) ∧ X.cell? ⟨gW, k, none⟩ = some (.slice (some ⟨pW k, 0, none⟩) 64 (kW k)) ∧ X.cell? ⟨pW k, j, none⟩ = some (.int .u8 x)) (by kernel_rfl) 20 20 rfl ?_
                refine wpAnyT_take (i := 0) (oi := ⟨some 63, _, _, _, _, _⟩) (v := .pointer (some ⟨r, 0, none⟩)) rfl (by kernel_rfl) (by kernel_rfl) (by kernel_rfl) (fun _ _ _ h => h) (by kernel_rfl) (Or.inl ⟨rfl, fun w h => by kernel_rfl⟩) (⟨(F1.out.1.see k HK.out).1, (F1.out.1.see k HK.out).2.2.2.1, (F1.out.1.see k HK.out).2.1, (F1.out.1.see k HK.out).2.2.2.2.1, (by have q := (F1.out.1.rW k HK.out).cell j HJ.out; rw [ouW_self] at q; rw [← XV.out]; exact q)⟩) ?_
                simp only [Act.put, List.setIfInBounds_toArray, List.set_cons_zero, List.set_cons_succ]
                refine wpAnyT_take (i := 1) (oi := ⟨some 64, _, _, _, _, _⟩) (v := .pointer (some ⟨r, 0, none⟩)) rfl (by kernel_rfl) (by kernel_rfl) (by kernel_rfl) (fun _ _ _ h => h) (by kernel_rfl) (Or.inl ⟨rfl, fun w h => by kernel_rfl⟩) (⟨(F1.out.1.see k HK.out).1, (F1.out.1.see k HK.out).2.2.2.1, (F1.out.1.see k HK.out).2.1, (F1.out.1.see k HK.out).2.2.2.2.1, (by have q := (F1.out.1.rW k HK.out).cell j HJ.out; rw [ouW_self] at q; rw [← XV.out]; exact q)⟩) ?_
                simp only [Act.put, List.setIfInBounds_toArray, List.set_cons_zero, List.set_cons_succ]
                refine wpAnyT_take (i := 2) (oi := ⟨some 65, _, _, _, _, _⟩) (v := .pointer (some ⟨r, 0, none⟩)) rfl (by kernel_rfl) (by kernel_rfl) (by kernel_rfl) (fun _ _ _ h => h) (by kernel_rfl) (Or.inl ⟨rfl, fun w h => by kernel_rfl⟩) (⟨(F1.out.1.see k HK.out).1, (F1.out.1.see k HK.out).2.2.2.1, (F1.out.1.see k HK.out).2.1, (F1.out.1.see k HK.out).2.2.2.2.1, (by have q := (F1.out.1.rW k HK.out).cell j HJ.out; rw [ouW_self] at q; rw [← XV.out]; exact q)⟩) ?_
                simp only [Act.put, List.setIfInBounds_toArray, List.set_cons_zero, List.set_cons_succ]
                refine wpAnyT_take (i := 3) (oi := ⟨some 66, _, _, _, _, _⟩) (v := .slice (some ⟨gN, 0, none⟩) n cN) rfl (by kernel_rfl) (by kernel_rfl) (by kernel_rfl) (fun _ _ _ h => h) (by kernel_rfl) (Or.inl ⟨rfl, fun w h => run_load_one _ _ _ 56 _ _ rfl (r) (0) rfl (h.1) (by kernel_rfl)⟩) (⟨(F1.out.1.see k HK.out).1, (F1.out.1.see k HK.out).2.2.2.1, (F1.out.1.see k HK.out).2.1, (F1.out.1.see k HK.out).2.2.2.2.1, (by have q := (F1.out.1.rW k HK.out).cell j HJ.out; rw [ouW_self] at q; rw [← XV.out]; exact q)⟩) ?_
                simp only [Act.put, List.setIfInBounds_toArray, List.set_cons_zero, List.set_cons_succ]
                refine wpAnyT_take (i := 4) (oi := ⟨some 67, _, _, _, _, _⟩) (v := .int .i64 (k : Int)) rfl (by kernel_rfl) (by kernel_rfl) (by kernel_rfl) (fun _ _ _ h => h) (by kernel_rfl) (Or.inl ⟨rfl, fun w h => by kernel_rfl⟩) (⟨(F1.out.1.see k HK.out).1, (F1.out.1.see k HK.out).2.2.2.1, (F1.out.1.see k HK.out).2.1, (F1.out.1.see k HK.out).2.2.2.2.1, (by have q := (F1.out.1.rW k HK.out).cell j HJ.out; rw [ouW_self] at q; rw [← XV.out]; exact q)⟩) ?_
                simp only [Act.put, List.setIfInBounds_toArray, List.set_cons_zero, List.set_cons_succ]
                refine wpAnyT_take (i := 5) (oi := ⟨some 68, _, _, _, _, _⟩) (v := .pointer (some ⟨gN, k, none⟩)) rfl (by kernel_rfl) (by kernel_rfl) (by kernel_rfl) (fun _ _ _ h => h) (by kernel_rfl) (Or.inl ⟨rfl, fun w h => run_idx56' _ _ w _ _ _ gN n cN k rfl rfl rfl rfl HK.out (by have := HN.out; unfold maxLen; omega)⟩) (⟨(F1.out.1.see k HK.out).1, (F1.out.1.see k HK.out).2.2.2.1, (F1.out.1.see k HK.out).2.1, (F1.out.1.see k HK.out).2.2.2.2.1, (by have q := (F1.out.1.rW k HK.out).cell j HJ.out; rw [ouW_self] at q; rw [← XV.out]; exact q)⟩) ?_
                simp only [Act.put, List.setIfInBounds_toArray, List.set_cons_zero, List.set_cons_succ]
                refine wpAnyT_take (i := 6) (oi := ⟨some 69, _, _, _, _, _⟩) (v := .slice (some ⟨pN k, 0, none⟩) 64 (kN k)) rfl (by kernel_rfl) (by kernel_rfl) (by kernel_rfl) (fun _ _ _ h => h) (by kernel_rfl) (Or.inl ⟨rfl, fun w h => run_load_one _ _ _ 22 _ _ rfl (gN) (k) rfl (h.2.1) (by kernel_rfl)⟩) (⟨(F1.out.1.see k HK.out).1, (F1.out.1.see k HK.out).2.2.2.1, (F1.out.1.see k HK.out).2.1, (F1.out.1.see k HK.out).2.2.2.2.1, (by have q := (F1.out.1.rW k HK.out).cell j HJ.out; rw [ouW_self] at q; rw [← XV.out]; exact q)⟩) ?_
                simp only [Act.put, List.setIfInBounds_toArray, List.set_cons_zero, List.set_cons_succ]
                refine wpAnyT_take (i := 7) (oi := ⟨some 70, _, _, _, _, _⟩) (v := .int .i64 (j : Int)) rfl (by kernel_rfl) (by kernel_rfl) (by kernel_rfl) (fun _ _ _ h => h) (by kernel_rfl) (Or.inl ⟨rfl, fun w h => by kernel_rfl⟩) (⟨(F1.out.1.see k HK.out).1, (F1.out.1.see k HK.out).2.2.2.1, (F1.out.1.see k HK.out).2.1, (F1.out.1.see k HK.out).2.2.2.2.1, (by have q := (F1.out.1.rW k HK.out).cell j HJ.out; rw [ouW_self] at q; rw [← XV.out]; exact q)⟩) ?_
                simp only [Act.put, List.setIfInBounds_toArray, List.set_cons_zero, List.set_cons_succ]
                refine wpAnyT_take (i := 8) (oi := ⟨some 71, _, _, _, _, _⟩) (v := .pointer (some ⟨r, 0, none⟩)) rfl (by kernel_rfl) (by kernel_rfl) (by kernel_rfl) (fun _ _ _ h => h) (by kernel_rfl) (Or.inl ⟨rfl, fun w h => by kernel_rfl⟩) (⟨(F1.out.1.see k HK.out).1, (F1.out.1.see k HK.out).2.2.2.1, (F1.out.1.see k HK.out).2.1, (F1.out.1.see k HK.out).2.2.2.2.1, (by have q := (F1.out.1.rW k HK.out).cell j HJ.out; rw [ouW_self] at q; rw [← XV.out]; exact q)⟩) ?_
                simp only [Act.put, List.setIfInBounds_toArray, List.set_cons_zero, List.set_cons_succ]
                refine wpAnyT_take (i := 9) (oi := ⟨some 72, _, _, _, _, _⟩) (v := .pointer (some ⟨r, 0, none⟩)) rfl (by kernel_rfl) (by kernel_rfl) (by kernel_rfl) (fun _ _ _ h => h) (by kernel_rfl) (Or.inl ⟨rfl, fun w h => by kernel_rfl⟩) (⟨(F1.out.1.see k HK.out).1, (F1.out.1.see k HK.out).2.2.2.1, (F1.out.1.see k HK.out).2.1, (F1.out.1.see k HK.out).2.2.2.2.1, (by have q := (F1.out.1.rW k HK.out).cell j HJ.out; rw [ouW_self] at q; rw [← XV.out]; exact q)⟩) ?_
                simp only [Act.put, List.setIfInBounds_toArray, List.set_cons_zero, List.set_cons_succ]
                refine wpAnyT_take (i := 10) (oi := ⟨some 73, _, _, _, _, _⟩) (v := .pointer (some ⟨r, 1, none⟩)) rfl (by kernel_rfl) (by kernel_rfl) (by kernel_rfl) (fun _ _ _ h => h) (by kernel_rfl) (Or.inl ⟨rfl, fun w h => by kernel_rfl⟩) (⟨(F1.out.1.see k HK.out).1, (F1.out.1.see k HK.out).2.2.2.1, (F1.out.1.see k HK.out).2.1, (F1.out.1.see k HK.out).2.2.2.2.1, (by have q := (F1.out.1.rW k HK.out).cell j HJ.out; rw [ouW_self] at q; rw [← XV.out]; exact q)⟩) ?_
                simp only [Act.put, List.setIfInBounds_toArray, List.set_cons_zero, List.set_cons_succ]
                refine wpAnyT_take (i := 11) (oi := ⟨some 74, _, _, _, _, _⟩) (v := .slice (some ⟨gW, 0, none⟩) n cW) rfl (by kernel_rfl) (by kernel_rfl) (by kernel_rfl) (fun _ _ _ h => h) (by kernel_rfl) (Or.inl ⟨rfl, fun w h => run_load_one _ _ _ 56 _ _ rfl (r) (1) rfl (h.2.2.1) (by kernel_rfl)⟩) (⟨(F1.out.1.see k HK.out).1, (F1.out.1.see k HK.out).2.2.2.1, (F1.out.1.see k HK.out).2.1, (F1.out.1.see k HK.out).2.2.2.2.1, (by have q := (F1.out.1.rW k HK.out).cell j HJ.out; rw [ouW_self] at q; rw [← XV.out]; exact q)⟩) ?_
                simp only [Act.put, List.setIfInBounds_toArray, List.set_cons_zero, List.set_cons_succ]
                refine wpAnyT_take (i := 12) (oi := ⟨some 75, _, _, _, _, _⟩) (v := .int .i64 (k : Int)) rfl (by kernel_rfl) (by kernel_rfl) (by kernel_rfl) (fun _ _ _ h => h) (by kernel_rfl) (Or.inl ⟨rfl, fun w h => by kernel_rfl⟩) (⟨(F1.out.1.see k HK.out).1, (F1.out.1.see k HK.out).2.2.2.1, (F1.out.1.see k HK.out).2.1, (F1.out.1.see k HK.out).2.2.2.2.1, (by have q := (F1.out.1.rW k HK.out).cell j HJ.out; rw [ouW_self] at q; rw [← XV.out]; exact q)⟩) ?_
                simp only [Act.put, List.setIfInBounds_toArray, List.set_cons_zero, List.set_cons_succ]
                refine wpAnyT_take (i := 13) (oi := ⟨some 76, _, _, _, _, _⟩) (v := .pointer (some ⟨gW, k, none⟩)) rfl (by kernel_rfl) (by kernel_rfl) (by kernel_rfl) (fun _ _ _ h => h) (by kernel_rfl) (Or.inl ⟨rfl, fun w h => run_idx56' _ _ w _ _ _ gW n cW k rfl rfl rfl rfl HK.out (by have := HN.out; unfold maxLen; omega)⟩) (⟨(F1.out.1.see k HK.out).1, (F1.out.1.see k HK.out).2.2.2.1, (F1.out.1.see k HK.out).2.1, (F1.out.1.see k HK.out).2.2.2.2.1, (by have q := (F1.out.1.rW k HK.out).cell j HJ.out; rw [ouW_self] at q; rw [← XV.out]; exact q)⟩) ?_
                simp only [Act.put, List.setIfInBounds_toArray, List.set_cons_zero, List.set_cons_succ]
                refine wpAnyT_take (i := 14) (oi := ⟨some 77, _, _, _, _, _⟩) (v := .slice (some ⟨pW k, 0, none⟩) 64 (kW k)) rfl (by kernel_rfl) (by kernel_rfl) (by kernel_rfl) (fun _ _ _ h => h) (by kernel_rfl) (Or.inl ⟨rfl, fun w h => run_load_one _ _ _ 22 _ _ rfl (gW) (k) rfl (h.2.2.2.1) (by kernel_rfl)⟩) (⟨(F1.out.1.see k HK.out).1, (F1.out.1.see k HK.out).2.2.2.1, (F1.out.1.see k HK.out).2.1, (F1.out.1.see k HK.out).2.2.2.2.1, (by have q := (F1.out.1.rW k HK.out).cell j HJ.out; rw [ouW_self] at q; rw [← XV.out]; exact q)⟩) ?_
                simp only [Act.put, List.setIfInBounds_toArray, List.set_cons_zero, List.set_cons_succ]
                refine wpAnyT_take (i := 15) (oi := ⟨some 78, _, _, _, _, _⟩) (v := .int .i64 (j : Int)) rfl (by kernel_rfl) (by kernel_rfl) (by kernel_rfl) (fun _ _ _ h => h) (by kernel_rfl) (Or.inl ⟨rfl, fun w h => by kernel_rfl⟩) (⟨(F1.out.1.see k HK.out).1, (F1.out.1.see k HK.out).2.2.2.1, (F1.out.1.see k HK.out).2.1, (F1.out.1.see k HK.out).2.2.2.2.1, (by have q := (F1.out.1.rW k HK.out).cell j HJ.out; rw [ouW_self] at q; rw [← XV.out]; exact q)⟩) ?_
                simp only [Act.put, List.setIfInBounds_toArray, List.set_cons_zero, List.set_cons_succ]
                refine wpAnyT_take (i := 16) (oi := ⟨some 79, _, _, _, _, _⟩) (v := .pointer (some ⟨pW k, j, none⟩)) rfl (by kernel_rfl) (by kernel_rfl) (by kernel_rfl) (fun _ _ _ h => h) (by kernel_rfl) (Or.inl ⟨rfl, fun w h => run_idx0 _ _ w _ _ _ (pW k) 64 _ j rfl rfl rfl rfl HJ.out (by decide)⟩) (⟨(F1.out.1.see k HK.out).1, (F1.out.1.see k HK.out).2.2.2.1, (F1.out.1.see k HK.out).2.1, (F1.out.1.see k HK.out).2.2.2.2.1, (by have q := (F1.out.1.rW k HK.out).cell j HJ.out; rw [ouW_self] at q; rw [← XV.out]; exact q)⟩) ?_
                simp only [Act.put, List.setIfInBounds_toArray, List.set_cons_zero, List.set_cons_succ]
                refine wpAnyT_take (i := 17) (oi := ⟨some 80, _, _, _, _, _⟩) (v := .int .u8 x) rfl (by kernel_rfl) (by kernel_rfl) (by kernel_rfl) (fun _ _ _ h => h) (by kernel_rfl) (Or.inl ⟨rfl, fun w h => run_load_one _ _ _ 5 _ _ rfl (pW k) (j) rfl (h.2.2.2.2) (by kernel_rfl)⟩) (⟨(F1.out.1.see k HK.out).1, (F1.out.1.see k HK.out).2.2.2.1, (F1.out.1.see k HK.out).2.1, (F1.out.1.see k HK.out).2.2.2.2.1, (by have q := (F1.out.1.rW k HK.out).cell j HJ.out; rw [ouW_self] at q; rw [← XV.out]; exact q)⟩) ?_
                simp only [Act.put, List.setIfInBounds_toArray, List.set_cons_zero, List.set_cons_succ]
                refine wpAnyT_take (i := 18) (oi := ⟨some 81, _, _, _, _, _⟩) (v := .pointer (some ⟨pN k, j, none⟩)) rfl (by kernel_rfl) (by kernel_rfl) (by kernel_rfl) (fun _ _ _ h => h) (by kernel_rfl) (Or.inl ⟨rfl, fun w h => run_idx0 _ _ w _ _ _ (pN k) 64 _ j rfl rfl rfl rfl HJ.out (by decide)⟩) (⟨(F1.out.1.see k HK.out).1, (F1.out.1.see k HK.out).2.2.2.1, (F1.out.1.see k HK.out).2.1, (F1.out.1.see k HK.out).2.2.2.2.1, (by have q := (F1.out.1.rW k HK.out).cell j HJ.out; rw [ouW_self] at q; rw [← XV.out]; exact q)⟩) ?_
                simp only [Act.put, List.setIfInBounds_toArray, List.set_cons_zero, List.set_cons_succ]
                refine wpAnyT_one (i := 19) (by kernel_rfl) ?_
                obtain ⟨W3, hW3⟩ : ∃ V, V = wr.drew.setCell ⟨pN k, j, none⟩ (.int .u8 x) := ⟨_, rfl⟩
                have RN := F1.out.1.rN k HK.out
                have F4 : Hid (RSD W3 base n ⟨r, gN, gW, gI, cN, cW, cI, some ⟨gN, 0, none⟩, some ⟨gW, 0, none⟩, some ⟨gI, 0, none⟩, pN, kN, pW, kW⟩ (upF (ouN F N W I k) k (inP (W k) (N k) kf (j + 1))) (ouW F N W I k) (syI I k) fz go ∧ FR base w W3) := Lib.hid (by rw [hW3]; exact ⟨by have q := (F1.out.1.below (Below.drew (Below.refl _ _))).putB k HK.out j x XB.out; rw [upF_upF, upF_same, ← XV.out, ← inP_put HST.out] at q; rw [← XV.out]; exact q, F1.out.2.drewR.set (F1.out.1.base2 k HK.out).1 (RTg.bp RN (by decide)) _ _⟩)
                refine op_skip (o := ⟨none, _, _, _, _, _⟩) W3 rfl rfl (by rw [hW3]; exact run_store_one _ _ _ 5 _ _ rfl (pN k) j rfl _ rfl rfl size5 (by rw [show wr.drew.cell? ⟨pN k, j, none⟩ = wr.cell? ⟨pN k, j, none⟩ from rfl, RN.cell j HJ.out]; rfl) (RN.free j)) ?_
                refine ⟨fun _ => ⟨(F4.out.1.see k HK.out).1, (F4.out.1.see k HK.out).2.2.2.1, (F4.out.1.see k HK.out).2.1, (F4.out.1.see k HK.out).2.2.2.2.1, (by have q := (F4.out.1.rW k HK.out).cell j HJ.out; rw [ouW_self] at q; rw [← XV.out]; exact q)⟩, ?_⟩
                simp only [Act.put, List.setIfInBounds_toArray, List.set_cons_zero, List.set_cons_succ]
                clear hW3 RN
                refine wpAnyT_done (by kernel_rfl) ?_ _
                go_upto_region 11 with (fail)
                refine wp_region_lit ?_
                refine wpL_pure (.int .i64 (j : Int)) rfl (by kernel_rfl) ?_
                simp only [Act.put, List.setIfInBounds_toArray, List.set_cons_zero, List.set_cons_succ]
                refine wpL_pure (.int .i64 ((j + 1 : Nat) : Int)) rfl (run_addi Try.underlying3 rfl rfl rfl _ (by have := HJ.out; rw [wrap_in _ (by omega) (by omega)]; omega)) ?_
                simp only [Act.put, List.setIfInBounds_toArray, List.set_cons_zero, List.set_cons_succ]
                refine wpL_pure (.int .i64 ((j + 1 : Nat) : Int)) rfl (by kernel_rfl) ?_
                simp only [Act.put, List.setIfInBounds_toArray, List.set_cons_zero, List.set_cons_succ]
                have NX : Hid (j + 1 ≤ 64 ∧ RS W3 base r n (upF (ouN F N W I k) k (inP (W k) (N k) kf (j + 1))) (ouW F N W I k) (syI I k) fz go ∧ FR base w W3) := Lib.hid ⟨HJ.out, ⟨_, rfl, F4.out.1⟩, F4.out.2⟩
                unfold wpList
                go_roundw
                case rel => first | exact ⟨j + 1, rfl, NX⟩ | ((repeat apply Exists.intro); exact ⟨⟨j + 1, rfl, NX⟩, rfl⟩)
                case measure => simp [intOf]; have := HJ.out; omega
          · have HJ := Lib.hid hj
            clear hj
            go_upto_region 10 with (fail)
            refine wp_region_lit ?_
            refine wpL_pure (.int .i64 (j : Int)) rfl (by kernel_rfl) ?_
            simp only [Act.put, List.setIfInBounds_toArray, List.set_cons_zero, List.set_cons_succ]
            refine wpL_pure (.bool false) rfl (run_lti Try.underlying3 rfl rfl rfl (by have := HJ.out; rw [decide_eq_false_iff_not]; omega)) ?_
            simp only [Act.put, List.setIfInBounds_toArray, List.set_cons_zero, List.set_cons_succ]
            have EJ : j = 64 := by have := RJ.out.1; have := HJ.out; omega
            have F5 : Hid (RSD wr base n ⟨r, gN, gW, gI, cN, cW, cI, some ⟨gN, 0, none⟩, some ⟨gW, 0, none⟩, some ⟨gI, 0, none⟩, pN, kN, pW, kW⟩ (ouN F N W I (k + 1)) (ouW F N W I k) (syI I k) fz go ∧ FR base w wr) := Lib.hid (by rw [ouN_next ZI.out, CC.out, KF.out.1, ← EJ]; exact F1.out)
            clear F1 RJ EJ
            have F1 := F5
            clear F5
            go_upto_region 15 with (fail)
            refine region_anyT (fun X => X.cell? ⟨r, 0, none⟩ = some (.slice (some ⟨gN, 0, none⟩) n cN) ∧ X.cell? ⟨r, 1, none⟩ = some (.slice (some ⟨gW, 0, none⟩) n cW) ∧ X.cell? ⟨gN, k, none⟩ = some (.slice (some ⟨pN k, 0, none⟩) 64 (kN k))) (by kernel_rfl) 16 16 rfl ?_
            refine wpAnyT_take (i := 0) (oi := ⟨some 82, _, _, _, _, _⟩) (v := .pointer (some ⟨r, 0, none⟩)) rfl (by kernel_rfl) (by kernel_rfl) (by kernel_rfl) (fun _ _ _ h => h) (by kernel_rfl) (Or.inl ⟨rfl, fun w h => by kernel_rfl⟩) (⟨(F1.out.1.see k HK.out).1, (F1.out.1.see k HK.out).2.1, (F1.out.1.see k HK.out).2.2.2.1⟩) ?_
            simp only [Act.put, List.setIfInBounds_toArray, List.set_cons_zero, List.set_cons_succ]
            refine wpAnyT_take (i := 1) (oi := ⟨some 83, _, _, _, _, _⟩) (v := .pointer (some ⟨r, 0, none⟩)) rfl (by kernel_rfl) (by kernel_rfl) (by kernel_rfl) (fun _ _ _ h => h) (by kernel_rfl) (Or.inl ⟨rfl, fun w h => by kernel_rfl⟩) (⟨(F1.out.1.see k HK.out).1, (F1.out.1.see k HK.out).2.1, (F1.out.1.see k HK.out).2.2.2.1⟩) ?_
            simp only [Act.put, List.setIfInBounds_toArray, List.set_cons_zero, List.set_cons_succ]
            refine wpAnyT_take (i := 2) (oi := ⟨some 84, _, _, _, _, _⟩) (v := .pointer (some ⟨r, 1, none⟩)) rfl (by kernel_rfl) (by kernel_rfl) (by kernel_rfl) (fun _ _ _ h => h) (by kernel_rfl) (Or.inl ⟨rfl, fun w h => by kernel_rfl⟩) (⟨(F1.out.1.see k HK.out).1, (F1.out.1.see k HK.out).2.1, (F1.out.1.see k HK.out).2.2.2.1⟩) ?_
            simp only [Act.put, List.setIfInBounds_toArray, List.set_cons_zero, List.set_cons_succ]
            refine wpAnyT_take (i := 3) (oi := ⟨some 85, _, _, _, _, _⟩) (v := .slice (some ⟨gW, 0, none⟩) n cW) rfl (by kernel_rfl) (by kernel_rfl) (by kernel_rfl) (fun _ _ _ h => h) (by kernel_rfl) (Or.inl ⟨rfl, fun w h => run_load_one _ _ _ 56 _ _ rfl (r) (1) rfl (h.2.1) (by kernel_rfl)⟩) (⟨(F1.out.1.see k HK.out).1, (F1.out.1.see k HK.out).2.1, (F1.out.1.see k HK.out).2.2.2.1⟩) ?_
            simp only [Act.put, List.setIfInBounds_toArray, List.set_cons_zero, List.set_cons_succ]
            refine wpAnyT_take (i := 4) (oi := ⟨some 86, _, _, _, _, _⟩) (v := .int .i64 (k : Int)) rfl (by kernel_rfl) (by kernel_rfl) (by kernel_rfl) (fun _ _ _ h => h) (by kernel_rfl) (Or.inl ⟨rfl, fun w h => by kernel_rfl⟩) (⟨(F1.out.1.see k HK.out).1, (F1.out.1.see k HK.out).2.1, (F1.out.1.see k HK.out).2.2.2.1⟩) ?_
            simp only [Act.put, List.setIfInBounds_toArray, List.set_cons_zero, List.set_cons_succ]
            refine wpAnyT_take (i := 6) (oi := ⟨some 88, _, _, _, _, _⟩) (v := .pointer (some ⟨r, 0, none⟩)) rfl (by kernel_rfl) (by kernel_rfl) (by kernel_rfl) (fun _ _ _ h => h) (by kernel_rfl) (Or.inl ⟨rfl, fun w h => by kernel_rfl⟩) (⟨(F1.out.1.see k HK.out).1, (F1.out.1.see k HK.out).2.1, (F1.out.1.see k HK.out).2.2.2.1⟩) ?_
            simp only [Act.put, List.setIfInBounds_toArray, List.set_cons_zero, List.set_cons_succ]
            refine wpAnyT_take (i := 7) (oi := ⟨some 89, _, _, _, _, _⟩) (v := .pointer (some ⟨r, 0, none⟩)) rfl (by kernel_rfl) (by kernel_rfl) (by kernel_rfl) (fun _ _ _ h => h) (by kernel_rfl) (Or.inl ⟨rfl, fun w h => by kernel_rfl⟩) (⟨(F1.out.1.see k HK.out).1, (F1.out.1.see k HK.out).2.1, (F1.out.1.see k HK.out).2.2.2.1⟩) ?_
            simp only [Act.put, List.setIfInBounds_toArray, List.set_cons_zero, List.set_cons_succ]
            refine wpAnyT_take (i := 8) (oi := ⟨some 90, _, _, _, _, _⟩) (v := .pointer (some ⟨r, 0, none⟩)) rfl (by kernel_rfl) (by kernel_rfl) (by kernel_rfl) (fun _ _ _ h => h) (by kernel_rfl) (Or.inl ⟨rfl, fun w h => by kernel_rfl⟩) (⟨(F1.out.1.see k HK.out).1, (F1.out.1.see k HK.out).2.1, (F1.out.1.see k HK.out).2.2.2.1⟩) ?_
            simp only [Act.put, List.setIfInBounds_toArray, List.set_cons_zero, List.set_cons_succ]
            refine wpAnyT_take (i := 9) (oi := ⟨some 91, _, _, _, _, _⟩) (v := .slice (some ⟨gN, 0, none⟩) n cN) rfl (by kernel_rfl) (by kernel_rfl) (by kernel_rfl) (fun _ _ _ h => h) (by kernel_rfl) (Or.inl ⟨rfl, fun w h => run_load_one _ _ _ 56 _ _ rfl (r) (0) rfl (h.1) (by kernel_rfl)⟩) (⟨(F1.out.1.see k HK.out).1, (F1.out.1.see k HK.out).2.1, (F1.out.1.see k HK.out).2.2.2.1⟩) ?_
            simp only [Act.put, List.setIfInBounds_toArray, List.set_cons_zero, List.set_cons_succ]
            refine wpAnyT_take (i := 10) (oi := ⟨some 92, _, _, _, _, _⟩) (v := .int .i64 (k : Int)) rfl (by kernel_rfl) (by kernel_rfl) (by kernel_rfl) (fun _ _ _ h => h) (by kernel_rfl) (Or.inl ⟨rfl, fun w h => by kernel_rfl⟩) (⟨(F1.out.1.see k HK.out).1, (F1.out.1.see k HK.out).2.1, (F1.out.1.see k HK.out).2.2.2.1⟩) ?_
            simp only [Act.put, List.setIfInBounds_toArray, List.set_cons_zero, List.set_cons_succ]
            refine wpAnyT_take (i := 11) (oi := ⟨some 93, _, _, _, _, _⟩) (v := .pointer (some ⟨gN, k, none⟩)) rfl (by kernel_rfl) (by kernel_rfl) (by kernel_rfl) (fun _ _ _ h => h) (by kernel_rfl) (Or.inl ⟨rfl, fun w h => run_idx56' _ _ w _ _ _ gN n cN k rfl rfl rfl rfl HK.out (by have := HN.out; unfold maxLen; omega)⟩) (⟨(F1.out.1.see k HK.out).1, (F1.out.1.see k HK.out).2.1, (F1.out.1.see k HK.out).2.2.2.1⟩) ?_
            simp only [Act.put, List.setIfInBounds_toArray, List.set_cons_zero, List.set_cons_succ]
            refine wpAnyT_take (i := 12) (oi := ⟨some 94, _, _, _, _, _⟩) (v := .slice (some ⟨pN k, 0, none⟩) 64 (kN k)) rfl (by kernel_rfl) (by kernel_rfl) (by kernel_rfl) (fun _ _ _ h => h) (by kernel_rfl) (Or.inl ⟨rfl, fun w h => run_load_one _ _ _ 22 _ _ rfl (gN) (k) rfl (h.2.2) (by kernel_rfl)⟩) (⟨(F1.out.1.see k HK.out).1, (F1.out.1.see k HK.out).2.1, (F1.out.1.see k HK.out).2.2.2.1⟩) ?_
            simp only [Act.put, List.setIfInBounds_toArray, List.set_cons_zero, List.set_cons_succ]
            refine wpAnyT_one (i := 5) (by kernel_rfl) ?_
            obtain ⟨W1, hW1⟩ : ∃ V, V = wr.drew.alloc (.cells #[] 5) := ⟨_, rfl⟩
            obtain ⟨g1, hg1⟩ : ∃ q, wr.drew.heap.size = q := ⟨_, rfl⟩
            have A0 : Below wr.heap.size wr W1 := by rw [hW1]; exact ((Below.refl _ _).drew).alloc (Nat.le_refl _) _
            have F2 : Hid (RSD W1 base n ⟨r, gN, gW, gI, cN, cW, cI, some ⟨gN, 0, none⟩, some ⟨gW, 0, none⟩, some ⟨gI, 0, none⟩, pN, kN, pW, kW⟩ (ouN F N W I (k + 1)) (ouW F N W I k) (syI I k) fz go ∧ Own W1 g1 (.slice (some ⟨g1, 0, none⟩) 0 0) [] ∧ Below wr.heap.size wr W1 ∧ wr.heap.size = g1) := Lib.hid ⟨F1.out.1.below A0, ⟨by rw [hW1, ← hg1]; exact World.ownsRow_lit wr.drew #[] 0 (Nat.le_refl _) (by simp [maxLen]) rfl, by simp⟩, A0, hg1⟩
            clear A0
            refine op_valw (o := ⟨some 87, _, _, _, _, _⟩) (.slice (some ⟨g1, 0, none⟩) 0 0) W1 rfl rfl (by rw [hW1, ← hg1]; kernel_rfl) ?_
            refine ⟨fun _ => ⟨(F2.out.1.see k HK.out).1, (F2.out.1.see k HK.out).2.1, (F2.out.1.see k HK.out).2.2.2.1⟩, ?_⟩
            simp only [Act.put, List.setIfInBounds_toArray, List.set_cons_zero, List.set_cons_succ]
            clear hW1 hg1
            refine wpAnyT_one (i := 13) (by kernel_rfl) ?_
            have ON : Hid (SOk ((ouN F N W I (k + 1)) k)) := Lib.hid (F2.out.1.oN k HK.out)
            obtain ⟨v2, W2, r1, r2, r3, r4, _⟩ := append_own W1 g1 (.slice (some ⟨g1, 0, none⟩) 0 0) [] ((ouN F N W I (k + 1)) k) _ 64 (kN k) F2.out.2.1 ((F2.out.1.rN k HK.out).row ON.out) (by simp) (by rw [← F2.out.2.2.2]; exact F2.out.2.2.1.size)
            have R1 := Lib.hid r1
            rw [List.nil_append] at r2
            have A0 : Below wr.heap.size wr W2 := F2.out.2.2.1.grown r3 F2.out.2.2.1.size (fun j hj => by have e := F2.out.2.2.2; simp [Value.ownBlock] at hj; omega)
            obtain ⟨g2, c2, e2, q1, q2, q3⟩ := own_bp r2 ON.out
            have F3 : Hid (RSD W2 base n ⟨r, gN, gW, gI, cN, cW, cI, some ⟨gN, 0, none⟩, some ⟨gW, 0, none⟩, some ⟨gI, 0, none⟩, pN, kN, pW, kW⟩ (ouN F N W I (k + 1)) (ouW F N W I k) (syI I k) fz go ∧ FR base w W2 ∧ BP W2 g2 5 64 (rowF ((ouN F N W I (k + 1)) k)) ∧ (64 ≤ c2 ∧ c2 ≤ maxLen) ∧ base ≤ g2 ∧ (∀ j, j < n → g2 ≠ pN j ∧ g2 ≠ pW j)) := Lib.hid ⟨F1.out.1.below A0, F1.out.2.trans (FR.of A0), q1, q3, by have e := F2.out.2.2.2; have := F1.out.2.2.2.2.1; have := HB.out; omega, fun j hj => by have e := F2.out.2.2.2; have := (F1.out.1.rN j hj).lt; have := (F1.out.1.rW j hj).lt; simp only at *; omega⟩
            subst e2
            clear r1 r2 r3 r4 q1 q2 q3 A0
            refine op_valw (o := ⟨some 95, _, _, _, _, _⟩) (.slice (some ⟨g2, 0, none⟩) 64 c2) W2 rfl rfl (run_app _ _ _ _ _ _ _ _ _ rfl rfl rfl rfl R1.out) ?_
            refine ⟨fun _ => ⟨(F3.out.1.see k HK.out).1, (F3.out.1.see k HK.out).2.1, (F3.out.1.see k HK.out).2.2.2.1⟩, ?_⟩
            simp only [Act.put, List.setIfInBounds_toArray, List.set_cons_zero, List.set_cons_succ]
            clear R1 F2 F1
            refine wpAnyT_take (i := 14) (oi := ⟨some 96, _, _, _, _, _⟩) (v := .pointer (some ⟨gW, k, none⟩)) rfl (by kernel_rfl) (by kernel_rfl) (by kernel_rfl) (fun _ _ _ h => h) (by kernel_rfl) (Or.inl ⟨rfl, fun w h => run_idx56' _ _ w _ _ _ gW n cW k rfl rfl rfl rfl HK.out (by have := HN.out; unfold maxLen; omega)⟩) (⟨(F3.out.1.see k HK.out).1, (F3.out.1.see k HK.out).2.1, (F3.out.1.see k HK.out).2.2.2.1⟩) ?_
            simp only [Act.put, List.setIfInBounds_toArray, List.set_cons_zero, List.set_cons_succ]
            refine wpAnyT_one (i := 15) (by kernel_rfl) ?_
            obtain ⟨W3, hW3⟩ : ∃ V, V = W2.setCell ⟨gW, k, none⟩ (.slice (some ⟨g2, 0, none⟩) 64 c2) := ⟨_, rfl⟩
            have F4 : Hid (RSD W3 base n ⟨r, gN, gW, gI, cN, cW, cI, some ⟨gN, 0, none⟩, some ⟨gW, 0, none⟩, some ⟨gI, 0, none⟩, pN, kN, upF pW k g2, upF kW k c2⟩ (ouN F N W I (k + 1)) (upF (ouW F N W I k) k ((ouN F N W I (k + 1)) k)) (syI I k) fz go ∧ FR base w W3) := Lib.hid (by rw [hW3]; exact ⟨F3.out.1.putW k HK.out g2 c2 _ ON.out F3.out.2.2.1 F3.out.2.2.2.1 F3.out.2.2.2.2.1 F3.out.2.2.2.2.2, F3.out.2.1.set (F3.out.1.base1 (by have := HK.out; omega)).2.1 (RTg.bp (F3.out.1.bW (by have := HK.out; omega)) (by decide)) _ _⟩)
            have BN := F3.out.1.bW (by have := HK.out; omega)
            refine op_skip (o := ⟨none, _, _, _, _, _⟩) W3 rfl rfl (by rw [hW3]; exact run_store_one _ _ _ 22 _ _ rfl gW k rfl _ rfl rfl size22 (by rw [BN.cell k HK.out]; rfl) (BN.free k)) ?_
            refine ⟨fun _ => ⟨(F4.out.1.see k HK.out).1, (F4.out.1.see k HK.out).2.1, (F4.out.1.see k HK.out).2.2.2.1⟩, ?_⟩
            simp only [Act.put, List.setIfInBounds_toArray, List.set_cons_zero, List.set_cons_succ]
            clear hW3 F3 BN ON
            refine wpAnyT_done (by kernel_rfl) ?_ _
            go_upto_region 16 with (fail)
            refine wp_region_lit ?_
            refine wpL_pure (.pointer (some ⟨r, 0, none⟩)) rfl (by kernel_rfl) ?_
            simp only [Act.put, List.setIfInBounds_toArray, List.set_cons_zero, List.set_cons_succ]
            refine wpL_pure (.pointer (some ⟨r, 0, none⟩)) rfl (by kernel_rfl) ?_
            simp only [Act.put, List.setIfInBounds_toArray, List.set_cons_zero, List.set_cons_succ]
            refine wpL_pure (.pointer (some ⟨r, 2, none⟩)) rfl (by kernel_rfl) ?_
            simp only [Act.put, List.setIfInBounds_toArray, List.set_cons_zero, List.set_cons_succ]
            refine wpL_pure (.slice (some ⟨gI, 0, none⟩) n cI) rfl (run_load_one _ _ _ 57 _ _ rfl (r) (2) rfl ((F4.out.1.see k HK.out).2.2.1) (by kernel_rfl)) ?_
            simp only [Act.put, List.setIfInBounds_toArray, List.set_cons_zero, List.set_cons_succ]
            refine wpL_pure (.int .i64 (k : Int)) rfl (by kernel_rfl) ?_
            simp only [Act.put, List.setIfInBounds_toArray, List.set_cons_zero, List.set_cons_succ]
            refine wpL_pure (.pointer (some ⟨gI, k, none⟩)) rfl (run_idx57' _ _ _ _ _ _ gI n cI k rfl rfl rfl rfl HK.out (by have := HN.out; unfold maxLen; omega)) ?_
            simp only [Act.put, List.setIfInBounds_toArray, List.set_cons_zero, List.set_cons_succ]
            have BI := Lib.hid (F4.out.1.bI (by have := HK.out; omega))
            simp only at BI
            refine wpL_store_one rfl rfl gI k rfl (.bool false) rfl rfl size4 (by rw [BI.out.cell k HK.out]; rfl) (BI.out.free k) ?_
            simp only [Act.put, List.setIfInBounds_toArray, List.set_cons_zero, List.set_cons_succ]
            obtain ⟨W5, hW5⟩ : ∃ V, V = W3.setCell ⟨gI, k, none⟩ (.bool false) := ⟨_, rfl⟩
            rw [← hW5]
            have F5 : Hid (RSD W5 base n ⟨r, gN, gW, gI, cN, cW, cI, some ⟨gN, 0, none⟩, some ⟨gW, 0, none⟩, some ⟨gI, 0, none⟩, pN, kN, upF pW k g2, upF kW k c2⟩ (ouN F N W I (k + 1)) (upF (ouW F N W I k) k ((ouN F N W I (k + 1)) k)) (upF (syI I k) k false) fz go ∧ FR base w W5) := Lib.hid (by rw [hW5]; exact ⟨F4.out.1.putI k HK.out false, F4.out.2.set (F4.out.1.base1 (by have := HK.out; omega)).2.2 (RTg.bp BI.out (by decide)) _ _⟩)
            clear hW5 F4 BI
            go_upto_region 3 with (fail)
            refine wp_region_lit ?_
            refine wpL_pure (.int .i64 (k : Int)) rfl (by kernel_rfl) ?_
            simp only [Act.put, List.setIfInBounds_toArray, List.set_cons_zero, List.set_cons_succ]
            refine wpL_pure (.int .i64 ((k + 1 : Nat) : Int)) rfl (run_addi Try.underlying3 rfl rfl rfl _ (by have := HK.out; have := HN.out; rw [wrap_in _ (by omega) (by omega)]; omega)) ?_
            simp only [Act.put, List.setIfInBounds_toArray, List.set_cons_zero, List.set_cons_succ]
            refine wpL_pure (.int .i64 ((k + 1 : Nat) : Int)) rfl (by kernel_rfl) ?_
            simp only [Act.put, List.setIfInBounds_toArray, List.set_cons_zero, List.set_cons_succ]
            have EC : cntB I (k + 1) = cc + 1 := by simp [cntB, ZI.out, CC.out]
            have NX : Hid (k + 1 ≤ n ∧ RS W5 base r n (ouN F N W I (k + 1)) (ouW F N W I (k + 1)) (syI I (k + 1)) fz go ∧ FR base w W5) := Lib.hid ⟨HK.out, ⟨_, rfl, by rw [ouW_next ZI.out, ← syI_next]; exact F5.out.1⟩, F5.out.2⟩
            unfold wpList
            go_roundw
            case rel => first | exact ⟨k + 1, by rw [EC], rfl, NX⟩ | ((repeat apply Exists.intro); exact ⟨⟨k + 1, by rw [EC], rfl, NX⟩, rfl⟩)
            case measure => simp [intOf]; have := HK.out; omega
    · have HK := Lib.hid hlt
      clear hlt
      go_upto_region 2 with (fail)
      refine wp_region_lit ?_
      refine wpL_pure (.int .i64 (k : Int)) rfl (by kernel_rfl) ?_
      simp only [Act.put, List.setIfInBounds_toArray, List.set_cons_zero, List.set_cons_succ]
      refine wpL_pure (.pointer (some ⟨r, 0, none⟩)) rfl (by kernel_rfl) ?_
      simp only [Act.put, List.setIfInBounds_toArray, List.set_cons_zero, List.set_cons_succ]
      refine wpL_pure (.pointer (some ⟨r, 0, none⟩)) rfl (by kernel_rfl) ?_
      simp only [Act.put, List.setIfInBounds_toArray, List.set_cons_zero, List.set_cons_succ]
      refine wpL_pure (.pointer (some ⟨r, 0, none⟩)) rfl (by kernel_rfl) ?_
      simp only [Act.put, List.setIfInBounds_toArray, List.set_cons_zero, List.set_cons_succ]
      refine wpL_pure (.slice aN n cN) rfl (run_load_one _ _ _ 56 _ _ rfl (r) (0) rfl (by rw [F1.out.1.cells.cell]; rfl) (by kernel_rfl)) ?_
      simp only [Act.put, List.setIfInBounds_toArray, List.set_cons_zero, List.set_cons_succ]
      refine wpL_pure (.int .i64 (n : Int)) rfl (by kernel_rfl) ?_
      simp only [Act.put, List.setIfInBounds_toArray, List.set_cons_zero, List.set_cons_succ]
      refine wpL_pure (.bool false) rfl (run_lti Try.underlying3 rfl rfl rfl (by have := HK.out; rw [decide_eq_false_iff_not]; omega)) ?_
      simp only [Act.put, List.setIfInBounds_toArray, List.set_cons_zero, List.set_cons_succ]
      go_upto_region 17 with (fail)
      refine wp_region_lit ?_
      refine wpL_pure (.pointer (some ⟨r, 0, none⟩)) rfl (by kernel_rfl) ?_
      simp only [Act.put, List.setIfInBounds_toArray, List.set_cons_zero, List.set_cons_succ]
      refine wpL_pure (.pointer (some ⟨r, 0, none⟩)) rfl (by kernel_rfl) ?_
      simp only [Act.put, List.setIfInBounds_toArray, List.set_cons_zero, List.set_cons_succ]
      refine wpL_pure (.pointer (some ⟨r, 4, none⟩)) rfl (by kernel_rfl) ?_
      simp only [Act.put, List.setIfInBounds_toArray, List.set_cons_zero, List.set_cons_succ]
      have BC := F1.out.1.cells
      refine wpL_store_one rfl rfl (r) (4) rfl (.bool false) rfl rfl size4 (by rw [BC.cell]; rfl) (BC.free 4) ?_
      obtain ⟨w3, hw3⟩ : ∃ V, V = wr.setCell ⟨r, 4, none⟩ (.bool false) := ⟨_, rfl⟩
      rw [← hw3]
      have F3 : Hid (RSD w3 base n ⟨r, gN, gW, gI, cN, cW, cI, aN, aW, aI, pN, kN, pW, kW⟩ (ouN F N W I k) (ouW F N W I k) (syI I k) fz false ∧ FR base w w3) := Lib.hid (by rw [hw3]; exact ⟨F1.out.1.setRec (gb_set (gb_refl _ _) _ _) (RL.setGone BC false) F1.out.1.fuse, F1.out.2.set F1.out.1.base0 (RTg.blk BC (by decide)) _ _⟩)
      clear hw3 BC F1
      go_upto_region 18 with (fail)
      refine wp_region_lit ?_
      refine wpL_pure (.pointer (some ⟨r, 0, none⟩)) rfl (by kernel_rfl) ?_
      simp only [Act.put, List.setIfInBounds_toArray, List.set_cons_zero, List.set_cons_succ]
      refine wpL_pure (.pointer (some ⟨r, 0, none⟩)) rfl (by kernel_rfl) ?_
      simp only [Act.put, List.setIfInBounds_toArray, List.set_cons_zero, List.set_cons_succ]
      refine wpL_pure (.pointer (some ⟨r, 3, none⟩)) rfl (by kernel_rfl) ?_
      simp only [Act.put, List.setIfInBounds_toArray, List.set_cons_zero, List.set_cons_succ]
      have BC := F3.out.1.cells
      refine wpL_store_one rfl rfl (r) (3) rfl (.int .i64 (-1)) rfl rfl size3 (by rw [BC.cell]; rfl) (BC.free 3) ?_
      obtain ⟨w4, hw4⟩ : ∃ V, V = w3.setCell ⟨r, 3, none⟩ (.int .i64 (-1)) := ⟨_, rfl⟩
      rw [← hw4]
      have F4 : Hid (RSD w4 base n ⟨r, gN, gW, gI, cN, cW, cI, aN, aW, aI, pN, kN, pW, kW⟩ (ouN F N W I k) (ouW F N W I k) (syI I k) (-1) false ∧ FR base w w4) := Lib.hid (by rw [hw4]; exact ⟨F3.out.1.setRec (gb_set (gb_refl _ _) _ _) (RL.setFuse BC (-1)) (by omega), F3.out.2.set F3.out.1.base0 (RTg.blk BC (by decide)) _ _⟩)
      clear hw4 BC F3
      go_wp2_with fail
      refine bodyPost_end (results_none rfl _ _ _) rfl ?_
      have EK : k = n := by have := RI.out.1; have := HK.out; omega
      exact ⟨rfl, ⟨_, rfl, F4.out.1.ext (fun j hj => by simp [ouN, show j < k by omega]) (fun j hj => by simp [ouW, show j < k by omega]) (fun j hj => by simp [syI, show j < k by omega])⟩, F4.out.2⟩
theorem refcrash (w : World) (base n : Nat) (D : RD) (N W : Nat → List Int) (I : Nat → Bool) (fz : Int) (go : Bool) (h : RSD w base n D N W I fz go) (hb : base ≤ w.heap.size) (a : Option Addr) (q cx : Nat) (F : List Int) (hr : Row w a q F) (ng : 0 < q → ∀ p, a = some p → p.block < base) :
    Calls Try.prog 28 #[.pointer (some ⟨D.r, 0, none⟩), .slice a q cx] w fun e w' => RCPost base D.r n F N W I w e w' := by
  rcases Nat.eq_zero_or_pos q with hq | hq
  · exact refcrash0 w base n D N W I fz go h hb a q cx F hr hq
  · exact refcrash1 w base n D N W I fz go h hb a q cx F hr hq ng
end Go.Proofs.Yticjpjbmjnalhaa
