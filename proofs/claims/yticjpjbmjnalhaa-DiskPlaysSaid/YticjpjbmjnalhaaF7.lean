/- The reference's Sync. -/
import Derived.Test.YticjpjbmjnalhaaF6
namespace Go.Proofs.Yticjpjbmjnalhaa
open Go Go.RowKit
set_option maxRecDepth 100000
theorem RSD.see {w : World} {base n r gN gW gI cN cW cI : Nat} {pN kN pW kW : Nat → Nat} {N W : Nat → List Int} {I : Nat → Bool} {fz : Int} {go : Bool} (h : RSD w base n ⟨r, gN, gW, gI, cN, cW, cI, some ⟨gN, 0, none⟩, some ⟨gW, 0, none⟩, some ⟨gI, 0, none⟩, pN, kN, pW, kW⟩ N W I fz go) (k : Nat) (hk : k < n) :
    w.cell? ⟨r, 0, none⟩ = some (.slice (some ⟨gN, 0, none⟩) n cN) ∧ w.cell? ⟨r, 1, none⟩ = some (.slice (some ⟨gW, 0, none⟩) n cW) ∧ w.cell? ⟨r, 2, none⟩ = some (.slice (some ⟨gI, 0, none⟩) n cI) ∧ w.cell? ⟨gN, k, none⟩ = some (.slice (some ⟨pN k, 0, none⟩) 64 (kN k)) ∧ w.cell? ⟨gW, k, none⟩ = some (.slice (some ⟨pW k, 0, none⟩) 64 (kW k)) ∧ w.cell? ⟨gI, k, none⟩ = some (.bool (I k)) := by
  have hn : 0 < n := by omega
  exact ⟨by rw [h.cells.cell]; rfl, by rw [h.cells.cell]; rfl, by rw [h.cells.cell]; rfl, (h.bN hn).cell k hk, (h.bW hn).cell k hk, (h.bI hn).cell k hk⟩
theorem RSD.ext {w : World} {base n : Nat} {D : RD} {N N' W W' : Nat → List Int} {I I' : Nat → Bool} {fz : Int} {go : Bool} (h : RSD w base n D N W I fz go) (eN : ∀ k, k < n → N k = N' k) (eW : ∀ k, k < n → W k = W' k) (eI : ∀ k, k < n → I k = I' k) : RSD w base n D N' W' I' fz go :=
  { cells := h.cells, addr := h.addr, bN := h.bN, bW := h.bW, bI := fun hn => (h.bI hn).mono (fun k hk => by simp only [eI k hk]), rN := fun k hk => by rw [← eN k hk]; exact h.rN k hk, rW := fun k hk => by rw [← eW k hk]; exact h.rW k hk, oN := fun k hk => by rw [← eN k hk]; exact h.oN k hk, oW := fun k hk => by rw [← eW k hk]; exact h.oW k hk, cap := h.cap, gNW := h.gNW, apart := h.apart, base0 := h.base0, base1 := h.base1, base2 := h.base2, fuse := h.fuse, few := h.few }
def syW (N W : Nat → List Int) (k : Nat) : Nat → List Int := fun j => if j < k then N j else W j
def syI (I : Nat → Bool) (k : Nat) : Nat → Bool := fun j => if j < k then false else I j
theorem syW_next (N W : Nat → List Int) (k : Nat) : upF (syW N W k) k (N k) = syW N W (k + 1) := by
  funext j
  unfold upF syW
  by_cases e : j = k
  · subst e; simp
  · by_cases h : j < k
    · simp [e, h, show j < k + 1 by omega]
    · simp [e, h, show ¬ j < k + 1 by omega]
theorem syI_next (I : Nat → Bool) (k : Nat) : upF (syI I k) k false = syI I (k + 1) := by
  funext j
  unfold upF syI
  by_cases e : j = k
  · subst e; simp
  · by_cases h : j < k
    · simp [e, h, show j < k + 1 by omega]
    · simp [e, h, show ¬ j < k + 1 by omega]
def RYPost (base r n : Nat) (N W : Nat → List Int) (I : Nat → Bool) (fz : Int) (go : Bool) (w : World) (e : Ending) (w' : World) : Prop :=
  (chB fz go = false ∧ e = .returned (.int .i64 5) ∧ RS w' base r n N W I (chF fz go) true ∧ FR base w w') ∨
  (chB fz go = true ∧ e = .returned (.int .i64 0) ∧ RS w' base r n N N (fun _ => false) (chF fz go) false ∧ FR base w w')
attribute [local irreducible] wpList
set_option maxHeartbeats 4000000 in
theorem refsync (w : World) (base n : Nat) (D : RD) (N W : Nat → List Int) (I : Nat → Bool) (fz : Int) (go : Bool) (h : RSD w base n D N W I fz go) (hb : base ≤ w.heap.size) :
    Calls Try.prog 27 #[.pointer (some ⟨D.r, 0, none⟩)] w fun e w' => RYPost base D.r n N W I fz go w e w' := by
  have HN := Lib.hid h.few
  have H := Lib.hid h
  have HB := Lib.hid hb
  clear h hb
  obtain ⟨r, gN, gW, gI, cN, cW, cI, aN, aW, aI, pN, kN, pW, kW⟩ := D
  change Calls Try.prog 27 #[.pointer (some ⟨r, 0, none⟩)] w fun e w' => RYPost base r n N W I fz go w e w'
  go_enter Try.func27, Try.ntmps27
  go_upto_region 0 with (fail)
  refine wp_region_lit ?_
  refine wpL_pure (.int .i64 0) rfl (by kernel_rfl) ?_
  simp only [Act.put, List.setIfInBounds_toArray, List.set_cons_zero, List.set_cons_succ]
  obtain ⟨mb, hmb⟩ : ∃ q, chB fz go = q := ⟨_, rfl⟩
  obtain ⟨mf, hmf⟩ : ∃ q, chF fz go = q := ⟨_, rfl⟩
  have HMB := Lib.hid hmb
  have HMF := Lib.hid hmf
  clear hmb hmf
  go_upto_region 1 with (fail)
  refine wp_region_lit ?_
  refine wpL_pure (.pointer (some ⟨r, 0, none⟩)) rfl (by kernel_rfl) ?_
  simp only [Act.put, List.setIfInBounds_toArray, List.set_cons_zero, List.set_cons_succ]
  refine wpL_call 33 #[.pointer (some ⟨r, 0, none⟩)] rfl (by kernel_rfl) ((change_any w r _ _ _ fz go H.out.cells H.out.fuse).mono ?_)
  rintro e w1 ⟨rfl, b1, g1⟩
  rw [HMB.out, HMF.out] at b1
  have F0 : Hid (RS w1 base r n N W I mf (!mb) ∧ FR base w w1) := Lib.hid ⟨⟨_, rfl, H.out.setRec g1 b1 (by rw [← HMF.out]; exact chF_ok _ _ H.out.fuse)⟩, (FR.refl w).gb g1 H.out.base0 (RTg.blk H.out.cells (by decide)) (RTg.blk b1 (by decide))⟩
  clear b1 g1
  refine ⟨.bool mb, by rw [HMB.out], ?_⟩
  simp only [Act.put, List.setIfInBounds_toArray, List.set_cons_zero, List.set_cons_succ]
  cases mb
  · refine wpL_pure (.bool true) rfl (by kernel_rfl) ?_
    simp only [Act.put, List.setIfInBounds_toArray, List.set_cons_zero, List.set_cons_succ]
    unfold wpList
    go_upto_region 2 with (fail)
    refine wp_region_lit ?_
    refine wpL_pure (.int .i64 5) rfl (by kernel_rfl) ?_
    simp only [Act.put, List.setIfInBounds_toArray, List.set_cons_zero, List.set_cons_succ]
    go_wp2_with fail
    go_ret
    exact .inl ⟨HMB.out, rfl, by rw [HMF.out]; exact F0.out.1, F0.out.2⟩
  · refine wpL_pure (.bool false) rfl (by kernel_rfl) ?_
    simp only [Act.put, List.setIfInBounds_toArray, List.set_cons_zero, List.set_cons_succ]
    unfold wpList
    go_upto_region 3 with (fail)
    refine wp_region_lit ?_
    refine wpL_pure (.int .i64 0) rfl (by kernel_rfl) ?_
    simp only [Act.put, List.setIfInBounds_toArray, List.set_cons_zero, List.set_cons_succ]
    go_wp2_with fail
    go_loopw [3] (fun s3 wr => ∃ k : Nat, s3 = .int .i64 (k : Int) ∧ Hid (k ≤ n ∧ RS wr base r n N (syW N W k) (syI I k) mf false ∧ FR base w wr)) (fun s3 _ => n - (intOf s3).toNat)
    case atStart => exact ⟨0, rfl, Lib.hid ⟨Nat.zero_le _, F0.out.1, F0.out.2⟩⟩
    case round =>
      clear F0 H
      obtain ⟨k, rfl, RI⟩ := hrel
      obtain ⟨⟨r', gN, gW, gI, cN, cW, cI, aN, aW, aI, pN, kN, pW, kW⟩, hr, hd⟩ := RI.out.2.1
      obtain rfl : r = r' := hr.symm
      clear hr
      have F1 : Hid (RSD wr base n ⟨r, gN, gW, gI, cN, cW, cI, aN, aW, aI, pN, kN, pW, kW⟩ N (syW N W k) (syI I k) mf false ∧ FR base w wr) := Lib.hid ⟨hd, RI.out.2.2⟩
      clear hd
      by_cases hlt : k < n
      · have HK := Lib.hid hlt
        clear hlt
        obtain ⟨ea, eb, ec⟩ := F1.out.1.addr (by have := HK.out; omega)
        simp only at ea eb ec
        subst ea eb ec
        go_upto_region 4 with (fail)
        refine wp_region_lit ?_
        refine wpL_pure (.int .i64 (k : Int)) rfl (by kernel_rfl) ?_
        simp only [Act.put, List.setIfInBounds_toArray, List.set_cons_zero, List.set_cons_succ]
        refine wpL_pure (.pointer (some ⟨r, 0, none⟩)) rfl (by kernel_rfl) ?_
        simp only [Act.put, List.setIfInBounds_toArray, List.set_cons_zero, List.set_cons_succ]
        refine wpL_pure (.pointer (some ⟨r, 0, none⟩)) rfl (by kernel_rfl) ?_
        simp only [Act.put, List.setIfInBounds_toArray, List.set_cons_zero, List.set_cons_succ]
        refine wpL_pure (.pointer (some ⟨r, 0, none⟩)) rfl (by kernel_rfl) ?_
        simp only [Act.put, List.setIfInBounds_toArray, List.set_cons_zero, List.set_cons_succ]
        refine wpL_pure (.slice (some ⟨gN, 0, none⟩) n cN) rfl (run_load_one _ _ _ 56 _ _ rfl (r) (0) rfl ((F1.out.1.see k HK.out).1) (by kernel_rfl)) ?_
        simp only [Act.put, List.setIfInBounds_toArray, List.set_cons_zero, List.set_cons_succ]
        refine wpL_pure (.int .i64 (n : Int)) rfl (by kernel_rfl) ?_
        simp only [Act.put, List.setIfInBounds_toArray, List.set_cons_zero, List.set_cons_succ]
        refine wpL_pure (.bool true) rfl (run_lti Try.underlying3 rfl rfl rfl (by have := HK.out; rw [decide_eq_true_eq]; omega)) ?_
        simp only [Act.put, List.setIfInBounds_toArray, List.set_cons_zero, List.set_cons_succ]
        go_upto_region 6 with (fail)
        refine region_anyT (fun X => X.cell? ⟨r, 0, none⟩ = some (.slice (some ⟨gN, 0, none⟩) n cN) ∧ X.cell? ⟨r, 1, none⟩ = some (.slice (some ⟨gW, 0, none⟩) n cW) ∧ X.cell? ⟨gN, k, none⟩ = some (.slice (some ⟨pN k, 0, none⟩) 64 (kN k))) (by kernel_rfl) 16 16 rfl ?_
        refine wpAnyT_take (i := 0) (oi := ⟨some 16, _, _, _, _, _⟩) (v := .pointer (some ⟨r, 0, none⟩)) rfl (by kernel_rfl) (by kernel_rfl) (by kernel_rfl) (fun _ _ _ h => h) (by kernel_rfl) (Or.inl ⟨rfl, fun w h => by kernel_rfl⟩) (⟨(F1.out.1.see k HK.out).1, (F1.out.1.see k HK.out).2.1, (F1.out.1.see k HK.out).2.2.2.1⟩) ?_
        simp only [Act.put, List.setIfInBounds_toArray, List.set_cons_zero, List.set_cons_succ]
        refine wpAnyT_take (i := 1) (oi := ⟨some 17, _, _, _, _, _⟩) (v := .pointer (some ⟨r, 0, none⟩)) rfl (by kernel_rfl) (by kernel_rfl) (by kernel_rfl) (fun _ _ _ h => h) (by kernel_rfl) (Or.inl ⟨rfl, fun w h => by kernel_rfl⟩) (⟨(F1.out.1.see k HK.out).1, (F1.out.1.see k HK.out).2.1, (F1.out.1.see k HK.out).2.2.2.1⟩) ?_
        simp only [Act.put, List.setIfInBounds_toArray, List.set_cons_zero, List.set_cons_succ]
        refine wpAnyT_take (i := 2) (oi := ⟨some 18, _, _, _, _, _⟩) (v := .pointer (some ⟨r, 1, none⟩)) rfl (by kernel_rfl) (by kernel_rfl) (by kernel_rfl) (fun _ _ _ h => h) (by kernel_rfl) (Or.inl ⟨rfl, fun w h => by kernel_rfl⟩) (⟨(F1.out.1.see k HK.out).1, (F1.out.1.see k HK.out).2.1, (F1.out.1.see k HK.out).2.2.2.1⟩) ?_
        simp only [Act.put, List.setIfInBounds_toArray, List.set_cons_zero, List.set_cons_succ]
        refine wpAnyT_take (i := 3) (oi := ⟨some 19, _, _, _, _, _⟩) (v := .slice (some ⟨gW, 0, none⟩) n cW) rfl (by kernel_rfl) (by kernel_rfl) (by kernel_rfl) (fun _ _ _ h => h) (by kernel_rfl) (Or.inl ⟨rfl, fun w h => run_load_one _ _ _ 56 _ _ rfl (r) (1) rfl (h.2.1) (by kernel_rfl)⟩) (⟨(F1.out.1.see k HK.out).1, (F1.out.1.see k HK.out).2.1, (F1.out.1.see k HK.out).2.2.2.1⟩) ?_
        simp only [Act.put, List.setIfInBounds_toArray, List.set_cons_zero, List.set_cons_succ]
        refine wpAnyT_take (i := 4) (oi := ⟨some 20, _, _, _, _, _⟩) (v := .int .i64 (k : Int)) rfl (by kernel_rfl) (by kernel_rfl) (by kernel_rfl) (fun _ _ _ h => h) (by kernel_rfl) (Or.inl ⟨rfl, fun w h => by kernel_rfl⟩) (⟨(F1.out.1.see k HK.out).1, (F1.out.1.see k HK.out).2.1, (F1.out.1.see k HK.out).2.2.2.1⟩) ?_
        simp only [Act.put, List.setIfInBounds_toArray, List.set_cons_zero, List.set_cons_succ]
        refine wpAnyT_take (i := 6) (oi := ⟨some 22, _, _, _, _, _⟩) (v := .pointer (some ⟨r, 0, none⟩)) rfl (by kernel_rfl) (by kernel_rfl) (by kernel_rfl) (fun _ _ _ h => h) (by kernel_rfl) (Or.inl ⟨rfl, fun w h => by kernel_rfl⟩) (⟨(F1.out.1.see k HK.out).1, (F1.out.1.see k HK.out).2.1, (F1.out.1.see k HK.out).2.2.2.1⟩) ?_
        simp only [Act.put, List.setIfInBounds_toArray, List.set_cons_zero, List.set_cons_succ]
        refine wpAnyT_take (i := 7) (oi := ⟨some 23, _, _, _, _, _⟩) (v := .pointer (some ⟨r, 0, none⟩)) rfl (by kernel_rfl) (by kernel_rfl) (by kernel_rfl) (fun _ _ _ h => h) (by kernel_rfl) (Or.inl ⟨rfl, fun w h => by kernel_rfl⟩) (⟨(F1.out.1.see k HK.out).1, (F1.out.1.see k HK.out).2.1, (F1.out.1.see k HK.out).2.2.2.1⟩) ?_
        simp only [Act.put, List.setIfInBounds_toArray, List.set_cons_zero, List.set_cons_succ]
        refine wpAnyT_take (i := 8) (oi := ⟨some 24, _, _, _, _, _⟩) (v := .pointer (some ⟨r, 0, none⟩)) rfl (by kernel_rfl) (by kernel_rfl) (by kernel_rfl) (fun _ _ _ h => h) (by kernel_rfl) (Or.inl ⟨rfl, fun w h => by kernel_rfl⟩) (⟨(F1.out.1.see k HK.out).1, (F1.out.1.see k HK.out).2.1, (F1.out.1.see k HK.out).2.2.2.1⟩) ?_
        simp only [Act.put, List.setIfInBounds_toArray, List.set_cons_zero, List.set_cons_succ]
        refine wpAnyT_take (i := 9) (oi := ⟨some 25, _, _, _, _, _⟩) (v := .slice (some ⟨gN, 0, none⟩) n cN) rfl (by kernel_rfl) (by kernel_rfl) (by kernel_rfl) (fun _ _ _ h => h) (by kernel_rfl) (Or.inl ⟨rfl, fun w h => run_load_one _ _ _ 56 _ _ rfl (r) (0) rfl (h.1) (by kernel_rfl)⟩) (⟨(F1.out.1.see k HK.out).1, (F1.out.1.see k HK.out).2.1, (F1.out.1.see k HK.out).2.2.2.1⟩) ?_
        simp only [Act.put, List.setIfInBounds_toArray, List.set_cons_zero, List.set_cons_succ]
        refine wpAnyT_take (i := 10) (oi := ⟨some 26, _, _, _, _, _⟩) (v := .int .i64 (k : Int)) rfl (by kernel_rfl) (by kernel_rfl) (by kernel_rfl) (fun _ _ _ h => h) (by kernel_rfl) (Or.inl ⟨rfl, fun w h => by kernel_rfl⟩) (⟨(F1.out.1.see k HK.out).1, (F1.out.1.see k HK.out).2.1, (F1.out.1.see k HK.out).2.2.2.1⟩) ?_
        simp only [Act.put, List.setIfInBounds_toArray, List.set_cons_zero, List.set_cons_succ]
        refine wpAnyT_take (i := 11) (oi := ⟨some 27, _, _, _, _, _⟩) (v := .pointer (some ⟨gN, k, none⟩)) rfl (by kernel_rfl) (by kernel_rfl) (by kernel_rfl) (fun _ _ _ h => h) (by kernel_rfl) (Or.inl ⟨rfl, fun w h => run_idx56' _ _ w _ _ _ gN n cN k rfl rfl rfl rfl HK.out (by have := HN.out; unfold maxLen; omega)⟩) (⟨(F1.out.1.see k HK.out).1, (F1.out.1.see k HK.out).2.1, (F1.out.1.see k HK.out).2.2.2.1⟩) ?_
        simp only [Act.put, List.setIfInBounds_toArray, List.set_cons_zero, List.set_cons_succ]
        refine wpAnyT_take (i := 12) (oi := ⟨some 28, _, _, _, _, _⟩) (v := .slice (some ⟨pN k, 0, none⟩) 64 (kN k)) rfl (by kernel_rfl) (by kernel_rfl) (by kernel_rfl) (fun _ _ _ h => h) (by kernel_rfl) (Or.inl ⟨rfl, fun w h => run_load_one _ _ _ 22 _ _ rfl (gN) (k) rfl (h.2.2) (by kernel_rfl)⟩) (⟨(F1.out.1.see k HK.out).1, (F1.out.1.see k HK.out).2.1, (F1.out.1.see k HK.out).2.2.2.1⟩) ?_
        simp only [Act.put, List.setIfInBounds_toArray, List.set_cons_zero, List.set_cons_succ]
        refine wpAnyT_one (i := 5) (by kernel_rfl) ?_
        obtain ⟨W1, hW1⟩ : ∃ V, V = wr.drew.alloc (.cells #[] 5) := ⟨_, rfl⟩
        obtain ⟨g1, hg1⟩ : ∃ q, wr.drew.heap.size = q := ⟨_, rfl⟩
        have A0 : Below wr.heap.size wr W1 := by rw [hW1]; exact ((Below.refl _ _).drew).alloc (Nat.le_refl _) _
        have F2 : Hid (RSD W1 base n ⟨r, gN, gW, gI, cN, cW, cI, some ⟨gN, 0, none⟩, some ⟨gW, 0, none⟩, some ⟨gI, 0, none⟩, pN, kN, pW, kW⟩ N (syW N W k) (syI I k) mf false ∧ Own W1 g1 (.slice (some ⟨g1, 0, none⟩) 0 0) [] ∧ Below wr.heap.size wr W1 ∧ wr.heap.size = g1) := Lib.hid ⟨F1.out.1.below A0, ⟨by rw [hW1, ← hg1]; exact World.ownsRow_lit wr.drew #[] 0 (Nat.le_refl _) (by simp [maxLen]) rfl, by simp⟩, A0, hg1⟩
        clear A0
        refine op_valw (o := ⟨some 21, _, _, _, _, _⟩) (.slice (some ⟨g1, 0, none⟩) 0 0) W1 rfl rfl (by rw [hW1, ← hg1]; kernel_rfl) ?_
        refine ⟨fun _ => ⟨(F2.out.1.see k HK.out).1, (F2.out.1.see k HK.out).2.1, (F2.out.1.see k HK.out).2.2.2.1⟩, ?_⟩
        simp only [Act.put, List.setIfInBounds_toArray, List.set_cons_zero, List.set_cons_succ]
        clear hW1 hg1
        refine wpAnyT_one (i := 13) (by kernel_rfl) ?_
        have ON : Hid (SOk (N k)) := Lib.hid (F2.out.1.oN k HK.out)
        obtain ⟨v2, W2, r1, r2, r3, r4, _⟩ := append_own W1 g1 (.slice (some ⟨g1, 0, none⟩) 0 0) [] (N k) _ 64 (kN k) F2.out.2.1 ((F2.out.1.rN k HK.out).row ON.out) (by simp) (by rw [← F2.out.2.2.2]; exact F2.out.2.2.1.size)
        have R1 := Lib.hid r1
        rw [List.nil_append] at r2
        have A0 : Below wr.heap.size wr W2 := F2.out.2.2.1.grown r3 F2.out.2.2.1.size (fun j hj => by have e := F2.out.2.2.2; simp [Value.ownBlock] at hj; omega)
        obtain ⟨g2, c2, e2, q1, q2, q3⟩ := own_bp r2 ON.out
        have F3 : Hid (RSD W2 base n ⟨r, gN, gW, gI, cN, cW, cI, some ⟨gN, 0, none⟩, some ⟨gW, 0, none⟩, some ⟨gI, 0, none⟩, pN, kN, pW, kW⟩ N (syW N W k) (syI I k) mf false ∧ FR base w W2 ∧ BP W2 g2 5 64 (rowF (N k)) ∧ (64 ≤ c2 ∧ c2 ≤ maxLen) ∧ base ≤ g2 ∧ (∀ j, j < n → g2 ≠ pN j ∧ g2 ≠ pW j)) := Lib.hid ⟨F1.out.1.below A0, F1.out.2.trans (FR.of A0), q1, q3, by have e := F2.out.2.2.2; have := F1.out.2.2.2.2.1; have := HB.out; omega, fun j hj => by have e := F2.out.2.2.2; have := (F1.out.1.rN j hj).lt; have := (F1.out.1.rW j hj).lt; simp only at *; omega⟩
        subst e2
        clear r1 r2 r3 r4 q1 q2 q3 A0
        refine op_valw (o := ⟨some 29, _, _, _, _, _⟩) (.slice (some ⟨g2, 0, none⟩) 64 c2) W2 rfl rfl (run_app _ _ _ _ _ _ _ _ _ rfl rfl rfl rfl R1.out) ?_
        refine ⟨fun _ => ⟨(F3.out.1.see k HK.out).1, (F3.out.1.see k HK.out).2.1, (F3.out.1.see k HK.out).2.2.2.1⟩, ?_⟩
        simp only [Act.put, List.setIfInBounds_toArray, List.set_cons_zero, List.set_cons_succ]
        clear R1 F2 F1
        refine wpAnyT_take (i := 14) (oi := ⟨some 30, _, _, _, _, _⟩) (v := .pointer (some ⟨gW, k, none⟩)) rfl (by kernel_rfl) (by kernel_rfl) (by kernel_rfl) (fun _ _ _ h => h) (by kernel_rfl) (Or.inl ⟨rfl, fun w h => run_idx56' _ _ w _ _ _ gW n cW k rfl rfl rfl rfl HK.out (by have := HN.out; unfold maxLen; omega)⟩) (⟨(F3.out.1.see k HK.out).1, (F3.out.1.see k HK.out).2.1, (F3.out.1.see k HK.out).2.2.2.1⟩) ?_
        simp only [Act.put, List.setIfInBounds_toArray, List.set_cons_zero, List.set_cons_succ]
        refine wpAnyT_one (i := 15) (by kernel_rfl) ?_
        obtain ⟨W3, hW3⟩ : ∃ V, V = W2.setCell ⟨gW, k, none⟩ (.slice (some ⟨g2, 0, none⟩) 64 c2) := ⟨_, rfl⟩
        have F4 : Hid (RSD W3 base n ⟨r, gN, gW, gI, cN, cW, cI, some ⟨gN, 0, none⟩, some ⟨gW, 0, none⟩, some ⟨gI, 0, none⟩, pN, kN, upF pW k g2, upF kW k c2⟩ N (upF (syW N W k) k (N k)) (syI I k) mf false ∧ FR base w W3) := Lib.hid (by rw [hW3]; exact ⟨F3.out.1.putW k HK.out g2 c2 _ ON.out F3.out.2.2.1 F3.out.2.2.2.1 F3.out.2.2.2.2.1 F3.out.2.2.2.2.2, F3.out.2.1.set (F3.out.1.base1 (by have := HK.out; omega)).2.1 (RTg.bp (F3.out.1.bW (by have := HK.out; omega)) (by decide)) _ _⟩)
        have BN := F3.out.1.bW (by have := HK.out; omega)
        refine op_skip (o := ⟨none, _, _, _, _, _⟩) W3 rfl rfl (by rw [hW3]; exact run_store_one _ _ _ 22 _ _ rfl gW k rfl _ rfl rfl size22 (by rw [BN.cell k HK.out]; rfl) (BN.free k)) ?_
        refine ⟨fun _ => ⟨(F4.out.1.see k HK.out).1, (F4.out.1.see k HK.out).2.1, (F4.out.1.see k HK.out).2.2.2.1⟩, ?_⟩
        simp only [Act.put, List.setIfInBounds_toArray, List.set_cons_zero, List.set_cons_succ]
        clear hW3 F3 BN ON
        refine wpAnyT_done (by kernel_rfl) ?_ _
        go_upto_region 7 with (fail)
        refine wp_region_lit ?_
        refine wpL_pure (.pointer (some ⟨r, 0, none⟩)) rfl (by kernel_rfl) ?_
        simp only [Act.put, List.setIfInBounds_toArray, List.set_cons_zero, List.set_cons_succ]
        refine wpL_pure (.pointer (some ⟨r, 0, none⟩)) rfl (by kernel_rfl) ?_
        simp only [Act.put, List.setIfInBounds_toArray, List.set_cons_zero, List.set_cons_succ]
        refine wpL_pure (.pointer (some ⟨r, 2, none⟩)) rfl (by kernel_rfl) ?_
        simp only [Act.put, List.setIfInBounds_toArray, List.set_cons_zero, List.set_cons_succ]
        refine wpL_pure (.slice (some ⟨gI, 0, none⟩) n cI) rfl (run_load_one _ _ _ 57 _ _ rfl (r) (2) rfl ((F4.out.1.see k HK.out).2.2.1) (by kernel_rfl)) ?_
        simp only [Act.put, List.setIfInBounds_toArray, List.set_cons_zero, List.set_cons_succ]
        refine wpL_pure (.int .i64 (k : Int)) rfl (by kernel_rfl) ?_
        simp only [Act.put, List.setIfInBounds_toArray, List.set_cons_zero, List.set_cons_succ]
        refine wpL_pure (.pointer (some ⟨gI, k, none⟩)) rfl (run_idx57' _ _ _ _ _ _ gI n cI k rfl rfl rfl rfl HK.out (by have := HN.out; unfold maxLen; omega)) ?_
        simp only [Act.put, List.setIfInBounds_toArray, List.set_cons_zero, List.set_cons_succ]
        have BI := Lib.hid (F4.out.1.bI (by have := HK.out; omega))
        simp only at BI
        refine wpL_store_one rfl rfl gI k rfl (.bool false) rfl rfl size4 (by rw [BI.out.cell k HK.out]; rfl) (BI.out.free k) ?_
        simp only [Act.put, List.setIfInBounds_toArray, List.set_cons_zero, List.set_cons_succ]
        obtain ⟨W5, hW5⟩ : ∃ V, V = W3.setCell ⟨gI, k, none⟩ (.bool false) := ⟨_, rfl⟩
        rw [← hW5]
        have F5 : Hid (RSD W5 base n ⟨r, gN, gW, gI, cN, cW, cI, some ⟨gN, 0, none⟩, some ⟨gW, 0, none⟩, some ⟨gI, 0, none⟩, pN, kN, upF pW k g2, upF kW k c2⟩ N (upF (syW N W k) k (N k)) (upF (syI I k) k false) mf false ∧ FR base w W5) := Lib.hid (by rw [hW5]; exact ⟨F4.out.1.putI k HK.out false, F4.out.2.set (F4.out.1.base1 (by have := HK.out; omega)).2.2 (RTg.bp BI.out (by decide)) _ _⟩)
        clear hW5 F4 BI
        go_upto_region 5 with (fail)
        refine wp_region_lit ?_
        refine wpL_pure (.int .i64 (k : Int)) rfl (by kernel_rfl) ?_
        simp only [Act.put, List.setIfInBounds_toArray, List.set_cons_zero, List.set_cons_succ]
        refine wpL_pure (.int .i64 ((k + 1 : Nat) : Int)) rfl (run_addi Try.underlying3 rfl rfl rfl _ (by have := HK.out; have := HN.out; rw [wrap_in _ (by omega) (by omega)]; omega)) ?_
        simp only [Act.put, List.setIfInBounds_toArray, List.set_cons_zero, List.set_cons_succ]
        refine wpL_pure (.int .i64 ((k + 1 : Nat) : Int)) rfl (by kernel_rfl) ?_
        simp only [Act.put, List.setIfInBounds_toArray, List.set_cons_zero, List.set_cons_succ]
        have NX : Hid (k + 1 ≤ n ∧ RS W5 base r n N (syW N W (k + 1)) (syI I (k + 1)) mf false ∧ FR base w W5) := Lib.hid ⟨HK.out, ⟨_, rfl, by rw [syW_next, syI_next] at F5; exact F5.out.1⟩, F5.out.2⟩
        unfold wpList
        go_roundw
        case rel => first | exact ⟨k + 1, rfl, NX⟩ | ((repeat apply Exists.intro); exact ⟨⟨k + 1, rfl, NX⟩, rfl⟩)
        case measure => simp [intOf]; have := HK.out; omega
      · have HK := Lib.hid hlt
        clear hlt
        go_upto_region 4 with (fail)
        refine wp_region_lit ?_
        refine wpL_pure (.int .i64 (k : Int)) rfl (by kernel_rfl) ?_
        simp only [Act.put, List.setIfInBounds_toArray, List.set_cons_zero, List.set_cons_succ]
        refine wpL_pure (.pointer (some ⟨r, 0, none⟩)) rfl (by kernel_rfl) ?_
        simp only [Act.put, List.setIfInBounds_toArray, List.set_cons_zero, List.set_cons_succ]
        refine wpL_pure (.pointer (some ⟨r, 0, none⟩)) rfl (by kernel_rfl) ?_
        simp only [Act.put, List.setIfInBounds_toArray, List.set_cons_zero, List.set_cons_succ]
        refine wpL_pure (.pointer (some ⟨r, 0, none⟩)) rfl (by kernel_rfl) ?_
        simp only [Act.put, List.setIfInBounds_toArray, List.set_cons_zero, List.set_cons_succ]
        refine wpL_pure (.slice aN n cN) rfl (run_load_one _ _ _ 56 _ _ rfl (r) (0) rfl (by rw [F1.out.1.cells.cell]; rfl) (by kernel_rfl)) ?_
        simp only [Act.put, List.setIfInBounds_toArray, List.set_cons_zero, List.set_cons_succ]
        refine wpL_pure (.int .i64 (n : Int)) rfl (by kernel_rfl) ?_
        simp only [Act.put, List.setIfInBounds_toArray, List.set_cons_zero, List.set_cons_succ]
        refine wpL_pure (.bool false) rfl (run_lti Try.underlying3 rfl rfl rfl (by have := HK.out; rw [decide_eq_false_iff_not]; omega)) ?_
        simp only [Act.put, List.setIfInBounds_toArray, List.set_cons_zero, List.set_cons_succ]
        go_upto_region 8 with (fail)
        refine wp_region_lit ?_
        refine wpL_pure (.int .i64 0) rfl (by kernel_rfl) ?_
        simp only [Act.put, List.setIfInBounds_toArray, List.set_cons_zero, List.set_cons_succ]
        go_wp2_with fail
        go_ret
        exact .inr ⟨HMB.out, rfl, by rw [HMF.out]; exact ⟨_, rfl, F1.out.1.ext (fun _ _ => rfl) (fun j hj => by have := HK.out; simp [syW, show j < k by omega]) (fun j hj => by have := HK.out; simp [syI, show j < k by omega])⟩, F1.out.2⟩
end Go.Proofs.Yticjpjbmjnalhaa
