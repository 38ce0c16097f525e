/- A head's sector. -/
import Derived.Test.YteabblmhcjpboaaC3
namespace Go.Proofs.Yteabblmhcjpboaa.D
open Go Go.RowKit
set_option maxRecDepth 100000
/-- one half of a head's sector; the whole. -/
def hhL (s c : Nat) (nt : List Int) : List Int := be s ++ (be c ++ nt)
def repL : Nat → List Int → List Int
  | 0, _ => []
  | k + 1, l => repL k l ++ l
def secV (s c : Nat) (nt : List Int) : List Int := repL 2 (hhL s c nt)
theorem repL_len : ∀ (k : Nat) (l : List Int), (repL k l).length = k * l.length
  | 0, l => by simp [repL]
  | k + 1, l => by rw [repL, List.length_append, repL_len k l, Nat.succ_mul]
theorem hhL_len {s c : Nat} {nt : List Int} (h : NtOk nt) : (hhL s c nt).length = 32 := by simp [hhL, be_len, h.1]
theorem hhL_ok {s c : Nat} {nt : List Int} (h : NtOk nt) : ∀ x ∈ hhL s c nt, 0 ≤ x ∧ x ≤ 255 := by
  intro x hx
  rcases List.mem_append.1 hx with q | q
  · exact be_byte _ x q
  · rcases List.mem_append.1 q with q | q
    · exact be_byte _ x q
    · exact h.2 x q
theorem secV_ok {s c : Nat} {nt : List Int} (h : NtOk nt) : SOk (secV s c nt) := ⟨by rw [secV, repL_len, hhL_len h], fun x hx => by
  simp only [secV, repL, List.nil_append, List.mem_append] at hx
  rcases hx with q | q <;> exact hhL_ok h x q⟩
theorem own_base {w : World} {g t : Nat} {cs : Array Value} (h : Blk w g t cs) : g + 1 ≤ w.heap.size := h.lt
theorem hd_note {w : World} {g s c : Nat} {nt : List Int} (h : Blk w g 64 (hdV s c nt).toArray) (hn : NtOk nt) : Row w (some ⟨g, 2, none⟩) 16 nt :=
  ⟨hn.1, by simp [maxLen], hn.2, fun j hj => ⟨g, 2, rfl, by
    rw [h.cell, List.getElem?_toArray, show 2 + j = j + 2 by omega]
    simp only [hdV, List.getElem?_cons_succ, List.getElem?_map, List.getElem?_eq_getElem (show j < nt.length by rw [hn.1]; exact hj)]
    simp [List.getD, List.getElem?_eq_getElem (show j < nt.length by rw [hn.1]; exact hj)]⟩⟩
attribute [local irreducible] wpList
set_option maxHeartbeats 4000000
theorem sector_any (w : World) (s c : Nat) (nt : List Int) (hn : NtOk nt) (hs : U64 s) (hc : U64 c) : Calls Try.prog 50 #[.agg (hdV s c nt).toArray] w fun e w' => ∃ v, e = .returned v ∧ Below w.heap.size w w' ∧ Own w' w.heap.size v (secV s c nt) := by
  have HU := Lib.hid (And.intro hn (And.intro hs hc))
  have HHL : Hid ((hhL s c nt).length = 32) := Lib.hid (hhL_len hn)
  clear hn hs hc
  go_enter Try.func50, Try.ntmps50
  go_upto_region 0 with (fail)
  refine wp_region_lit ?_
  obtain ⟨W1, hW1⟩ : ∃ V, V = w.alloc (.cells (hdV s c nt).toArray 64) := ⟨_, rfl⟩
  refine wpL_value (.pointer (some ⟨w.heap.size, 0, none⟩)) W1 rfl (by rw [hW1]; kernel_rfl) ?_
  simp only [Act.put, List.setIfInBounds_toArray, List.set_cons_zero, List.set_cons_succ]
  obtain ⟨g4, hg4⟩ : ∃ q, w.heap.size = q := ⟨_, rfl⟩
  have F1 : Hid (Below w.heap.size w W1 ∧ Blk W1 g4 64 (hdV s c nt).toArray ∧ w.heap.size = g4 ∧ W1.heap.size = g4 + 1) := Lib.hid (by rw [hW1, ← hg4]; exact ⟨(Below.refl _ _).alloc (Nat.le_refl _) _, Blk.new _ _ _, rfl, by simp⟩)
  rw [hg4]
  clear hW1 hg4
  refine wpL_pure (.slice none 0 0) rfl (by kernel_rfl) ?_
  simp only [Act.put, List.setIfInBounds_toArray, List.set_cons_zero, List.set_cons_succ]
  go_upto_region 1 with (fail)
  refine wp_region_lit ?_
  obtain ⟨W2, hW2⟩ : ∃ V, V = W1.alloc (.cells (u8l (List.replicate 64 0)).toArray 5) := ⟨_, rfl⟩
  refine wpL_value (.slice (some ⟨W1.heap.size, 0, none⟩) 0 64) W2 rfl (by rw [hW2]; kernel_rfl) ?_
  simp only [Act.put, List.setIfInBounds_toArray, List.set_cons_zero, List.set_cons_succ]
  have F2 : Hid (0 ≤ 2 ∧ Below w.heap.size w W2 ∧ Own W2 (g4 + 1) (.slice (some ⟨W1.heap.size, 0, none⟩) 0 64) (repL 0 (hhL s c nt)) ∧ Blk W2 g4 64 (hdV s c nt).toArray) := Lib.hid (by rw [hW2]; exact ⟨by omega, F1.out.1.alloc F1.out.1.size _, ⟨World.ownsRow_made W1 _ 64 (Nat.le_of_eq F1.out.2.2.2.symm) (by simp [maxLen]) (by simp [u8l]), by simp [repL]⟩, F1.out.2.1.alloc _⟩)
  clear hW2
  generalize (Value.slice (some ⟨W1.heap.size, 0, none⟩) 0 64) = v3 at F2 ⊢
  refine wpL_pure (v3) rfl (by kernel_rfl) ?_
  simp only [Act.put, List.setIfInBounds_toArray, List.set_cons_zero, List.set_cons_succ]
  unfold wpList
  go_wp2_with fail
  go_loopw [3, 5] (fun s3 s5 wr => ∃ k : Nat, s5 = .int .i64 (k : Int) ∧ Hid (k ≤ 2 ∧ Below w.heap.size w wr ∧ Own wr (g4 + 1) s3 (repL k (hhL s c nt)) ∧ Blk wr g4 64 (hdV s c nt).toArray)) (fun _ s5 _ => 2 - (intOf s5).toNat)
  case atStart => exact ⟨0, rfl, F2⟩
  case round =>
    obtain ⟨k, rfl, RI⟩ := hrel
    by_cases hlt : k < 2
    · have HK := Lib.hid hlt
      clear hlt
      go_upto_region 3 with (fail)
      refine wp_region_lit ?_
      refine wpL_pure (.bool true) rfl (run_lti Try.underlying3 rfl rfl rfl (by have := HK.out; rw [decide_eq_true_eq]; omega)) ?_
      simp only [Act.put, List.setIfInBounds_toArray, List.set_cons_zero, List.set_cons_succ]
      go_upto_region 4 with (fail)
      refine wp_region_lit ?_
      refine wpL_pure (u3) rfl (by kernel_rfl) ?_
      simp only [Act.put, List.setIfInBounds_toArray, List.set_cons_zero, List.set_cons_succ]
      refine wpL_pure (.pointer (some ⟨g4, 0, none⟩)) rfl (by kernel_rfl) ?_
      simp only [Act.put, List.setIfInBounds_toArray, List.set_cons_zero, List.set_cons_succ]
      refine wpL_pure (.int .u64 ((s : Nat) : Int)) rfl (run_load_one _ _ _ 35 _ _ rfl (g4) (0) rfl (by rw [(RI.out.2.2.2).cell]; rfl) (by kernel_rfl)) ?_
      simp only [Act.put, List.setIfInBounds_toArray, List.set_cons_zero, List.set_cons_succ]
      refine wpL_call 58 #[.int .u64 ((s : Nat) : Int)] rfl (by kernel_rfl) ((eight_any _ s HU.out.2.1).mono fun e X6 ⟨h6, he, b6, l6, k6⟩ => ⟨.slice (some ⟨h6, 0, none⟩) 8 8, he, ?_⟩)
      simp only [Act.put, List.setIfInBounds_toArray, List.set_cons_zero, List.set_cons_succ]
      have G6 : Hid (0 = 0 ∧ Below w.heap.size w X6 ∧ Own X6 (g4 + 1) u3 (repL k (hhL s c nt)) ∧ Blk X6 g4 64 (hdV s c nt).toArray) := Lib.hid ⟨rfl, (RI.out.2.1).trans (b6.mono (RI.out.2.1).size), (RI.out.2.2.1).below b6, (RI.out.2.2.2).below b6⟩
      have GR6 : Hid (Row X6 (some ⟨h6, 0, none⟩) 8 (be s)) := Lib.hid (blk_row k6 (be_len _) (by simp [maxLen]) (be_byte _))
      clear b6 l6 k6
      obtain ⟨v6, Y6, r1, r2, r3, r4, r5⟩ := append_own X6 (g4 + 1) (u3) (repL k (hhL s c nt)) (be s) (some ⟨h6, 0, none⟩) 8 8 (G6.out.2.2.1) (GR6.out) (by have := HK.out; simp only [repL_len, List.length_append, be_len, HHL.out]; omega) (own_base G6.out.2.2.2)
      have R1 := Lib.hid r1
      have E6 : Hid (0 = 0 ∧ Below w.heap.size w Y6 ∧ Own Y6 (g4 + 1) v6 (repL k (hhL s c nt) ++ be s) ∧ Blk Y6 g4 64 (hdV s c nt).toArray) := Lib.hid ⟨rfl, G6.out.2.1.grown r3 G6.out.2.1.size (fun j hj => by have q := (G6.out.2.2.1.lt j hj).1; have e := F1.out.2.2.1; omega), r2, G6.out.2.2.2.grown r3 (fun e => by have q := (G6.out.2.2.1.lt g4 e.symm).1; omega)⟩
      clear G6 GR6
      clear r1 r2 r3 r4 r5
      refine wpL_value v6 Y6 rfl (run_app _ _ _ _ _ _ _ _ _ rfl rfl rfl rfl R1.out) ?_
      simp only [Act.put, List.setIfInBounds_toArray, List.set_cons_zero, List.set_cons_succ]
      clear R1
      refine wpL_pure (v6) rfl (by kernel_rfl) ?_
      simp only [Act.put, List.setIfInBounds_toArray, List.set_cons_zero, List.set_cons_succ]
      go_upto_region 5 with (fail)
      refine wp_region_lit ?_
      refine wpL_pure (v6) rfl (by kernel_rfl) ?_
      simp only [Act.put, List.setIfInBounds_toArray, List.set_cons_zero, List.set_cons_succ]
      refine wpL_pure (.pointer (some ⟨g4, 1, none⟩)) rfl (by kernel_rfl) ?_
      simp only [Act.put, List.setIfInBounds_toArray, List.set_cons_zero, List.set_cons_succ]
      refine wpL_pure (.int .u64 ((c : Nat) : Int)) rfl (run_load_one _ _ _ 35 _ _ rfl (g4) (1) rfl (by rw [(E6.out.2.2.2).cell]; rfl) (by kernel_rfl)) ?_
      simp only [Act.put, List.setIfInBounds_toArray, List.set_cons_zero, List.set_cons_succ]
      refine wpL_call 58 #[.int .u64 ((c : Nat) : Int)] rfl (by kernel_rfl) ((eight_any _ c HU.out.2.2).mono fun e X7 ⟨h7, he, b7, l7, k7⟩ => ⟨.slice (some ⟨h7, 0, none⟩) 8 8, he, ?_⟩)
      simp only [Act.put, List.setIfInBounds_toArray, List.set_cons_zero, List.set_cons_succ]
      have G7 : Hid (0 = 0 ∧ Below w.heap.size w X7 ∧ Own X7 (g4 + 1) v6 (repL k (hhL s c nt) ++ be s) ∧ Blk X7 g4 64 (hdV s c nt).toArray) := Lib.hid ⟨rfl, (E6.out.2.1).trans (b7.mono (E6.out.2.1).size), (E6.out.2.2.1).below b7, (E6.out.2.2.2).below b7⟩
      have GR7 : Hid (Row X7 (some ⟨h7, 0, none⟩) 8 (be c)) := Lib.hid (blk_row k7 (be_len _) (by simp [maxLen]) (be_byte _))
      clear b7 l7 k7
      obtain ⟨v7, Y7, r1, r2, r3, r4, r5⟩ := append_own X7 (g4 + 1) (v6) (repL k (hhL s c nt) ++ be s) (be c) (some ⟨h7, 0, none⟩) 8 8 (G7.out.2.2.1) (GR7.out) (by have := HK.out; simp only [repL_len, List.length_append, be_len, HHL.out]; omega) (own_base G7.out.2.2.2)
      have R1 := Lib.hid r1
      have E7 : Hid (0 = 0 ∧ Below w.heap.size w Y7 ∧ Own Y7 (g4 + 1) v7 (repL k (hhL s c nt) ++ be s ++ be c) ∧ Blk Y7 g4 64 (hdV s c nt).toArray) := Lib.hid ⟨rfl, G7.out.2.1.grown r3 G7.out.2.1.size (fun j hj => by have q := (G7.out.2.2.1.lt j hj).1; have e := F1.out.2.2.1; omega), r2, G7.out.2.2.2.grown r3 (fun e => by have q := (G7.out.2.2.1.lt g4 e.symm).1; omega)⟩
      clear G7 GR7
      clear r1 r2 r3 r4 r5
      refine wpL_value v7 Y7 rfl (run_app _ _ _ _ _ _ _ _ _ rfl rfl rfl rfl R1.out) ?_
      simp only [Act.put, List.setIfInBounds_toArray, List.set_cons_zero, List.set_cons_succ]
      clear R1
      refine wpL_pure (v7) rfl (by kernel_rfl) ?_
      simp only [Act.put, List.setIfInBounds_toArray, List.set_cons_zero, List.set_cons_succ]
      go_upto_region 6 with (fail)
      refine wp_region_lit ?_
      refine wpL_pure (v7) rfl (by kernel_rfl) ?_
      simp only [Act.put, List.setIfInBounds_toArray, List.set_cons_zero, List.set_cons_succ]
      refine wpL_pure (.pointer (some ⟨g4, 2, none⟩)) rfl (by kernel_rfl) ?_
      simp only [Act.put, List.setIfInBounds_toArray, List.set_cons_zero, List.set_cons_succ]
      refine wpL_pure (.slice (some ⟨g4, 2, none⟩) 16 16) rfl (by kernel_rfl) ?_
      simp only [Act.put, List.setIfInBounds_toArray, List.set_cons_zero, List.set_cons_succ]
      obtain ⟨v8, Y8, r1, r2, r3, r4, r5⟩ := append_own Y7 (g4 + 1) (v7) (repL k (hhL s c nt) ++ be s ++ be c) (nt) (some ⟨g4, 2, none⟩) 16 16 (E7.out.2.2.1) (hd_note E7.out.2.2.2 HU.out.1) (by have := HK.out; simp only [repL_len, List.length_append, be_len, HHL.out]; omega) (own_base E7.out.2.2.2)
      have R1 := Lib.hid r1
      have NX : Hid (k + 1 ≤ 2 ∧ Below w.heap.size w Y8 ∧ Own Y8 (g4 + 1) v8 (repL (k + 1) (hhL s c nt)) ∧ Blk Y8 g4 64 (hdV s c nt).toArray) := Lib.hid ⟨HK.out, E7.out.2.1.grown r3 E7.out.2.1.size (fun j hj => by have q := (E7.out.2.2.1.lt j hj).1; have e := F1.out.2.2.1; omega), by have q := r2; rw [List.append_assoc, List.append_assoc] at q; exact q, E7.out.2.2.2.grown r3 (fun e => by have q := (E7.out.2.2.1.lt g4 e.symm).1; omega)⟩
      clear r1 r2 r3 r4 r5
      refine wpL_value v8 Y8 rfl (run_app _ _ _ _ _ _ _ _ _ rfl rfl rfl rfl R1.out) ?_
      simp only [Act.put, List.setIfInBounds_toArray, List.set_cons_zero, List.set_cons_succ]
      clear R1
      refine wpL_pure (v8) rfl (by kernel_rfl) ?_
      simp only [Act.put, List.setIfInBounds_toArray, List.set_cons_zero, List.set_cons_succ]
      go_upto_region 7 with (fail)
      refine wp_region_lit ?_
      refine wpL_pure (.int .i64 ((k + 1 : Nat) : Int)) rfl (run_addi Try.underlying3 rfl rfl rfl _ (by have := HK.out; rw [wrap_in _ (by omega) (by omega)]; omega)) ?_
      simp only [Act.put, List.setIfInBounds_toArray, List.set_cons_zero, List.set_cons_succ]
      refine wpL_pure (.int .i64 ((k + 1 : Nat) : Int)) rfl (by kernel_rfl) ?_
      simp only [Act.put, List.setIfInBounds_toArray, List.set_cons_zero, List.set_cons_succ]
      unfold wpList
      go_roundw
      case rel => first | exact ⟨_, rfl, NX⟩ | ((repeat apply Exists.intro); exact ⟨⟨_, rfl, NX⟩, rfl⟩)
      case measure => simp [intOf]; have := HK.out; omega
    · have EK : Hid (k = 2) := Lib.hid (by have := RI.out.1; omega)
      clear hlt
      go_upto_region 3 with (fail)
      refine wp_region_lit ?_
      refine wpL_pure (.bool false) rfl (run_lti Try.underlying3 rfl rfl rfl (by have := EK.out; rw [decide_eq_false_iff_not]; omega)) ?_
      simp only [Act.put, List.setIfInBounds_toArray, List.set_cons_zero, List.set_cons_succ]
      go_upto_region 8 with (fail)
      refine wp_region_lit ?_
      refine wpL_pure (u3) rfl (by kernel_rfl) ?_
      simp only [Act.put, List.setIfInBounds_toArray, List.set_cons_zero, List.set_cons_succ]
      refine wpL_pure (u3) rfl (by kernel_rfl) ?_
      simp only [Act.put, List.setIfInBounds_toArray, List.set_cons_zero, List.set_cons_succ]
      go_wp2_with fail
      go_ret
      exact ⟨_, rfl, RI.out.2.1, by rw [F1.out.2.2.1]; exact (by have q := RI.out.2.2.1; rw [EK.out] at q; exact q : Own wr (g4 + 1) u3 (secV s c nt)).mono (by omega)⟩
end Go.Proofs.Yteabblmhcjpboaa.D
