import Derived.Test.YtfhjfpgfbeiacaaDoorHaH1
namespace Go.Proofs.YtfhjfpgfbeiacaaDoor.Ha
open Go Go.RowKit
set_option maxRecDepth 100000

theorem or_w (x y k : Nat) (hx : 2 ^ k * (x / 2 ^ k) = x) (hy : y < 2 ^ k) (hb : x < 4294967296) (hb2 : y < 4294967296) : bits .or .u32 (x : Int) (y : Int) = ((x + y : Nat) : Int) := by
  rw [u32_or_nat _ _ hb hb2]
  congr 1
  have h := Nat.two_pow_add_eq_or_of_lt hy (x / 2 ^ k)
  rw [hx] at h
  exact h.symm
theorem or_w1 {b0 b1 b2 b3 : Nat} (h : b0 < 256 ∧ b1 < 256 ∧ b2 < 256 ∧ b3 < 256) : bits .or .u32 ((b0 : Int) * 16777216 % 4294967296) ((b1 : Int) * 65536 % 4294967296) = ((b0 * 16777216 + b1 * 65536 : Nat) : Int) := by
  rw [← or_w (b0 * 16777216) (b1 * 65536) 24 (by omega) (by omega) (by omega) (by omega)]
  congr 1 <;> omega
theorem or_w2 {b0 b1 b2 b3 : Nat} (h : b0 < 256 ∧ b1 < 256 ∧ b2 < 256 ∧ b3 < 256) : bits .or .u32 ((b0 * 16777216 + b1 * 65536 : Nat) : Int) ((b2 : Int) * 256 % 4294967296) = ((b0 * 16777216 + b1 * 65536 + b2 * 256 : Nat) : Int) := by
  rw [← or_w (b0 * 16777216 + b1 * 65536) (b2 * 256) 16 (by omega) (by omega) (by omega) (by omega)]
  congr 1; omega
theorem or_w3 {b0 b1 b2 b3 : Nat} (h : b0 < 256 ∧ b1 < 256 ∧ b2 < 256 ∧ b3 < 256) : bits .or .u32 ((b0 * 16777216 + b1 * 65536 + b2 * 256 : Nat) : Int) (b3 : Int) = ((be4 b0 b1 b2 b3 : Nat) : Int) :=
  or_w (b0 * 16777216 + b1 * 65536 + b2 * 256) b3 8 (by omega) (by omega) (by omega) (by omega)
theorem size5 (w : World) : (sizeOf 5).run Tryd.prog w = .ok 1 w := by kernel_rfl
theorem size48 (w : World) : (sizeOf 94).run Tryd.prog w = .ok 1 w := by kernel_rfl
attribute [local irreducible] wpList
set_option maxHeartbeats 1000000 in
theorem word_any (w : World) (g o n c b0 b1 b2 b3 : Nat) (hS : w.cell? ⟨g, o, none⟩ = some (.int .u8 (b0 : Int)) ∧ w.cell? ⟨g, o + 1, none⟩ = some (.int .u8 (b1 : Int)) ∧ w.cell? ⟨g, o + 2, none⟩ = some (.int .u8 (b2 : Int)) ∧ w.cell? ⟨g, o + 3, none⟩ = some (.int .u8 (b3 : Int))) (hn : 4 ≤ n ∧ n ≤ maxLen) (hc : b0 < 256 ∧ b1 < 256 ∧ b2 < 256 ∧ b3 < 256) :
    Calls Tryd.prog 76 #[.slice (some ⟨g, o, none⟩) n c] w fun e w' => e = .returned (.int .u32 (be4 b0 b1 b2 b3 : Nat)) ∧ Below w.heap.size w w' := by
  have HS := Lib.hid hS
  have HN := Lib.hid hn
  have HC := Lib.hid hc
  clear hS hn hc
  go_enter Tryd.func76, Tryd.ntmps76
  go_upto_region 0 with (fail)
  refine wp_region_lit ?_
  refine wpL_pure (.int .u32 0) rfl (by kernel_rfl) ?_
  simp only [Act.put, List.setIfInBounds_toArray, List.set_cons_zero, List.set_cons_succ]
  go_upto_region 1 with (fail)
  refine region_held (fun X => Below w.heap.size w X ∧ X.cell? ⟨g, o, none⟩ = some (.int .u8 (b0 : Int)) ∧ X.cell? ⟨g, o + 1, none⟩ = some (.int .u8 (b1 : Int)) ∧ X.cell? ⟨g, o + 2, none⟩ = some (.int .u8 (b2 : Int)) ∧ X.cell? ⟨g, o + 3, none⟩ = some (.int .u8 (b3 : Int))) 22 (by kernel_rfl) (by kernel_rfl) (by exact ⟨(Below.refl _ _).drew, HS.out⟩) ?_
  simp only [List.take_succ_cons, List.take_zero, List.drop_succ_cons, List.drop_zero]
  refine wpHeld_cons (.slice (some ⟨g, o, none⟩) n c) rfl (fun w h => heldRun_value (by kernel_rfl) h) ?_
  simp only [Act.put, List.setIfInBounds_toArray, List.set_cons_zero, List.set_cons_succ]
  refine wpHeld_cons (.pointer (some ⟨g, o, none⟩)) rfl (fun w h => heldRun_value (run_idx _ _ _ _ _ g o n c 0 rfl rfl rfl (by have := HN.out; omega) HN.out.2) h) ?_
  simp only [Act.put, List.setIfInBounds_toArray, List.set_cons_zero, List.set_cons_succ]
  refine wpHeld_cons (.int .u8 (b0 : Int)) rfl (fun w h => heldRun_value (run_load_one _ _ _ 5 _ _ rfl (g) (o) rfl (h.2.1) (by kernel_rfl)) h) ?_
  simp only [Act.put, List.setIfInBounds_toArray, List.set_cons_zero, List.set_cons_succ]
  refine wpHeld_cons (.int .u32 (b0 : Int)) rfl (fun w h => heldRun_value (run_convi Tryd.underlying5 Tryd.underlying94 rfl rfl _ (by rw [IntKind.wrap_u32]; have := HC.out; omega)) h) ?_
  simp only [Act.put, List.setIfInBounds_toArray, List.set_cons_zero, List.set_cons_succ]
  refine wpHeld_cons (.int .u32 ((b0 : Int) * 16777216 % 4294967296)) rfl (fun w h => heldRun_value (run_shl32 24 16777216 (by simp) _ _ _ _ _ _ rfl rfl rfl (by have := HC.out; omega)) h) ?_
  simp only [Act.put, List.setIfInBounds_toArray, List.set_cons_zero, List.set_cons_succ]
  refine wpHeld_cons (.slice (some ⟨g, o, none⟩) n c) rfl (fun w h => heldRun_value (by kernel_rfl) h) ?_
  simp only [Act.put, List.setIfInBounds_toArray, List.set_cons_zero, List.set_cons_succ]
  refine wpHeld_cons (.pointer (some ⟨g, o + 1, none⟩)) rfl (fun w h => heldRun_value (run_idx _ _ _ _ _ g o n c 1 rfl rfl rfl (by have := HN.out; omega) HN.out.2) h) ?_
  simp only [Act.put, List.setIfInBounds_toArray, List.set_cons_zero, List.set_cons_succ]
  refine wpHeld_cons (.int .u8 (b1 : Int)) rfl (fun w h => heldRun_value (run_load_one _ _ _ 5 _ _ rfl (g) (o + 1) rfl (h.2.2.1) (by kernel_rfl)) h) ?_
  simp only [Act.put, List.setIfInBounds_toArray, List.set_cons_zero, List.set_cons_succ]
  refine wpHeld_cons (.int .u32 (b1 : Int)) rfl (fun w h => heldRun_value (run_convi Tryd.underlying5 Tryd.underlying94 rfl rfl _ (by rw [IntKind.wrap_u32]; have := HC.out; omega)) h) ?_
  simp only [Act.put, List.setIfInBounds_toArray, List.set_cons_zero, List.set_cons_succ]
  refine wpHeld_cons (.int .u32 ((b1 : Int) * 65536 % 4294967296)) rfl (fun w h => heldRun_value (run_shl32 16 65536 (by simp) _ _ _ _ _ _ rfl rfl rfl (by have := HC.out; omega)) h) ?_
  simp only [Act.put, List.setIfInBounds_toArray, List.set_cons_zero, List.set_cons_succ]
  refine wpHeld_cons (.int .u32 ((b0 * 16777216 + b1 * 65536 : Nat) : Int)) rfl (fun w h => heldRun_value (run_biti (.inl rfl) Tryd.underlying94 rfl rfl rfl _ (or_w1 HC.out)) h) ?_
  simp only [Act.put, List.setIfInBounds_toArray, List.set_cons_zero, List.set_cons_succ]
  refine wpHeld_cons (.slice (some ⟨g, o, none⟩) n c) rfl (fun w h => heldRun_value (by kernel_rfl) h) ?_
  simp only [Act.put, List.setIfInBounds_toArray, List.set_cons_zero, List.set_cons_succ]
  refine wpHeld_cons (.pointer (some ⟨g, o + 2, none⟩)) rfl (fun w h => heldRun_value (run_idx _ _ _ _ _ g o n c 2 rfl rfl rfl (by have := HN.out; omega) HN.out.2) h) ?_
  simp only [Act.put, List.setIfInBounds_toArray, List.set_cons_zero, List.set_cons_succ]
  refine wpHeld_cons (.int .u8 (b2 : Int)) rfl (fun w h => heldRun_value (run_load_one _ _ _ 5 _ _ rfl (g) (o + 2) rfl (h.2.2.2.1) (by kernel_rfl)) h) ?_
  simp only [Act.put, List.setIfInBounds_toArray, List.set_cons_zero, List.set_cons_succ]
  refine wpHeld_cons (.int .u32 (b2 : Int)) rfl (fun w h => heldRun_value (run_convi Tryd.underlying5 Tryd.underlying94 rfl rfl _ (by rw [IntKind.wrap_u32]; have := HC.out; omega)) h) ?_
  simp only [Act.put, List.setIfInBounds_toArray, List.set_cons_zero, List.set_cons_succ]
  refine wpHeld_cons (.int .u32 ((b2 : Int) * 256 % 4294967296)) rfl (fun w h => heldRun_value (run_shl32 8 256 (by simp) _ _ _ _ _ _ rfl rfl rfl (by have := HC.out; omega)) h) ?_
  simp only [Act.put, List.setIfInBounds_toArray, List.set_cons_zero, List.set_cons_succ]
  refine wpHeld_cons (.int .u32 ((b0 * 16777216 + b1 * 65536 + b2 * 256 : Nat) : Int)) rfl (fun w h => heldRun_value (run_biti (.inl rfl) Tryd.underlying94 rfl rfl rfl _ (or_w2 HC.out)) h) ?_
  simp only [Act.put, List.setIfInBounds_toArray, List.set_cons_zero, List.set_cons_succ]
  refine wpHeld_cons (.slice (some ⟨g, o, none⟩) n c) rfl (fun w h => heldRun_value (by kernel_rfl) h) ?_
  simp only [Act.put, List.setIfInBounds_toArray, List.set_cons_zero, List.set_cons_succ]
  refine wpHeld_cons (.pointer (some ⟨g, o + 3, none⟩)) rfl (fun w h => heldRun_value (run_idx _ _ _ _ _ g o n c 3 rfl rfl rfl (by have := HN.out; omega) HN.out.2) h) ?_
  simp only [Act.put, List.setIfInBounds_toArray, List.set_cons_zero, List.set_cons_succ]
  refine wpHeld_cons (.int .u8 (b3 : Int)) rfl (fun w h => heldRun_value (run_load_one _ _ _ 5 _ _ rfl (g) (o + 3) rfl (h.2.2.2.2) (by kernel_rfl)) h) ?_
  simp only [Act.put, List.setIfInBounds_toArray, List.set_cons_zero, List.set_cons_succ]
  refine wpHeld_cons (.int .u32 (b3 : Int)) rfl (fun w h => heldRun_value (run_convi Tryd.underlying5 Tryd.underlying94 rfl rfl _ (by rw [IntKind.wrap_u32]; have := HC.out; omega)) h) ?_
  simp only [Act.put, List.setIfInBounds_toArray, List.set_cons_zero, List.set_cons_succ]
  refine wpHeld_cons (.int .u32 (be4 b0 b1 b2 b3 : Nat)) rfl (fun w h => heldRun_value (run_biti (.inl rfl) Tryd.underlying94 rfl rfl rfl _ (or_w3 HC.out)) h) ?_
  simp only [Act.put, List.setIfInBounds_toArray, List.set_cons_zero, List.set_cons_succ]
  refine wpHeld_nil ?_
  intro X h
  refine wpL_pure (.int .u32 (be4 b0 b1 b2 b3 : Nat)) rfl (by kernel_rfl) ?_
  simp only [Act.put, List.setIfInBounds_toArray, List.set_cons_zero, List.set_cons_succ]
  go_wp2_with fail
  go_ret
  exact ⟨rfl, h.1⟩
/-- (b []byte) putWord, into a block. -/
theorem put_any (w : World) (g t o n c x : Nat) (l : List Value) (hB : Blk w g t l.toArray) (hl : o + 4 ≤ l.length) (hn : 4 ≤ n ∧ n ≤ maxLen) (hx : x < 4294967296) :
    Calls Tryd.prog 57 #[.slice (some ⟨g, o, none⟩) n c, .int .u32 (x : Int)] w fun e w' => e = .returned (.tuple #[]) ∧ Blk w' g t ((((l.set o (.int .u8 ((x / 16777216 % 256 : Nat) : Int))).set (o + 1) (.int .u8 ((x / 65536 % 256 : Nat) : Int))).set (o + 2) (.int .u8 ((x / 256 % 256 : Nat) : Int))).set (o + 3) (.int .u8 ((x % 256 : Nat) : Int))).toArray ∧ w.grownBy w' (some g) := by
  have B0 : Hid (Blk w g t l.toArray ∧ w.grownBy w (some g)) := Lib.hid ⟨hB, gb_refl _ _⟩
  have HL := Lib.hid hl
  have HN := Lib.hid hn
  have HX := Lib.hid hx
  clear hB hl hn hx
  go_enter Tryd.func57, Tryd.ntmps57
  go_upto_region 0 with (fail)
  refine wp_region_lit ?_
  refine wpL_pure (.slice (some ⟨g, o, none⟩) n c) rfl (by kernel_rfl) ?_
  simp only [Act.put, List.setIfInBounds_toArray, List.set_cons_zero, List.set_cons_succ]
  refine wpL_pure (.slice (some ⟨g, o, none⟩) n c) rfl (by kernel_rfl) ?_
  simp only [Act.put, List.setIfInBounds_toArray, List.set_cons_zero, List.set_cons_succ]
  refine wpL_pure (.slice (some ⟨g, o, none⟩) n c) rfl (by kernel_rfl) ?_
  simp only [Act.put, List.setIfInBounds_toArray, List.set_cons_zero, List.set_cons_succ]
  refine wpL_pure (.slice (some ⟨g, o, none⟩) n c) rfl (by kernel_rfl) ?_
  simp only [Act.put, List.setIfInBounds_toArray, List.set_cons_zero, List.set_cons_succ]
  refine wpL_pure (.int .u32 (x : Int)) rfl (by kernel_rfl) ?_
  simp only [Act.put, List.setIfInBounds_toArray, List.set_cons_zero, List.set_cons_succ]
  refine wpL_pure (.int .u32 ((x : Int) / 16777216)) rfl (run_shr32 24 16777216 (by simp) _ _ _ _ _ _ rfl rfl rfl (by have := HX.out; omega)) ?_
  simp only [Act.put, List.setIfInBounds_toArray, List.set_cons_zero, List.set_cons_succ]
  refine wpL_pure (.int .u8 ((x / 16777216 % 256 : Nat) : Int)) rfl (run_convi Tryd.underlying94 Tryd.underlying5 rfl rfl _ (by rw [IntKind.wrap_u8]; omega)) ?_
  simp only [Act.put, List.setIfInBounds_toArray, List.set_cons_zero, List.set_cons_succ]
  refine wpL_pure (.int .u32 (x : Int)) rfl (by kernel_rfl) ?_
  simp only [Act.put, List.setIfInBounds_toArray, List.set_cons_zero, List.set_cons_succ]
  refine wpL_pure (.int .u32 ((x : Int) / 65536)) rfl (run_shr32 16 65536 (by simp) _ _ _ _ _ _ rfl rfl rfl (by have := HX.out; omega)) ?_
  simp only [Act.put, List.setIfInBounds_toArray, List.set_cons_zero, List.set_cons_succ]
  refine wpL_pure (.int .u8 ((x / 65536 % 256 : Nat) : Int)) rfl (run_convi Tryd.underlying94 Tryd.underlying5 rfl rfl _ (by rw [IntKind.wrap_u8]; omega)) ?_
  simp only [Act.put, List.setIfInBounds_toArray, List.set_cons_zero, List.set_cons_succ]
  refine wpL_pure (.int .u32 (x : Int)) rfl (by kernel_rfl) ?_
  simp only [Act.put, List.setIfInBounds_toArray, List.set_cons_zero, List.set_cons_succ]
  refine wpL_pure (.int .u32 ((x : Int) / 256)) rfl (run_shr32 8 256 (by simp) _ _ _ _ _ _ rfl rfl rfl (by have := HX.out; omega)) ?_
  simp only [Act.put, List.setIfInBounds_toArray, List.set_cons_zero, List.set_cons_succ]
  refine wpL_pure (.int .u8 ((x / 256 % 256 : Nat) : Int)) rfl (run_convi Tryd.underlying94 Tryd.underlying5 rfl rfl _ (by rw [IntKind.wrap_u8]; omega)) ?_
  simp only [Act.put, List.setIfInBounds_toArray, List.set_cons_zero, List.set_cons_succ]
  refine wpL_pure (.int .u32 (x : Int)) rfl (by kernel_rfl) ?_
  simp only [Act.put, List.setIfInBounds_toArray, List.set_cons_zero, List.set_cons_succ]
  refine wpL_pure (.int .u8 ((x % 256 : Nat) : Int)) rfl (run_convi Tryd.underlying94 Tryd.underlying5 rfl rfl _ (by rw [IntKind.wrap_u8]; omega)) ?_
  simp only [Act.put, List.setIfInBounds_toArray, List.set_cons_zero, List.set_cons_succ]
  refine wpL_pure (.pointer (some ⟨g, o, none⟩)) rfl (run_idx _ _ _ _ _ g o n c 0 rfl rfl rfl (by have := HN.out; omega) HN.out.2) ?_
  simp only [Act.put, List.setIfInBounds_toArray, List.set_cons_zero, List.set_cons_succ]
  refine wpL_store_one rfl rfl (g) (o) rfl (.int .u8 ((x / 16777216 % 256 : Nat) : Int)) rfl rfl size5 (by rw [B0.out.1.cell]; simp; have := HL.out; omega) (B0.out.1.free _) ?_
  simp only [Act.put, List.setIfInBounds_toArray, List.set_cons_zero, List.set_cons_succ]
  obtain ⟨w1, hw1⟩ : ∃ V, V = w.setCell ⟨g, o, none⟩ (.int .u8 ((x / 16777216 % 256 : Nat) : Int)) := ⟨_, rfl⟩
  rw [← hw1]
  have B1 : Hid (Blk w1 g t (l.set (o) (.int .u8 ((x / 16777216 % 256 : Nat) : Int))).toArray ∧ w.grownBy w1 (some g)) := Lib.hid (by rw [hw1]; exact ⟨Blk.set (l := l) B0.out.1 _ _, gb_set B0.out.2 _ _⟩)
  clear hw1 B0
  refine wpL_pure (.pointer (some ⟨g, o + 1, none⟩)) rfl (run_idx _ _ _ _ _ g o n c 1 rfl rfl rfl (by have := HN.out; omega) HN.out.2) ?_
  simp only [Act.put, List.setIfInBounds_toArray, List.set_cons_zero, List.set_cons_succ]
  refine wpL_store_one rfl rfl (g) (o + 1) rfl (.int .u8 ((x / 65536 % 256 : Nat) : Int)) rfl rfl size5 (by rw [B1.out.1.cell]; simp; have := HL.out; omega) (B1.out.1.free _) ?_
  simp only [Act.put, List.setIfInBounds_toArray, List.set_cons_zero, List.set_cons_succ]
  obtain ⟨w2, hw2⟩ : ∃ V, V = w1.setCell ⟨g, o + 1, none⟩ (.int .u8 ((x / 65536 % 256 : Nat) : Int)) := ⟨_, rfl⟩
  rw [← hw2]
  have B2 : Hid (Blk w2 g t ((l.set (o) (.int .u8 ((x / 16777216 % 256 : Nat) : Int))).set (o + 1) (.int .u8 ((x / 65536 % 256 : Nat) : Int))).toArray ∧ w.grownBy w2 (some g)) := Lib.hid (by rw [hw2]; exact ⟨Blk.set (l := (l.set (o) (.int .u8 ((x / 16777216 % 256 : Nat) : Int)))) B1.out.1 _ _, gb_set B1.out.2 _ _⟩)
  clear hw2 B1
  refine wpL_pure (.pointer (some ⟨g, o + 2, none⟩)) rfl (run_idx _ _ _ _ _ g o n c 2 rfl rfl rfl (by have := HN.out; omega) HN.out.2) ?_
  simp only [Act.put, List.setIfInBounds_toArray, List.set_cons_zero, List.set_cons_succ]
  refine wpL_store_one rfl rfl (g) (o + 2) rfl (.int .u8 ((x / 256 % 256 : Nat) : Int)) rfl rfl size5 (by rw [B2.out.1.cell]; simp; have := HL.out; omega) (B2.out.1.free _) ?_
  simp only [Act.put, List.setIfInBounds_toArray, List.set_cons_zero, List.set_cons_succ]
  obtain ⟨w3, hw3⟩ : ∃ V, V = w2.setCell ⟨g, o + 2, none⟩ (.int .u8 ((x / 256 % 256 : Nat) : Int)) := ⟨_, rfl⟩
  rw [← hw3]
  have B3 : Hid (Blk w3 g t (((l.set (o) (.int .u8 ((x / 16777216 % 256 : Nat) : Int))).set (o + 1) (.int .u8 ((x / 65536 % 256 : Nat) : Int))).set (o + 2) (.int .u8 ((x / 256 % 256 : Nat) : Int))).toArray ∧ w.grownBy w3 (some g)) := Lib.hid (by rw [hw3]; exact ⟨Blk.set (l := ((l.set (o) (.int .u8 ((x / 16777216 % 256 : Nat) : Int))).set (o + 1) (.int .u8 ((x / 65536 % 256 : Nat) : Int)))) B2.out.1 _ _, gb_set B2.out.2 _ _⟩)
  clear hw3 B2
  refine wpL_pure (.pointer (some ⟨g, o + 3, none⟩)) rfl (run_idx _ _ _ _ _ g o n c 3 rfl rfl rfl (by have := HN.out; omega) HN.out.2) ?_
  simp only [Act.put, List.setIfInBounds_toArray, List.set_cons_zero, List.set_cons_succ]
  refine wpL_store_one rfl rfl (g) (o + 3) rfl (.int .u8 ((x % 256 : Nat) : Int)) rfl rfl size5 (by rw [B3.out.1.cell]; simp; have := HL.out; omega) (B3.out.1.free _) ?_
  simp only [Act.put, List.setIfInBounds_toArray, List.set_cons_zero, List.set_cons_succ]
  obtain ⟨w4, hw4⟩ : ∃ V, V = w3.setCell ⟨g, o + 3, none⟩ (.int .u8 ((x % 256 : Nat) : Int)) := ⟨_, rfl⟩
  rw [← hw4]
  have B4 : Hid (Blk w4 g t ((((l.set (o) (.int .u8 ((x / 16777216 % 256 : Nat) : Int))).set (o + 1) (.int .u8 ((x / 65536 % 256 : Nat) : Int))).set (o + 2) (.int .u8 ((x / 256 % 256 : Nat) : Int))).set (o + 3) (.int .u8 ((x % 256 : Nat) : Int))).toArray ∧ w.grownBy w4 (some g)) := Lib.hid (by rw [hw4]; exact ⟨Blk.set (l := (((l.set (o) (.int .u8 ((x / 16777216 % 256 : Nat) : Int))).set (o + 1) (.int .u8 ((x / 65536 % 256 : Nat) : Int))).set (o + 2) (.int .u8 ((x / 256 % 256 : Nat) : Int)))) B3.out.1 _ _, gb_set B3.out.2 _ _⟩)
  clear hw4 B3
  go_wp2_with fail
  go_end0
  exact ⟨rfl, B4.out⟩
end Go.Proofs.YtfhjfpgfbeiacaaDoor.Ha
