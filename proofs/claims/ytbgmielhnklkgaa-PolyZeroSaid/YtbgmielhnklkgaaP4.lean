import Derived.Test.YtbgmielhnklkgaaP3
import Derived.Test.YtbgmielhnklkgaaExt
import Derived.Deep.RegionHeld3
import Derived.Deep.QuietTactic
import Derived.BigQuiet
namespace Go.Proofs.Ytbgmielhnklkgaa
open Go.RowKit

def keyl (K : Nat → Nat) : List Value := (List.range 32).map fun (j : Nat) => Value.int .u8 (K j : Int)
theorem key_cell {w : World} {g : Nat} {K : Nat → Nat} (h : Blk w g 23 (keyl K).toArray) (j : Nat) (hj : j < 32) : w.cell? ⟨g, j, none⟩ = some (.int .u8 (K j : Nat)) := by
  rw [h.cell]
  simp [keyl, List.getElem?_range hj]
theorem write_nil (w : World) (gs : Nat) : Calls Try.prog 15 #[.pointer (some ⟨gs, 0, none⟩), .slice none 0 0] w fun e w' => e = .returned (.tuple #[]) ∧ w = w' := by
  go_enter Try.func15, Try.ntmps15
  go_wp2_with fail
  refine wp_loop_rounds 1 ?_
  rw [rounds_succ]
  go_wp2_with fail
  go_end0
  exact ⟨rfl, rfl⟩
def sum0 : List Value := [.int .u64 0, .int .u64 0, .int .u64 0, .int .u64 0, .int .u64 0, .int .u8 0, .int .u8 0, .int .u8 0, .int .u8 0, .int .u8 0, .int .u8 0, .int .u8 0, .int .u8 0, .int .u8 0, .int .u8 0, .int .u8 0, .int .u8 0, .int .u8 0, .int .u8 0, .int .u8 0, .int .u8 0, .int .i64 0]
theorem le_zero (x : Nat → Nat) (hx : ∀ j, j < 8 → x j = 0) : ∀ k, k ≤ 8 → le x k = 0
  | 0, _ => rfl
  | k + 1, h => by rw [le, le_zero x hx k (by omega), hx k (by omega)]; simp
theorem number_at (w : World) (g off n c : Nat) (K : Nat → Nat) (hK : ∀ j, K j < 256) (h8 : off + 8 ≤ 32) (hn : 8 ≤ n) (hm : n ≤ maxLen) (hb : Blk w g 23 (keyl K).toArray) :
    Calls Try.prog 14 #[.slice (some ⟨g, off, none⟩) n c] w fun e w' => e = .returned (.int .u64 (le (fun j => K (off + j)) 8 : Nat)) ∧ w = w' :=
  number_any w g off n c (fun j => K (off + j)) (fun j => hK _) hn hm (fun j hj => key_cell hb _ (by omega))
theorem number_zero (w : World) (g off n c : Nat) (K : Nat → Nat) (hK : ∀ j, K j < 256) (h8 : off + 8 ≤ 32) (hn : 8 ≤ n) (hm : n ≤ maxLen) (hb : Blk w g 23 (keyl K).toArray) (hz : ∀ j, j < 8 → K (off + j) = 0) :
    Calls Try.prog 14 #[.slice (some ⟨g, off, none⟩) n c] w fun e w' => e = .returned (.int .u64 0) ∧ w = w' := by
  have h := number_at w g off n c K hK h8 hn hm hb
  rw [le_zero _ hz 8 (by omega)] at h
  exact h
set_option maxRecDepth 100000 in
set_option maxHeartbeats 4000000 in
theorem code_nil (w : World) (K : Nat → Nat) (hK : ∀ j, K j < 256) (hz : ∀ j, j < 16 → K j = 0) (gp : Nat) (hp : w.cell? ⟨gp, 0, none⟩ = some (.slice none 0 0)) :
    Calls Try.prog 10 #[.agg (keyl K).toArray, .slice (some ⟨gp, 0, none⟩) 1 1] w fun e w' => e = .returned (.agg (outb (le (fun j => K (16 + j)) 8) (le (fun j => K (24 + j)) 8) 8).toArray) ∧ Below w.heap.size w w' := by
  have HK := Lib.hid hK
  have n0 : Hid (∀ j, j < 8 → K (0 + j) = 0) := Lib.hid (fun j hj => hz _ (by omega))
  have n8 : Hid (∀ j, j < 8 → K (8 + j) = 0) := Lib.hid (fun j hj => hz _ (by omega))
  have HP := Lib.hid hp
  clear hK hz hp
  go_enter Try.func10, Try.ntmps10
  go_upto_region 1 with (fail)
  obtain ⟨W, hW⟩ : ∃ V, V = (w.alloc (.cells (keyl K).toArray 23)).alloc (.cells #[.int .u8 0, .int .u8 0, .int .u8 0, .int .u8 0, .int .u8 0, .int .u8 0, .int .u8 0, .int .u8 0, .int .u8 0, .int .u8 0, .int .u8 0, .int .u8 0, .int .u8 0, .int .u8 0, .int .u8 0, .int .u8 0] 26) := ⟨_, rfl⟩
  rw [← hW]
  have hk : Blk W w.heap.size 23 (keyl K).toArray := by rw [hW]; exact (Blk.new _ _ _).alloc _
  have hr : Blk W (w.heap.size + 1) 26 #[.int .u8 0, .int .u8 0, .int .u8 0, .int .u8 0, .int .u8 0, .int .u8 0, .int .u8 0, .int .u8 0, .int .u8 0, .int .u8 0, .int .u8 0, .int .u8 0, .int .u8 0, .int .u8 0, .int .u8 0, .int .u8 0] := by rw [hW]; exact Blk.new' _ _ _ _ (by simp)
  have hbw : Below w.heap.size w W := by rw [hW]; exact ((Below.refl _ _).alloc (Nat.le_refl _) _).alloc (by simp) _
  have GP : Hid (gp < w.heap.size) := Lib.hid (World.block_lt_of_cell? w _ HP.out)
  have hp : W.cell? ⟨gp, 0, none⟩ = some (.slice none 0 0) := (hbw.cell (p := ⟨gp, 0, none⟩) GP.out).trans HP.out
  clear hW HP
  generalize hg1 : w.heap.size + 1 = g1 at *
  generalize hg0 : w.heap.size = g0 at hk hbw GP ⊢
  have G0 := Lib.hid hg0
  have G1 := Lib.hid hg1
  clear hg0 hg1
  have HKEY : Hid (∀ w, Ext W.drew w → Blk w g0 23 (keyl K).toArray) := Lib.hid (fun w hw => Blk.keep (w := W.drew) hk hw hk.lt)
  have HRES : Hid (∀ w, Ext W.drew w → Blk w g1 26 #[.int .u8 0, .int .u8 0, .int .u8 0, .int .u8 0, .int .u8 0, .int .u8 0, .int .u8 0, .int .u8 0, .int .u8 0, .int .u8 0, .int .u8 0, .int .u8 0, .int .u8 0, .int .u8 0, .int .u8 0, .int .u8 0]) := Lib.hid (fun w hw => Blk.keep (w := W.drew) hr hw hr.lt)
  have HBW : Hid (∀ X, Ext W.drew X → Below g0 w X) := Lib.hid (fun X hX => hbw.drew.trans (Below.mono hX (Nat.le_of_lt hk.lt)))
  have HPC : Hid (∀ w, Ext W.drew w → w.cell? ⟨gp, 0, none⟩ = some (.slice none 0 0)) := Lib.hid (fun w hw => (Below.cell (p := ⟨gp, 0, none⟩) hw (World.block_lt_of_cell? W _ hp)).trans hp)
  have LW : Hid (g1 < W.drew.heap.size ∧ g0 < W.drew.heap.size) := Lib.hid ⟨hr.lt, hk.lt⟩
  clear hk hr hbw hp
  refine region_ext (kindsOf [isV (.slice (some ⟨g0, 0, none⟩) 32 32), isV (.int .u64 0), isV (.int .u64 0), isV (.slice (some ⟨g0, 8, none⟩) 24 24), isV (.int .u64 0), isV (.int .u64 0), isV (.agg #[.int .u64 0, .int .u64 0]), isV (.agg sum0.toArray), isNew W.drew.heap.size 40 #[.int .u64 0, .int .u64 0, .int .u64 0, .int .u64 0, .int .u64 0, .int .u8 0, .int .u8 0, .int .u8 0, .int .u8 0, .int .u8 0, .int .u8 0, .int .u8 0, .int .u8 0, .int .u8 0, .int .u8 0, .int .u8 0, .int .u8 0, .int .u8 0, .int .u8 0, .int .u8 0, .int .u8 0, .int .i64 0]]) (kindsOf_stays _ (by
    intro R hR v
    simp only [List.mem_cons, List.not_mem_nil, or_false] at hR
    rcases hR with rfl | rfl | rfl | rfl | rfl | rfl | rfl | rfl | rfl
    all_goals first | exact stays_isV _ _ | exact stays_isNew _ _ _ _)) 9 (by kernel_rfl) (by kernel_rfl) ?_
  simp only [List.take_succ_cons, List.take_zero, List.drop_succ_cons, List.drop_zero]
  refine wpExt_val (.slice (some ⟨g0, 0, none⟩) 32 32) rfl rfl (fun w hw => by kernel_rfl) ?_
  simp only [Act.put, List.setIfInBounds_toArray, List.set_cons_zero, List.set_cons_succ]
  refine wpExt_call (.int .u64 0) 14 #[.slice (some ⟨g0, 0, none⟩) 32 32] rfl rfl (fun w => by kernel_rfl) (fun w hw => (number_zero w g0 0 32 32 K HK.out (by omega) (by omega) (by unfold maxLen; omega) (HKEY.out w hw) n0.out).mono (fun e w' ⟨he, hx⟩ => ⟨he, by subst hx; exact Ext.refl _⟩)) ?_
  simp only [Act.put, List.setIfInBounds_toArray, List.set_cons_zero, List.set_cons_succ]
  refine wpExt_val (.int .u64 0) rfl rfl (fun w hw => by kernel_rfl) ?_
  simp only [Act.put, List.setIfInBounds_toArray, List.set_cons_zero, List.set_cons_succ]
  refine wpExt_val (.slice (some ⟨g0, 8, none⟩) 24 24) rfl rfl (fun w hw => by kernel_rfl) ?_
  simp only [Act.put, List.setIfInBounds_toArray, List.set_cons_zero, List.set_cons_succ]
  refine wpExt_call (.int .u64 0) 14 #[.slice (some ⟨g0, 8, none⟩) 24 24] rfl rfl (fun w => by kernel_rfl) (fun w hw => (number_zero w g0 8 24 24 K HK.out (by omega) (by omega) (by unfold maxLen; omega) (HKEY.out w hw) n8.out).mono (fun e w' ⟨he, hx⟩ => ⟨he, by subst hx; exact Ext.refl _⟩)) ?_
  simp only [Act.put, List.setIfInBounds_toArray, List.set_cons_zero, List.set_cons_succ]
  refine wpExt_val (.int .u64 0) rfl rfl (fun w hw => by kernel_rfl) ?_
  simp only [Act.put, List.setIfInBounds_toArray, List.set_cons_zero, List.set_cons_succ]
  refine wpExt_val (.agg #[.int .u64 0, .int .u64 0]) rfl rfl (fun w hw => by kernel_rfl) ?_
  simp only [Act.put, List.setIfInBounds_toArray, List.set_cons_zero, List.set_cons_succ]
  refine wpExt_val (.agg sum0.toArray) rfl rfl (fun w hw => by kernel_rfl) ?_
  simp only [Act.put, List.setIfInBounds_toArray, List.set_cons_zero, List.set_cons_succ]
  refine wpExt_new 40 #[.int .u64 0, .int .u64 0, .int .u64 0, .int .u64 0, .int .u64 0, .int .u8 0, .int .u8 0, .int .u8 0, .int .u8 0, .int .u8 0, .int .u8 0, .int .u8 0, .int .u8 0, .int .u8 0, .int .u8 0, .int .u8 0, .int .u8 0, .int .u8 0, .int .u8 0, .int .u8 0, .int .u8 0, .int .i64 0] rfl rfl (fun w => by kernel_rfl) (fun b hb => ?_)
  simp only [Act.put, List.setIfInBounds_toArray, List.set_cons_zero, List.set_cons_succ]
  refine wpExt_nil ?_
  intro W1 hW1 hF
  have BN : Hid (Blk W1 b 40 #[.int .u64 0, .int .u64 0, .int .u64 0, .int .u64 0, .int .u64 0, .int .u8 0, .int .u8 0, .int .u8 0, .int .u8 0, .int .u8 0, .int .u8 0, .int .u8 0, .int .u8 0, .int .u8 0, .int .u8 0, .int .u8 0, .int .u8 0, .int .u8 0, .int .u8 0, .int .u8 0, .int .u8 0, .int .i64 0]) := Lib.hid (by
    obtain ⟨b', h1, _, h3⟩ := hF.2
    have e : b = b' := by simpa using h1
    rw [e]; exact h3)
  have NG : Hid (b ≠ g1 ∧ b ≠ g0 ∧ g1 < b ∧ g0 < b) := Lib.hid (by have := LW.out; omega)
  have K1 : Hid (Blk W1 g0 23 (keyl K).toArray) := Lib.hid (HKEY.out _ hW1)
  have R1 : Hid (Blk W1 g1 26 #[.int .u8 0, .int .u8 0, .int .u8 0, .int .u8 0, .int .u8 0, .int .u8 0, .int .u8 0, .int .u8 0, .int .u8 0, .int .u8 0, .int .u8 0, .int .u8 0, .int .u8 0, .int .u8 0, .int .u8 0, .int .u8 0]) := Lib.hid (HRES.out _ hW1)
  have B1 : Hid (Below g0 w W1) := Lib.hid (HBW.out _ hW1)
  have P1 : Hid (W1.cell? ⟨gp, 0, none⟩ = some (.slice none 0 0)) := Lib.hid (HPC.out _ hW1)
  clear hF hW1 HKEY HRES HBW HPC
  go_upto_region 3 with (refine wpList_store_row rfl 40 _ _ rfl b _ rfl rfl 40 _ BN.out (by kernel_rfl) rfl (by kernel_rfl) ?_)
  obtain ⟨W2, hW2⟩ : ∃ V, V = W1.setRow b sum0.toArray := ⟨_, rfl⟩
  rw [← hW2]
  have hb2 : Blk W2 b 40 sum0.toArray := by
    have h := BN.out
    rw [hW2]
    exact setRow_heap _ _ _ _ _ _ h
  have K2 : Hid (Blk W2 g0 23 (keyl K).toArray) := Lib.hid (by rw [hW2]; exact (setRow_other _ _ _ _ (by have := NG.out; omega)).trans K1.out)
  have R2 : Hid (Blk W2 g1 26 #[.int .u8 0, .int .u8 0, .int .u8 0, .int .u8 0, .int .u8 0, .int .u8 0, .int .u8 0, .int .u8 0, .int .u8 0, .int .u8 0, .int .u8 0, .int .u8 0, .int .u8 0, .int .u8 0, .int .u8 0, .int .u8 0]) := Lib.hid (by rw [hW2]; exact (setRow_other _ _ _ _ (by have := NG.out; omega)).trans R1.out)
  have B2 : Hid (Below g0 w W2) := Lib.hid (by rw [hW2]; exact below_setRow B1.out (by have := NG.out; omega) _)
  have c20 : W2.cell? ⟨gp, 0, none⟩ = some (.slice none 0 0) := by
    have h : Below b W1 W2 := by rw [hW2]; exact below_setRow (Below.refl _ _) (Nat.le_refl _) _
    exact (h.cell (p := ⟨gp, 0, none⟩) (by show gp < b; have := GP.out; have := NG.out; omega)).trans P1.out
  clear hW2
  refine wp_loop_rounds 2 ?_
  rw [rounds_succ]
  go_upto_region 4 with (fail)
  refine wp_region_lit ?_
  refine wpL_pure (.pointer (some ⟨gp, 0, none⟩)) rfl (by kernel_rfl) ?_
  simp only [Act.put, List.setIfInBounds_toArray, List.set_cons_zero, List.set_cons_succ]
  refine wpL_pure (.slice none 0 0) rfl (run_load_one _ _ _ 24 _ _ rfl gp 0 rfl c20 (by kernel_rfl)) ?_
  simp only [Act.put, List.setIfInBounds_toArray, List.set_cons_zero, List.set_cons_succ]
  refine wpL_pure (.slice none 0 0) rfl (by kernel_rfl) ?_
  simp only [Act.put, List.setIfInBounds_toArray, List.set_cons_zero, List.set_cons_succ]
  have C2 := Lib.hid c20
  have HB2 := Lib.hid hb2
  clear c20 hb2
  go_upto_region 5 with (fail)
  refine wp_region_lit ?_
  refine wpL_pure (.slice none 0 0) rfl (by kernel_rfl) ?_
  simp only [Act.put, List.setIfInBounds_toArray, List.set_cons_zero, List.set_cons_succ]
  refine wpL_call 15 #[.pointer (some ⟨b, 0, none⟩), .slice none 0 0] rfl (by kernel_rfl) ((write_nil W2 b).mono fun e w9 ⟨he, hx⟩ => ⟨_, he, ?_⟩)
  subst hx
  simp only [Act.put, List.setIfInBounds_toArray, List.set_cons_zero, List.set_cons_succ]
  go_upto_region 6 with (fail)
  refine wp_region_lit ?_
  refine wpL_pure (.int .i64 1) rfl (by kernel_rfl) ?_
  simp only [Act.put, List.setIfInBounds_toArray, List.set_cons_zero, List.set_cons_succ]
  refine wpL_pure (.int .i64 1) rfl (by kernel_rfl) ?_
  simp only [Act.put, List.setIfInBounds_toArray, List.set_cons_zero, List.set_cons_succ]
  go_upto_region 7 with (fail)
  rw [rounds_succ]
  go_upto_region 7 with (fail)
  refine wp_region_lit ?_
  refine wpL_pure (.pointer (some ⟨b, 21, none⟩)) rfl (by kernel_rfl) ?_
  simp only [Act.put, List.setIfInBounds_toArray, List.set_cons_zero, List.set_cons_succ]
  refine wpL_pure (.int .i64 0) rfl (run_load_one _ _ _ 3 _ _ rfl b 21 rfl (HB2.out.cell 21) (by kernel_rfl)) ?_
  simp only [Act.put, List.setIfInBounds_toArray, List.set_cons_zero, List.set_cons_succ]
  refine wpL_pure (.bool false) rfl (by kernel_rfl) ?_
  simp only [Act.put, List.setIfInBounds_toArray, List.set_cons_zero, List.set_cons_succ]
  go_upto_region 9 with (fail)
  have S0 : Hid (Below g0 w W2 ∧ Blk W2 g0 23 (keyl K).toArray ∧ Nought W2 b ∧ Blk W2 g1 26 #[.int .u8 0, .int .u8 0, .int .u8 0, .int .u8 0, .int .u8 0, .int .u8 0, .int .u8 0, .int .u8 0, .int .u8 0, .int .u8 0, .int .u8 0, .int .u8 0, .int .u8 0, .int .u8 0, .int .u8 0, .int .u8 0] ∧ b < W2.heap.size ∧ g0 < W2.heap.size ∧ g1 < W2.heap.size) := Lib.hid ⟨B2.out, K2.out, ⟨HB2.out.cell 0, HB2.out.cell 1, HB2.out.cell 2⟩, R2.out, HB2.out.lt, K2.out.lt, R2.out.lt⟩
  clear B2 K2 R2 HB2 C2
  refine region_held (fun X => Below g0 w X ∧ Blk X g0 23 (keyl K).toArray ∧ Nought X b ∧ Blk X g1 26 #[.int .u8 0, .int .u8 0, .int .u8 0, .int .u8 0, .int .u8 0, .int .u8 0, .int .u8 0, .int .u8 0, .int .u8 0, .int .u8 0, .int .u8 0, .int .u8 0, .int .u8 0, .int .u8 0, .int .u8 0, .int .u8 0] ∧ b < X.heap.size ∧ g0 < X.heap.size ∧ g1 < X.heap.size) 5 (by kernel_rfl) (by kernel_rfl) (by obtain ⟨a1, a2, a3, a4, a5⟩ := S0.out; exact ⟨a1.drew, a2, a3, a4, a5⟩) ?_
  simp only [List.take_succ_cons, List.take_zero, List.drop_succ_cons, List.drop_zero]
  refine wpHeld_cons (.slice (some ⟨g0, 16, none⟩) 16 16) rfl (fun w h => heldRun_value (by kernel_rfl) h) ?_
  simp only [Act.put, List.setIfInBounds_toArray, List.set_cons_zero, List.set_cons_succ]
  refine wpHeld_call (.int .u64 (le (fun j => K (16 + j)) 8 : Nat)) 14 #[.slice (some ⟨g0, 16, none⟩) 16 16] rfl (fun w => by kernel_rfl) (fun w h => (number_at w g0 16 16 16 K HK.out (by omega) (by omega) (by unfold maxLen; omega) h.2.1).mono (fun e w' ⟨he, hx⟩ => ⟨he, by subst hx; exact h⟩)) ?_
  simp only [Act.put, List.setIfInBounds_toArray, List.set_cons_zero, List.set_cons_succ]
  refine wpHeld_cons (.slice (some ⟨g0, 24, none⟩) 8 8) rfl (fun w h => heldRun_value (by kernel_rfl) h) ?_
  simp only [Act.put, List.setIfInBounds_toArray, List.set_cons_zero, List.set_cons_succ]
  refine wpHeld_call (.int .u64 (le (fun j => K (24 + j)) 8 : Nat)) 14 #[.slice (some ⟨g0, 24, none⟩) 8 8] rfl (fun w => by kernel_rfl) (fun w h => (number_at w g0 24 8 8 K HK.out (by omega) (by omega) (by unfold maxLen; omega) h.2.1).mono (fun e w' ⟨he, hx⟩ => ⟨he, by subst hx; exact h⟩)) ?_
  simp only [Act.put, List.setIfInBounds_toArray, List.set_cons_zero, List.set_cons_succ]
  refine wpHeld_call (.agg (outb (le (fun j => K (16 + j)) 8) (le (fun j => K (24 + j)) 8) 8).toArray) 17 #[.pointer (some ⟨b, 0, none⟩), .int .u64 (le (fun j => K (16 + j)) 8 : Nat), .int .u64 (le (fun j => K (24 + j)) 8 : Nat)] rfl (fun w => by kernel_rfl) (fun w h => (end_zero w b _ _ h.2.2.1 (le_64 _ (fun j => HK.out _) 8 (by omega)) (le_64 _ (fun j => HK.out _) 8 (by omega))).mono (fun e w' ⟨he, hx⟩ => ⟨he, ?_⟩)) ?_
  · obtain ⟨h1, h2, ⟨n0, n1, n2⟩, h4, h5, h6, h7⟩ := h
    exact ⟨Below.trans h1 (Below.mono hx (Nat.le_of_lt h6)), h2.keep hx h6, ⟨(hx.cell (p := ⟨b, 0, none⟩) h5).trans n0, (hx.cell (p := ⟨b, 1, none⟩) h5).trans n1, (hx.cell (p := ⟨b, 2, none⟩) h5).trans n2⟩, h4.keep hx h7, Nat.lt_of_lt_of_le h5 hx.size, Nat.lt_of_lt_of_le h6 hx.size, Nat.lt_of_lt_of_le h7 hx.size⟩
  simp only [Act.put, List.setIfInBounds_toArray, List.set_cons_zero, List.set_cons_succ]
  refine wpHeld_nil ?_
  intro w' ⟨h1, _, _, h4, _, _, _⟩
  have HR := Lib.hid h4
  have HW := Lib.hid h1
  clear h1 h4 S0
  refine wpList_store_row rfl 26 _ _ rfl g1 _ rfl rfl 26 _ HR.out (size26 _ _ _) (sz16 _ _ _) (one26 _ _ _) ?_
  go_wp2_with fail
  refine bodyPost_ret (results_cell_row rfl _ _ g1 26 _ (0, 0) _ rfl (setRow_heap _ _ _ _ _ _ HR.out) Try.underlying26 rfl (size26 _ _ _)) rfl ⟨rfl, ?_⟩
  rw [G0.out]
  exact below_setRow HW.out (by have := G0.out; have := G1.out; omega) _
end Go.Proofs.Ytbgmielhnklkgaa
