import Derived.Test.YtbgmielhnklkgaaP2
namespace Go.Proofs.Ytbgmielhnklkgaa
open Go.RowKit

theorem add64_0 (n : Nat) (hn : n < 18446744073709551616) (w : World) : (callFunc 22 #[.int .u64 0, .int .u64 (n : Int), .int .u64 0]).run Try.prog w = .ok (.value (.tuple #[.int .u64 (n : Int), .int .u64 0])) w := by
  have e1 : ((0 : Int) + (n : Int) + 0) % 18446744073709551616 = n := by omega
  have e2 : ((0 : Int) + (n : Int) + 0) / 18446744073709551616 = 0 := by omega
  rw [run_callFunc_extern (fn := Try.f22) Try.func22 (by kernel_rfl) (by kernel_rfl) (by kernel_rfl) (e := add64Entry) (by kernel_rfl), run_add64 0 n 0 (by omega) (by omega) (by omega) (by omega), e1, e2]
  rfl
/-- a sum under way whose h is nought. -/
def Nought (w : World) (gs : Nat) : Prop := w.cell? ⟨gs, 0, none⟩ = some (.int .u64 0) ∧ w.cell? ⟨gs, 1, none⟩ = some (.int .u64 0) ∧ w.cell? ⟨gs, 2, none⟩ = some (.int .u64 0)
def EI (go : Nat) (B : Nat) (w : World) (a b k : Nat) (X : World) : Prop := Blk X go 26 (outb a b k).toArray ∧ Blk X (B) 26 #[.int .u8 0, .int .u8 0, .int .u8 0, .int .u8 0, .int .u8 0, .int .u8 0, .int .u8 0, .int .u8 0, .int .u8 0, .int .u8 0, .int .u8 0, .int .u8 0, .int .u8 0, .int .u8 0, .int .u8 0, .int .u8 0] ∧ Below B w X
theorem outb_zero (a b : Nat) : (outb a b 0).toArray = #[.int .u8 0, .int .u8 0, .int .u8 0, .int .u8 0, .int .u8 0, .int .u8 0, .int .u8 0, .int .u8 0, .int .u8 0, .int .u8 0, .int .u8 0, .int .u8 0, .int .u8 0, .int .u8 0, .int .u8 0, .int .u8 0] := by simp [outb, List.range, List.range.loop]
theorem size26 (a b k : Nat) : (Try.prog.info? 26).map (·.size) = some (outb a b k).toArray.size := by rw [show (outb a b k).toArray.size = 16 by simp [outb]]; kernel_rfl
theorem one26 (a b k : Nat) : (outb a b k).toArray.all (·.oneCell') = true := by simp [outb, Value.oneCell']
theorem sz16 (a b k : Nat) : (#[.int .u8 0, .int .u8 0, .int .u8 0, .int .u8 0, .int .u8 0, .int .u8 0, .int .u8 0, .int .u8 0, .int .u8 0, .int .u8 0, .int .u8 0, .int .u8 0, .int .u8 0, .int .u8 0, .int .u8 0, .int .u8 0] : Array Value).size = (outb a b k).toArray.size := by simp [outb]
theorem cell_lt {a b k : Nat} {w : World} {g : Nat} (h : Blk w g 26 (outb a b k).toArray) (i : Nat) (hi : i < 16) : ∃ v, w.cell? ⟨g, i, none⟩ = some v := by
  obtain ⟨v, hv⟩ := outb_cell a b k i hi
  exact ⟨v, (h.cell i).trans (by simpa using hv)⟩
theorem EI.next {go B : Nat} {w X : World} {a b : Nat} (k : Nat) (h : EI go B w a b k X) (hk : k < 8) (ne : go ≠ B) (lg : B ≤ go) (x y : Int) (hx : x = ((by8 a k : Nat) : Int)) (hy : y = ((by8 b k : Nat) : Int)) :
    EI go B w a b (k + 1) ((X.setCell ⟨go, k, none⟩ (.int .u8 x)).setCell ⟨go, 8 + k, none⟩ (.int .u8 y)).drew := by
  subst hx
  subst hy
  obtain ⟨ho, hr, hw⟩ := h
  have e := Blk.set (Blk.set ho k (.int .u8 ((by8 a k : Nat) : Int))) (8 + k) (.int .u8 ((by8 b k : Nat) : Int))
  rw [outb_next a b k hk] at e
  exact ⟨e, ((heap_setCell_other _ _ _ _ (Ne.symm ne)).trans (heap_setCell_other _ _ _ _ (Ne.symm ne))).trans hr, ((hw.setCell lg _).setCell lg _).drew⟩
set_option maxRecDepth 100000 in
set_option maxHeartbeats 4000000 in
theorem end_zero (w : World) (gs lo hi : Nat) (hz : Nought w gs) (hlo : lo < 18446744073709551616) (hhi : hi < 18446744073709551616) :
    Calls Try.prog 17 #[.pointer (some ⟨gs, 0, none⟩), .int .u64 (lo : Int), .int .u64 (hi : Int)] w fun e w' => e = .returned (.agg (outb lo hi 8).toArray) ∧ Below w.heap.size w w' := by
  have HLO := Lib.hid hlo
  have HHI := Lib.hid hhi
  have HGS : Hid (gs < w.heap.size) := Lib.hid (World.block_lt_of_cell? w _ hz.1)
  have HZ := Lib.hid hz
  clear hlo hhi hz
  go_enter Try.func17, Try.ntmps17
  go_upto_region 1 with (fail)
  obtain ⟨W, hW⟩ : ∃ V, V = w.alloc (.cells #[.int .u8 0, .int .u8 0, .int .u8 0, .int .u8 0, .int .u8 0, .int .u8 0, .int .u8 0, .int .u8 0, .int .u8 0, .int .u8 0, .int .u8 0, .int .u8 0, .int .u8 0, .int .u8 0, .int .u8 0, .int .u8 0] 26) := ⟨_, rfl⟩
  rw [← hW]
  have hB : Blk W w.heap.size 26 #[.int .u8 0, .int .u8 0, .int .u8 0, .int .u8 0, .int .u8 0, .int .u8 0, .int .u8 0, .int .u8 0, .int .u8 0, .int .u8 0, .int .u8 0, .int .u8 0, .int .u8 0, .int .u8 0, .int .u8 0, .int .u8 0] := by rw [hW]; exact Blk.new _ _ _
  have hbw : Below w.heap.size w W := by rw [hW]; exact (Below.refl _ _).alloc (Nat.le_refl _) _
  have c0 : W.cell? ⟨gs, 0, none⟩ = some (.int .u64 0) := (hbw.cell (p := ⟨gs, 0, none⟩) HGS.out).trans HZ.out.1
  have c1 : W.cell? ⟨gs, 1, none⟩ = some (.int .u64 0) := (hbw.cell (p := ⟨gs, 1, none⟩) HGS.out).trans HZ.out.2.1
  have c2 : W.cell? ⟨gs, 2, none⟩ = some (.int .u64 0) := (hbw.cell (p := ⟨gs, 2, none⟩) HGS.out).trans HZ.out.2.2
  have HB := Lib.hid hB
  have BW := Lib.hid hbw
  clear hW hB hbw HZ
  generalize hBB : w.heap.size = B at *
  have EB := Lib.hid hBB
  have LB : Hid (B < W.heap.size) := Lib.hid HB.out.lt
  clear hBB
  refine wp_region_lit ?_
  refine wpL_pure (.pointer (some ⟨gs, 0, none⟩)) rfl (by kernel_rfl) ?_
  simp only [Act.put, List.setIfInBounds_toArray, List.set_cons_zero, List.set_cons_succ]
  refine wpL_pure (.pointer (some ⟨gs, 0, none⟩)) rfl (by kernel_rfl) ?_
  simp only [Act.put, List.setIfInBounds_toArray, List.set_cons_zero, List.set_cons_succ]
  refine wpL_pure (.pointer (some ⟨gs, 0, none⟩)) rfl (by kernel_rfl) ?_
  simp only [Act.put, List.setIfInBounds_toArray, List.set_cons_zero, List.set_cons_succ]
  refine wpL_pure (.pointer (some ⟨gs, 0, none⟩)) rfl (by kernel_rfl) ?_
  simp only [Act.put, List.setIfInBounds_toArray, List.set_cons_zero, List.set_cons_succ]
  refine wpL_pure (.int .u64 0) rfl (run_load_one _ _ _ 35 _ _ rfl gs 0 rfl c0 (by kernel_rfl)) ?_
  simp only [Act.put, List.setIfInBounds_toArray, List.set_cons_zero, List.set_cons_succ]
  refine wpL_pure (.tuple #[.int .u64 5, .int .u64 1]) rfl (by kernel_rfl) ?_
  simp only [Act.put, List.setIfInBounds_toArray, List.set_cons_zero, List.set_cons_succ]
  refine wpL_pure (.tuple #[.int .u64 5, .int .u64 1]) rfl (by kernel_rfl) ?_
  simp only [Act.put, List.setIfInBounds_toArray, List.set_cons_zero, List.set_cons_succ]
  refine wpL_pure (.int .u64 5) rfl (by kernel_rfl) ?_
  simp only [Act.put, List.setIfInBounds_toArray, List.set_cons_zero, List.set_cons_succ]
  refine wpL_pure (.int .u64 1) rfl (by kernel_rfl) ?_
  simp only [Act.put, List.setIfInBounds_toArray, List.set_cons_zero, List.set_cons_succ]
  refine wpL_pure (.int .u64 5) rfl (by kernel_rfl) ?_
  simp only [Act.put, List.setIfInBounds_toArray, List.set_cons_zero, List.set_cons_succ]
  refine wpL_pure (.int .u64 1) rfl (by kernel_rfl) ?_
  simp only [Act.put, List.setIfInBounds_toArray, List.set_cons_zero, List.set_cons_succ]
  go_upto_region 2 with (fail)
  refine wp_region_lit ?_
  refine wpL_pure (.pointer (some ⟨gs, 0, none⟩)) rfl (by kernel_rfl) ?_
  simp only [Act.put, List.setIfInBounds_toArray, List.set_cons_zero, List.set_cons_succ]
  refine wpL_pure (.pointer (some ⟨gs, 0, none⟩)) rfl (by kernel_rfl) ?_
  simp only [Act.put, List.setIfInBounds_toArray, List.set_cons_zero, List.set_cons_succ]
  refine wpL_pure (.pointer (some ⟨gs, 0, none⟩)) rfl (by kernel_rfl) ?_
  simp only [Act.put, List.setIfInBounds_toArray, List.set_cons_zero, List.set_cons_succ]
  refine wpL_pure (.pointer (some ⟨gs, 1, none⟩)) rfl (by kernel_rfl) ?_
  simp only [Act.put, List.setIfInBounds_toArray, List.set_cons_zero, List.set_cons_succ]
  refine wpL_pure (.int .u64 0) rfl (run_load_one _ _ _ 35 _ _ rfl gs 1 rfl c1 (by kernel_rfl)) ?_
  simp only [Act.put, List.setIfInBounds_toArray, List.set_cons_zero, List.set_cons_succ]
  refine wpL_pure (.int .u64 1) rfl (by kernel_rfl) ?_
  simp only [Act.put, List.setIfInBounds_toArray, List.set_cons_zero, List.set_cons_succ]
  refine wpL_pure (.tuple #[.int .u64 0, .int .u64 1]) rfl (by kernel_rfl) ?_
  simp only [Act.put, List.setIfInBounds_toArray, List.set_cons_zero, List.set_cons_succ]
  refine wpL_pure (.tuple #[.int .u64 0, .int .u64 1]) rfl (by kernel_rfl) ?_
  simp only [Act.put, List.setIfInBounds_toArray, List.set_cons_zero, List.set_cons_succ]
  refine wpL_pure (.int .u64 0) rfl (by kernel_rfl) ?_
  simp only [Act.put, List.setIfInBounds_toArray, List.set_cons_zero, List.set_cons_succ]
  refine wpL_pure (.int .u64 1) rfl (by kernel_rfl) ?_
  simp only [Act.put, List.setIfInBounds_toArray, List.set_cons_zero, List.set_cons_succ]
  refine wpL_pure (.int .u64 0) rfl (by kernel_rfl) ?_
  simp only [Act.put, List.setIfInBounds_toArray, List.set_cons_zero, List.set_cons_succ]
  refine wpL_pure (.int .u64 1) rfl (by kernel_rfl) ?_
  simp only [Act.put, List.setIfInBounds_toArray, List.set_cons_zero, List.set_cons_succ]
  go_upto_region 3 with (fail)
  refine wp_region_lit ?_
  refine wpL_pure (.pointer (some ⟨gs, 0, none⟩)) rfl (by kernel_rfl) ?_
  simp only [Act.put, List.setIfInBounds_toArray, List.set_cons_zero, List.set_cons_succ]
  refine wpL_pure (.pointer (some ⟨gs, 0, none⟩)) rfl (by kernel_rfl) ?_
  simp only [Act.put, List.setIfInBounds_toArray, List.set_cons_zero, List.set_cons_succ]
  refine wpL_pure (.pointer (some ⟨gs, 0, none⟩)) rfl (by kernel_rfl) ?_
  simp only [Act.put, List.setIfInBounds_toArray, List.set_cons_zero, List.set_cons_succ]
  refine wpL_pure (.pointer (some ⟨gs, 2, none⟩)) rfl (by kernel_rfl) ?_
  simp only [Act.put, List.setIfInBounds_toArray, List.set_cons_zero, List.set_cons_succ]
  refine wpL_pure (.int .u64 0) rfl (run_load_one _ _ _ 35 _ _ rfl gs 2 rfl c2 (by kernel_rfl)) ?_
  simp only [Act.put, List.setIfInBounds_toArray, List.set_cons_zero, List.set_cons_succ]
  refine wpL_pure (.int .u64 1) rfl (by kernel_rfl) ?_
  simp only [Act.put, List.setIfInBounds_toArray, List.set_cons_zero, List.set_cons_succ]
  refine wpL_pure (.tuple #[.int .u64 18446744073709551612, .int .u64 1]) rfl (by kernel_rfl) ?_
  simp only [Act.put, List.setIfInBounds_toArray, List.set_cons_zero, List.set_cons_succ]
  refine wpL_pure (.tuple #[.int .u64 18446744073709551612, .int .u64 1]) rfl (by kernel_rfl) ?_
  simp only [Act.put, List.setIfInBounds_toArray, List.set_cons_zero, List.set_cons_succ]
  refine wpL_pure (.int .u64 18446744073709551612) rfl (by kernel_rfl) ?_
  simp only [Act.put, List.setIfInBounds_toArray, List.set_cons_zero, List.set_cons_succ]
  refine wpL_pure (.int .u64 1) rfl (by kernel_rfl) ?_
  simp only [Act.put, List.setIfInBounds_toArray, List.set_cons_zero, List.set_cons_succ]
  refine wpL_pure (.int .u64 1) rfl (by kernel_rfl) ?_
  simp only [Act.put, List.setIfInBounds_toArray, List.set_cons_zero, List.set_cons_succ]
  go_upto_region 5 with (fail)
  go_region
  go_upto_region 6 with (fail)
  refine wp_region_lit ?_
  refine wpL_pure (.int .u64 0) rfl (by kernel_rfl) ?_
  simp only [Act.put, List.setIfInBounds_toArray, List.set_cons_zero, List.set_cons_succ]
  refine wpL_pure (.int .u64 (lo : Int)) rfl (by kernel_rfl) ?_
  simp only [Act.put, List.setIfInBounds_toArray, List.set_cons_zero, List.set_cons_succ]
  refine wpL_pure (.tuple #[.int .u64 (lo : Int), .int .u64 0]) rfl ((Eq.trans (b := (callFunc 22 #[.int .u64 0, .int .u64 (lo : Int), .int .u64 0]).run Try.prog _) (by kernel_rfl) (add64_0 lo HLO.out _))) ?_
  simp only [Act.put, List.setIfInBounds_toArray, List.set_cons_zero, List.set_cons_succ]
  refine wpL_pure (.tuple #[.int .u64 (lo : Int), .int .u64 0]) rfl (by kernel_rfl) ?_
  simp only [Act.put, List.setIfInBounds_toArray, List.set_cons_zero, List.set_cons_succ]
  refine wpL_pure (.int .u64 (lo : Int)) rfl (by kernel_rfl) ?_
  simp only [Act.put, List.setIfInBounds_toArray, List.set_cons_zero, List.set_cons_succ]
  refine wpL_pure (.int .u64 0) rfl (by kernel_rfl) ?_
  simp only [Act.put, List.setIfInBounds_toArray, List.set_cons_zero, List.set_cons_succ]
  refine wpL_pure (.int .u64 (lo : Int)) rfl (by kernel_rfl) ?_
  simp only [Act.put, List.setIfInBounds_toArray, List.set_cons_zero, List.set_cons_succ]
  refine wpL_pure (.int .u64 0) rfl (by kernel_rfl) ?_
  simp only [Act.put, List.setIfInBounds_toArray, List.set_cons_zero, List.set_cons_succ]
  go_upto_region 7 with (fail)
  refine wp_region_lit ?_
  refine wpL_pure (.int .u64 0) rfl (by kernel_rfl) ?_
  simp only [Act.put, List.setIfInBounds_toArray, List.set_cons_zero, List.set_cons_succ]
  refine wpL_pure (.int .u64 (hi : Int)) rfl (by kernel_rfl) ?_
  simp only [Act.put, List.setIfInBounds_toArray, List.set_cons_zero, List.set_cons_succ]
  refine wpL_pure (.int .u64 0) rfl (by kernel_rfl) ?_
  simp only [Act.put, List.setIfInBounds_toArray, List.set_cons_zero, List.set_cons_succ]
  refine wpL_pure (.tuple #[.int .u64 (hi : Int), .int .u64 0]) rfl ((Eq.trans (b := (callFunc 22 #[.int .u64 0, .int .u64 (hi : Int), .int .u64 0]).run Try.prog _) (by kernel_rfl) (add64_0 hi HHI.out _))) ?_
  simp only [Act.put, List.setIfInBounds_toArray, List.set_cons_zero, List.set_cons_succ]
  refine wpL_pure (.tuple #[.int .u64 (hi : Int), .int .u64 0]) rfl (by kernel_rfl) ?_
  simp only [Act.put, List.setIfInBounds_toArray, List.set_cons_zero, List.set_cons_succ]
  refine wpL_pure (.int .u64 (hi : Int)) rfl (by kernel_rfl) ?_
  simp only [Act.put, List.setIfInBounds_toArray, List.set_cons_zero, List.set_cons_succ]
  refine wpL_pure (.int .u64 0) rfl (by kernel_rfl) ?_
  simp only [Act.put, List.setIfInBounds_toArray, List.set_cons_zero, List.set_cons_succ]
  refine wpL_pure (.int .u64 (hi : Int)) rfl (by kernel_rfl) ?_
  simp only [Act.put, List.setIfInBounds_toArray, List.set_cons_zero, List.set_cons_succ]
  go_upto_region 9 with (fail)
  clear c0 c1 c2
  have hI : EI W.heap.size B w lo hi 0 (W.alloc (.cells #[.int .u8 0, .int .u8 0, .int .u8 0, .int .u8 0, .int .u8 0, .int .u8 0, .int .u8 0, .int .u8 0, .int .u8 0, .int .u8 0, .int .u8 0, .int .u8 0, .int .u8 0, .int .u8 0, .int .u8 0, .int .u8 0] 26)).drew := ⟨by rw [outb_zero]; exact Blk.new _ _ _, Blk.alloc HB.out _, (BW.out.alloc (Nat.le_of_lt LB.out) _).drew⟩
  have HI := Lib.hid hI
  have NE : Hid (W.heap.size ≠ B) := Lib.hid (by have := LB.out; omega)
  have LG : Hid (B ≤ W.heap.size) := Lib.hid (Nat.le_of_lt LB.out)
  clear hI HB BW LB
  generalize W.heap.size = go at *
  go_wp2_with fail
  go_loopw [66] (fun s66 wr => ∃ k : Nat, k ≤ 8 ∧ s66 = .int .i64 k ∧ Hid (EI go B w lo hi k wr)) (fun s66 _ => 8 - (intOf s66).toNat)
  case atStart => exact ⟨0, by omega, rfl, HI⟩
  case round =>
    clear HI
    obtain ⟨k, hk, rfl, RI⟩ := hrel
    by_cases hlt : k < 8
    · rcases (show k = 0 ∨ k = 1 ∨ k = 2 ∨ k = 3 ∨ k = 4 ∨ k = 5 ∨ k = 6 ∨ k = 7 by omega) with rfl | rfl | rfl | rfl | rfl | rfl | rfl | rfl
      · obtain ⟨x1, q1⟩ := cell_lt RI.out.1 0 (by omega)
        obtain ⟨x2, q2⟩ := cell_lt RI.out.1 8 (by omega)
        have f1 : wr.frozen? ⟨go, 0, none⟩ = false := RI.out.1.free _
        have f2 : wr.frozen? ⟨go, 8, none⟩ = false := RI.out.1.free _
        have l0 : (0 : Int) ≤ (lo : Int) := by omega
        have l1 : (lo : Int) < 18446744073709551616 := by have := HLO.out; omega
        have h0 : (0 : Int) ≤ (hi : Int) := by omega
        have h1 : (hi : Int) < 18446744073709551616 := by have := HHI.out; omega
        clear hk hlt
        go_wp2_with fail
        go_region
        go_wp2_with fail
        clear q1 q2 f1 f2
        go_roundw
        case rel => exact ⟨1, by omega, rfl, Lib.hid (EI.next 0 RI.out (by omega) NE.out LG.out _ _ (by unfold by8; simp only [Nat.reduceMul, Nat.reducePow]; omega) (by unfold by8; simp only [Nat.reduceMul, Nat.reducePow]; omega))⟩
        case measure => simp [intOf]
      · obtain ⟨x1, q1⟩ := cell_lt RI.out.1 1 (by omega)
        obtain ⟨x2, q2⟩ := cell_lt RI.out.1 9 (by omega)
        have f1 : wr.frozen? ⟨go, 1, none⟩ = false := RI.out.1.free _
        have f2 : wr.frozen? ⟨go, 9, none⟩ = false := RI.out.1.free _
        have l0 : (0 : Int) ≤ (lo : Int) := by omega
        have l1 : (lo : Int) < 18446744073709551616 := by have := HLO.out; omega
        have h0 : (0 : Int) ≤ (hi : Int) := by omega
        have h1 : (hi : Int) < 18446744073709551616 := by have := HHI.out; omega
        clear hk hlt
        go_wp2_with fail
        go_region
        go_wp2_with fail
        clear q1 q2 f1 f2
        go_roundw
        case rel => exact ⟨2, by omega, rfl, Lib.hid (EI.next 1 RI.out (by omega) NE.out LG.out _ _ (by unfold by8; simp only [Nat.reduceMul, Nat.reducePow]; omega) (by unfold by8; simp only [Nat.reduceMul, Nat.reducePow]; omega))⟩
        case measure => simp [intOf]
      · obtain ⟨x1, q1⟩ := cell_lt RI.out.1 2 (by omega)
        obtain ⟨x2, q2⟩ := cell_lt RI.out.1 10 (by omega)
        have f1 : wr.frozen? ⟨go, 2, none⟩ = false := RI.out.1.free _
        have f2 : wr.frozen? ⟨go, 10, none⟩ = false := RI.out.1.free _
        have l0 : (0 : Int) ≤ (lo : Int) := by omega
        have l1 : (lo : Int) < 18446744073709551616 := by have := HLO.out; omega
        have h0 : (0 : Int) ≤ (hi : Int) := by omega
        have h1 : (hi : Int) < 18446744073709551616 := by have := HHI.out; omega
        clear hk hlt
        go_wp2_with fail
        go_region
        go_wp2_with fail
        clear q1 q2 f1 f2
        go_roundw
        case rel => exact ⟨3, by omega, rfl, Lib.hid (EI.next 2 RI.out (by omega) NE.out LG.out _ _ (by unfold by8; simp only [Nat.reduceMul, Nat.reducePow]; omega) (by unfold by8; simp only [Nat.reduceMul, Nat.reducePow]; omega))⟩
        case measure => simp [intOf]
      · obtain ⟨x1, q1⟩ := cell_lt RI.out.1 3 (by omega)
        obtain ⟨x2, q2⟩ := cell_lt RI.out.1 11 (by omega)
        have f1 : wr.frozen? ⟨go, 3, none⟩ = false := RI.out.1.free _
        have f2 : wr.frozen? ⟨go, 11, none⟩ = false := RI.out.1.free _
        have l0 : (0 : Int) ≤ (lo : Int) := by omega
        have l1 : (lo : Int) < 18446744073709551616 := by have := HLO.out; omega
        have h0 : (0 : Int) ≤ (hi : Int) := by omega
        have h1 : (hi : Int) < 18446744073709551616 := by have := HHI.out; omega
        clear hk hlt
        go_wp2_with fail
        go_region
        go_wp2_with fail
        clear q1 q2 f1 f2
        go_roundw
        case rel => exact ⟨4, by omega, rfl, Lib.hid (EI.next 3 RI.out (by omega) NE.out LG.out _ _ (by unfold by8; simp only [Nat.reduceMul, Nat.reducePow]; omega) (by unfold by8; simp only [Nat.reduceMul, Nat.reducePow]; omega))⟩
        case measure => simp [intOf]
      · obtain ⟨x1, q1⟩ := cell_lt RI.out.1 4 (by omega)
        obtain ⟨x2, q2⟩ := cell_lt RI.out.1 12 (by omega)
        have f1 : wr.frozen? ⟨go, 4, none⟩ = false := RI.out.1.free _
        have f2 : wr.frozen? ⟨go, 12, none⟩ = false := RI.out.1.free _
        have l0 : (0 : Int) ≤ (lo : Int) := by omega
        have l1 : (lo : Int) < 18446744073709551616 := by have := HLO.out; omega
        have h0 : (0 : Int) ≤ (hi : Int) := by omega
        have h1 : (hi : Int) < 18446744073709551616 := by have := HHI.out; omega
        clear hk hlt
        go_wp2_with fail
        go_region
        go_wp2_with fail
        clear q1 q2 f1 f2
        go_roundw
        case rel => exact ⟨5, by omega, rfl, Lib.hid (EI.next 4 RI.out (by omega) NE.out LG.out _ _ (by unfold by8; simp only [Nat.reduceMul, Nat.reducePow]; omega) (by unfold by8; simp only [Nat.reduceMul, Nat.reducePow]; omega))⟩
        case measure => simp [intOf]
      · obtain ⟨x1, q1⟩ := cell_lt RI.out.1 5 (by omega)
        obtain ⟨x2, q2⟩ := cell_lt RI.out.1 13 (by omega)
        have f1 : wr.frozen? ⟨go, 5, none⟩ = false := RI.out.1.free _
        have f2 : wr.frozen? ⟨go, 13, none⟩ = false := RI.out.1.free _
        have l0 : (0 : Int) ≤ (lo : Int) := by omega
        have l1 : (lo : Int) < 18446744073709551616 := by have := HLO.out; omega
        have h0 : (0 : Int) ≤ (hi : Int) := by omega
        have h1 : (hi : Int) < 18446744073709551616 := by have := HHI.out; omega
        clear hk hlt
        go_wp2_with fail
        go_region
        go_wp2_with fail
        clear q1 q2 f1 f2
        go_roundw
        case rel => exact ⟨6, by omega, rfl, Lib.hid (EI.next 5 RI.out (by omega) NE.out LG.out _ _ (by unfold by8; simp only [Nat.reduceMul, Nat.reducePow]; omega) (by unfold by8; simp only [Nat.reduceMul, Nat.reducePow]; omega))⟩
        case measure => simp [intOf]
      · obtain ⟨x1, q1⟩ := cell_lt RI.out.1 6 (by omega)
        obtain ⟨x2, q2⟩ := cell_lt RI.out.1 14 (by omega)
        have f1 : wr.frozen? ⟨go, 6, none⟩ = false := RI.out.1.free _
        have f2 : wr.frozen? ⟨go, 14, none⟩ = false := RI.out.1.free _
        have l0 : (0 : Int) ≤ (lo : Int) := by omega
        have l1 : (lo : Int) < 18446744073709551616 := by have := HLO.out; omega
        have h0 : (0 : Int) ≤ (hi : Int) := by omega
        have h1 : (hi : Int) < 18446744073709551616 := by have := HHI.out; omega
        clear hk hlt
        go_wp2_with fail
        go_region
        go_wp2_with fail
        clear q1 q2 f1 f2
        go_roundw
        case rel => exact ⟨7, by omega, rfl, Lib.hid (EI.next 6 RI.out (by omega) NE.out LG.out _ _ (by unfold by8; simp only [Nat.reduceMul, Nat.reducePow]; omega) (by unfold by8; simp only [Nat.reduceMul, Nat.reducePow]; omega))⟩
        case measure => simp [intOf]
      · obtain ⟨x1, q1⟩ := cell_lt RI.out.1 7 (by omega)
        obtain ⟨x2, q2⟩ := cell_lt RI.out.1 15 (by omega)
        have f1 : wr.frozen? ⟨go, 7, none⟩ = false := RI.out.1.free _
        have f2 : wr.frozen? ⟨go, 15, none⟩ = false := RI.out.1.free _
        have l0 : (0 : Int) ≤ (lo : Int) := by omega
        have l1 : (lo : Int) < 18446744073709551616 := by have := HLO.out; omega
        have h0 : (0 : Int) ≤ (hi : Int) := by omega
        have h1 : (hi : Int) < 18446744073709551616 := by have := HHI.out; omega
        clear hk hlt
        go_wp2_with fail
        go_region
        go_wp2_with fail
        clear q1 q2 f1 f2
        go_roundw
        case rel => exact ⟨8, by omega, rfl, Lib.hid (EI.next 7 RI.out (by omega) NE.out LG.out _ _ (by unfold by8; simp only [Nat.reduceMul, Nat.reducePow]; omega) (by unfold by8; simp only [Nat.reduceMul, Nat.reducePow]; omega))⟩
        case measure => simp [intOf]
    · obtain rfl : k = 8 := by omega
      obtain ⟨hO, hR, hW⟩ := RI.out
      have HO := Lib.hid hO
      have HR := Lib.hid hR
      have HW := Lib.hid hW
      clear hO hR hW RI hk hlt
      go_wp2_with (first | (refine wpList_load_row rfl 26 _ rfl go rfl 26 _ (0, 0) _ HO.out Try.underlying26 rfl (size26 _ _ _) ?_) | (refine wpList_store_row rfl 26 _ _ rfl B _ rfl rfl 26 _ HR.out (size26 _ _ _) (sz16 _ _ _) (one26 _ _ _) ?_))
      refine bodyPost_ret (results_cell_row rfl _ _ B 26 _ (0, 0) _ rfl (setRow_heap _ _ _ _ _ _ HR.out) Try.underlying26 rfl (size26 _ _ _)) rfl ⟨rfl, ?_⟩
      rw [EB.out]
      exact below_setRow HW.out (Nat.le_refl _) _
end Go.Proofs.Ytbgmielhnklkgaa
