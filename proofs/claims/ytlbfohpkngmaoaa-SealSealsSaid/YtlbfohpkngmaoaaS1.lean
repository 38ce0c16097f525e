/- Nonces: the program's and the reference's. -/
import Derived.Test.YtlbfohpkngmaoaaChX3
import Derived.Test.YtlbfohpkngmaoaaPoOP2
namespace Go.Proofs.Ytlbfohpkngmaoaa.Ch.B.Se
open Go Go.RowKit
theorem run_shr22 (a : Act) (o : Oper) (w : World) (x y : Operand) (k b : Nat) (ho : o.op = .binOp .shr 22 x y 3) (hx : a.eval x = .int .u32 (b : Int)) (hy : a.eval y = .int .i64 ((8 * k : Nat) : Int)) (hk : k < 8) (hb : b < 4294967296) : (execOp a.eval o).run Try.prog w = .ok (.value (.int .u32 ((b / 2 ^ (8 * k) : Nat) : Int))) w := by
 have b0 : (0 : Int) ≤ (b : Int) := by omega
 have b1 : (b : Int) < 4294967296 := by omega
 unfold execOp
 simp only [ho, hx, hy]
 rcases (show k = 0 ∨ k = 1 ∨ k = 2 ∨ k = 3 ∨ k = 4 ∨ k = 5 ∨ k = 6 ∨ k = 7 by omega) with rfl | rfl | rfl | rfl | rfl | rfl | rfl | rfl
 all_goals go_simp
 all_goals (first | done | (rw [IntKind.wrap_u32]; omega) | omega)
theorem run_shr22u (a : Act) (o : Oper) (w : World) (x y : Operand) (k b : Nat) (ho : o.op = .binOp .shr 22 x y 22) (hx : a.eval x = .int .u32 (b : Int)) (hy : a.eval y = .int .u32 ((8 * k : Nat) : Int)) (hk : k < 8) (hb : b < 4294967296) : (execOp a.eval o).run Try.prog w = .ok (.value (.int .u32 ((b / 2 ^ (8 * k) : Nat) : Int))) w := by
 have b0 : (0 : Int) ≤ (b : Int) := by omega
 have b1 : (b : Int) < 4294967296 := by omega
 unfold execOp
 simp only [ho, hx, hy]
 rcases (show k = 0 ∨ k = 1 ∨ k = 2 ∨ k = 3 ∨ k = 4 ∨ k = 5 ∨ k = 6 ∨ k = 7 by omega) with rfl | rfl | rfl | rfl | rfl | rfl | rfl | rfl
 all_goals go_simp
 all_goals (first | done | (rw [IntKind.wrap_u32]; omega) | omega)
theorem run_shr24u (a : Act) (o : Oper) (w : World) (x y : Operand) (k b : Nat) (ho : o.op = .binOp .shr 24 x y 24) (hx : a.eval x = .int .u64 (b : Int)) (hy : a.eval y = .int .u64 ((8 * k : Nat) : Int)) (hk : k < 8) (hb : b < 18446744073709551616) : (execOp a.eval o).run Try.prog w = .ok (.value (.int .u64 ((b / 2 ^ (8 * k) : Nat) : Int))) w := by
 have b0 : (0 : Int) ≤ (b : Int) := by omega
 have b1 : (b : Int) < 18446744073709551616 := by omega
 unfold execOp
 simp only [ho, hx, hy]
 rcases (show k = 0 ∨ k = 1 ∨ k = 2 ∨ k = 3 ∨ k = 4 ∨ k = 5 ∨ k = 6 ∨ k = 7 by omega) with rfl | rfl | rfl | rfl | rfl | rfl | rfl | rfl
 all_goals go_simp
 all_goals (first | done | (rw [IntKind.wrap_u64]; omega) | omega)
theorem run_idxa12 (a : Act) (o : Oper) (w : World) (x i : Operand) (g off k : Nat) (ho : o.op = .indexAddr 26 x i) (hx : a.eval x = .pointer (some ⟨g, off, none⟩)) (hi : a.eval i = .int .i64 (k : Int)) (hk : k < 12) : (execOp a.eval o).run Try.prog w = .ok (.value (.pointer (some ⟨g, off + k, none⟩))) w := by
 have j0 : (0 : Int) ≤ (k : Int) := by omega
 have j6 : (k : Int) < 12 := by omega
 unfold execOp
 simp only [ho, hx, hi]
 go_simp
def nb (p s j : Nat) : Int := if j < 4 then ((p / 2 ^ (8 * (3 - j)) % 256 : Nat) : Int) else ((s / 2 ^ (8 * (7 - (j - 4))) % 256 : Nat) : Int)
theorem nb_lo {p s i : Nat} (h : i < 4) : nb p s i = ((p / 2 ^ (8 * (3 - i)) % 256 : Nat) : Int) := by unfold nb; rw [if_pos h]
theorem nb_hi {p s i : Nat} (h : i < 8) : nb p s (4 + i) = ((s / 2 ^ (8 * (7 - i)) % 256 : Nat) : Int) := by unfold nb; rw [if_neg (by omega), show 4 + i - 4 = i by omega]
def nonceL (p s : Nat) : List Int := outV (nb p s) 12 12
theorem nonceL_len (p s : Nat) : (nonceL p s).length = 12 := outV_len _ _ _
theorem nonceL_byte (p s : Nat) : ∀ x ∈ nonceL p s, 0 ≤ x ∧ x ≤ 255 := by
 intro x hx
 unfold nonceL at hx
 rw [outV_full] at hx
 obtain ⟨i, _, rfl⟩ := List.mem_map.1 hx
 unfold nb
 split <;> omega
attribute [local irreducible] wpList
set_option maxHeartbeats 4000000 in
set_option maxRecDepth 100000 in
theorem nonce_any (u : Int) (p s : Nat) (hp : u % 4294967296 = (p : Int)) (hs : s < 18446744073709551616) (w : World) :
  Calls Try.prog 5 #[.int .i64 u, .int .u64 (s : Int)] w fun e w' => e = .returned (.agg (ub (nonceL p s)).toArray) ∧ Below w.heap.size w w' := by
 have HP : Hid (u % 4294967296 = (p : Int) ∧ p < 4294967296 ∧ s < 18446744073709551616) := Lib.hid ⟨hp, by omega, hs⟩
 clear hp hs
 go_enter Try.func5, Try.ntmps5
 go_upto_region 2 with (fail)
 obtain ⟨W1, hW1⟩ : ∃ V, V = (w.alloc (.cells (ub (List.replicate 12 0)).toArray 26)).alloc (.cells (ub (List.replicate 12 0)).toArray 26) := ⟨_, rfl⟩
 rw [show (w.alloc (.cells #[.int .u8 0, .int .u8 0, .int .u8 0, .int .u8 0, .int .u8 0, .int .u8 0, .int .u8 0, .int .u8 0, .int .u8 0, .int .u8 0, .int .u8 0, .int .u8 0] 26)).alloc (.cells #[.int .u8 0, .int .u8 0, .int .u8 0, .int .u8 0, .int .u8 0, .int .u8 0, .int .u8 0, .int .u8 0, .int .u8 0, .int .u8 0, .int .u8 0, .int .u8 0] 26) = W1 from hW1.symm]
 have F1 : Hid (Below w.heap.size w W1 ∧ Blk W1 w.heap.size 26 (ub (List.replicate 12 0)).toArray ∧ Blk W1 (w.heap.size + 1) 26 (ub (outV (nb p s) 12 0)).toArray) := Lib.hid (by
  rw [hW1, outV_zero]
  exact ⟨((Below.refl _ _).alloc (Nat.le_refl _) _).alloc (by simp) _, (Blk.new _ _ _).alloc _, Blk.new' _ _ _ _ (by simp)⟩)
 clear hW1
 have L1 : Hid (w.heap.size < w.heap.size + 1) := Lib.hid (by omega)
 generalize w.heap.size + 1 = g5 at *
 obtain ⟨g4, hg4⟩ : ∃ q, w.heap.size = q := ⟨_, rfl⟩
 have G4 : Hid (w.heap.size = g4) := Lib.hid hg4
 rw [hg4] at F1 L1
 rw [hg4]
 clear hg4
 refine wp_region_lit ?_
 refine zP (.int .i64 0) ?_
 unfold wpList
 go_wp2_with fail
 go_loopw [8] (fun s8 wr => ∃ i : Nat, s8 = .int .i64 ((i : Nat) : Int) ∧ Hid (i ≤ 4 ∧ Below g4 w wr ∧ Blk wr g4 26 (ub (List.replicate 12 0)).toArray ∧ Blk wr g5 26 (ub (outV (nb p s) 12 (i))).toArray)) (fun s8 _ => 4 - (intOf s8).toNat)
 case atStart => exact ⟨0, rfl, Lib.hid ⟨by omega, F1.out⟩⟩
 case round =>
  obtain ⟨i, rfl, RI⟩ := hrel
  by_cases hlt : i < 4
  ·have HK := Lib.hid hlt
   clear hlt
   go_upto_region 3 with (fail)
   refine wp_region_lit ?_
   refine zQ (.bool true) (run_lti Try.underlying3 rfl rfl rfl (by have := HK.out; rw [decide_eq_true_eq]; omega)) ?_
   go_upto_region 4 with (fail)
   refine wp_region_lit ?_
   refine zP (.int .i64 ((i : Nat) : Int)) ?_
   refine zP (.int .i64 ((i : Nat) : Int)) ?_
   go_upto_region 5 with (fail)
   refine wp_region_lit ?_
   refine zP (.int .i64 ((i : Nat) : Int)) ?_
   refine zP (.int .i64 u) ?_
   refine zQ (.int .u32 ((p : Nat) : Int)) (run_convi Try.underlying3 Try.underlying22 rfl rfl _ (by rw [IntKind.wrap_u32]; exact HP.out.1)) ?_
   refine zP (.int .i64 ((i : Nat) : Int)) ?_
   refine zQ (.int .i64 ((8 * i : Nat) : Int)) (run_muli Try.underlying3 rfl rfl rfl _ ((by have := HK.out; rw [wrap_in _ (by omega) (by omega)]; omega))) ?_
   refine zQ (.int .i64 ((8 * (3 - i) : Nat) : Int)) (run_subi Try.underlying3 rfl rfl rfl _ ((by have := HK.out; rw [wrap_in _ (by omega) (by omega)]; omega))) ?_
   refine zQ (.int .u32 ((p / 2 ^ (8 * (3 - i)) : Nat) : Int)) (run_shr22 _ _ _ _ _ (3 - i) p rfl rfl rfl (by omega) HP.out.2.1) ?_
   refine zQ (.int .u8 (nb p s i)) (run_convi Try.underlying22 Try.underlying5 rfl rfl _ (by rw [IntKind.wrap_u8, nb_lo HK.out]; rfl)) ?_
   refine zQ (.pointer (some ⟨g5, 0 + i, none⟩)) (run_idxa12 _ _ _ _ _ g5 0 i rfl rfl rfl (by have := HK.out; omega)) ?_
   refine wpL_store_one rfl rfl (g5) (0 + i) rfl (.int .u8 (nb p s i)) rfl rfl size5 ((ub_some RI.out.2.2.2 (by rw [outV_len]; have := HK.out; omega))) (RI.out.2.2.2.free _) ?_
   simp only [Act.put, List.setIfInBounds_toArray, List.set_cons_zero, List.set_cons_succ]
   obtain ⟨w2, hw2⟩ : ∃ V, V = wr.setCell ⟨g5, 0 + (i), none⟩ (.int .u8 (nb p s (i))) := ⟨_, rfl⟩
   rw [← hw2]
   have NX : Hid (i + 1 ≤ 4 ∧ Below g4 w w2 ∧ Blk w2 g4 26 (ub (List.replicate 12 0)).toArray ∧ Blk w2 g5 26 (ub (outV (nb p s) 12 (i + 1))).toArray) := Lib.hid (by
    have hl := L1.out
    refine ⟨HK.out, ?_, ?_, ?_⟩
    ·rw [hw2]; exact RI.out.2.1.setCell (p := ⟨g5, 0 + (i), none⟩) (Nat.le_of_lt hl) _
    ·rw [hw2]; exact RI.out.2.2.1.other _ _ (Nat.ne_of_lt hl)
    ·have h := Blk.set RI.out.2.2.2 (0 + (i)) (.int .u8 (nb p s (i)))
     rw [← hw2, Nat.zero_add, ub_set, outV_set] at h
     exact h)
   clear hw2
   go_upto_region 6 with (fail)
   refine wp_region_lit ?_
   refine zQ (.int .i64 ((i + 1 : Nat) : Int)) (run_addi Try.underlying3 rfl rfl rfl _ ((by have := HK.out; rw [wrap_in _ (by omega) (by omega)]; omega))) ?_
   refine zP (.int .i64 ((i + 1 : Nat) : Int)) ?_
   unfold wpList
   go_roundw
   case rel => first | exact ⟨_, rfl, NX⟩ | ((repeat apply Exists.intro); exact ⟨⟨_, rfl, NX⟩, rfl⟩)
   case measure => simp [intOf]; have := HK.out; omega
  ·have EK : Hid (i = 4) := Lib.hid (by have := RI.out.1; omega)
   clear hlt
   have F2 : Hid (Below g4 w wr ∧ Blk wr g4 26 (ub (List.replicate 12 0)).toArray ∧ Blk wr g5 26 (ub (outV (nb p s) 12 (4 + 0))).toArray) := Lib.hid (by have h := RI.out.2; rw [EK.out] at h; exact h)
   clear RI F1
   go_upto_region 3 with (fail)
   refine wp_region_lit ?_
   refine zQ (.bool false) (run_lti Try.underlying3 rfl rfl rfl (by have := EK.out; rw [decide_eq_false_iff_not]; omega)) ?_
   go_upto_region 7 with (fail)
   refine wp_region_lit ?_
   refine zP (.int .i64 0) ?_
   unfold wpList
   go_wp2_with fail
   go_loopw [21] (fun s8 wr => ∃ i : Nat, s8 = .int .i64 ((i : Nat) : Int) ∧ Hid (i ≤ 8 ∧ Below g4 w wr ∧ Blk wr g4 26 (ub (List.replicate 12 0)).toArray ∧ Blk wr g5 26 (ub (outV (nb p s) 12 (4 + i))).toArray)) (fun s8 _ => 8 - (intOf s8).toNat)
   case atStart => exact ⟨0, rfl, Lib.hid ⟨by omega, F2.out⟩⟩
   case round =>
    obtain ⟨i, rfl, RI⟩ := hrel
    by_cases hlt : i < 8
    ·have HK := Lib.hid hlt
     clear hlt
     go_upto_region 8 with (fail)
     refine wp_region_lit ?_
     refine zQ (.bool true) (run_lti Try.underlying3 rfl rfl rfl (by have := HK.out; rw [decide_eq_true_eq]; omega)) ?_
     go_upto_region 9 with (fail)
     refine wp_region_lit ?_
     refine zP (.int .i64 ((i : Nat) : Int)) ?_
     refine zP (.int .i64 ((i : Nat) : Int)) ?_
     go_upto_region 10 with (fail)
     refine wp_region_lit ?_
     refine zP (.int .i64 ((i : Nat) : Int)) ?_
     refine zQ (.int .i64 ((4 + i : Nat) : Int)) (run_addi Try.underlying3 rfl rfl rfl _ ((by have := HK.out; rw [wrap_in _ (by omega) (by omega)]; omega))) ?_
     refine zP (.int .u64 ((s : Nat) : Int)) ?_
     refine zP (.int .i64 ((i : Nat) : Int)) ?_
     refine zQ (.int .i64 ((8 * i : Nat) : Int)) (run_muli Try.underlying3 rfl rfl rfl _ ((by have := HK.out; rw [wrap_in _ (by omega) (by omega)]; omega))) ?_
     refine zQ (.int .i64 ((8 * (7 - i) : Nat) : Int)) (run_subi Try.underlying3 rfl rfl rfl _ ((by have := HK.out; rw [wrap_in _ (by omega) (by omega)]; omega))) ?_
     refine zQ (.int .u64 ((s / 2 ^ (8 * (7 - i)) : Nat) : Int)) (Po.O.run_shr _ _ _ _ _ (7 - i) s rfl rfl rfl (by omega) HP.out.2.2) ?_
     refine zQ (.int .u8 (nb p s (4 + i))) (run_convi Try.underlying24 Try.underlying5 rfl rfl _ (by rw [IntKind.wrap_u8, nb_hi HK.out]; rfl)) ?_
     refine zQ (.pointer (some ⟨g5, 0 + (4 + i), none⟩)) (run_idxa12 _ _ _ _ _ g5 0 (4 + i) rfl rfl rfl (by have := HK.out; omega)) ?_
     refine wpL_store_one rfl rfl (g5) (0 + (4 + i)) rfl (.int .u8 (nb p s (4 + i))) rfl rfl size5 ((ub_some RI.out.2.2.2 (by rw [outV_len]; have := HK.out; omega))) (RI.out.2.2.2.free _) ?_
     simp only [Act.put, List.setIfInBounds_toArray, List.set_cons_zero, List.set_cons_succ]
     obtain ⟨w2, hw2⟩ : ∃ V, V = wr.setCell ⟨g5, 0 + (4 + i), none⟩ (.int .u8 (nb p s (4 + i))) := ⟨_, rfl⟩
     rw [← hw2]
     have NX : Hid (i + 1 ≤ 8 ∧ Below g4 w w2 ∧ Blk w2 g4 26 (ub (List.replicate 12 0)).toArray ∧ Blk w2 g5 26 (ub (outV (nb p s) 12 (4 + (i + 1)))).toArray) := Lib.hid (by
      have hl := L1.out
      refine ⟨HK.out, ?_, ?_, ?_⟩
      ·rw [hw2]; exact RI.out.2.1.setCell (p := ⟨g5, 0 + (4 + i), none⟩) (Nat.le_of_lt hl) _
      ·rw [hw2]; exact RI.out.2.2.1.other _ _ (Nat.ne_of_lt hl)
      ·have h := Blk.set RI.out.2.2.2 (0 + (4 + i)) (.int .u8 (nb p s (4 + i)))
       rw [← hw2, Nat.zero_add, ub_set, outV_set] at h
       exact h)
     clear hw2
     go_upto_region 11 with (fail)
     refine wp_region_lit ?_
     refine zQ (.int .i64 ((i + 1 : Nat) : Int)) (run_addi Try.underlying3 rfl rfl rfl _ ((by have := HK.out; rw [wrap_in _ (by omega) (by omega)]; omega))) ?_
     refine zP (.int .i64 ((i + 1 : Nat) : Int)) ?_
     unfold wpList
     go_roundw
     case rel => first | exact ⟨_, rfl, NX⟩ | ((repeat apply Exists.intro); exact ⟨⟨_, rfl, NX⟩, rfl⟩)
     case measure => simp [intOf]; have := HK.out; omega
    ·have EK : Hid (i = 8) := Lib.hid (by have := RI.out.1; omega)
     clear hlt
     have F3 : Hid (Below g4 w wr ∧ Blk wr g4 26 (ub (List.replicate 12 0)).toArray ∧ Blk wr g5 26 (ub (nonceL p s)).toArray) := Lib.hid (by have h := RI.out.2; rw [EK.out] at h; exact h)
     go_upto_region 8 with (fail)
     refine wp_region_lit ?_
     refine zQ (.bool false) (run_lti Try.underlying3 rfl rfl rfl (by have := EK.out; rw [decide_eq_false_iff_not]; omega)) ?_
     go_upto_region 12 with (fail)
     refine wp_region_lit ?_
     refine wpL_load 26 _ rfl rfl g5 0 rfl (ub (nonceL p s)) _ (blk_rangeC F3.out.2.2) Try.underlying26 rfl (by rw [ub_len, nonceL_len]; kernel_rfl) ?_
     simp only [Act.put, List.setIfInBounds_toArray, List.set_cons_zero, List.set_cons_succ]
     refine wpList_store_rowTo rfl 26 _ _ rfl rfl g4 (ub (nonceL p s)).toArray rfl rfl 26 _ F3.out.2.1 (by simp only [List.size_toArray, ub_len, nonceL_len]; kernel_rfl) (by simp only [List.size_toArray, ub_len, nonceL_len, List.length_replicate]) (ub_one _) ?_
     go_wp2_with fail
     refine bodyPost_ret (results_cell_row rfl _ _ g4 26 _ (0, 0) _ rfl (setRow_heap _ _ _ _ _ _ F3.out.2.1) Try.underlying26 rfl (by simp only [List.size_toArray, ub_len, nonceL_len]; kernel_rfl)) rfl ?_
     exact ⟨rfl, by rw [G4.out]; exact below_setRow F3.out.1 (Nat.le_refl _) _⟩
set_option maxHeartbeats 4000000 in
set_option maxRecDepth 100000 in
theorem refnonce_any (p s : Nat) (hp : p < 4294967296) (hs : s < 18446744073709551616) (w : World) :
  Calls Try.prog 7 #[.int .u32 (p : Int), .int .u64 (s : Int)] w fun e w' => e = .returned (.agg (ub (nonceL p s)).toArray) ∧ Below w.heap.size w w' := by
 have HP : Hid (True ∧ p < 4294967296 ∧ s < 18446744073709551616) := Lib.hid ⟨trivial, hp, hs⟩
 clear hp hs
 go_enter Try.func7, Try.ntmps7
 go_upto_region 2 with (fail)
 obtain ⟨W1, hW1⟩ : ∃ V, V = (w.alloc (.cells (ub (List.replicate 12 0)).toArray 26)).alloc (.cells (ub (List.replicate 12 0)).toArray 26) := ⟨_, rfl⟩
 rw [show (w.alloc (.cells #[.int .u8 0, .int .u8 0, .int .u8 0, .int .u8 0, .int .u8 0, .int .u8 0, .int .u8 0, .int .u8 0, .int .u8 0, .int .u8 0, .int .u8 0, .int .u8 0] 26)).alloc (.cells #[.int .u8 0, .int .u8 0, .int .u8 0, .int .u8 0, .int .u8 0, .int .u8 0, .int .u8 0, .int .u8 0, .int .u8 0, .int .u8 0, .int .u8 0, .int .u8 0] 26) = W1 from hW1.symm]
 have F1 : Hid (Below w.heap.size w W1 ∧ Blk W1 w.heap.size 26 (ub (List.replicate 12 0)).toArray ∧ Blk W1 (w.heap.size + 1) 26 (ub (outV (nb p s) 12 0)).toArray) := Lib.hid (by
  rw [hW1, outV_zero]
  exact ⟨((Below.refl _ _).alloc (Nat.le_refl _) _).alloc (by simp) _, (Blk.new _ _ _).alloc _, Blk.new' _ _ _ _ (by simp)⟩)
 clear hW1
 have L1 : Hid (w.heap.size < w.heap.size + 1) := Lib.hid (by omega)
 generalize w.heap.size + 1 = g5 at *
 obtain ⟨g4, hg4⟩ : ∃ q, w.heap.size = q := ⟨_, rfl⟩
 have G4 : Hid (w.heap.size = g4) := Lib.hid hg4
 rw [hg4] at F1 L1
 rw [hg4]
 clear hg4
 refine wp_region_lit ?_
 refine zP (.int .i64 0) ?_
 unfold wpList
 go_wp2_with fail
 go_loopw [6] (fun s8 wr => ∃ i : Nat, s8 = .int .i64 ((i : Nat) : Int) ∧ Hid (i ≤ 4 ∧ Below g4 w wr ∧ Blk wr g4 26 (ub (List.replicate 12 0)).toArray ∧ Blk wr g5 26 (ub (outV (nb p s) 12 (i))).toArray)) (fun s8 _ => 4 - (intOf s8).toNat)
 case atStart => exact ⟨0, rfl, Lib.hid ⟨by omega, F1.out⟩⟩
 case round =>
  obtain ⟨i, rfl, RI⟩ := hrel
  by_cases hlt : i < 4
  ·have HK := Lib.hid hlt
   clear hlt
   go_upto_region 3 with (fail)
   refine wp_region_lit ?_
   refine zP (.int .i64 ((i : Nat) : Int)) ?_
   refine zQ (.bool true) (run_lti Try.underlying3 rfl rfl rfl (by have := HK.out; rw [decide_eq_true_eq]; omega)) ?_
   go_upto_region 5 with (fail)
   refine wp_region_lit ?_
   refine zP (.int .i64 ((i : Nat) : Int)) ?_
   refine zP (.int .u32 ((p : Nat) : Int)) ?_
   refine zP (.int .i64 ((i : Nat) : Int)) ?_
   refine zQ (.int .i64 ((8 * i : Nat) : Int)) (run_muli Try.underlying3 rfl rfl rfl _ ((by have := HK.out; rw [wrap_in _ (by omega) (by omega)]; omega))) ?_
   refine zQ (.int .i64 ((8 * (3 - i) : Nat) : Int)) (run_subi Try.underlying3 rfl rfl rfl _ ((by have := HK.out; rw [wrap_in _ (by omega) (by omega)]; omega))) ?_
   refine zQ (.int .u32 ((8 * (3 - i) : Nat) : Int)) (run_convi Try.underlying3 Try.underlying22 rfl rfl _ (by have := HK.out; rw [IntKind.wrap_u32]; omega)) ?_
   refine zQ (.int .u32 ((p / 2 ^ (8 * (3 - i)) : Nat) : Int)) (run_shr22u _ _ _ _ _ (3 - i) p rfl rfl rfl (by omega) HP.out.2.1) ?_
   refine zQ (.int .u8 (nb p s i)) (run_convi Try.underlying22 Try.underlying5 rfl rfl _ (by rw [IntKind.wrap_u8, nb_lo HK.out]; rfl)) ?_
   refine zQ (.pointer (some ⟨g5, 0 + i, none⟩)) (run_idxa12 _ _ _ _ _ g5 0 i rfl rfl rfl (by have := HK.out; omega)) ?_
   refine wpL_store_one rfl rfl (g5) (0 + i) rfl (.int .u8 (nb p s i)) rfl rfl size5 ((ub_some RI.out.2.2.2 (by rw [outV_len]; have := HK.out; omega))) (RI.out.2.2.2.free _) ?_
   simp only [Act.put, List.setIfInBounds_toArray, List.set_cons_zero, List.set_cons_succ]
   obtain ⟨w2, hw2⟩ : ∃ V, V = wr.setCell ⟨g5, 0 + (i), none⟩ (.int .u8 (nb p s (i))) := ⟨_, rfl⟩
   rw [← hw2]
   have NX : Hid (i + 1 ≤ 4 ∧ Below g4 w w2 ∧ Blk w2 g4 26 (ub (List.replicate 12 0)).toArray ∧ Blk w2 g5 26 (ub (outV (nb p s) 12 (i + 1))).toArray) := Lib.hid (by
    have hl := L1.out
    refine ⟨HK.out, ?_, ?_, ?_⟩
    ·rw [hw2]; exact RI.out.2.1.setCell (p := ⟨g5, 0 + (i), none⟩) (Nat.le_of_lt hl) _
    ·rw [hw2]; exact RI.out.2.2.1.other _ _ (Nat.ne_of_lt hl)
    ·have h := Blk.set RI.out.2.2.2 (0 + (i)) (.int .u8 (nb p s (i)))
     rw [← hw2, Nat.zero_add, ub_set, outV_set] at h
     exact h)
   clear hw2
   go_upto_region 4 with (fail)
   refine wp_region_lit ?_
   refine zP (.int .i64 ((i : Nat) : Int)) ?_
   refine zQ (.int .i64 ((i + 1 : Nat) : Int)) (run_addi Try.underlying3 rfl rfl rfl _ ((by have := HK.out; rw [wrap_in _ (by omega) (by omega)]; omega))) ?_
   refine zP (.int .i64 ((i + 1 : Nat) : Int)) ?_
   unfold wpList
   go_roundw
   case rel => first | exact ⟨_, rfl, NX⟩ | ((repeat apply Exists.intro); exact ⟨⟨_, rfl, NX⟩, rfl⟩)
   case measure => simp [intOf]; have := HK.out; omega
  ·have EK : Hid (i = 4) := Lib.hid (by have := RI.out.1; omega)
   clear hlt
   have F2 : Hid (Below g4 w wr ∧ Blk wr g4 26 (ub (List.replicate 12 0)).toArray ∧ Blk wr g5 26 (ub (outV (nb p s) 12 (4 + 0))).toArray) := Lib.hid (by have h := RI.out.2; rw [EK.out] at h; exact h)
   clear RI F1
   go_upto_region 3 with (fail)
   refine wp_region_lit ?_
   refine zP (.int .i64 ((i : Nat) : Int)) ?_
   refine zQ (.bool false) (run_lti Try.underlying3 rfl rfl rfl (by have := EK.out; rw [decide_eq_false_iff_not]; omega)) ?_
   go_upto_region 6 with (fail)
   refine wp_region_lit ?_
   refine zP (.int .i64 0) ?_
   unfold wpList
   go_wp2_with fail
   go_loopw [7] (fun s8 wr => ∃ i : Nat, s8 = .int .i64 ((i : Nat) : Int) ∧ Hid (i ≤ 8 ∧ Below g4 w wr ∧ Blk wr g4 26 (ub (List.replicate 12 0)).toArray ∧ Blk wr g5 26 (ub (outV (nb p s) 12 (4 + i))).toArray)) (fun s8 _ => 8 - (intOf s8).toNat)
   case atStart => exact ⟨0, rfl, Lib.hid ⟨by omega, F2.out⟩⟩
   case round =>
    obtain ⟨i, rfl, RI⟩ := hrel
    by_cases hlt : i < 8
    ·have HK := Lib.hid hlt
     clear hlt
     go_upto_region 7 with (fail)
     refine wp_region_lit ?_
     refine zP (.int .i64 ((i : Nat) : Int)) ?_
     refine zQ (.bool true) (run_lti Try.underlying3 rfl rfl rfl (by have := HK.out; rw [decide_eq_true_eq]; omega)) ?_
     go_upto_region 9 with (fail)
     refine wp_region_lit ?_
     refine zP (.int .i64 ((i : Nat) : Int)) ?_
     refine zQ (.int .i64 ((4 + i : Nat) : Int)) (run_addi Try.underlying3 rfl rfl rfl _ ((by have := HK.out; rw [wrap_in _ (by omega) (by omega)]; omega))) ?_
     refine zP (.int .u64 ((s : Nat) : Int)) ?_
     refine zP (.int .i64 ((i : Nat) : Int)) ?_
     refine zQ (.int .i64 ((8 * i : Nat) : Int)) (run_muli Try.underlying3 rfl rfl rfl _ ((by have := HK.out; rw [wrap_in _ (by omega) (by omega)]; omega))) ?_
     refine zQ (.int .i64 ((8 * (7 - i) : Nat) : Int)) (run_subi Try.underlying3 rfl rfl rfl _ ((by have := HK.out; rw [wrap_in _ (by omega) (by omega)]; omega))) ?_
     refine zQ (.int .u64 ((8 * (7 - i) : Nat) : Int)) (run_convi Try.underlying3 Try.underlying24 rfl rfl _ (by have := HK.out; rw [IntKind.wrap_u64]; omega)) ?_
     refine zQ (.int .u64 ((s / 2 ^ (8 * (7 - i)) : Nat) : Int)) (run_shr24u _ _ _ _ _ (7 - i) s rfl rfl rfl (by omega) HP.out.2.2) ?_
     refine zQ (.int .u8 (nb p s (4 + i))) (run_convi Try.underlying24 Try.underlying5 rfl rfl _ (by rw [IntKind.wrap_u8, nb_hi HK.out]; rfl)) ?_
     refine zQ (.pointer (some ⟨g5, 0 + (4 + i), none⟩)) (run_idxa12 _ _ _ _ _ g5 0 (4 + i) rfl rfl rfl (by have := HK.out; omega)) ?_
     refine wpL_store_one rfl rfl (g5) (0 + (4 + i)) rfl (.int .u8 (nb p s (4 + i))) rfl rfl size5 ((ub_some RI.out.2.2.2 (by rw [outV_len]; have := HK.out; omega))) (RI.out.2.2.2.free _) ?_
     simp only [Act.put, List.setIfInBounds_toArray, List.set_cons_zero, List.set_cons_succ]
     obtain ⟨w2, hw2⟩ : ∃ V, V = wr.setCell ⟨g5, 0 + (4 + i), none⟩ (.int .u8 (nb p s (4 + i))) := ⟨_, rfl⟩
     rw [← hw2]
     have NX : Hid (i + 1 ≤ 8 ∧ Below g4 w w2 ∧ Blk w2 g4 26 (ub (List.replicate 12 0)).toArray ∧ Blk w2 g5 26 (ub (outV (nb p s) 12 (4 + (i + 1)))).toArray) := Lib.hid (by
      have hl := L1.out
      refine ⟨HK.out, ?_, ?_, ?_⟩
      ·rw [hw2]; exact RI.out.2.1.setCell (p := ⟨g5, 0 + (4 + i), none⟩) (Nat.le_of_lt hl) _
      ·rw [hw2]; exact RI.out.2.2.1.other _ _ (Nat.ne_of_lt hl)
      ·have h := Blk.set RI.out.2.2.2 (0 + (4 + i)) (.int .u8 (nb p s (4 + i)))
       rw [← hw2, Nat.zero_add, ub_set, outV_set] at h
       exact h)
     clear hw2
     go_upto_region 8 with (fail)
     refine wp_region_lit ?_
     refine zP (.int .i64 ((i : Nat) : Int)) ?_
     refine zQ (.int .i64 ((i + 1 : Nat) : Int)) (run_addi Try.underlying3 rfl rfl rfl _ ((by have := HK.out; rw [wrap_in _ (by omega) (by omega)]; omega))) ?_
     refine zP (.int .i64 ((i + 1 : Nat) : Int)) ?_
     unfold wpList
     go_roundw
     case rel => first | exact ⟨_, rfl, NX⟩ | ((repeat apply Exists.intro); exact ⟨⟨_, rfl, NX⟩, rfl⟩)
     case measure => simp [intOf]; have := HK.out; omega
    ·have EK : Hid (i = 8) := Lib.hid (by have := RI.out.1; omega)
     clear hlt
     have F3 : Hid (Below g4 w wr ∧ Blk wr g4 26 (ub (List.replicate 12 0)).toArray ∧ Blk wr g5 26 (ub (nonceL p s)).toArray) := Lib.hid (by have h := RI.out.2; rw [EK.out] at h; exact h)
     go_upto_region 7 with (fail)
     refine wp_region_lit ?_
     refine zP (.int .i64 ((i : Nat) : Int)) ?_
     refine zQ (.bool false) (run_lti Try.underlying3 rfl rfl rfl (by have := EK.out; rw [decide_eq_false_iff_not]; omega)) ?_
     go_upto_region 10 with (fail)
     refine wp_region_lit ?_
     refine wpL_load 26 _ rfl rfl g5 0 rfl (ub (nonceL p s)) _ (blk_rangeC F3.out.2.2) Try.underlying26 rfl (by rw [ub_len, nonceL_len]; kernel_rfl) ?_
     simp only [Act.put, List.setIfInBounds_toArray, List.set_cons_zero, List.set_cons_succ]
     refine wpList_store_rowTo rfl 26 _ _ rfl rfl g4 (ub (nonceL p s)).toArray rfl rfl 26 _ F3.out.2.1 (by simp only [List.size_toArray, ub_len, nonceL_len]; kernel_rfl) (by simp only [List.size_toArray, ub_len, nonceL_len, List.length_replicate]) (ub_one _) ?_
     go_wp2_with fail
     refine bodyPost_ret (results_cell_row rfl _ _ g4 26 _ (0, 0) _ rfl (setRow_heap _ _ _ _ _ _ F3.out.2.1) Try.underlying26 rfl (by simp only [List.size_toArray, ub_len, nonceL_len]; kernel_rfl)) rfl ?_
     exact ⟨rfl, by rw [G4.out]; exact below_setRow F3.out.1 (Nat.le_refl _) _⟩
end Go.Proofs.Ytlbfohpkngmaoaa.Ch.B.Se
