/- The end of a sum under way. -/
import Derived.Test.YtlbfohpkngmaoaaDoorPoQ2b
import Derived.Test.YtlbfohpkngmaoaaDoorPoA
import Derived.Laws.ResultCell
import Derived.Great.BuildSlice
namespace Go.Proofs.YtlbfohpkngmaoaaDoor.Po
open Go Go.RowKit
theorem size5 (w : World) : (sizeOf 5).run Tryd.prog w = .ok 1 w := by kernel_rfl
def le16 (n : Nat) : List Int := (List.range 16).map fun i => ((n / 256 ^ i % 256 : Nat) : Int)
theorem le16_len (n : Nat) : (le16 n).length = 16 := by simp [le16]
theorem le16_congr {a b : Nat} (h : a % 340282366920938463463374607431768211456 = b % 340282366920938463463374607431768211456) : le16 a = le16 b := by
 unfold le16
 apply List.map_congr_left
 intro i hi
 have hi' := List.mem_range.1 hi
 have key : ∀ x : Nat, x / 256 ^ i % 256 = x % 256 ^ 16 / 256 ^ i % 256 := by
  intro x
  rw [show (16 : Nat) = i + (16 - i) by omega, Nat.pow_add, Nat.mod_mul_right_div_self]
  rw [show 16 - i = 1 + (15 - i) by omega, Nat.pow_add, Nat.pow_one, Nat.mod_mul_right_mod]
 rw [key a, key b, show 256 ^ 16 = 340282366920938463463374607431768211456 by decide, h]
theorem outb_nil (p q : Nat) : (O.outb p q 0).toArray = (u8l (List.replicate 16 0)).toArray := by
 simp [O.outb, u8l, List.replicate, List.range, List.range.loop]
theorem outb_one (p q k : Nat) : (O.outb p q k).toArray.all (·.oneCell') = true := by simp [O.outb, Value.oneCell']
theorem outb_some {w : World} {g p q k : Nat} (h : Blk w g 39 (O.outb p q k).toArray) (i : Nat) (hi : i < 16) : (w.drew.cell? ⟨g, 0 + i, none⟩).isSome = true := by
 obtain ⟨v, hv⟩ := O.outb_cell p q k i hi
 have e : w.drew.cell? ⟨g, 0 + i, none⟩ = (O.outb p q k).toArray[0 + i]? := h.drew.cell _
 rw [e, Nat.zero_add]
 simp [hv]
theorem outb_some2 {w : World} {g p q k : Nat} {v : Value} (h : Blk w g 39 ((O.outb p q k).set k v).toArray) (i : Nat) (hi : i < 8) : (w.cell? ⟨g, 0 + (8 + i), none⟩).isSome = true := by
 rw [h.cell, Nat.zero_add]
 simp [O.outb_len]
 omega
theorem outb_le16 {p q : Nat} (hp : p < 18446744073709551616) (hq : q < 18446744073709551616) : O.outb p q 8 = u8l (le16 (p + 18446744073709551616 * q)) := by
 unfold O.outb u8l le16
 rw [List.map_map]
 apply List.map_congr_left
 intro i hi
 have hi' := List.mem_range.1 hi
 simp only [Function.comp, O.by8]
 congr 2
 rcases (show i = 0 ∨ i = 1 ∨ i = 2 ∨ i = 3 ∨ i = 4 ∨ i = 5 ∨ i = 6 ∨ i = 7 ∨ i = 8 ∨ i = 9 ∨ i = 10 ∨ i = 11 ∨ i = 12 ∨ i = 13 ∨ i = 14 ∨ i = 15 by omega) with rfl | rfl | rfl | rfl | rfl | rfl | rfl | rfl | rfl | rfl | rfl | rfl | rfl | rfl | rfl | rfl
 all_goals simp only [Nat.mul_zero, Nat.reduceMul, Nat.reducePow, Nat.reduceSub, Nat.reduceLT, if_true, if_false, Nat.div_one]
 all_goals first | omega | (simp; omega)
theorem end_sum {a b lo hi p k q k2 H : Nat} (h1 : a + lo + 0 = p + 18446744073709551616 * k) (h2 : b + hi + k = q + 18446744073709551616 * k2) (h : (a + 18446744073709551616 * b) % 340282366920938463463374607431768211456 = H % 340282366920938463463374607431768211456) : (p + 18446744073709551616 * q) % 340282366920938463463374607431768211456 = (H + (lo + 18446744073709551616 * hi)) % 340282366920938463463374607431768211456 := by omega
attribute [local irreducible] wpList
set_option maxRecDepth 100000 in
set_option maxHeartbeats 8000000 in
theorem end_any (w : World) (b h0 h1 h2 r0 r1 lo hi : Nat) (R : List Int) (hl : Nat) (hb : Blk w b 88 (sumC h0 h1 h2 r0 r1 R hl).toArray) (l0 : h0 < 18446744073709551616) (l1 : h1 < 18446744073709551616) (l2 : h2 ≤ 4) (k0 : lo < 18446744073709551616) (k1 : hi < 18446744073709551616) :
  Calls Tryd.prog 37 #[.pointer (some ⟨b, 0, none⟩), .int .u64 ((lo : Nat) : Int), .int .u64 ((hi : Nat) : Int)] w fun e w' => e = .returned (.agg (u8l (le16 ((h0 + 18446744073709551616 * h1 + 340282366920938463463374607431768211456 * h2) % p130 + (lo + 18446744073709551616 * hi)))).toArray) ∧ Below w.heap.size w w' := by
 have HS := Lib.hid hb
 obtain ⟨s0, c1, e0⟩ := sub_ex h0 18446744073709551611 0 (Nat.zero_le 1)
 obtain ⟨s1, c2, e1⟩ := sub_ex h1 18446744073709551615 c1 (by rw [e0.2.2]; split <;> omega)
 obtain ⟨s2, c3, e2⟩ := sub_ex h2 3 c2 (by rw [e1.2.2]; split <;> omega)
 obtain ⟨ew1, ew2, ls0, ls1, hc3⟩ := end_words (x := 0) l0 l1 l2 e0.2.1 e0.2.2 e1.2.1 e1.2.2 e2.2.2
 obtain ⟨p0, z0, a0⟩ := add_ex h0 lo 0 l0 k0 (Nat.zero_le 1)
 obtain ⟨q0, z1, a1⟩ := add_ex h1 hi z0 l1 k1 a0.2.2.1
 obtain ⟨p1, j0, a2⟩ := add_ex s0 lo 0 ls0 k0 (Nat.zero_le 1)
 obtain ⟨q1, j1, a3⟩ := add_ex s1 hi j0 ls1 k1 a2.2.2.1
 have HE : Hid ((c3 = 1 → (p0 + 18446744073709551616 * q0) % 340282366920938463463374607431768211456 = ((h0 + 18446744073709551616 * h1 + 340282366920938463463374607431768211456 * h2) % p130 + (lo + 18446744073709551616 * hi)) % 340282366920938463463374607431768211456) ∧ (c3 = 0 → (p1 + 18446744073709551616 * q1) % 340282366920938463463374607431768211456 = ((h0 + 18446744073709551616 * h1 + 340282366920938463463374607431768211456 * h2) % p130 + (lo + 18446744073709551616 * hi)) % 340282366920938463463374607431768211456)) := Lib.hid ⟨fun h => end_sum a0.2.2.2 a1.2.2.2 (ew1 h), fun h => end_sum a2.2.2.2 a3.2.2.2 (ew2 h)⟩
 have S0 := Lib.hid e0
 have S1 := Lib.hid e1
 have S2 := Lib.hid e2
 have S3 := Lib.hid hc3
 have A0 := Lib.hid a0
 have A1 := Lib.hid a1
 have A2 := Lib.hid a2
 have A3 := Lib.hid a3
 clear hb l0 l1 l2 k0 k1 e0 e1 e2 ew1 ew2 ls0 ls1 hc3 a0 a1 a2 a3
 go_enter Tryd.func37, Tryd.ntmps37
 go_upto_region 1 with (fail)
 obtain ⟨w1, hw1⟩ : ∃ V, V = w.alloc (.cells (u8l (List.replicate 16 0)).toArray 39) := ⟨_, rfl⟩
 rw [show w.alloc (.cells #[.int .u8 0, .int .u8 0, .int .u8 0, .int .u8 0, .int .u8 0, .int .u8 0, .int .u8 0, .int .u8 0, .int .u8 0, .int .u8 0, .int .u8 0, .int .u8 0, .int .u8 0, .int .u8 0, .int .u8 0, .int .u8 0] 39) = w1 from hw1.symm]
 have M1 : Hid (Below w.heap.size w w1 ∧ Blk w1 b 88 (sumC h0 h1 h2 r0 r1 R hl).toArray ∧ Blk w1 w.heap.size 39 (u8l (List.replicate 16 0)).toArray ∧ w.heap.size < w1.heap.size) := Lib.hid (by rw [hw1]; exact ⟨(Below.refl _ _).alloc (Nat.le_refl _) _, HS.out.alloc _, Blk.new _ _ _, by simp⟩)
 clear hw1 HS
 obtain ⟨g6, hg6⟩ : ∃ q, w.heap.size = q := ⟨_, rfl⟩
 have G6 : Hid (w.heap.size = g6) := Lib.hid hg6
 rw [hg6] at M1
 try rw [hg6]
 clear hg6
 refine wp_region_lit ?_
 refine zP (.pointer (some ⟨b, 0, none⟩)) ?_
 refine zP (.pointer (some ⟨b, 0, none⟩)) ?_
 refine zP (.pointer (some ⟨b, 0, none⟩)) ?_
 refine zP (.pointer (some ⟨b, 0, none⟩)) ?_
 refine zQ (.int .u64 ((h0 : Nat) : Int)) (run_load_one _ _ _ 82 _ _ rfl (b) (0) rfl (sum_c0 M1.out.2.1) (by kernel_rfl)) ?_
 refine zQ (.tuple #[.int .u64 ((s0 : Nat) : Int), .int .u64 ((c1 : Nat) : Int)]) ((Eq.trans (b := (callFunc 52 #[.int .u64 ((h0 : Nat) : Int), .int .u64 ((18446744073709551611 : Nat) : Int), .int .u64 ((0 : Nat) : Int)]).run Tryd.prog _) (by kernel_rfl) (S0.out.1 _))) ?_
 refine zP (.tuple #[.int .u64 ((s0 : Nat) : Int), .int .u64 ((c1 : Nat) : Int)]) ?_
 refine zP (.int .u64 ((s0 : Nat) : Int)) ?_
 refine zP (.int .u64 ((c1 : Nat) : Int)) ?_
 refine zP (.int .u64 ((s0 : Nat) : Int)) ?_
 refine zP (.int .u64 ((c1 : Nat) : Int)) ?_
 go_upto_region 2 with (fail)
 refine wp_region_lit ?_
 refine zP (.pointer (some ⟨b, 0, none⟩)) ?_
 refine zP (.pointer (some ⟨b, 0, none⟩)) ?_
 refine zP (.pointer (some ⟨b, 0, none⟩)) ?_
 refine zP (.pointer (some ⟨b, 1, none⟩)) ?_
 refine zQ (.int .u64 ((h1 : Nat) : Int)) (run_load_one _ _ _ 82 _ _ rfl (b) (1) rfl (sum_c1 M1.out.2.1) (by kernel_rfl)) ?_
 refine zP (.int .u64 ((c1 : Nat) : Int)) ?_
 refine zQ (.tuple #[.int .u64 ((s1 : Nat) : Int), .int .u64 ((c2 : Nat) : Int)]) ((Eq.trans (b := (callFunc 52 #[.int .u64 ((h1 : Nat) : Int), .int .u64 ((18446744073709551615 : Nat) : Int), .int .u64 ((c1 : Nat) : Int)]).run Tryd.prog _) (by kernel_rfl) (S1.out.1 _))) ?_
 refine zP (.tuple #[.int .u64 ((s1 : Nat) : Int), .int .u64 ((c2 : Nat) : Int)]) ?_
 refine zP (.int .u64 ((s1 : Nat) : Int)) ?_
 refine zP (.int .u64 ((c2 : Nat) : Int)) ?_
 refine zP (.int .u64 ((s1 : Nat) : Int)) ?_
 refine zP (.int .u64 ((c2 : Nat) : Int)) ?_
 go_upto_region 3 with (fail)
 refine wp_region_lit ?_
 refine zP (.pointer (some ⟨b, 0, none⟩)) ?_
 refine zP (.pointer (some ⟨b, 0, none⟩)) ?_
 refine zP (.pointer (some ⟨b, 0, none⟩)) ?_
 refine zP (.pointer (some ⟨b, 2, none⟩)) ?_
 refine zQ (.int .u64 ((h2 : Nat) : Int)) (run_load_one _ _ _ 82 _ _ rfl (b) (2) rfl (sum_c2 M1.out.2.1) (by kernel_rfl)) ?_
 refine zP (.int .u64 ((c2 : Nat) : Int)) ?_
 refine zQ (.tuple #[.int .u64 ((s2 : Nat) : Int), .int .u64 ((c3 : Nat) : Int)]) ((Eq.trans (b := (callFunc 52 #[.int .u64 ((h2 : Nat) : Int), .int .u64 ((3 : Nat) : Int), .int .u64 ((c2 : Nat) : Int)]).run Tryd.prog _) (by kernel_rfl) (S2.out.1 _))) ?_
 refine zP (.tuple #[.int .u64 ((s2 : Nat) : Int), .int .u64 ((c3 : Nat) : Int)]) ?_
 refine zP (.int .u64 ((s2 : Nat) : Int)) ?_
 refine zP (.int .u64 ((c3 : Nat) : Int)) ?_
 refine zP (.int .u64 ((c3 : Nat) : Int)) ?_
 by_cases hc : c3 = 1
 ·have HK3 := Lib.hid hc
  have HC := Lib.hid (HE.out.1 hc)
  clear hc HE
  go_upto_region 4 with (fail)
  refine wp_region_lit ?_
  refine zP (.int .u64 ((c3 : Nat) : Int)) ?_
  refine zQ (.bool true) (run_eqi Tryd.underlying82 rfl rfl rfl (by have := HK3.out; rw [decide_eq_true_eq]; omega)) ?_
  go_upto_region 5 with (fail)
  refine region_held_all (fun X => Below g6 w X ∧ Blk X b 88 (sumC h0 h1 h2 r0 r1 R hl).toArray ∧ Blk X g6 39 (u8l (List.replicate 16 0)).toArray ∧ g6 < X.heap.size) (by kernel_rfl) (by kernel_rfl) (⟨M1.out.1.drew, M1.out.2.1.drew, M1.out.2.2.1.drew, M1.out.2.2.2⟩) ?_
  refine zH (.pointer (some ⟨b, 0, none⟩)) (fun w h => heldRun_value (by kernel_rfl) h) ?_
  refine zH (.pointer (some ⟨b, 0, none⟩)) (fun w h => heldRun_value (by kernel_rfl) h) ?_
  refine zH (.pointer (some ⟨b, 0, none⟩)) (fun w h => heldRun_value (by kernel_rfl) h) ?_
  refine zH (.pointer (some ⟨b, 0, none⟩)) (fun w h => heldRun_value (by kernel_rfl) h) ?_
  refine zH (.int .u64 ((h0 : Nat) : Int)) (fun w h => heldRun_value (run_load_one _ _ _ 82 _ _ rfl (b) (0) rfl (sum_c0 h.2.1) (by kernel_rfl)) h) ?_
  refine zH (.pointer (some ⟨b, 0, none⟩)) (fun w h => heldRun_value (by kernel_rfl) h) ?_
  refine zH (.pointer (some ⟨b, 0, none⟩)) (fun w h => heldRun_value (by kernel_rfl) h) ?_
  refine zH (.pointer (some ⟨b, 0, none⟩)) (fun w h => heldRun_value (by kernel_rfl) h) ?_
  refine zH (.pointer (some ⟨b, 1, none⟩)) (fun w h => heldRun_value (by kernel_rfl) h) ?_
  refine zH (.int .u64 ((h1 : Nat) : Int)) (fun w h => heldRun_value (run_load_one _ _ _ 82 _ _ rfl (b) (1) rfl (sum_c1 h.2.1) (by kernel_rfl)) h) ?_
  refine zH (.int .u64 ((h0 : Nat) : Int)) (fun w h => heldRun_value (by kernel_rfl) h) ?_
  refine zH (.int .u64 ((h1 : Nat) : Int)) (fun w h => heldRun_value (by kernel_rfl) h) ?_
  refine wpHeld_nil ?_
  intro X h
  have HT := Lib.hid h
  clear h M1
  have M1 := HT
  clear HT
  go_upto_region 6 with (fail)
  refine wp_region_lit ?_
  refine zP (.int .u64 ((h0 : Nat) : Int)) ?_
  refine zP (.int .u64 ((lo : Nat) : Int)) ?_
  refine zQ (.tuple #[.int .u64 ((p0 : Nat) : Int), .int .u64 ((z0 : Nat) : Int)]) ((Eq.trans (b := (callFunc 50 #[.int .u64 ((h0 : Nat) : Int), .int .u64 ((lo : Nat) : Int), .int .u64 ((0 : Nat) : Int)]).run Tryd.prog _) (by kernel_rfl) (A0.out.1 _))) ?_
  refine zP (.tuple #[.int .u64 ((p0 : Nat) : Int), .int .u64 ((z0 : Nat) : Int)]) ?_
  refine zP (.int .u64 ((p0 : Nat) : Int)) ?_
  refine zP (.int .u64 ((z0 : Nat) : Int)) ?_
  refine zP (.int .u64 ((p0 : Nat) : Int)) ?_
  refine zP (.int .u64 ((z0 : Nat) : Int)) ?_
  go_upto_region 7 with (fail)
  refine wp_region_lit ?_
  refine zP (.int .u64 ((h1 : Nat) : Int)) ?_
  refine zP (.int .u64 ((hi : Nat) : Int)) ?_
  refine zP (.int .u64 ((z0 : Nat) : Int)) ?_
  refine zQ (.tuple #[.int .u64 ((q0 : Nat) : Int), .int .u64 ((z1 : Nat) : Int)]) ((Eq.trans (b := (callFunc 50 #[.int .u64 ((h1 : Nat) : Int), .int .u64 ((hi : Nat) : Int), .int .u64 ((z0 : Nat) : Int)]).run Tryd.prog _) (by kernel_rfl) (A1.out.1 _))) ?_
  refine zP (.tuple #[.int .u64 ((q0 : Nat) : Int), .int .u64 ((z1 : Nat) : Int)]) ?_
  refine zP (.int .u64 ((q0 : Nat) : Int)) ?_
  refine zP (.int .u64 ((z1 : Nat) : Int)) ?_
  refine zP (.int .u64 ((q0 : Nat) : Int)) ?_
  obtain ⟨w2, hw2⟩ : ∃ V, V = X.alloc (.cells (u8l (List.replicate 16 0)).toArray 39) := ⟨_, rfl⟩
  have M2 : Hid (Below g6 w w2 ∧ Blk w2 g6 39 (u8l (List.replicate 16 0)).toArray ∧ Blk w2 X.heap.size 39 (O.outb p0 q0 0).toArray ∧ g6 < X.heap.size) := Lib.hid (by rw [hw2, outb_nil]; exact ⟨M1.out.1.alloc (by have := M1.out.2.2.2; omega) _, M1.out.2.2.1.alloc _, Blk.new _ _ _, M1.out.2.2.2⟩)
  go_upto_region 8 with (fail)
  refine wp_region_lit ?_
  refine zV (.pointer (some ⟨X.heap.size, 0, none⟩)) (w2) (by rw [hw2]; kernel_rfl) ?_
  clear hw2 M1
  generalize X.heap.size = go at M2 ⊢
  go_wp2_with fail
  go_loopw [66] (fun s66 wr => ∃ k : Nat, s66 = .int .i64 (k : Int) ∧ Hid (k ≤ 8 ∧ Below g6 w wr ∧ Blk wr g6 39 (u8l (List.replicate 16 0)).toArray ∧ Blk wr go 39 (O.outb p0 q0 k).toArray)) (fun s66 _ => 8 - (intOf s66).toNat)
  case atStart => exact ⟨0, rfl, Lib.hid ⟨by omega, M2.out.1, M2.out.2.1, M2.out.2.2.1⟩⟩
  case round =>
   obtain ⟨k, rfl, RI⟩ := hrel
   by_cases hlt : k < 8
   ·have HK := Lib.hid hlt
    clear hlt
    go_upto_region 10 with (fail)
    refine wp_region_lit ?_
    refine zQ (.bool true) (run_lti Tryd.underlying3 rfl rfl rfl (by have := HK.out; rw [decide_eq_true_eq]; omega)) ?_
    go_upto_region 11 with (fail)
    refine wp_region_lit ?_
    refine zP (.int .i64 (k : Int)) ?_
    refine zP (.int .i64 (k : Int)) ?_
    go_upto_region 12 with (fail)
    refine region_any (by kernel_rfl) 17 rfl ?_
    refine zA 0 69 (.int .i64 (k : Int)) ?_
    refine zA 1 70 (.int .i64 (k : Int)) ?_
    refine zB 2 71 (.int .i64 ((8 + k : Nat) : Int)) rfl (fun w => O.run_add8 _ _ _ _ k rfl rfl HK.out) ?_
    refine zA 3 72 (.int .u64 ((p0 : Nat) : Int)) ?_
    refine zA 4 73 (.int .i64 (k : Int)) ?_
    refine zB 5 74 (.int .i64 ((8 * k : Nat) : Int)) rfl (fun w => O.run_mul8 _ _ _ _ k rfl rfl HK.out) ?_
    refine zB 6 75 (.int .u64 ((p0 / 2 ^ (8 * k) : Nat) : Int)) rfl (fun w => O.run_shr _ _ _ _ _ k p0 rfl rfl rfl HK.out A0.out.2.1) ?_
    refine zB 7 76 (.int .u8 ((O.by8 p0 k : Nat) : Int)) rfl (fun w => O.run_conv8 _ _ _ _ (p0 / 2 ^ (8 * k)) rfl rfl) ?_
    refine zA 8 77 (.int .u64 ((q0 : Nat) : Int)) ?_
    refine zA 9 78 (.int .i64 (k : Int)) ?_
    refine zB 10 79 (.int .i64 ((8 * k : Nat) : Int)) rfl (fun w => O.run_mul8 _ _ _ _ k rfl rfl HK.out) ?_
    refine zB 11 80 (.int .u64 ((q0 / 2 ^ (8 * k) : Nat) : Int)) rfl (fun w => O.run_shr _ _ _ _ _ k q0 rfl rfl rfl HK.out A1.out.2.1) ?_
    refine zB 12 81 (.int .u8 ((O.by8 q0 k : Nat) : Int)) rfl (fun w => O.run_conv8 _ _ _ _ (q0 / 2 ^ (8 * k)) rfl rfl) ?_
    refine zB 13 82 (.pointer (some ⟨go, 0 + k, none⟩)) rfl (fun w => O.run_idxa _ _ _ _ _ go 0 k rfl rfl rfl (by have := HK.out; omega)) ?_
    refine wpAny_of_idx [14, 15, 16] [⟨none, _, _, _, _, _⟩, ⟨some 83, _, _, _, _, _⟩, ⟨none, _, _, _, _, _⟩] _ _ _ (by rfl) (by kernel_rfl) ?_
    refine wpL_store_one rfl rfl (go) (0 + k) rfl (.int .u8 ((O.by8 p0 k : Nat) : Int)) rfl rfl size5 ((outb_some RI.out.2.2.2 k (by have := HK.out; omega))) (RI.out.2.2.2.free _) ?_
    simp only [Act.put, List.setIfInBounds_toArray, List.set_cons_zero, List.set_cons_succ]
    obtain ⟨w3, hw3⟩ : ∃ V, V = wr.drew.setCell ⟨go, 0 + k, none⟩ (.int .u8 ((O.by8 p0 k : Nat) : Int)) := ⟨_, rfl⟩
    rw [← hw3]
    have X3 : Hid (Below g6 w w3 ∧ Blk w3 g6 39 (u8l (List.replicate 16 0)).toArray ∧ Blk w3 go 39 ((O.outb p0 q0 k).set k (.int .u8 ((O.by8 p0 k : Nat) : Int))).toArray) := Lib.hid (by rw [hw3, Nat.zero_add]; exact ⟨(RI.out.2.1.drew).setCell (p := ⟨go, k, none⟩) (Nat.le_of_lt M2.out.2.2.2) _, RI.out.2.2.1.other _ _ (Nat.ne_of_lt M2.out.2.2.2), Blk.set RI.out.2.2.2 k _⟩)
    clear hw3
    refine zQ (.pointer (some ⟨go, 0 + (8 + k), none⟩)) (O.run_idxa _ _ _ _ _ go 0 (8 + k) rfl rfl rfl (by have := HK.out; omega)) ?_
    refine wpL_store_one rfl rfl (go) (0 + (8 + k)) rfl (.int .u8 ((O.by8 q0 k : Nat) : Int)) rfl rfl size5 ((outb_some2 X3.out.2.2 k HK.out)) (X3.out.2.2.free _) ?_
    simp only [Act.put, List.setIfInBounds_toArray, List.set_cons_zero, List.set_cons_succ]
    obtain ⟨w4, hw4⟩ : ∃ V, V = w3.setCell ⟨go, 0 + (8 + k), none⟩ (.int .u8 ((O.by8 q0 k : Nat) : Int)) := ⟨_, rfl⟩
    rw [← hw4]
    have NX : Hid (k + 1 ≤ 8 ∧ Below g6 w w4 ∧ Blk w4 g6 39 (u8l (List.replicate 16 0)).toArray ∧ Blk w4 go 39 (O.outb p0 q0 (k + 1)).toArray) := Lib.hid (by rw [hw4, Nat.zero_add, ← O.outb_next p0 q0 k HK.out]; exact ⟨HK.out, X3.out.1.setCell (p := ⟨go, 8 + k, none⟩) (Nat.le_of_lt M2.out.2.2.2) _, X3.out.2.1.other _ _ (Nat.ne_of_lt M2.out.2.2.2), Blk.set X3.out.2.2 (8 + k) _⟩)
    clear hw4 X3
    go_upto_region 13 with (fail)
    refine wp_region_lit ?_
    refine zQ (.int .i64 ((k + 1 : Nat) : Int)) (run_addi Tryd.underlying3 rfl rfl rfl _ (by have := HK.out; rw [wrap_in _ (by omega) (by omega)]; omega)) ?_
    refine zP (.int .i64 ((k + 1 : Nat) : Int)) ?_
    unfold wpList
    go_roundw
    case rel => first | exact ⟨_, rfl, NX⟩ | ((repeat apply Exists.intro); exact ⟨⟨_, rfl, NX⟩, rfl⟩)
    case measure => simp [intOf]; have := HK.out; omega
   ·have HK := Lib.hid hlt
    have EK : Hid (k = 8) := Lib.hid (by have := RI.out.1; omega)
    clear hlt
    have F8 : Hid (Below g6 w wr ∧ Blk wr g6 39 (u8l (List.replicate 16 0)).toArray ∧ Blk wr go 39 (O.outb p0 q0 8).toArray) := Lib.hid (by have h := RI.out; rw [EK.out] at h; exact h.2)
    go_upto_region 10 with (fail)
    refine wp_region_lit ?_
    refine zQ (.bool false) (run_lti Tryd.underlying3 rfl rfl rfl (by have := HK.out; rw [decide_eq_false_iff_not]; omega)) ?_
    go_upto_region 14 with (fail)
    refine wp_region_lit ?_
    refine wpL_load 39 _ rfl rfl go 0 rfl (O.outb p0 q0 8) _ (range_blk F8.out.2.2) Tryd.underlying39 rfl (by rw [O.outb_len]; kernel_rfl) ?_
    simp only [Act.put, List.setIfInBounds_toArray, List.set_cons_zero, List.set_cons_succ]
    refine wpList_store_rowTo rfl 39 _ _ rfl rfl g6 (O.outb p0 q0 8).toArray rfl rfl 39 _ F8.out.2.1 (by simp only [List.size_toArray, O.outb_len]; kernel_rfl) (by simp [u8l, O.outb_len]) (outb_one _ _ _) ?_
    go_wp2_with fail
    refine bodyPost_ret (results_cell_row rfl _ _ g6 39 _ (0, 0) _ rfl (setRow_heap _ _ _ _ _ _ F8.out.2.1) Tryd.underlying39 rfl (by simp only [List.size_toArray, O.outb_len]; kernel_rfl)) rfl ?_
    exact ⟨by rw [outb_le16 A0.out.2.1 A1.out.2.1, le16_congr (HC.out)], by rw [G6.out]; exact below_setRow F8.out.1 (Nat.le_refl _) _⟩
 ·have HK3 := Lib.hid hc
  have HC := Lib.hid (HE.out.2 (by have := HK3.out; have := S3.out; omega))
  clear hc HE
  go_upto_region 4 with (fail)
  refine wp_region_lit ?_
  refine zP (.int .u64 ((c3 : Nat) : Int)) ?_
  refine zQ (.bool false) (run_eqi Tryd.underlying82 rfl rfl rfl (by have := HK3.out; rw [decide_eq_false_iff_not]; omega)) ?_
  go_upto_region 6 with (fail)
  refine wp_region_lit ?_
  refine zP (.int .u64 ((s0 : Nat) : Int)) ?_
  refine zP (.int .u64 ((lo : Nat) : Int)) ?_
  refine zQ (.tuple #[.int .u64 ((p1 : Nat) : Int), .int .u64 ((j0 : Nat) : Int)]) ((Eq.trans (b := (callFunc 50 #[.int .u64 ((s0 : Nat) : Int), .int .u64 ((lo : Nat) : Int), .int .u64 ((0 : Nat) : Int)]).run Tryd.prog _) (by kernel_rfl) (A2.out.1 _))) ?_
  refine zP (.tuple #[.int .u64 ((p1 : Nat) : Int), .int .u64 ((j0 : Nat) : Int)]) ?_
  refine zP (.int .u64 ((p1 : Nat) : Int)) ?_
  refine zP (.int .u64 ((j0 : Nat) : Int)) ?_
  refine zP (.int .u64 ((p1 : Nat) : Int)) ?_
  refine zP (.int .u64 ((j0 : Nat) : Int)) ?_
  go_upto_region 7 with (fail)
  refine wp_region_lit ?_
  refine zP (.int .u64 ((s1 : Nat) : Int)) ?_
  refine zP (.int .u64 ((hi : Nat) : Int)) ?_
  refine zP (.int .u64 ((j0 : Nat) : Int)) ?_
  refine zQ (.tuple #[.int .u64 ((q1 : Nat) : Int), .int .u64 ((j1 : Nat) : Int)]) ((Eq.trans (b := (callFunc 50 #[.int .u64 ((s1 : Nat) : Int), .int .u64 ((hi : Nat) : Int), .int .u64 ((j0 : Nat) : Int)]).run Tryd.prog _) (by kernel_rfl) (A3.out.1 _))) ?_
  refine zP (.tuple #[.int .u64 ((q1 : Nat) : Int), .int .u64 ((j1 : Nat) : Int)]) ?_
  refine zP (.int .u64 ((q1 : Nat) : Int)) ?_
  refine zP (.int .u64 ((j1 : Nat) : Int)) ?_
  refine zP (.int .u64 ((q1 : Nat) : Int)) ?_
  obtain ⟨w2, hw2⟩ : ∃ V, V = w1.alloc (.cells (u8l (List.replicate 16 0)).toArray 39) := ⟨_, rfl⟩
  have M2 : Hid (Below g6 w w2 ∧ Blk w2 g6 39 (u8l (List.replicate 16 0)).toArray ∧ Blk w2 w1.heap.size 39 (O.outb p1 q1 0).toArray ∧ g6 < w1.heap.size) := Lib.hid (by rw [hw2, outb_nil]; exact ⟨M1.out.1.alloc (by have := M1.out.2.2.2; omega) _, M1.out.2.2.1.alloc _, Blk.new _ _ _, M1.out.2.2.2⟩)
  go_upto_region 8 with (fail)
  refine wp_region_lit ?_
  refine zV (.pointer (some ⟨w1.heap.size, 0, none⟩)) (w2) (by rw [hw2]; kernel_rfl) ?_
  clear hw2 M1
  generalize w1.heap.size = go at M2 ⊢
  go_wp2_with fail
  go_loopw [66] (fun s66 wr => ∃ k : Nat, s66 = .int .i64 (k : Int) ∧ Hid (k ≤ 8 ∧ Below g6 w wr ∧ Blk wr g6 39 (u8l (List.replicate 16 0)).toArray ∧ Blk wr go 39 (O.outb p1 q1 k).toArray)) (fun s66 _ => 8 - (intOf s66).toNat)
  case atStart => exact ⟨0, rfl, Lib.hid ⟨by omega, M2.out.1, M2.out.2.1, M2.out.2.2.1⟩⟩
  case round =>
   obtain ⟨k, rfl, RI⟩ := hrel
   by_cases hlt : k < 8
   ·have HK := Lib.hid hlt
    clear hlt
    go_upto_region 10 with (fail)
    refine wp_region_lit ?_
    refine zQ (.bool true) (run_lti Tryd.underlying3 rfl rfl rfl (by have := HK.out; rw [decide_eq_true_eq]; omega)) ?_
    go_upto_region 11 with (fail)
    refine wp_region_lit ?_
    refine zP (.int .i64 (k : Int)) ?_
    refine zP (.int .i64 (k : Int)) ?_
    go_upto_region 12 with (fail)
    refine region_any (by kernel_rfl) 17 rfl ?_
    refine zA 0 69 (.int .i64 (k : Int)) ?_
    refine zA 1 70 (.int .i64 (k : Int)) ?_
    refine zB 2 71 (.int .i64 ((8 + k : Nat) : Int)) rfl (fun w => O.run_add8 _ _ _ _ k rfl rfl HK.out) ?_
    refine zA 3 72 (.int .u64 ((p1 : Nat) : Int)) ?_
    refine zA 4 73 (.int .i64 (k : Int)) ?_
    refine zB 5 74 (.int .i64 ((8 * k : Nat) : Int)) rfl (fun w => O.run_mul8 _ _ _ _ k rfl rfl HK.out) ?_
    refine zB 6 75 (.int .u64 ((p1 / 2 ^ (8 * k) : Nat) : Int)) rfl (fun w => O.run_shr _ _ _ _ _ k p1 rfl rfl rfl HK.out A2.out.2.1) ?_
    refine zB 7 76 (.int .u8 ((O.by8 p1 k : Nat) : Int)) rfl (fun w => O.run_conv8 _ _ _ _ (p1 / 2 ^ (8 * k)) rfl rfl) ?_
    refine zA 8 77 (.int .u64 ((q1 : Nat) : Int)) ?_
    refine zA 9 78 (.int .i64 (k : Int)) ?_
    refine zB 10 79 (.int .i64 ((8 * k : Nat) : Int)) rfl (fun w => O.run_mul8 _ _ _ _ k rfl rfl HK.out) ?_
    refine zB 11 80 (.int .u64 ((q1 / 2 ^ (8 * k) : Nat) : Int)) rfl (fun w => O.run_shr _ _ _ _ _ k q1 rfl rfl rfl HK.out A3.out.2.1) ?_
    refine zB 12 81 (.int .u8 ((O.by8 q1 k : Nat) : Int)) rfl (fun w => O.run_conv8 _ _ _ _ (q1 / 2 ^ (8 * k)) rfl rfl) ?_
    refine zB 13 82 (.pointer (some ⟨go, 0 + k, none⟩)) rfl (fun w => O.run_idxa _ _ _ _ _ go 0 k rfl rfl rfl (by have := HK.out; omega)) ?_
    refine wpAny_of_idx [14, 15, 16] [⟨none, _, _, _, _, _⟩, ⟨some 83, _, _, _, _, _⟩, ⟨none, _, _, _, _, _⟩] _ _ _ (by rfl) (by kernel_rfl) ?_
    refine wpL_store_one rfl rfl (go) (0 + k) rfl (.int .u8 ((O.by8 p1 k : Nat) : Int)) rfl rfl size5 ((outb_some RI.out.2.2.2 k (by have := HK.out; omega))) (RI.out.2.2.2.free _) ?_
    simp only [Act.put, List.setIfInBounds_toArray, List.set_cons_zero, List.set_cons_succ]
    obtain ⟨w3, hw3⟩ : ∃ V, V = wr.drew.setCell ⟨go, 0 + k, none⟩ (.int .u8 ((O.by8 p1 k : Nat) : Int)) := ⟨_, rfl⟩
    rw [← hw3]
    have X3 : Hid (Below g6 w w3 ∧ Blk w3 g6 39 (u8l (List.replicate 16 0)).toArray ∧ Blk w3 go 39 ((O.outb p1 q1 k).set k (.int .u8 ((O.by8 p1 k : Nat) : Int))).toArray) := Lib.hid (by rw [hw3, Nat.zero_add]; exact ⟨(RI.out.2.1.drew).setCell (p := ⟨go, k, none⟩) (Nat.le_of_lt M2.out.2.2.2) _, RI.out.2.2.1.other _ _ (Nat.ne_of_lt M2.out.2.2.2), Blk.set RI.out.2.2.2 k _⟩)
    clear hw3
    refine zQ (.pointer (some ⟨go, 0 + (8 + k), none⟩)) (O.run_idxa _ _ _ _ _ go 0 (8 + k) rfl rfl rfl (by have := HK.out; omega)) ?_
    refine wpL_store_one rfl rfl (go) (0 + (8 + k)) rfl (.int .u8 ((O.by8 q1 k : Nat) : Int)) rfl rfl size5 ((outb_some2 X3.out.2.2 k HK.out)) (X3.out.2.2.free _) ?_
    simp only [Act.put, List.setIfInBounds_toArray, List.set_cons_zero, List.set_cons_succ]
    obtain ⟨w4, hw4⟩ : ∃ V, V = w3.setCell ⟨go, 0 + (8 + k), none⟩ (.int .u8 ((O.by8 q1 k : Nat) : Int)) := ⟨_, rfl⟩
    rw [← hw4]
    have NX : Hid (k + 1 ≤ 8 ∧ Below g6 w w4 ∧ Blk w4 g6 39 (u8l (List.replicate 16 0)).toArray ∧ Blk w4 go 39 (O.outb p1 q1 (k + 1)).toArray) := Lib.hid (by rw [hw4, Nat.zero_add, ← O.outb_next p1 q1 k HK.out]; exact ⟨HK.out, X3.out.1.setCell (p := ⟨go, 8 + k, none⟩) (Nat.le_of_lt M2.out.2.2.2) _, X3.out.2.1.other _ _ (Nat.ne_of_lt M2.out.2.2.2), Blk.set X3.out.2.2 (8 + k) _⟩)
    clear hw4 X3
    go_upto_region 13 with (fail)
    refine wp_region_lit ?_
    refine zQ (.int .i64 ((k + 1 : Nat) : Int)) (run_addi Tryd.underlying3 rfl rfl rfl _ (by have := HK.out; rw [wrap_in _ (by omega) (by omega)]; omega)) ?_
    refine zP (.int .i64 ((k + 1 : Nat) : Int)) ?_
    unfold wpList
    go_roundw
    case rel => first | exact ⟨_, rfl, NX⟩ | ((repeat apply Exists.intro); exact ⟨⟨_, rfl, NX⟩, rfl⟩)
    case measure => simp [intOf]; have := HK.out; omega
   ·have HK := Lib.hid hlt
    have EK : Hid (k = 8) := Lib.hid (by have := RI.out.1; omega)
    clear hlt
    have F8 : Hid (Below g6 w wr ∧ Blk wr g6 39 (u8l (List.replicate 16 0)).toArray ∧ Blk wr go 39 (O.outb p1 q1 8).toArray) := Lib.hid (by have h := RI.out; rw [EK.out] at h; exact h.2)
    go_upto_region 10 with (fail)
    refine wp_region_lit ?_
    refine zQ (.bool false) (run_lti Tryd.underlying3 rfl rfl rfl (by have := HK.out; rw [decide_eq_false_iff_not]; omega)) ?_
    go_upto_region 14 with (fail)
    refine wp_region_lit ?_
    refine wpL_load 39 _ rfl rfl go 0 rfl (O.outb p1 q1 8) _ (range_blk F8.out.2.2) Tryd.underlying39 rfl (by rw [O.outb_len]; kernel_rfl) ?_
    simp only [Act.put, List.setIfInBounds_toArray, List.set_cons_zero, List.set_cons_succ]
    refine wpList_store_rowTo rfl 39 _ _ rfl rfl g6 (O.outb p1 q1 8).toArray rfl rfl 39 _ F8.out.2.1 (by simp only [List.size_toArray, O.outb_len]; kernel_rfl) (by simp [u8l, O.outb_len]) (outb_one _ _ _) ?_
    go_wp2_with fail
    refine bodyPost_ret (results_cell_row rfl _ _ g6 39 _ (0, 0) _ rfl (setRow_heap _ _ _ _ _ _ F8.out.2.1) Tryd.underlying39 rfl (by simp only [List.size_toArray, O.outb_len]; kernel_rfl)) rfl ?_
    exact ⟨by rw [outb_le16 A2.out.2.1 A3.out.2.1, le16_congr (HC.out)], by rw [G6.out]; exact below_setRow F8.out.1 (Nat.le_refl _) _⟩
end Go.Proofs.YtlbfohpkngmaoaaDoor.Po
