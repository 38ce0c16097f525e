/- multiply, of a sum under way. -/
import Derived.Test.YtlbfohpkngmaoaaDoorPoQ2
namespace Go.Proofs.YtlbfohpkngmaoaaDoor.Po
open Go Go.RowKit
attribute [local irreducible] wpList
def S23 (b : Nat) (w : World) (h0 h1 h2 r0 r1 : Nat) (R : List Int) (hl : Nat) (X : World) : Prop := w.grownBy X (some b) ∧ Blk X b 88 (sumC h0 h1 h2 r0 r1 R hl).toArray
theorem S23.drew {b : Nat} {w X : World} {h0 h1 h2 r0 r1 : Nat} {R : List Int} {hl : Nat} (h : S23 b w h0 h1 h2 r0 r1 R hl X) : S23 b w h0 h1 h2 r0 r1 R hl X.drew := ⟨gb_drew h.1, h.2⟩
theorem six_mul {h r : Nat} (h1 : h ≤ 6) (h2 : r < 1152921504606846976) : h * r < 18446744073709551616 := by
 have : h * r ≤ 6 * 1152921504606846976 := Nat.mul_le_mul h1 (by omega)
 omega
theorem names_lt {x y : Nat} (hx : x < 18446744073709551616) (hy : y < 18446744073709551616) : x - x % 4 < 18446744073709551616 ∧ x / 4 + y % 4 * 4611686018427387904 < 18446744073709551616 ∧ y / 4 < 18446744073709551616 ∧ x % 4 ≤ 3 := by omega
theorem le1_lt {x : Nat} (hx : x ≤ 1) : x < 18446744073709551616 := by omega
theorem key_lt {x : Nat} (hx : x < 1152921504606846976) : x < 18446744073709551616 := by omega
set_option maxRecDepth 100000 in
set_option maxHeartbeats 4000000 in
theorem multiply_any (w : World) (b h0 h1 h2 r0 r1 : Nat) (R : List Int) (hl : Nat) (l0 : h0 < 18446744073709551616) (l1 : h1 < 18446744073709551616) (l2 : h2 ≤ 6) (k0 : r0 < 1152921504606846976) (k1 : r1 < 1152921504606846976) (hb : Blk w b 88 (sumC h0 h1 h2 r0 r1 R hl).toArray) :
  Calls Tryd.prog 51 #[.pointer (some ⟨b, 0, none⟩)] w fun e w' => e = .returned (.tuple #[]) ∧ w.grownBy w' (some b) ∧ ∃ z0 z1 z2 : Nat, Blk w' b 88 (sumC z0 z1 z2 r0 r1 R hl).toArray ∧ z0 < 18446744073709551616 ∧ z1 < 18446744073709551616 ∧ z2 ≤ 4 ∧
   (z0 + 18446744073709551616 * z1 + 340282366920938463463374607431768211456 * z2) % p130 = (h0 + 18446744073709551616 * h1 + 340282366920938463463374607431768211456 * h2) * (r0 + 18446744073709551616 * r1) % p130 := by
 have HS : Hid (S23 b w h0 h1 h2 r0 r1 R hl w) := Lib.hid ⟨gb_refl _ _, hb⟩
 obtain ⟨a1, t0, M0', ma1, mt0, m0⟩ := mul_ex h0 r0 l0 (key_lt k0)
 obtain ⟨b1, b0, M1', mb1, mb0, m1⟩ := mul_ex h1 r0 l1 (key_lt k0)
 obtain ⟨d1, d0, M2', md1, md0, m2⟩ := mul_ex h0 r1 l0 (key_lt k1)
 obtain ⟨f1, f0, M3', mf1, mf0, m3⟩ := mul_ex h1 r1 l1 (key_lt k1)
 have HX0 : Hid (h2 * r0 < 18446744073709551616) := Lib.hid (six_mul l2 k0)
 have HX1 : Hid (h2 * r1 < 18446744073709551616) := Lib.hid (six_mul l2 k1)
 obtain ⟨t1, c1, E1'⟩ := add_ex b0 d0 0 mb0 md0 (Nat.zero_le 1)
 obtain ⟨t2, c2, E2'⟩ := add_ex b1 d1 c1 mb1 md1 E1'.2.2.1
 obtain ⟨u1, e1, E3'⟩ := add_ex t1 a1 0 E1'.2.1 ma1 (Nat.zero_le 1)
 obtain ⟨u2, e2, E4'⟩ := add_ex t2 f0 e1 E2'.2.1 mf0 E3'.2.2.1
 obtain ⟨t3, g3, E5'⟩ := add_ex c2 f1 e2 (le1_lt E2'.2.2.1) mf1 E4'.2.2.1
 obtain ⟨v2, e3, E6'⟩ := add_ex u2 (h2 * r0) 0 E4'.2.1 HX0.out (Nat.zero_le 1)
 obtain ⟨v3, g4, E7'⟩ := add_ex t3 (h2 * r1) e3 E5'.2.1 HX1.out E6'.2.2.1
 obtain ⟨n0, hn0⟩ : ∃ q, v2 - v2 % 4 = q := ⟨_, rfl⟩
 obtain ⟨n3, hn3⟩ : ∃ q, v2 / 4 = q := ⟨_, rfl⟩
 obtain ⟨n4, hn4⟩ : ∃ q, v3 % 4 * 4611686018427387904 = q := ⟨_, rfl⟩
 obtain ⟨n1, hn1⟩ : ∃ q, n3 + n4 = q := ⟨_, rfl⟩
 obtain ⟨n2, hn2⟩ : ∃ q, v3 / 4 = q := ⟨_, rfl⟩
 obtain ⟨n5, hn5⟩ : ∃ q, v2 % 4 = q := ⟨_, rfl⟩
 have NR : Hid (n0 < 18446744073709551616 ∧ n1 < 18446744073709551616 ∧ n2 < 18446744073709551616 ∧ n5 ≤ 3) := Lib.hid (by rw [← hn0, ← hn1, ← hn2, ← hn5, ← hn3, ← hn4]; exact names_lt E6'.2.1 E7'.2.1)
 have NQ := Lib.hid (And.intro hn0 (And.intro hn3 (And.intro hn4 (And.intro hn1 (And.intro hn2 hn5)))))
 clear hn0 hn1 hn2 hn3 hn4 hn5
 have HL := Lib.hid (And.intro l0 (And.intro l1 (And.intro l2 (And.intro k0 k1))))
 have M0 := Lib.hid M0'
 have M1 := Lib.hid M1'
 have M2 := Lib.hid M2'
 have M3 := Lib.hid M3'
 have P0 := Lib.hid m0
 have P1 := Lib.hid m1
 have P2 := Lib.hid m2
 have P3 := Lib.hid m3
 have E0 := Lib.hid mt0
 have E1 := Lib.hid E1'
 have E2 := Lib.hid E2'
 have E3 := Lib.hid E3'
 have E4 := Lib.hid E4'
 have E5 := Lib.hid E5'
 have E6 := Lib.hid E6'
 have E7 := Lib.hid E7'
 clear hb l0 l1 l2 k0 k1 M0' M1' M2' M3' ma1 mt0 mb1 mb0 md1 md0 mf1 mf0 m0 m1 m2 m3 E1' E2' E3' E4' E5' E6' E7'
 go_enter Tryd.func51, Tryd.ntmps51
 go_upto_region 0 with (fail)
 refine region_held_all (S23 b w h0 h1 h2 r0 r1 R hl) (by kernel_rfl) (by kernel_rfl) (HS.out.drew) ?_
 refine zH (.pointer (some ⟨b, 0, none⟩)) (fun w h => heldRun_value (by kernel_rfl) h) ?_
 refine zH (.pointer (some ⟨b, 0, none⟩)) (fun w h => heldRun_value (by kernel_rfl) h) ?_
 refine zH (.pointer (some ⟨b, 0, none⟩)) (fun w h => heldRun_value (by kernel_rfl) h) ?_
 refine zH (.pointer (some ⟨b, 0, none⟩)) (fun w h => heldRun_value (by kernel_rfl) h) ?_
 refine zH (.int .u64 ((h0 : Nat) : Int)) (fun w h => heldRun_value (run_load_one _ _ _ 82 _ _ rfl (b) (0) rfl (sum_c0 h.2) (by kernel_rfl)) h) ?_
 refine zH (.pointer (some ⟨b, 0, none⟩)) (fun w h => heldRun_value (by kernel_rfl) h) ?_
 refine zH (.pointer (some ⟨b, 0, none⟩)) (fun w h => heldRun_value (by kernel_rfl) h) ?_
 refine zH (.pointer (some ⟨b, 3, none⟩)) (fun w h => heldRun_value (by kernel_rfl) h) ?_
 refine zH (.pointer (some ⟨b, 3, none⟩)) (fun w h => heldRun_value (by kernel_rfl) h) ?_
 refine zH (.int .u64 ((r0 : Nat) : Int)) (fun w h => heldRun_value (run_load_one _ _ _ 82 _ _ rfl (b) (3) rfl (sum_c3 h.2) (by kernel_rfl)) h) ?_
 refine wpHeld_call (.tuple #[.int .u64 ((a1 : Nat) : Int), .int .u64 ((t0 : Nat) : Int)]) 55 #[.int .u64 ((h0 : Nat) : Int), .int .u64 ((r0 : Nat) : Int)] rfl (fun w => by kernel_rfl) ((fun w h => (M0.out w).mono (fun e w' ⟨he, hx⟩ => ⟨he, by subst hx; exact h⟩))) ?_
 simp only [Act.put, List.setIfInBounds_toArray, List.set_cons_zero, List.set_cons_succ]
 refine zH (.tuple #[.int .u64 ((a1 : Nat) : Int), .int .u64 ((t0 : Nat) : Int)]) (fun w h => heldRun_value (by kernel_rfl) h) ?_
 refine zH (.int .u64 ((a1 : Nat) : Int)) (fun w h => heldRun_value (by kernel_rfl) h) ?_
 refine zH (.int .u64 ((t0 : Nat) : Int)) (fun w h => heldRun_value (by kernel_rfl) h) ?_
 refine zH (.int .u64 ((a1 : Nat) : Int)) (fun w h => heldRun_value (by kernel_rfl) h) ?_
 refine zH (.int .u64 ((t0 : Nat) : Int)) (fun w h => heldRun_value (by kernel_rfl) h) ?_
 refine wpHeld_nil ?_
 intro X0 h
 have HS0 : Hid (S23 b w h0 h1 h2 r0 r1 R hl X0) := Lib.hid h
 clear h HS
 go_upto_region 1 with (fail)
 refine region_held_all (S23 b w h0 h1 h2 r0 r1 R hl) (by kernel_rfl) (by kernel_rfl) (HS0.out.drew) ?_
 refine zH (.pointer (some ⟨b, 0, none⟩)) (fun w h => heldRun_value (by kernel_rfl) h) ?_
 refine zH (.pointer (some ⟨b, 0, none⟩)) (fun w h => heldRun_value (by kernel_rfl) h) ?_
 refine zH (.pointer (some ⟨b, 0, none⟩)) (fun w h => heldRun_value (by kernel_rfl) h) ?_
 refine zH (.pointer (some ⟨b, 1, none⟩)) (fun w h => heldRun_value (by kernel_rfl) h) ?_
 refine zH (.int .u64 ((h1 : Nat) : Int)) (fun w h => heldRun_value (run_load_one _ _ _ 82 _ _ rfl (b) (1) rfl (sum_c1 h.2) (by kernel_rfl)) h) ?_
 refine zH (.pointer (some ⟨b, 0, none⟩)) (fun w h => heldRun_value (by kernel_rfl) h) ?_
 refine zH (.pointer (some ⟨b, 0, none⟩)) (fun w h => heldRun_value (by kernel_rfl) h) ?_
 refine zH (.pointer (some ⟨b, 3, none⟩)) (fun w h => heldRun_value (by kernel_rfl) h) ?_
 refine zH (.pointer (some ⟨b, 3, none⟩)) (fun w h => heldRun_value (by kernel_rfl) h) ?_
 refine zH (.int .u64 ((r0 : Nat) : Int)) (fun w h => heldRun_value (run_load_one _ _ _ 82 _ _ rfl (b) (3) rfl (sum_c3 h.2) (by kernel_rfl)) h) ?_
 refine wpHeld_call (.tuple #[.int .u64 ((b1 : Nat) : Int), .int .u64 ((b0 : Nat) : Int)]) 55 #[.int .u64 ((h1 : Nat) : Int), .int .u64 ((r0 : Nat) : Int)] rfl (fun w => by kernel_rfl) ((fun w h => (M1.out w).mono (fun e w' ⟨he, hx⟩ => ⟨he, by subst hx; exact h⟩))) ?_
 simp only [Act.put, List.setIfInBounds_toArray, List.set_cons_zero, List.set_cons_succ]
 refine zH (.tuple #[.int .u64 ((b1 : Nat) : Int), .int .u64 ((b0 : Nat) : Int)]) (fun w h => heldRun_value (by kernel_rfl) h) ?_
 refine zH (.int .u64 ((b1 : Nat) : Int)) (fun w h => heldRun_value (by kernel_rfl) h) ?_
 refine zH (.int .u64 ((b0 : Nat) : Int)) (fun w h => heldRun_value (by kernel_rfl) h) ?_
 refine zH (.int .u64 ((b1 : Nat) : Int)) (fun w h => heldRun_value (by kernel_rfl) h) ?_
 refine zH (.int .u64 ((b0 : Nat) : Int)) (fun w h => heldRun_value (by kernel_rfl) h) ?_
 refine wpHeld_nil ?_
 intro X1 h
 have HS1 : Hid (S23 b w h0 h1 h2 r0 r1 R hl X1) := Lib.hid h
 clear h HS0
 go_upto_region 2 with (fail)
 refine region_held_all (S23 b w h0 h1 h2 r0 r1 R hl) (by kernel_rfl) (by kernel_rfl) (HS1.out.drew) ?_
 refine zH (.pointer (some ⟨b, 0, none⟩)) (fun w h => heldRun_value (by kernel_rfl) h) ?_
 refine zH (.pointer (some ⟨b, 0, none⟩)) (fun w h => heldRun_value (by kernel_rfl) h) ?_
 refine zH (.pointer (some ⟨b, 0, none⟩)) (fun w h => heldRun_value (by kernel_rfl) h) ?_
 refine zH (.pointer (some ⟨b, 0, none⟩)) (fun w h => heldRun_value (by kernel_rfl) h) ?_
 refine zH (.int .u64 ((h0 : Nat) : Int)) (fun w h => heldRun_value (run_load_one _ _ _ 82 _ _ rfl (b) (0) rfl (sum_c0 h.2) (by kernel_rfl)) h) ?_
 refine zH (.pointer (some ⟨b, 0, none⟩)) (fun w h => heldRun_value (by kernel_rfl) h) ?_
 refine zH (.pointer (some ⟨b, 0, none⟩)) (fun w h => heldRun_value (by kernel_rfl) h) ?_
 refine zH (.pointer (some ⟨b, 3, none⟩)) (fun w h => heldRun_value (by kernel_rfl) h) ?_
 refine zH (.pointer (some ⟨b, 4, none⟩)) (fun w h => heldRun_value (by kernel_rfl) h) ?_
 refine zH (.int .u64 ((r1 : Nat) : Int)) (fun w h => heldRun_value (run_load_one _ _ _ 82 _ _ rfl (b) (4) rfl (sum_c4 h.2) (by kernel_rfl)) h) ?_
 refine wpHeld_call (.tuple #[.int .u64 ((d1 : Nat) : Int), .int .u64 ((d0 : Nat) : Int)]) 55 #[.int .u64 ((h0 : Nat) : Int), .int .u64 ((r1 : Nat) : Int)] rfl (fun w => by kernel_rfl) ((fun w h => (M2.out w).mono (fun e w' ⟨he, hx⟩ => ⟨he, by subst hx; exact h⟩))) ?_
 simp only [Act.put, List.setIfInBounds_toArray, List.set_cons_zero, List.set_cons_succ]
 refine zH (.tuple #[.int .u64 ((d1 : Nat) : Int), .int .u64 ((d0 : Nat) : Int)]) (fun w h => heldRun_value (by kernel_rfl) h) ?_
 refine zH (.int .u64 ((d1 : Nat) : Int)) (fun w h => heldRun_value (by kernel_rfl) h) ?_
 refine zH (.int .u64 ((d0 : Nat) : Int)) (fun w h => heldRun_value (by kernel_rfl) h) ?_
 refine zH (.int .u64 ((d1 : Nat) : Int)) (fun w h => heldRun_value (by kernel_rfl) h) ?_
 refine zH (.int .u64 ((d0 : Nat) : Int)) (fun w h => heldRun_value (by kernel_rfl) h) ?_
 refine wpHeld_nil ?_
 intro X2 h
 have HS2 : Hid (S23 b w h0 h1 h2 r0 r1 R hl X2) := Lib.hid h
 clear h HS1
 go_upto_region 3 with (fail)
 refine region_held_all (S23 b w h0 h1 h2 r0 r1 R hl) (by kernel_rfl) (by kernel_rfl) (HS2.out.drew) ?_
 refine zH (.pointer (some ⟨b, 0, none⟩)) (fun w h => heldRun_value (by kernel_rfl) h) ?_
 refine zH (.pointer (some ⟨b, 0, none⟩)) (fun w h => heldRun_value (by kernel_rfl) h) ?_
 refine zH (.pointer (some ⟨b, 0, none⟩)) (fun w h => heldRun_value (by kernel_rfl) h) ?_
 refine zH (.pointer (some ⟨b, 1, none⟩)) (fun w h => heldRun_value (by kernel_rfl) h) ?_
 refine zH (.int .u64 ((h1 : Nat) : Int)) (fun w h => heldRun_value (run_load_one _ _ _ 82 _ _ rfl (b) (1) rfl (sum_c1 h.2) (by kernel_rfl)) h) ?_
 refine zH (.pointer (some ⟨b, 0, none⟩)) (fun w h => heldRun_value (by kernel_rfl) h) ?_
 refine zH (.pointer (some ⟨b, 0, none⟩)) (fun w h => heldRun_value (by kernel_rfl) h) ?_
 refine zH (.pointer (some ⟨b, 3, none⟩)) (fun w h => heldRun_value (by kernel_rfl) h) ?_
 refine zH (.pointer (some ⟨b, 4, none⟩)) (fun w h => heldRun_value (by kernel_rfl) h) ?_
 refine zH (.int .u64 ((r1 : Nat) : Int)) (fun w h => heldRun_value (run_load_one _ _ _ 82 _ _ rfl (b) (4) rfl (sum_c4 h.2) (by kernel_rfl)) h) ?_
 refine wpHeld_call (.tuple #[.int .u64 ((f1 : Nat) : Int), .int .u64 ((f0 : Nat) : Int)]) 55 #[.int .u64 ((h1 : Nat) : Int), .int .u64 ((r1 : Nat) : Int)] rfl (fun w => by kernel_rfl) ((fun w h => (M3.out w).mono (fun e w' ⟨he, hx⟩ => ⟨he, by subst hx; exact h⟩))) ?_
 simp only [Act.put, List.setIfInBounds_toArray, List.set_cons_zero, List.set_cons_succ]
 refine zH (.tuple #[.int .u64 ((f1 : Nat) : Int), .int .u64 ((f0 : Nat) : Int)]) (fun w h => heldRun_value (by kernel_rfl) h) ?_
 refine zH (.int .u64 ((f1 : Nat) : Int)) (fun w h => heldRun_value (by kernel_rfl) h) ?_
 refine zH (.int .u64 ((f0 : Nat) : Int)) (fun w h => heldRun_value (by kernel_rfl) h) ?_
 refine zH (.int .u64 ((f1 : Nat) : Int)) (fun w h => heldRun_value (by kernel_rfl) h) ?_
 refine zH (.int .u64 ((f0 : Nat) : Int)) (fun w h => heldRun_value (by kernel_rfl) h) ?_
 refine wpHeld_nil ?_
 intro X3 h
 have HS3 : Hid (S23 b w h0 h1 h2 r0 r1 R hl X3) := Lib.hid h
 clear h HS2
 go_upto_region 4 with (fail)
 refine region_held_all (S23 b w h0 h1 h2 r0 r1 R hl) (by kernel_rfl) (by kernel_rfl) (HS3.out.drew) ?_
 refine zH (.pointer (some ⟨b, 0, none⟩)) (fun w h => heldRun_value (by kernel_rfl) h) ?_
 refine zH (.pointer (some ⟨b, 0, none⟩)) (fun w h => heldRun_value (by kernel_rfl) h) ?_
 refine zH (.pointer (some ⟨b, 0, none⟩)) (fun w h => heldRun_value (by kernel_rfl) h) ?_
 refine zH (.pointer (some ⟨b, 2, none⟩)) (fun w h => heldRun_value (by kernel_rfl) h) ?_
 refine zH (.int .u64 ((h2 : Nat) : Int)) (fun w h => heldRun_value (run_load_one _ _ _ 82 _ _ rfl (b) (2) rfl (sum_c2 h.2) (by kernel_rfl)) h) ?_
 refine zH (.pointer (some ⟨b, 0, none⟩)) (fun w h => heldRun_value (by kernel_rfl) h) ?_
 refine zH (.pointer (some ⟨b, 0, none⟩)) (fun w h => heldRun_value (by kernel_rfl) h) ?_
 refine zH (.pointer (some ⟨b, 3, none⟩)) (fun w h => heldRun_value (by kernel_rfl) h) ?_
 refine zH (.pointer (some ⟨b, 3, none⟩)) (fun w h => heldRun_value (by kernel_rfl) h) ?_
 refine zH (.int .u64 ((r0 : Nat) : Int)) (fun w h => heldRun_value (run_load_one _ _ _ 82 _ _ rfl (b) (3) rfl (sum_c3 h.2) (by kernel_rfl)) h) ?_
 refine zH (.int .u64 ((h2 * r0 : Nat) : Int)) (fun w h => heldRun_value (run_muli Tryd.underlying82 rfl rfl rfl _ (wmul rfl HX0.out)) h) ?_
 refine zH (.pointer (some ⟨b, 0, none⟩)) (fun w h => heldRun_value (by kernel_rfl) h) ?_
 refine zH (.pointer (some ⟨b, 0, none⟩)) (fun w h => heldRun_value (by kernel_rfl) h) ?_
 refine zH (.pointer (some ⟨b, 0, none⟩)) (fun w h => heldRun_value (by kernel_rfl) h) ?_
 refine zH (.pointer (some ⟨b, 2, none⟩)) (fun w h => heldRun_value (by kernel_rfl) h) ?_
 refine zH (.int .u64 ((h2 : Nat) : Int)) (fun w h => heldRun_value (run_load_one _ _ _ 82 _ _ rfl (b) (2) rfl (sum_c2 h.2) (by kernel_rfl)) h) ?_
 refine zH (.pointer (some ⟨b, 0, none⟩)) (fun w h => heldRun_value (by kernel_rfl) h) ?_
 refine zH (.pointer (some ⟨b, 0, none⟩)) (fun w h => heldRun_value (by kernel_rfl) h) ?_
 refine zH (.pointer (some ⟨b, 3, none⟩)) (fun w h => heldRun_value (by kernel_rfl) h) ?_
 refine zH (.pointer (some ⟨b, 4, none⟩)) (fun w h => heldRun_value (by kernel_rfl) h) ?_
 refine zH (.int .u64 ((r1 : Nat) : Int)) (fun w h => heldRun_value (run_load_one _ _ _ 82 _ _ rfl (b) (4) rfl (sum_c4 h.2) (by kernel_rfl)) h) ?_
 refine zH (.int .u64 ((h2 * r1 : Nat) : Int)) (fun w h => heldRun_value (run_muli Tryd.underlying82 rfl rfl rfl _ (wmul rfl HX1.out)) h) ?_
 refine zH (.int .u64 ((h2 * r0 : Nat) : Int)) (fun w h => heldRun_value (by kernel_rfl) h) ?_
 refine zH (.int .u64 ((h2 * r1 : Nat) : Int)) (fun w h => heldRun_value (by kernel_rfl) h) ?_
 refine wpHeld_nil ?_
 intro X h
 have HT : Hid (S23 b w h0 h1 h2 r0 r1 R hl X) := Lib.hid h
 clear h HS3
 go_upto_region 5 with (fail)
 refine wp_region_lit ?_
 refine zP (.int .u64 ((b0 : Nat) : Int)) ?_
 refine zP (.int .u64 ((d0 : Nat) : Int)) ?_
 refine zQ (.tuple #[.int .u64 ((t1 : Nat) : Int), .int .u64 ((c1 : Nat) : Int)]) ((Eq.trans (b := (callFunc 50 #[.int .u64 ((b0 : Nat) : Int), .int .u64 ((d0 : Nat) : Int), .int .u64 ((0 : Nat) : Int)]).run Tryd.prog _) (by kernel_rfl) (E1.out.1 _))) ?_
 refine zP (.tuple #[.int .u64 ((t1 : Nat) : Int), .int .u64 ((c1 : Nat) : Int)]) ?_
 refine zP (.int .u64 ((t1 : Nat) : Int)) ?_
 refine zP (.int .u64 ((c1 : Nat) : Int)) ?_
 refine zP (.int .u64 ((t1 : Nat) : Int)) ?_
 refine zP (.int .u64 ((c1 : Nat) : Int)) ?_
 go_upto_region 6 with (fail)
 refine wp_region_lit ?_
 refine zP (.int .u64 ((b1 : Nat) : Int)) ?_
 refine zP (.int .u64 ((d1 : Nat) : Int)) ?_
 refine zP (.int .u64 ((c1 : Nat) : Int)) ?_
 refine zQ (.tuple #[.int .u64 ((t2 : Nat) : Int), .int .u64 ((c2 : Nat) : Int)]) ((Eq.trans (b := (callFunc 50 #[.int .u64 ((b1 : Nat) : Int), .int .u64 ((d1 : Nat) : Int), .int .u64 ((c1 : Nat) : Int)]).run Tryd.prog _) (by kernel_rfl) (E2.out.1 _))) ?_
 refine zP (.tuple #[.int .u64 ((t2 : Nat) : Int), .int .u64 ((c2 : Nat) : Int)]) ?_
 refine zP (.int .u64 ((t2 : Nat) : Int)) ?_
 refine zP (.int .u64 ((c2 : Nat) : Int)) ?_
 refine zP (.int .u64 ((t2 : Nat) : Int)) ?_
 refine zP (.int .u64 ((c2 : Nat) : Int)) ?_
 go_upto_region 7 with (fail)
 refine wp_region_lit ?_
 refine zP (.int .u64 ((c2 : Nat) : Int)) ?_
 refine zP (.int .u64 ((c2 : Nat) : Int)) ?_
 go_upto_region 8 with (fail)
 refine wp_region_lit ?_
 refine zP (.int .u64 ((t1 : Nat) : Int)) ?_
 refine zP (.int .u64 ((a1 : Nat) : Int)) ?_
 refine zQ (.tuple #[.int .u64 ((u1 : Nat) : Int), .int .u64 ((e1 : Nat) : Int)]) ((Eq.trans (b := (callFunc 50 #[.int .u64 ((t1 : Nat) : Int), .int .u64 ((a1 : Nat) : Int), .int .u64 ((0 : Nat) : Int)]).run Tryd.prog _) (by kernel_rfl) (E3.out.1 _))) ?_
 refine zP (.tuple #[.int .u64 ((u1 : Nat) : Int), .int .u64 ((e1 : Nat) : Int)]) ?_
 refine zP (.int .u64 ((u1 : Nat) : Int)) ?_
 refine zP (.int .u64 ((e1 : Nat) : Int)) ?_
 refine zP (.int .u64 ((u1 : Nat) : Int)) ?_
 refine zP (.int .u64 ((e1 : Nat) : Int)) ?_
 go_upto_region 9 with (fail)
 refine wp_region_lit ?_
 refine zP (.int .u64 ((t2 : Nat) : Int)) ?_
 refine zP (.int .u64 ((f0 : Nat) : Int)) ?_
 refine zP (.int .u64 ((e1 : Nat) : Int)) ?_
 refine zQ (.tuple #[.int .u64 ((u2 : Nat) : Int), .int .u64 ((e2 : Nat) : Int)]) ((Eq.trans (b := (callFunc 50 #[.int .u64 ((t2 : Nat) : Int), .int .u64 ((f0 : Nat) : Int), .int .u64 ((e1 : Nat) : Int)]).run Tryd.prog _) (by kernel_rfl) (E4.out.1 _))) ?_
 refine zP (.tuple #[.int .u64 ((u2 : Nat) : Int), .int .u64 ((e2 : Nat) : Int)]) ?_
 refine zP (.int .u64 ((u2 : Nat) : Int)) ?_
 refine zP (.int .u64 ((e2 : Nat) : Int)) ?_
 refine zP (.int .u64 ((u2 : Nat) : Int)) ?_
 refine zP (.int .u64 ((e2 : Nat) : Int)) ?_
 go_upto_region 10 with (fail)
 refine wp_region_lit ?_
 refine zP (.int .u64 ((c2 : Nat) : Int)) ?_
 refine zP (.int .u64 ((f1 : Nat) : Int)) ?_
 refine zP (.int .u64 ((e2 : Nat) : Int)) ?_
 refine zQ (.tuple #[.int .u64 ((t3 : Nat) : Int), .int .u64 ((g3 : Nat) : Int)]) ((Eq.trans (b := (callFunc 50 #[.int .u64 ((c2 : Nat) : Int), .int .u64 ((f1 : Nat) : Int), .int .u64 ((e2 : Nat) : Int)]).run Tryd.prog _) (by kernel_rfl) (E5.out.1 _))) ?_
 refine zP (.tuple #[.int .u64 ((t3 : Nat) : Int), .int .u64 ((g3 : Nat) : Int)]) ?_
 refine zP (.int .u64 ((t3 : Nat) : Int)) ?_
 refine zP (.int .u64 ((g3 : Nat) : Int)) ?_
 refine zP (.int .u64 ((t3 : Nat) : Int)) ?_
 go_upto_region 11 with (fail)
 refine wp_region_lit ?_
 refine zP (.int .u64 ((u2 : Nat) : Int)) ?_
 refine zP (.int .u64 ((h2 * r0 : Nat) : Int)) ?_
 refine zQ (.tuple #[.int .u64 ((v2 : Nat) : Int), .int .u64 ((e3 : Nat) : Int)]) ((Eq.trans (b := (callFunc 50 #[.int .u64 ((u2 : Nat) : Int), .int .u64 ((h2 * r0 : Nat) : Int), .int .u64 ((0 : Nat) : Int)]).run Tryd.prog _) (by kernel_rfl) (E6.out.1 _))) ?_
 refine zP (.tuple #[.int .u64 ((v2 : Nat) : Int), .int .u64 ((e3 : Nat) : Int)]) ?_
 refine zP (.int .u64 ((v2 : Nat) : Int)) ?_
 refine zP (.int .u64 ((e3 : Nat) : Int)) ?_
 refine zP (.int .u64 ((v2 : Nat) : Int)) ?_
 refine zP (.int .u64 ((e3 : Nat) : Int)) ?_
 go_upto_region 12 with (fail)
 refine wp_region_lit ?_
 refine zP (.int .u64 ((t3 : Nat) : Int)) ?_
 refine zP (.int .u64 ((h2 * r1 : Nat) : Int)) ?_
 refine zP (.int .u64 ((e3 : Nat) : Int)) ?_
 refine zQ (.tuple #[.int .u64 ((v3 : Nat) : Int), .int .u64 ((g4 : Nat) : Int)]) ((Eq.trans (b := (callFunc 50 #[.int .u64 ((t3 : Nat) : Int), .int .u64 ((h2 * r1 : Nat) : Int), .int .u64 ((e3 : Nat) : Int)]).run Tryd.prog _) (by kernel_rfl) (E7.out.1 _))) ?_
 refine zP (.tuple #[.int .u64 ((v3 : Nat) : Int), .int .u64 ((g4 : Nat) : Int)]) ?_
 refine zP (.int .u64 ((v3 : Nat) : Int)) ?_
 refine zP (.int .u64 ((g4 : Nat) : Int)) ?_
 refine zP (.int .u64 ((v3 : Nat) : Int)) ?_
 go_upto_region 13 with (fail)
 refine wp_region_lit ?_
 refine zP (.int .u64 ((v2 : Nat) : Int)) ?_
 refine zQ (.int .u64 ((n0 : Nat) : Int)) (run_andnot3 _ _ _ _ v2 n0 rfl rfl E6.out.2.1 NQ.out.1) ?_
 refine zP (.int .u64 ((v3 : Nat) : Int)) ?_
 refine zP (.agg #[.int .u64 ((n0 : Nat) : Int), .int .u64 ((v3 : Nat) : Int)]) ?_
 refine zV (.pointer (some ⟨X.heap.size, 0, none⟩)) (X.alloc (.cells #[.int .u64 0, .int .u64 0] 85)) (by kernel_rfl) ?_
 refine wpList_store_row rfl 85 _ _ rfl X.heap.size _ rfl rfl 85 _ (Blk.new X 85 #[.int .u64 0, .int .u64 0]) (by kernel_rfl) rfl (by kernel_rfl) ?_
 obtain ⟨Y, hW⟩ : ∃ V, V = (X.alloc (.cells #[.int .u64 0, .int .u64 0] 85)).setRow X.heap.size #[.int .u64 ((n0 : Nat) : Int), .int .u64 ((v3 : Nat) : Int)] := ⟨_, rfl⟩
 rw [← hW]
 have HGg1 : Hid (Blk Y X.heap.size 85 #[.int .u64 ((n0 : Nat) : Int), .int .u64 ((v3 : Nat) : Int)]) := Lib.hid (by rw [hW]; exact setRow_heap _ _ _ _ _ _ (Blk.new X 85 #[.int .u64 0, .int .u64 0]))
 have HT' : Hid (S23 b w h0 h1 h2 r0 r1 R hl Y) := Lib.hid (by rw [hW]; exact ⟨gb_row (gb_alloc HT.out.1 _) _ HT.out.1.size _, (setRow_other _ _ _ _ (Nat.ne_of_lt HT.out.2.lt)).trans (HT.out.2.alloc _)⟩)
 have Ng1 : Hid (X.heap.size ≠ b) := Lib.hid (Nat.ne_of_gt HT.out.2.lt)
 clear hW HT
 generalize X.heap.size = g1 at *
 go_upto_region 14 with (fail)
 refine wp_region_lit ?_
 refine zP (.int .u64 ((v2 : Nat) : Int)) ?_
 refine zQ (.int .u64 ((n3 : Nat) : Int)) (run_shrc 2 4 (by simp) _ _ _ _ _ v2 _ rfl rfl rfl E6.out.2.1 NQ.out.2.1) ?_
 refine zP (.int .u64 ((v3 : Nat) : Int)) ?_
 refine zQ (.int .u64 ((n4 : Nat) : Int)) (run_shl62 _ _ _ _ _ v3 n4 rfl rfl rfl NQ.out.2.2.1) ?_
 refine zQ (.int .u64 ((n1 : Nat) : Int)) (run_biti (.inl rfl) Tryd.underlying82 rfl rfl rfl _ (or_fold' v2 v3 NQ.out.2.1 NQ.out.2.2.1 NQ.out.2.2.2.1 E6.out.2.1)) ?_
 refine zP (.int .u64 ((v3 : Nat) : Int)) ?_
 refine zQ (.int .u64 ((n2 : Nat) : Int)) (run_shrc 2 4 (by simp) _ _ _ _ _ v3 _ rfl rfl rfl E7.out.2.1 NQ.out.2.2.2.2.1) ?_
 refine zP (.agg #[.int .u64 ((n1 : Nat) : Int), .int .u64 ((n2 : Nat) : Int)]) ?_
 refine zV (.pointer (some ⟨Y.heap.size, 0, none⟩)) (Y.alloc (.cells #[.int .u64 0, .int .u64 0] 85)) (by kernel_rfl) ?_
 refine wpList_store_row rfl 85 _ _ rfl Y.heap.size _ rfl rfl 85 _ (Blk.new Y 85 #[.int .u64 0, .int .u64 0]) (by kernel_rfl) rfl (by kernel_rfl) ?_
 obtain ⟨V, hW⟩ : ∃ V, V = (Y.alloc (.cells #[.int .u64 0, .int .u64 0] 85)).setRow Y.heap.size #[.int .u64 ((n1 : Nat) : Int), .int .u64 ((n2 : Nat) : Int)] := ⟨_, rfl⟩
 rw [← hW]
 have HGg2 : Hid (Blk V Y.heap.size 85 #[.int .u64 ((n1 : Nat) : Int), .int .u64 ((n2 : Nat) : Int)]) := Lib.hid (by rw [hW]; exact setRow_heap _ _ _ _ _ _ (Blk.new Y 85 #[.int .u64 0, .int .u64 0]))
 have HT'' : Hid (S23 b w h0 h1 h2 r0 r1 R hl V) := Lib.hid (by rw [hW]; exact ⟨gb_row (gb_alloc HT'.out.1 _) _ HT'.out.1.size _, (setRow_other _ _ _ _ (Nat.ne_of_lt HT'.out.2.lt)).trans (HT'.out.2.alloc _)⟩)
 have Ng2 : Hid (Y.heap.size ≠ b) := Lib.hid (Nat.ne_of_gt HT'.out.2.lt)
 have HGg1' : Hid (Blk V g1 85 #[.int .u64 ((n0 : Nat) : Int), .int .u64 ((v3 : Nat) : Int)]) := Lib.hid (by rw [hW]; exact (setRow_other _ _ _ _ (Nat.ne_of_lt HGg1.out.lt)).trans (HGg1.out.alloc _))
 clear hW HT' HGg1
 generalize Y.heap.size = g2 at *
 go_upto_region 15 with (fail)
 refine wp_region_lit ?_
 refine zP (.pointer (some ⟨b, 0, none⟩)) ?_
 refine zP (.int .u64 ((t0 : Nat) : Int)) ?_
 refine zP (.int .u64 ((u1 : Nat) : Int)) ?_
 refine zP (.int .u64 ((v2 : Nat) : Int)) ?_
 refine zQ (.int .u64 ((n5 : Nat) : Int)) (run_and3 _ _ _ _ v2 n5 rfl rfl E6.out.2.1 NQ.out.2.2.2.2.2) ?_
 refine zP (.agg #[.int .u64 ((t0 : Nat) : Int), .int .u64 ((u1 : Nat) : Int), .int .u64 ((n5 : Nat) : Int)]) ?_
 refine zP (.pointer (some ⟨b, 0, none⟩)) ?_
 refine zP (.pointer (some ⟨b, 0, none⟩)) ?_
 refine wpList_store_mid rfl 86 _ _ rfl b 0 #[.int .u64 ((t0 : Nat) : Int), .int .u64 ((u1 : Nat) : Int), .int .u64 ((n5 : Nat) : Int)] rfl rfl ?_ (by kernel_rfl) (by kernel_rfl) ?_
 ·intro j hj
  rw [Nat.zero_add]
  refine ⟨?_, HT''.out.2.free _⟩
  rcases (show j = 0 ∨ j = 1 ∨ j = 2 by simp at hj; omega) with rfl | rfl | rfl
  ·rw [sum_c0 HT''.out.2]; rfl
  ·rw [sum_c1 HT''.out.2]; rfl
  ·rw [sum_c2 HT''.out.2]; rfl
 obtain ⟨U, hU⟩ : ∃ U, U = V.setCells b 0 #[.int .u64 ((t0 : Nat) : Int), .int .u64 ((u1 : Nat) : Int), .int .u64 ((n5 : Nat) : Int)].toList := ⟨_, rfl⟩
 rw [← hU]
 have HU : Hid (w.grownBy U (some b) ∧ Blk U b 88 (sumC t0 u1 n5 r0 r1 R hl).toArray) := Lib.hid (by
  rw [hU]
  exact ⟨gb_set (gb_set (gb_set HT''.out.1 _ _) _ _) _ _, sum_s2 (sum_s1 (sum_s0 HT''.out.2 _) _) _⟩)
 have G1 : Hid (Blk U g1 85 #[.int .u64 ((n0 : Nat) : Int), .int .u64 ((v3 : Nat) : Int)]) := Lib.hid (by
  rw [hU]
  exact (heap_setCell_other _ _ _ _ Ng1.out).trans ((heap_setCell_other _ _ _ _ Ng1.out).trans ((heap_setCell_other _ _ _ _ Ng1.out).trans HGg1'.out)))
 have G2 : Hid (Blk U g2 85 #[.int .u64 ((n1 : Nat) : Int), .int .u64 ((n2 : Nat) : Int)]) := Lib.hid (by
  rw [hU]
  exact (heap_setCell_other _ _ _ _ Ng2.out).trans ((heap_setCell_other _ _ _ _ Ng2.out).trans ((heap_setCell_other _ _ _ _ Ng2.out).trans HGg2.out)))
 clear hU HT'' HGg1' HGg2
 go_upto_region 16 with (fail)
 refine wp_region_lit ?_
 refine zP (.pointer (some ⟨b, 0, none⟩)) ?_
 refine wpList_load_row rfl 85 _ rfl g1 rfl 85 _ (0, 0) _ G1.out Tryd.underlying85 rfl (by kernel_rfl) ?_
 simp only [Act.put, List.setIfInBounds_toArray, List.set_cons_zero, List.set_cons_succ]
 refine wpL_call 56 #[.pointer (some ⟨b, 0, none⟩), .agg #[.int .u64 ((n0 : Nat) : Int), .int .u64 ((v3 : Nat) : Int)]] rfl (by kernel_rfl) (((add_any U b t0 u1 n5 r0 r1 (n0) v3 R hl HU.out.2 E0.out E3.out.2.1 (by have := NR.out.2.2.2; omega) NR.out.1 E7.out.2.1)).mono fun e U1 ⟨he, q1, y0, y1, y2, q2, q3, q4, q5⟩ => ⟨.tuple #[], he, ?_⟩)
 simp only [Act.put, List.setIfInBounds_toArray, List.set_cons_zero, List.set_cons_succ]
 have HU1 : Hid (w.grownBy U1 (some b) ∧ Blk U1 b 88 (sumC y0 y1 y2 r0 r1 R hl).toArray) := Lib.hid ⟨gb_trans HU.out.1 q1, q2⟩
 have G2' : Hid (Blk U1 g2 85 #[.int .u64 ((n1 : Nat) : Int), .int .u64 ((n2 : Nat) : Int)]) := Lib.hid ((q1.block _ G2.out.lt (by have := Ng2.out; simpa using this)).trans G2.out)
 have Y := Lib.hid (And.intro q3 (And.intro q4 q5))
 clear q1 q2 q3 q4 q5
 go_upto_region 17 with (fail)
 refine wp_region_lit ?_
 refine zP (.pointer (some ⟨b, 0, none⟩)) ?_
 refine wpList_load_row rfl 85 _ rfl g2 rfl 85 _ (0, 0) _ G2'.out Tryd.underlying85 rfl (by kernel_rfl) ?_
 simp only [Act.put, List.setIfInBounds_toArray, List.set_cons_zero, List.set_cons_succ]
 refine wpL_call 56 #[.pointer (some ⟨b, 0, none⟩), .agg #[.int .u64 ((n1 : Nat) : Int), .int .u64 ((n2 : Nat) : Int)]] rfl (by kernel_rfl) (((add_any U1 b y0 y1 y2 r0 r1 (n1) n2 R hl HU1.out.2 Y.out.1 Y.out.2.1 (by have h1 := Y.out.2.2; have h2 := E0.out; have h3 := E3.out.2.1; have h4 := NR.out; have h5 := E7.out.2.1; omega) NR.out.2.1 NR.out.2.2.1)).mono fun e U2 ⟨he, q1, z0, z1, z2, q2, q3, q4, q5⟩ => ⟨.tuple #[], he, ?_⟩)
 simp only [Act.put, List.setIfInBounds_toArray, List.set_cons_zero, List.set_cons_succ]
 have HU2 : Hid (w.grownBy U2 (some b) ∧ Blk U2 b 88 (sumC z0 z1 z2 r0 r1 R hl).toArray) := Lib.hid ⟨gb_trans HU1.out.1 q1, q2⟩
 have Z := Lib.hid (And.intro q3 (And.intro q4 q5))
 clear q1 q2 q3 q4 q5
 go_upto_region 18 with (fail)
 go_end0
 obtain ⟨MW, V3⟩ := mul_words HL.out.1 HL.out.2.1 HL.out.2.2.1 HL.out.2.2.2.1 HL.out.2.2.2.2 P0.out P1.out P2.out P3.out E1.out.2.2.2 E2.out.2.2.2 E3.out.2.2.2 E4.out.2.2.2 E5.out.2.2.2 E6.out.2.2.2 E7.out.2.2.2
 have FW := fold_words (a := t0) (b := u1) (c := v2) (d := v3) NQ.out.1.symm rfl (by rw [NQ.out.2.1, NQ.out.2.2.1]; exact NQ.out.2.2.2.1.symm) NQ.out.2.2.2.2.1.symm (by have := Y.out.2.2; rw [NQ.out.2.2.2.2.2]; exact this) Z.out.2.2
 refine ⟨rfl, HU2.out.1, _, _, _, HU2.out.2, Z.out.1, Z.out.2.1, fold_small E0.out E3.out.2.1 E6.out.2.1 V3 FW, ?_⟩
 rw [mod_of_fold FW, MW]
end Go.Proofs.YtlbfohpkngmaoaaDoor.Po
