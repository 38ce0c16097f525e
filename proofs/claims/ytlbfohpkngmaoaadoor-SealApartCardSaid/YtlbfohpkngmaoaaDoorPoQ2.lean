/- add and multiply, of a sum under way. -/
import Derived.Test.YtlbfohpkngmaoaaDoorPoQ1
import Derived.Test.YtlbfohpkngmaoaaDoorPoB
namespace Go.Proofs.YtlbfohpkngmaoaaDoor.Po
open Go Go.RowKit
theorem size35 (w : World) : (sizeOf 82).run Tryd.prog w = .ok 1 w := by kernel_rfl
theorem blk2_0 {w : World} {g : Nat} {x y : Value} (h : Blk w g 85 #[x, y]) : w.cell? ⟨g, 0, none⟩ = some x := h.cell 0
theorem blk2_1 {w : World} {g : Nat} {x y : Value} (h : Blk w g 85 #[x, y]) : w.cell? ⟨g, 1, none⟩ = some y := h.cell 1
theorem gb_row {w X : World} {r : Option Nat} (h : w.grownBy X r) (g : Nat) (hg : w.heap.size ≤ g) (cs : Array Value) : w.grownBy (X.setRow g cs) r := by
 have q : Below g X (X.setRow g cs) := below_setRow (Below.refl _ _) (Nat.le_refl _) _
 exact ⟨q.os.trans h.os, q.tape.trans h.tape, q.output.trans h.output, Nat.le_trans h.size q.size, fun k hk hr => (setRow_other _ _ _ _ (by omega)).trans (h.block k hk hr)⟩
theorem and_not3 (a : Nat) (ha : a < 18446744073709551616) : a &&& 18446744073709551612 = a - a % 4 := by
 have e : a - a % 4 = (a / 4) <<< 2 := by rw [Nat.shiftLeft_eq]; omega
 rw [e, show (18446744073709551612 : Nat) = (2 ^ 62 - 1) <<< 2 by decide]
 apply Nat.eq_of_testBit_eq
 intro i
 rw [Nat.testBit_and, Nat.testBit_shiftLeft, Nat.testBit_shiftLeft, Nat.testBit_two_pow_sub_one]
 by_cases h : i ≥ 2
 ·have e2 : (a / 4).testBit (i - 2) = a.testBit i := by
   have e3 : (a / 2 ^ 2).testBit (i - 2) = a.testBit (i - 2 + 2) := Nat.testBit_div_two_pow ..
   rw [show (2 : Nat) ^ 2 = 4 by decide, show i - 2 + 2 = i by omega] at e3
   exact e3
  rw [e2]
  by_cases h2 : i < 64
  ·simp [h]; omega
  ·have : a.testBit i = false := Nat.testBit_lt_two_pow (Nat.lt_of_lt_of_le ha (by have := Nat.pow_le_pow_right (n := 2) (by omega) (show 64 ≤ i by omega); omega))
   simp [this]
 ·simp [h]
theorem run_andnot3 (a : Act) (o : Oper) (w : World) (x : Operand) (p q : Nat) (ho : o.op = .binOp .andNot 82 x (.const (.int .u64 3)) 82) (hx : a.eval x = .int .u64 (p : Int)) (hp : p < 18446744073709551616) (hq : p - p % 4 = q) : (execOp a.eval o).run Tryd.prog w = .ok (.value (.int .u64 (q : Int))) w := by
 subst hq
 have u := run_underlying Tryd.underlying82 w
 have hc : ∀ v, a.eval (.const v) = v := fun _ => rfl
 have e : bits .andNot .u64 (p : Int) 3 = ((p - p % 4 : Nat) : Int) := by
  have := u64_andNot_nat p 3 hp (by omega)
  rw [show 18446744073709551615 - 3 = 18446744073709551612 by decide, and_not3 p hp] at this
  exact this
 rw [← e]
 unfold execOp
 simp only [ho, hx, hc, binOp_andNot, intBits_andNot, eqGuard_andNot, Sem.run_bind, Sem.run_pure, Result.andThen_ok]
 try go_simp
theorem run_and3 (a : Act) (o : Oper) (w : World) (x : Operand) (p q : Nat) (ho : o.op = .binOp .and 82 x (.const (.int .u64 3)) 82) (hx : a.eval x = .int .u64 (p : Int)) (hp : p < 18446744073709551616) (hq : p % 4 = q) : (execOp a.eval o).run Tryd.prog w = .ok (.value (.int .u64 (q : Int))) w := by
 subst hq
 refine run_biti (.inr (.inl rfl)) Tryd.underlying82 ho hx rfl _ ?_
 have := u64_and_nat p 3 hp (by omega)
 rw [show (3 : Nat) = 2 ^ 2 - 1 by decide, Nat.and_two_pow_sub_one_eq_mod] at this
 exact this
theorem run_shl62 (a : Act) (o : Oper) (w : World) (x y : Operand) (p q : Nat) (ho : o.op = .binOp .shl 82 x y 81) (hx : a.eval x = .int .u64 (p : Int)) (hy : a.eval y = .int .u64 62) (hq : p % 4 * 4611686018427387904 = q) : (execOp a.eval o).run Tryd.prog w = .ok (.value (.int .u64 (q : Int))) w := by
 have b0 : (0 : Int) ≤ (p : Int) := by omega
 have u := run_underlying Tryd.underlying82 w
 unfold execOp
 simp only [ho, hx, hy]
 go_simp
 first | done | (rw [IntKind.wrap_u64]; omega)
theorem or_fold' (c d : Nat) {p q s : Nat} (hp : c / 4 = p) (hq : d % 4 * 4611686018427387904 = q) (hs : p + q = s) (hc : c < 18446744073709551616) : bits .or .u64 (p : Int) (q : Int) = (s : Int) := by
 rw [u64_or_nat _ _ (by omega) (by omega), ← hs, ← hp, ← hq, or_fold c d hc]
attribute [local irreducible] wpList
set_option maxHeartbeats 8000000 in
theorem add_any (w : World) (b h0 h1 h2 r0 r1 x0 x1 : Nat) (R : List Int) (hl : Nat) (hb : Blk w b 88 (sumC h0 h1 h2 r0 r1 R hl).toArray) (l0 : h0 < 18446744073709551616) (l1 : h1 < 18446744073709551616) (l2 : h2 ≤ 100) (k0 : x0 < 18446744073709551616) (k1 : x1 < 18446744073709551616) :
  Calls Tryd.prog 56 #[.pointer (some ⟨b, 0, none⟩), .agg #[.int .u64 ((x0 : Nat) : Int), .int .u64 ((x1 : Nat) : Int)]] w fun e w' => e = .returned (.tuple #[]) ∧ w.grownBy w' (some b) ∧ ∃ y0 y1 y2 : Nat, Blk w' b 88 (sumC y0 y1 y2 r0 r1 R hl).toArray ∧ y0 < 18446744073709551616 ∧ y1 < 18446744073709551616 ∧
   y0 + 18446744073709551616 * y1 + 340282366920938463463374607431768211456 * y2 = h0 + 18446744073709551616 * h1 + 340282366920938463463374607431768211456 * h2 + (x0 + 18446744073709551616 * x1) := by
 obtain ⟨s0, d0, a0⟩ := add_ex h0 x0 0 l0 k0 (by omega)
 obtain ⟨s1, d1, a1⟩ := add_ex h1 x1 d0 l1 k1 a0.2.2.1
 have HE : Hid (s0 + 18446744073709551616 * s1 + 340282366920938463463374607431768211456 * (h2 + d1) = h0 + 18446744073709551616 * h1 + 340282366920938463463374607431768211456 * h2 + (x0 + 18446744073709551616 * x1)) := Lib.hid (by have h1 := a0.2.2.2; have h2 := a1.2.2.2; omega)
 have HB : Hid (h2 + d1 < 18446744073709551616) := Lib.hid (by have := a1.2.2.1; omega)
 have A0 := Lib.hid a0
 have A1 := Lib.hid a1
 have NE0 := hb.lt
 obtain ⟨w1, hw1⟩ : ∃ V, V = w.alloc (.cells #[.int .u64 ((x0 : Nat) : Int), .int .u64 ((x1 : Nat) : Int)] 85) := ⟨_, rfl⟩
 have HS0 : Hid (w.grownBy w1.drew (some b) ∧ Blk w1.drew b 88 (sumC h0 h1 h2 r0 r1 R hl).toArray ∧ Blk w1.drew w.heap.size 85 #[.int .u64 ((x0 : Nat) : Int), .int .u64 ((x1 : Nat) : Int)]) := Lib.hid (by rw [hw1]; exact ⟨gb_drew (gb_alloc (gb_refl _ _) _), hb.alloc _, Blk.new _ _ _⟩)
 have HW1 := Lib.hid hw1
 have NE : Hid (w.heap.size ≠ b) := Lib.hid (by omega)
 clear hb l0 l1 l2 k0 k1 a0 a1 NE0 hw1
 go_enter Tryd.func56, Tryd.ntmps56
 go_upto_region 2 with (fail)
 try rw [← HW1.out]
 have HS := HS0
 clear HS0
 generalize hg : w.heap.size = g at *
 clear hg
 go_upto_region 2 with (fail)
 go_upto_region 2 with (fail)
 refine region_any (by kernel_rfl) 17 rfl ?_
 refine zA 0 6 (.pointer (some ⟨b, 0, none⟩)) ?_
 refine zA 1 7 (.pointer (some ⟨b, 0, none⟩)) ?_
 refine zA 2 8 (.pointer (some ⟨b, 0, none⟩)) ?_
 refine zA 3 9 (.pointer (some ⟨b, 0, none⟩)) ?_
 refine zA 4 10 (.pointer (some ⟨b, 0, none⟩)) ?_
 refine zA 6 12 (.pointer (some ⟨g, 0, none⟩)) ?_
 refine zA 12 17 (.pointer (some ⟨b, 0, none⟩)) ?_
 refine zA 13 18 (.pointer (some ⟨b, 0, none⟩)) ?_
 refine wpAny_all (rs := [5, 7]) (by kernel_rfl) (by simp) ?_
 intro i hi
 simp only [List.mem_cons, List.not_mem_nil, or_false] at hi
 rcases hi with rfl | rfl
 ·refine op_val (o := ⟨some 11, _, _, _, _, _⟩) (.int .u64 ((h0 : Nat) : Int)) rfl rfl (run_load_one _ _ _ 82 _ _ rfl b 0 rfl (sum_c0 HS.out.2.1) (by kernel_rfl)) ?_
  simp only [Act.put, List.setIfInBounds_toArray, List.set_cons_zero, List.set_cons_succ]
  refine wpAny_all (rs := [7]) (by kernel_rfl) (by simp) ?_
  intro i hi
  simp only [List.mem_cons, List.not_mem_nil, or_false] at hi
  subst hi
  refine op_val (o := ⟨some 13, _, _, _, _, _⟩) (.int .u64 ((x0 : Nat) : Int)) rfl rfl (run_load_one _ _ _ 82 _ _ rfl g 0 rfl (blk2_0 HS.out.2.2) (by kernel_rfl)) ?_
  simp only [Act.put, List.setIfInBounds_toArray, List.set_cons_zero, List.set_cons_succ]
  refine zB 8 14 (.tuple #[.int .u64 ((s0 : Nat) : Int), .int .u64 ((d0 : Nat) : Int)]) rfl (fun w => (Eq.trans (b := (callFunc 50 #[.int .u64 ((h0 : Nat) : Int), .int .u64 ((x0 : Nat) : Int), .int .u64 ((0 : Nat) : Int)]).run Tryd.prog _) (by kernel_rfl) (A0.out.1 _))) ?_
  refine zA 9 5 (.tuple #[.int .u64 ((s0 : Nat) : Int), .int .u64 ((d0 : Nat) : Int)]) ?_
  refine zA 10 15 (.int .u64 ((s0 : Nat) : Int)) ?_
  refine zA 11 16 (.int .u64 ((d0 : Nat) : Int)) ?_
  refine zA 14 19 (.pointer (some ⟨b, 0, none⟩)) ?_
  refine wpAny_of_idx [15, 16] [⟨none, _, _, _, _, _⟩, ⟨some 4, _, _, _, _, _⟩] _ _ _ (by rfl) (by kernel_rfl) ?_
  refine wpL_store_one rfl rfl (b) (0) rfl (.int .u64 ((s0 : Nat) : Int)) rfl rfl size35 (by rw [sum_c0 HS.out.2.1]; rfl) (HS.out.2.1.free _) ?_
  simp only [Act.put, List.setIfInBounds_toArray, List.set_cons_zero, List.set_cons_succ]
  obtain ⟨v1, hv1⟩ : ∃ V, V = w1.drew.setCell ⟨b, 0, none⟩ (.int .u64 ((s0 : Nat) : Int)) := ⟨_, rfl⟩
  rw [← hv1]
  have F1 : Hid (w.grownBy v1.drew (some b) ∧ Blk v1.drew b 88 (sumC s0 h1 h2 r0 r1 R hl).toArray ∧ Blk v1.drew g 85 #[.int .u64 ((x0 : Nat) : Int), .int .u64 ((x1 : Nat) : Int)]) := Lib.hid (by rw [hv1]; exact ⟨gb_drew (gb_set HS.out.1 _ _), (sum_s0 HS.out.2.1 _).drew, ((heap_setCell_other _ _ _ _ NE.out).trans HS.out.2.2)⟩)
  clear hv1 HS
  refine zP (.int .u64 ((d0 : Nat) : Int)) ?_
  go_upto_region 3 with (fail)
  refine region_any (by kernel_rfl) 18 rfl ?_
  refine zA 0 21 (.pointer (some ⟨b, 0, none⟩)) ?_
  refine zA 1 22 (.pointer (some ⟨b, 0, none⟩)) ?_
  refine zA 2 23 (.pointer (some ⟨b, 0, none⟩)) ?_
  refine zA 3 24 (.pointer (some ⟨b, 0, none⟩)) ?_
  refine zA 4 25 (.pointer (some ⟨b, 1, none⟩)) ?_
  refine zA 6 27 (.pointer (some ⟨g, 1, none⟩)) ?_
  refine zA 8 29 (.int .u64 ((d0 : Nat) : Int)) ?_
  refine zA 13 33 (.pointer (some ⟨b, 0, none⟩)) ?_
  refine zA 14 34 (.pointer (some ⟨b, 0, none⟩)) ?_
  refine wpAny_all (rs := [5, 7]) (by kernel_rfl) (by simp) ?_
  intro i hi
  simp only [List.mem_cons, List.not_mem_nil, or_false] at hi
  rcases hi with rfl | rfl
  ·refine op_val (o := ⟨some 26, _, _, _, _, _⟩) (.int .u64 ((h1 : Nat) : Int)) rfl rfl (run_load_one _ _ _ 82 _ _ rfl b 1 rfl (sum_c1 F1.out.2.1) (by kernel_rfl)) ?_
   simp only [Act.put, List.setIfInBounds_toArray, List.set_cons_zero, List.set_cons_succ]
   refine wpAny_all (rs := [7]) (by kernel_rfl) (by simp) ?_
   intro i hi
   simp only [List.mem_cons, List.not_mem_nil, or_false] at hi
   subst hi
   refine op_val (o := ⟨some 28, _, _, _, _, _⟩) (.int .u64 ((x1 : Nat) : Int)) rfl rfl (run_load_one _ _ _ 82 _ _ rfl g 1 rfl (blk2_1 F1.out.2.2) (by kernel_rfl)) ?_
   simp only [Act.put, List.setIfInBounds_toArray, List.set_cons_zero, List.set_cons_succ]
   refine zB 9 30 (.tuple #[.int .u64 ((s1 : Nat) : Int), .int .u64 ((d1 : Nat) : Int)]) rfl (fun w => (Eq.trans (b := (callFunc 50 #[.int .u64 ((h1 : Nat) : Int), .int .u64 ((x1 : Nat) : Int), .int .u64 ((d0 : Nat) : Int)]).run Tryd.prog _) (by kernel_rfl) (A1.out.1 _))) ?_
   refine zA 10 20 (.tuple #[.int .u64 ((s1 : Nat) : Int), .int .u64 ((d1 : Nat) : Int)]) ?_
   refine zA 11 31 (.int .u64 ((s1 : Nat) : Int)) ?_
   refine zA 12 32 (.int .u64 ((d1 : Nat) : Int)) ?_
   refine zA 15 35 (.pointer (some ⟨b, 1, none⟩)) ?_
   refine wpAny_of_idx [16, 17] [⟨none, _, _, _, _, _⟩, ⟨some 4, _, _, _, _, _⟩] _ _ _ (by rfl) (by kernel_rfl) ?_
   refine wpL_store_one rfl rfl (b) (1) rfl (.int .u64 ((s1 : Nat) : Int)) rfl rfl size35 (by rw [sum_c1 F1.out.2.1]; rfl) (F1.out.2.1.free _) ?_
   simp only [Act.put, List.setIfInBounds_toArray, List.set_cons_zero, List.set_cons_succ]
   obtain ⟨v2, hv2⟩ : ∃ V, V = v1.drew.setCell ⟨b, 1, none⟩ (.int .u64 ((s1 : Nat) : Int)) := ⟨_, rfl⟩
   rw [← hv2]
   have F2 : Hid (w.grownBy v2.drew (some b) ∧ Blk v2.drew b 88 (sumC s0 s1 h2 r0 r1 R hl).toArray ∧ Blk v2.drew g 85 #[.int .u64 ((x0 : Nat) : Int), .int .u64 ((x1 : Nat) : Int)]) := Lib.hid (by rw [hv2]; exact ⟨gb_drew (gb_set F1.out.1 _ _), (sum_s1 F1.out.2.1 _).drew, ((heap_setCell_other _ _ _ _ NE.out).trans F1.out.2.2)⟩)
   clear hv2 F1
   refine zP (.int .u64 ((d1 : Nat) : Int)) ?_
   go_upto_region 4 with (fail)
   refine region_any (by kernel_rfl) 11 rfl ?_
   refine zA 0 36 (.pointer (some ⟨b, 0, none⟩)) ?_
   refine zA 1 37 (.pointer (some ⟨b, 0, none⟩)) ?_
   refine zA 2 38 (.pointer (some ⟨b, 0, none⟩)) ?_
   refine zA 3 39 (.pointer (some ⟨b, 2, none⟩)) ?_
   refine zA 5 41 (.int .u64 ((d1 : Nat) : Int)) ?_
   refine zA 7 43 (.pointer (some ⟨b, 0, none⟩)) ?_
   refine zA 8 44 (.pointer (some ⟨b, 0, none⟩)) ?_
   refine wpAny_all (rs := [4]) (by kernel_rfl) (by simp) ?_
   intro i hi
   simp only [List.mem_cons, List.not_mem_nil, or_false] at hi
   subst hi
   refine op_val (o := ⟨some 40, _, _, _, _, _⟩) (.int .u64 ((h2 : Nat) : Int)) rfl rfl (run_load_one _ _ _ 82 _ _ rfl b 2 rfl (sum_c2 F2.out.2.1) (by kernel_rfl)) ?_
   simp only [Act.put, List.setIfInBounds_toArray, List.set_cons_zero, List.set_cons_succ]
   refine zB 6 42 (.int .u64 ((h2 + d1 : Nat) : Int)) rfl (fun w => run_addi Tryd.underlying82 rfl rfl rfl _ (wadd rfl HB.out)) ?_
   refine zA 9 45 (.pointer (some ⟨b, 2, none⟩)) ?_
   refine wpAny_of_idx [10] [⟨none, _, _, _, _, _⟩] _ _ _ (by rfl) (by kernel_rfl) ?_
   refine wpL_store_one rfl rfl (b) (2) rfl (.int .u64 ((h2 + d1 : Nat) : Int)) rfl rfl size35 (by rw [sum_c2 F2.out.2.1]; rfl) (F2.out.2.1.free _) ?_
   simp only [Act.put, List.setIfInBounds_toArray, List.set_cons_zero, List.set_cons_succ]
   obtain ⟨v3, hv3⟩ : ∃ V, V = v2.drew.setCell ⟨b, 2, none⟩ (.int .u64 ((h2 + d1 : Nat) : Int)) := ⟨_, rfl⟩
   rw [← hv3]
   have F3 : Hid (w.grownBy v3 (some b) ∧ Blk v3 b 88 (sumC s0 s1 (h2 + d1) r0 r1 R hl).toArray ∧ Blk v3 g 85 #[.int .u64 ((x0 : Nat) : Int), .int .u64 ((x1 : Nat) : Int)]) := Lib.hid (by rw [hv3]; exact ⟨ (gb_set F2.out.1 _ _), (sum_s2 F2.out.2.1 _), ((heap_setCell_other _ _ _ _ NE.out).trans F2.out.2.2)⟩)
   clear hv3 F2
   go_upto_region 5 with (fail)
   go_end0
   exact ⟨rfl, F3.out.1, s0, s1, h2 + d1, F3.out.2.1, A0.out.2.1, A1.out.2.1, HE.out⟩
  ·refine op_val (o := ⟨some 28, _, _, _, _, _⟩) (.int .u64 ((x1 : Nat) : Int)) rfl rfl (run_load_one _ _ _ 82 _ _ rfl g 1 rfl (blk2_1 F1.out.2.2) (by kernel_rfl)) ?_
   simp only [Act.put, List.setIfInBounds_toArray, List.set_cons_zero, List.set_cons_succ]
   refine wpAny_all (rs := [5]) (by kernel_rfl) (by simp) ?_
   intro i hi
   simp only [List.mem_cons, List.not_mem_nil, or_false] at hi
   subst hi
   refine op_val (o := ⟨some 26, _, _, _, _, _⟩) (.int .u64 ((h1 : Nat) : Int)) rfl rfl (run_load_one _ _ _ 82 _ _ rfl b 1 rfl (sum_c1 F1.out.2.1) (by kernel_rfl)) ?_
   simp only [Act.put, List.setIfInBounds_toArray, List.set_cons_zero, List.set_cons_succ]
   refine zB 9 30 (.tuple #[.int .u64 ((s1 : Nat) : Int), .int .u64 ((d1 : Nat) : Int)]) rfl (fun w => (Eq.trans (b := (callFunc 50 #[.int .u64 ((h1 : Nat) : Int), .int .u64 ((x1 : Nat) : Int), .int .u64 ((d0 : Nat) : Int)]).run Tryd.prog _) (by kernel_rfl) (A1.out.1 _))) ?_
   refine zA 10 20 (.tuple #[.int .u64 ((s1 : Nat) : Int), .int .u64 ((d1 : Nat) : Int)]) ?_
   refine zA 11 31 (.int .u64 ((s1 : Nat) : Int)) ?_
   refine zA 12 32 (.int .u64 ((d1 : Nat) : Int)) ?_
   refine zA 15 35 (.pointer (some ⟨b, 1, none⟩)) ?_
   refine wpAny_of_idx [16, 17] [⟨none, _, _, _, _, _⟩, ⟨some 4, _, _, _, _, _⟩] _ _ _ (by rfl) (by kernel_rfl) ?_
   refine wpL_store_one rfl rfl (b) (1) rfl (.int .u64 ((s1 : Nat) : Int)) rfl rfl size35 (by rw [sum_c1 F1.out.2.1]; rfl) (F1.out.2.1.free _) ?_
   simp only [Act.put, List.setIfInBounds_toArray, List.set_cons_zero, List.set_cons_succ]
   obtain ⟨v2, hv2⟩ : ∃ V, V = v1.drew.setCell ⟨b, 1, none⟩ (.int .u64 ((s1 : Nat) : Int)) := ⟨_, rfl⟩
   rw [← hv2]
   have F2 : Hid (w.grownBy v2.drew (some b) ∧ Blk v2.drew b 88 (sumC s0 s1 h2 r0 r1 R hl).toArray ∧ Blk v2.drew g 85 #[.int .u64 ((x0 : Nat) : Int), .int .u64 ((x1 : Nat) : Int)]) := Lib.hid (by rw [hv2]; exact ⟨gb_drew (gb_set F1.out.1 _ _), (sum_s1 F1.out.2.1 _).drew, ((heap_setCell_other _ _ _ _ NE.out).trans F1.out.2.2)⟩)
   clear hv2 F1
   refine zP (.int .u64 ((d1 : Nat) : Int)) ?_
   go_upto_region 4 with (fail)
   refine region_any (by kernel_rfl) 11 rfl ?_
   refine zA 0 36 (.pointer (some ⟨b, 0, none⟩)) ?_
   refine zA 1 37 (.pointer (some ⟨b, 0, none⟩)) ?_
   refine zA 2 38 (.pointer (some ⟨b, 0, none⟩)) ?_
   refine zA 3 39 (.pointer (some ⟨b, 2, none⟩)) ?_
   refine zA 5 41 (.int .u64 ((d1 : Nat) : Int)) ?_
   refine zA 7 43 (.pointer (some ⟨b, 0, none⟩)) ?_
   refine zA 8 44 (.pointer (some ⟨b, 0, none⟩)) ?_
   refine wpAny_all (rs := [4]) (by kernel_rfl) (by simp) ?_
   intro i hi
   simp only [List.mem_cons, List.not_mem_nil, or_false] at hi
   subst hi
   refine op_val (o := ⟨some 40, _, _, _, _, _⟩) (.int .u64 ((h2 : Nat) : Int)) rfl rfl (run_load_one _ _ _ 82 _ _ rfl b 2 rfl (sum_c2 F2.out.2.1) (by kernel_rfl)) ?_
   simp only [Act.put, List.setIfInBounds_toArray, List.set_cons_zero, List.set_cons_succ]
   refine zB 6 42 (.int .u64 ((h2 + d1 : Nat) : Int)) rfl (fun w => run_addi Tryd.underlying82 rfl rfl rfl _ (wadd rfl HB.out)) ?_
   refine zA 9 45 (.pointer (some ⟨b, 2, none⟩)) ?_
   refine wpAny_of_idx [10] [⟨none, _, _, _, _, _⟩] _ _ _ (by rfl) (by kernel_rfl) ?_
   refine wpL_store_one rfl rfl (b) (2) rfl (.int .u64 ((h2 + d1 : Nat) : Int)) rfl rfl size35 (by rw [sum_c2 F2.out.2.1]; rfl) (F2.out.2.1.free _) ?_
   simp only [Act.put, List.setIfInBounds_toArray, List.set_cons_zero, List.set_cons_succ]
   obtain ⟨v3, hv3⟩ : ∃ V, V = v2.drew.setCell ⟨b, 2, none⟩ (.int .u64 ((h2 + d1 : Nat) : Int)) := ⟨_, rfl⟩
   rw [← hv3]
   have F3 : Hid (w.grownBy v3 (some b) ∧ Blk v3 b 88 (sumC s0 s1 (h2 + d1) r0 r1 R hl).toArray ∧ Blk v3 g 85 #[.int .u64 ((x0 : Nat) : Int), .int .u64 ((x1 : Nat) : Int)]) := Lib.hid (by rw [hv3]; exact ⟨ (gb_set F2.out.1 _ _), (sum_s2 F2.out.2.1 _), ((heap_setCell_other _ _ _ _ NE.out).trans F2.out.2.2)⟩)
   clear hv3 F2
   go_upto_region 5 with (fail)
   go_end0
   exact ⟨rfl, F3.out.1, s0, s1, h2 + d1, F3.out.2.1, A0.out.2.1, A1.out.2.1, HE.out⟩
 ·refine op_val (o := ⟨some 13, _, _, _, _, _⟩) (.int .u64 ((x0 : Nat) : Int)) rfl rfl (run_load_one _ _ _ 82 _ _ rfl g 0 rfl (blk2_0 HS.out.2.2) (by kernel_rfl)) ?_
  simp only [Act.put, List.setIfInBounds_toArray, List.set_cons_zero, List.set_cons_succ]
  refine wpAny_all (rs := [5]) (by kernel_rfl) (by simp) ?_
  intro i hi
  simp only [List.mem_cons, List.not_mem_nil, or_false] at hi
  subst hi
  refine op_val (o := ⟨some 11, _, _, _, _, _⟩) (.int .u64 ((h0 : Nat) : Int)) rfl rfl (run_load_one _ _ _ 82 _ _ rfl b 0 rfl (sum_c0 HS.out.2.1) (by kernel_rfl)) ?_
  simp only [Act.put, List.setIfInBounds_toArray, List.set_cons_zero, List.set_cons_succ]
  refine zB 8 14 (.tuple #[.int .u64 ((s0 : Nat) : Int), .int .u64 ((d0 : Nat) : Int)]) rfl (fun w => (Eq.trans (b := (callFunc 50 #[.int .u64 ((h0 : Nat) : Int), .int .u64 ((x0 : Nat) : Int), .int .u64 ((0 : Nat) : Int)]).run Tryd.prog _) (by kernel_rfl) (A0.out.1 _))) ?_
  refine zA 9 5 (.tuple #[.int .u64 ((s0 : Nat) : Int), .int .u64 ((d0 : Nat) : Int)]) ?_
  refine zA 10 15 (.int .u64 ((s0 : Nat) : Int)) ?_
  refine zA 11 16 (.int .u64 ((d0 : Nat) : Int)) ?_
  refine zA 14 19 (.pointer (some ⟨b, 0, none⟩)) ?_
  refine wpAny_of_idx [15, 16] [⟨none, _, _, _, _, _⟩, ⟨some 4, _, _, _, _, _⟩] _ _ _ (by rfl) (by kernel_rfl) ?_
  refine wpL_store_one rfl rfl (b) (0) rfl (.int .u64 ((s0 : Nat) : Int)) rfl rfl size35 (by rw [sum_c0 HS.out.2.1]; rfl) (HS.out.2.1.free _) ?_
  simp only [Act.put, List.setIfInBounds_toArray, List.set_cons_zero, List.set_cons_succ]
  obtain ⟨v1, hv1⟩ : ∃ V, V = w1.drew.setCell ⟨b, 0, none⟩ (.int .u64 ((s0 : Nat) : Int)) := ⟨_, rfl⟩
  rw [← hv1]
  have F1 : Hid (w.grownBy v1.drew (some b) ∧ Blk v1.drew b 88 (sumC s0 h1 h2 r0 r1 R hl).toArray ∧ Blk v1.drew g 85 #[.int .u64 ((x0 : Nat) : Int), .int .u64 ((x1 : Nat) : Int)]) := Lib.hid (by rw [hv1]; exact ⟨gb_drew (gb_set HS.out.1 _ _), (sum_s0 HS.out.2.1 _).drew, ((heap_setCell_other _ _ _ _ NE.out).trans HS.out.2.2)⟩)
  clear hv1 HS
  refine zP (.int .u64 ((d0 : Nat) : Int)) ?_
  go_upto_region 3 with (fail)
  refine region_any (by kernel_rfl) 18 rfl ?_
  refine zA 0 21 (.pointer (some ⟨b, 0, none⟩)) ?_
  refine zA 1 22 (.pointer (some ⟨b, 0, none⟩)) ?_
  refine zA 2 23 (.pointer (some ⟨b, 0, none⟩)) ?_
  refine zA 3 24 (.pointer (some ⟨b, 0, none⟩)) ?_
  refine zA 4 25 (.pointer (some ⟨b, 1, none⟩)) ?_
  refine zA 6 27 (.pointer (some ⟨g, 1, none⟩)) ?_
  refine zA 8 29 (.int .u64 ((d0 : Nat) : Int)) ?_
  refine zA 13 33 (.pointer (some ⟨b, 0, none⟩)) ?_
  refine zA 14 34 (.pointer (some ⟨b, 0, none⟩)) ?_
  refine wpAny_all (rs := [5, 7]) (by kernel_rfl) (by simp) ?_
  intro i hi
  simp only [List.mem_cons, List.not_mem_nil, or_false] at hi
  rcases hi with rfl | rfl
  ·refine op_val (o := ⟨some 26, _, _, _, _, _⟩) (.int .u64 ((h1 : Nat) : Int)) rfl rfl (run_load_one _ _ _ 82 _ _ rfl b 1 rfl (sum_c1 F1.out.2.1) (by kernel_rfl)) ?_
   simp only [Act.put, List.setIfInBounds_toArray, List.set_cons_zero, List.set_cons_succ]
   refine wpAny_all (rs := [7]) (by kernel_rfl) (by simp) ?_
   intro i hi
   simp only [List.mem_cons, List.not_mem_nil, or_false] at hi
   subst hi
   refine op_val (o := ⟨some 28, _, _, _, _, _⟩) (.int .u64 ((x1 : Nat) : Int)) rfl rfl (run_load_one _ _ _ 82 _ _ rfl g 1 rfl (blk2_1 F1.out.2.2) (by kernel_rfl)) ?_
   simp only [Act.put, List.setIfInBounds_toArray, List.set_cons_zero, List.set_cons_succ]
   refine zB 9 30 (.tuple #[.int .u64 ((s1 : Nat) : Int), .int .u64 ((d1 : Nat) : Int)]) rfl (fun w => (Eq.trans (b := (callFunc 50 #[.int .u64 ((h1 : Nat) : Int), .int .u64 ((x1 : Nat) : Int), .int .u64 ((d0 : Nat) : Int)]).run Tryd.prog _) (by kernel_rfl) (A1.out.1 _))) ?_
   refine zA 10 20 (.tuple #[.int .u64 ((s1 : Nat) : Int), .int .u64 ((d1 : Nat) : Int)]) ?_
   refine zA 11 31 (.int .u64 ((s1 : Nat) : Int)) ?_
   refine zA 12 32 (.int .u64 ((d1 : Nat) : Int)) ?_
   refine zA 15 35 (.pointer (some ⟨b, 1, none⟩)) ?_
   refine wpAny_of_idx [16, 17] [⟨none, _, _, _, _, _⟩, ⟨some 4, _, _, _, _, _⟩] _ _ _ (by rfl) (by kernel_rfl) ?_
   refine wpL_store_one rfl rfl (b) (1) rfl (.int .u64 ((s1 : Nat) : Int)) rfl rfl size35 (by rw [sum_c1 F1.out.2.1]; rfl) (F1.out.2.1.free _) ?_
   simp only [Act.put, List.setIfInBounds_toArray, List.set_cons_zero, List.set_cons_succ]
   obtain ⟨v2, hv2⟩ : ∃ V, V = v1.drew.setCell ⟨b, 1, none⟩ (.int .u64 ((s1 : Nat) : Int)) := ⟨_, rfl⟩
   rw [← hv2]
   have F2 : Hid (w.grownBy v2.drew (some b) ∧ Blk v2.drew b 88 (sumC s0 s1 h2 r0 r1 R hl).toArray ∧ Blk v2.drew g 85 #[.int .u64 ((x0 : Nat) : Int), .int .u64 ((x1 : Nat) : Int)]) := Lib.hid (by rw [hv2]; exact ⟨gb_drew (gb_set F1.out.1 _ _), (sum_s1 F1.out.2.1 _).drew, ((heap_setCell_other _ _ _ _ NE.out).trans F1.out.2.2)⟩)
   clear hv2 F1
   refine zP (.int .u64 ((d1 : Nat) : Int)) ?_
   go_upto_region 4 with (fail)
   refine region_any (by kernel_rfl) 11 rfl ?_
   refine zA 0 36 (.pointer (some ⟨b, 0, none⟩)) ?_
   refine zA 1 37 (.pointer (some ⟨b, 0, none⟩)) ?_
   refine zA 2 38 (.pointer (some ⟨b, 0, none⟩)) ?_
   refine zA 3 39 (.pointer (some ⟨b, 2, none⟩)) ?_
   refine zA 5 41 (.int .u64 ((d1 : Nat) : Int)) ?_
   refine zA 7 43 (.pointer (some ⟨b, 0, none⟩)) ?_
   refine zA 8 44 (.pointer (some ⟨b, 0, none⟩)) ?_
   refine wpAny_all (rs := [4]) (by kernel_rfl) (by simp) ?_
   intro i hi
   simp only [List.mem_cons, List.not_mem_nil, or_false] at hi
   subst hi
   refine op_val (o := ⟨some 40, _, _, _, _, _⟩) (.int .u64 ((h2 : Nat) : Int)) rfl rfl (run_load_one _ _ _ 82 _ _ rfl b 2 rfl (sum_c2 F2.out.2.1) (by kernel_rfl)) ?_
   simp only [Act.put, List.setIfInBounds_toArray, List.set_cons_zero, List.set_cons_succ]
   refine zB 6 42 (.int .u64 ((h2 + d1 : Nat) : Int)) rfl (fun w => run_addi Tryd.underlying82 rfl rfl rfl _ (wadd rfl HB.out)) ?_
   refine zA 9 45 (.pointer (some ⟨b, 2, none⟩)) ?_
   refine wpAny_of_idx [10] [⟨none, _, _, _, _, _⟩] _ _ _ (by rfl) (by kernel_rfl) ?_
   refine wpL_store_one rfl rfl (b) (2) rfl (.int .u64 ((h2 + d1 : Nat) : Int)) rfl rfl size35 (by rw [sum_c2 F2.out.2.1]; rfl) (F2.out.2.1.free _) ?_
   simp only [Act.put, List.setIfInBounds_toArray, List.set_cons_zero, List.set_cons_succ]
   obtain ⟨v3, hv3⟩ : ∃ V, V = v2.drew.setCell ⟨b, 2, none⟩ (.int .u64 ((h2 + d1 : Nat) : Int)) := ⟨_, rfl⟩
   rw [← hv3]
   have F3 : Hid (w.grownBy v3 (some b) ∧ Blk v3 b 88 (sumC s0 s1 (h2 + d1) r0 r1 R hl).toArray ∧ Blk v3 g 85 #[.int .u64 ((x0 : Nat) : Int), .int .u64 ((x1 : Nat) : Int)]) := Lib.hid (by rw [hv3]; exact ⟨ (gb_set F2.out.1 _ _), (sum_s2 F2.out.2.1 _), ((heap_setCell_other _ _ _ _ NE.out).trans F2.out.2.2)⟩)
   clear hv3 F2
   go_upto_region 5 with (fail)
   go_end0
   exact ⟨rfl, F3.out.1, s0, s1, h2 + d1, F3.out.2.1, A0.out.2.1, A1.out.2.1, HE.out⟩
  ·refine op_val (o := ⟨some 28, _, _, _, _, _⟩) (.int .u64 ((x1 : Nat) : Int)) rfl rfl (run_load_one _ _ _ 82 _ _ rfl g 1 rfl (blk2_1 F1.out.2.2) (by kernel_rfl)) ?_
   simp only [Act.put, List.setIfInBounds_toArray, List.set_cons_zero, List.set_cons_succ]
   refine wpAny_all (rs := [5]) (by kernel_rfl) (by simp) ?_
   intro i hi
   simp only [List.mem_cons, List.not_mem_nil, or_false] at hi
   subst hi
   refine op_val (o := ⟨some 26, _, _, _, _, _⟩) (.int .u64 ((h1 : Nat) : Int)) rfl rfl (run_load_one _ _ _ 82 _ _ rfl b 1 rfl (sum_c1 F1.out.2.1) (by kernel_rfl)) ?_
   simp only [Act.put, List.setIfInBounds_toArray, List.set_cons_zero, List.set_cons_succ]
   refine zB 9 30 (.tuple #[.int .u64 ((s1 : Nat) : Int), .int .u64 ((d1 : Nat) : Int)]) rfl (fun w => (Eq.trans (b := (callFunc 50 #[.int .u64 ((h1 : Nat) : Int), .int .u64 ((x1 : Nat) : Int), .int .u64 ((d0 : Nat) : Int)]).run Tryd.prog _) (by kernel_rfl) (A1.out.1 _))) ?_
   refine zA 10 20 (.tuple #[.int .u64 ((s1 : Nat) : Int), .int .u64 ((d1 : Nat) : Int)]) ?_
   refine zA 11 31 (.int .u64 ((s1 : Nat) : Int)) ?_
   refine zA 12 32 (.int .u64 ((d1 : Nat) : Int)) ?_
   refine zA 15 35 (.pointer (some ⟨b, 1, none⟩)) ?_
   refine wpAny_of_idx [16, 17] [⟨none, _, _, _, _, _⟩, ⟨some 4, _, _, _, _, _⟩] _ _ _ (by rfl) (by kernel_rfl) ?_
   refine wpL_store_one rfl rfl (b) (1) rfl (.int .u64 ((s1 : Nat) : Int)) rfl rfl size35 (by rw [sum_c1 F1.out.2.1]; rfl) (F1.out.2.1.free _) ?_
   simp only [Act.put, List.setIfInBounds_toArray, List.set_cons_zero, List.set_cons_succ]
   obtain ⟨v2, hv2⟩ : ∃ V, V = v1.drew.setCell ⟨b, 1, none⟩ (.int .u64 ((s1 : Nat) : Int)) := ⟨_, rfl⟩
   rw [← hv2]
   have F2 : Hid (w.grownBy v2.drew (some b) ∧ Blk v2.drew b 88 (sumC s0 s1 h2 r0 r1 R hl).toArray ∧ Blk v2.drew g 85 #[.int .u64 ((x0 : Nat) : Int), .int .u64 ((x1 : Nat) : Int)]) := Lib.hid (by rw [hv2]; exact ⟨gb_drew (gb_set F1.out.1 _ _), (sum_s1 F1.out.2.1 _).drew, ((heap_setCell_other _ _ _ _ NE.out).trans F1.out.2.2)⟩)
   clear hv2 F1
   refine zP (.int .u64 ((d1 : Nat) : Int)) ?_
   go_upto_region 4 with (fail)
   refine region_any (by kernel_rfl) 11 rfl ?_
   refine zA 0 36 (.pointer (some ⟨b, 0, none⟩)) ?_
   refine zA 1 37 (.pointer (some ⟨b, 0, none⟩)) ?_
   refine zA 2 38 (.pointer (some ⟨b, 0, none⟩)) ?_
   refine zA 3 39 (.pointer (some ⟨b, 2, none⟩)) ?_
   refine zA 5 41 (.int .u64 ((d1 : Nat) : Int)) ?_
   refine zA 7 43 (.pointer (some ⟨b, 0, none⟩)) ?_
   refine zA 8 44 (.pointer (some ⟨b, 0, none⟩)) ?_
   refine wpAny_all (rs := [4]) (by kernel_rfl) (by simp) ?_
   intro i hi
   simp only [List.mem_cons, List.not_mem_nil, or_false] at hi
   subst hi
   refine op_val (o := ⟨some 40, _, _, _, _, _⟩) (.int .u64 ((h2 : Nat) : Int)) rfl rfl (run_load_one _ _ _ 82 _ _ rfl b 2 rfl (sum_c2 F2.out.2.1) (by kernel_rfl)) ?_
   simp only [Act.put, List.setIfInBounds_toArray, List.set_cons_zero, List.set_cons_succ]
   refine zB 6 42 (.int .u64 ((h2 + d1 : Nat) : Int)) rfl (fun w => run_addi Tryd.underlying82 rfl rfl rfl _ (wadd rfl HB.out)) ?_
   refine zA 9 45 (.pointer (some ⟨b, 2, none⟩)) ?_
   refine wpAny_of_idx [10] [⟨none, _, _, _, _, _⟩] _ _ _ (by rfl) (by kernel_rfl) ?_
   refine wpL_store_one rfl rfl (b) (2) rfl (.int .u64 ((h2 + d1 : Nat) : Int)) rfl rfl size35 (by rw [sum_c2 F2.out.2.1]; rfl) (F2.out.2.1.free _) ?_
   simp only [Act.put, List.setIfInBounds_toArray, List.set_cons_zero, List.set_cons_succ]
   obtain ⟨v3, hv3⟩ : ∃ V, V = v2.drew.setCell ⟨b, 2, none⟩ (.int .u64 ((h2 + d1 : Nat) : Int)) := ⟨_, rfl⟩
   rw [← hv3]
   have F3 : Hid (w.grownBy v3 (some b) ∧ Blk v3 b 88 (sumC s0 s1 (h2 + d1) r0 r1 R hl).toArray ∧ Blk v3 g 85 #[.int .u64 ((x0 : Nat) : Int), .int .u64 ((x1 : Nat) : Int)]) := Lib.hid (by rw [hv3]; exact ⟨ (gb_set F2.out.1 _ _), (sum_s2 F2.out.2.1 _), ((heap_setCell_other _ _ _ _ NE.out).trans F2.out.2.2)⟩)
   clear hv3 F2
   go_upto_region 5 with (fail)
   go_end0
   exact ⟨rfl, F3.out.1, s0, s1, h2 + d1, F3.out.2.1, A0.out.2.1, A1.out.2.1, HE.out⟩
end Go.Proofs.YtlbfohpkngmaoaaDoor.Po
