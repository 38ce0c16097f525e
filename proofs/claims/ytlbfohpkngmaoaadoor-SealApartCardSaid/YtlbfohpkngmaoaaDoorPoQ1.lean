/- Words of 64 bits: sums with a carry, differences, products; a sum under way. -/
import Derived.Test.YtlbfohpkngmaoaaDoorPoA
import Derived.Test.YtlbfohpkngmaoaaDoorPoB
import Derived.Lib.Mul64
namespace Go.Proofs.YtlbfohpkngmaoaaDoor.Po
open Go Go.RowKit
theorem wmul {a b p : Nat} (h : a * b = p) (hp : p < 18446744073709551616) : IntKind.u64.wrap ((a : Int) * (b : Int)) = (p : Int) := by
 rw [IntKind.wrap_u64, ← Int.natCast_mul, h]; omega
theorem wmulm {a b p : Nat} (h : a * b % 18446744073709551616 = p) : IntKind.u64.wrap ((a : Int) * (b : Int)) = (p : Int) := by
 rw [IntKind.wrap_u64, ← Int.natCast_mul, ← h]; omega
theorem wadd {a b p : Nat} (h : a + b = p) (hp : p < 18446744073709551616) : IntKind.u64.wrap ((a : Int) + (b : Int)) = (p : Int) := by
 rw [IntKind.wrap_u64]; omega
theorem wand (x : Nat) {q : Nat} (hx : x < 18446744073709551616) (h : x % 4294967296 = q) : bits .and .u64 (x : Int) 4294967295 = (q : Int) := by
 have e := u64_and_nat x 4294967295 hx (by omega)
 rw [show (4294967295 : Nat) = 2 ^ 32 - 1 by decide, Nat.and_two_pow_sub_one_eq_mod] at e
 rw [← h]
 exact e
theorem run_shrc (n : Nat) (m : Nat) (hm : (n, m) ∈ [(2, 4), (32, 4294967296)]) (a : Act) (o : Oper) (w : World) (x y : Operand) (p q : Nat) (ho : o.op = .binOp .shr 82 x y 81) (hx : a.eval x = .int .u64 (p : Int)) (hy : a.eval y = .int .u64 (n : Int)) (hp : p < 18446744073709551616) (hq : p / m = q) :
  (execOp a.eval o).run Tryd.prog w = .ok (.value (.int .u64 (q : Int))) w := by
 have b0 : (0 : Int) ≤ (p : Int) := by omega
 have b1 : (p : Int) < 18446744073709551616 := by omega
 subst hq
 simp only [List.mem_cons, Prod.mk.injEq, List.not_mem_nil, or_false] at hm
 rcases hm with ⟨rfl, rfl⟩ | ⟨rfl, rfl⟩
 all_goals
  have u := run_underlying Tryd.underlying82 w
  unfold execOp
  simp only [ho, hx, hy]
  go_simp
  all_goals (first | done | (rw [IntKind.wrap_u64]; omega) | omega)
theorem add_ex (x y c : Nat) (hx : x < 18446744073709551616) (hy : y < 18446744073709551616) (hc : c ≤ 1) : ∃ s d : Nat, (∀ w, (callFunc 50 #[.int .u64 (x : Int), .int .u64 (y : Int), .int .u64 (c : Int)]).run Tryd.prog w = .ok (.value (.tuple #[.int .u64 (s : Int), .int .u64 (d : Int)])) w) ∧ s < 18446744073709551616 ∧ d ≤ 1 ∧ x + y + c = s + 18446744073709551616 * d := by
 refine ⟨(x + y + c) % 18446744073709551616, (x + y + c) / 18446744073709551616, fun w => ?_, by omega, by omega, by omega⟩
 rw [run_callFunc_extern (fn := Tryd.f50) Tryd.func50 (by kernel_rfl) (by kernel_rfl) (by kernel_rfl) (e := add64Entry) (by kernel_rfl), run_add64 x y c (by omega) (by omega) (by omega) (by omega)]
 simp only [Result.andThen]
 congr 5 <;> omega
theorem sub_run0 (x y : Nat) (w : World) : (callFunc 52 #[.int .u64 (x : Int), .int .u64 (y : Int), .int .u64 ((0 : Nat) : Int)]).run Tryd.prog w = .ok (.value (.tuple #[.int .u64 (((x + 18446744073709551616 - y - 0) % 18446744073709551616 : Nat) : Int), .int .u64 ((if x < y + 0 then 1 else 0 : Nat) : Int)])) w := by kernel_rfl
theorem sub_run1 (x y : Nat) (w : World) : (callFunc 52 #[.int .u64 (x : Int), .int .u64 (y : Int), .int .u64 ((1 : Nat) : Int)]).run Tryd.prog w = .ok (.value (.tuple #[.int .u64 (((x + 18446744073709551616 - y - 1) % 18446744073709551616 : Nat) : Int), .int .u64 ((if x < y + 1 then 1 else 0 : Nat) : Int)])) w := by kernel_rfl
theorem sub_ex (x y c : Nat) (hc : c ≤ 1) : ∃ s d : Nat, (∀ w, (callFunc 52 #[.int .u64 (x : Int), .int .u64 (y : Int), .int .u64 (c : Int)]).run Tryd.prog w = .ok (.value (.tuple #[.int .u64 (s : Int), .int .u64 (d : Int)])) w) ∧ s = (x + 18446744073709551616 - y - c) % 18446744073709551616 ∧ d = if x < y + c then 1 else 0 := by
 refine ⟨(x + 18446744073709551616 - y - c) % 18446744073709551616, if x < y + c then 1 else 0, fun w => ?_, rfl, rfl⟩
 have : c = 0 ∨ c = 1 := by omega
 rcases this with rfl | rfl
 ·exact sub_run0 x y w
 ·exact sub_run1 x y w
attribute [local irreducible] wpList
theorem mul_ex (x y : Nat) (hx : x < 18446744073709551616) (hy : y < 18446744073709551616) : ∃ hi lo : Nat, (∀ w, Calls Tryd.prog 55 #[.int .u64 (x : Int), .int .u64 (y : Int)] w fun e w' => e = .returned (.tuple #[.int .u64 (hi : Int), .int .u64 (lo : Int)]) ∧ w = w') ∧ hi < 18446744073709551616 ∧ lo < 18446744073709551616 ∧ x * y = hi * 18446744073709551616 + lo := by
 obtain ⟨hi, hhi⟩ : ∃ q, x * y / 18446744073709551616 = q := ⟨_, rfl⟩
 obtain ⟨lo, hlo⟩ : ∃ q, x * y % 18446744073709551616 = q := ⟨_, rfl⟩
 have hle : x * y ≤ 18446744073709551615 * 18446744073709551615 := Nat.mul_le_mul (by omega) (by omega)
 refine ⟨hi, lo, fun w => ?_, by omega, by omega, by omega⟩
 have H := Lib.mul64_hi x y hx hy
 obtain ⟨x0, hx0⟩ : ∃ q, x % 4294967296 = q := ⟨_, rfl⟩
 obtain ⟨x1, hx1⟩ : ∃ q, x / 4294967296 = q := ⟨_, rfl⟩
 obtain ⟨y0, hy0⟩ : ∃ q, y % 4294967296 = q := ⟨_, rfl⟩
 obtain ⟨y1, hy1⟩ : ∃ q, y / 4294967296 = q := ⟨_, rfl⟩
 rw [hx0, hx1, hy0, hy1, hhi] at H
 obtain ⟨p00, h00⟩ : ∃ q, x0 * y0 = q := ⟨_, rfl⟩
 obtain ⟨p10, h10⟩ : ∃ q, x1 * y0 = q := ⟨_, rfl⟩
 obtain ⟨p01, h01⟩ : ∃ q, x0 * y1 = q := ⟨_, rfl⟩
 obtain ⟨p11, h11⟩ : ∃ q, x1 * y1 = q := ⟨_, rfl⟩
 rw [h00, h10, h01, h11] at H
 have HX := Lib.hid (And.intro hx (And.intro hx0 hx1))
 have HY := Lib.hid (And.intro hy (And.intro hy0 hy1))
 have HP := Lib.hid (And.intro h00 (And.intro h10 (And.intro h01 h11)))
 have HB : Hid (p00 < 18446744073709551616 ∧ p10 + p00 / 4294967296 < 18446744073709551616 ∧ (p10 + p00 / 4294967296) % 4294967296 + p01 < 18446744073709551616 ∧ p11 + (p10 + p00 / 4294967296) / 4294967296 + ((p10 + p00 / 4294967296) % 4294967296 + p01) / 4294967296 = hi ∧ hi < 18446744073709551616) := Lib.hid ⟨H.1, H.2.1, H.2.2.1, H.2.2.2, by omega⟩
 have HL := Lib.hid hlo
 clear H hhi hlo hle hx0 hx1 hy0 hy1 h00 h10 h01 h11 hx hy
 go_enter Tryd.func55, Tryd.ntmps55
 go_upto_region 0 with (fail)
 refine wp_region_lit ?_
 refine zP (.int .u64 0) ?_
 refine zP (.int .u64 0) ?_
 go_upto_region 1 with (fail)
 refine wp_region_lit ?_
 refine zP (.int .u64 ((x : Nat) : Int)) ?_
 refine zQ (.int .u64 ((x0 : Nat) : Int)) (run_biti (.inr (.inl rfl)) Tryd.underlying82 rfl rfl rfl _ (wand _ HX.out.1 HX.out.2.1)) ?_
 refine zP (.int .u64 ((x0 : Nat) : Int)) ?_
 go_upto_region 2 with (fail)
 refine wp_region_lit ?_
 refine zP (.int .u64 ((x : Nat) : Int)) ?_
 refine zQ (.int .u64 ((x1 : Nat) : Int)) (run_shrc 32 4294967296 (by simp) _ _ _ _ _ x x1 rfl rfl rfl (HX.out.1) (HX.out.2.2)) ?_
 refine zP (.int .u64 ((x1 : Nat) : Int)) ?_
 go_upto_region 3 with (fail)
 refine wp_region_lit ?_
 refine zP (.int .u64 ((y : Nat) : Int)) ?_
 refine zQ (.int .u64 ((y0 : Nat) : Int)) (run_biti (.inr (.inl rfl)) Tryd.underlying82 rfl rfl rfl _ (wand _ HY.out.1 HY.out.2.1)) ?_
 refine zP (.int .u64 ((y0 : Nat) : Int)) ?_
 go_upto_region 4 with (fail)
 refine wp_region_lit ?_
 refine zP (.int .u64 ((y : Nat) : Int)) ?_
 refine zQ (.int .u64 ((y1 : Nat) : Int)) (run_shrc 32 4294967296 (by simp) _ _ _ _ _ y y1 rfl rfl rfl (HY.out.1) (HY.out.2.2)) ?_
 refine zP (.int .u64 ((y1 : Nat) : Int)) ?_
 go_upto_region 5 with (fail)
 refine wp_region_lit ?_
 refine zP (.int .u64 ((x0 : Nat) : Int)) ?_
 refine zP (.int .u64 ((y0 : Nat) : Int)) ?_
 refine zQ (.int .u64 ((p00 : Nat) : Int)) (run_muli Tryd.underlying82 rfl rfl rfl _ (wmul HP.out.1 HB.out.1)) ?_
 refine zP (.int .u64 ((p00 : Nat) : Int)) ?_
 go_upto_region 6 with (fail)
 refine wp_region_lit ?_
 refine zP (.int .u64 ((x1 : Nat) : Int)) ?_
 refine zP (.int .u64 ((y0 : Nat) : Int)) ?_
 refine zQ (.int .u64 ((p10 : Nat) : Int)) (run_muli Tryd.underlying82 rfl rfl rfl _ (wmul HP.out.2.1 (by have := HB.out; omega))) ?_
 refine zP (.int .u64 ((p00 : Nat) : Int)) ?_
 refine zQ (.int .u64 ((p00 / 4294967296 : Nat) : Int)) (run_shrc 32 4294967296 (by simp) _ _ _ _ _ p00 (p00 / 4294967296) rfl rfl rfl (HB.out.1) (rfl)) ?_
 refine zQ (.int .u64 ((p10 + p00 / 4294967296 : Nat) : Int)) (run_addi Tryd.underlying82 rfl rfl rfl _ (wadd rfl HB.out.2.1)) ?_
 refine zP (.int .u64 ((p10 + p00 / 4294967296 : Nat) : Int)) ?_
 go_upto_region 7 with (fail)
 refine wp_region_lit ?_
 refine zP (.int .u64 ((p10 + p00 / 4294967296 : Nat) : Int)) ?_
 refine zQ (.int .u64 (((p10 + p00 / 4294967296) % 4294967296 : Nat) : Int)) (run_biti (.inr (.inl rfl)) Tryd.underlying82 rfl rfl rfl _ (wand _ HB.out.2.1 rfl)) ?_
 refine zP (.int .u64 (((p10 + p00 / 4294967296) % 4294967296 : Nat) : Int)) ?_
 go_upto_region 8 with (fail)
 refine wp_region_lit ?_
 refine zP (.int .u64 ((p10 + p00 / 4294967296 : Nat) : Int)) ?_
 refine zQ (.int .u64 (((p10 + p00 / 4294967296) / 4294967296 : Nat) : Int)) (run_shrc 32 4294967296 (by simp) _ _ _ _ _ _ _ rfl rfl rfl (HB.out.2.1) (rfl)) ?_
 refine zP (.int .u64 (((p10 + p00 / 4294967296) / 4294967296 : Nat) : Int)) ?_
 go_upto_region 9 with (fail)
 refine wp_region_lit ?_
 refine zP (.int .u64 (((p10 + p00 / 4294967296) % 4294967296 : Nat) : Int)) ?_
 refine zP (.int .u64 ((x0 : Nat) : Int)) ?_
 refine zP (.int .u64 ((y1 : Nat) : Int)) ?_
 refine zQ (.int .u64 ((p01 : Nat) : Int)) (run_muli Tryd.underlying82 rfl rfl rfl _ (wmul HP.out.2.2.1 (by have := HB.out; omega))) ?_
 refine zQ (.int .u64 (((p10 + p00 / 4294967296) % 4294967296 + p01 : Nat) : Int)) (run_addi Tryd.underlying82 rfl rfl rfl _ (wadd rfl HB.out.2.2.1)) ?_
 refine zP (.int .u64 (((p10 + p00 / 4294967296) % 4294967296 + p01 : Nat) : Int)) ?_
 go_upto_region 10 with (fail)
 refine wp_region_lit ?_
 refine zP (.int .u64 ((x1 : Nat) : Int)) ?_
 refine zP (.int .u64 ((y1 : Nat) : Int)) ?_
 refine zQ (.int .u64 ((p11 : Nat) : Int)) (run_muli Tryd.underlying82 rfl rfl rfl _ (wmul HP.out.2.2.2 (by have := HB.out; omega))) ?_
 refine zP (.int .u64 (((p10 + p00 / 4294967296) / 4294967296 : Nat) : Int)) ?_
 refine zQ (.int .u64 ((p11 + (p10 + p00 / 4294967296) / 4294967296 : Nat) : Int)) (run_addi Tryd.underlying82 rfl rfl rfl _ (wadd rfl (by have := HB.out; omega))) ?_
 refine zP (.int .u64 (((p10 + p00 / 4294967296) % 4294967296 + p01 : Nat) : Int)) ?_
 refine zQ (.int .u64 ((((p10 + p00 / 4294967296) % 4294967296 + p01) / 4294967296 : Nat) : Int)) (run_shrc 32 4294967296 (by simp) _ _ _ _ _ _ _ rfl rfl rfl (HB.out.2.2.1) (rfl)) ?_
 refine zQ (.int .u64 ((hi : Nat) : Int)) (run_addi Tryd.underlying82 rfl rfl rfl _ (wadd HB.out.2.2.2.1 HB.out.2.2.2.2)) ?_
 refine zP (.int .u64 ((hi : Nat) : Int)) ?_
 go_upto_region 11 with (fail)
 refine wp_region_lit ?_
 refine zP (.int .u64 ((x : Nat) : Int)) ?_
 refine zP (.int .u64 ((y : Nat) : Int)) ?_
 refine zQ (.int .u64 ((lo : Nat) : Int)) (run_muli Tryd.underlying82 rfl rfl rfl _ (wmulm HL.out)) ?_
 refine zP (.int .u64 ((lo : Nat) : Int)) ?_
 go_upto_region 12 with (fail)
 go_ret2
 exact ⟨rfl, rfl⟩
def sumC (h0 h1 h2 r0 r1 : Nat) (R : List Int) (hl : Nat) : List Value := .int .u64 (h0 : Int) :: .int .u64 (h1 : Int) :: .int .u64 (h2 : Int) :: .int .u64 (r0 : Int) :: .int .u64 (r1 : Int) :: (u8l R ++ [.int .i64 (hl : Int)])
section
variable {w : World} {b h0 h1 h2 r0 r1 hl : Nat} {R : List Int}
theorem sum_c0 (h : Blk w b 88 (sumC h0 h1 h2 r0 r1 R hl).toArray) : w.cell? ⟨b, 0, none⟩ = some (.int .u64 ((h0 : Nat) : Int)) := by rw [h.cell]; simp [sumC]
theorem sum_c1 (h : Blk w b 88 (sumC h0 h1 h2 r0 r1 R hl).toArray) : w.cell? ⟨b, 1, none⟩ = some (.int .u64 ((h1 : Nat) : Int)) := by rw [h.cell]; simp [sumC]
theorem sum_c2 (h : Blk w b 88 (sumC h0 h1 h2 r0 r1 R hl).toArray) : w.cell? ⟨b, 2, none⟩ = some (.int .u64 ((h2 : Nat) : Int)) := by rw [h.cell]; simp [sumC]
theorem sum_c3 (h : Blk w b 88 (sumC h0 h1 h2 r0 r1 R hl).toArray) : w.cell? ⟨b, 3, none⟩ = some (.int .u64 ((r0 : Nat) : Int)) := by rw [h.cell]; simp [sumC]
theorem sum_c4 (h : Blk w b 88 (sumC h0 h1 h2 r0 r1 R hl).toArray) : w.cell? ⟨b, 4, none⟩ = some (.int .u64 ((r1 : Nat) : Int)) := by rw [h.cell]; simp [sumC]
theorem sum_c21 (hR : R.length = 16) (h : Blk w b 88 (sumC h0 h1 h2 r0 r1 R hl).toArray) : w.cell? ⟨b, 21, none⟩ = some (.int .i64 ((hl : Nat) : Int)) := by
 rw [h.cell]; simp [sumC, u8l, List.getElem?_append, hR]
theorem sum_cr (hR : R.length = 16) (h : Blk w b 88 (sumC h0 h1 h2 r0 r1 R hl).toArray) (j : Nat) (hj : j < 16) : w.cell? ⟨b, 5 + j, none⟩ = some (.int .u8 (R.getD j 0)) := by
 rw [h.cell, Nat.add_comm 5 j]; simp [sumC, u8l, List.getElem?_append, hR, hj, List.getD, List.getElem?_eq_getElem (show j < R.length by omega)]
theorem sum_s0 (h : Blk w b 88 (sumC h0 h1 h2 r0 r1 R hl).toArray) (x : Nat) : Blk (w.setCell ⟨b, 0, none⟩ (.int .u64 ((x : Nat) : Int))) b 88 (sumC x h1 h2 r0 r1 R hl).toArray := by have := h.set 0 (.int .u64 (x : Int)); simpa [sumC] using this
theorem sum_s1 (h : Blk w b 88 (sumC h0 h1 h2 r0 r1 R hl).toArray) (x : Nat) : Blk (w.setCell ⟨b, 1, none⟩ (.int .u64 ((x : Nat) : Int))) b 88 (sumC h0 x h2 r0 r1 R hl).toArray := by have := h.set 1 (.int .u64 (x : Int)); simpa [sumC] using this
theorem sum_s2 (h : Blk w b 88 (sumC h0 h1 h2 r0 r1 R hl).toArray) (x : Nat) : Blk (w.setCell ⟨b, 2, none⟩ (.int .u64 ((x : Nat) : Int))) b 88 (sumC h0 h1 x r0 r1 R hl).toArray := by have := h.set 2 (.int .u64 (x : Int)); simpa [sumC] using this
theorem sum_s21 (hR : R.length = 16) (h : Blk w b 88 (sumC h0 h1 h2 r0 r1 R hl).toArray) (x : Nat) : Blk (w.setCell ⟨b, 21, none⟩ (.int .i64 ((x : Nat) : Int))) b 88 (sumC h0 h1 h2 r0 r1 R x).toArray := by
 have q := h.set 21 (.int .i64 (x : Int))
 have e : (sumC h0 h1 h2 r0 r1 R hl).set 21 (.int .i64 (x : Int)) = sumC h0 h1 h2 r0 r1 R x := by
  simp only [sumC, List.set_cons_succ]
  rw [List.set_append_right _ _ (by simp [u8l, hR])]
  simp [u8l, hR]
 rwa [e] at q
theorem sum_sr (hR : R.length = 16) (h : Blk w b 88 (sumC h0 h1 h2 r0 r1 R hl).toArray) (j : Nat) (hj : j < 16) (x : Int) : Blk (w.setCell ⟨b, 5 + j, none⟩ (.int .u8 x)) b 88 (sumC h0 h1 h2 r0 r1 (R.set j x) hl).toArray := by
 have q := h.set (5 + j) (.int .u8 x)
 have e : (sumC h0 h1 h2 r0 r1 R hl).set (5 + j) (.int .u8 x) = sumC h0 h1 h2 r0 r1 (R.set j x) hl := by
  rw [Nat.add_comm]
  simp only [sumC, List.set_cons_succ]
  rw [List.set_append_left _ _ (by simp [u8l, hR, hj])]
  simp [u8l]
 rwa [e] at q
end
end Go.Proofs.YtlbfohpkngmaoaaDoor.Po
