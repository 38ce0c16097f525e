import Derived.Test.YtlbfohpkngmaoaaPoB
import Derived.WalkKit
import Derived.WalkLawsBesides
import Derived.RegionTactic
import Derived.Deep.DeepCutAuto
import Derived.Laws.Rows
import Derived.Laws.BitsAllLaws
import Derived.Outline
import Derived.Lib.Hide
import Derived.IntWalk
import Derived.LoopTactic
namespace Go.Proofs.Ytlbfohpkngmaoaa.Po.O
open Go.RowKit
def le (x : Nat → Nat) : Nat → Nat
 | 0 => 0
 | k + 1 => le x k + x k * 2 ^ (8 * k)
theorem le_lt (x : Nat → Nat) (hx : ∀ j, x j < 256) : ∀ k, le x k < 2 ^ (8 * k)
 | 0 => by simp [le]
 | k + 1 => by
  have h := le_lt x hx k
  have e : 2 ^ (8 * (k + 1)) = 256 * 2 ^ (8 * k) := by rw [Nat.mul_add, Nat.pow_add, Nat.mul_comm]
  rw [e, le]
  have h2 : x k * 2 ^ (8 * k) ≤ 255 * 2 ^ (8 * k) := Nat.mul_le_mul_right _ (by have := hx k; omega)
  omega
theorem or_le (x : Nat → Nat) (hx : ∀ j, x j < 256) (k : Nat) : le x k ||| x k * 2 ^ (8 * k) = le x (k + 1) := by
 have h := Nat.two_pow_add_eq_or_of_lt (le_lt x hx k) (x k)
 rw [Nat.or_comm, Nat.mul_comm, ← h, le, Nat.mul_comm, Nat.add_comm]
theorem run_idx (a : Act) (o : Oper) (w : World) (T : TypeId) (hT : T = 33) (x i : Operand) (g off n c k : Nat) (ho : o.op = .indexAddr T x i) (hx : a.eval x = .slice (some ⟨g, off, none⟩) n c) (hi : a.eval i = .int .i64 (k : Int)) (hk : k < n) (hn : n ≤ maxLen) : (execOp a.eval o).run Try.prog w = .ok (.value (.pointer (some ⟨g, off + k, none⟩))) w := by
 subst hT
 unfold maxLen at hn
 have j0 : (0 : Int) ≤ (k : Int) := by omega
 have j6 : (k : Int) < (n : Int) := by omega
 unfold execOp
 simp only [ho, hx, hi]
 go_simp
theorem run_load_one (a : Act) (o : Oper) (w : World) (ty : TypeId) (x : Operand) (v : Value) (ho : o.op = .load ty x) (b off : Nat) (hx : a.eval x = .pointer (some ⟨b, off, none⟩)) (hc : w.cell? ⟨b, off, none⟩ = some v) (hagg : (isAgg ty).run Try.prog w = .ok false w) : (execOp a.eval o).run Try.prog w = .ok (.value v) w := by
 unfold execOp
 simp only [ho, hx]
 go_simp
theorem run_mul8 (a : Act) (o : Oper) (w : World) (x : Operand) (k : Nat) (ho : o.op = .binOp .mul 3 (.const (.int .i64 8)) x 3) (hx : a.eval x = .int .i64 (k : Int)) (hk : k < 8) : (execOp a.eval o).run Try.prog w = .ok (.value (.int .i64 ((8 * k : Nat) : Int))) w := by
 have hc : a.eval (.const (.int .i64 8)) = .int .i64 8 := rfl
 unfold execOp
 simp only [ho, hx, hc]
 rcases (show k = 0 ∨ k = 1 ∨ k = 2 ∨ k = 3 ∨ k = 4 ∨ k = 5 ∨ k = 6 ∨ k = 7 by omega) with rfl | rfl | rfl | rfl | rfl | rfl | rfl | rfl <;> go_simp <;> exact IntWalk.i64_in _ (by omega)
theorem run_shl (a : Act) (o : Oper) (w : World) (x y : Operand) (k b : Nat) (ho : o.op = .binOp .shl 24 x y 3) (hx : a.eval x = .int .u64 (b : Int)) (hy : a.eval y = .int .i64 ((8 * k : Nat) : Int)) (hk : k < 8) (hb : b < 256) : (execOp a.eval o).run Try.prog w = .ok (.value (.int .u64 ((b * 2 ^ (8 * k) : Nat) : Int))) w := by
 have b0 : (0 : Int) ≤ (b : Int) := by omega
 have b1 : (b : Int) < 256 := by omega
 unfold execOp
 simp only [ho, hx, hy]
 rcases (show k = 0 ∨ k = 1 ∨ k = 2 ∨ k = 3 ∨ k = 4 ∨ k = 5 ∨ k = 6 ∨ k = 7 by omega) with rfl | rfl | rfl | rfl | rfl | rfl | rfl | rfl
 all_goals go_simp
 all_goals (rw [IntKind.wrap_u64]; omega)
theorem run_or (a : Act) (o : Oper) (w : World) (x y : Operand) (p q : Nat) (ho : o.op = .binOp .or 24 x y 24) (hx : a.eval x = .int .u64 (p : Int)) (hy : a.eval y = .int .u64 (q : Int)) (hp : p < 18446744073709551616) (hq : q < 18446744073709551616) : (execOp a.eval o).run Try.prog w = .ok (.value (.int .u64 ((p ||| q : Nat) : Int))) w := by
 unfold execOp
 simp only [ho, hx, hy]
 go_simp
 exact u64_or_nat p q hp hq
theorem run_conv (a : Act) (o : Oper) (w : World) (x : Operand) (b : Nat) (ho : o.op = .convert 5 24 x) (hx : a.eval x = .int .u8 (b : Int)) (hb : b < 256) : (execOp a.eval o).run Try.prog w = .ok (.value (.int .u64 (b : Int))) w := by
 have b0 : (0 : Int) ≤ (b : Int) := by omega
 have b1 : (b : Int) < 256 := by omega
 unfold execOp
 simp only [ho, hx]
 go_simp
 try (rw [IntKind.wrap_u64]; omega)
theorem pow8 (k : Nat) (h : k ≤ 8) : 2 ^ (8 * k) ≤ 18446744073709551616 := by
 rcases (show k = 0 ∨ k = 1 ∨ k = 2 ∨ k = 3 ∨ k = 4 ∨ k = 5 ∨ k = 6 ∨ k = 7 ∨ k = 8 by omega) with rfl | rfl | rfl | rfl | rfl | rfl | rfl | rfl | rfl <;> decide
theorem le_64 (x : Nat → Nat) (hx : ∀ j, x j < 256) (k : Nat) (h : k ≤ 8) : le x k < 18446744073709551616 := Nat.lt_of_lt_of_le (le_lt x hx k) (pow8 k h)
set_option maxHeartbeats 1000000 in
theorem number_any (w : World) (g off n c : Nat) (x : Nat → Nat) (hx : ∀ j, x j < 256) (h8 : 8 ≤ n) (hn : n ≤ maxLen) (hc : ∀ j, j < 8 → w.cell? ⟨g, off + j, none⟩ = some (.int .u8 (x j : Nat))) :
  Calls Try.prog 32 #[.slice (some ⟨g, off, none⟩) n c] w fun e w' => e = .returned (.int .u64 (le x 8 : Nat)) ∧ w = w' := by
 have HX := Lib.hid hc
 have HB := Lib.hid hx
 have HN := Lib.hid hn
 have H8 := Lib.hid h8
 clear hc hx hn h8
 go_enter Try.func32, Try.ntmps32
 go_wp2
 go_loopw [3, 5] (fun s3 s5 wr => ∃ k : Nat, k ≤ 8 ∧ s5 = .int .i64 k ∧ s3 = .int .u64 (le x k : Nat) ∧ Hid (wr = w)) (fun _ s5 _ => 8 - (intOf s5).toNat)
 case atStart => exact ⟨0, by omega, rfl, rfl, Lib.hid rfl⟩
 case round =>
  obtain ⟨k, hk, rfl, rfl, EW⟩ := hrel
  have ew := EW.out
  subst ew
  clear EW
  by_cases hlt : k < 8
  ·have HK := Lib.hid hlt
   have HKN : Hid (k < n) := Lib.hid (by have := H8.out; omega)
   have HL : Hid (le x k < 18446744073709551616) := Lib.hid (le_64 x HB.out k (by omega))
   have HM : Hid (x k * 2 ^ (8 * k) < 18446744073709551616) := Lib.hid (by
    have h1 := le_64 x HB.out (k + 1) (by omega)
    rw [le] at h1; omega)
   have k0 : (0 : Int) ≤ (k : Int) := by omega
   have k8 : (k : Int) < 8 := by omega
   clear hk hlt
   go_upto_region 5 with (fail)
   refine wp_region_lit ?_
   refine zP (.int .u64 (le x k : Nat)) ?_
   refine zP (.slice (some ⟨g, off, none⟩) n c) ?_
   refine zP (.int .i64 (k : Int)) ?_
   refine zQ (.pointer (some ⟨g, off + k, none⟩)) (run_idx _ _ _ 33 rfl _ _ g off n c k rfl rfl rfl HKN.out HN.out) ?_
   refine zQ (.int .u8 (x k : Nat)) (run_load_one _ _ _ 5 _ _ rfl g (off + k) rfl (HX.out k HK.out) (by kernel_rfl)) ?_
   refine zQ (.int .u64 (x k : Nat)) (run_conv _ _ _ _ (x k) rfl rfl (HB.out k)) ?_
   refine zP (.int .i64 (k : Int)) ?_
   refine zQ (.int .i64 ((8 * k : Nat) : Int)) (run_mul8 _ _ _ _ k rfl rfl HK.out) ?_
   refine zQ (.int .u64 ((x k * 2 ^ (8 * k) : Nat) : Int)) (run_shl _ _ _ _ _ k (x k) rfl rfl rfl HK.out (HB.out k)) ?_
   refine zQ (.int .u64 ((le x k ||| x k * 2 ^ (8 * k) : Nat) : Int)) (run_or _ _ _ _ _ (le x k) (x k * 2 ^ (8 * k)) rfl rfl rfl HL.out HM.out) ?_
   rw [or_le x HB.out k]
   go_wp2_with fail
   go_roundw
   case rel => exact ⟨k + 1, by have := HK.out; omega, by go_num, rfl, Lib.hid trivial⟩
   case measure => simp [intOf]; omega
  ·obtain rfl : k = 8 := by omega
   clear hk hlt
   go_wp2
   go_ret
   exact ⟨rfl, rfl⟩
end Go.Proofs.Ytlbfohpkngmaoaa.Po.O
