/- Texts of use, in one. -/
import Derived.Test.YtlbfohpkngmaoaaDoorPoB
import Derived.WalkKit
import Derived.WalkLawsBesides
import Derived.RegionTactic
import Derived.Deep.DeepCutAuto
import Derived.Laws.Rows
import Derived.Laws.BitsAllLaws
import Derived.Outline
import Derived.Lib.Hide
import Derived.IntWalk
import Derived.LoopTactic
import Derived.Laws.Externs
namespace Go.Proofs.YtlbfohpkngmaoaaDoor.Po
def p130 : Nat := 1361129467683753853853498429727072845819
theorem mul_words {h0 h1 h2 r0 r1 a1 t0 b1 b0 d1 d0 f1 f0 t1 c1 t2 c2 u1 e1 u2 e2 t3 g3 v2 e3 v3 g4 : Nat}
  (l0 : h0 < 18446744073709551616) (l1 : h1 < 18446744073709551616) (l2 : h2 ≤ 6) (k0 : r0 < 1152921504606846976) (k1 : r1 < 1152921504606846976)
  (m0 : h0 * r0 = a1 * 18446744073709551616 + t0) (m1 : h1 * r0 = b1 * 18446744073709551616 + b0) (m2 : h0 * r1 = d1 * 18446744073709551616 + d0) (m3 : h1 * r1 = f1 * 18446744073709551616 + f0)
  (E1 : b0 + d0 + 0 = t1 + 18446744073709551616 * c1) (E2 : b1 + d1 + c1 = t2 + 18446744073709551616 * c2)
  (E3 : t1 + a1 + 0 = u1 + 18446744073709551616 * e1) (E4 : t2 + f0 + e1 = u2 + 18446744073709551616 * e2)
  (E5 : c2 + f1 + e2 = t3 + 18446744073709551616 * g3) (E6 : u2 + h2 * r0 + 0 = v2 + 18446744073709551616 * e3) (E7 : t3 + h2 * r1 + e3 = v3 + 18446744073709551616 * g4) :
  t0 + 18446744073709551616 * u1 + 340282366920938463463374607431768211456 * v2 + 6277101735386680763835789423207666416102355444464034512896 * v3 = (h0 + 18446744073709551616 * h1 + 340282366920938463463374607431768211456 * h2) * (r0 + 18446744073709551616 * r1) ∧ v3 ≤ 8070450532247928832 := by
 have hb : (h0 + 18446744073709551616 * h1 + 340282366920938463463374607431768211456 * h2) * (r0 + 18446744073709551616 * r1) ≤ 2381976568446569244243622252022377480192 * 21267647932558653966460912964485513216 := Nat.mul_le_mul (by omega) (by omega)
 have hx : (h0 + 18446744073709551616 * h1 + 340282366920938463463374607431768211456 * h2) * (r0 + 18446744073709551616 * r1) = h0 * r0 + 18446744073709551616 * (h1 * r0) + 340282366920938463463374607431768211456 * (h2 * r0) + (18446744073709551616 * (h0 * r1) + 340282366920938463463374607431768211456 * (h1 * r1) + 6277101735386680763835789423207666416102355444464034512896 * (h2 * r1)) := by
  rw [Nat.mul_add, Nat.add_mul, Nat.add_mul, Nat.mul_assoc, Nat.mul_assoc, Nat.mul_left_comm _ 18446744073709551616 r1, Nat.add_mul, Nat.add_mul, Nat.mul_add, Nat.mul_add, Nat.mul_assoc 18446744073709551616 h1 r1, Nat.mul_assoc 340282366920938463463374607431768211456 h2 r1]
  omega
 rw [hx] at hb ⊢
 generalize h2 * r0 = x0 at *
 generalize h2 * r1 = x1 at *
 rw [m0, m1, m2, m3] at hb ⊢
 omega
theorem fold_words {a b c d f0 f1 o0 o1 y0 y1 y2 z0 z1 z2 : Nat} (hf0 : f0 = c - c % 4) (hf1 : f1 = d) (ho0 : o0 = c / 4 + d % 4 * 4611686018427387904) (ho1 : o1 = d / 4)
  (hy : y0 + 18446744073709551616 * y1 + 340282366920938463463374607431768211456 * y2 = a + 18446744073709551616 * b + 340282366920938463463374607431768211456 * (c % 4) + (f0 + 18446744073709551616 * f1))
  (hz : z0 + 18446744073709551616 * z1 + 340282366920938463463374607431768211456 * z2 = y0 + 18446744073709551616 * y1 + 340282366920938463463374607431768211456 * y2 + (o0 + 18446744073709551616 * o1)) :
  z0 + 18446744073709551616 * z1 + 340282366920938463463374607431768211456 * z2 + (c / 4 + 4611686018427387904 * d) * p130 = a + 18446744073709551616 * b + 340282366920938463463374607431768211456 * c + 6277101735386680763835789423207666416102355444464034512896 * d := by
 unfold p130
 omega
theorem fold_small {a b c d z0 z1 z2 : Nat} (la : a < 18446744073709551616) (lb : b < 18446744073709551616) (lc : c < 18446744073709551616) (ld : d ≤ 8070450532247928832)
  (h : z0 + 18446744073709551616 * z1 + 340282366920938463463374607431768211456 * z2 + (c / 4 + 4611686018427387904 * d) * p130 = a + 18446744073709551616 * b + 340282366920938463463374607431768211456 * c + 6277101735386680763835789423207666416102355444464034512896 * d) : z2 ≤ 4 := by
 unfold p130 at h
 omega
theorem mod_of_fold {x y q : Nat} (h : x + q * p130 = y) : x % p130 = y % p130 := by rw [← h, Nat.add_mul_mod_self_right]
theorem or_fold (c d : Nat) (hc : c < 18446744073709551616) : (c / 4) ||| (d % 4 * 4611686018427387904) = c / 4 + d % 4 * 4611686018427387904 := by
 have h := Nat.two_pow_add_eq_or_of_lt (show c / 4 < 2 ^ 62 by omega) (d % 4)
 rw [Nat.or_comm, Nat.mul_comm, Nat.add_comm]
 rw [show (4611686018427387904 : Nat) = 2 ^ 62 by decide, h]
theorem end_words {h0 h1 h2 a c1 b c2 x c3 : Nat} (l0 : h0 < 18446744073709551616) (l1 : h1 < 18446744073709551616) (l2 : h2 ≤ 4)
  (ha : a = (h0 + 18446744073709551616 - 18446744073709551611 - 0) % 18446744073709551616) (hc1 : c1 = if h0 < 18446744073709551611 + 0 then 1 else 0)
  (hb : b = (h1 + 18446744073709551616 - 18446744073709551615 - c1) % 18446744073709551616) (hc2 : c2 = if h1 < 18446744073709551615 + c1 then 1 else 0)
  (hc3 : c3 = if h2 < 3 + c2 then 1 else 0) :
  (c3 = 1 → (h0 + 18446744073709551616 * h1) % 340282366920938463463374607431768211456 = (h0 + 18446744073709551616 * h1 + 340282366920938463463374607431768211456 * h2) % p130 % 340282366920938463463374607431768211456) ∧
  (c3 = 0 → (a + 18446744073709551616 * b) % 340282366920938463463374607431768211456 = (h0 + 18446744073709551616 * h1 + 340282366920938463463374607431768211456 * h2) % p130 % 340282366920938463463374607431768211456) ∧ a < 18446744073709551616 ∧ b < 18446744073709551616 ∧ (c3 = 0 ∨ c3 = 1) := by
 have key : ∀ x y z : Nat, x < 340282366920938463463374607431768211456 → x + 340282366920938463463374607431768211456 * z = y → x % 340282366920938463463374607431768211456 = y % 340282366920938463463374607431768211456 := by
  intro x y z _ h
  rw [← h, Nat.add_mul_mod_self_left]
 have ha1 : (h0 < 18446744073709551611 ∧ c1 = 1 ∧ a = h0 + 5) ∨ (18446744073709551611 ≤ h0 ∧ c1 = 0 ∧ a + 18446744073709551611 = h0) := by
  split at hc1 <;> omega
 clear ha hc1
 have hb1 : (h1 < 18446744073709551615 + c1 ∧ c2 = 1 ∧ b + c1 = h1 + 1) ∨ (18446744073709551615 + c1 ≤ h1 ∧ c2 = 0 ∧ b + 18446744073709551615 + c1 = h1) := by
  split at hc2 <;> omega
 clear hb hc2
 have hc1 : (h2 < 3 + c2 ∧ c3 = 1) ∨ (3 + c2 ≤ h2 ∧ c3 = 0) := by split at hc3 <;> omega
 clear hc3
 have A : a < 18446744073709551616 := by omega
 have B : b < 18446744073709551616 := by omega
 refine ⟨fun h => ?_, fun h => ?_, A, B, by omega⟩
 ·have hp : h0 + 18446744073709551616 * h1 + 340282366920938463463374607431768211456 * h2 < p130 := by unfold p130; omega
  rw [Nat.mod_eq_of_lt hp]
  exact key _ _ h2 (by omega) (by omega)
 ·have hp : h0 + 18446744073709551616 * h1 + 340282366920938463463374607431768211456 * h2 = a + 18446744073709551616 * b + 340282366920938463463374607431768211456 * (h2 - 3 - c2) + p130 := by unfold p130; omega
  have hl : a + 18446744073709551616 * b + 340282366920938463463374607431768211456 * (h2 - 3 - c2) < p130 := by unfold p130; omega
  rw [hp, Nat.add_mod_right, Nat.mod_eq_of_lt hl]
  exact key _ _ (h2 - 3 - c2) (by omega) (by omega)
end Go.Proofs.YtlbfohpkngmaoaaDoor.Po

namespace Go.Proofs.YtlbfohpkngmaoaaDoor.Po
def vd : List Nat → Nat
 | [] => 0
 | x :: xs => x + 256 * vd xs
theorem vd_append (a b : List Nat) : vd (a ++ b) = vd a + 256 ^ a.length * vd b := by
 induction a with
 | nil => simp [vd]
 | cons x a ih => simp only [List.cons_append, vd, ih, List.length_cons, Nat.pow_succ]; rw [Nat.mul_add, Nat.mul_comm (256 ^ a.length) 256, Nat.mul_assoc, Nat.add_assoc]
theorem vd_lt {a : List Nat} (h : ∀ x ∈ a, x < 256) : vd a < 256 ^ a.length := by
 induction a with
 | nil => simp [vd]
 | cons x a ih =>
  have h1 := h x (by simp)
  have h2 := ih (fun y hy => h y (by simp [hy]))
  simp only [vd, List.length_cons, Nat.pow_succ]
  omega
theorem vd_zeros (n : Nat) : vd (List.replicate n 0) = 0 := by
 induction n with
 | zero => rfl
 | succ n ih => simp [List.replicate_succ, vd, ih]
theorem getD_take {α : Type} (l : List α) (d : α) {i : Nat} (h : i < l.length) : l.take (i + 1) = l.take i ++ [l.getD i d] := by
 rw [List.take_add_one, List.getElem?_eq_getElem h]; simp [List.getD, List.getElem?_eq_getElem h]
theorem vd_take_succ (a : List Nat) {i : Nat} (h : i < a.length) : vd (a.take (i + 1)) = vd (a.take i) + 256 ^ i * a.getD i 0 := by
 rw [getD_take a 0 h, vd_append, List.length_take, Nat.min_eq_left (by omega)]; simp [vd]
def dg (n : Nat) : Nat → List Nat
 | 0 => []
 | k + 1 => n % 256 :: dg (n / 256) k
theorem dg_vd (a : List Nat) (h : ∀ x ∈ a, x < 256) : dg (vd a) a.length = a := by
 induction a with
 | nil => rfl
 | cons x a ih =>
  have h1 := h x (by simp)
  rw [List.length_cons, dg, vd, show (x + 256 * vd a) % 256 = x by omega, show (x + 256 * vd a) / 256 = vd a by omega, ih (fun y hy => h y (by simp [hy]))]
theorem dg_get (n k i : Nat) (h : i < k) : (dg n k).getD i 0 = n / 256 ^ i % 256 := by
 induction k generalizing n i with
 | zero => omega
 | succ k ih =>
  cases i with
  | zero => simp [dg]
  | succ i => rw [dg, List.getD_cons_succ, ih _ _ (by omega), Nat.div_div_eq_div_mul, Nat.pow_succ, Nat.mul_comm]
def vb (l : List Int) : Nat := vd (l.map Int.toNat)
theorem vb_append (a b : List Int) : vb (a ++ b) = vb a + 256 ^ a.length * vb b := by simp [vb, vd_append]
theorem nat_lt {l : List Int} (h : ∀ x ∈ l, 0 ≤ x ∧ x ≤ 255) : ∀ x ∈ l.map Int.toNat, x < 256 := by
 intro x hx
 obtain ⟨y, hy, rfl⟩ := List.mem_map.1 hx
 have := h y hy
 omega
theorem vb_lt {l : List Int} (h : ∀ x ∈ l, 0 ≤ x ∧ x ≤ 255) : vb l < 256 ^ l.length := by
 have := vd_lt (nat_lt h)
 simpa [vb] using this
theorem vb_zeros (n : Nat) : vb (List.replicate n 0) = 0 := by simp [vb, vd_zeros]
def pblk (t : List Int) (i : Nat) : Nat := vb ((t.drop (16 * i)).take 16 ++ [1])
def pacc (r : Nat) (t : List Int) : Nat → Nat
 | 0 => 0
 | n + 1 => (pacc r t n + pblk t n) * r % p130
theorem p130_pos : 0 < p130 := by unfold p130; omega
theorem pacc_lt (r : Nat) (t : List Int) (n : Nat) : pacc r t n < p130 := by
 cases n with
 | zero => exact p130_pos
 | succ n => exact Nat.mod_lt _ p130_pos
theorem pblk_append (t u : List Int) (i : Nat) (h : 16 * (i + 1) ≤ t.length) : pblk (t ++ u) i = pblk t i := by
 unfold pblk
 rw [List.drop_append_of_le_length (by omega), List.take_append_of_le_length (by rw [List.length_drop]; omega)]
theorem pacc_append (r : Nat) (t u : List Int) (n : Nat) (h : 16 * n ≤ t.length) : pacc r (t ++ u) n = pacc r t n := by
 induction n with
 | zero => rfl
 | succ n ih => rw [pacc, pacc, ih (by omega), pblk_append _ _ _ (by omega)]
end Go.Proofs.YtlbfohpkngmaoaaDoor.Po

namespace Go.Proofs.YtlbfohpkngmaoaaDoor.Po.O
open Go.RowKit
def le (x : Nat → Nat) : Nat → Nat
 | 0 => 0
 | k + 1 => le x k + x k * 2 ^ (8 * k)
theorem le_lt (x : Nat → Nat) (hx : ∀ j, x j < 256) : ∀ k, le x k < 2 ^ (8 * k)
 | 0 => by simp [le]
 | k + 1 => by
  have h := le_lt x hx k
  have e : 2 ^ (8 * (k + 1)) = 256 * 2 ^ (8 * k) := by rw [Nat.mul_add, Nat.pow_add, Nat.mul_comm]
  rw [e, le]
  have h2 : x k * 2 ^ (8 * k) ≤ 255 * 2 ^ (8 * k) := Nat.mul_le_mul_right _ (by have := hx k; omega)
  omega
theorem or_le (x : Nat → Nat) (hx : ∀ j, x j < 256) (k : Nat) : le x k ||| x k * 2 ^ (8 * k) = le x (k + 1) := by
 have h := Nat.two_pow_add_eq_or_of_lt (le_lt x hx k) (x k)
 rw [Nat.or_comm, Nat.mul_comm, ← h, le, Nat.mul_comm, Nat.add_comm]
theorem run_idx (a : Act) (o : Oper) (w : World) (T : TypeId) (hT : T = 24) (x i : Operand) (g off n c k : Nat) (ho : o.op = .indexAddr T x i) (hx : a.eval x = .slice (some ⟨g, off, none⟩) n c) (hi : a.eval i = .int .i64 (k : Int)) (hk : k < n) (hn : n ≤ maxLen) : (execOp a.eval o).run Tryd.prog w = .ok (.value (.pointer (some ⟨g, off + k, none⟩))) w := by
 subst hT
 unfold maxLen at hn
 have j0 : (0 : Int) ≤ (k : Int) := by omega
 have j6 : (k : Int) < (n : Int) := by omega
 unfold execOp
 simp only [ho, hx, hi]
 go_simp
theorem run_load_one (a : Act) (o : Oper) (w : World) (ty : TypeId) (x : Operand) (v : Value) (ho : o.op = .load ty x) (b off : Nat) (hx : a.eval x = .pointer (some ⟨b, off, none⟩)) (hc : w.cell? ⟨b, off, none⟩ = some v) (hagg : (isAgg ty).run Tryd.prog w = .ok false w) : (execOp a.eval o).run Tryd.prog w = .ok (.value v) w := by
 unfold execOp
 simp only [ho, hx]
 go_simp
theorem run_mul8 (a : Act) (o : Oper) (w : World) (x : Operand) (k : Nat) (ho : o.op = .binOp .mul 3 (.const (.int .i64 8)) x 3) (hx : a.eval x = .int .i64 (k : Int)) (hk : k < 8) : (execOp a.eval o).run Tryd.prog w = .ok (.value (.int .i64 ((8 * k : Nat) : Int))) w := by
 have hc : a.eval (.const (.int .i64 8)) = .int .i64 8 := rfl
 unfold execOp
 simp only [ho, hx, hc]
 rcases (show k = 0 ∨ k = 1 ∨ k = 2 ∨ k = 3 ∨ k = 4 ∨ k = 5 ∨ k = 6 ∨ k = 7 by omega) with rfl | rfl | rfl | rfl | rfl | rfl | rfl | rfl <;> go_simp <;> exact IntWalk.i64_in _ (by omega)
theorem run_shl (a : Act) (o : Oper) (w : World) (x y : Operand) (k b : Nat) (ho : o.op = .binOp .shl 82 x y 3) (hx : a.eval x = .int .u64 (b : Int)) (hy : a.eval y = .int .i64 ((8 * k : Nat) : Int)) (hk : k < 8) (hb : b < 256) : (execOp a.eval o).run Tryd.prog w = .ok (.value (.int .u64 ((b * 2 ^ (8 * k) : Nat) : Int))) w := by
 have b0 : (0 : Int) ≤ (b : Int) := by omega
 have b1 : (b : Int) < 256 := by omega
 unfold execOp
 simp only [ho, hx, hy]
 rcases (show k = 0 ∨ k = 1 ∨ k = 2 ∨ k = 3 ∨ k = 4 ∨ k = 5 ∨ k = 6 ∨ k = 7 by omega) with rfl | rfl | rfl | rfl | rfl | rfl | rfl | rfl
 all_goals go_simp
 all_goals (rw [IntKind.wrap_u64]; omega)
theorem run_or (a : Act) (o : Oper) (w : World) (x y : Operand) (p q : Nat) (ho : o.op = .binOp .or 82 x y 82) (hx : a.eval x = .int .u64 (p : Int)) (hy : a.eval y = .int .u64 (q : Int)) (hp : p < 18446744073709551616) (hq : q < 18446744073709551616) : (execOp a.eval o).run Tryd.prog w = .ok (.value (.int .u64 ((p ||| q : Nat) : Int))) w := by
 unfold execOp
 simp only [ho, hx, hy]
 go_simp
 exact u64_or_nat p q hp hq
theorem run_conv (a : Act) (o : Oper) (w : World) (x : Operand) (b : Nat) (ho : o.op = .convert 5 82 x) (hx : a.eval x = .int .u8 (b : Int)) (hb : b < 256) : (execOp a.eval o).run Tryd.prog w = .ok (.value (.int .u64 (b : Int))) w := by
 have b0 : (0 : Int) ≤ (b : Int) := by omega
 have b1 : (b : Int) < 256 := by omega
 unfold execOp
 simp only [ho, hx]
 go_simp
 try (rw [IntKind.wrap_u64]; omega)
theorem pow8 (k : Nat) (h : k ≤ 8) : 2 ^ (8 * k) ≤ 18446744073709551616 := by
 rcases (show k = 0 ∨ k = 1 ∨ k = 2 ∨ k = 3 ∨ k = 4 ∨ k = 5 ∨ k = 6 ∨ k = 7 ∨ k = 8 by omega) with rfl | rfl | rfl | rfl | rfl | rfl | rfl | rfl | rfl <;> decide
theorem le_64 (x : Nat → Nat) (hx : ∀ j, x j < 256) (k : Nat) (h : k ≤ 8) : le x k < 18446744073709551616 := Nat.lt_of_lt_of_le (le_lt x hx k) (pow8 k h)
set_option maxHeartbeats 1000000 in
theorem number_any (w : World) (g off n c : Nat) (x : Nat → Nat) (hx : ∀ j, x j < 256) (h8 : 8 ≤ n) (hn : n ≤ maxLen) (hc : ∀ j, j < 8 → w.cell? ⟨g, off + j, none⟩ = some (.int .u8 (x j : Nat))) :
  Calls Tryd.prog 34 #[.slice (some ⟨g, off, none⟩) n c] w fun e w' => e = .returned (.int .u64 (le x 8 : Nat)) ∧ w = w' := by
 have HX := Lib.hid hc
 have HB := Lib.hid hx
 have HN := Lib.hid hn
 have H8 := Lib.hid h8
 clear hc hx hn h8
 go_enter Tryd.func34, Tryd.ntmps34
 go_wp2
 go_loopw [3, 5] (fun s3 s5 wr => ∃ k : Nat, k ≤ 8 ∧ s5 = .int .i64 k ∧ s3 = .int .u64 (le x k : Nat) ∧ Hid (wr = w)) (fun _ s5 _ => 8 - (intOf s5).toNat)
 case atStart => exact ⟨0, by omega, rfl, rfl, Lib.hid rfl⟩
 case round =>
  obtain ⟨k, hk, rfl, rfl, EW⟩ := hrel
  have ew := EW.out
  subst ew
  clear EW
  by_cases hlt : k < 8
  ·have HK := Lib.hid hlt
   have HKN : Hid (k < n) := Lib.hid (by have := H8.out; omega)
   have HL : Hid (le x k < 18446744073709551616) := Lib.hid (le_64 x HB.out k (by omega))
   have HM : Hid (x k * 2 ^ (8 * k) < 18446744073709551616) := Lib.hid (by
    have h1 := le_64 x HB.out (k + 1) (by omega)
    rw [le] at h1; omega)
   have k0 : (0 : Int) ≤ (k : Int) := by omega
   have k8 : (k : Int) < 8 := by omega
   clear hk hlt
   go_upto_region 5 with (fail)
   refine wp_region_lit ?_
   refine zP (.int .u64 (le x k : Nat)) ?_
   refine zP (.slice (some ⟨g, off, none⟩) n c) ?_
   refine zP (.int .i64 (k : Int)) ?_
   refine zQ (.pointer (some ⟨g, off + k, none⟩)) (run_idx _ _ _ 24 rfl _ _ g off n c k rfl rfl rfl HKN.out HN.out) ?_
   refine zQ (.int .u8 (x k : Nat)) (run_load_one _ _ _ 5 _ _ rfl g (off + k) rfl (HX.out k HK.out) (by kernel_rfl)) ?_
   refine zQ (.int .u64 (x k : Nat)) (run_conv _ _ _ _ (x k) rfl rfl (HB.out k)) ?_
   refine zP (.int .i64 (k : Int)) ?_
   refine zQ (.int .i64 ((8 * k : Nat) : Int)) (run_mul8 _ _ _ _ k rfl rfl HK.out) ?_
   refine zQ (.int .u64 ((x k * 2 ^ (8 * k) : Nat) : Int)) (run_shl _ _ _ _ _ k (x k) rfl rfl rfl HK.out (HB.out k)) ?_
   refine zQ (.int .u64 ((le x k ||| x k * 2 ^ (8 * k) : Nat) : Int)) (run_or _ _ _ _ _ (le x k) (x k * 2 ^ (8 * k)) rfl rfl rfl HL.out HM.out) ?_
   rw [or_le x HB.out k]
   go_wp2_with fail
   go_roundw
   case rel => exact ⟨k + 1, by have := HK.out; omega, by go_num, rfl, Lib.hid trivial⟩
   case measure => simp [intOf]; omega
  ·obtain rfl : k = 8 := by omega
   clear hk hlt
   go_wp2
   go_ret
   exact ⟨rfl, rfl⟩
end Go.Proofs.YtlbfohpkngmaoaaDoor.Po.O

namespace Go.Proofs.YtlbfohpkngmaoaaDoor.Po.O
open Go.RowKit
def Blk (w : World) (g : Nat) (t : TypeId) (cs : Array Value) : Prop := w.heap[g]? = some (.cells cs t (0, 0))
theorem Blk.cell {w : World} {g t : Nat} {cs : Array Value} (h : Blk w g t cs) (j : Nat) : w.cell? ⟨g, j, none⟩ = cs[j]? := cell_of_row w _ _ _ _ _ h
theorem Blk.free {w : World} {g t : Nat} {cs : Array Value} (h : Blk w g t cs) (j : Nat) : w.frozen? ⟨g, j, none⟩ = false := frozen_of_row w g j cs t h
theorem Blk.lt {w : World} {g t : Nat} {cs : Array Value} (h : Blk w g t cs) : g < w.heap.size := by
 rcases Nat.lt_or_ge g w.heap.size with h1 | h1
 ·exact h1
 ·unfold Blk at h; rw [Array.getElem?_eq_none h1] at h; cases h
theorem Blk.alloc {w : World} {g t : Nat} {cs : Array Value} (h : Blk w g t cs) (o : Obj) : Blk (w.alloc o) g t cs := (Below.heap_alloc w o g h.lt).trans h
theorem Blk.new (w : World) (t : TypeId) (cs : Array Value) : Blk (w.alloc (.cells cs t)) w.heap.size t cs := heap_alloc_new w _
theorem Blk.new' (w : World) (t : TypeId) (cs : Array Value) (n : Nat) (hn : n = w.heap.size) : Blk (w.alloc (.cells cs t)) n t cs := by rw [hn]; exact heap_alloc_new w _
theorem Blk.keep {w w1 : World} {B g t : Nat} {cs : Array Value} (h : Blk w g t cs) (hb : Below B w w1) (hg : g < B) : Blk w1 g t cs := (hb.block _ hg).trans h
theorem Blk.set {w : World} {g t : Nat} {l : List Value} (h : Blk w g t l.toArray) (o : Nat) (v : Value) : Blk (w.setCell ⟨g, o, none⟩ v) g t (l.set o v).toArray := by
 have e := heap_setCell_same w g o l.toArray t v h
 simpa [Blk] using e
theorem range_blk {w : World} {g t : Nat} {l : List Value} (h : Blk w g t l.toArray) : w.rangeAt g 0 l := by
 intro j v hj
 rw [Nat.zero_add, h.cell]
 simpa using hj
theorem below_setRow {B : Nat} {a w : World} (h : Below B a w) {g : Nat} (hg : B ≤ g) (cs : Array Value) : Below B a (w.setRow g cs) :=
 ⟨h.os, h.tape, h.output, by simpa using h.size, fun k hk => (setRow_other _ _ _ _ (by omega)).trans (h.block k hk)⟩
def by8 (n k : Nat) : Nat := n / 2 ^ (8 * k) % 256
def outb (a b k : Nat) : List Value := (List.range 16).map fun i => .int .u8 (((if i < 8 then (if i < k then by8 a i else 0) else (if i - 8 < k then by8 b (i - 8) else 0)) : Nat) : Int)
theorem outb_len (a b k : Nat) : (outb a b k).length = 16 := by simp [outb]
theorem outb_next (a b k : Nat) (hk : k < 8) : ((outb a b k).set k (.int .u8 (by8 a k : Nat))).set (8 + k) (.int .u8 (by8 b k : Nat)) = outb a b (k + 1) := by
 apply List.ext_getElem?
 intro i
 simp only [outb, List.getElem?_set, List.length_set, List.length_map, List.length_range, List.getElem?_map]
 by_cases hi : i < 16
 ·rw [List.getElem?_range hi]
  by_cases h1 : 8 + k = i
  ·subst h1
   have e1 : ¬ 8 + k < 8 := by omega
   have e2 : 8 + k - 8 = k := by omega
   simp [e1, e2]; omega
  ·by_cases h2 : k = i
   ·subst h2
    simp [h1, hk]; omega
   ·simp only [h1, h2, if_false, Option.map_some]
    by_cases h3 : i < 8
    ·have e1 : (i < k + 1) = (i < k) := by simp; omega
     simp [h3, e1]
    ·have e1 : (i - 8 < k + 1) = (i - 8 < k) := by simp; omega
     simp [h3, e1]
 ·have e1 : 8 + k ≠ i := by omega
  have e2 : k ≠ i := by omega
  simp only [e1, e2, if_false]
  rw [List.getElem?_eq_none (by simp; omega)]
  rfl
theorem outb_cell (a b k i : Nat) (hi : i < 16) : ∃ v, (outb a b k)[i]? = some v := by
 simp [outb, List.getElem?_range hi]
theorem run_shr (a : Act) (o : Oper) (w : World) (x y : Operand) (k b : Nat) (ho : o.op = .binOp .shr 82 x y 3) (hx : a.eval x = .int .u64 (b : Int)) (hy : a.eval y = .int .i64 ((8 * k : Nat) : Int)) (hk : k < 8) (hb : b < 18446744073709551616) : (execOp a.eval o).run Tryd.prog w = .ok (.value (.int .u64 ((b / 2 ^ (8 * k) : Nat) : Int))) w := by
 have b0 : (0 : Int) ≤ (b : Int) := by omega
 have b1 : (b : Int) < 18446744073709551616 := by omega
 unfold execOp
 simp only [ho, hx, hy]
 rcases (show k = 0 ∨ k = 1 ∨ k = 2 ∨ k = 3 ∨ k = 4 ∨ k = 5 ∨ k = 6 ∨ k = 7 by omega) with rfl | rfl | rfl | rfl | rfl | rfl | rfl | rfl
 all_goals go_simp
 all_goals (first | done | (rw [IntKind.wrap_u64]; omega) | omega)
theorem run_conv8 (a : Act) (o : Oper) (w : World) (x : Operand) (b : Nat) (ho : o.op = .convert 82 5 x) (hx : a.eval x = .int .u64 (b : Int)) : (execOp a.eval o).run Tryd.prog w = .ok (.value (.int .u8 ((b % 256 : Nat) : Int))) w := by
 unfold execOp
 simp only [ho, hx]
 go_simp
 rw [IntKind.wrap_u8]
theorem run_add8 (a : Act) (o : Oper) (w : World) (x : Operand) (k : Nat) (ho : o.op = .binOp .add 3 (.const (.int .i64 8)) x 3) (hx : a.eval x = .int .i64 (k : Int)) (hk : k < 8) : (execOp a.eval o).run Tryd.prog w = .ok (.value (.int .i64 ((8 + k : Nat) : Int))) w := by
 have hc : a.eval (.const (.int .i64 8)) = .int .i64 8 := rfl
 unfold execOp
 simp only [ho, hx, hc]
 rcases (show k = 0 ∨ k = 1 ∨ k = 2 ∨ k = 3 ∨ k = 4 ∨ k = 5 ∨ k = 6 ∨ k = 7 by omega) with rfl | rfl | rfl | rfl | rfl | rfl | rfl | rfl <;> go_simp <;> exact IntWalk.i64_in _ (by omega)
theorem run_idxa (a : Act) (o : Oper) (w : World) (x i : Operand) (g off k : Nat) (ho : o.op = .indexAddr 39 x i) (hx : a.eval x = .pointer (some ⟨g, off, none⟩)) (hi : a.eval i = .int .i64 (k : Int)) (hk : k < 16) : (execOp a.eval o).run Tryd.prog w = .ok (.value (.pointer (some ⟨g, off + k, none⟩))) w := by
 have j0 : (0 : Int) ≤ (k : Int) := by omega
 have j6 : (k : Int) < 16 := by omega
 unfold execOp
 simp only [ho, hx, hi]
 go_simp
end Go.Proofs.YtlbfohpkngmaoaaDoor.Po.O

