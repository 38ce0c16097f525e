/- Numbers of bytes, the least first; what Poly1305 comes to. -/
import Derived.Test.YtlbfohpkngmaoaaPoQA
namespace Go.Proofs.Ytlbfohpkngmaoaa.Po
def vd : List Nat → Nat
 | [] => 0
 | x :: xs => x + 256 * vd xs
theorem vd_append (a b : List Nat) : vd (a ++ b) = vd a + 256 ^ a.length * vd b := by
 induction a with
 | nil => simp [vd]
 | cons x a ih => simp only [List.cons_append, vd, ih, List.length_cons, Nat.pow_succ]; rw [Nat.mul_add, Nat.mul_comm (256 ^ a.length) 256, Nat.mul_assoc, Nat.add_assoc]
theorem vd_lt {a : List Nat} (h : ∀ x ∈ a, x < 256) : vd a < 256 ^ a.length := by
 induction a with
 | nil => simp [vd]
 | cons x a ih =>
  have h1 := h x (by simp)
  have h2 := ih (fun y hy => h y (by simp [hy]))
  simp only [vd, List.length_cons, Nat.pow_succ]
  omega
theorem vd_zeros (n : Nat) : vd (List.replicate n 0) = 0 := by
 induction n with
 | zero => rfl
 | succ n ih => simp [List.replicate_succ, vd, ih]
theorem getD_take {α : Type} (l : List α) (d : α) {i : Nat} (h : i < l.length) : l.take (i + 1) = l.take i ++ [l.getD i d] := by
 rw [List.take_add_one, List.getElem?_eq_getElem h]; simp [List.getD, List.getElem?_eq_getElem h]
theorem vd_take_succ (a : List Nat) {i : Nat} (h : i < a.length) : vd (a.take (i + 1)) = vd (a.take i) + 256 ^ i * a.getD i 0 := by
 rw [getD_take a 0 h, vd_append, List.length_take, Nat.min_eq_left (by omega)]; simp [vd]
def dg (n : Nat) : Nat → List Nat
 | 0 => []
 | k + 1 => n % 256 :: dg (n / 256) k
theorem dg_vd (a : List Nat) (h : ∀ x ∈ a, x < 256) : dg (vd a) a.length = a := by
 induction a with
 | nil => rfl
 | cons x a ih =>
  have h1 := h x (by simp)
  rw [List.length_cons, dg, vd, show (x + 256 * vd a) % 256 = x by omega, show (x + 256 * vd a) / 256 = vd a by omega, ih (fun y hy => h y (by simp [hy]))]
theorem dg_get (n k i : Nat) (h : i < k) : (dg n k).getD i 0 = n / 256 ^ i % 256 := by
 induction k generalizing n i with
 | zero => omega
 | succ k ih =>
  cases i with
  | zero => simp [dg]
  | succ i => rw [dg, List.getD_cons_succ, ih _ _ (by omega), Nat.div_div_eq_div_mul, Nat.pow_succ, Nat.mul_comm]
def vb (l : List Int) : Nat := vd (l.map Int.toNat)
theorem vb_append (a b : List Int) : vb (a ++ b) = vb a + 256 ^ a.length * vb b := by simp [vb, vd_append]
theorem nat_lt {l : List Int} (h : ∀ x ∈ l, 0 ≤ x ∧ x ≤ 255) : ∀ x ∈ l.map Int.toNat, x < 256 := by
 intro x hx
 obtain ⟨y, hy, rfl⟩ := List.mem_map.1 hx
 have := h y hy
 omega
theorem vb_lt {l : List Int} (h : ∀ x ∈ l, 0 ≤ x ∧ x ≤ 255) : vb l < 256 ^ l.length := by
 have := vd_lt (nat_lt h)
 simpa [vb] using this
theorem vb_zeros (n : Nat) : vb (List.replicate n 0) = 0 := by simp [vb, vd_zeros]
def pblk (t : List Int) (i : Nat) : Nat := vb ((t.drop (16 * i)).take 16 ++ [1])
def pacc (r : Nat) (t : List Int) : Nat → Nat
 | 0 => 0
 | n + 1 => (pacc r t n + pblk t n) * r % p130
theorem p130_pos : 0 < p130 := by unfold p130; omega
theorem pacc_lt (r : Nat) (t : List Int) (n : Nat) : pacc r t n < p130 := by
 cases n with
 | zero => exact p130_pos
 | succ n => exact Nat.mod_lt _ p130_pos
theorem pblk_append (t u : List Int) (i : Nat) (h : 16 * (i + 1) ≤ t.length) : pblk (t ++ u) i = pblk t i := by
 unfold pblk
 rw [List.drop_append_of_le_length (by omega), List.take_append_of_le_length (by rw [List.length_drop]; omega)]
theorem pacc_append (r : Nat) (t u : List Int) (n : Nat) (h : 16 * n ≤ t.length) : pacc r (t ++ u) n = pacc r t n := by
 induction n with
 | zero => rfl
 | succ n ih => rw [pacc, pacc, ih (by omega), pblk_append _ _ _ (by omega)]
end Go.Proofs.Ytlbfohpkngmaoaa.Po
