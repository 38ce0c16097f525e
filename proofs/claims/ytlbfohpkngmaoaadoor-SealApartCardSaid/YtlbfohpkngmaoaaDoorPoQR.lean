/- The reference's reckoning by digits. -/
import Derived.Test.YtlbfohpkngmaoaaDoorPoA
namespace Go.Proofs.YtlbfohpkngmaoaaDoor.Po
theorem take_succ_getD (a : List Nat) (i : Nat) : vd (a.take (i + 1)) = vd (a.take i) + 256 ^ i * a.getD i 0 := by
 by_cases h : i < a.length
 ·exact vd_take_succ a h
 ·rw [List.take_of_length_le (by omega), List.take_of_length_le (by omega), List.getD, List.getElem?_eq_none (by omega)]
  simp
theorem getD_lt {a : List Nat} (h : ∀ x ∈ a, x < 256) (i : Nat) : a.getD i 0 < 256 := by
 by_cases hi : i < a.length
 ·rw [List.getD, List.getElem?_eq_getElem hi]; exact h _ (List.getElem_mem hi)
 ·rw [List.getD, List.getElem?_eq_none (by omega)]; simp
theorem add_step {a b zs : List Nat} {i c s : Nat} (hz : zs.length = i) (he : vd zs + 256 ^ i * c = vd (a.take i) + vd (b.take i)) (hs : c + a.getD i 0 + b.getD i 0 = s) :
  vd (zs ++ [s % 256]) + 256 ^ (i + 1) * (s / 256) = vd (a.take (i + 1)) + vd (b.take (i + 1)) := by
 rw [vd_append, take_succ_getD, take_succ_getD, hz]
 have e1 : 256 ^ (i + 1) * (s / 256) = 256 ^ i * (256 * (s / 256)) := by rw [Nat.pow_succ, Nat.mul_assoc]
 have e2 : 256 ^ i * (s % 256) + 256 ^ i * (256 * (s / 256)) = 256 ^ i * s := by rw [← Nat.mul_add]; congr 1; omega
 have e3 : 256 ^ i * s = 256 ^ i * c + 256 ^ i * a.getD i 0 + 256 ^ i * b.getD i 0 := by rw [← hs, Nat.mul_add, Nat.mul_add]
 simp only [vd, Nat.mul_zero, Nat.add_zero]
 omega
theorem vd_set (a : List Nat) (j p : Nat) (h : j < a.length) : vd (a.set j (a.getD j 0 + p)) = vd a + 256 ^ j * p := by
 induction a generalizing j with
 | nil => simp at h
 | cons x a ih =>
  cases j with
  | zero => simp [vd]; omega
  | succ j =>
   simp only [List.set_cons_succ, List.getD_cons_succ, vd, ih j (by simpa using h), Nat.pow_succ]
   rw [Nat.mul_add, Nat.mul_comm (256 ^ j) 256, Nat.mul_assoc]
   omega
theorem vd_set_sub (a : List Nat) (j q : Nat) (h : j < a.length) (hq : q ≤ a.getD j 0) : vd (a.set j (a.getD j 0 - q)) + 256 ^ j * q = vd a := by
 have e := vd_set (a.set j (a.getD j 0 - q)) j q (by simpa using h)
 have g : (a.set j (a.getD j 0 - q)).getD j 0 = a.getD j 0 - q := by simp [List.getD, h]
 rw [g, List.set_set, show a.getD j 0 - q + q = a.getD j 0 by omega] at e
 have s : a.set j (a.getD j 0) = a := by
  apply List.ext_getElem (by simp)
  intro k h1 h2
  rw [List.getElem_set]
  split
  ·next hk => subst hk; simp [List.getD, h]
  ·rfl
 rw [s] at e
 exact e.symm
def Lim (B : Nat) (a : List Nat) : Prop := ∀ j, a.getD j 0 ≤ B
theorem Lim.set {B B' x j : Nat} {a : List Nat} (h : Lim B a) (hB : B ≤ B') (hx : x ≤ B') : Lim B' (a.set j x) := by
 intro k
 have hk := h k
 by_cases e : j = k
 ·subst e
  by_cases hj : j < a.length
  ·simp [List.getD, hj]; omega
  ·rw [List.getD, List.getElem?_eq_none (by simp; omega)]; simp
 ·have : (a.set j x).getD k 0 = a.getD k 0 := by simp [List.getD, e]
  omega
theorem getD_set_self {a : List Nat} {j x : Nat} (h : j < a.length) : (a.set j x).getD j 0 = x := by simp [List.getD, h]
theorem getD_set_ne {a : List Nat} {j k x : Nat} (h : j ≠ k) : (a.set j x).getD k 0 = a.getD k 0 := by simp [List.getD, h]
theorem vd_ge (a : List Nat) (j : Nat) : 256 ^ j * a.getD j 0 ≤ vd a := by
 induction a generalizing j with
 | nil => simp [List.getD]
 | cons x a ih =>
  cases j with
  | zero => simp [vd]
  | succ j =>
   have := ih j
   simp only [List.getD_cons_succ, vd, Nat.pow_succ]
   rw [Nat.mul_comm (256 ^ j) 256, Nat.mul_assoc]
   omega
theorem mul_step {a b os : List Nat} {i k : Nat} (hl : os.length = a.length + b.length + 1) (hi : i < a.length) (hk : k < b.length) (he : vd os = vd (a.take i) * vd b + 256 ^ i * a.getD i 0 * vd (b.take k)) :
  vd (os.set (i + k) (os.getD (i + k) 0 + a.getD i 0 * b.getD k 0)) = vd (a.take i) * vd b + 256 ^ i * a.getD i 0 * vd (b.take (k + 1)) := by
 rw [vd_set _ _ _ (by omega), he, take_succ_getD b k, Nat.mul_add, Nat.pow_add]
 have e : 256 ^ i * 256 ^ k * (a.getD i 0 * b.getD k 0) = 256 ^ i * a.getD i 0 * (256 ^ k * b.getD k 0) := by
  rw [Nat.mul_assoc, Nat.mul_assoc, Nat.mul_left_comm (256 ^ k)]
 omega
theorem mul_row {a b os : List Nat} {i : Nat} (he : vd os = vd (a.take i) * vd b + 256 ^ i * a.getD i 0 * vd (b.take b.length)) : vd os = vd (a.take (i + 1)) * vd b := by
 rw [he, List.take_length, take_succ_getD a i, Nat.add_mul]
theorem carry_out {os : List Nat} {i : Nat} (h : i + 1 < os.length) :
  vd ((os.set (i + 1) (os.getD (i + 1) 0 + os.getD i 0 / 256)).set i (os.getD i 0 % 256)) = vd os := by
 have e1 := vd_set os (i + 1) (os.getD i 0 / 256) h
 have e2 := vd_set_sub (os.set (i + 1) (os.getD (i + 1) 0 + os.getD i 0 / 256)) i (256 * (os.getD i 0 / 256)) (by simp; omega) (by rw [getD_set_ne (by omega)]; omega)
 rw [getD_set_ne (by omega), show os.getD i 0 - 256 * (os.getD i 0 / 256) = os.getD i 0 % 256 by omega] at e2
 have e3 : 256 ^ (i + 1) * (os.getD i 0 / 256) = 256 ^ i * (256 * (os.getD i 0 / 256)) := by rw [Nat.pow_succ, Nat.mul_assoc]
 omega
theorem mul_last {a b os : List Nat} (ha : ∀ x ∈ a, x < 256) (hb : ∀ x ∈ b, x < 256) (he : vd os = vd a * vd b) : os.getD (a.length + b.length) 0 = 0 := by
 have h := vd_ge os (a.length + b.length)
 have h1 : vd a * vd b < 256 ^ (a.length + b.length) := by
  rw [Nat.pow_add]
  exact Nat.mul_lt_mul'' (vd_lt ha) (vd_lt hb)
 rcases Nat.eq_zero_or_pos (os.getD (a.length + b.length) 0) with h0 | h0
 ·exact h0
 ·have : 256 ^ (a.length + b.length) * 1 ≤ 256 ^ (a.length + b.length) * os.getD (a.length + b.length) 0 := Nat.mul_le_mul_left _ h0
  omega
def mst (i : Nat) : Nat := if i = 0 then 250 else if i = 16 then 3 else if 16 < i then 0 else 255
def msts : Nat → Nat
 | 0 => 0
 | i + 1 => msts i + 256 ^ i * mst i
theorem msts_lt : ∀ i, msts i < 256 ^ i
 | 0 => by simp [msts]
 | i + 1 => by
  have h := msts_lt i
  have hm : mst i ≤ 255 := by unfold mst; split <;> (try split) <;> (try split) <;> omega
  have : 256 ^ i * mst i ≤ 256 ^ i * 255 := Nat.mul_le_mul_left _ hm
  rw [msts, Nat.pow_succ]
  omega
theorem msts_17 : ∀ k, msts (17 + k) = 1361129467683753853853498429727072845818
 | 0 => by decide
 | k + 1 => by
  rw [show 17 + (k + 1) = (17 + k) + 1 by omega, msts, msts_17 k]
  have : mst (17 + k) = 0 := by unfold mst; rw [if_neg (by omega), if_neg (by omega), if_pos (by omega)]
  rw [this, Nat.mul_zero, Nat.add_zero]
theorem less_step {a : List Nat} (ha : ∀ x ∈ a, x < 256) {i x m : Nat} (hx : a.getD i 0 = x) (hm : mst i = m) : vd (a.take (i + 1)) ≤ msts (i + 1) ↔ x < m ∨ (x = m ∧ vd (a.take i) ≤ msts i) := by
 rw [take_succ_getD, msts, hx, hm]
 have h1 : vd (a.take i) < 256 ^ i := Nat.lt_of_lt_of_le (vd_lt (fun x hx => ha x (List.mem_of_mem_take hx))) (Nat.pow_le_pow_right (by omega) (by rw [List.length_take]; omega))
 have h2 := msts_lt i
 constructor
 ·intro h
  rcases Nat.lt_trichotomy x m with h3 | h3 | h3
  ·exact .inl h3
  ·exact .inr ⟨h3, by subst h3; omega⟩
  ·exfalso
   have : 256 ^ i * (m + 1) ≤ 256 ^ i * x := Nat.mul_le_mul_left _ h3
   rw [Nat.mul_add] at this
   omega
 ·rintro (h | ⟨rfl, h⟩)
  ·have : 256 ^ i * (x + 1) ≤ 256 ^ i * m := Nat.mul_le_mul_left _ h
   rw [Nat.mul_add] at this
   omega
  ·omega
theorem less_end {a : List Nat} (hl : 17 ≤ a.length) : vd (a.take a.length) ≤ msts a.length ↔ vd a < p130 := by
 obtain ⟨k, hk⟩ : ∃ k, a.length = 17 + k := ⟨a.length - 17, by omega⟩
 rw [List.take_length, hk, msts_17]
 unfold p130
 omega
def shr2 : List Nat → List Nat
 | [] => []
 | x :: xs => (x / 4 + xs.headD 0 % 4 * 64) :: shr2 xs
theorem shr2_len (l : List Nat) : (shr2 l).length = l.length := by
 induction l with
 | nil => rfl
 | cons x l ih => simp [shr2, ih]
theorem shr2_lt {l : List Nat} (h : ∀ x ∈ l, x < 256) : ∀ x ∈ shr2 l, x < 256 := by
 induction l with
 | nil => simp [shr2]
 | cons x l ih =>
  intro y hy
  rcases List.mem_cons.1 hy with rfl | hy
  ·have := h x (by simp); omega
  ·exact ih (fun z hz => h z (by simp [hz])) y hy
theorem shr2_get (l : List Nat) (j : Nat) (h : j < l.length) : (shr2 l).getD j 0 = l.getD j 0 / 4 + l.getD (j + 1) 0 % 4 * 64 := by
 induction l generalizing j with
 | nil => simp at h
 | cons x l ih =>
  cases j with
  | zero => cases l <;> simp [shr2]
  | succ j => simp only [shr2, List.getD_cons_succ]; exact ih j (by simpa using h)
theorem vd_head (l : List Nat) : vd l % 4 = l.headD 0 % 4 := by
 cases l with
 | nil => rfl
 | cons x l => simp only [vd, List.headD_cons]; omega
theorem vd_shr2 (l : List Nat) : vd (shr2 l) = vd l / 4 := by
 induction l with
 | nil => rfl
 | cons x l ih =>
  have := vd_head l
  simp only [shr2, vd, ih]
  omega
def lowL (x : List Nat) : List Nat := x.take 16 ++ [x.getD 16 0 % 4]
theorem lowL_len {x : List Nat} (h : 17 ≤ x.length) : (lowL x).length = 17 := by simp [lowL]; omega
theorem lowL_lt {x : List Nat} (h : ∀ y ∈ x, y < 256) : ∀ y ∈ lowL x, y < 256 := by
 intro y hy
 rcases List.mem_append.1 hy with hy | hy
 ·exact h y (List.mem_of_mem_take hy)
 ·simp at hy; omega
theorem vd_lowL {x : List Nat} (h : ∀ y ∈ x, y < 256) (hl : 17 ≤ x.length) : vd (lowL x) = vd x % 1361129467683753853853498429727072845824 := by
 unfold lowL
 have e : vd x = vd (x.take 16) + 340282366920938463463374607431768211456 * vd (x.drop 16) := by
  conv => lhs; rw [← List.take_append_drop 16 x, vd_append]
  rw [List.length_take, Nat.min_eq_left (by omega), show 256 ^ 16 = 340282366920938463463374607431768211456 by decide]
 have h1 := vd_lt (a := x.take 16) (fun y hy => h y (List.mem_of_mem_take hy))
 rw [List.length_take, Nat.min_eq_left (by omega), show 256 ^ 16 = 340282366920938463463374607431768211456 by decide] at h1
 have h2 := vd_head (x.drop 16)
 have h3 : (x.drop 16).headD 0 = x.getD 16 0 := by
  cases hd : x.drop 16 with
  | nil => have := congrArg List.length hd; simp at this; omega
  | cons y ys =>
   have : (x.drop 16)[0]? = x[16]? := by simp
   rw [hd] at this
   simp [List.getD, ← this]
 rw [h3] at h2
 rw [vd_append, List.length_take, Nat.min_eq_left (by omega), show 256 ^ 16 = 340282366920938463463374607431768211456 by decide]
 simp only [vd]
 omega
theorem vd_high {x : List Nat} (h : ∀ y ∈ x, y < 256) (hl : 17 ≤ x.length) : vd (shr2 (x.drop 16)) = vd x / 1361129467683753853853498429727072845824 := by
 have e : vd x = vd (x.take 16) + 340282366920938463463374607431768211456 * vd (x.drop 16) := by
  conv => lhs; rw [← List.take_append_drop 16 x, vd_append]
  rw [List.length_take, Nat.min_eq_left (by omega), show 256 ^ 16 = 340282366920938463463374607431768211456 by decide]
 have h1 := vd_lt (a := x.take 16) (fun y hy => h y (List.mem_of_mem_take hy))
 rw [List.length_take, Nat.min_eq_left (by omega), show 256 ^ 16 = 340282366920938463463374607431768211456 by decide] at h1
 rw [vd_shr2]
 omega
def foldN (v : Nat) : Nat := v % 1361129467683753853853498429727072845824 + 5 * (v / 1361129467683753853853498429727072845824)
def foldK (v : Nat) : Nat → Nat
 | 0 => v
 | k + 1 => foldN (foldK v k)
theorem foldN_mod (v : Nat) : foldN v % p130 = v % p130 := by
 have e : foldN v + (v / 1361129467683753853853498429727072845824) * p130 = v := by unfold foldN p130; omega
 rw [← e, Nat.add_mul_mod_self_right, e]
theorem foldK_mod (v k : Nat) : foldK v k % p130 = v % p130 := by
 induction k with
 | zero => rfl
 | succ k ih => rw [foldK, foldN_mod, ih]
theorem foldN_le {v : Nat} (h : v < 57896044618658097711785492504343953926634992332820282019728792003956564819968) : foldN v < 2 * 1361129467683753853853498429727072845824 := by unfold foldN; omega
theorem foldN_le2 {v : Nat} (h : v < 2 * 1361129467683753853853498429727072845824) : foldN v < 1361129467683753853853498429727072845824 + 5 := by unfold foldN; omega
theorem foldN_le3 {v : Nat} (h : v < 1361129467683753853853498429727072845824 + 5) : foldN v < 1361129467683753853853498429727072845824 := by unfold foldN; omega
theorem foldN_le4 {v : Nat} (h : v < 1361129467683753853853498429727072845824) : foldN v = v := by unfold foldN; omega
theorem foldK_lt {v : Nat} (h : v < 57896044618658097711785492504343953926634992332820282019728792003956564819968) : foldK v 8 < 1361129467683753853853498429727072845824 := by
 have h1 := foldN_le h
 have h2 := foldN_le2 h1
 have h3 := foldN_le3 h2
 simp only [foldK]
 rw [foldN_le4 h3, foldN_le4 h3, foldN_le4 h3, foldN_le4 h3, foldN_le4 h3]
 exact h3
theorem fold_end {v : Nat} (h : v < 1361129467683753853853498429727072845824) : (v < p130 → v = v % p130) ∧ (¬ v < p130 → (v + 5) % 1361129467683753853853498429727072845824 = v % p130) := by
 unfold p130
 constructor
 ·intro h1; rw [Nat.mod_eq_of_lt h1]
 ·intro h1; omega
end Go.Proofs.YtlbfohpkngmaoaaDoor.Po
