import Derived.Test.YthkhlkiemldbaaaKK1
namespace Go.Proofs.Ythkhlkiemldbaaa.K.Ha
open Go Go.RowKit
theorem cmp_eq0 : ∀ (xs : List Int), cmpT xs xs = 0
  | [] => rfl
  | x :: l => by
    have := cmp_eq0 l
    simp only [cmpT, Lib.bytesOf, List.map_cons, Lib.compareBytes] at this ⊢
    simpa using this
theorem cmp_split : ∀ (xs ys : List Int) (k : Nat), (∀ x ∈ xs, 0 ≤ x ∧ x ≤ 255) → (∀ y ∈ ys, 0 ≤ y ∧ y ≤ 255) → k < xs.length → k < ys.length → (∀ j, j < k → xs.getD j 0 = ys.getD j 0) → xs.getD k 0 ≠ ys.getD k 0 → (cmpT xs ys < 0 ↔ xs.getD k 0 < ys.getD k 0)
  | [], _, _, _, _, h, _, _, _ => by simp at h
  | _, [], _, _, _, _, h, _, _ => by simp at h
  | x :: l, y :: m, 0, bx, bY, _, _, _, hn => by
    have h1 := bx x (by simp)
    have h2 := bY y (by simp)
    have hx : x.toNat.toUInt8 < y.toNat.toUInt8 ↔ x < y := by
      rw [UInt8.lt_iff_toNat_lt]
      simp
      omega
    have hy : y.toNat.toUInt8 < x.toNat.toUInt8 ↔ y < x := by
      rw [UInt8.lt_iff_toNat_lt]
      simp
      omega
    simp only [List.getD_cons_zero] at hn ⊢
    simp only [cmpT, Lib.bytesOf, List.map_cons, Lib.compareBytes, hx, hy]
    split
    · simp; assumption
    · split
      · simp; omega
      · omega
  | x :: l, y :: m, k + 1, bx, bY, h1, h2, he, hn => by
    have e : x = y := by simpa using he 0 (by omega)
    subst e
    have ih := cmp_split l m k (fun v hv => bx v (by simp [hv])) (fun v hv => bY v (by simp [hv])) (by simpa using h1) (by simpa using h2) (fun j hj => by simpa using he (j + 1) (by omega)) (by simpa using hn)
    simp only [List.getD_cons_succ]
    rw [← ih]
    simp [cmpT, Lib.bytesOf, Lib.compareBytes]
end Go.Proofs.Ythkhlkiemldbaaa.K.Ha
