/- The blocks, of every key and nonce: the words of the four laws. -/
import Derived.Test.YtlbfohpkngmaoaaDoorChX
import Derived.Test.YtlbfohpkngmaoaaDoorChC8
import Derived.Test.YtlbfohpkngmaoaaDoorChC6
namespace Go.Proofs.YtlbfohpkngmaoaaDoor.Ch.B
open Go Go.RowKit
theorem nat_ub (xs : List Int) (n : Nat) (hl : xs.length = n) (hw : ∀ x ∈ xs, 0 ≤ x ∧ x ≤ 255) : ∃ X : Nat → Nat, (∀ j, X j < 256) ∧ (ub xs).toArray = u8s n X := by
 refine ⟨fun j => (xs.getD j 0).toNat, fun j => ?_, ?_⟩
 ·have h := getD_byte hw j
  show (xs.getD j 0).toNat < 256
  omega
 ·unfold u8s ub
  congr 1
  apply List.ext_getElem?
  intro i
  simp only [List.getElem?_map]
  by_cases hi : i < n
  ·rw [List.getElem?_range hi, List.getElem?_eq_getElem (by omega)]
   have h := getD_byte hw i
   simp only [Option.map_some, Option.some.injEq, Value.int.injEq, true_and]
   rw [List.getD, List.getElem?_eq_getElem (show i < xs.length by omega)] at h ⊢
   simp only [Option.getD_some] at h ⊢
   omega
  ·rw [List.getElem?_eq_none (by omega), List.getElem?_eq_none (by simp; omega)]
   rfl
def asInt (l : List Nat) : List Int := l.map fun (n : Nat) => (n : Int)
theorem u8b_ub (l : List Nat) : u8b l = (ub (asInt l)).toArray := by
 unfold u8b ub asInt
 rw [List.map_map]
 rfl
theorem asInt_ok (L M : List Nat) : (asInt (obs L M 16)).length = 64 ∧ ∀ x ∈ asInt (obs L M 16), 0 ≤ x ∧ x ≤ 255 := by
 refine ⟨by simp [asInt, obs], fun x hx => ?_⟩
 obtain ⟨y, hy, rfl⟩ := List.mem_map.1 hx
 obtain ⟨i, _, rfl⟩ := List.mem_map.1 hy
 have h : ob L M i < 256 := Nat.mod_lt _ (by decide)
 split <;> omega
theorem two_of (xs ys : List Int) (lx : xs.length = 32) (wx : ∀ x ∈ xs, 0 ≤ x ∧ x ≤ 255) (ly : ys.length = 12) (wy : ∀ x ∈ ys, 0 ≤ x ∧ x ≤ 255) : ∃ ks, Two (ub xs) (ub ys) ks := by
 obtain ⟨X, bX, eX⟩ := nat_ub xs 32 lx wx
 obtain ⟨Y, bY, eY⟩ := nat_ub ys 12 ly wy
 refine ⟨?_, fun c hc W => ?_, fun c hc W => ?_, fun c => ?_, by rw [ub_len, lx], by rw [ub_len, ly]⟩
 rotate_left
 ·rw [eX, eY]
  refine (block_any X Y c bX bY hc W).mono ?_
  rw [u8b_ub]
  intro e w' h
  exact h
 ·rw [eX, eY]
  refine (refblock_any X Y c bX bY hc W).mono ?_
  rw [u8b_ub]
  intro e w' h
  exact h
 ·exact asInt_ok _ _
end Go.Proofs.YtlbfohpkngmaoaaDoor.Ch.B
