/- What the laws want; a key whose second half is noughts. -/
import Derived.Test.YtlbfohpkngmaoaaDoorPoQ6
namespace Go.Proofs.YtlbfohpkngmaoaaDoor.Po
open Go Go.RowKit
theorem vd_digit {a : List Nat} (h : ∀ x ∈ a, x < 256) {i : Nat} (hi : i < a.length) : vd a / 256 ^ i % 256 = a.getD i 0 := by
 rw [← dg_get (vd a) a.length i hi, dg_vd a h]
theorem ks_vb {key : List Int} (hk : key.length = 32) : ks key = vb (key.drop 16) := by
 unfold ks
 conv => rhs; rw [← List.take_append_drop 8 (key.drop 16), vb_append, List.drop_drop]
 rw [List.length_take, List.length_drop, hk, List.take_of_length_le (l := key.drop 24) (by rw [List.length_drop]; omega), show 256 ^ min 8 (32 - 16) = 18446744073709551616 by decide]
def carry (a s k : Nat) : Nat := (a % 256 ^ k + s % 256 ^ k) / 256 ^ k
theorem below_eq {w w' : World} {g : Nat} (h : Below g w w') (e : w.heap.size = g) : Below w.heap.size w w' := by rw [e]; exact h
end Go.Proofs.YtlbfohpkngmaoaaDoor.Po
