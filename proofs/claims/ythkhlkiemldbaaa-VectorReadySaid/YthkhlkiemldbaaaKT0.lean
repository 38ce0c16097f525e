import Derived.Test.YthkhlkiemldbaaaKArith
import Derived.Test.YthkhlkiemldbaaaKOps
import Derived.Test.YthkhlkiemldbaaaKHeldAll
namespace Go.Proofs.Ythkhlkiemldbaaa.K.Ha
open Go Go.RowKit
def u8l (l : List Int) : List Value := l.map (Value.int .u8)
theorem u8l_len (l : List Int) : (u8l l).length = l.length := by simp [u8l]
theorem u8l_one (l : List Int) : (u8l l).toArray.all (·.oneCell') = true := by
  simp [u8l, Value.oneCell']
def Sl (w : World) (a : Option Addr) (n c : Nat) (xs : List Int) : Prop := Row w a n xs ∧ n ≤ c ∧ c < 9223372036854775808 ∧ (0 < c → ∀ p, a = some p → p.spot = none)
theorem sl_blk {w : World} {g t n : Nat} {xs : List Int} (h : Blk w g t (u8l xs).toArray) (hl : xs.length = n) (hb : ∀ x ∈ xs, 0 ≤ x ∧ x ≤ 255) (hn : n ≤ 4611686018427387904) : Sl w (some ⟨g, 0, none⟩) n n xs := by
  refine ⟨⟨hl, by unfold maxLen; omega, hb, fun j hj => ⟨g, 0, rfl, ?_⟩⟩, by omega, by omega, fun _ p hp => by cases hp; rfl⟩
  have hx : j < xs.length := by omega
  rw [h.cell, Nat.zero_add, List.getElem?_toArray]
  unfold u8l
  rw [List.getElem?_map, List.getElem?_eq_getElem hx, List.getD, List.getElem?_eq_getElem hx]
  rfl
theorem blk_range {w : World} {g t : Nat} {l : List Value} (h : Blk w g t l.toArray) : w.rangeAt g 0 l := by
  intro j v hj
  rw [h.cell, Nat.zero_add, List.getElem?_toArray, hj]
end Go.Proofs.Ythkhlkiemldbaaa.K.Ha
