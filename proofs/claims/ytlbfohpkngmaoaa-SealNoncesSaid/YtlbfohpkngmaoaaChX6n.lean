/- The reference's Stream. -/
import Derived.Test.YtlbfohpkngmaoaaChX5n
namespace Go.Proofs.Ytlbfohpkngmaoaa.Ch.B
open Go Go.RowKit
theorem Own.take {w : World} {base : Nat} {a : Option Addr} {k c : Nat} {xs : List Int} (h : Own w base (.slice a k c) xs) (n : Nat) (hn : n ≤ xs.length) : Own w base (.slice a n c) (xs.take n) := by
  refine ⟨⟨by simp, ?_⟩, fun x hx => h.2 x (List.mem_of_mem_take hx)⟩
  have hl : (xs.take n).length = n := by rw [List.length_take]; omega
  rcases h.1.2 with ⟨h1, h2⟩ | ⟨g, cap, cur, h1, h2, h3, h4, h5, h6, h7⟩
  · simp only [Value.slice.injEq] at h1
    obtain ⟨rfl, rfl, rfl⟩ := h1
    have : n = 0 := by omega
    subst this
    exact .inl ⟨rfl, by simp⟩
  · simp only [Value.slice.injEq] at h1
    obtain ⟨rfl, rfl, rfl⟩ := h1
    refine .inr ⟨g, c, cur, by rw [hl], h2, h3, by omega, h5, h6, ?_⟩
    have e := congrArg (List.take n) h7
    rw [Nat.mul_one, List.take_take, Nat.min_eq_left hn, ← List.map_take] at e
    rw [hl, Nat.mul_one]
    exact e
/-- what the reference's stream comes to: a row of its own. -/
def givesO (w : World) (e : Ending) (w' : World) (n : Nat) (l : List Int) : Prop :=
  ∃ a cap, e = .returned (.slice a n cap) ∧ Below w.heap.size w w' ∧ Own w' w.heap.size (.slice a n cap) l
theorem row_blk {w : World} {g t n : Nat} {l : List Int} (h : Blk w g t (ub l).toArray) (hl : l.length = n) (hn : n ≤ 100000) (hb : ∀ x ∈ l, 0 ≤ x ∧ x ≤ 255) : Row w (some ⟨g, 0, none⟩) n l :=
  ⟨hl, by unfold maxLen; omega, hb, fun j hj => ⟨g, 0, rfl, ub_cell h (by omega)⟩⟩
end Go.Proofs.Ytlbfohpkngmaoaa.Ch.B
