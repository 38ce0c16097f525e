/- Slices of slices. -/
import Derived.Test.YtlbfohpkngmaoaaChX3
namespace Go.Proofs.Ytlbfohpkngmaoaa.Ch.B
open Go Go.RowKit
def Fit (ad : Option Addr) (len cap : Nat) : Prop := len ≤ cap ∧ cap < 9223372036854775808 ∧ (0 < cap → ∀ p, ad = some p → p.spot = none)
theorem run_sliceto (a : Act) (o : Oper) (w : World) (x i : Operand) (ad : Option Addr) (len cap m : Nat) (ho : o.op = .slice 33 x none (some i) none) (hx : a.eval x = .slice ad len cap) (hi : a.eval i = .int .i64 (m : Int)) (hm : m ≤ len) (hw : Fit ad len cap) :
  (execOp a.eval o).run Try.prog w = .ok (.value (.slice ad m cap)) w := by
 obtain ⟨hc, hw, hsp⟩ := hw
 have h1 : (0 : Int) ≤ (m : Int) := by omega
 have h4 : (m : Int) ≤ (cap : Int) := by omega
 have h5 : (0 : Int) ≤ (cap : Int) := by omega
 unfold execOp
 cases ad with
 | none =>
  simp only [ho, hx, Option.map_some, Option.map_none, hi]
  go_simp
  try rfl
 | some p =>
  obtain ⟨g, off, spot⟩ := p
  simp only [ho, hx, Option.map_some, Option.map_none, hi]
  by_cases hz : cap = 0
  ·subst hz
   obtain rfl : m = 0 := by omega
   go_simp
   try simp
  ·obtain rfl : spot = none := hsp (by omega) _ rfl
   go_simp
   try simp
theorem fit_own {w : World} {base : Nat} {a : Option Addr} {n c : Nat} {xs : List Int} (h : Own w base (.slice a n c) xs) : Fit a n c := by
 have hm := h.len
 rcases h.form with ⟨h1, h2⟩ | ⟨g, cap, cur, h1, h2, h3, h4, h5, h6, h7⟩
 ·simp only [Value.slice.injEq] at h1
  obtain ⟨rfl, rfl, rfl⟩ := h1
  exact ⟨Nat.le_refl _, by omega, fun h => by omega⟩
 ·simp only [Value.slice.injEq] at h1
  obtain ⟨rfl, rfl, rfl⟩ := h1
  unfold maxLen at h5
  exact ⟨h4, by omega, fun _ p hp => by cases hp; rfl⟩
theorem Row.take {w : World} {a : Option Addr} {n : Nat} {xs : List Int} (h : Row w a n xs) (m : Nat) (hm : m ≤ n) : Row w a m (xs.take m) := by
 obtain ⟨h1, h2, h3, h4⟩ := h
 refine ⟨by rw [List.length_take]; omega, by omega, fun x hx => h3 x (List.mem_of_mem_take hx), fun j hj => ?_⟩
 obtain ⟨g, o, e, hc⟩ := h4 j (by omega)
 refine ⟨g, o, e, ?_⟩
 rw [hc]
 simp [List.getD, List.getElem?_take, hj]
theorem strm_take (ks : Nat → List Int) (c n m : Nat) (hm : m ≤ n) : (strm ks c n).take m = strm ks c m := by
 unfold strm
 rw [← List.map_take, List.take_range, Nat.min_eq_left hm]
theorem strm_next {KV NV : List Value} {ks : Nat → List Int} (h : Two KV NV ks) (c i : Nat) : strm ks c (64 * i) ++ ks ((c + i) % 4294967296) = strm ks c (64 * (i + 1)) := by
 apply List.ext_getElem?
 intro j
 have hl := (h.2.2.1 ((c + i) % 4294967296)).1
 by_cases h1 : j < 64 * i
 ·rw [List.getElem?_append_left (by rw [strm_len]; exact h1)]
  unfold strm
  rw [List.getElem?_map, List.getElem?_map, List.getElem?_range h1, List.getElem?_range (by omega)]
 ·rw [List.getElem?_append_right (by rw [strm_len]; omega), strm_len]
  by_cases h2 : j < 64 * (i + 1)
  ·unfold strm
   rw [List.getElem?_map, List.getElem?_range h2, List.getElem?_eq_getElem (by omega)]
   simp only [Option.map_some, Option.some.injEq]
   unfold sb
   rw [show j / 64 = i by omega, show j % 64 = j - 64 * i by omega, List.getD, List.getElem?_eq_getElem (by omega)]
   rfl
  ·rw [List.getElem?_eq_none (by omega), List.getElem?_eq_none (by rw [strm_len]; omega)]
end Go.Proofs.Ytlbfohpkngmaoaa.Ch.B
