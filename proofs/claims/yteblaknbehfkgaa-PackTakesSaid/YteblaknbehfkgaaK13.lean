import Derived.Test.YteblaknbehfkgaaK12
namespace Go.Proofs.Yteblaknbehfkgaa
open Go Go.RowKit

theorem numO_cases (xs : List Int) {n : Nat} (hn : xs.length = n) : numO xs = none ∨ ∃ x s, numO xs = some (x, s) ∧ 0 < s ∧ s ≤ n ∧ x < 18446744073709551616 := by
  by_cases h : ∃ k, Good (byt xs) xs.length k
  · obtain ⟨k, hk⟩ := h
    exact .inr ⟨_, _, numO_some hk, by omega, by have := hk.1; omega, (acc9 _ k hk.2.1 hk.2.2.2.2.1).2⟩
  · exact .inl (numO_none (fun k hk => h ⟨k, hk⟩))
theorem wrapX_nonneg (X : Nat) (hX : X < 18446744073709551616) : 0 ≤ IntKind.i64.wrap (X : Int) → IntKind.i64.wrap (X : Int) = X := by
  simp [IntKind.wrap, IntKind.bits, IntKind.signed]; split <;> omega
theorem row_mid {w : World} {a : Option Addr} {n c : Nat} {xs : List Int} (h : Row w a n xs) (hsp : ∀ p, a = some p → p.spot = none) (s x : Nat) (hx : s + x ≤ n) (hnc : n ≤ c) : Row w (dropA a c s) x ((xs.drop s).take x) := by
  rcases Nat.eq_zero_or_pos x with rfl | h0
  · rw [List.take_zero]; exact Row.nil _ _
  · cases a with
    | none => obtain ⟨g, o, q, _⟩ := h.2.2.2 0 (by omega); cases q
    | some p =>
      obtain ⟨g, off, spot⟩ := p
      obtain rfl : spot = none := hsp _ rfl
      have q := h.sub s x (by omega)
      unfold dropA
      simp only [Option.map_some]
      split
      · omega
      · exact q
theorem run_slice2 (a : Act) (o : Oper) (w : World) (x i j : Operand) (ad : Option Addr) (len cap m e L : Nat) (ho : o.op = .slice 25 x (some i) (some j) none) (hx : a.eval x = .slice ad len cap) (hi : a.eval i = .int .i64 (m : Int)) (hj : a.eval j = .int .i64 (e : Int)) (he : e = m + L) (hm : m + L ≤ len) (hc : len ≤ cap) (hw : cap < 9223372036854775808 ∧ ∀ p, ad = some p → p.spot = none) :
    (execOp a.eval o).run Try.prog w = .ok (.value (.slice (dropA ad cap m) L (cap - m))) w := by
  obtain rfl : L = e - m := by omega
  obtain ⟨hw, hsp⟩ := hw
  have h1 : (0 : Int) ≤ (m : Int) := by omega
  have h2 : (m : Int) ≤ (e : Int) := by omega
  have h2' : m ≤ e := by omega
  have h3 : (len : Int) ≤ (cap : Int) := by omega
  have h4 : (e : Int) ≤ (cap : Int) := by omega
  have h4' : e ≤ cap := by omega
  have h5 : (0 : Int) ≤ (e : Int) := by omega
  clear he hm
  unfold execOp
  cases ad with
  | none =>
    simp only [ho, hx, Option.map_some, Option.map_none, hi, hj]
    go_simp
    simp [dropA, h4', h2']
  | some p =>
    obtain ⟨g, off, spot⟩ := p
    obtain rfl : spot = none := hsp _ rfl
    simp only [ho, hx, Option.map_some, Option.map_none, hi, hj]
    by_cases hq : cap = m
    · subst hq
      go_simp
      simp [dropA, h4', h2']
    · go_simp
      simp [dropA, hq, h4', h2']
theorem run_sliceto' (a : Act) (o : Oper) (w : World) (x i : Operand) (ad : Option Addr) (len cap m : Nat) (ho : o.op = .slice 25 x none (some i) none) (hx : a.eval x = .slice ad len cap) (hi : a.eval i = .int .i64 (m : Int)) (hm : m ≤ len) (hc : len ≤ cap) (hw : cap < 9223372036854775808 ∧ (0 < cap → ∀ p, ad = some p → p.spot = none)) :
    (execOp a.eval o).run Try.prog w = .ok (.value (.slice ad m cap)) w := by
  by_cases h0 : 0 < cap
  · exact run_sliceto a o w x i ad len cap m ho hx hi hm hc ⟨hw.1, hw.2 h0⟩
  · obtain rfl : cap = 0 := by omega
    obtain rfl : len = 0 := by omega
    obtain rfl : m = 0 := by omega
    unfold execOp
    cases ad with
    | none => simp only [ho, hx, Option.map_some, Option.map_none, hi]; go_simp
    | some p => simp only [ho, hx, Option.map_some, Option.map_none, hi]; go_simp
theorem run_slicep' (a : Act) (o : Oper) (w : World) (x i : Operand) (ad : Option Addr) (len cap m L : Nat) (ho : o.op = .slice 25 x (some i) none none) (hx : a.eval x = .slice ad len cap) (hi : a.eval i = .int .i64 (m : Int)) (hm : m ≤ len) (hc : len ≤ cap) (hw : cap < 9223372036854775808 ∧ (0 < cap → ∀ p, ad = some p → p.spot = none)) (hL : L = len - m) :
    (execOp a.eval o).run Try.prog w = .ok (.value (.slice (dropA ad cap m) L (cap - m))) w := by
  by_cases h0 : 0 < cap
  · exact run_slicep a o w x i ad len cap m L ho hx hi hm hc ⟨hw.1, hw.2 h0⟩ hL
  · subst hL
    have hw := hw.1
    have h1 : (0 : Int) ≤ (m : Int) := by omega
    have h2 : (m : Int) ≤ (len : Int) := by omega
    have h3 : (len : Int) ≤ (cap : Int) := by omega
    have h4 : (m : Int) ≤ (cap : Int) := by omega
    have hq : cap = m := by omega
    subst hq
    unfold execOp
    cases ad with
    | none =>
      simp only [ho, hx, Option.map_some, Option.map_none, hi]
      go_simp
      rfl
    | some p =>
      obtain ⟨g, off, spot⟩ := p
      simp only [ho, hx, Option.map_some, Option.map_none, hi]
      go_simp
      simp [dropA]
/-- what the reference's Got comes to. -/
def GotP (w : World) (r : Res) (e : Ending) (w' : World) : Prop :=
  ∃ a2 n2 c2, e = .returned (.tuple #[.int .u64 (numR r : Int), .slice a2 n2 c2, .int .i64 (if r.isNone then -1 else (sizR r : Int))]) ∧ Row w' a2 n2 (txtR r) ∧ Below w.heap.size w w'
end Go.Proofs.Yteblaknbehfkgaa
