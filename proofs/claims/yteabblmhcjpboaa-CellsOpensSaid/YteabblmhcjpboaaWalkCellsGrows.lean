/- 'CellsGrows', from its arguments. -/
import Derived.Test.YteabblmhcjpboaaW3
import Derived.Test.YteabblmhcjpboaaOpen
namespace Go.Proofs.Yteabblmhcjpboaa.D
open Go Go.RowKit Go.ChangeShapes Go.WideShapes Go.ChangeAt
theorem sl_nil (w : World) : Sl w none 0 0 [] := ⟨Row.nil _ _, by omega, by omega, fun h => absurd h (by omega)⟩
/-- texts that are handed in, of whatever length. -/
def RP (w : World) (a : Option Addr) (len : Nat) (L : List (List Int)) : Prop := L.length = len ∧ len ≤ maxLen ∧ ∀ k, k < len → ∃ g o a' n' c', a = some ⟨g, o, none⟩ ∧ w.cell? ⟨g, o + k, none⟩ = some (.slice a' n' c') ∧ Sl w a' n' c' (L.getD k [])
theorem add_off (b off n : Nat) (sp : Option Nat) (h : sp = none) : (⟨b, off, sp⟩ : Addr).add n = ⟨b, off + n, none⟩ := by
  subst h
  unfold Addr.add
  split
  · rename_i h0; subst h0; rfl
  · rfl
theorem cell_of_head {l : List Value} {k : Nat} {v : Value} (h : (l.drop k).take 1 = [v]) : l[k]? = some v := by
  have h1 : ((l.drop k).take 1)[0]? = some v := by rw [h]; rfl
  simpa using h1
theorem list_of {P : Nat → List Int → Prop} : ∀ (n : Nat), (∀ k, k < n → ∃ x, P k x) → ∃ L : List (List Int), L.length = n ∧ ∀ k, k < n → P k (L.getD k [])
  | 0, _ => ⟨[], rfl, fun k hk => by omega⟩
  | n + 1, h => by
    obtain ⟨L, hl, hL⟩ := list_of n (fun k hk => h k (by omega))
    obtain ⟨x, hx⟩ := h n (by omega)
    refine ⟨L ++ [x], by simp [hl], fun k hk => ?_⟩
    by_cases e : k < n
    · rw [List.getD, List.getElem?_append_left (by omega)]
      exact hL k e
    · obtain rfl : k = n := by omega
      rw [List.getD, List.getElem?_append_right (by omega), hl, Nat.sub_self]
      exact hx
theorem open_rp {H : Type} {enc : TypeId × Value → H} {W : World} {held : Bool} {a : Option Addr} {len cap : Nat} {d : DataW H} {ps : List MemPlace}
    (hd : DataW.Trod enc Try.prog W 0 (fun _ => true) held 22 (.slice a len cap) d ps) : ∃ L, RP W a len L := by
  obtain ⟨fuel, hf⟩ := hd
  simp only [Value.cells] at hf
  rcases DataW.trod_slice Try.underlying22 hf with ⟨hcs, _⟩ | ⟨x, l, c, elems, rest, n, _, hcs, _, _, hl, hm, hlen, hel, _, _⟩
  · simp at hcs
    obtain ⟨rfl, rfl, rfl⟩ := hcs
    exact ⟨[], rfl, by simp [maxLen], fun k hk => by omega⟩
  · simp at hcs
    obtain ⟨rfl, rfl, rfl⟩ := hcs
    have c22 : Try.prog.cellsOf 26 = 1 := by kernel_rfl
    have key : ∀ k, k < len → ∃ xs : List Int, ∃ a' n' c', W.cell? (x.add (k * 1)) = some (.slice a' n' c') ∧ Sl W a' n' c' xs := by
      intro k hk
      have h1 := hel k hk
      rw [List.getElem?_eq_getElem (by omega), c22] at h1
      obtain ⟨cs, hc, ht⟩ := Option.bind_eq_some_iff.1 h1
      obtain ⟨_, hcl, hat⟩ := World.cells?_some hc
      have h0 := hat 0 (by omega)
      rw [add_zero_addr] at h0
      rcases open_ints Try.underlying26 Try.underlying5 (by kernel_rfl) ht with ⟨hcs, _⟩ | ⟨y, l, c, zs, hcs, _, hl', hm', hz, _, hcell, hwz⟩
      · rw [hcs] at h0
        exact ⟨[], none, 0, 0, h0, sl_nil _⟩
      · rw [hcs] at h0
        exact ⟨zs.take l, some y, l, c, h0, sl_of (.inr ⟨y, rfl, hl', hm', by simpa using hz, hcell, hwz⟩)⟩
    obtain ⟨L, hL, hP⟩ := list_of len key
    obtain ⟨b, off, sp⟩ := x
    refine ⟨L, hL, by omega, fun k hk => ?_⟩
    obtain ⟨a', n', c', hc, hs⟩ := hP k hk
    obtain ⟨_, _, _, h0, _⟩ := hP 0 (by omega)
    rw [Nat.zero_mul, add_zero_addr] at h0
    obtain rfl : sp = none := spot_of h0
    rw [add_off _ _ _ _ rfl, Nat.mul_one] at hc
    exact ⟨b, off, a', n', c', rfl, hc, hs⟩
theorem open_parts {H : Type} {enc : TypeId × Value → H} {W : World} {held : Bool} {a : Option Addr} {len cap : Nat} {d : DataW H} {ps : List MemPlace}
    (hd : DataW.Trod enc Try.prog W 0 (fun _ => true) held 22 (.slice a len cap) d ps) : ∃ L, L.length = len ∧ Parts W a len L := by
  obtain ⟨L, h⟩ := open_rp hd
  refine ⟨L, h.1, h.2.1, fun k hk => ?_⟩
  obtain ⟨g, o, a', n', c', e, hc, hs⟩ := h.2.2 k hk
  exact ⟨g, o, e, a', n', c', _, rfl, hc, hs⟩
end Go.Proofs.Yteabblmhcjpboaa.D
namespace Go.Proofs.Yteabblmhcjpboaa
open Go Go.RowKit
theorem walkCellsGrows (a : Option Addr) (n ca : Nat) (x : Int) (hx : (Lit.int .u8 x).wf = true) (w : World) (h : ∃ L : List (List Int), L.length = n ∧ D.Parts w a n L) :
    Calls Try.prog 3 #[.slice a n ca, .int .u8 x] w fun e w' => e = .returned (.bool true) ∧ Below w.heap.size w w' := by
  obtain ⟨L, _, h⟩ := h
  exact D.grows_any w a n ca L x h
end Go.Proofs.Yteabblmhcjpboaa
