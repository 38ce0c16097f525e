import Derived.Test.YtbgmielhnklkgaaP5
namespace Go.Proofs.Ytbgmielhnklkgaa
open Go.RowKit

/-- a slice that shows these bytes. -/
def Row (w : World) (a : Option Addr) (n : Nat) (xs : List Int) : Prop := xs.length = n ∧ n ≤ maxLen ∧ (∀ x ∈ xs, 0 ≤ x ∧ x ≤ 255) ∧ ∀ j, j < n → ∃ g o, a = some ⟨g, o, none⟩ ∧ w.cell? ⟨g, o + j, none⟩ = some (.int .u8 (xs.getD j 0))
theorem Row.below {w w' : World} {a : Option Addr} {n : Nat} {xs : List Int} (h : Row w a n xs) (B : Nat) (hb : Below B w w') (hB : w.heap.size ≤ B) : Row w' a n xs := by
  refine ⟨h.1, h.2.1, h.2.2.1, fun j hj => ?_⟩
  obtain ⟨g, o, h1, h2⟩ := h.2.2.2 j hj
  exact ⟨g, o, h1, (hb.cell (p := ⟨g, o + j, none⟩) (Nat.lt_of_lt_of_le (World.block_lt_of_cell? w _ h2) hB)).trans h2⟩
theorem row_of {w : World} {a : Option Addr} {len cap : Nat} {zs : List Int} (h : IsRow .u8 w a len cap zs) : Row w a len (zs.take len) := by
  rcases h with ⟨rfl, rfl, _, rfl⟩ | ⟨⟨b, off, spot⟩, rfl, h2, h3, h4, h5, h6⟩
  · exact ⟨rfl, by simp [maxLen], by simp, fun j hj => absurd hj (by omega)⟩
  · refine ⟨by simp; omega, by omega, fun x hx => bounds_u8 (h6 x (List.mem_of_mem_take hx)), fun j hj => ?_⟩
    have hs : spot = none := by simpa [Addr.add] using World.cell?_spot (h5 0 (by omega))
    subst hs
    have := h5 j (by omega)
    have e : (⟨b, off, none⟩ : Addr).add j = ⟨b, off + j, none⟩ := by unfold Addr.add; split <;> simp_all
    rw [e] at this
    refine ⟨b, off, rfl, ?_⟩
    rw [this]
    simp [List.getD, List.getElem?_take, hj]
theorem getD_byte {xs : List Int} (h : ∀ x ∈ xs, 0 ≤ x ∧ x ≤ 255) (j : Nat) : 0 ≤ xs.getD j 0 ∧ xs.getD j 0 ≤ 255 := by
  rw [List.getD]
  rcases Nat.lt_or_ge j xs.length with hj | hj
  · rw [List.getElem?_eq_getElem hj]
    exact h _ (List.getElem_mem hj)
  · rw [List.getElem?_eq_none hj]
    simp
theorem equal_rows (w : World) (a0 a1 : Option Addr) (n0 c0 n1 c1 : Nat) (xs ys : List Int) (h0 : Row w a0 n0 xs) (h1 : Row w a1 n1 ys) :
    Calls Try.prog 12 #[.slice a0 n0 c0, .slice a1 n1 c1] w fun e w' => e = .returned (.bool (decide (xs = ys))) ∧ Below w.heap.size w w' := by
  by_cases hn : n0 = n1
  · subst hn
    have bx := getD_byte h0.2.2.1
    have bY := getD_byte h1.2.2.1
    have q := equal_row w a0 a1 n0 c0 c1 (fun j => (xs.getD j 0).toNat) (fun j => (ys.getD j 0).toNat) (fun j => by have := bx j; show (xs.getD j 0).toNat < 256; omega) (fun j => by have := bY j; show (ys.getD j 0).toNat < 256; omega) h0.2.1 (fun j hj => by
      obtain ⟨g0, o0, e0, k0⟩ := h0.2.2.2 j hj
      obtain ⟨g1, o1, e1, k1⟩ := h1.2.2.2 j hj
      refine ⟨g0, o0, g1, o1, e0, e1, ?_, ?_⟩
      · rw [k0, Int.toNat_of_nonneg (bx j).1]
      · rw [k1, Int.toNat_of_nonneg (bY j).1])
    refine q.mono fun e w' ⟨he, hb⟩ => ⟨he.trans (ret_bool ?_), hb⟩
    rw [Bool.eq_iff_iff, decide_eq_true_eq, decide_eq_true_eq, dif_zero]
    constructor
    · intro h
      apply List.ext_getElem?
      intro j
      rcases Nat.lt_or_ge j n0 with hj | hj
      · have h2 := h j hj
        have b1 := bx j
        have b2 := bY j
        have h3 : xs.getD j 0 = ys.getD j 0 := by omega
        have l0 : j < xs.length := by rw [h0.1]; exact hj
        have l1 : j < ys.length := by rw [h1.1]; exact hj
        rw [List.getElem?_eq_getElem l0, List.getElem?_eq_getElem l1]
        rw [List.getD, List.getD, List.getElem?_eq_getElem l0, List.getElem?_eq_getElem l1] at h3
        exact congrArg some h3
      · rw [List.getElem?_eq_none (by rw [h0.1]; exact hj), List.getElem?_eq_none (by rw [h1.1]; exact hj)]
    · rintro rfl j _; rfl
  · refine (equal_len w a0 a1 n0 c0 n1 c1 hn).mono fun e w' ⟨he, hw⟩ => ⟨he.trans (ret_bool ?_), by subst hw; exact Below.refl _ _⟩
    symm
    rw [decide_eq_false_iff_not]
    rintro rfl
    exact hn (h0.1.symm.trans h1.1)
theorem conv_zero (w : World) (p : Option Addr) (c : Nat) : (convert 24 9 (.slice p 0 c)).run Try.prog w = .ok (.string (strOfNums [])) w := by
  rw [run_convert_bytes_string w 24 9 5 _ 0 c Try.underlying24 Try.underlying5 Try.underlying9]
  cases p <;> simp [Conv.bytesToString, loadCells]
  all_goals rfl
theorem conv_row (w : World) (a : Option Addr) (n c : Nat) (xs : List Int) (h : Row w a n xs) :
    (convert 24 9 (.slice a n c)).run Try.prog w = .ok (.string (strOfNums xs)) w := by
  by_cases h0 : n = 0
  · subst h0
    obtain rfl : xs = [] := List.eq_nil_of_length_eq_zero h.1
    exact conv_zero w a c
  · obtain ⟨g, o, rfl, _⟩ := h.2.2.2 0 (by omega)
    refine run_convert_bytes_arg w 24 5 Try.underlying24 Try.underlying5 g o n c xs h.1 (fun i hi => ?_) 9 Try.underlying9
    obtain ⟨g', o', e, hc⟩ := h.2.2.2 i hi
    simp only [Option.some.injEq, Addr.mk.injEq, and_true] at e
    obtain ⟨rfl, rfl⟩ := e
    rw [hc]
theorem num_inj : ∀ (xs ys : List Int), (∀ x ∈ xs, 0 ≤ x ∧ x ≤ 255) → (∀ y ∈ ys, 0 ≤ y ∧ y ≤ 255) → xs.map (fun n => UInt8.ofNat n.toNat) = ys.map (fun n => UInt8.ofNat n.toNat) → xs = ys := by
  intro xs
  induction xs with
  | nil => intro ys _ _ h; cases ys with
    | nil => rfl
    | cons y ys => simp at h
  | cons x xs ih =>
    intro ys hx hy h
    cases ys with
    | nil => simp at h
    | cons y ys =>
      simp only [List.map_cons, List.cons.injEq] at h
      have h1 := hx x (by simp)
      have h2 := hy y (by simp)
      have h3 := congrArg UInt8.toNat h.1
      simp at h3
      have : x = y := by omega
      rw [this, ih ys (fun a ha => hx a (by simp [ha])) (fun a ha => hy a (by simp [ha])) h.2]
theorem str_beq (xs ys : List Int) (hx : ∀ x ∈ xs, 0 ≤ x ∧ x ≤ 255) (hy : ∀ y ∈ ys, 0 ≤ y ∧ y ≤ 255) : ((strOfNums xs).toList == (strOfNums ys).toList) = decide (xs = ys) := by
  rw [Bool.eq_iff_iff, beq_iff_eq, decide_eq_true_eq, ByteArray.toList_eq, ByteArray.toList_eq]
  constructor
  · intro h
    exact num_inj xs ys hx hy (by simpa [strOfNums] using h)
  · rintro rfl; rfl
theorem same_rows (w : World) (a0 a1 : Option Addr) (n0 c0 n1 c1 : Nat) (xs ys : List Int) (h0 : Row w a0 n0 xs) (h1 : Row w a1 n1 ys) :
    Calls Try.prog 13 #[.slice a0 n0 c0, .slice a1 n1 c1] w fun e w' => e = .returned (.bool (decide (xs = ys))) ∧ w = w' := by
  have k0 := conv_row w a0 n0 c0 xs h0
  have k1 := conv_row w a1 n1 c1 ys h1
  have HB := Lib.hid (str_beq xs ys h0.2.2.1 h1.2.2.1)
  clear h0 h1
  go_enter Try.func13, Try.ntmps13
  go_wp2_with fail
  go_ret
  exact ⟨ret_bool HB.out, rfl⟩
end Go.Proofs.Ytbgmielhnklkgaa
