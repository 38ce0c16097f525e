import Derived.Test.YtfhjfpgfbeiacaaDoorHaH9
namespace Go.Proofs.YtfhjfpgfbeiacaaDoor.Ha
open Go Go.RowKit
set_option maxRecDepth 100000

theorem spot_of {w : World} {b o : Nat} {sp : Option Nat} {v : Value} (h : w.cell? ⟨b, o, sp⟩ = some v) : sp = none := by
  cases sp with
  | none => rfl
  | some x =>
    unfold World.cell? at h
    split at h <;> simp at h
theorem add_zero_addr (p : Addr) : p.add 0 = p := by
  unfold Addr.add
  simp
theorem sl_of {w : World} {a : Option Addr} {n c : Nat} {zs : List Int} (h : IsRow .u8 w a n c zs) : Sl w a n c (zs.take n) := by
  refine ⟨row_of h, ?_⟩
  rcases h with ⟨rfl, rfl, rfl, rfl⟩ | ⟨x, rfl, h2, h3, h4, h5, h6⟩
  · exact ⟨by omega, by omega, fun h => absurd h (by omega)⟩
  · unfold maxLen at h3
    refine ⟨h2, by omega, fun h0 p hp => ?_⟩
    cases hp
    obtain ⟨b, o, sp⟩ := x
    have q := h5 0 (by omega)
    rw [add_zero_addr] at q
    exact spot_of q
theorem u8_bounds {ks : List Int} (h : ∀ x ∈ ks, (Lit.int .u8 x).wf = true) : ∀ x ∈ ks, 0 ≤ x ∧ x ≤ 255 := fun x hx => bounds_u8 (h x hx)
theorem blk_range {w : World} {g t : Nat} {l : List Value} (h : Blk w g t l.toArray) : w.rangeAt g 0 l := by
  intro j v hj
  rw [h.cell, Nat.zero_add, List.getElem?_toArray, hj]
theorem run_idxr (a : Act) (o : Oper) (w : World) (x i : Operand) (g off n c k : Nat) (ho : o.op = .indexAddr 32 x i) (hx : a.eval x = .slice (some ⟨g, off, none⟩) n c) (hi : a.eval i = .int .i64 (k : Int)) (hk : k < n) (hn : n ≤ maxLen) {r : Nat} (hr : off + k = r) : (execOp a.eval o).run Tryd.prog w = .ok (.value (.pointer (some ⟨g, r, none⟩))) w := by
  subst hr
  exact run_idx a o w x i g off n c k ho hx hi hk hn
theorem expS_len {ks info : List Int} {m : Nat} : (expS ks info m).length = m := by
  have h : ∀ k, (expN ks info k).1.length = 32 * k := by
    intro k
    induction k with
    | zero => rfl
    | succ k ih => simp only [expN, List.length_append, ih, macS_len]; omega
  unfold expS
  rw [List.length_take, h]
  omega
theorem expS_byte {ks info : List Int} {m : Nat} : ∀ x ∈ expS ks info m, 0 ≤ x ∧ x ≤ 255 := by
  have h : ∀ k, ∀ x ∈ (expN ks info k).1, 0 ≤ x ∧ x ≤ 255 := by
    intro k
    induction k with
    | zero => simp [expN]
    | succ k ih =>
      intro x hx
      simp only [expN, List.mem_append] at hx
      rcases hx with hx | hx
      · exact ih x hx
      · exact macS_byte _ _ x hx
  intro x hx
  exact h _ x (List.mem_of_mem_take hx)
theorem expN_take {ks info : List Int} {j k : Nat} (h : j ≤ k) : (expN ks info k).1.take (32 * j) = (expN ks info j).1 := by
  have hl : ∀ k, (expN ks info k).1.length = 32 * k := by
    intro k
    induction k with
    | zero => rfl
    | succ k ih => simp only [expN, List.length_append, ih, macS_len]; omega
  induction k with
  | zero => obtain rfl : j = 0 := by omega
            rfl
  | succ k ih =>
    by_cases e : j = k + 1
    · subst e
      rw [List.take_of_length_le (by rw [hl]; omega)]
    · simp only [expN]
      rw [List.take_append_of_le_length (by rw [hl]; omega)]
      exact ih (by omega)
/-- what is expanded to fewer bytes is the beginning of what is expanded to more. -/
theorem expS_take {ks info : List Int} {p q : Nat} (h : p ≤ q) : (expS ks info q).take p = expS ks info p := by
  unfold expS
  rw [List.take_take, Nat.min_eq_left h, ← expN_take (ks := ks) (info := info) (j := (p + 31) / 32) (k := (q + 31) / 32) (by omega), List.take_take, Nat.min_eq_left (by omega)]
/-- bytes at the beginning of a block. -/
theorem sl_pre {w : World} {g t m : Nat} {cur : Array Value} {xs : List Int} (h : Blk w g t cur) (ht : cur.toList.take m = u8l xs) (hl : xs.length = m) (hb : ∀ x ∈ xs, 0 ≤ x ∧ x ≤ 255) (hm : m ≤ 4611686018427387904) : Sl w (some ⟨g, 0, none⟩) m m xs := by
  refine ⟨⟨hl, by unfold maxLen; omega, hb, fun j hj => ⟨g, 0, rfl, ?_⟩⟩, by omega, by omega, fun _ p hp => by cases hp; rfl⟩
  have hx : j < xs.length := by omega
  have e : (cur.toList.take m)[j]? = (u8l xs)[j]? := by rw [ht]
  unfold u8l at e
  rw [List.getElem?_take, if_pos hj, List.getElem?_map, List.getElem?_eq_getElem hx] at e
  rw [h.cell, Nat.zero_add, ← Array.getElem?_toList, e, List.getD, List.getElem?_eq_getElem hx]
  rfl
def IncAt (w : World) (g k e0 : Nat) : Prop := ∃ cs : List Value, Blk w g 5 cs.toArray ∧ (∀ j, j < 64 → ∃ v : Nat, v < 256 ∧ cs[j]? = some (.int .u8 (v : Int))) ∧ cs[0]? = some (.int .u8 (((e0 + Nat.min k 1) % 256 : Nat) : Int))
theorem IncAt.start {w : World} {g : Nat} {cur : Array Value} {xs : List Int} (h : Blk w g 5 cur) (ht : cur.toList.take 64 = u8l xs) (hl : xs.length = 64) (hb : ∀ x ∈ xs, 0 ≤ x ∧ x ≤ 255) : IncAt w g 0 (byte xs 0) := by
  have key : ∀ j, j < 64 → byte xs j < 256 ∧ cur.toList[j]? = some (.int .u8 (byte xs j : Nat)) := by
    intro j hj
    have hx : j < xs.length := by omega
    have e : (cur.toList.take 64)[j]? = (u8l xs)[j]? := by rw [ht]
    unfold u8l at e
    rw [List.getElem?_take, if_pos hj, List.getElem?_map, List.getElem?_eq_getElem hx] at e
    have := hb _ (List.getElem_mem hx)
    rw [e]
    unfold byte
    rw [List.getD, List.getElem?_eq_getElem hx]
    refine ⟨by simp; omega, ?_⟩
    simp
    omega
  refine ⟨cur.toList, by simpa using h, fun j hj => ⟨_, (key j hj).1, (key j hj).2⟩, ?_⟩
  have k0 := key 0 (by omega)
  rw [k0.2, show (byte xs 0 + Nat.min 0 1) % 256 = byte xs 0 from by have : Nat.min 0 1 = 0 := rfl; rw [this]; omega]
theorem IncAt.below {w w' : World} {g k e0 : Nat} (h : IncAt w g k e0) (hb : Below w.heap.size w w') : IncAt w' g k e0 := by
  obtain ⟨cs, h1, h2⟩ := h
  exact ⟨cs, h1.below hb, h2⟩
theorem IncAt.lt {w : World} {g k e0 : Nat} (h : IncAt w g k e0) : g < w.heap.size := by
  obtain ⟨cs, h1, h2⟩ := h
  exact h1.lt
theorem IncAt.zero {w : World} {g k e0 : Nat} (h : IncAt w g k e0) (hk : 0 < k) : w.cell? ⟨g, 0, none⟩ = some (.int .u8 (((e0 + 1) % 256 : Nat) : Int)) := by
  obtain ⟨cs, h1, h2, h3⟩ := h
  rw [h1.cell, List.getElem?_toArray, h3, show Nat.min k 1 = 1 from Nat.min_eq_right (by omega)]
theorem IncAt.at {w : World} {g k e0 : Nat} (h : IncAt w g k e0) (hk : k < 64) : ∃ v : Nat, v < 256 ∧ w.cell? ⟨g, k, none⟩ = some (.int .u8 (v : Int)) ∧ w.frozen? ⟨g, k, none⟩ = false ∧ IncAt (w.setCell ⟨g, k, none⟩ (.int .u8 (((v + 1) % 256 : Nat) : Int))) g (k + 1) e0 := by
  obtain ⟨cs, h1, h2, h3⟩ := h
  obtain ⟨v, hv, hc⟩ := h2 k hk
  have hl : k < cs.length := by
    rcases Nat.lt_or_ge k cs.length with q | q
    · exact q
    · rw [List.getElem?_eq_none q] at hc; cases hc
  refine ⟨v, hv, by rw [h1.cell, List.getElem?_toArray, hc], h1.free _, cs.set k (.int .u8 (((v + 1) % 256 : Nat) : Int)), h1.set k _, fun j hj => ?_, ?_⟩
  · rw [List.getElem?_set]
    by_cases e : k = j
    · subst e
      rw [if_pos rfl, if_pos hl]
      exact ⟨_, Nat.mod_lt _ (by omega), rfl⟩
    · rw [if_neg e]
      exact h2 j hj
  · rw [List.getElem?_set]
    by_cases e : k = 0
    · subst e
      rw [if_pos rfl, if_pos hl]
      rw [hc] at h3
      simp at h3
      have m1 : Nat.min (0 + 1) 1 = 1 := rfl
      have m0 : Nat.min 0 1 = 0 := rfl
      rw [m1]
      congr 2
      omega
    · rw [if_neg e, h3, show Nat.min k 1 = 1 from Nat.min_eq_right (by omega), show Nat.min (k + 1) 1 = 1 from Nat.min_eq_right (by omega)]
theorem byte_pre {w : World} {g t m j : Nat} {cur : Array Value} {xs : List Int} (h : Blk w g t cur) (ht : cur.toList.take m = u8l xs) (hl : xs.length = m) (hb : ∀ x ∈ xs, 0 ≤ x ∧ x ≤ 255) (hj : j < m) : w.cell? ⟨g, j, none⟩ = some (.int .u8 (byte xs j : Nat)) := by
  have hx : j < xs.length := by omega
  have e : (cur.toList.take m)[j]? = (u8l xs)[j]? := by rw [ht]
  unfold u8l at e
  rw [List.getElem?_take, if_pos hj, List.getElem?_map, List.getElem?_eq_getElem hx] at e
  have := hb _ (List.getElem_mem hx)
  rw [h.cell, ← Array.getElem?_toList, e]
  unfold byte
  rw [List.getD, List.getElem?_eq_getElem hx]
  simp
  omega
def min2n (p q : Nat) : Nat := if q < p then q else p
def max2n (p q : Nat) : Nat := if p < q then q else p
theorem run_min2n (a : Act) (o : Oper) (w : World) (x y : Operand) (p q : Nat) (ts : Array TypeId) (ho : o.op = .call { callee := .builtin .min, args := #[x, y], argTypes := ts }) (hx : a.eval x = .int .i64 (p : Int)) (hy : a.eval y = .int .i64 (q : Int)) :
    (execOp a.eval o).run Tryd.prog w = .ok (.value (.int .i64 ((min2n p q : Nat) : Int))) w := by
  generalize a.eval = ev at hx hy ⊢
  unfold execOp
  simp only [ho]
  go_simp
  by_cases h : q < p
  · have : min2n p q = q := by unfold min2n; rw [if_pos h]
    simp [hx, hy, this, h]
  · have : min2n p q = p := by unfold min2n; rw [if_neg h]
    simp [hx, hy, this, h]
theorem run_max2n (a : Act) (o : Oper) (w : World) (x y : Operand) (p q : Nat) (ts : Array TypeId) (ho : o.op = .call { callee := .builtin .max, args := #[x, y], argTypes := ts }) (hx : a.eval x = .int .i64 (p : Int)) (hy : a.eval y = .int .i64 (q : Int)) :
    (execOp a.eval o).run Tryd.prog w = .ok (.value (.int .i64 ((max2n p q : Nat) : Int))) w := by
  generalize a.eval = ev at hx hy ⊢
  unfold execOp
  simp only [ho]
  go_simp
  by_cases h : p < q
  · have : max2n p q = q := by unfold max2n; rw [if_pos h]
    simp [hx, hy, this, h]
  · have : max2n p q = p := by unfold max2n; rw [if_neg h]
    simp [hx, hy, this, h]
theorem run_slto (a : Act) (o : Oper) (w : World) (x i : Operand) (ad : Option Addr) (len cap m : Nat) (ho : o.op = .slice 32 x none (some i) none) (hx : a.eval x = .slice ad len cap) (hi : a.eval i = .int .i64 (m : Int)) (hm : m ≤ cap) (hc : cap < 9223372036854775808) (hsp : 0 < cap → ∀ p, ad = some p → p.spot = none) :
    (execOp a.eval o).run Tryd.prog w = .ok (.value (.slice ad m cap)) w := by
  have h1 : (0 : Int) ≤ (m : Int) := by omega
  have h2 : (m : Int) ≤ (cap : Int) := by omega
  unfold execOp
  simp only [ho, hx, Option.map_some, Option.map_none, hi]
  cases ad with
  | none => go_simp
  | some p =>
    obtain ⟨b, off, sp⟩ := p
    by_cases hz : cap = 0
    · subst hz
      obtain rfl : m = 0 := by omega
      go_simp
      try simp
    · obtain rfl : sp = none := hsp (by omega) _ rfl
      go_simp
end Go.Proofs.YtfhjfpgfbeiacaaDoor.Ha
