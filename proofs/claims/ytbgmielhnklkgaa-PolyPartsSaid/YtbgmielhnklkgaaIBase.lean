/- Rows of integers: slices of int that are read, and slices of one's own that grow. -/
import Derived.Test.YtbgmielhnklkgaaBase
namespace Go.Proofs.Ytbgmielhnklkgaa.I
open Go Go.RowKit

theorem run_idx (a : Act) (o : Oper) (w : World) (x i : Operand) (g off n c k : Nat) (ho : o.op = .indexAddr 43 x i) (hx : a.eval x = .slice (some ⟨g, off, none⟩) n c) (hi : a.eval i = .int .i64 (k : Int)) (hk : k < n) (hn : n ≤ maxLen) : (execOp a.eval o).run Try.prog w = .ok (.value (.pointer (some ⟨g, off + k, none⟩))) w := by
  unfold maxLen at hn
  have j0 : (0 : Int) ≤ (k : Int) := by omega
  have j6 : (k : Int) < (n : Int) := by omega
  unfold execOp
  simp only [ho, hx, hi]
  go_simp

/-- a slice that shows these integers. -/
def Row (w : World) (a : Option Addr) (n : Nat) (xs : List Int) : Prop := xs.length = n ∧ n ≤ maxLen ∧ True ∧ ∀ j, j < n → ∃ g o, a = some ⟨g, o, none⟩ ∧ w.cell? ⟨g, o + j, none⟩ = some (.int .i64 (xs.getD j 0))
theorem Row.below {w w' : World} {a : Option Addr} {n : Nat} {xs : List Int} (h : Row w a n xs) (B : Nat) (hb : Below B w w') (hB : w.heap.size ≤ B) : Row w' a n xs := by
  refine ⟨h.1, h.2.1, h.2.2.1, fun j hj => ?_⟩
  obtain ⟨g, o, h1, h2⟩ := h.2.2.2 j hj
  exact ⟨g, o, h1, (hb.cell (p := ⟨g, o + j, none⟩) (Nat.lt_of_lt_of_le (World.block_lt_of_cell? w _ h2) hB)).trans h2⟩
theorem Row.keep {w w' : World} {a : Option Addr} {n : Nat} {xs : List Int} (h : Row w a n xs) (hb : Below w.heap.size w w') : Row w' a n xs := h.below _ hb (Nat.le_refl _)
theorem Row.grown {w w' : World} {a : Option Addr} {n : Nat} {xs : List Int} {r : Option Nat} (h : Row w a n xs) (hb : w.grownBy w' r) (hr : ∀ p, a = some p → some p.block ≠ r) : Row w' a n xs := by
  refine ⟨h.1, h.2.1, h.2.2.1, fun j hj => ?_⟩
  obtain ⟨g, o, h1, h2⟩ := h.2.2.2 j hj
  exact ⟨g, o, h1, hb.cell h2 (by have := hr _ h1; exact this)⟩
theorem Row.setOther {w : World} {a : Option Addr} {n : Nat} {xs : List Int} (h : Row w a n xs) (q : Addr) (v : Value) (hr : ∀ p, a = some p → p.block ≠ q.block) : Row (w.setCell q v) a n xs := by
  refine ⟨h.1, h.2.1, h.2.2.1, fun j hj => ?_⟩
  obtain ⟨g, o, h1, h2⟩ := h.2.2.2 j hj
  exact ⟨g, o, h1, (World.cell?_of_block (a := ⟨g, o + j, none⟩) (heap_setCell_other _ _ _ _ (by have := hr _ h1; exact this))).trans h2⟩
theorem Row.sub {w : World} {g off n : Nat} {xs : List Int} (h : Row w (some ⟨g, off, none⟩) n xs) (i m : Nat) (hm : i + m ≤ n) : Row w (some ⟨g, off + i, none⟩) m ((xs.drop i).take m) := by
  refine ⟨by rw [List.length_take, List.length_drop, h.1]; omega, by have := h.2.1; omega, trivial, fun j hj => ?_⟩
  obtain ⟨g', o', e, hc⟩ := h.2.2.2 (i + j) (by omega)
  simp only [Option.some.injEq, Addr.mk.injEq, and_true] at e
  obtain ⟨rfl, rfl⟩ := e
  refine ⟨_, _, rfl, ?_⟩
  rw [Nat.add_assoc, hc]
  simp [List.getD, List.getElem?_take, List.getElem?_drop, hj]
theorem Row.nil (w : World) (a : Option Addr) : Row w a 0 [] := ⟨rfl, by simp [maxLen], trivial, fun j hj => absurd hj (by omega)⟩
/-- a slice of one's own that holds these integers. -/
def Own (w : World) (base : Nat) (v : Value) (xs : List Int) : Prop := w.ownsRow base 3 1 v xs.length (xs.map (Value.int .i64)) ∧ True
theorem Own.form {w : World} {base : Nat} {v : Value} {xs : List Int} (h : Own w base v xs) : (v = .slice none 0 0 ∧ xs = []) ∨ ∃ g cap cur, v = .slice (some ⟨g, 0, none⟩) xs.length cap ∧ base ≤ g ∧ Blk w g 3 cur ∧ xs.length ≤ cap ∧ cap ≤ maxLen ∧ cur.size = cap ∧ cur.toList.take xs.length = xs.map (Value.int .i64) := by
  rcases h.1.2 with ⟨h1, h2⟩ | ⟨g, cap, cur, h1, h2, h3, h4, h5, h6, h7⟩
  · exact .inl ⟨h1, List.eq_nil_of_length_eq_zero h2⟩
  · exact .inr ⟨g, cap, cur, h1, h2, h3, h4, h5, by simpa using h6, by simpa using h7⟩
theorem Own.len {w : World} {base : Nat} {v : Value} {xs : List Int} (h : Own w base v xs) : xs.length ≤ maxLen := by
  rcases h.form with ⟨_, rfl⟩ | ⟨_, _, _, _, _, _, h4, h5, _⟩
  · simp [maxLen]
  · omega
theorem Own.row {w : World} {base : Nat} {a : Option Addr} {n c : Nat} {xs : List Int} (h : Own w base (.slice a n c) xs) : Row w a n xs ∧ n ≤ c := by
  have hm := h.len
  rcases h.form with ⟨h1, h2⟩ | ⟨g, cap, cur, h1, h2, h3, h4, h5, h6, h7⟩
  · simp only [Value.slice.injEq] at h1
    obtain ⟨rfl, rfl, rfl⟩ := h1
    subst h2
    exact ⟨Row.nil _ _, by omega⟩
  · simp only [Value.slice.injEq] at h1
    obtain ⟨rfl, rfl, rfl⟩ := h1
    refine ⟨⟨rfl, by omega, trivial, fun j hj => ⟨g, 0, rfl, ?_⟩⟩, h4⟩
    rw [h3.cell, Nat.zero_add]
    have e : (cur.toList.take xs.length)[j]? = (xs.map (Value.int .i64))[j]? := by rw [h7]
    rw [List.getElem?_take, if_pos hj, List.getElem?_map, List.getElem?_eq_getElem (l := xs) hj] at e
    rw [← Array.getElem?_toList, e]
    simp [List.getD, List.getElem?_eq_getElem hj]
theorem Own.below {w w' : World} {base : Nat} {v : Value} {xs : List Int} (h : Own w base v xs) (hb : Below w.heap.size w w') : Own w' base v xs :=
  ⟨h.1.kept (gb_of hb none) (by cases hv : v.ownBlock <;> simp), h.2⟩
theorem Own.grown {w w' : World} {base : Nat} {v : Value} {xs : List Int} {r : Option Nat} (h : Own w base v xs) (hb : w.grownBy w' r) (hr : v.ownBlock = none ∨ v.ownBlock ≠ r) : Own w' base v xs := ⟨h.1.kept hb hr, h.2⟩
theorem Own.alloc {w : World} {base : Nat} {v : Value} {xs : List Int} (h : Own w base v xs) (o : Obj) : Own (w.alloc o) base v xs := ⟨h.1.alloc o, h.2⟩
theorem Own.drew {w : World} {base : Nat} {v : Value} {xs : List Int} (h : Own w base v xs) : Own w.drew base v xs := h
theorem Own.other {w : World} {base : Nat} {v : Value} {xs : List Int} (h : Own w base v xs) (p : Addr) (u : Value) (hp : v.ownBlock ≠ some p.block) : Own (w.setCell p u) base v xs := ⟨ownsRow_setCell_other h.1 hp u, h.2⟩
theorem Own.mono {w : World} {base base' : Nat} {v : Value} {xs : List Int} (h : Own w base v xs) (hb : base' ≤ base) : Own w base' v xs := ⟨h.1.mono hb, h.2⟩
theorem Own.nil (w : World) (base : Nat) : Own w base (.slice none 0 0) [] := ⟨World.ownsRow_nil _ _ _ _, trivial⟩
theorem Own.lt {w : World} {base : Nat} {v : Value} {xs : List Int} (h : Own w base v xs) : ∀ k, v.ownBlock = some k → base ≤ k ∧ k < w.heap.size := h.1.lt
theorem Own.slice {w : World} {base : Nat} {v : Value} {xs : List Int} (h : Own w base v xs) : ∃ a c, v = .slice a xs.length c := by
  rcases h.form with ⟨h1, h2⟩ | ⟨g, cap, cur, h1, _⟩
  · exact ⟨none, 0, by rw [h1, h2]; rfl⟩
  · exact ⟨_, _, h1⟩
theorem map_append_i64 (xs ys : List Int) : (xs ++ ys).map (Value.int .i64) = xs.map (Value.int .i64) ++ ys.map (Value.int .i64) := List.map_append
theorem append_own (w : World) (base : Nat) (v : Value) (xs ys : List Int) (a : Option Addr) (m c : Nat) (hown : Own w base v xs) (hr : Row w a m ys) (hnm : (xs.length + m) * 8 ≤ 140737488355328) (hbase : base ≤ w.heap.size) :
    ∃ v' w', (Builtin.append_ #[43, 43] 43 #[v, .slice a m c]).run Try.prog w = .ok v' w' ∧ Own w' base v' (xs ++ ys) ∧ w.grownBy w' v.ownBlock ∧ (v'.ownBlock = v.ownBlock ∨ v'.ownBlock = some w.heap.size) ∧ (v' = .slice none 0 0 ↔ v = .slice none 0 0 ∧ m = 0) := by
  obtain ⟨i, hi⟩ : ∃ i, Try.prog.info? 3 = some i := Option.isSome_iff_exists.1 (by kernel_rfl)
  have hsz : i.size = 1 := by
    have h : (Try.prog.info? 3).map (·.size) = some 1 := by kernel_rfl
    rw [hi] at h; simpa using h
  have hby : i.bytes = 8 := by
    have h : (Try.prog.info? 3).map (·.bytes) = some 8 := by kernel_rfl
    rw [hi] at h; simpa using h
  have hz : i.zero = some (.int .i64 0) := by
    have h : (Try.prog.info? 3).bind (·.zero) = some (.int .i64 0) := by kernel_rfl
    rw [hi] at h; simpa using h
  by_cases hm : m = 0
  · subst hm
    obtain rfl : ys = [] := List.eq_nil_of_length_eq_zero hr.1
    have hS : Src Try.prog i.size 43 (.slice a 0 c) 0 [] w := by
      cases a with
      | none => exact Src.ofNil w Try.underlying43 c
      | some ad => exact Src.ofSlice w Try.underlying43 ad 0 c [] (by simp) (by simp) (by simp)
    rcases hown.form with ⟨rfl, rfl⟩ | ⟨g, cap, cur, rfl, h2, h3, h4, h5, h6, h7⟩
    · exact ⟨_, w, run_append_nothing w 43 43 43 3 i Try.underlying43 hi none 0 0 (Nat.le_refl _) _ hS, by simpa using hown, gb_refl _ _, .inl rfl, by simp⟩
    · exact ⟨_, w, run_append_nothing w 43 43 43 3 i Try.underlying43 hi _ _ _ h4 _ hS, by simpa using hown, gb_refl _ _, .inl rfl, by simp⟩
  · obtain ⟨g, o, rfl, _⟩ := hr.2.2.2 0 (by omega)
    obtain ⟨v', w', r1, r2, r3, r4, r5⟩ := run_append_own_at (P := Try.prog) w base 43 43 3 i (.int .i64 0) 1 8 Try.underlying43 hi hz hsz hby (by rfl) (by omega) v xs.length (xs.map (Value.int .i64)) hown.1
      ⟨g, o, none⟩ m c (ys.map (Value.int .i64)) (by simp [hr.1]) (fun j u hu => by
        rw [List.getElem?_map] at hu
        have hj : j < ys.length := by
          rcases Nat.lt_or_ge j ys.length with hj | hj
          · exact hj
          · rw [List.getElem?_eq_none hj] at hu; cases hu
        rw [List.getElem?_eq_getElem hj] at hu
        obtain ⟨g', o', e', hc⟩ := hr.2.2.2 j (by rw [← hr.1]; exact hj)
        simp only [Option.some.injEq, Addr.mk.injEq, and_true] at e'
        obtain ⟨rfl, rfl⟩ := e'
        rw [Addr.add_lit, hc, ← hu]
        simp [List.getD, List.getElem?_eq_getElem hj]) (by intro u hu; obtain ⟨x, _, rfl⟩ := List.mem_map.1 hu; rfl) (by unfold maxLen; omega) (by omega) hbase
    refine ⟨v', w', r1, ⟨?_, trivial⟩, r3, r5, r4⟩
    · rw [List.map_append, List.length_append, hr.1]; exact r2
theorem run_app (a : Act) (o : Oper) (w w' : World) (x y : Operand) (v u r : Value) (ho : o.op = .call { callee := .builtin .append, args := #[x, y], argTypes := #[43, 43] }) (ht : o.type = 43) (hx : a.eval x = v) (hy : a.eval y = u)
    (h : (Builtin.append_ #[43, 43] 43 #[v, u]).run Try.prog w = .ok r w') : (execOp a.eval o).run Try.prog w = .ok (.value r) w' := by
  unfold execOp
  simp only [ho, resolve, invoke, builtin, Sem.run_bind, Sem.run_pure, Result.andThen_ok, List.map_toArray, List.map_cons, List.map_nil, hx, hy, ht, h]
end Go.Proofs.Ytbgmielhnklkgaa.I
