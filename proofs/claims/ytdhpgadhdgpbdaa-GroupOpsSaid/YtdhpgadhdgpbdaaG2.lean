import Derived.Test.YtdhpgadhdgpbdaaG1
namespace Go.Proofs.Ytdhpgadhdgpbdaa
open Go.RowKit

/-- a group: the owner, the epoch, who is a member, who is gone, up to which entry, how many controls. -/
structure Grp where
  o : Int
  e : Int
  M : Nat → Bool
  G : Nat → Bool
  C : Nat → Int
  s : Int
def Grp.cells (g : Grp) : List Value := [.int .i64 g.o, .int .i64 g.e, .bool (g.M 0), .bool (g.M 1), .bool (g.M 2), .bool (g.M 3), .bool (g.M 4), .bool (g.M 5), .bool (g.G 0), .bool (g.G 1), .bool (g.G 2), .bool (g.G 3), .bool (g.G 4), .bool (g.G 5),
  .int .u64 (g.C 0), .int .u64 (g.C 1), .int .u64 (g.C 2), .int .u64 (g.C 3), .int .u64 (g.C 4), .int .u64 (g.C 5), .int .i64 g.s]
def Blk (w : World) (g : Nat) (t : TypeId) (cs : Array Value) : Prop := w.heap[g]? = some (.cells cs t (0, 0))
theorem Blk.cell {w : World} {g t : Nat} {cs : Array Value} (h : Blk w g t cs) (j : Nat) : w.cell? ⟨g, j, none⟩ = cs[j]? := cell_of_row w _ _ _ _ _ h
theorem Blk.free {w : World} {g t : Nat} {cs : Array Value} (h : Blk w g t cs) (j : Nat) : w.frozen? ⟨g, j, none⟩ = false := frozen_of_row w g j cs t h
theorem Blk.lt {w : World} {g t : Nat} {cs : Array Value} (h : Blk w g t cs) : g < w.heap.size := by
  rcases Nat.lt_or_ge g w.heap.size with h1 | h1
  · exact h1
  · unfold Blk at h; rw [Array.getElem?_eq_none h1] at h; cases h
theorem Blk.alloc {w : World} {g t : Nat} {cs : Array Value} (h : Blk w g t cs) (o : Obj) : Blk (w.alloc o) g t cs := (Below.heap_alloc w o g h.lt).trans h
theorem Blk.new (w : World) (t : TypeId) (cs : Array Value) : Blk (w.alloc (.cells cs t)) w.heap.size t cs := heap_alloc_new w _
theorem Blk.new' (w : World) (t : TypeId) (cs : Array Value) (n : Nat) (hn : n = w.heap.size) : Blk (w.alloc (.cells cs t)) n t cs := by rw [hn]; exact heap_alloc_new w _
theorem Blk.keep {w w1 : World} {B g t : Nat} {cs : Array Value} (h : Blk w g t cs) (hb : Below B w w1) (hg : g < B) : Blk w1 g t cs := (hb.block _ hg).trans h
theorem Blk.set {w : World} {g t : Nat} {l : List Value} (h : Blk w g t l.toArray) (o : Nat) (v : Value) : Blk (w.setCell ⟨g, o, none⟩ v) g t (l.set o v).toArray := by
  have e := heap_setCell_same w g o l.toArray t v h
  simpa [Blk] using e
theorem six {k : Nat} (h : k < 6) : k = 0 ∨ k = 1 ∨ k = 2 ∨ k = 3 ∨ k = 4 ∨ k = 5 := by omega
/-- a block that is a group. -/
def IsG (w : World) (b : Nat) (g : Grp) : Prop := Blk w b 28 g.cells.toArray
theorem IsG.o {w : World} {b : Nat} {g : Grp} (h : IsG w b g) : w.cell? ⟨b, 0, none⟩ = some (.int .i64 g.o) := Blk.cell h 0
theorem IsG.e {w : World} {b : Nat} {g : Grp} (h : IsG w b g) : w.cell? ⟨b, 1, none⟩ = some (.int .i64 g.e) := Blk.cell h 1
theorem IsG.s {w : World} {b : Nat} {g : Grp} (h : IsG w b g) : w.cell? ⟨b, 20, none⟩ = some (.int .i64 g.s) := Blk.cell h 20
theorem IsG.cm {w : World} {b : Nat} {g : Grp} (h : IsG w b g) (k : Nat) (hk : k < 6) : w.cell? ⟨b, 2 + k, none⟩ = some (.bool (g.M k)) := by
  rcases six hk with rfl | rfl | rfl | rfl | rfl | rfl <;> exact Blk.cell h _
theorem IsG.cg {w : World} {b : Nat} {g : Grp} (h : IsG w b g) (k : Nat) (hk : k < 6) : w.cell? ⟨b, 8 + k, none⟩ = some (.bool (g.G k)) := by
  rcases six hk with rfl | rfl | rfl | rfl | rfl | rfl <;> exact Blk.cell h _
theorem IsG.cc {w : World} {b : Nat} {g : Grp} (h : IsG w b g) (k : Nat) (hk : k < 6) : w.cell? ⟨b, 14 + k, none⟩ = some (.int .u64 (g.C k)) := by
  rcases six hk with rfl | rfl | rfl | rfl | rfl | rfl <;> exact Blk.cell h _
def upd {α : Type} (f : Nat → α) (k : Nat) (v : α) : Nat → α := fun i => if i = k then v else f i
theorem IsG.new (w : World) (g : Grp) : IsG (w.alloc (.cells g.cells.toArray 28)) w.heap.size g := Blk.new w 28 _

theorem countB (w : World) (g : Grp) (k : Nat) (hk : k < 6) (q : Int) :
    Calls Try.prog 9 #[.agg g.cells.toArray, .int .i64 ((k : Int) + 1), .int .u64 q] w fun e w' => e = .returned (.bool (g.M k || (g.G k && decide (q ≤ g.C k)))) ∧ Below w.heap.size w w' := by
  have kw := known_any ((k : Int) + 1)
  have hkn : knownB ((k : Int) + 1) = true := by unfold knownB; simp; omega
  rw [hkn] at kw
  have KW := Lib.hid kw
  clear hkn kw
  have k0 : (0 : Int) ≤ (k : Int) := by omega
  have k6 : (k : Int) < 6 := by omega
  have HK := Lib.hid hk
  clear hk
  go_enter Try.func9, Try.ntmps9
  go_upto_region 1 with (fail)
  obtain ⟨W, hW⟩ : ∃ V, V = w.alloc (.cells g.cells.toArray 28) := ⟨_, rfl⟩
  rw [← hW]
  have hG : IsG W w.heap.size g := by rw [hW]; exact IsG.new w g
  have BW : Hid (Below w.heap.size w W) := Lib.hid (by rw [hW]; exact (Below.refl _ _).alloc (Nat.le_refl _) _)
  clear hW
  have cm := hG.cm k HK.out
  have cg := hG.cg k HK.out
  have cc := hG.cc k HK.out
  clear hG
  generalize hb : w.heap.size = b at *
  have HB := Lib.hid hb
  generalize hm : g.M k = m at cm
  generalize hl : g.G k = l at cg
  generalize hc : g.C k = c at cc
  have HM := Lib.hid hm
  have HL := Lib.hid hl
  have HC := Lib.hid hc
  clear hb hm hl hc
  cases m <;> cases l
  all_goals
    go_wp2_with (go_at_call 15; ((with_reducible refine (KW.out _).mono ?_); rintro e w' ⟨rfl, rfl⟩))
    go_ret
    exact ⟨ret_bool (by rw [HM.out, HL.out, HC.out]; simp), by rw [HB.out]; exact BW.out⟩
theorem count_no (w : World) (g : Grp) (x : Int) (hx : knownB x = false) (q : Int) :
    Calls Try.prog 9 #[.agg g.cells.toArray, .int .i64 x, .int .u64 q] w fun e w' => e = .returned (.bool false) ∧ Below w.heap.size w w' := by
  have kw := known_any x
  rw [hx] at kw
  have KW := Lib.hid kw
  clear hx kw
  go_enter Try.func9, Try.ntmps9
  go_wp2_with (go_at_call 15; ((with_reducible refine (KW.out _).mono ?_); rintro e w' ⟨rfl, rfl⟩))
  go_ret
  exact ⟨rfl, (Below.refl _ _).alloc (Nat.le_refl _) _⟩
theorem is_yes (w : World) (g : Grp) (k : Nat) (hk : k < 6) :
    Calls Try.prog 12 #[.agg g.cells.toArray, .int .i64 ((k : Int) + 1)] w fun e w' => e = .returned (.bool (g.M k)) ∧ Below w.heap.size w w' := by
  have kw := known_any ((k : Int) + 1)
  have hkn : knownB ((k : Int) + 1) = true := by unfold knownB; simp; omega
  rw [hkn] at kw
  have KW := Lib.hid kw
  clear hkn kw
  have k0 : (0 : Int) ≤ (k : Int) := by omega
  have k6 : (k : Int) < 6 := by omega
  have HK := Lib.hid hk
  clear hk
  go_enter Try.func12, Try.ntmps12
  go_upto_region 1 with (fail)
  obtain ⟨W, hW⟩ : ∃ V, V = w.alloc (.cells g.cells.toArray 28) := ⟨_, rfl⟩
  rw [← hW]
  have hG : IsG W w.heap.size g := by rw [hW]; exact IsG.new w g
  have BW : Hid (Below w.heap.size w W) := Lib.hid (by rw [hW]; exact (Below.refl _ _).alloc (Nat.le_refl _) _)
  clear hW
  have cm := hG.cm k HK.out
  clear hG
  generalize hb : w.heap.size = b at *
  have HB := Lib.hid hb
  generalize hm : g.M k = m at cm
  have HM := Lib.hid hm
  clear hb hm
  cases m
  all_goals
    go_wp2_with (go_at_call 15; ((with_reducible refine (KW.out _).mono ?_); rintro e w' ⟨rfl, rfl⟩))
    go_ret
    exact ⟨ret_bool (by rw [HM.out]), by rw [HB.out]; exact BW.out⟩
theorem is_no (w : World) (g : Grp) (x : Int) (hx : knownB x = false) :
    Calls Try.prog 12 #[.agg g.cells.toArray, .int .i64 x] w fun e w' => e = .returned (.bool false) ∧ Below w.heap.size w w' := by
  have kw := known_any x
  rw [hx] at kw
  have KW := Lib.hid kw
  clear hx kw
  go_enter Try.func12, Try.ntmps12
  go_wp2_with (go_at_call 15; ((with_reducible refine (KW.out _).mono ?_); rintro e w' ⟨rfl, rfl⟩))
  go_ret
  exact ⟨rfl, (Below.refl _ _).alloc (Nat.le_refl _) _⟩

/-- may the op come, if it could be at all? -/
def fitsB (g : Grp) (wr op mb : Int) : Bool :=
  if op = 1 then decide (g.o = 0) else if wr ≠ g.o then false else if op = 2 then !g.M (mb - 1).toNat && !g.G (mb - 1).toNat else if op = 3 ∨ op = 5 then g.M (mb - 1).toNat && decide (mb ≠ g.o) else true
theorem fits_create (w : World) (g : Grp) (wr mb : Int) :
    Calls Try.prog 14 #[.agg g.cells.toArray, .int .i64 wr, .int .i64 1, .int .i64 mb] w fun e w' => e = .returned (.bool (decide (g.o = 0))) ∧ Below w.heap.size w w' := by
  go_enter Try.func14, Try.ntmps14
  go_upto_region 1 with (fail)
  obtain ⟨W, hW⟩ : ∃ V, V = w.alloc (.cells g.cells.toArray 28) := ⟨_, rfl⟩
  rw [← hW]
  have hG : IsG W w.heap.size g := by rw [hW]; exact IsG.new w g
  have BW : Hid (Below w.heap.size w W) := Lib.hid (by rw [hW]; exact (Below.refl _ _).alloc (Nat.le_refl _) _)
  clear hW
  have co := hG.o
  clear hG
  generalize hb : w.heap.size = b at *
  have HB := Lib.hid hb
  clear hb
  go_wp2
  go_ret
  exact ⟨ret_bool (by first | rfl | simp), by rw [HB.out]; exact BW.out⟩
theorem fits_other (w : World) (g : Grp) (wr op mb : Int) (h1 : op ≠ 1) (ho : wr ≠ g.o) :
    Calls Try.prog 14 #[.agg g.cells.toArray, .int .i64 wr, .int .i64 op, .int .i64 mb] w fun e w' => e = .returned (.bool false) ∧ Below w.heap.size w w' := by
  have h1' : (op == 1) = false := by simpa using h1
  have ho' : (wr != g.o) = true := by simpa using ho
  clear h1 ho
  go_enter Try.func14, Try.ntmps14
  go_upto_region 1 with (fail)
  obtain ⟨W, hW⟩ : ∃ V, V = w.alloc (.cells g.cells.toArray 28) := ⟨_, rfl⟩
  rw [← hW]
  have hG : IsG W w.heap.size g := by rw [hW]; exact IsG.new w g
  have BW : Hid (Below w.heap.size w W) := Lib.hid (by rw [hW]; exact (Below.refl _ _).alloc (Nat.le_refl _) _)
  clear hW
  have co := hG.o
  clear hG
  generalize hb : w.heap.size = b at *
  have HB := Lib.hid hb
  clear hb
  go_wp2
  go_ret
  exact ⟨rfl, by rw [HB.out]; exact BW.out⟩
/-- of the owner, with a member: 2, 3, 5. -/
theorem fits_with (w : World) (g : Grp) (op : Int) (k : Nat) (hk : k < 6) (hop : op = 2 ∨ op = 3 ∨ op = 5) :
    Calls Try.prog 14 #[.agg g.cells.toArray, .int .i64 g.o, .int .i64 op, .int .i64 ((k : Int) + 1)] w fun e w' => e = .returned (.bool (if op = 2 then !g.M k && !g.G k else g.M k && decide ((k : Int) + 1 ≠ g.o))) ∧ Below w.heap.size w w' := by
  have k0 : (0 : Int) ≤ (k : Int) := by omega
  have k6 : (k : Int) < 6 := by omega
  have HK := Lib.hid hk
  have HOP := Lib.hid hop
  clear hk hop
  rcases HOP.out with rfl | rfl | rfl
  all_goals
    clear HOP
    go_enter Try.func14, Try.ntmps14
    go_upto_region 1 with (fail)
    obtain ⟨W, hW⟩ : ∃ V, V = w.alloc (.cells g.cells.toArray 28) := ⟨_, rfl⟩
    rw [← hW]
    have hG : IsG W w.heap.size g := by rw [hW]; exact IsG.new w g
    have BW : Hid (Below w.heap.size w W) := Lib.hid (by rw [hW]; exact (Below.refl _ _).alloc (Nat.le_refl _) _)
    clear hW
    have co := hG.o
    have cm := hG.cm k HK.out
    have cg := hG.cg k HK.out
    clear hG
    generalize hb : w.heap.size = b at *
    have HB := Lib.hid hb
    generalize hm : g.M k = m at cm
    generalize hl : g.G k = l at cg
    have HM := Lib.hid hm
    have HL := Lib.hid hl
    clear hb hm hl
    cases m <;> cases l
    all_goals
      go_wp2
      go_ret
      exact ⟨ret_bool (by (try rw [HM.out]); (try rw [HL.out]); first | rfl | simp), by rw [HB.out]; exact BW.out⟩
theorem fits_four (w : World) (g : Grp) (mb : Int) :
    Calls Try.prog 14 #[.agg g.cells.toArray, .int .i64 g.o, .int .i64 4, .int .i64 mb] w fun e w' => e = .returned (.bool true) ∧ Below w.heap.size w w' := by
  go_enter Try.func14, Try.ntmps14
  go_upto_region 1 with (fail)
  obtain ⟨W, hW⟩ : ∃ V, V = w.alloc (.cells g.cells.toArray 28) := ⟨_, rfl⟩
  rw [← hW]
  have hG : IsG W w.heap.size g := by rw [hW]; exact IsG.new w g
  have BW : Hid (Below w.heap.size w W) := Lib.hid (by rw [hW]; exact (Below.refl _ _).alloc (Nat.le_refl _) _)
  clear hW
  have co := hG.o
  clear hG
  generalize hb : w.heap.size = b at *
  have HB := Lib.hid hb
  clear hb
  go_wp2
  go_ret
  exact ⟨rfl, by rw [HB.out]; exact BW.out⟩
theorem known_nat (x : Int) (h : knownB x = true) : ∃ k : Nat, k < 6 ∧ x = (k : Int) + 1 := by
  unfold knownB at h
  simp only [decide_eq_true_eq] at h
  exact ⟨(x - 1).toNat, by omega, by omega⟩
theorem fits_any (w : World) (g : Grp) (wr op mb : Int) (h : askedB wr op mb = true) :
    Calls Try.prog 14 #[.agg g.cells.toArray, .int .i64 wr, .int .i64 op, .int .i64 mb] w fun e w' => e = .returned (.bool (fitsB g wr op mb)) ∧ Below w.heap.size w w' := by
  unfold askedB at h
  simp only [Bool.and_eq_true, decide_eq_true_eq] at h
  obtain ⟨⟨hw, hop1, hop5⟩, hm⟩ := h
  by_cases h1 : op = 1
  · subst h1
    have := fits_create w g wr mb
    simpa [fitsB] using this
  by_cases ho : wr = g.o
  · subst ho
    by_cases h4 : op = 4
    · subst h4
      have := fits_four w g mb
      simpa [fitsB] using this
    · have hop : op = 2 ∨ op = 3 ∨ op = 5 := by omega
      rw [if_pos hop] at hm
      obtain ⟨k, hk, rfl⟩ := known_nat mb hm
      have := fits_with w g op k hk hop
      have e : ((k : Int) + 1 - 1).toNat = k := by omega
      unfold fitsB
      rw [if_neg h1, if_neg (by simp), e]
      by_cases h2 : op = 2
      · rw [if_pos h2] at this ⊢; exact this
      · rw [if_neg h2] at this ⊢; rw [if_pos (by omega)]; exact this
  · have := fits_other w g wr op mb h1 ho
    unfold fitsB
    rw [if_neg h1, if_pos ho]
    exact this
end Go.Proofs.Ytdhpgadhdgpbdaa
