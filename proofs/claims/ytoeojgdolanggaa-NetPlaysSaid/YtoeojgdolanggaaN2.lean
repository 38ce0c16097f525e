import Derived.Test.YtoeojgdolanggaaN1
import Derived.Laws.IdiomCopy
namespace Go.Proofs.Ytoeojgdolanggaa
open Go Go.RowKit

/-- a slice of letters of one's own: its cells. -/
def LRow (w : World) (base : Nat) (v : Value) (n : Nat) (cs : List Value) : Prop := w.ownsRow base 43 3 v n cs ∧ ∀ u ∈ cs, u.oneCell' = true
theorem LRow.below {w w' : World} {base n : Nat} {v : Value} {cs : List Value} (h : LRow w base v n cs) (hb : Below w.heap.size w w') : LRow w' base v n cs := ⟨h.1.kept (gb_of hb none) (by cases hv : v.ownBlock <;> simp), h.2⟩
theorem LRow.grown {w w' : World} {base n : Nat} {v : Value} {cs : List Value} {r : Option Nat} (h : LRow w base v n cs) (hb : w.grownBy w' r) (hr : v.ownBlock = none ∨ v.ownBlock ≠ r) : LRow w' base v n cs := ⟨h.1.kept hb hr, h.2⟩
theorem LRow.alloc {w : World} {base n : Nat} {v : Value} {cs : List Value} (h : LRow w base v n cs) (o : Obj) : LRow (w.alloc o) base v n cs := ⟨h.1.alloc o, h.2⟩
theorem LRow.mono {w : World} {base base' n : Nat} {v : Value} {cs : List Value} (h : LRow w base v n cs) (hb : base' ≤ base) : LRow w base' v n cs := ⟨h.1.mono hb, h.2⟩
theorem LRow.other {w : World} {base n : Nat} {v : Value} {cs : List Value} (h : LRow w base v n cs) (p : Addr) (u : Value) (hp : v.ownBlock ≠ some p.block) : LRow (w.setCell p u) base v n cs := ⟨ownsRow_setCell_other h.1 hp u, h.2⟩
theorem LRow.lt {w : World} {base n : Nat} {v : Value} {cs : List Value} (h : LRow w base v n cs) : ∀ k, v.ownBlock = some k → base ≤ k ∧ k < w.heap.size := h.1.lt
theorem LRow.forms {w : World} {base n : Nat} {v : Value} {cs : List Value} (h : LRow w base v n cs) : (v = .slice none 0 0 ∧ n = 0 ∧ cs = []) ∨ ∃ g cap cur, v = .slice (some ⟨g, 0, none⟩) n cap ∧ base ≤ g ∧ Blk w g 43 cur ∧ n ≤ cap ∧ cap ≤ maxLen ∧ cur.size = cap * 3 ∧ cur.toList.take (n * 3) = cs := by
  have hl := h.1.1
  rcases h.1.2 with ⟨h1, h2⟩ | ⟨g, cap, cur, h1, h2, h3, h4, h5, h6, h7⟩
  · subst h2; exact .inl ⟨h1, rfl, List.eq_nil_of_length_eq_zero (by simpa using hl)⟩
  · exact .inr ⟨g, cap, cur, h1, h2, h3, h4, h5, h6, h7⟩
theorem LRow.slice {w : World} {base n : Nat} {v : Value} {cs : List Value} (h : LRow w base v n cs) : ∃ a c, v = .slice a n c ∧ n ≤ c ∧ c ≤ maxLen ∧ (a = none → c = 0) ∧ ∀ p, a = some p → p.off = 0 ∧ p.spot = none := by
  rcases h.forms with ⟨h1, h2, _⟩ | ⟨g, cap, cur, h1, _, _, h4, h5, _⟩
  · exact ⟨none, 0, by rw [h1, h2], by omega, by omega, fun _ => rfl, fun p hp => by cases hp⟩
  · exact ⟨_, _, h1, h4, h5, (fun h => by cases h), fun p hp => by cases hp; exact ⟨rfl, rfl⟩⟩
theorem LRow.nil (w : World) (base : Nat) : LRow w base (.slice none 0 0) 0 [] := ⟨World.ownsRow_nil _ _ _ _, by simp⟩
theorem LRow.cell {w : World} {base n gs c : Nat} {cs : List Value} (h : LRow w base (.slice (some ⟨gs, 0, none⟩) n c) n cs) (j : Nat) (hj : j < n * 3) : w.cell? ⟨gs, j, none⟩ = cs[j]? := h.1.cellAt j hj
theorem info43 : ∃ i, Try.prog.info? 43 = some i ∧ i.size = 3 ∧ i.bytes = 40 ∧ i.zero = some (.agg #[.int .i64 0, .int .i64 0, .slice none 0 0]) := by
  obtain ⟨i, hi⟩ : ∃ i, Try.prog.info? 43 = some i := Option.isSome_iff_exists.1 (by kernel_rfl)
  refine ⟨i, hi, ?_, ?_, ?_⟩
  · have h : (Try.prog.info? 43).map (·.size) = some 3 := by kernel_rfl
    rw [hi] at h; simpa using h
  · have h : (Try.prog.info? 43).map (·.bytes) = some 40 := by kernel_rfl
    rw [hi] at h; simpa using h
  · have h : (Try.prog.info? 43).bind (·.zero) = some (.agg #[.int .i64 0, .int .i64 0, .slice none 0 0]) := by kernel_rfl
    rw [hi] at h; simpa using h
theorem append_ltr (w : World) (base : Nat) (v : Value) (n : Nat) (xs : List Value) (ad : Addr) (m c : Nat) (news : List Value) (hown : LRow w base v n xs) (hl : news.length = m * 3) (hn : ∀ j u, news[j]? = some u → w.cell? (ad.add j) = some u) (h1 : ∀ u ∈ news, u.oneCell' = true) (hnm : n + m ≤ 1000) (hbase : base ≤ w.heap.size) :
    ∃ v' w', (Builtin.append_ #[39, 39] 39 #[v, .slice (some ad) m c]).run Try.prog w = .ok v' w' ∧ LRow w' base v' (n + m) (xs ++ news) ∧ w.grownBy w' v.ownBlock ∧ (v'.ownBlock = v.ownBlock ∨ v'.ownBlock = some w.heap.size) ∧ (v' = .slice none 0 0 ↔ v = .slice none 0 0 ∧ m = 0) := by
  obtain ⟨i, hi, hsz, hby, hz⟩ := info43
  obtain ⟨v', w', r1, r2, r3, r4, r5⟩ := run_append_own_at (P := Try.prog) w base 39 39 43 i (.agg #[.int .i64 0, .int .i64 0, .slice none 0 0]) 3 40 Try.underlying39 hi hz hsz hby (by rfl) (by omega) v n xs hown.1 ad m c news hl hn h1 (by unfold maxLen; omega) (by omega) hbase
  refine ⟨v', w', r1, ⟨r2, fun u hu => ?_⟩, r3, r5, r4⟩
  rcases List.mem_append.1 hu with hu | hu
  · exact hown.2 u hu
  · exact h1 u hu
theorem run_appl (a : Act) (o : Oper) (w w' : World) (x y : Operand) (v u r : Value) (ho : o.op = .call { callee := .builtin .append, args := #[x, y], argTypes := #[39, 39] }) (ht : o.type = 39) (hx : a.eval x = v) (hy : a.eval y = u)
    (h : (Builtin.append_ #[39, 39] 39 #[v, u]).run Try.prog w = .ok r w') : (execOp a.eval o).run Try.prog w = .ok (.value r) w' := by
  unfold execOp
  simp only [ho, resolve, invoke, builtin, Sem.run_bind, Sem.run_pure, Result.andThen_ok, List.map_toArray, List.map_cons, List.map_nil, hx, hy, ht, h]
/-- a letter: whom it is from, and to, the slice of its bytes, and they. -/
structure Ltr where
  f : Int
  t : Int
  v : Value
  xs : List Int
/-- what is told of a letter. -/
def Ltr.key (l : Ltr) : Int × Int × List Int := (l.f, l.t, l.xs)
def Ltr.cells (l : Ltr) : List Value := [.int .i64 l.f, .int .i64 l.t, l.v]
def flat (ls : List Ltr) : List Value := ls.flatMap Ltr.cells
theorem flat_len (ls : List Ltr) : (flat ls).length = ls.length * 3 := by
  induction ls with
  | nil => rfl
  | cons l ls ih => simp [flat, Ltr.cells] at ih ⊢; omega
theorem flat_append (a b : List Ltr) : flat (a ++ b) = flat a ++ flat b := by simp [flat]
theorem flat_take (ls : List Ltr) (k : Nat) : (flat ls).take (k * 3) = flat (ls.take k) := by
  induction ls generalizing k with
  | nil => simp [flat]
  | cons l ls ih =>
    cases k with
    | zero => simp [flat]
    | succ k =>
      have e : (k + 1) * 3 = k * 3 + 1 + 1 + 1 := by omega
      have h := ih k
      simp [flat, Ltr.cells] at h ⊢
      rw [e]
      simp [h]
theorem flat_drop (ls : List Ltr) (k : Nat) : (flat ls).drop (k * 3) = flat (ls.drop k) := by
  induction ls generalizing k with
  | nil => simp [flat]
  | cons l ls ih =>
    cases k with
    | zero => simp [flat]
    | succ k =>
      have e : (k + 1) * 3 = k * 3 + 1 + 1 + 1 := by omega
      have h := ih k
      simp [flat, Ltr.cells] at h ⊢
      rw [e]
      simp [h]
theorem flat_get (ls : List Ltr) (k j : Nat) (l : Ltr) (hk : ls[k]? = some l) (hj : j < 3) : (flat ls)[k * 3 + j]? = l.cells[j]? := by
  have h1 := flat_drop ls k
  have h2 : (flat ls)[k * 3 + j]? = ((flat ls).drop (k * 3))[j]? := by rw [List.getElem?_drop]
  rw [h2, h1]
  obtain ⟨hlt, rfl⟩ := List.getElem?_eq_some_iff.1 hk
  rw [List.drop_eq_getElem_cons hlt]
  show ((ls[k].cells ++ flat (ls.drop (k + 1)))[j]? = _)
  rw [List.getElem?_append_left (by simpa [Ltr.cells] using hj)]
/-- a net at block b: its letters, and the slice that holds them. -/
def NetSt (w : World) (b : Nat) (s : Value) (ls : List Ltr) : Prop :=
  Blk w b 56 #[s] ∧ LRow w (b + 1) s ls.length (flat ls) ∧ ∀ l ∈ ls, Own w (b + 1) l.v l.xs ∧ l.xs.length ≤ 16384
theorem NetSt.below {w w' : World} {b : Nat} {s : Value} {ls : List Ltr} (h : NetSt w b s ls) (hb : Below w.heap.size w w') : NetSt w' b s ls := ⟨h.1.below hb, h.2.1.below hb, fun l hl => ⟨(h.2.2 l hl).1.below hb, (h.2.2 l hl).2⟩⟩
theorem NetSt.lt {w : World} {b : Nat} {s : Value} {ls : List Ltr} (h : NetSt w b s ls) : b < w.heap.size := h.1.lt
/-- a call on a net (or a list) at block b whose slice was s and is now s': nothing else has changed. -/
structure FrN (w w' : World) (b : Nat) (s s' : Value) : Prop where
  os : w'.os = w.os
  tape : w'.tape = w.tape
  output : w'.output = w.output
  size : w.heap.size ≤ w'.heap.size
  block : ∀ k, k < w.heap.size → k ≠ b → s.ownBlock ≠ some k → w'.heap[k]? = w.heap[k]?
  row : ∀ g, s'.ownBlock = some g → s.ownBlock = some g ∨ w.heap.size ≤ g
theorem FrN.of_below {w w' : World} (h : Below w.heap.size w w') (b : Nat) (s : Value) : FrN w w' b s s := ⟨h.os, h.tape, h.output, h.size, fun k hk _ _ => h.block k hk, fun _ hg => .inl hg⟩
theorem FrN.pre {w w1 w2 : World} {b : Nat} {s s' : Value} (h1 : Below w.heap.size w w1) (h2 : FrN w1 w2 b s s') : FrN w w2 b s s' :=
  ⟨h2.os.trans h1.os, h2.tape.trans h1.tape, h2.output.trans h1.output, Nat.le_trans h1.size h2.size, fun k hk hb hs => (h2.block k (Nat.lt_of_lt_of_le hk h1.size) hb hs).trans (h1.block k hk), fun g hg => (h2.row g hg).imp id (fun h => Nat.le_trans h1.size h)⟩
theorem FrN.grown {w w1 w2 : World} {b : Nat} {s v' : Value} (h1 : Below w.heap.size w w1) (h2 : w1.grownBy w2 s.ownBlock) (h3 : v'.ownBlock = s.ownBlock ∨ v'.ownBlock = some w1.heap.size) : FrN w w2 b s v' :=
  FrN.pre h1 ⟨h2.os, h2.tape, h2.output, h2.size, fun k hk _ hs => h2.block k hk (fun e => hs e.symm), fun g hg => h3.elim (fun e => .inl (e ▸ hg)) (fun e => .inr (by rw [e] at hg; cases hg; exact Nat.le_refl _))⟩
theorem FrN.set {w w' : World} {b o : Nat} {s s' : Value} (h : FrN w w' b s s') (u : Value) : FrN w (w'.setCell ⟨b, o, none⟩ u) b s s' :=
  have g := gb_set (gb_refl w' (some b)) o u
  ⟨g.os.trans h.os, g.tape.trans h.tape, g.output.trans h.output, Nat.le_trans h.size g.size, fun k hk hb hs => (g.block k (Nat.lt_of_lt_of_le hk h.size) (fun e => hb (by cases e; rfl))).trans (h.block k hk hb hs), h.row⟩
theorem FrN.below {w w' : World} {b B : Nat} {s s' : Value} (h : FrN w w' b s s') (hb : B ≤ b) (hs : ∀ g, s.ownBlock = some g → B ≤ g) (hB : B ≤ w.heap.size) : Below B w w' :=
  ⟨h.os, h.tape, h.output, h.size, fun k hk => h.block k (by omega) (by omega) (fun e => by have := hs k e; omega)⟩
/-- the blocks of a slice of letters and of bytes are not the same. -/
theorem kinds_ne {w : World} {B B' n : Nat} {s v : Value} {cs : List Value} {xs : List Int} (h : LRow w B s n cs) (h' : Own w B' v xs) : v.ownBlock = none ∨ v.ownBlock ≠ s.ownBlock := by
  rcases h'.form with ⟨e, _⟩ | ⟨g, cap, cur, e, _, hg, _⟩
  · left; rw [e]; rfl
  · right
    rw [e]
    rcases h.forms with ⟨e', _, _⟩ | ⟨g', cap', cur', e', _, hg', _⟩
    · rw [e']; simp [Value.ownBlock]
    · rw [e']
      intro q
      simp [Value.ownBlock] at q
      subst q
      unfold Blk at hg hg'
      rw [hg] at hg'
      simp at hg'
theorem new_any (w : World) : Calls Try.prog 18 #[] w fun e w' => e = .returned (.pointer (some ⟨w.heap.size, 0, none⟩)) ∧ NetSt w' w.heap.size (.slice none 0 0) [] ∧ Below w.heap.size w w' := by
  go_enter Try.func18, Try.ntmps18
  go_wp2
  go_ret
  exact ⟨rfl, ⟨Blk.new _ _ _, LRow.nil _ _, by simp⟩, (Below.refl _ _).alloc (Nat.le_refl _) _⟩
theorem count_any (w : World) (b : Nat) (s : Value) (ls : List Ltr) (h : NetSt w b s ls) : Calls Try.prog 28 #[.pointer (some ⟨b, 0, none⟩)] w fun e w' => e = .returned (.int .i64 (ls.length : Int)) ∧ w = w' := by
  obtain ⟨a, c, hs, _⟩ := h.2.1.slice
  subst hs
  have c0 : w.cell? ⟨b, 0, none⟩ = some (.slice a ls.length c) := by rw [h.1.cell]; rfl
  clear h
  go_enter Try.func28, Try.ntmps28
  go_wp2
  go_ret
  exact ⟨rfl, rfl⟩
/-- where the letter of a number stands. -/
def plc (i : Int) (n : Nat) : Nat := i.toNat % n
theorem plc_lt (i : Int) (n : Nat) (hn : 0 < n) : plc i n < n := Nat.mod_lt _ hn
theorem run_max0 (a : Act) (o : Oper) (w : World) (x : Operand) (i : Int) (ho : o.op = .call { callee := .builtin .max, args := #[x, .const (.int .i64 0)], argTypes := #[3, 3] }) (ht : o.type = 3) (hx : a.eval x = .int .i64 i) : (execOp a.eval o).run Try.prog w = .ok (.value (.int .i64 (i.toNat : Int))) w := by
  have hc : a.eval (.const (.int .i64 0)) = .int .i64 0 := rfl
  have e : max i 0 = (i.toNat : Int) := by omega
  unfold execOp
  simp only [ho, resolve, invoke, builtin, Sem.run_bind, Sem.run_pure, Result.andThen_ok, List.map_toArray, List.map_cons, List.map_nil, hx, hc, ht]
  have m : Builtin.max_ #[3, 3] 3 #[.int .i64 i, .int .i64 0] = pure (.int .i64 (max i 0)) := by
    unfold Builtin.max_
    have : (if i < 0 then 0 else i) = max i 0 := by omega
    simp [Builtin.max2, this]
  rw [m, e]
  rfl
theorem run_remn (a : Act) (o : Oper) (w : World) (x y : Operand) (p q : Nat) (ho : o.op = .binOp .rem 3 x y 3) (hx : a.eval x = .int .i64 (p : Int)) (hy : a.eval y = .int .i64 (q : Int)) (hq : 0 < q) : (execOp a.eval o).run Try.prog w = .ok (.value (.int .i64 ((p % q : Nat) : Int))) w := by
  have h0 : (0 : Int) ≤ (p : Int) := by omega
  have h1 : (0 : Int) < (q : Int) := by omega
  have h2 : ((p : Int)).tmod (q : Int) = ((p % q : Nat) : Int) := by rw [Int.tmod_eq_emod_of_nonneg h0]; rfl
  unfold execOp
  simp only [ho, hx, hy]
  go_simp
  omega
theorem place_any (w : World) (b : Nat) (i : Int) (s : Value) (ls : List Ltr) (h : NetSt w b s ls) (hn : 0 < ls.length) : Calls Try.prog 31 #[.pointer (some ⟨b, 0, none⟩), .int .i64 i] w fun e w' => e = .returned (.int .i64 ((plc i ls.length : Nat) : Int)) ∧ w = w' := by
  obtain ⟨a, c, hs, _⟩ := h.2.1.slice
  subst hs
  have HB := Lib.hid h.1
  have HN := Lib.hid hn
  clear h hn
  go_enter Try.func31, Try.ntmps31
  go_upto_region 1 with (fail)
  refine wp_region_lit ?_
  refine wpL_pure (.int .i64 i) rfl (by kernel_rfl) ?_
  simp only [Act.put, List.setIfInBounds_toArray, List.set_cons_zero, List.set_cons_succ]
  refine wpL_pure (.int .i64 (i.toNat : Int)) rfl (run_max0 _ _ _ _ i rfl rfl rfl) ?_
  simp only [Act.put, List.setIfInBounds_toArray, List.set_cons_zero, List.set_cons_succ]
  refine wpL_pure (.pointer (some ⟨b, 0, none⟩)) rfl (by kernel_rfl) ?_
  simp only [Act.put, List.setIfInBounds_toArray, List.set_cons_zero, List.set_cons_succ]
  refine wpL_pure (.pointer (some ⟨b, 0, none⟩)) rfl (by kernel_rfl) ?_
  simp only [Act.put, List.setIfInBounds_toArray, List.set_cons_zero, List.set_cons_succ]
  refine wpL_pure (.pointer (some ⟨b, 0, none⟩)) rfl (by kernel_rfl) ?_
  simp only [Act.put, List.setIfInBounds_toArray, List.set_cons_zero, List.set_cons_succ]
  refine wpL_pure (.slice a ls.length c) rfl (run_load_one _ _ _ 39 _ _ rfl b 0 rfl (by rw [HB.out.cell]; rfl) (by kernel_rfl)) ?_
  simp only [Act.put, List.setIfInBounds_toArray, List.set_cons_zero, List.set_cons_succ]
  refine wpL_pure (.int .i64 (ls.length : Int)) rfl (by kernel_rfl) ?_
  simp only [Act.put, List.setIfInBounds_toArray, List.set_cons_zero, List.set_cons_succ]
  refine wpL_pure (.int .i64 ((plc i ls.length : Nat) : Int)) rfl (run_remn _ _ _ _ _ i.toNat ls.length rfl rfl rfl HN.out) ?_
  simp only [Act.put, List.setIfInBounds_toArray, List.set_cons_zero, List.set_cons_succ]
  go_wp2_with fail
  go_ret
  exact ⟨rfl, rfl⟩
end Go.Proofs.Ytoeojgdolanggaa
