/- The reference's New. -/
import Derived.Test.YticjpjbmjnalhaaF8
import Derived.Maps.AppendAt
namespace Go.Proofs.Yticjpjbmjnalhaa
open Go Go.RowKit
set_option maxRecDepth 100000
theorem append56 (w : World) (base : Nat) (v : Value) (n : Nat) (xs : List Value) (u : Value) (g : Nat) (hown : w.ownsRow base 22 1 v n xs) (hu : u.oneCell' = true) (hc : w.cell? ⟨g, 0, none⟩ = some u) (hn : n ≤ 100) (hbase : base ≤ w.heap.size) :
    ∃ v' w', (Builtin.append_ #[56, 56] 56 #[v, .slice (some ⟨g, 0, none⟩) 1 1]).run Try.prog w = .ok v' w' ∧ w'.ownsRow base 22 1 v' (n + 1) (xs ++ [u]) ∧ w.grownBy w' v.ownBlock ∧ (v'.ownBlock = v.ownBlock ∨ v'.ownBlock = some w.heap.size) := by
  obtain ⟨i, hi⟩ : ∃ i, Try.prog.info? 22 = some i := Option.isSome_iff_exists.1 (by kernel_rfl)
  have hsz : i.size = 1 := by
    have h : (Try.prog.info? 22).map (·.size) = some 1 := by kernel_rfl
    rw [hi] at h; simpa using h
  have hby : i.bytes = 24 := by
    have h : (Try.prog.info? 22).map (·.bytes) = some 24 := by kernel_rfl
    rw [hi] at h; simpa using h
  have hz : i.zero = some (.slice none 0 0) := by
    have h : (Try.prog.info? 22).bind (·.zero) = some (.slice none 0 0) := by kernel_rfl
    rw [hi] at h; simpa using h
  obtain ⟨v', w', r1, r2, r3, _, r5⟩ := run_append_own_at (P := Try.prog) w base 56 56 22 i (.slice none 0 0) 1 24 Try.underlying56 hi hz hsz hby (by rfl) (by omega) v n xs hown ⟨g, 0, none⟩ 1 1 [u] (by simp)
    (fun j q hq => by
      cases j with
      | zero => simp at hq; subst hq; rw [Addr.add_lit]; exact hc
      | succ j => simp at hq) (by simpa using hu) (by unfold maxLen; omega) (by omega) hbase
  exact ⟨v', w', r1, r2, r3, r5⟩
theorem run_app56 (a : Act) (o : Oper) (w w' : World) (x y : Operand) (v u r : Value) (ho : o.op = .call { callee := .builtin .append, args := #[x, y], argTypes := #[56, 56] }) (ht : o.type = 56) (hx : a.eval x = v) (hy : a.eval y = u)
    (h : (Builtin.append_ #[56, 56] 56 #[v, u]).run Try.prog w = .ok r w') : (execOp a.eval o).run Try.prog w = .ok (.value r) w' := by
  unfold execOp
  simp only [ho, resolve, invoke, builtin, Sem.run_bind, Sem.run_pure, Result.andThen_ok, List.map_toArray, List.map_cons, List.map_nil, hx, hy, ht, h]
theorem size56 (w' : World) : (sizeOf 56).run Try.prog w' = .ok 1 w' := by kernel_rfl
theorem append57 (w : World) (base : Nat) (v : Value) (n : Nat) (xs : List Value) (u : Value) (g : Nat) (hown : w.ownsRow base 4 1 v n xs) (hu : u.oneCell' = true) (hc : w.cell? ⟨g, 0, none⟩ = some u) (hn : n ≤ 100) (hbase : base ≤ w.heap.size) :
    ∃ v' w', (Builtin.append_ #[57, 57] 57 #[v, .slice (some ⟨g, 0, none⟩) 1 1]).run Try.prog w = .ok v' w' ∧ w'.ownsRow base 4 1 v' (n + 1) (xs ++ [u]) ∧ w.grownBy w' v.ownBlock ∧ (v'.ownBlock = v.ownBlock ∨ v'.ownBlock = some w.heap.size) := by
  obtain ⟨i, hi⟩ : ∃ i, Try.prog.info? 4 = some i := Option.isSome_iff_exists.1 (by kernel_rfl)
  have hsz : i.size = 1 := by
    have h : (Try.prog.info? 4).map (·.size) = some 1 := by kernel_rfl
    rw [hi] at h; simpa using h
  have hby : i.bytes = 1 := by
    have h : (Try.prog.info? 4).map (·.bytes) = some 1 := by kernel_rfl
    rw [hi] at h; simpa using h
  have hz : i.zero = some (.bool false) := by
    have h : (Try.prog.info? 4).bind (·.zero) = some (.bool false) := by kernel_rfl
    rw [hi] at h; simpa using h
  obtain ⟨v', w', r1, r2, r3, _, r5⟩ := run_append_own_at (P := Try.prog) w base 57 57 4 i (.bool false) 1 1 Try.underlying57 hi hz hsz hby (by rfl) (by omega) v n xs hown ⟨g, 0, none⟩ 1 1 [u] (by simp)
    (fun j q hq => by
      cases j with
      | zero => simp at hq; subst hq; rw [Addr.add_lit]; exact hc
      | succ j => simp at hq) (by simpa using hu) (by unfold maxLen; omega) (by omega) hbase
  exact ⟨v', w', r1, r2, r3, r5⟩
theorem run_app57 (a : Act) (o : Oper) (w w' : World) (x y : Operand) (v u r : Value) (ho : o.op = .call { callee := .builtin .append, args := #[x, y], argTypes := #[57, 57] }) (ht : o.type = 57) (hx : a.eval x = v) (hy : a.eval y = u)
    (h : (Builtin.append_ #[57, 57] 57 #[v, u]).run Try.prog w = .ok r w') : (execOp a.eval o).run Try.prog w = .ok (.value r) w' := by
  unfold execOp
  simp only [ho, resolve, invoke, builtin, Sem.run_bind, Sem.run_pure, Result.andThen_ok, List.map_toArray, List.map_cons, List.map_nil, hx, hy, ht, h]
theorem size57 (w' : World) : (sizeOf 57).run Try.prog w' = .ok 1 w' := by kernel_rfl
def z64 : List Int := List.replicate 64 0
theorem z64_ok : SOk z64 := ⟨by simp [z64], fun x hx => by rw [List.eq_of_mem_replicate hx]; omega⟩
theorem bp_zero (w : World) (cs : Array Value) (hc : cs = (List.replicate 64 (Value.int .u8 0)).toArray) : BP (w.alloc (.cells cs 5)) w.heap.size 5 64 (rowF z64) := by
  subst hc
  exact ⟨List.replicate 64 (.int .u8 0), Blk.new w 5 _, fun k hk => by
    unfold rowF z64
    rw [List.getElem?_replicate, if_pos hk]
    simp only [List.getD, List.getElem?_replicate, if_pos hk, Option.getD_some]⟩
theorem own_tag {w : World} {base e n : Nat} {v : Value} {xs : List Value} (h : w.ownsRow base e 1 v n xs) {g : Nat} (hg : v.ownBlock = some g) : ∃ cs, Blk w g e cs := by
  rcases h.2 with ⟨rfl, _⟩ | ⟨g', cap, cur, rfl, _, hgg, _⟩
  · simp [Value.ownBlock] at hg
  · simp [Value.ownBlock] at hg
    subst hg
    exact ⟨cur, hgg⟩
theorem own_one {w : World} {base e n : Nat} {v : Value} {xs : List Value} (h : w.ownsRow base e 1 v n xs) : v.oneCell' = true := by
  rcases h.2 with ⟨rfl, _⟩ | ⟨g', cap, cur, rfl, _⟩ <;> rfl
theorem own_ne {w : World} {base e n t g : Nat} {v : Value} {xs : List Value} {cs : Array Value} (h : w.ownsRow base e 1 v n xs) (hb : Blk w g t cs) (ht : t ≠ e) : v.ownBlock ≠ some g := by
  intro q
  obtain ⟨cs', h2⟩ := own_tag h q
  unfold Blk at hb h2
  rw [hb] at h2
  simp at h2
  exact ht h2.2
/-- the reference's disk, while it is made: a, b, c entries are there. -/
structure NS (w : World) (base r a b c : Nat) (vN vW vI : Value) (pN pW : Nat → Nat) : Prop where
  cells : Blk w r 59 (RL vN vW vI (-1) false).toArray
  oN : w.ownsRow base 22 1 vN a ((List.range a).map (secF pN (fun _ => 64)))
  oW : w.ownsRow base 22 1 vW b ((List.range b).map (secF pW (fun _ => 64)))
  oI : w.ownsRow base 4 1 vI c (List.replicate c (.bool false))
  rN : ∀ j, j < a → BP w (pN j) 5 64 (rowF z64)
  rW : ∀ j, j < b → BP w (pW j) 5 64 (rowF z64)
  aN : ∀ i j, i < a → j < a → i ≠ j → pN i ≠ pN j
  aW : ∀ i j, i < b → j < b → i ≠ j → pW i ≠ pW j
  aX : ∀ i j, i < a → j < b → pN i ≠ pW j
  nNW : ∀ g, vN.ownBlock = some g → vW.ownBlock ≠ some g
  base0 : base ≤ r
  base2 : (∀ j, j < a → base ≤ pN j) ∧ ∀ j, j < b → base ≤ pW j
  size : base ≤ w.heap.size
def NW (w : World) (base r a b c : Nat) : Prop := ∃ vN vW vI pN pW, NS w base r a b c vN vW vI pN pW
theorem nw_zero {W1 : World} {r : Nat} (w : World) (hr : w.heap.size = r) (hW : W1 = w.alloc (.cells (RL (.slice none 0 0) (.slice none 0 0) (.slice none 0 0) (-1) false).toArray 59)) : NW W1 w.heap.size r 0 0 0 :=
  ⟨.slice none 0 0, .slice none 0 0, .slice none 0 0, fun _ => 0, fun _ => 0,
    { cells := by rw [hW, ← hr]; exact Blk.new _ _ _, oN := World.ownsRow_nil _ _ _ _, oW := World.ownsRow_nil _ _ _ _, oI := World.ownsRow_nil _ _ _ _, rN := fun j hj => by omega, rW := fun j hj => by omega, aN := fun i j hi => by omega, aW := fun i j hi => by omega, aX := fun i j hi => by omega, nNW := fun g hg => by simp [Value.ownBlock] at hg, base0 := by omega, base2 := ⟨fun j hj => by omega, fun j hj => by omega⟩, size := by rw [hW]; simp }⟩
theorem see0 {w : World} {base r a b c : Nat} {vN vW vI : Value} {pN pW : Nat → Nat} (h : NS w base r a b c vN vW vI pN pW) : w.cell? ⟨r, 0, none⟩ = some vN := by rw [h.cells.cell]; rfl
theorem see1 {w : World} {base r a b c : Nat} {vN vW vI : Value} {pN pW : Nat → Nat} (h : NS w base r a b c vN vW vI pN pW) : w.cell? ⟨r, 1, none⟩ = some vW := by rw [h.cells.cell]; rfl
theorem see2 {w : World} {base r a b c : Nat} {vN vW vI : Value} {pN pW : Nat → Nat} (h : NS w base r a b c vN vW vI pN pW) : w.cell? ⟨r, 2, none⟩ = some vI := by rw [h.cells.cell]; rfl
theorem NS.neN {w : World} {base r a b c : Nat} {vN vW vI : Value} {pN pW : Nat → Nat} (h : NS w base r a b c vN vW vI pN pW) : vN.ownBlock ≠ some r := own_ne h.oN h.cells (by decide)
theorem NS.neW {w : World} {base r a b c : Nat} {vN vW vI : Value} {pN pW : Nat → Nat} (h : NS w base r a b c vN vW vI pN pW) : vW.ownBlock ≠ some r := own_ne h.oW h.cells (by decide)
theorem NS.neI {w : World} {base r a b c : Nat} {vN vW vI : Value} {pN pW : Nat → Nat} (h : NS w base r a b c vN vW vI pN pW) : vI.ownBlock ≠ some r := own_ne h.oI h.cells (by decide)
theorem free_r {w : World} {base r a b c : Nat} {vN vW vI : Value} {pN pW : Nat → Nat} {w1 w2 : World} {q : Option Nat} (h : NS w base r a b c vN vW vI pN pW) (hb : Below w.heap.size w w1) (hg : w1.grownBy w2 q) (hq : some r ≠ q) (o : Nat) : w2.frozen? ⟨r, o, none⟩ = false :=
  ((h.cells.below hb).grown hg hq).free o
section
variable {w : World} {base r a b c : Nat} {vN vW vI : Value} {pN pW : Nat → Nat} {w1 w2 : World} {v' : Value} {xs : List Value}
theorem NS.keepR (hq : ∃ e n xs, w.ownsRow base e 1 v' n xs ∧ e ≠ 5 ∧ e ≠ 59) (hb : Below w.heap.size w w1) (hg : w1.grownBy w2 v'.ownBlock) (o : Nat) (u : Value) {g t m : Nat} {f : Nat → Value} (hp : BP w g t m f) (ht : t = 5) (hr : Blk w r 59 (RL vN vW vI (-1) false).toArray) : BP (w2.setCell ⟨r, o, none⟩ u) g t m f := by
  subst ht
  have h1 : g ≠ r := hp.neB hr (by decide)
  refine ((hp.kept (hb.block _ hp.lt)).kept (hg.block _ (Nat.lt_of_lt_of_le hp.lt hb.size) ?_)).other _ _ h1
  intro e
  obtain ⟨e1, n, xs, ho, h5, _⟩ := hq
  obtain ⟨cs, hc⟩ := own_tag ho e.symm
  exact hp.neB hc (fun q => h5 q.symm) rfl
theorem own_keep {e n e' n' : Nat} {v : Value} {ys : List Value} (ho : w.ownsRow base e 1 v n xs) (hv : w.ownsRow base e' 1 v' n' ys) (hne : ∀ g, v'.ownBlock = some g → v.ownBlock ≠ some g) (hb : Below w.heap.size w w1) (hg : w1.grownBy w2 v'.ownBlock) (o : Nat) (u : Value) (hr : v.ownBlock ≠ some r) : (w2.setCell ⟨r, o, none⟩ u).ownsRow base e 1 v n xs := by
  have k1 := ho.kept (gb_of hb none) (by cases v.ownBlock <;> simp)
  have k2 := k1.kept hg (by
    cases hq : v.ownBlock with
    | none => exact .inl rfl
    | some x =>
      refine .inr ?_
      intro e
      exact hne x e.symm (by rw [hq]))
  exact ownsRow_setCell_other k2 hr u
theorem ne_of_tags {e n e' n' : Nat} {v : Value} {ys : List Value} (ho : w.ownsRow base e 1 v n xs) (hv : w.ownsRow base e' 1 v' n' ys) (hne : e ≠ e') : ∀ g, v'.ownBlock = some g → v.ownBlock ≠ some g := fun g h1 h2 => by
  obtain ⟨cs, hb⟩ := own_tag ho h2
  obtain ⟨cs', hb'⟩ := own_tag hv h1
  unfold Blk at hb hb'
  rw [hb] at hb'
  simp at hb'
  exact hne hb'.2
theorem range_up (p : Nat → Nat) (a g : Nat) : (List.range a).map (secF p (fun _ => 64)) ++ [.slice (some ⟨g, 0, none⟩) 64 64] = (List.range (a + 1)).map (secF (upF p a g) (fun _ => 64)) := by
  rw [List.range_succ, List.map_append]
  congr 1
  · apply List.map_congr_left
    intro j hj
    have := List.mem_range.1 hj
    simp [secF, upF, show j ≠ a by omega]
  · simp [secF, upF]
theorem NS.addN (h : NS w base r a b c vN vW vI pN pW) {g : Nat} (hb : Below w.heap.size w w1) (hp : BP w1 g 5 64 (rowF z64)) (hg : w.heap.size = g) (hl : g < w1.heap.size) (r2 : w2.ownsRow base 22 1 v' (a + 1) ((List.range a).map (secF pN (fun _ => 64)) ++ [.slice (some ⟨g, 0, none⟩) 64 64])) (r3 : w1.grownBy w2 vN.ownBlock) (r4 : v'.ownBlock = vN.ownBlock ∨ v'.ownBlock = some w1.heap.size) :
    NS (w2.setCell ⟨r, 0, none⟩ v') base r (a + 1) b c v' vW vI (upF pN a g) pW :=
  have rb : Blk w2 r 59 (RL vN vW vI (-1) false).toArray := (h.cells.below hb).grown r3 (by rw [Ne, eq_comm]; exact h.neN)
  have hne : v'.ownBlock ≠ some r := own_ne r2 rb (by decide)
  have hrl : r < w.heap.size := h.cells.lt
  { cells := rb.set 0 v',
    oN := by rw [← range_up]; exact ownsRow_setCell_other r2 hne _,
    oW := own_keep h.oW h.oN h.nNW hb r3 0 v' h.neW,
    oI := own_keep h.oI h.oN (ne_of_tags h.oI h.oN (by decide)) hb r3 0 v' h.neI,
    rN := fun j hj => by
      by_cases e : j = a
      · subst e
        rw [upF_same]
        refine (hp.kept (r3.block _ hl ?_)).other _ _ (by intro q; simp only at q; omega)
        intro q
        have := (h.oN.lt _ q.symm).2
        omega
      · rw [upF_ne _ _ e]
        exact NS.keepR ⟨_, _, _, h.oN, by decide, by decide⟩ hb r3 0 v' (h.rN j (by omega)) rfl h.cells
    rW := fun j hj => NS.keepR ⟨_, _, _, h.oN, by decide, by decide⟩ hb r3 0 v' (h.rW j hj) rfl h.cells,
    aN := fun i j hi hj ne => by
      by_cases e : i = a
      · subst e
        rw [upF_same, upF_ne _ _ (Ne.symm ne)]
        have := (h.rN j (by omega)).lt
        omega
      · rw [upF_ne _ _ e]
        by_cases e' : j = a
        · subst e'
          rw [upF_same]
          have := (h.rN i (by omega)).lt
          omega
        · rw [upF_ne _ _ e']
          exact h.aN i j (by omega) (by omega) ne
    aW := h.aW,
    aX := fun i j hi hj => by
      by_cases e : i = a
      · subst e
        rw [upF_same]
        have := (h.rW j hj).lt
        omega
      · rw [upF_ne _ _ e]
        exact h.aX i j (by omega) hj
    nNW := fun x hx hy => by
      have hyl := (h.oW.lt x hy).2
      rcases r4 with q | q
      · exact h.nNW x (q ▸ hx) hy
      · rw [q] at hx
        cases hx
        have := hb.size
        omega
    base0 := h.base0,
    base2 := ⟨fun j hj => by
      by_cases e : j = a
      · subst e
        rw [upF_same]
        have := h.size
        omega
      · rw [upF_ne _ _ e]
        exact h.base2.1 j (by omega), h.base2.2⟩,
    size := by rw [size_setCell]; exact Nat.le_trans h.size (Nat.le_trans hb.size r3.size) }
theorem NS.addW (h : NS w base r a b c vN vW vI pN pW) {g : Nat} (hb : Below w.heap.size w w1) (hp : BP w1 g 5 64 (rowF z64)) (hg : w.heap.size = g) (hl : g < w1.heap.size) (r2 : w2.ownsRow base 22 1 v' (b + 1) ((List.range b).map (secF pW (fun _ => 64)) ++ [.slice (some ⟨g, 0, none⟩) 64 64])) (r3 : w1.grownBy w2 vW.ownBlock) (r4 : v'.ownBlock = vW.ownBlock ∨ v'.ownBlock = some w1.heap.size) :
    NS (w2.setCell ⟨r, 1, none⟩ v') base r a (b + 1) c vN v' vI pN (upF pW b g) :=
  have rb : Blk w2 r 59 (RL vN vW vI (-1) false).toArray := (h.cells.below hb).grown r3 (by rw [Ne, eq_comm]; exact h.neW)
  have hne : v'.ownBlock ≠ some r := own_ne r2 rb (by decide)
  { cells := rb.set 1 v',
    oW := by rw [← range_up]; exact ownsRow_setCell_other r2 hne _,
    oN := own_keep h.oN h.oW (fun g h1 h2 => h.nNW g h2 h1) hb r3 1 v' h.neN,
    oI := own_keep h.oI h.oW (ne_of_tags h.oI h.oW (by decide)) hb r3 1 v' h.neI,
    rW := fun j hj => by
      by_cases e : j = b
      · subst e
        rw [upF_same]
        have hrl : r < w.heap.size := h.cells.lt
        refine (hp.kept (r3.block _ hl ?_)).other _ _ (by intro q; simp only at q; omega)
        intro q
        have := (h.oW.lt _ q.symm).2
        omega
      · rw [upF_ne _ _ e]
        exact NS.keepR ⟨_, _, _, h.oW, by decide, by decide⟩ hb r3 1 v' (h.rW j (by omega)) rfl h.cells
    rN := fun j hj => NS.keepR ⟨_, _, _, h.oW, by decide, by decide⟩ hb r3 1 v' (h.rN j hj) rfl h.cells,
    aW := fun i j hi hj ne => by
      by_cases e : i = b
      · subst e
        rw [upF_same, upF_ne _ _ (Ne.symm ne)]
        have := (h.rW j (by omega)).lt
        omega
      · rw [upF_ne _ _ e]
        by_cases e' : j = b
        · subst e'
          rw [upF_same]
          have := (h.rW i (by omega)).lt
          omega
        · rw [upF_ne _ _ e']
          exact h.aW i j (by omega) (by omega) ne
    aN := h.aN,
    aX := fun i j hi hj => by
      by_cases e : j = b
      · subst e
        rw [upF_same]
        have := (h.rN i hi).lt
        omega
      · rw [upF_ne _ _ e]
        exact h.aX i j hi (by omega)
    nNW := fun x hy hx => by
      have hyl := (h.oN.lt x hy).2
      rcases r4 with q | q
      · exact h.nNW x hy (q ▸ hx)
      · rw [q] at hx
        cases hx
        have := hb.size
        omega
    base0 := h.base0,
    base2 := ⟨h.base2.1, fun j hj => by
      by_cases e : j = b
      · subst e
        rw [upF_same]
        have := h.size
        omega
      · rw [upF_ne _ _ e]
        exact h.base2.2 j (by omega)⟩,
    size := by rw [size_setCell]; exact Nat.le_trans h.size (Nat.le_trans hb.size r3.size) }
theorem NS.addI (h : NS w base r a b c vN vW vI pN pW) (hb : Below w.heap.size w w1) (r2 : w2.ownsRow base 4 1 v' (c + 1) (List.replicate c (.bool false) ++ [.bool false])) (r3 : w1.grownBy w2 vI.ownBlock) (r4 : v'.ownBlock = vI.ownBlock ∨ v'.ownBlock = some w1.heap.size) :
    NS (w2.setCell ⟨r, 2, none⟩ v') base r a b (c + 1) vN vW v' pN pW :=
  have rb : Blk w2 r 59 (RL vN vW vI (-1) false).toArray := (h.cells.below hb).grown r3 (by rw [Ne, eq_comm]; exact h.neI)
  have hne : v'.ownBlock ≠ some r := own_ne r2 rb (by decide)
  { cells := rb.set 2 v',
    oI := by rw [List.replicate_succ']; exact ownsRow_setCell_other r2 hne _,
    oN := own_keep h.oN h.oI (ne_of_tags h.oN h.oI (by decide)) hb r3 2 v' h.neN,
    oW := own_keep h.oW h.oI (ne_of_tags h.oW h.oI (by decide)) hb r3 2 v' h.neW,
    rW := fun j hj => NS.keepR ⟨_, _, _, h.oI, by decide, by decide⟩ hb r3 2 v' (h.rW j hj) rfl h.cells,
    rN := fun j hj => NS.keepR ⟨_, _, _, h.oI, by decide, by decide⟩ hb r3 2 v' (h.rN j hj) rfl h.cells,
    aN := h.aN, aW := h.aW, aX := h.aX, nNW := h.nNW, base0 := h.base0, base2 := h.base2,
    size := by rw [size_setCell]; exact Nat.le_trans h.size (Nat.le_trans hb.size r3.size) }
end
/-- a row of one's own that is seen cell by cell. -/
theorem own_at {w : World} {base e n : Nat} {v : Value} {f : Nat → Value} (h : w.ownsRow base e 1 v n ((List.range n).map f)) : ∃ a c g, v = .slice a n c ∧ (0 < n → a = some ⟨g, 0, none⟩ ∧ BP w g e n f ∧ base ≤ g ∧ v.ownBlock = some g) := by
  rcases h.2 with ⟨rfl, rfl⟩ | ⟨g, cap, cur, rfl, hb, hg, h1, h2, h3, h4⟩
  · exact ⟨none, 0, 0, rfl, fun q => by omega⟩
  · refine ⟨_, cap, g, rfl, fun _ => ⟨rfl, ⟨cur.toList, by simpa [Blk] using hg, fun k hk => ?_⟩, hb, rfl⟩⟩
    have q : (cur.toList.take (n * 1))[k]? = ((List.range n).map f)[k]? := by rw [h4]
    rw [List.getElem?_take, if_pos (by omega)] at q
    rw [q, List.getElem?_map, List.getElem?_range hk]
    rfl
theorem nw_rs {w : World} {base r n : Nat} (h : NW w base r n n n) (hn : n ≤ 12) : RS w base r n (fun _ => z64) (fun _ => z64) (fun _ => false) (-1) false := by
  obtain ⟨vN, vW, vI, pN, pW, h⟩ := h
  obtain ⟨aN, cN, gN, rfl, hN⟩ := own_at h.oN
  obtain ⟨aW, cW, gW, rfl, hW⟩ := own_at h.oW
  have oI : w.ownsRow base 4 1 vI n ((List.range n).map (fun _ => .bool false)) := by
    have e : (List.range n).map (fun _ => Value.bool false) = List.replicate n (.bool false) := by simp [List.map_const']
    rw [e]; exact h.oI
  obtain ⟨aI, cI, gI, rfl, hI⟩ := own_at oI
  refine ⟨⟨r, gN, gW, gI, cN, cW, cI, aN, aW, aI, pN, fun _ => 64, pW, fun _ => 64⟩, rfl, ?_⟩
  exact { cells := h.cells, addr := fun q => ⟨(hN q).1, (hW q).1, (hI q).1⟩, bN := fun q => (hN q).2.1, bW := fun q => (hW q).2.1, bI := fun q => (hI q).2.1, rN := h.rN, rW := h.rW, oN := fun _ _ => z64_ok, oW := fun _ _ => z64_ok, cap := fun _ _ => by simp [maxLen], gNW := fun q e => h.nNW gN (hN q).2.2.2 (by have e' : gN = gW := e; rw [e']; exact (hW q).2.2.2), apart := fun i j hi hj => ⟨fun ne => ⟨h.aN i j hi hj ne, h.aW i j hi hj ne⟩, h.aX i j hi hj⟩, base0 := h.base0, base1 := fun q => ⟨(hN q).2.2.1, (hW q).2.2.1, (hI q).2.2.1⟩, base2 := fun j hj => ⟨h.base2.1 j hj, h.base2.2 j hj⟩, fuse := by omega, few := hn }
theorem nw_base {w : World} {base r a b c : Nat} (h : NW w base r a b c) : base ≤ r := by
  obtain ⟨_, _, _, _, _, h⟩ := h
  exact h.base0
attribute [local irreducible] wpList
set_option maxHeartbeats 4000000 in
theorem refnew (w : World) (n : Nat) (hn : n ≤ 12) : Calls Try.prog 14 #[.int .i64 (n : Int)] w fun e w' => ∃ r, e = .returned (.pointer (some ⟨r, 0, none⟩)) ∧ RS w' w.heap.size r n (fun _ => z64) (fun _ => z64) (fun _ => false) (-1) false ∧ Below w.heap.size w w' ∧ w.heap.size ≤ r := by
  have HN := Lib.hid hn
  clear hn
  go_enter Try.func14, Try.ntmps14
  go_upto_region 0 with (fail)
  refine wp_region_lit ?_
  refine wpL_pure (.pointer none) rfl (by kernel_rfl) ?_
  simp only [Act.put, List.setIfInBounds_toArray, List.set_cons_zero, List.set_cons_succ]
  go_upto_region 1 with (fail)
  refine wp_region_lit ?_
  refine wpL_pure (.agg #[.slice none 0 0, .slice none 0 0, .slice none 0 0, .int .i64 (-1), .bool false]) rfl (by kernel_rfl) ?_
  simp only [Act.put, List.setIfInBounds_toArray, List.set_cons_zero, List.set_cons_succ]
  obtain ⟨W1, hW1⟩ : ∃ V, V = w.alloc (.cells (RL (.slice none 0 0) (.slice none 0 0) (.slice none 0 0) (-1) false).toArray 59) := ⟨_, rfl⟩
  obtain ⟨r, hr⟩ : ∃ q, w.heap.size = q := ⟨_, rfl⟩
  refine wpL_value (.pointer (some ⟨r, 0, none⟩)) W1 rfl (by rw [hW1, ← hr]; kernel_rfl) ?_
  simp only [Act.put, List.setIfInBounds_toArray, List.set_cons_zero, List.set_cons_succ]
  have F0 : Hid (NW W1 w.heap.size r 0 0 0 ∧ Below w.heap.size w W1) := Lib.hid ⟨nw_zero w hr hW1, by rw [hW1]; exact (Below.refl _ _).alloc (Nat.le_refl _) _⟩
  have HRR := Lib.hid hr
  clear hW1 hr
  refine wpL_pure (.pointer (some ⟨r, 0, none⟩)) rfl (by kernel_rfl) ?_
  simp only [Act.put, List.setIfInBounds_toArray, List.set_cons_zero, List.set_cons_succ]
  unfold wpList
  go_upto_region 2 with (fail)
  refine wp_region_lit ?_
  refine wpL_pure (.int .i64 0) rfl (by kernel_rfl) ?_
  simp only [Act.put, List.setIfInBounds_toArray, List.set_cons_zero, List.set_cons_succ]
  go_wp2_with fail
  go_loopw [4] (fun s4 wr => ∃ k : Nat, s4 = .int .i64 (k : Int) ∧ Hid (k ≤ n ∧ NW wr w.heap.size r k k k ∧ Below w.heap.size w wr)) (fun s4 _ => n - (intOf s4).toNat)
  case atStart => exact ⟨0, rfl, Lib.hid ⟨Nat.zero_le _, F0.out.1, F0.out.2⟩⟩
  case round =>
    clear F0
    obtain ⟨k, rfl, RI⟩ := hrel
    by_cases hlt : k < n
    · have HK := Lib.hid hlt
      have RI0 : Hid (NW wr w.heap.size r k k k ∧ Below w.heap.size w wr) := Lib.hid RI.out.2
      clear hlt
      go_upto_region 3 with (fail)
      refine wp_region_lit ?_
      refine wpL_pure (.int .i64 (k : Int)) rfl (by kernel_rfl) ?_
      simp only [Act.put, List.setIfInBounds_toArray, List.set_cons_zero, List.set_cons_succ]
      refine wpL_pure (.int .i64 (n : Int)) rfl (by kernel_rfl) ?_
      simp only [Act.put, List.setIfInBounds_toArray, List.set_cons_zero, List.set_cons_succ]
      refine wpL_pure (.bool true) rfl (run_lti Try.underlying3 rfl rfl rfl (by have := HK.out; rw [decide_eq_true_eq]; omega)) ?_
      simp only [Act.put, List.setIfInBounds_toArray, List.set_cons_zero, List.set_cons_succ]
      refine wpL_pure (.bool true) rfl (by kernel_rfl) ?_
      simp only [Act.put, List.setIfInBounds_toArray, List.set_cons_zero, List.set_cons_succ]
      refine wpL_pure (.int .i64 (k : Int)) rfl (by kernel_rfl) ?_
      simp only [Act.put, List.setIfInBounds_toArray, List.set_cons_zero, List.set_cons_succ]
      refine wpL_pure (.bool true) rfl (run_lti Try.underlying3 rfl rfl rfl (by have := HK.out; have := HN.out; rw [decide_eq_true_eq]; omega)) ?_
      simp only [Act.put, List.setIfInBounds_toArray, List.set_cons_zero, List.set_cons_succ]
      refine wpL_pure (.bool true) rfl (by kernel_rfl) ?_
      simp only [Act.put, List.setIfInBounds_toArray, List.set_cons_zero, List.set_cons_succ]
      obtain ⟨vN, vW, vI, pN, pW, hq⟩ := RI0.out.1
      have Q := Lib.hid hq
      clear hq
      go_upto_region 5 with (fail)
      refine region_anyT (fun X => X.cell? ⟨r, 0, none⟩ = some vN) (by kernel_rfl) 8 11 rfl ?_
      refine wpAnyT_take (i := 0) (oi := ⟨some 16, _, _, _, _, _⟩) (v := .pointer (some ⟨r, 0, none⟩)) rfl (by kernel_rfl) (by kernel_rfl) (by kernel_rfl) (fun _ _ _ h => h) (by kernel_rfl) (Or.inl ⟨rfl, fun w h => by kernel_rfl⟩) (show wr.cell? ⟨r, 0, none⟩ = some vN from see0 Q.out) ?_
      simp only [Act.put, List.setIfInBounds_toArray, List.set_cons_zero, List.set_cons_succ]
      refine wpAnyT_take (i := 1) (oi := ⟨some 17, _, _, _, _, _⟩) (v := .pointer (some ⟨r, 0, none⟩)) rfl (by kernel_rfl) (by kernel_rfl) (by kernel_rfl) (fun _ _ _ h => h) (by kernel_rfl) (Or.inl ⟨rfl, fun w h => by kernel_rfl⟩) (show wr.cell? ⟨r, 0, none⟩ = some vN from see0 Q.out) ?_
      simp only [Act.put, List.setIfInBounds_toArray, List.set_cons_zero, List.set_cons_succ]
      refine wpAnyT_take (i := 2) (oi := ⟨some 18, _, _, _, _, _⟩) (v := .pointer (some ⟨r, 0, none⟩)) rfl (by kernel_rfl) (by kernel_rfl) (by kernel_rfl) (fun _ _ _ h => h) (by kernel_rfl) (Or.inl ⟨rfl, fun w h => by kernel_rfl⟩) (show wr.cell? ⟨r, 0, none⟩ = some vN from see0 Q.out) ?_
      simp only [Act.put, List.setIfInBounds_toArray, List.set_cons_zero, List.set_cons_succ]
      refine wpAnyT_take (i := 3) (oi := ⟨some 19, _, _, _, _, _⟩) (v := .pointer (some ⟨r, 0, none⟩)) rfl (by kernel_rfl) (by kernel_rfl) (by kernel_rfl) (fun _ _ _ h => h) (by kernel_rfl) (Or.inl ⟨rfl, fun w h => by kernel_rfl⟩) (show wr.cell? ⟨r, 0, none⟩ = some vN from see0 Q.out) ?_
      simp only [Act.put, List.setIfInBounds_toArray, List.set_cons_zero, List.set_cons_succ]
      refine wpAnyT_take (i := 4) (oi := ⟨some 20, _, _, _, _, _⟩) (v := vN) rfl (by kernel_rfl) (by kernel_rfl) (by kernel_rfl) (fun _ _ _ h => h) (by kernel_rfl) (Or.inl ⟨rfl, fun w h => run_load_one _ _ _ 56 _ _ rfl (r) (0) rfl (h) (by kernel_rfl)⟩) (show wr.cell? ⟨r, 0, none⟩ = some vN from see0 Q.out) ?_
      simp only [Act.put, List.setIfInBounds_toArray, List.set_cons_zero, List.set_cons_succ]
      refine wpAnyT_one (i := 5) (by kernel_rfl) ?_
      obtain ⟨Xa, hX⟩ : ∃ V, V = wr.drew.alloc (.cells #[.int .u8 0, .int .u8 0, .int .u8 0, .int .u8 0, .int .u8 0, .int .u8 0, .int .u8 0, .int .u8 0, .int .u8 0, .int .u8 0, .int .u8 0, .int .u8 0, .int .u8 0, .int .u8 0, .int .u8 0, .int .u8 0, .int .u8 0, .int .u8 0, .int .u8 0, .int .u8 0, .int .u8 0, .int .u8 0, .int .u8 0, .int .u8 0, .int .u8 0, .int .u8 0, .int .u8 0, .int .u8 0, .int .u8 0, .int .u8 0, .int .u8 0, .int .u8 0, .int .u8 0, .int .u8 0, .int .u8 0, .int .u8 0, .int .u8 0, .int .u8 0, .int .u8 0, .int .u8 0, .int .u8 0, .int .u8 0, .int .u8 0, .int .u8 0, .int .u8 0, .int .u8 0, .int .u8 0, .int .u8 0, .int .u8 0, .int .u8 0, .int .u8 0, .int .u8 0, .int .u8 0, .int .u8 0, .int .u8 0, .int .u8 0, .int .u8 0, .int .u8 0, .int .u8 0, .int .u8 0, .int .u8 0, .int .u8 0, .int .u8 0, .int .u8 0] 5) := ⟨_, rfl⟩
      obtain ⟨g1, hg1⟩ : ∃ q, wr.drew.heap.size = q := ⟨_, rfl⟩
      have A1 : Hid (Below wr.heap.size wr Xa ∧ BP Xa g1 5 64 (rowF z64) ∧ wr.heap.size = g1 ∧ Xa.heap.size = g1 + 1) := Lib.hid ⟨by rw [hX]; exact ((Below.refl _ _).drew).alloc (Nat.le_refl _) _, by rw [hX, ← hg1]; exact bp_zero _ _ (by rfl), hg1, by rw [hX, ← hg1]; simp⟩
      refine op_valw (o := ⟨some 21, _, _, _, _, _⟩) (.slice (some ⟨g1, 0, none⟩) 64 64) Xa rfl rfl (by rw [hX, ← hg1]; kernel_rfl) ?_
      refine ⟨fun _ => (A1.out.1.cell (cell_lt (see0 Q.out))).trans (see0 Q.out), ?_⟩
      simp only [Act.put, List.setIfInBounds_toArray, List.set_cons_zero, List.set_cons_succ]
      clear hX hg1
      refine wpAnyT_one (i := 6) (by kernel_rfl) ?_
      obtain ⟨Ya, hX⟩ : ∃ V, V = Xa.alloc (.cells #[.slice (some ⟨g1, 0, none⟩) 64 64] 22) := ⟨_, rfl⟩
      obtain ⟨g2, hg2⟩ : ∃ q, Xa.heap.size = q := ⟨_, rfl⟩
      have A0 : Below Xa.heap.size Xa Ya := by rw [hX]; exact (Below.refl _ _).alloc (Nat.le_refl _) _
      have A2 : Hid (Below wr.heap.size wr Ya ∧ BP Ya g1 5 64 (rowF z64) ∧ wr.heap.size = g1 ∧ Ya.cell? ⟨g2, 0, none⟩ = some (.slice (some ⟨g1, 0, none⟩) 64 64) ∧ g1 < Ya.heap.size) := Lib.hid ⟨A1.out.1.trans (A0.mono A1.out.1.size), A1.out.2.1.kept (A0.block _ A1.out.2.1.lt), A1.out.2.2.1, by rw [hX, ← hg2, (Blk.new Xa 22 _).cell]; rfl, Nat.lt_of_lt_of_le A1.out.2.1.lt A0.size⟩
      clear A0
      refine op_valw (o := ⟨some 22, _, _, _, _, _⟩) (.slice (some ⟨g2, 0, none⟩) 1 1) Ya rfl rfl (by rw [hX, ← hg2]; kernel_rfl) ?_
      refine ⟨fun _ => (A2.out.1.cell (cell_lt (see0 Q.out))).trans (see0 Q.out), ?_⟩
      simp only [Act.put, List.setIfInBounds_toArray, List.set_cons_zero, List.set_cons_succ]
      clear hX hg2 A1
      refine wpAnyT_one (i := 7) (by kernel_rfl) ?_
      obtain ⟨v', Ua, r1, r2, r3, r4⟩ := append56 Ya w.heap.size vN k _ _ _ (Q.out.oN.kept (gb_of A2.out.1 none) (by cases vN.ownBlock <;> simp)) rfl A2.out.2.2.2.1 (by have := HK.out; have := HN.out; omega) (Nat.le_trans Q.out.size A2.out.1.size)
      have R1 := Lib.hid r1
      have SE : Hid (Ua.cell? ⟨r, 0, none⟩ = some vN) := Lib.hid ((World.cell?_of_block (r3.block r (Nat.lt_of_lt_of_le Q.out.cells.lt A2.out.1.size) (by rw [Ne, eq_comm]; exact Q.out.neN))).trans ((A2.out.1.cell (cell_lt (see0 Q.out))).trans (see0 Q.out)))
      refine op_valw (o := ⟨some 23, _, _, _, _, _⟩) (v') Ua rfl rfl (run_app56 _ _ _ _ _ _ _ _ _ rfl rfl rfl rfl R1.out) ?_
      refine ⟨fun _ => SE.out, ?_⟩
      simp only [Act.put, List.setIfInBounds_toArray, List.set_cons_zero, List.set_cons_succ]
      refine wpAnyT_tail _ _ _ _ (headB_spec (by kernel_rfl)) ?_
      refine wpAny_of_idx [8, 9, 10] [⟨some 24, _, _, _, _, _⟩, ⟨some 25, _, _, _, _, _⟩, ⟨none, _, _, _, _, _⟩] _ _ _ (by rfl) (by kernel_rfl) ?_
      refine wpL_pure (.pointer (some ⟨r, 0, none⟩)) rfl (by kernel_rfl) ?_
      simp only [Act.put, List.setIfInBounds_toArray, List.set_cons_zero, List.set_cons_succ]
      refine wpL_pure (.pointer (some ⟨r, 0, none⟩)) rfl (by kernel_rfl) ?_
      simp only [Act.put, List.setIfInBounds_toArray, List.set_cons_zero, List.set_cons_succ]
      refine wpL_store_one rfl rfl (r) (0) rfl v' rfl (own_one r2) size56 (by rw [SE.out]; rfl) (free_r Q.out A2.out.1 r3 (by rw [Ne, eq_comm]; exact Q.out.neN) 0) ?_
      simp only [Act.put, List.setIfInBounds_toArray, List.set_cons_zero, List.set_cons_succ]
      obtain ⟨Va, hX⟩ : ∃ V, V = Ua.setCell ⟨r, 0, none⟩ v' := ⟨_, rfl⟩
      rw [← hX]
      have Ga : Hid (NW Va w.heap.size r (k + 1) k k ∧ Below w.heap.size w Va) := Lib.hid ⟨by rw [hX]; exact ⟨_, _, _, _, _, Q.out.addN A2.out.1 A2.out.2.1 A2.out.2.2.1 A2.out.2.2.2.2 r2 r3 r4⟩, by rw [hX]; exact Below.setCell (((RI0.out.2.trans (A2.out.1.mono RI0.out.2.size)).grown r3 (RI0.out.2.trans (A2.out.1.mono RI0.out.2.size)).size (fun j hj => (Q.out.oN.lt j hj).1))) Q.out.base0 _⟩
      clear hX r1 r2 r3 r4 R1 SE A2 Q
      unfold wpList
      obtain ⟨vN, vW, vI, pN, pW, hq⟩ := Ga.out.1
      have Q := Lib.hid hq
      clear hq
      go_upto_region 6 with (fail)
      refine region_anyT (fun X => X.cell? ⟨r, 1, none⟩ = some vW) (by kernel_rfl) 8 11 rfl ?_
      refine wpAnyT_take (i := 0) (oi := ⟨some 26, _, _, _, _, _⟩) (v := .pointer (some ⟨r, 0, none⟩)) rfl (by kernel_rfl) (by kernel_rfl) (by kernel_rfl) (fun _ _ _ h => h) (by kernel_rfl) (Or.inl ⟨rfl, fun w h => by kernel_rfl⟩) (show Va.cell? ⟨r, 1, none⟩ = some vW from see1 Q.out) ?_
      simp only [Act.put, List.setIfInBounds_toArray, List.set_cons_zero, List.set_cons_succ]
      refine wpAnyT_take (i := 1) (oi := ⟨some 27, _, _, _, _, _⟩) (v := .pointer (some ⟨r, 0, none⟩)) rfl (by kernel_rfl) (by kernel_rfl) (by kernel_rfl) (fun _ _ _ h => h) (by kernel_rfl) (Or.inl ⟨rfl, fun w h => by kernel_rfl⟩) (show Va.cell? ⟨r, 1, none⟩ = some vW from see1 Q.out) ?_
      simp only [Act.put, List.setIfInBounds_toArray, List.set_cons_zero, List.set_cons_succ]
      refine wpAnyT_take (i := 2) (oi := ⟨some 28, _, _, _, _, _⟩) (v := .pointer (some ⟨r, 0, none⟩)) rfl (by kernel_rfl) (by kernel_rfl) (by kernel_rfl) (fun _ _ _ h => h) (by kernel_rfl) (Or.inl ⟨rfl, fun w h => by kernel_rfl⟩) (show Va.cell? ⟨r, 1, none⟩ = some vW from see1 Q.out) ?_
      simp only [Act.put, List.setIfInBounds_toArray, List.set_cons_zero, List.set_cons_succ]
      refine wpAnyT_take (i := 3) (oi := ⟨some 29, _, _, _, _, _⟩) (v := .pointer (some ⟨r, 1, none⟩)) rfl (by kernel_rfl) (by kernel_rfl) (by kernel_rfl) (fun _ _ _ h => h) (by kernel_rfl) (Or.inl ⟨rfl, fun w h => by kernel_rfl⟩) (show Va.cell? ⟨r, 1, none⟩ = some vW from see1 Q.out) ?_
      simp only [Act.put, List.setIfInBounds_toArray, List.set_cons_zero, List.set_cons_succ]
      refine wpAnyT_take (i := 4) (oi := ⟨some 30, _, _, _, _, _⟩) (v := vW) rfl (by kernel_rfl) (by kernel_rfl) (by kernel_rfl) (fun _ _ _ h => h) (by kernel_rfl) (Or.inl ⟨rfl, fun w h => run_load_one _ _ _ 56 _ _ rfl (r) (1) rfl (h) (by kernel_rfl)⟩) (show Va.cell? ⟨r, 1, none⟩ = some vW from see1 Q.out) ?_
      simp only [Act.put, List.setIfInBounds_toArray, List.set_cons_zero, List.set_cons_succ]
      refine wpAnyT_one (i := 5) (by kernel_rfl) ?_
      obtain ⟨Xb, hX⟩ : ∃ V, V = Va.drew.alloc (.cells #[.int .u8 0, .int .u8 0, .int .u8 0, .int .u8 0, .int .u8 0, .int .u8 0, .int .u8 0, .int .u8 0, .int .u8 0, .int .u8 0, .int .u8 0, .int .u8 0, .int .u8 0, .int .u8 0, .int .u8 0, .int .u8 0, .int .u8 0, .int .u8 0, .int .u8 0, .int .u8 0, .int .u8 0, .int .u8 0, .int .u8 0, .int .u8 0, .int .u8 0, .int .u8 0, .int .u8 0, .int .u8 0, .int .u8 0, .int .u8 0, .int .u8 0, .int .u8 0, .int .u8 0, .int .u8 0, .int .u8 0, .int .u8 0, .int .u8 0, .int .u8 0, .int .u8 0, .int .u8 0, .int .u8 0, .int .u8 0, .int .u8 0, .int .u8 0, .int .u8 0, .int .u8 0, .int .u8 0, .int .u8 0, .int .u8 0, .int .u8 0, .int .u8 0, .int .u8 0, .int .u8 0, .int .u8 0, .int .u8 0, .int .u8 0, .int .u8 0, .int .u8 0, .int .u8 0, .int .u8 0, .int .u8 0, .int .u8 0, .int .u8 0, .int .u8 0] 5) := ⟨_, rfl⟩
      obtain ⟨g1, hg1⟩ : ∃ q, Va.drew.heap.size = q := ⟨_, rfl⟩
      have A1 : Hid (Below Va.heap.size Va Xb ∧ BP Xb g1 5 64 (rowF z64) ∧ Va.heap.size = g1 ∧ Xb.heap.size = g1 + 1) := Lib.hid ⟨by rw [hX]; exact ((Below.refl _ _).drew).alloc (Nat.le_refl _) _, by rw [hX, ← hg1]; exact bp_zero _ _ (by rfl), hg1, by rw [hX, ← hg1]; simp⟩
      refine op_valw (o := ⟨some 31, _, _, _, _, _⟩) (.slice (some ⟨g1, 0, none⟩) 64 64) Xb rfl rfl (by rw [hX, ← hg1]; kernel_rfl) ?_
      refine ⟨fun _ => (A1.out.1.cell (cell_lt (see1 Q.out))).trans (see1 Q.out), ?_⟩
      simp only [Act.put, List.setIfInBounds_toArray, List.set_cons_zero, List.set_cons_succ]
      clear hX hg1
      refine wpAnyT_one (i := 6) (by kernel_rfl) ?_
      obtain ⟨Yb, hX⟩ : ∃ V, V = Xb.alloc (.cells #[.slice (some ⟨g1, 0, none⟩) 64 64] 22) := ⟨_, rfl⟩
      obtain ⟨g2, hg2⟩ : ∃ q, Xb.heap.size = q := ⟨_, rfl⟩
      have A0 : Below Xb.heap.size Xb Yb := by rw [hX]; exact (Below.refl _ _).alloc (Nat.le_refl _) _
      have A2 : Hid (Below Va.heap.size Va Yb ∧ BP Yb g1 5 64 (rowF z64) ∧ Va.heap.size = g1 ∧ Yb.cell? ⟨g2, 0, none⟩ = some (.slice (some ⟨g1, 0, none⟩) 64 64) ∧ g1 < Yb.heap.size) := Lib.hid ⟨A1.out.1.trans (A0.mono A1.out.1.size), A1.out.2.1.kept (A0.block _ A1.out.2.1.lt), A1.out.2.2.1, by rw [hX, ← hg2, (Blk.new Xb 22 _).cell]; rfl, Nat.lt_of_lt_of_le A1.out.2.1.lt A0.size⟩
      clear A0
      refine op_valw (o := ⟨some 32, _, _, _, _, _⟩) (.slice (some ⟨g2, 0, none⟩) 1 1) Yb rfl rfl (by rw [hX, ← hg2]; kernel_rfl) ?_
      refine ⟨fun _ => (A2.out.1.cell (cell_lt (see1 Q.out))).trans (see1 Q.out), ?_⟩
      simp only [Act.put, List.setIfInBounds_toArray, List.set_cons_zero, List.set_cons_succ]
      clear hX hg2 A1
      refine wpAnyT_one (i := 7) (by kernel_rfl) ?_
      obtain ⟨v', Ub, r1, r2, r3, r4⟩ := append56 Yb w.heap.size vW k _ _ _ (Q.out.oW.kept (gb_of A2.out.1 none) (by cases vW.ownBlock <;> simp)) rfl A2.out.2.2.2.1 (by have := HK.out; have := HN.out; omega) (Nat.le_trans Q.out.size A2.out.1.size)
      have R1 := Lib.hid r1
      have SE : Hid (Ub.cell? ⟨r, 1, none⟩ = some vW) := Lib.hid ((World.cell?_of_block (r3.block r (Nat.lt_of_lt_of_le Q.out.cells.lt A2.out.1.size) (by rw [Ne, eq_comm]; exact Q.out.neW))).trans ((A2.out.1.cell (cell_lt (see1 Q.out))).trans (see1 Q.out)))
      refine op_valw (o := ⟨some 33, _, _, _, _, _⟩) (v') Ub rfl rfl (run_app56 _ _ _ _ _ _ _ _ _ rfl rfl rfl rfl R1.out) ?_
      refine ⟨fun _ => SE.out, ?_⟩
      simp only [Act.put, List.setIfInBounds_toArray, List.set_cons_zero, List.set_cons_succ]
      refine wpAnyT_tail _ _ _ _ (headB_spec (by kernel_rfl)) ?_
      refine wpAny_of_idx [8, 9, 10] [⟨some 34, _, _, _, _, _⟩, ⟨some 35, _, _, _, _, _⟩, ⟨none, _, _, _, _, _⟩] _ _ _ (by rfl) (by kernel_rfl) ?_
      refine wpL_pure (.pointer (some ⟨r, 0, none⟩)) rfl (by kernel_rfl) ?_
      simp only [Act.put, List.setIfInBounds_toArray, List.set_cons_zero, List.set_cons_succ]
      refine wpL_pure (.pointer (some ⟨r, 1, none⟩)) rfl (by kernel_rfl) ?_
      simp only [Act.put, List.setIfInBounds_toArray, List.set_cons_zero, List.set_cons_succ]
      refine wpL_store_one rfl rfl (r) (1) rfl v' rfl (own_one r2) size56 (by rw [SE.out]; rfl) (free_r Q.out A2.out.1 r3 (by rw [Ne, eq_comm]; exact Q.out.neW) 1) ?_
      simp only [Act.put, List.setIfInBounds_toArray, List.set_cons_zero, List.set_cons_succ]
      obtain ⟨Vb, hX⟩ : ∃ V, V = Ub.setCell ⟨r, 1, none⟩ v' := ⟨_, rfl⟩
      rw [← hX]
      have Gb : Hid (NW Vb w.heap.size r (k + 1) (k + 1) k ∧ Below w.heap.size w Vb) := Lib.hid ⟨by rw [hX]; exact ⟨_, _, _, _, _, Q.out.addW A2.out.1 A2.out.2.1 A2.out.2.2.1 A2.out.2.2.2.2 r2 r3 r4⟩, by rw [hX]; exact Below.setCell (((Ga.out.2.trans (A2.out.1.mono Ga.out.2.size)).grown r3 (Ga.out.2.trans (A2.out.1.mono Ga.out.2.size)).size (fun j hj => (Q.out.oW.lt j hj).1))) Q.out.base0 _⟩
      clear hX r1 r2 r3 r4 R1 SE A2 Q
      unfold wpList
      obtain ⟨vN, vW, vI, pN, pW, hq⟩ := Gb.out.1
      have Q := Lib.hid hq
      clear hq
      go_upto_region 7 with (fail)
      refine wp_region_lit ?_
      refine wpL_pure (.pointer (some ⟨r, 0, none⟩)) rfl (by kernel_rfl) ?_
      simp only [Act.put, List.setIfInBounds_toArray, List.set_cons_zero, List.set_cons_succ]
      refine wpL_pure (.pointer (some ⟨r, 0, none⟩)) rfl (by kernel_rfl) ?_
      simp only [Act.put, List.setIfInBounds_toArray, List.set_cons_zero, List.set_cons_succ]
      refine wpL_pure (.pointer (some ⟨r, 0, none⟩)) rfl (by kernel_rfl) ?_
      simp only [Act.put, List.setIfInBounds_toArray, List.set_cons_zero, List.set_cons_succ]
      refine wpL_pure (.pointer (some ⟨r, 2, none⟩)) rfl (by kernel_rfl) ?_
      simp only [Act.put, List.setIfInBounds_toArray, List.set_cons_zero, List.set_cons_succ]
      refine wpL_pure (vI) rfl (run_load_one _ _ _ 57 _ _ rfl (r) (2) rfl (see2 Q.out) (by kernel_rfl)) ?_
      simp only [Act.put, List.setIfInBounds_toArray, List.set_cons_zero, List.set_cons_succ]
      obtain ⟨Y2, hX⟩ : ∃ V, V = Vb.alloc (.cells #[.bool false] 4) := ⟨_, rfl⟩
      obtain ⟨g2, hg2⟩ : ∃ q, Vb.heap.size = q := ⟨_, rfl⟩
      have A2 : Hid (Below Vb.heap.size Vb Y2 ∧ Y2.cell? ⟨g2, 0, none⟩ = some (.bool false)) := Lib.hid ⟨by rw [hX]; exact (Below.refl _ _).alloc (Nat.le_refl _) _, by rw [hX, ← hg2, (Blk.new Vb 4 _).cell]; rfl⟩
      refine wpL_value (.slice (some ⟨g2, 0, none⟩) 1 1) Y2 rfl (by rw [hX, ← hg2]; kernel_rfl) ?_
      simp only [Act.put, List.setIfInBounds_toArray, List.set_cons_zero, List.set_cons_succ]
      clear hX hg2
      obtain ⟨v', U2, r1, r2, r3, r4⟩ := append57 Y2 w.heap.size vI k _ _ _ (Q.out.oI.kept (gb_of A2.out.1 none) (by cases vI.ownBlock <;> simp)) rfl A2.out.2 (by have := HK.out; have := HN.out; omega) (Nat.le_trans Q.out.size A2.out.1.size)
      refine wpL_value v' U2 rfl (run_app57 _ _ _ _ _ _ _ _ _ rfl rfl rfl rfl r1) ?_
      simp only [Act.put, List.setIfInBounds_toArray, List.set_cons_zero, List.set_cons_succ]
      have SE : Hid (U2.cell? ⟨r, 2, none⟩ = some vI) := Lib.hid ((World.cell?_of_block (r3.block r (Nat.lt_of_lt_of_le Q.out.cells.lt A2.out.1.size) (by rw [Ne, eq_comm]; exact Q.out.neI))).trans ((A2.out.1.cell (cell_lt (see2 Q.out))).trans (see2 Q.out)))
      refine wpL_pure (.pointer (some ⟨r, 0, none⟩)) rfl (by kernel_rfl) ?_
      simp only [Act.put, List.setIfInBounds_toArray, List.set_cons_zero, List.set_cons_succ]
      refine wpL_pure (.pointer (some ⟨r, 2, none⟩)) rfl (by kernel_rfl) ?_
      simp only [Act.put, List.setIfInBounds_toArray, List.set_cons_zero, List.set_cons_succ]
      refine wpL_store_one rfl rfl (r) (2) rfl v' rfl (own_one r2) size57 (by rw [SE.out]; rfl) (free_r Q.out A2.out.1 r3 (by rw [Ne, eq_comm]; exact Q.out.neI) 2) ?_
      simp only [Act.put, List.setIfInBounds_toArray, List.set_cons_zero, List.set_cons_succ]
      obtain ⟨Vc, hX⟩ : ∃ V, V = U2.setCell ⟨r, 2, none⟩ v' := ⟨_, rfl⟩
      rw [← hX]
      have NX : Hid (k + 1 ≤ n ∧ NW Vc w.heap.size r (k + 1) (k + 1) (k + 1) ∧ Below w.heap.size w Vc) := Lib.hid ⟨HK.out, by rw [hX]; exact ⟨_, _, _, _, _, Q.out.addI A2.out.1 r2 r3 r4⟩, by rw [hX]; exact Below.setCell (((Gb.out.2.trans (A2.out.1.mono Gb.out.2.size)).grown r3 (Gb.out.2.trans (A2.out.1.mono Gb.out.2.size)).size (fun j hj => (Q.out.oI.lt j hj).1))) Q.out.base0 _⟩
      clear hX r1 r2 r3 r4 SE A2 Q
      unfold wpList
      go_upto_region 4 with (fail)
      refine wp_region_lit ?_
      refine wpL_pure (.int .i64 (k : Int)) rfl (by kernel_rfl) ?_
      simp only [Act.put, List.setIfInBounds_toArray, List.set_cons_zero, List.set_cons_succ]
      refine wpL_pure (.int .i64 ((k + 1 : Nat) : Int)) rfl (run_addi Try.underlying3 rfl rfl rfl _ (by have := HK.out; have := HN.out; rw [wrap_in _ (by omega) (by omega)]; omega)) ?_
      simp only [Act.put, List.setIfInBounds_toArray, List.set_cons_zero, List.set_cons_succ]
      refine wpL_pure (.int .i64 ((k + 1 : Nat) : Int)) rfl (by kernel_rfl) ?_
      simp only [Act.put, List.setIfInBounds_toArray, List.set_cons_zero, List.set_cons_succ]
      unfold wpList
      go_roundw
      case rel => first | exact ⟨k + 1, rfl, NX⟩ | ((repeat apply Exists.intro); exact ⟨⟨k + 1, rfl, NX⟩, rfl⟩)
      case measure => simp [intOf]; have := HK.out; omega
    · have HK := Lib.hid hlt
      clear hlt
      go_upto_region 3 with (fail)
      refine wp_region_lit ?_
      refine wpL_pure (.int .i64 (k : Int)) rfl (by kernel_rfl) ?_
      simp only [Act.put, List.setIfInBounds_toArray, List.set_cons_zero, List.set_cons_succ]
      refine wpL_pure (.int .i64 (n : Int)) rfl (by kernel_rfl) ?_
      simp only [Act.put, List.setIfInBounds_toArray, List.set_cons_zero, List.set_cons_succ]
      refine wpL_pure (.bool false) rfl (run_lti Try.underlying3 rfl rfl rfl (by have := HK.out; rw [decide_eq_false_iff_not]; omega)) ?_
      simp only [Act.put, List.setIfInBounds_toArray, List.set_cons_zero, List.set_cons_succ]
      refine wpL_pure (.bool false) rfl (by kernel_rfl) ?_
      simp only [Act.put, List.setIfInBounds_toArray, List.set_cons_zero, List.set_cons_succ]
      refine wpL_skip (by kernel_rfl) ?_
      simp only [Act.put, List.setIfInBounds_toArray, List.set_cons_zero, List.set_cons_succ]
      refine wpL_skip (by kernel_rfl) ?_
      simp only [Act.put, List.setIfInBounds_toArray, List.set_cons_zero, List.set_cons_succ]
      refine wpL_pure (.bool false) rfl (by kernel_rfl) ?_
      simp only [Act.put, List.setIfInBounds_toArray, List.set_cons_zero, List.set_cons_succ]
      go_upto_region 8 with (fail)
      refine wp_region_lit ?_
      refine wpL_pure (.pointer (some ⟨r, 0, none⟩)) rfl (by kernel_rfl) ?_
      simp only [Act.put, List.setIfInBounds_toArray, List.set_cons_zero, List.set_cons_succ]
      refine wpL_pure (.pointer (some ⟨r, 0, none⟩)) rfl (by kernel_rfl) ?_
      simp only [Act.put, List.setIfInBounds_toArray, List.set_cons_zero, List.set_cons_succ]
      go_wp2_with fail
      go_ret
      have EK : k = n := by have := RI.out.1; have := HK.out; omega
      subst EK
      exact ⟨r, rfl, nw_rs RI.out.2.1 HN.out, RI.out.2.2, nw_base RI.out.2.1⟩
end Go.Proofs.Yticjpjbmjnalhaa
