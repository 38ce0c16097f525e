/- The reference's disk: what it is, and what stays. -/
import Derived.Test.YticjpjbmjnalhaaF4
namespace Go.Proofs.Yticjpjbmjnalhaa
open Go Go.RowKit
/-- a block whose first n cells are told. -/
def BP (w : World) (g : Nat) (t : TypeId) (n : Nat) (f : Nat → Value) : Prop := ∃ cur : List Value, Blk w g t cur.toArray ∧ ∀ k, k < n → cur[k]? = some (f k)
theorem BP.cell {w : World} {g t n : Nat} {f : Nat → Value} (h : BP w g t n f) (k : Nat) (hk : k < n) : w.cell? ⟨g, k, none⟩ = some (f k) := by
  obtain ⟨cur, hb, hc⟩ := h
  rw [hb.cell, List.getElem?_toArray]
  exact hc k hk
theorem BP.free {w : World} {g t n : Nat} {f : Nat → Value} (h : BP w g t n f) (k : Nat) : w.frozen? ⟨g, k, none⟩ = false := by
  obtain ⟨cur, hb, _⟩ := h
  exact hb.free k
theorem BP.set {w : World} {g t n : Nat} {f : Nat → Value} (h : BP w g t n f) (k : Nat) (v : Value) : BP (w.setCell ⟨g, k, none⟩ v) g t n (fun j => if j = k then v else f j) := by
  obtain ⟨cur, hb, hc⟩ := h
  refine ⟨cur.set k v, hb.set k v, fun j hj => ?_⟩
  have h1 := hc j hj
  by_cases e : j = k
  · subst e
    have hl : j < cur.length := by
      rcases Nat.lt_or_ge j cur.length with q | q
      · exact q
      · rw [List.getElem?_eq_none q] at h1; cases h1
    simp [List.getElem?_set_self hl]
  · simp only [e, if_false]
    rw [List.getElem?_set_ne (Ne.symm e)]
    exact h1
theorem BP.mono {w : World} {g t n : Nat} {f f' : Nat → Value} (h : BP w g t n f) (e : ∀ k, k < n → f k = f' k) : BP w g t n f' := by
  obtain ⟨cur, hb, hc⟩ := h
  exact ⟨cur, hb, fun k hk => by rw [hc k hk, e k hk]⟩
theorem BP.kept {w w' : World} {g t n : Nat} {f : Nat → Value} (h : BP w g t n f) (e : w'.heap[g]? = w.heap[g]?) : BP w' g t n f := by
  obtain ⟨cur, hb, hc⟩ := h
  exact ⟨cur, e.trans hb, hc⟩
theorem BP.other {w : World} {g t n : Nat} {f : Nat → Value} (h : BP w g t n f) (p : Addr) (v : Value) (hp : g ≠ p.block) : BP (w.setCell p v) g t n f := h.kept (heap_setCell_other _ _ _ _ hp)
theorem BP.lt {w : World} {g t n : Nat} {f : Nat → Value} (h : BP w g t n f) : g < w.heap.size := by
  obtain ⟨cur, hb, _⟩ := h
  exact hb.lt
theorem BP.ne {w : World} {g g' t t' n n' : Nat} {f f' : Nat → Value} (h : BP w g t n f) (h' : BP w g' t' n' f') (ht : t ≠ t') : g ≠ g' := by
  rintro rfl
  obtain ⟨cur, hb, _⟩ := h
  obtain ⟨cur', hb', _⟩ := h'
  unfold Blk at hb hb'
  rw [hb] at hb'
  simp at hb'
  exact ht hb'.2
theorem BP.neB {w : World} {g g' t t' n : Nat} {f : Nat → Value} {cs : Array Value} (h : BP w g t n f) (h' : Blk w g' t' cs) (ht : t ≠ t') : g ≠ g' := by
  rintro rfl
  obtain ⟨cur, hb, _⟩ := h
  unfold Blk at hb h'
  rw [hb] at h'
  simp at h'
  exact ht h'.2
/-- a block of the reference's kinds. -/
def RTg (w : World) (k : Nat) : Prop := ∃ cs t, Blk w k t cs ∧ (t = 59 ∨ t = 22 ∨ t = 4 ∨ t = 5)
theorem RTg.blk {w : World} {k t : Nat} {cs : Array Value} (h : Blk w k t cs) (ht : t = 59 ∨ t = 22 ∨ t = 4 ∨ t = 5) : RTg w k := ⟨cs, t, h, ht⟩
theorem RTg.bp {w : World} {g t n : Nat} {f : Nat → Value} (h : BP w g t n f) (ht : t = 59 ∨ t = 22 ∨ t = 4 ∨ t = 5) : RTg w g := by
  obtain ⟨cur, hb, _⟩ := h
  exact ⟨_, t, hb, ht⟩
theorem RTg.kept {w w' : World} {k : Nat} (h : RTg w k) (e : w'.heap[k]? = w.heap[k]?) : RTg w' k := by
  obtain ⟨cs, t, hb, ht⟩ := h
  exact ⟨cs, t, e.trans hb, ht⟩
theorem RTg.set {w : World} {g : Nat} (h : RTg w g) (o : Nat) (v : Value) : RTg (w.setCell ⟨g, o, none⟩ v) g := by
  obtain ⟨cs, t, hb, ht⟩ := h
  exact ⟨_, t, Blk.set (l := cs.toList) (by simpa using hb) o v, ht⟩
/-- what may change: blocks of the reference's kinds, from base on. -/
def FR (base : Nat) (w w' : World) : Prop := w'.os = w.os ∧ w'.tape = w.tape ∧ w'.output = w.output ∧ w.heap.size ≤ w'.heap.size ∧ ∀ k, k < w.heap.size → w'.heap[k]? = w.heap[k]? ∨ (base ≤ k ∧ RTg w k ∧ RTg w' k)
theorem FR.of {base : Nat} {w w' : World} (h : Below w.heap.size w w') : FR base w w' := ⟨h.os, h.tape, h.output, h.size, fun k hk => .inl (h.block k hk)⟩
theorem FR.refl {base : Nat} (w : World) : FR base w w := FR.of (Below.refl _ _)
theorem FR.trans {base : Nat} {w w' w'' : World} (h : FR base w w') (k : FR base w' w'') : FR base w w'' :=
  ⟨k.1.trans h.1, k.2.1.trans h.2.1, k.2.2.1.trans h.2.2.1, Nat.le_trans h.2.2.2.1 k.2.2.2.1, fun j hj => by
    rcases h.2.2.2.2 j hj with e | ⟨h1, h2, h3⟩
    · rcases k.2.2.2.2 j (Nat.lt_of_lt_of_le hj h.2.2.2.1) with e' | ⟨k1, k2, k3⟩
      · exact .inl (e'.trans e)
      · exact .inr ⟨k1, k2.kept e.symm, k3⟩
    · rcases k.2.2.2.2 j (Nat.lt_of_lt_of_le hj h.2.2.2.1) with e' | ⟨k1, k2, k3⟩
      · exact .inr ⟨h1, h2, h3.kept e'⟩
      · exact .inr ⟨h1, h2, k3⟩⟩
theorem FR.gb {base g : Nat} {w w' w'' : World} (h : FR base w w') (q : w'.grownBy w'' (some g)) (hb : base ≤ g) (h1 : RTg w' g) (h2 : RTg w'' g) : FR base w w'' :=
  h.trans ⟨q.os, q.tape, q.output, q.size, fun k hk => by
    by_cases e : k = g
    · subst e; exact .inr ⟨hb, h1, h2⟩
    · exact .inl (q.block k hk (by simpa using e))⟩
theorem FR.set {base g : Nat} {w w' : World} (h : FR base w w') (hb : base ≤ g) (h1 : RTg w' g) (o : Nat) (v : Value) : FR base w (w'.setCell ⟨g, o, none⟩ v) :=
  h.gb (gb_set (gb_refl w' (some g)) o v) hb h1 (h1.set o v)
theorem FR.drewR {base : Nat} {w w' : World} (h : FR base w w') : FR base w w'.drew := h.trans (FR.of (Below.drew (Below.refl _ _)))
theorem FR.below {B : Nat} {a w w' : World} (h : FR B w w') (hb : Below B a w) (hB : B ≤ a.heap.size) : Below B a w' :=
  ⟨h.1.trans hb.os, h.2.1.trans hb.tape, h.2.2.1.trans hb.output, Nat.le_trans hb.size h.2.2.2.1, fun k hk => by
    rcases h.2.2.2.2 k (Nat.lt_of_lt_of_le hk (Nat.le_trans hB hb.size)) with e | ⟨h1, _⟩
    · exact e.trans (hb.block k hk)
    · omega⟩
theorem FR.blk {base : Nat} {w w' : World} {g t : Nat} {cs : Array Value} (h : FR base w w') (hb : Blk w g t cs) (ht : ¬ (t = 59 ∨ t = 22 ∨ t = 4 ∨ t = 5)) : Blk w' g t cs := by
  rcases h.2.2.2.2 g hb.lt with e | ⟨_, ⟨cs', t', h2, h3⟩, _⟩
  · exact e.trans hb
  · exfalso
    unfold Blk at hb h2
    rw [hb] at h2
    simp at h2
    obtain ⟨_, rfl⟩ := h2
    exact ht h3
theorem FR.old {base : Nat} {w w' : World} (h : FR base w w') (k : Nat) (hk : k < base) : k < w.heap.size → w'.heap[k]? = w.heap[k]? := fun hl => by
  rcases h.2.2.2.2 k hl with e | ⟨h1, _⟩
  · exact e
  · omega
theorem FR.row {base : Nat} {w w' : World} {a : Option Addr} {m : Nat} {xs : List Int} (h : FR base w w') (hr : Row w a m xs) (ha : ∀ p, a = some p → p.block < base) : Row w' a m xs := by
  refine ⟨hr.1, hr.2.1, hr.2.2.1, fun j hj => ?_⟩
  obtain ⟨g, o, e, hc⟩ := hr.2.2.2 j hj
  exact ⟨g, o, e, (World.cell?_of_block (h.old g (ha _ e) (cell_lt hc))).trans hc⟩
theorem FR.ds {base : Nat} {w w' : World} {b gs gm n c : Nat} {L : List (Int × List Int × Nat)} {S : List (List Int)} {fu go : Bool} {fz : Int} (h : FR base w w') (d : DS w b gs gm n L c S fu fz go) : DS w' b gs gm n L c S fu fz go := by
  refine ⟨h.blk d.1 (by decide), h.blk d.2.1 (by decide), ?_, d.2.2.2.1, d.2.2.2.2.1, d.2.2.2.2.2.1, Nat.lt_of_lt_of_le d.2.2.2.2.2.2.1 h.2.2.2.1, d.2.2.2.2.2.2.2⟩
  rcases h.2.2.2.2 gm d.2.2.2.2.2.2.1 with e | ⟨_, ⟨cs', t', h2, h3⟩, _⟩
  · exact e.trans d.2.2.1
  · exfalso
    have h1 := d.2.2.1
    unfold Blk at h2
    rw [h2] at h1
    simp at h1
/-- where the reference's disk lies: its record, its three rows, the rows' bytes. -/
structure RD where
  r : Nat
  gN : Nat
  gW : Nat
  gI : Nat
  cN : Nat
  cW : Nat
  cI : Nat
  aN : Option Addr
  aW : Option Addr
  aI : Option Addr
  pN : Nat → Nat
  kN : Nat → Nat
  pW : Nat → Nat
  kW : Nat → Nat
def upF {α : Type} (f : Nat → α) (k : Nat) (x : α) : Nat → α := fun j => if j = k then x else f j
theorem upF_same {α : Type} (f : Nat → α) (k : Nat) (x : α) : upF f k x k = x := by simp [upF]
theorem upF_ne {α : Type} (f : Nat → α) {k j : Nat} (x : α) (h : j ≠ k) : upF f k x j = f j := by simp [upF, h]
def rowF (xs : List Int) : Nat → Value := fun j => .int .u8 (xs.getD j 0)
def secF (p k : Nat → Nat) : Nat → Value := fun j => .slice (some ⟨p j, 0, none⟩) 64 (k j)
structure RSD (w : World) (base n : Nat) (D : RD) (N W : Nat → List Int) (I : Nat → Bool) (fz : Int) (go : Bool) : Prop where
  cells : Blk w D.r 59 (RL (.slice D.aN n D.cN) (.slice D.aW n D.cW) (.slice D.aI n D.cI) fz go).toArray
  addr : 0 < n → D.aN = some ⟨D.gN, 0, none⟩ ∧ D.aW = some ⟨D.gW, 0, none⟩ ∧ D.aI = some ⟨D.gI, 0, none⟩
  bN : 0 < n → BP w D.gN 22 n (secF D.pN D.kN)
  bW : 0 < n → BP w D.gW 22 n (secF D.pW D.kW)
  bI : 0 < n → BP w D.gI 4 n (fun j => .bool (I j))
  rN : ∀ k, k < n → BP w (D.pN k) 5 64 (rowF (N k))
  rW : ∀ k, k < n → BP w (D.pW k) 5 64 (rowF (W k))
  oN : ∀ k, k < n → SOk (N k)
  oW : ∀ k, k < n → SOk (W k)
  cap : ∀ k, k < n → 64 ≤ D.kN k ∧ D.kN k ≤ maxLen ∧ 64 ≤ D.kW k ∧ D.kW k ≤ maxLen
  gNW : 0 < n → D.gN ≠ D.gW
  apart : ∀ k j, k < n → j < n → (k ≠ j → D.pN k ≠ D.pN j ∧ D.pW k ≠ D.pW j) ∧ D.pN k ≠ D.pW j
  base0 : base ≤ D.r
  base1 : 0 < n → base ≤ D.gN ∧ base ≤ D.gW ∧ base ≤ D.gI
  base2 : ∀ k, k < n → base ≤ D.pN k ∧ base ≤ D.pW k
  fuse : -1 ≤ fz ∧ fz ≤ 9223372036854775807
  few : n ≤ 12
theorem RSD.keep {w w' : World} {base n : Nat} {D : RD} {N W : Nat → List Int} {I : Nat → Bool} {fz : Int} {go : Bool} (h : RSD w base n D N W I fz go) (e : ∀ k, RTg w k → w'.heap[k]? = w.heap[k]?) : RSD w' base n D N W I fz go where
  cells := (e _ (RTg.blk h.cells (by decide))).trans h.cells
  addr := h.addr
  bN hn := (h.bN hn).kept (e _ (RTg.bp (h.bN hn) (by decide)))
  bW hn := (h.bW hn).kept (e _ (RTg.bp (h.bW hn) (by decide)))
  bI hn := (h.bI hn).kept (e _ (RTg.bp (h.bI hn) (by decide)))
  rN k hk := (h.rN k hk).kept (e _ (RTg.bp (h.rN k hk) (by decide)))
  rW k hk := (h.rW k hk).kept (e _ (RTg.bp (h.rW k hk) (by decide)))
  oN := h.oN
  oW := h.oW
  cap := h.cap
  gNW := h.gNW
  apart := h.apart
  base0 := h.base0
  base1 := h.base1
  base2 := h.base2
  fuse := h.fuse
  few := h.few
theorem RTg.lt {w : World} {k : Nat} (h : RTg w k) : k < w.heap.size := by
  obtain ⟨cs, t, hb, _⟩ := h
  exact hb.lt
theorem RSD.below {w w' : World} {base n : Nat} {D : RD} {N W : Nat → List Int} {I : Nat → Bool} {fz : Int} {go : Bool} (h : RSD w base n D N W I fz go) (hb : Below w.heap.size w w') : RSD w' base n D N W I fz go := h.keep fun k hk => hb.block k hk.lt
theorem RSD.fd {w w' : World} {base n n' b gs gm c : Nat} {D : RD} {N W : Nat → List Int} {I : Nat → Bool} {fz fz' : Int} {go go' fu : Bool} {L : List (Int × List Int × Nat)} {S : List (List Int)} (h : RSD w base n D N W I fz go) (d : DS w b gs gm n' L c S fu fz' go') (f : Fd b gs gm w w') : RSD w' base n D N W I fz go :=
  h.keep fun k hk => f.2.2.2.2 k hk.lt
    (by
      rintro rfl
      obtain ⟨cs, t, h1, h2⟩ := hk
      have h3 := d.1
      unfold Blk at h1 h3
      rw [h1] at h3
      simp at h3
      obtain ⟨_, rfl⟩ := h3
      simp at h2)
    (by
      rintro rfl
      obtain ⟨cs, t, h1, h2⟩ := hk
      have h3 := d.2.1
      unfold Blk at h1 h3
      rw [h1] at h3
      simp at h3
      obtain ⟨_, rfl⟩ := h3
      simp at h2)
    (by
      rintro rfl
      obtain ⟨cs, t, h1, h2⟩ := hk
      have h3 := d.2.2.1
      unfold Blk at h1
      rw [h1] at h3
      simp at h3)
theorem RSD.setRec {w w' : World} {base n : Nat} {D : RD} {N W : Nat → List Int} {I : Nat → Bool} {fz fz' : Int} {go go' : Bool} (h : RSD w base n D N W I fz go) (q : w.grownBy w' (some D.r)) (hb : Blk w' D.r 59 (RL (.slice D.aN n D.cN) (.slice D.aW n D.cW) (.slice D.aI n D.cI) fz' go').toArray) (hf : -1 ≤ fz' ∧ fz' ≤ 9223372036854775807) : RSD w' base n D N W I fz' go' :=
  have K : ∀ {g t m : Nat} {f : Nat → Value}, BP w g t m f → t ≠ 59 → BP w' g t m f := fun h1 ht => h1.kept (q.block _ h1.lt (by simpa using h1.neB h.cells ht))
  { cells := hb, addr := h.addr, bN := fun hn => K (h.bN hn) (by decide), bW := fun hn => K (h.bW hn) (by decide), bI := fun hn => K (h.bI hn) (by decide), rN := fun k hk => K (h.rN k hk) (by decide), rW := fun k hk => K (h.rW k hk) (by decide), oN := h.oN, oW := h.oW, cap := h.cap, gNW := h.gNW, apart := h.apart, base0 := h.base0, base1 := h.base1, base2 := h.base2, fuse := hf, few := h.few }
theorem RSD.putI {w : World} {base n : Nat} {D : RD} {N W : Nat → List Int} {I : Nat → Bool} {fz : Int} {go : Bool} (h : RSD w base n D N W I fz go) (k : Nat) (hk : k < n) (z : Bool) : RSD (w.setCell ⟨D.gI, k, none⟩ (.bool z)) base n D N W (upF I k z) fz go :=
  have hn : 0 < n := by omega
  have K : ∀ {g t m : Nat} {f : Nat → Value}, BP w g t m f → t ≠ 4 → BP (w.setCell ⟨D.gI, k, none⟩ (.bool z)) g t m f := fun h1 ht => h1.other _ _ (h1.ne (h.bI hn) ht)
  { cells := h.cells.other _ _ ((h.bI hn).neB h.cells (by decide)).symm, addr := h.addr, bN := fun hn => K (h.bN hn) (by decide), bW := fun hn => K (h.bW hn) (by decide), bI := fun hn => ((h.bI hn).set k (.bool z)).mono (fun j _ => by by_cases e : j = k <;> simp [upF, e]), rN := fun k hk => K (h.rN k hk) (by decide), rW := fun k hk => K (h.rW k hk) (by decide), oN := h.oN, oW := h.oW, cap := h.cap, gNW := h.gNW, apart := h.apart, base0 := h.base0, base1 := h.base1, base2 := h.base2, fuse := h.fuse, few := h.few }
theorem RSD.putN {w : World} {base n : Nat} {D : RD} {N W : Nat → List Int} {I : Nat → Bool} {fz : Int} {go : Bool} (h : RSD w base n D N W I fz go) (k : Nat) (hk : k < n) (g c : Nat) (xs : List Int) (hx : SOk xs) (hb : BP w g 5 64 (rowF xs)) (hc : 64 ≤ c ∧ c ≤ maxLen) (hg : base ≤ g) (hne : ∀ j, j < n → g ≠ D.pN j ∧ g ≠ D.pW j) :
    RSD (w.setCell ⟨D.gN, k, none⟩ (.slice (some ⟨g, 0, none⟩) 64 c)) base n { D with pN := upF D.pN k g, kN := upF D.kN k c } (upF N k xs) W I fz go :=
  have hn : 0 < n := by omega
  have K : ∀ {g' t m : Nat} {f : Nat → Value}, BP w g' t m f → t ≠ 22 → BP (w.setCell ⟨D.gN, k, none⟩ (.slice (some ⟨g, 0, none⟩) 64 c)) g' t m f := fun h1 ht => h1.other _ _ (h1.ne (h.bN hn) ht)
  { cells := h.cells.other _ _ ((h.bN hn).neB h.cells (by decide)).symm, addr := h.addr,
    bN := fun hn => ((h.bN hn).set k _).mono (fun j _ => by by_cases e : j = k <;> simp [upF, secF, e]),
    bW := fun hn => (h.bW hn).other _ _ (h.gNW hn).symm, bI := fun hn => K (h.bI hn) (by decide),
    rN := fun j hj => by
      by_cases e : j = k
      · subst e
        simp only [upF_same]
        exact K hb (by decide)
      · simp only [upF_ne _ _ e]
        exact K (h.rN j hj) (by decide)
    rW := fun k hk => K (h.rW k hk) (by decide),
    oN := fun j hj => by
      by_cases e : j = k
      · subst e
        rw [upF_same]
        exact hx
      · rw [upF_ne _ _ e]
        exact h.oN j hj
    oW := h.oW,
    cap := fun j hj => by
      have q := h.cap j hj
      by_cases e : j = k
      · subst e
        simp only [upF_same]
        exact ⟨hc.1, hc.2, q.2.2⟩
      · simp only [upF_ne _ _ e]
        exact q
    gNW := h.gNW,
    apart := fun i j hi hj => by
      have q := h.apart i j hi hj
      have gi := hne i hi
      have gj := hne j hj
      dsimp only
      by_cases e : i = k
      · subst e
        simp only [upF_same]
        refine ⟨fun ne => ?_, gj.2⟩
        rw [upF_ne _ _ (Ne.symm ne)]
        exact ⟨gj.1, (q.1 ne).2⟩
      · rw [upF_ne _ _ e]
        refine ⟨fun ne => ?_, q.2⟩
        by_cases e' : j = k
        · subst e'
          simp only [upF_same]
          exact ⟨gi.1.symm, (q.1 ne).2⟩
        · rw [upF_ne _ _ e']
          exact q.1 ne
    base0 := h.base0, base1 := h.base1,
    base2 := fun j hj => by
      have q := h.base2 j hj
      by_cases e : j = k
      · subst e
        simp only [upF_same]
        exact ⟨hg, q.2⟩
      · simp only [upF_ne _ _ e]
        exact q
    fuse := h.fuse, few := h.few }
theorem RSD.putW {w : World} {base n : Nat} {D : RD} {N W : Nat → List Int} {I : Nat → Bool} {fz : Int} {go : Bool} (h : RSD w base n D N W I fz go) (k : Nat) (hk : k < n) (g c : Nat) (xs : List Int) (hx : SOk xs) (hb : BP w g 5 64 (rowF xs)) (hc : 64 ≤ c ∧ c ≤ maxLen) (hg : base ≤ g) (hne : ∀ j, j < n → g ≠ D.pN j ∧ g ≠ D.pW j) :
    RSD (w.setCell ⟨D.gW, k, none⟩ (.slice (some ⟨g, 0, none⟩) 64 c)) base n { D with pW := upF D.pW k g, kW := upF D.kW k c } N (upF W k xs) I fz go :=
  have hn : 0 < n := by omega
  have K : ∀ {g' t m : Nat} {f : Nat → Value}, BP w g' t m f → t ≠ 22 → BP (w.setCell ⟨D.gW, k, none⟩ (.slice (some ⟨g, 0, none⟩) 64 c)) g' t m f := fun h1 ht => h1.other _ _ (h1.ne (h.bW hn) ht)
  { cells := h.cells.other _ _ ((h.bW hn).neB h.cells (by decide)).symm, addr := h.addr,
    bW := fun hn => ((h.bW hn).set k _).mono (fun j _ => by by_cases e : j = k <;> simp [upF, secF, e]),
    bN := fun hn => (h.bN hn).other _ _ (h.gNW hn), bI := fun hn => K (h.bI hn) (by decide),
    rW := fun j hj => by
      by_cases e : j = k
      · subst e
        simp only [upF_same]
        exact K hb (by decide)
      · simp only [upF_ne _ _ e]
        exact K (h.rW j hj) (by decide)
    rN := fun k hk => K (h.rN k hk) (by decide),
    oW := fun j hj => by
      by_cases e : j = k
      · subst e
        rw [upF_same]
        exact hx
      · rw [upF_ne _ _ e]
        exact h.oW j hj
    oN := h.oN,
    cap := fun j hj => by
      have q := h.cap j hj
      by_cases e : j = k
      · subst e
        simp only [upF_same]
        exact ⟨q.1, q.2.1, hc.1, hc.2⟩
      · simp only [upF_ne _ _ e]
        exact q
    gNW := h.gNW,
    apart := fun i j hi hj => by
      have q := h.apart i j hi hj
      have gi := hne i hi
      have gj := hne j hj
      dsimp only
      refine ⟨fun ne => ⟨(q.1 ne).1, ?_⟩, ?_⟩
      · by_cases e : i = k
        · subst e
          rw [upF_same, upF_ne _ _ (Ne.symm ne)]
          exact gj.2
        · rw [upF_ne _ _ e]
          by_cases e' : j = k
          · subst e'
            rw [upF_same]
            exact gi.2.symm
          · rw [upF_ne _ _ e']
            exact (q.1 ne).2
      · by_cases e' : j = k
        · subst e'
          simp only [upF_same]
          exact gi.1.symm
        · simp only [upF_ne _ _ e']
          exact q.2
    base0 := h.base0, base1 := h.base1,
    base2 := fun j hj => by
      have q := h.base2 j hj
      by_cases e : j = k
      · subst e
        simp only [upF_same]
        exact ⟨q.1, hg⟩
      · simp only [upF_ne _ _ e]
        exact q
    fuse := h.fuse, few := h.few }
theorem SOk.set {xs : List Int} (h : SOk xs) (j : Nat) {x : Int} (hx : 0 ≤ x ∧ x ≤ 255) : SOk (xs.set j x) := ⟨by simpa using h.1, fun y hy => by
  rcases List.mem_or_eq_of_mem_set hy with q | rfl
  · exact h.2 y q
  · exact hx⟩
theorem RSD.putB {w : World} {base n : Nat} {D : RD} {N W : Nat → List Int} {I : Nat → Bool} {fz : Int} {go : Bool} (h : RSD w base n D N W I fz go) (k : Nat) (hk : k < n) (j : Nat) (x : Int) (hx : 0 ≤ x ∧ x ≤ 255) :
    RSD (w.setCell ⟨D.pN k, j, none⟩ (.int .u8 x)) base n D (upF N k ((N k).set j x)) W I fz go :=
  have K : ∀ {g' t m : Nat} {f : Nat → Value}, BP w g' t m f → t ≠ 5 → BP (w.setCell ⟨D.pN k, j, none⟩ (.int .u8 x)) g' t m f := fun h1 ht => h1.other _ _ (h1.ne (h.rN k hk) ht)
  { cells := h.cells.other _ _ ((h.rN k hk).neB h.cells (by decide)).symm, addr := h.addr,
    bN := fun hn => K (h.bN hn) (by decide), bW := fun hn => K (h.bW hn) (by decide), bI := fun hn => K (h.bI hn) (by decide),
    rN := fun i hi => by
      by_cases e : i = k
      · subst e
        rw [upF_same]
        refine ((h.rN i hi).set j _).mono fun q hq => ?_
        have hl := (h.oN i hi).1
        unfold rowF
        by_cases e : q = j
        · subst e
          simp [List.getD, List.getElem?_set_self (show q < (N i).length by omega)]
        · simp [List.getD, List.getElem?_set_ne (Ne.symm e), e]
      · rw [upF_ne _ _ e]
        exact (h.rN i hi).other _ _ ((h.apart i k hi hk).1 e).1
    rW := fun i hi => (h.rW i hi).other _ _ (h.apart k i hk hi).2.symm,
    oN := fun i hi => by
      by_cases e : i = k
      · subst e
        rw [upF_same]
        exact (h.oN i hi).set j hx
      · rw [upF_ne _ _ e]
        exact h.oN i hi
    oW := h.oW, cap := h.cap, gNW := h.gNW, apart := h.apart, base0 := h.base0, base1 := h.base1, base2 := h.base2, fuse := h.fuse, few := h.few }
/-- a row of one's own, of 64 bytes. -/
theorem own_bp {w : World} {B : Nat} {v : Value} {xs : List Int} (h : Own w B v xs) (hx : SOk xs) : ∃ g c, v = .slice (some ⟨g, 0, none⟩) 64 c ∧ BP w g 5 64 (rowF xs) ∧ B ≤ g ∧ (64 ≤ c ∧ c ≤ maxLen) := by
  rcases h.form with ⟨_, e⟩ | ⟨g, c, cur, e, hB, hb, h1, h2, h3, h4⟩
  · rw [e] at hx; exact absurd hx.1 (by simp)
  · rw [hx.1] at e h1 h4
    refine ⟨g, c, e, ⟨cur.toList, by simpa using hb, fun k hk => ?_⟩, hB, h1, h2⟩
    have q : (cur.toList.take 64)[k]? = (xs.map (Value.int .u8))[k]? := by rw [h4]
    rw [List.getElem?_take, if_pos hk] at q
    rw [q, List.getElem?_map]
    have hl : k < xs.length := by rw [hx.1]; exact hk
    simp [rowF, List.getD, List.getElem?_eq_getElem hl]
theorem BP.row {w : World} {g : Nat} {xs : List Int} (h : BP w g 5 64 (rowF xs)) (hx : SOk xs) : Row w (some ⟨g, 0, none⟩) 64 xs :=
  ⟨hx.1, by simp [maxLen], hx.2, fun j hj => ⟨_, _, rfl, by rw [Nat.zero_add]; exact h.cell j hj⟩⟩
end Go.Proofs.Yticjpjbmjnalhaa
