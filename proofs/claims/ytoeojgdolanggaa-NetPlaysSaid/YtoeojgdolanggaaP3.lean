/- The reference's list, and what both are while calls are made. -/
import Derived.Test.YtoeojgdolanggaaP1
import Derived.Test.YtoeojgdolanggaaBT
namespace Go.Proofs.Ytoeojgdolanggaa
open Go Go.RowKit
set_option maxRecDepth 100000
/-- bytes as they were handed in. -/
def Inp (W0 : World) (v : Value) (xs : List Int) : Prop := ∃ a n c, v = .slice a n c ∧ Row W0 a n xs ∧ (a = none → c = 0)
/-- the reference's list at block r: its letters, and the slice that holds them. -/
def RefSt (W0 w : World) (r : Nat) (s : Value) (rs : List Ltr) : Prop :=
  Blk w r 41 #[s] ∧ W0.heap.size ≤ r ∧ LRow w W0.heap.size s rs.length (flat rs) ∧ ∀ l ∈ rs, Inp W0 l.v l.xs ∧ l.xs.length ≤ 16384
theorem RefSt.below {W0 w w' : World} {r : Nat} {s : Value} {rs : List Ltr} (h : RefSt W0 w r s rs) (hb : Below w.heap.size w w') : RefSt W0 w' r s rs := ⟨h.1.below hb, h.2.1, h.2.2.1.below hb, h.2.2.2⟩
theorem LRow.far {w w' : World} {B n b : Nat} {s s0 s1 : Value} {cs : List Value} (h : LRow w B s n cs) (f : FrN w w' b s0 s1) (hb : s.ownBlock ≠ some b) (hs : ∀ g, s.ownBlock = some g → s0.ownBlock ≠ some g) : LRow w' B s n cs := by
  obtain ⟨⟨h1, h2⟩, h3⟩ := h
  have hlt := World.ownsRow.lt (w := w) (base := B) (e := 43) (size := 3) (v := s) (n := n) (xs := cs) ⟨h1, h2⟩
  rcases h2 with h2 | ⟨g, cap, cur, e1, e2, e3, rest⟩
  · exact ⟨⟨h1, .inl h2⟩, h3⟩
  · have eo : s.ownBlock = some g := by rw [e1]; rfl
    exact ⟨⟨h1, .inr ⟨g, cap, cur, e1, e2, (f.block g (hlt g eo).2 (fun e => hb (by rw [eo, e])) (hs g eo)).trans e3, rest⟩⟩, h3⟩
theorem Own.far {w w' : World} {B b : Nat} {v s0 s1 : Value} {xs : List Int} (h : Own w B v xs) (f : FrN w w' b s0 s1) (hb : v.ownBlock ≠ some b) (hs : ∀ g, v.ownBlock = some g → s0.ownBlock ≠ some g) : Own w' B v xs := by
  have hlt := h.lt
  obtain ⟨⟨h1, h2⟩, h3⟩ := h
  rcases h2 with h2 | ⟨g, cap, cur, e1, e2, e3, rest⟩
  · exact ⟨⟨h1, .inl h2⟩, h3⟩
  · have eo : v.ownBlock = some g := by rw [e1]; rfl
    exact ⟨⟨h1, .inr ⟨g, cap, cur, e1, e2, (f.block g (hlt g eo).2 (fun e => hb (by rw [eo, e])) (hs g eo)).trans e3, rest⟩⟩, h3⟩
theorem row_ne {w : World} {B n g t : Nat} {s : Value} {cs : List Value} {cs' : Array Value} (h : LRow w B s n cs) (hg : Blk w g t cs') (ht : t ≠ 43) : s.ownBlock ≠ some g := by
  intro e
  rcases h.forms with ⟨e', _⟩ | ⟨q, cap, cur, e', _, hq, _⟩
  · rw [e'] at e; cases e
  · rw [e'] at e
    simp [Value.ownBlock] at e
    subst e
    exact blk_ne hg hq ht rfl
theorem bytes_ne {w : World} {B B' n : Nat} {s v : Value} {cs : List Value} {xs : List Int} (h : LRow w B s n cs) (h' : Own w B' v xs) : ∀ g, v.ownBlock = some g → s.ownBlock ≠ some g := by
  intro g hg e
  rcases kinds_ne h h' with q | q
  · rw [q] at hg; cases hg
  · exact q (by rw [hg, e])
/-- the program's net and the reference's list, side by side. -/
structure Two (W0 w : World) (b r : Nat) (s t : Value) (ls rs : List Ltr) : Prop where
  net : NetSt w b s ls
  ref : RefSt W0 w r t rs
  sep : ∀ g, s.ownBlock = some g → t.ownBlock ≠ some g
  base : W0.heap.size ≤ b
  low : Below W0.heap.size W0 w
theorem Two.below {W0 w w' : World} {b r : Nat} {s t : Value} {ls rs : List Ltr} (h : Two W0 w b r s t ls rs) (hb : Below w.heap.size w w') : Two W0 w' b r s t ls rs :=
  ⟨h.net.below hb, h.ref.below hb, h.sep, h.base, h.low.trans (hb.mono h.low.size)⟩
theorem Two.ne {W0 w : World} {b r : Nat} {s t : Value} {ls rs : List Ltr} (h : Two W0 w b r s t ls rs) : b ≠ r := blk_ne h.net.1 h.ref.1 (by decide)
theorem Two.prog {W0 w w' : World} {b r : Nat} {s t s' : Value} {ls rs ls' : List Ltr} (h : Two W0 w b r s t ls rs) (f : FrN w w' b s s') (hn : NetSt w' b s' ls') : Two W0 w' b r s' t ls' rs := by
  have hlo : ∀ g, s.ownBlock = some g → W0.heap.size ≤ g := fun g hg => by have := (h.net.2.1.lt g hg).1; have := h.base; omega
  refine ⟨hn, ⟨(f.block r h.ref.1.lt (fun e => h.ne e.symm) (row_ne h.net.2.1 h.ref.1 (by decide))).trans h.ref.1, h.ref.2.1, h.ref.2.2.1.far f (row_ne h.ref.2.2.1 h.net.1 (by decide)) (fun g hg e => h.sep g e hg), h.ref.2.2.2⟩, ?_, h.base, h.low.trans (f.below h.base hlo h.low.size)⟩
  intro g hg e
  rcases f.row g hg with q | q
  · exact h.sep g q e
  · have := (h.ref.2.2.1.lt g e).2; omega
theorem Two.list {W0 w w' : World} {b r : Nat} {s t t' : Value} {ls rs rs' : List Ltr} (h : Two W0 w b r s t ls rs) (f : FrN w w' r t t') (hn : RefSt W0 w' r t' rs') : Two W0 w' b r s t' ls rs' := by
  have hlo : ∀ g, t.ownBlock = some g → W0.heap.size ≤ g := fun g hg => (h.ref.2.2.1.lt g hg).1
  refine ⟨⟨(f.block b h.net.1.lt h.ne (row_ne h.ref.2.2.1 h.net.1 (by decide))).trans h.net.1, h.net.2.1.far f (row_ne h.net.2.1 h.ref.1 (by decide)) (fun g hg => h.sep g hg), fun l hl => ⟨(h.net.2.2 l hl).1.far f (own_ne h.ref.1 (by decide) (h.net.2.2 l hl).1) (bytes_ne h.ref.2.2.1 (h.net.2.2 l hl).1), (h.net.2.2 l hl).2⟩⟩, hn, ?_, h.base, h.low.trans (f.below h.ref.2.1 hlo h.low.size)⟩
  intro g hg e
  rcases f.row g e with q | q
  · exact h.sep g hg q
  · have := (h.net.2.1.lt g hg).2; omega
end Go.Proofs.Ytoeojgdolanggaa
