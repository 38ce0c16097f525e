import Derived.Test.YthkhlkiemldbaaaV1
import Derived.Deep.DeepCutAuto
namespace Go.Proofs.Ythkhlkiemldbaaa
open Go.RowKit
attribute [local go_sem] max_u64 min_u64

theorem bcell2 {W w1 : World} (hb : Below W.heap.size W w1) : (∀ b o, (W.cell? ⟨b, o, none⟩).isSome = true → w1.cell? ⟨b, o, none⟩ = W.cell? ⟨b, o, none⟩) ∧ (∀ b o, (W.cell? ⟨b, o, none⟩).isSome = true → w1.frozen? ⟨b, o, none⟩ = W.frozen? ⟨b, o, none⟩) := by
  have key : ∀ b o, (W.cell? ⟨b, o, none⟩).isSome = true → b < W.heap.size := by
    intro b o h
    obtain ⟨v, hv⟩ := Option.isSome_iff_exists.1 h
    exact World.block_lt_of_cell? W _ hv
  exact ⟨fun b o h => hb.cell (p := ⟨b, o, none⟩) (key b o h), fun b o h => hb.frozen (p := ⟨b, o, none⟩) (key b o h)⟩
def NB (W : World) (n : Nat) : Prop := n < W.heap.size ∧ W.cell? ⟨n, 0, none⟩ = some (.int .u64 0) ∧ W.frozen? ⟨n, 0, none⟩ = false ∧ W.cell? ⟨n, 1, none⟩ = some (.int .u64 0) ∧ W.frozen? ⟨n, 1, none⟩ = false ∧ W.cell? ⟨n, 2, none⟩ = some (.int .u64 0) ∧ W.frozen? ⟨n, 2, none⟩ = false ∧ W.cell? ⟨n, 3, none⟩ = some (.int .u64 0) ∧ W.frozen? ⟨n, 3, none⟩ = false ∧ W.cell? ⟨n, 4, none⟩ = some (.int .u64 0) ∧ W.frozen? ⟨n, 4, none⟩ = false ∧ W.cell? ⟨n, 5, none⟩ = some (.int .u64 0) ∧ W.frozen? ⟨n, 5, none⟩ = false
theorem NB.keep {W w1 : World} {n : Nat} (h : NB W n) (hb : Below W.heap.size W w1) : NB w1 n := by
  obtain ⟨h0, h⟩ := h
  have hc : ∀ o, w1.cell? ⟨n, o, none⟩ = W.cell? ⟨n, o, none⟩ := fun o => hb.cell (p := ⟨n, o, none⟩) h0
  have hf : ∀ o, w1.frozen? ⟨n, o, none⟩ = W.frozen? ⟨n, o, none⟩ := fun o => hb.frozen (p := ⟨n, o, none⟩) h0
  refine ⟨Nat.lt_of_lt_of_le h0 hb.size, ?_⟩
  simp only [hc, hf]
  exact h
theorem NB.of (X : World) : NB (X.alloc (.cells #[.int .u64 0, .int .u64 0, .int .u64 0, .int .u64 0, .int .u64 0, .int .u64 0] 24)) X.heap.size := by
  refine ⟨by simp, ?_⟩
  simp [World.cell?_alloc_new, World.frozen?_alloc_new]
theorem NB.new {X w1 : World} (hb : Below (X.alloc (.cells #[.int .u64 0, .int .u64 0, .int .u64 0, .int .u64 0, .int .u64 0, .int .u64 0] 24)).heap.size (X.alloc (.cells #[.int .u64 0, .int .u64 0, .int .u64 0, .int .u64 0, .int .u64 0, .int .u64 0] 24)) w1) : NB w1 X.heap.size := NB.keep (NB.of X) hb
theorem NB.newd {X w1 : World} (hb : Below (X.alloc (.cells #[.int .u64 0, .int .u64 0, .int .u64 0, .int .u64 0, .int .u64 0, .int .u64 0] 24)).drew.heap.size (X.alloc (.cells #[.int .u64 0, .int .u64 0, .int .u64 0, .int .u64 0, .int .u64 0, .int .u64 0] 24)).drew w1) : NB w1 X.heap.size := NB.keep (W := (X.alloc (.cells #[.int .u64 0, .int .u64 0, .int .u64 0, .int .u64 0, .int .u64 0, .int .u64 0] 24)).drew) (NB.of X) hb
theorem NB.alloc {X : World} {n : Nat} {o : Obj} (h : NB X n) : NB (X.alloc o) n := NB.keep h (below_alloc (Below.refl _ _) (Nat.le_refl _) o)
theorem NB.new2 {X w1 : World} {o : Obj} (hb : Below ((X.alloc (.cells #[.int .u64 0, .int .u64 0, .int .u64 0, .int .u64 0, .int .u64 0, .int .u64 0] 24)).alloc o).heap.size ((X.alloc (.cells #[.int .u64 0, .int .u64 0, .int .u64 0, .int .u64 0, .int .u64 0, .int .u64 0] 24)).alloc o) w1) : NB w1 X.heap.size := NB.keep (NB.alloc (NB.of X)) hb
theorem NB.new2d {X w1 : World} {o : Obj} (hb : Below ((X.alloc (.cells #[.int .u64 0, .int .u64 0, .int .u64 0, .int .u64 0, .int .u64 0, .int .u64 0] 24)).alloc o).drew.heap.size ((X.alloc (.cells #[.int .u64 0, .int .u64 0, .int .u64 0, .int .u64 0, .int .u64 0, .int .u64 0] 24)).alloc o).drew w1) : NB w1 X.heap.size := NB.keep (W := ((X.alloc (.cells #[.int .u64 0, .int .u64 0, .int .u64 0, .int .u64 0, .int .u64 0, .int .u64 0] 24)).alloc o).drew) (NB.alloc (NB.of X)) hb
theorem NB.ne_a {X w1 : World} {b : Nat} (_hb : Below (X.alloc (.cells #[.int .u64 0, .int .u64 0, .int .u64 0, .int .u64 0, .int .u64 0, .int .u64 0] 24)).heap.size (X.alloc (.cells #[.int .u64 0, .int .u64 0, .int .u64 0, .int .u64 0, .int .u64 0, .int .u64 0] 24)) w1) (h : (X.cell? ⟨b, 0, none⟩).isSome = true) : X.heap.size ≠ b := by
  obtain ⟨v, hv⟩ := Option.isSome_iff_exists.1 h
  exact World.new_ne X _ hv
theorem NB.ne_ad {X w1 : World} {b : Nat} (_hb : Below ((X.alloc (.cells #[.int .u64 0, .int .u64 0, .int .u64 0, .int .u64 0, .int .u64 0, .int .u64 0] 24)).drew).heap.size ((X.alloc (.cells #[.int .u64 0, .int .u64 0, .int .u64 0, .int .u64 0, .int .u64 0, .int .u64 0] 24)).drew) w1) (h : (X.cell? ⟨b, 0, none⟩).isSome = true) : X.heap.size ≠ b := by
  obtain ⟨v, hv⟩ := Option.isSome_iff_exists.1 h
  exact World.new_ne X _ hv
theorem NB.ne_a2 {X w1 : World} {o : Obj} {b : Nat} (_hb : Below ((X.alloc (.cells #[.int .u64 0, .int .u64 0, .int .u64 0, .int .u64 0, .int .u64 0, .int .u64 0] 24)).alloc o).heap.size ((X.alloc (.cells #[.int .u64 0, .int .u64 0, .int .u64 0, .int .u64 0, .int .u64 0, .int .u64 0] 24)).alloc o) w1) (h : (X.cell? ⟨b, 0, none⟩).isSome = true) : X.heap.size ≠ b := by
  obtain ⟨v, hv⟩ := Option.isSome_iff_exists.1 h
  exact World.new_ne X _ hv
theorem NB.ne_a2d {X w1 : World} {o : Obj} {b : Nat} (_hb : Below (((X.alloc (.cells #[.int .u64 0, .int .u64 0, .int .u64 0, .int .u64 0, .int .u64 0, .int .u64 0] 24)).alloc o).drew).heap.size (((X.alloc (.cells #[.int .u64 0, .int .u64 0, .int .u64 0, .int .u64 0, .int .u64 0, .int .u64 0] 24)).alloc o).drew) w1) (h : (X.cell? ⟨b, 0, none⟩).isSome = true) : X.heap.size ≠ b := by
  obtain ⟨v, hv⟩ := Option.isSome_iff_exists.1 h
  exact World.new_ne X _ hv
def GeSize (b : Nat) (w : World) : Prop := w.heap.size ≤ b
def LeSize (b : Nat) (w : World) : Prop := b ≤ w.heap.size
theorem Below.step {B : Nat} {a X w1 : World} (hle : LeSize B a) (h : Below B a X) (hb : Below X.heap.size X w1) : Below B a w1 := h.trans (hb.mono (Nat.le_trans hle h.size))
@[local simp] theorem below_drew_s {B : Nat} {a X : World} : Below B a X.drew ↔ Below B a X := ⟨fun h => ⟨h.os, h.tape, h.output, h.size, h.block⟩, fun h => h.drew⟩
theorem below_alloc_s {B : Nat} {a X : World} (hle : LeSize B a) (h : Below B a X) (o : Obj) : Below B a (X.alloc o) := h.alloc (Nat.le_trans hle h.size) o
theorem below_setCell_s {B : Nat} {a X : World} (n o : Nat) (hn : B ≤ n) (u : Value) : Below B a (X.setCell ⟨n, o, none⟩ u) ↔ Below B a X := by
  have h0 : Below B X (X.setCell ⟨n, o, none⟩ u) := (Below.refl B X).setCell hn u
  refine ⟨fun h => ⟨h0.os.symm.trans h.os, h0.tape.symm.trans h.tape, h0.output.symm.trans h.output, ?_, fun k hk => (h0.block k hk).symm.trans (h.block k hk)⟩, fun h => h.trans h0⟩
  have := h.size
  simpa using this
theorem NB.ge_a {X w1 a : World} {B : Nat} (_hb : Below (X.alloc (.cells #[.int .u64 0, .int .u64 0, .int .u64 0, .int .u64 0, .int .u64 0, .int .u64 0] 24)).heap.size (X.alloc (.cells #[.int .u64 0, .int .u64 0, .int .u64 0, .int .u64 0, .int .u64 0, .int .u64 0] 24)) w1) (hle : LeSize B a) (h : Below B a X) : B ≤ X.heap.size := Nat.le_trans hle h.size
theorem NB.ge_ad {X w1 a : World} {B : Nat} (_hb : Below ((X.alloc (.cells #[.int .u64 0, .int .u64 0, .int .u64 0, .int .u64 0, .int .u64 0, .int .u64 0] 24)).drew).heap.size ((X.alloc (.cells #[.int .u64 0, .int .u64 0, .int .u64 0, .int .u64 0, .int .u64 0, .int .u64 0] 24)).drew) w1) (hle : LeSize B a) (h : Below B a X) : B ≤ X.heap.size := Nat.le_trans hle h.size
theorem NB.ge_a2 {X w1 a : World} {o : Obj} {B : Nat} (_hb : Below ((X.alloc (.cells #[.int .u64 0, .int .u64 0, .int .u64 0, .int .u64 0, .int .u64 0, .int .u64 0] 24)).alloc o).heap.size ((X.alloc (.cells #[.int .u64 0, .int .u64 0, .int .u64 0, .int .u64 0, .int .u64 0, .int .u64 0] 24)).alloc o) w1) (hle : LeSize B a) (h : Below B a X) : B ≤ X.heap.size := Nat.le_trans hle h.size
theorem NB.ge_a2d {X w1 a : World} {o : Obj} {B : Nat} (_hb : Below (((X.alloc (.cells #[.int .u64 0, .int .u64 0, .int .u64 0, .int .u64 0, .int .u64 0, .int .u64 0] 24)).alloc o).drew).heap.size (((X.alloc (.cells #[.int .u64 0, .int .u64 0, .int .u64 0, .int .u64 0, .int .u64 0, .int .u64 0] 24)).alloc o).drew) w1) (hle : LeSize B a) (h : Below B a X) : B ≤ X.heap.size := Nat.le_trans hle h.size
@[local simp] theorem drew_size (w : World) : w.drew.heap.size = w.heap.size := rfl
theorem join_swap (a0 a1 a2 a3 a4 a5 b0 b1 b2 b3 b4 b5 : Int) (w : World) :
    Calls Try.prog 9 #[.agg #[.int .u64 a0, .int .u64 a1, .int .u64 a2, .int .u64 a3, .int .u64 a4, .int .u64 a5], .agg #[.int .u64 b0, .int .u64 b1, .int .u64 b2, .int .u64 b3, .int .u64 b4, .int .u64 b5]] w fun e w' => e = .returned (.agg #[.int .u64 (max b0 a0), .int .u64 (max b1 a1), .int .u64 (max b2 a2), .int .u64 (max b3 a3), .int .u64 (max b4 a4), .int .u64 (max b5 a5)]) ∧ Below w.heap.size w w' := by
  have h := join_any a0 a1 a2 a3 a4 a5 b0 b1 b2 b3 b4 b5 w
  rw [Int.max_comm a0 b0, Int.max_comm a1 b1, Int.max_comm a2 b2, Int.max_comm a3 b3, Int.max_comm a4 b4, Int.max_comm a5 b5] at h
  exact h
theorem not_max_l (a0 a1 a2 a3 a4 a5 b0 b1 b2 b3 b4 b5 c0 c1 c2 c3 c4 c5 : Int) (h : ¬ (a0 ≤ c0 ∧ a1 ≤ c1 ∧ a2 ≤ c2 ∧ a3 ≤ c3 ∧ a4 ≤ c4 ∧ a5 ≤ c5)) : ¬ (max a0 b0 ≤ c0 ∧ max a1 b1 ≤ c1 ∧ max a2 b2 ≤ c2 ∧ max a3 b3 ≤ c3 ∧ max a4 b4 ≤ c4 ∧ max a5 b5 ≤ c5) := fun k => h ⟨Int.le_trans (Int.le_max_left _ _) k.1, Int.le_trans (Int.le_max_left _ _) k.2.1, Int.le_trans (Int.le_max_left _ _) k.2.2.1, Int.le_trans (Int.le_max_left _ _) k.2.2.2.1, Int.le_trans (Int.le_max_left _ _) k.2.2.2.2.1, Int.le_trans (Int.le_max_left _ _) k.2.2.2.2.2⟩
theorem not_max_r (a0 a1 a2 a3 a4 a5 b0 b1 b2 b3 b4 b5 c0 c1 c2 c3 c4 c5 : Int) (h : ¬ (b0 ≤ c0 ∧ b1 ≤ c1 ∧ b2 ≤ c2 ∧ b3 ≤ c3 ∧ b4 ≤ c4 ∧ b5 ≤ c5)) : ¬ (max a0 b0 ≤ c0 ∧ max a1 b1 ≤ c1 ∧ max a2 b2 ≤ c2 ∧ max a3 b3 ≤ c3 ∧ max a4 b4 ≤ c4 ∧ max a5 b5 ≤ c5) := fun k => h ⟨Int.le_trans (Int.le_max_right _ _) k.1, Int.le_trans (Int.le_max_right _ _) k.2.1, Int.le_trans (Int.le_max_right _ _) k.2.2.1, Int.le_trans (Int.le_max_right _ _) k.2.2.2.1, Int.le_trans (Int.le_max_right _ _) k.2.2.2.2.1, Int.le_trans (Int.le_max_right _ _) k.2.2.2.2.2⟩
theorem great_false (a0 a1 a2 a3 a4 a5 b0 b1 b2 b3 b4 b5 : Int) (h : ¬ (b0 ≤ a0 ∧ b1 ≤ a1 ∧ b2 ≤ a2 ∧ b3 ≤ a3 ∧ b4 ≤ a4 ∧ b5 ≤ a5)) (w : World) :
    Calls Try.prog 11 #[.agg #[.int .u64 a0, .int .u64 a1, .int .u64 a2, .int .u64 a3, .int .u64 a4, .int .u64 a5], .agg #[.int .u64 b0, .int .u64 b1, .int .u64 b2, .int .u64 b3, .int .u64 b4, .int .u64 b5]] w fun e w' => e = .returned (.bool false) ∧ Below w.heap.size w w' := by
  have h' := great_any a0 a1 a2 a3 a4 a5 b0 b1 b2 b3 b4 b5 w
  rw [decide_eq_false h] at h'
  exact h'
def Row6 (W : World) (b : Nat) (x0 x1 x2 x3 x4 x5 : Int) : Prop := W.cell? ⟨b, 0, none⟩ = some (.int .u64 x0) ∧ W.cell? ⟨b, 1, none⟩ = some (.int .u64 x1) ∧ W.cell? ⟨b, 2, none⟩ = some (.int .u64 x2) ∧ W.cell? ⟨b, 3, none⟩ = some (.int .u64 x3) ∧ W.cell? ⟨b, 4, none⟩ = some (.int .u64 x4) ∧ W.cell? ⟨b, 5, none⟩ = some (.int .u64 x5)
theorem Row6.new (w : World) (x0 x1 x2 x3 x4 x5 : Int) : Row6 (w.alloc (.cells #[.int .u64 x0, .int .u64 x1, .int .u64 x2, .int .u64 x3, .int .u64 x4, .int .u64 x5] 24)) w.heap.size x0 x1 x2 x3 x4 x5 := by
  simp [Row6, World.cell?_alloc_new]
theorem Row6.lt {W : World} {b : Nat} {x0 x1 x2 x3 x4 x5 : Int} (h : Row6 W b x0 x1 x2 x3 x4 x5) : b < W.heap.size := World.block_lt_of_cell? W _ h.1
theorem Row6.keep {W W1 : World} {B b : Nat} {x0 x1 x2 x3 x4 x5 : Int} (h : Row6 W b x0 x1 x2 x3 x4 x5) (hb : Below B W W1) (hlt : b < B) : Row6 W1 b x0 x1 x2 x3 x4 x5 := by
  obtain ⟨h1, h2, h3, h4, h5, h6⟩ := h
  exact ⟨(hb.cell (p := ⟨b, 0, none⟩) hlt).trans h1, (hb.cell (p := ⟨b, 1, none⟩) hlt).trans h2, (hb.cell (p := ⟨b, 2, none⟩) hlt).trans h3, (hb.cell (p := ⟨b, 3, none⟩) hlt).trans h4, (hb.cell (p := ⟨b, 4, none⟩) hlt).trans h5, (hb.cell (p := ⟨b, 5, none⟩) hlt).trans h6⟩
theorem Row6.keep' {W W1 : World} {b : Nat} {x0 x1 x2 x3 x4 x5 : Int} (h : Row6 W b x0 x1 x2 x3 x4 x5) (hb : Below W.heap.size W W1) : Row6 W1 b x0 x1 x2 x3 x4 x5 := h.keep hb h.lt
@[local simp] theorem row6_drew {W : World} {b : Nat} {x0 x1 x2 x3 x4 x5 : Int} : Row6 W.drew b x0 x1 x2 x3 x4 x5 ↔ Row6 W b x0 x1 x2 x3 x4 x5 := Iff.rfl
@[local simp] theorem Row6.alloc {W : World} {b : Nat} {x0 x1 x2 x3 x4 x5 : Int} (h : Row6 W b x0 x1 x2 x3 x4 x5) (o : Obj) : Row6 (W.alloc o) b x0 x1 x2 x3 x4 x5 :=
  h.keep (B := W.heap.size) (below_alloc (Below.refl _ _) (Nat.le_refl _) o) h.lt
/-- what stands behind the first statement. -/
def Joined (a0_0 a0_1 a0_2 a0_3 a0_4 a0_5 a1_0 a1_1 a1_2 a1_3 a1_4 a1_5 a2_0 a2_1 a2_2 a2_3 a2_4 a2_5 : Int) (B0 : Nat) (w : World) (b0 b1 b2 : Nat) (s7 s8 : Value) (wr : World) : Prop :=
  ∃ bj bm : Nat, s7 = .pointer (some ⟨bj, 0, none⟩) ∧ s8 = .pointer (some ⟨bm, 0, none⟩) ∧ Row6 wr b0 a0_0 a0_1 a0_2 a0_3 a0_4 a0_5 ∧ Row6 wr b1 a1_0 a1_1 a1_2 a1_3 a1_4 a1_5 ∧ Row6 wr b2 a2_0 a2_1 a2_2 a2_3 a2_4 a2_5 ∧ Row6 wr bj (max a0_0 a1_0) (max a0_1 a1_1) (max a0_2 a1_2) (max a0_3 a1_3) (max a0_4 a1_4) (max a0_5 a1_5) ∧ Row6 wr bm (min a0_0 a1_0) (min a0_1 a1_1) (min a0_2 a1_2) (min a0_3 a1_3) (min a0_4 a1_4) (min a0_5 a1_5) ∧ Below B0 w wr

set_option maxHeartbeats 4000000 in
theorem walkVectorJoins (a0_0 a0_1 a0_2 a0_3 a0_4 a0_5 a1_0 a1_1 a1_2 a1_3 a1_4 a1_5 a2_0 a2_1 a2_2 a2_3 a2_4 a2_5 : Int) (w0_0 : (Lit.int .u64 a0_0).wf = true) (w0_1 : (Lit.int .u64 a0_1).wf = true) (w0_2 : (Lit.int .u64 a0_2).wf = true) (w0_3 : (Lit.int .u64 a0_3).wf = true) (w0_4 : (Lit.int .u64 a0_4).wf = true) (w0_5 : (Lit.int .u64 a0_5).wf = true) (w1_0 : (Lit.int .u64 a1_0).wf = true) (w1_1 : (Lit.int .u64 a1_1).wf = true) (w1_2 : (Lit.int .u64 a1_2).wf = true) (w1_3 : (Lit.int .u64 a1_3).wf = true) (w1_4 : (Lit.int .u64 a1_4).wf = true) (w1_5 : (Lit.int .u64 a1_5).wf = true) (w2_0 : (Lit.int .u64 a2_0).wf = true) (w2_1 : (Lit.int .u64 a2_1).wf = true) (w2_2 : (Lit.int .u64 a2_2).wf = true) (w2_3 : (Lit.int .u64 a2_3).wf = true) (w2_4 : (Lit.int .u64 a2_4).wf = true) (w2_5 : (Lit.int .u64 a2_5).wf = true) (w : World) :
    Calls Try.prog 3 #[.agg #[.int .u64 a0_0, .int .u64 a0_1, .int .u64 a0_2, .int .u64 a0_3, .int .u64 a0_4, .int .u64 a0_5], .agg #[.int .u64 a1_0, .int .u64 a1_1, .int .u64 a1_2, .int .u64 a1_3, .int .u64 a1_4, .int .u64 a1_5], .agg #[.int .u64 a2_0, .int .u64 a2_1, .int .u64 a2_2, .int .u64 a2_3, .int .u64 a2_4, .int .u64 a2_5]] w fun e w' => e = .returned (.bool true) ∧ Below w.heap.size w w' := by
  go_enter Try.func3, Try.ntmps3
  go_wp2_with fail
  obtain ⟨W3, hW3⟩ : ∃ W3, W3 = ((w.alloc (.cells #[.int .u64 a0_0, .int .u64 a0_1, .int .u64 a0_2, .int .u64 a0_3, .int .u64 a0_4, .int .u64 a0_5] 24)).alloc (.cells #[.int .u64 a1_0, .int .u64 a1_1, .int .u64 a1_2, .int .u64 a1_3, .int .u64 a1_4, .int .u64 a1_5] 24)).alloc (.cells #[.int .u64 a2_0, .int .u64 a2_1, .int .u64 a2_2, .int .u64 a2_3, .int .u64 a2_4, .int .u64 a2_5] 24) := ⟨_, rfl⟩
  rw [← hW3]
  have r0 : Row6 W3 w.heap.size a0_0 a0_1 a0_2 a0_3 a0_4 a0_5 := by rw [hW3]; exact ((Row6.new w _ _ _ _ _ _).alloc _).alloc _
  have r1 : Row6 W3 (w.heap.size + 1) a1_0 a1_1 a1_2 a1_3 a1_4 a1_5 := by rw [hW3]; exact (by simpa using (Row6.new (w.alloc (.cells #[.int .u64 a0_0, .int .u64 a0_1, .int .u64 a0_2, .int .u64 a0_3, .int .u64 a0_4, .int .u64 a0_5] 24)) a1_0 a1_1 a1_2 a1_3 a1_4 a1_5).alloc (.cells #[.int .u64 a2_0, .int .u64 a2_1, .int .u64 a2_2, .int .u64 a2_3, .int .u64 a2_4, .int .u64 a2_5] 24))
  have r2 : Row6 W3 (w.heap.size + 1 + 1) a2_0 a2_1 a2_2 a2_3 a2_4 a2_5 := by rw [hW3]; exact (by simpa using (Row6.new ((w.alloc (.cells #[.int .u64 a0_0, .int .u64 a0_1, .int .u64 a0_2, .int .u64 a0_3, .int .u64 a0_4, .int .u64 a0_5] 24)).alloc (.cells #[.int .u64 a1_0, .int .u64 a1_1, .int .u64 a1_2, .int .u64 a1_3, .int .u64 a1_4, .int .u64 a1_5] 24)) a2_0 a2_1 a2_2 a2_3 a2_4 a2_5))
  have hbw : Below w.heap.size w W3 := by
    rw [hW3]
    repeat (first | exact Below.refl _ _ | refine below_alloc ?_ (Nat.le_refl _) _)
  clear hW3
  have hle : LeSize w.heap.size w := Nat.le_refl _
  have hge : GeSize w.heap.size w := Nat.le_refl _
  generalize w.heap.size + 1 + 1 = b2 at *
  generalize w.heap.size + 1 = b1 at *
  generalize w.heap.size = b0 at *
  obtain ⟨c00, c01, c02, c03, c04, c05⟩ := id r0
  obtain ⟨c10, c11, c12, c13, c14, c15⟩ := id r1
  obtain ⟨c20, c21, c22, c23, c24, c25⟩ := id r2
  go_cut [7, 8] (fun s7 s8 wr => Joined a0_0 a0_1 a0_2 a0_3 a0_4 a0_5 a1_0 a1_1 a1_2 a1_3 a1_4 a1_5 a2_0 a2_1 a2_2 a2_3 a2_4 a2_5 b0 w b0 b1 b2 s7 s8 wr)
  case first =>
    go_region_held3 (fun w' => Below b0 w w' ∧ w'.cell? ⟨b0, 0, none⟩ = some (.int .u64 a0_0) ∧ w'.cell? ⟨b0, 1, none⟩ = some (.int .u64 a0_1) ∧ w'.cell? ⟨b0, 2, none⟩ = some (.int .u64 a0_2) ∧ w'.cell? ⟨b0, 3, none⟩ = some (.int .u64 a0_3) ∧ w'.cell? ⟨b0, 4, none⟩ = some (.int .u64 a0_4) ∧ w'.cell? ⟨b0, 5, none⟩ = some (.int .u64 a0_5) ∧ w'.cell? ⟨b1, 0, none⟩ = some (.int .u64 a1_0) ∧ w'.cell? ⟨b1, 1, none⟩ = some (.int .u64 a1_1) ∧ w'.cell? ⟨b1, 2, none⟩ = some (.int .u64 a1_2) ∧ w'.cell? ⟨b1, 3, none⟩ = some (.int .u64 a1_3) ∧ w'.cell? ⟨b1, 4, none⟩ = some (.int .u64 a1_4) ∧ w'.cell? ⟨b1, 5, none⟩ = some (.int .u64 a1_5) ∧ w'.cell? ⟨b2, 0, none⟩ = some (.int .u64 a2_0) ∧ w'.cell? ⟨b2, 1, none⟩ = some (.int .u64 a2_1) ∧ w'.cell? ⟨b2, 2, none⟩ = some (.int .u64 a2_2) ∧ w'.cell? ⟨b2, 3, none⟩ = some (.int .u64 a2_3) ∧ w'.cell? ⟨b2, 4, none⟩ = some (.int .u64 a2_4) ∧ w'.cell? ⟨b2, 5, none⟩ = some (.int .u64 a2_5)) (simp (maxDischargeDepth := 6) [*, World.cell?_alloc_some, World.cell?_setCell_far, below_alloc_s, below_setCell_s]) (first | (go_at_call 9; refine (join_any _ _ _ _ _ _ _ _ _ _ _ _ _).mono ?_; rintro e w' ⟨rfl, hb⟩; obtain ⟨hc, hf⟩ := bcell2 hb; (try have nn := NB.keep nn hb); (try have mm := NB.keep mm hb); (first | (have mm := NB.new2d hb; have gm := NB.ge_a2d hb hle (by simp [*, below_alloc_s]); have em0 := NB.ne_a2d (b := b0) hb (by simp [*, World.cell?_alloc_some]); have em1 := NB.ne_a2d (b := b1) hb (by simp [*, World.cell?_alloc_some]); have em2 := NB.ne_a2d (b := b2) hb (by simp [*, World.cell?_alloc_some]); skip) | (have mm := NB.new2 hb; have gm := NB.ge_a2 hb hle (by simp [*, below_alloc_s]); have em0 := NB.ne_a2 (b := b0) hb (by simp [*, World.cell?_alloc_some]); have em1 := NB.ne_a2 (b := b1) hb (by simp [*, World.cell?_alloc_some]); have em2 := NB.ne_a2 (b := b2) hb (by simp [*, World.cell?_alloc_some]); skip) | skip); (first | (have nn := NB.newd hb; have gn := NB.ge_ad hb hle (by simp [*, below_alloc_s]); have en0 := NB.ne_ad (b := b0) hb (by simp [*, World.cell?_alloc_some]); have en1 := NB.ne_ad (b := b1) hb (by simp [*, World.cell?_alloc_some]); have en2 := NB.ne_ad (b := b2) hb (by simp [*, World.cell?_alloc_some]); skip) | (have nn := NB.new hb; have gn := NB.ge_a hb hle (by simp [*, below_alloc_s]); have en0 := NB.ne_a (b := b0) hb (by simp [*, World.cell?_alloc_some]); have en1 := NB.ne_a (b := b1) hb (by simp [*, World.cell?_alloc_some]); have en2 := NB.ne_a (b := b2) hb (by simp [*, World.cell?_alloc_some]); skip) | skip); (try simp only [World.size_alloc, drew_size] at nn en0 en1 en2 gn); (try (obtain ⟨n0, n1, n2, n3, n4, n5, n6, n7, n8, n9, na, nb, nc⟩ := id nn)); (try (obtain ⟨m0, m1, m2, m3, m4, m5, m6, m7, m8, m9, ma, mb, mc⟩ := id mm)); have hB := Below.step hle (by simp [*, below_alloc_s]) hb; clear hb) | (go_at_call 10; refine (meet_any _ _ _ _ _ _ _ _ _ _ _ _ _).mono ?_; rintro e w' ⟨rfl, hb⟩; obtain ⟨hc, hf⟩ := bcell2 hb; (try have nn := NB.keep nn hb); (try have mm := NB.keep mm hb); (first | (have mm := NB.new2d hb; have gm := NB.ge_a2d hb hle (by simp [*, below_alloc_s]); have em0 := NB.ne_a2d (b := b0) hb (by simp [*, World.cell?_alloc_some]); have em1 := NB.ne_a2d (b := b1) hb (by simp [*, World.cell?_alloc_some]); have em2 := NB.ne_a2d (b := b2) hb (by simp [*, World.cell?_alloc_some]); skip) | (have mm := NB.new2 hb; have gm := NB.ge_a2 hb hle (by simp [*, below_alloc_s]); have em0 := NB.ne_a2 (b := b0) hb (by simp [*, World.cell?_alloc_some]); have em1 := NB.ne_a2 (b := b1) hb (by simp [*, World.cell?_alloc_some]); have em2 := NB.ne_a2 (b := b2) hb (by simp [*, World.cell?_alloc_some]); skip) | skip); (first | (have nn := NB.newd hb; have gn := NB.ge_ad hb hle (by simp [*, below_alloc_s]); have en0 := NB.ne_ad (b := b0) hb (by simp [*, World.cell?_alloc_some]); have en1 := NB.ne_ad (b := b1) hb (by simp [*, World.cell?_alloc_some]); have en2 := NB.ne_ad (b := b2) hb (by simp [*, World.cell?_alloc_some]); skip) | (have nn := NB.new hb; have gn := NB.ge_a hb hle (by simp [*, below_alloc_s]); have en0 := NB.ne_a (b := b0) hb (by simp [*, World.cell?_alloc_some]); have en1 := NB.ne_a (b := b1) hb (by simp [*, World.cell?_alloc_some]); have en2 := NB.ne_a (b := b2) hb (by simp [*, World.cell?_alloc_some]); skip) | skip); (try simp only [World.size_alloc, drew_size] at nn en0 en1 en2 gn); (try (obtain ⟨n0, n1, n2, n3, n4, n5, n6, n7, n8, n9, na, nb, nc⟩ := id nn)); (try (obtain ⟨m0, m1, m2, m3, m4, m5, m6, m7, m8, m9, ma, mb, mc⟩ := id mm)); have hB := Below.step hle (by simp [*, below_alloc_s]) hb; clear hb))
    all_goals
      go_wp2
      go_meet
      case rel =>
        refine ⟨_, _, rfl, rfl, ?_, ?_, ?_, ?_, ?_, ?_⟩
        all_goals (try (unfold Row6))
        all_goals (first | (simp (maxDischargeDepth := 6) [*, World.cell?_alloc_some, World.cell?_setCell_far, below_alloc_s, below_setCell_s]; done) | (simp (maxDischargeDepth := 20) [*, World.cell?_alloc_some, World.cell?_setCell_far, World.cell?_setCell_same, World.cell?_setCell_other, World.cell?_alloc_at, World.cell?_alloc_past]; done))
  case rest =>
    obtain ⟨bj, bm, rfl, rfl, q0, q1, q2, qj, qm, hB⟩ := hcut
    clear c00 c01 c02 c03 c04 c05 c10 c11 c12 c13 c14 c15 c20 c21 c22 c23 c24 c25 r0 r1 r2 hbw
    obtain ⟨c00, c01, c02, c03, c04, c05⟩ := id q0
    obtain ⟨c10, c11, c12, c13, c14, c15⟩ := id q1
    obtain ⟨c20, c21, c22, c23, c24, c25⟩ := id q2
    obtain ⟨cj0, cj1, cj2, cj3, cj4, cj5⟩ := id qj
    obtain ⟨cm0, cm1, cm2, cm3, cm4, cm5⟩ := id qm
    by_cases P : a0_0 ≤ a2_0 ∧ a0_1 ≤ a2_1 ∧ a0_2 ≤ a2_2 ∧ a0_3 ≤ a2_3 ∧ a0_4 ≤ a2_4 ∧ a0_5 ≤ a2_5
    · obtain ⟨p0, p1, p2, p3, p4, p5⟩ := P
      by_cases Q : a1_0 ≤ a2_0 ∧ a1_1 ≤ a2_1 ∧ a1_2 ≤ a2_2 ∧ a1_3 ≤ a2_3 ∧ a1_4 ≤ a2_4 ∧ a1_5 ≤ a2_5
      · obtain ⟨t0, t1, t2, t3, t4, t5⟩ := Q
        go_wp2_with fail
        refine (great_true _ _ _ _ _ _ _ _ _ _ _ _ p0 p1 p2 p3 p4 p5 _).mono ?_
        rintro e w1 ⟨rfl, hb⟩
        replace q0 := Row6.keep' q0 hb
        replace q1 := Row6.keep' q1 hb
        replace q2 := Row6.keep' q2 hb
        replace qj := Row6.keep' qj hb
        replace qm := Row6.keep' qm hb
        replace hB := Below.step hle hB hb
        clear hb c00 c01 c02 c03 c04 c05 c10 c11 c12 c13 c14 c15 c20 c21 c22 c23 c24 c25 cj0 cj1 cj2 cj3 cj4 cj5 cm0 cm1 cm2 cm3 cm4 cm5
        obtain ⟨c00, c01, c02, c03, c04, c05⟩ := id q0
        obtain ⟨c10, c11, c12, c13, c14, c15⟩ := id q1
        obtain ⟨c20, c21, c22, c23, c24, c25⟩ := id q2
        obtain ⟨cj0, cj1, cj2, cj3, cj4, cj5⟩ := id qj
        obtain ⟨cm0, cm1, cm2, cm3, cm4, cm5⟩ := id qm
        go_wp2_with fail
        refine (great_true _ _ _ _ _ _ _ _ _ _ _ _ t0 t1 t2 t3 t4 t5 _).mono ?_
        rintro e w2 ⟨rfl, hb⟩
        replace q0 := Row6.keep' q0 hb
        replace q1 := Row6.keep' q1 hb
        replace q2 := Row6.keep' q2 hb
        replace qj := Row6.keep' qj hb
        replace qm := Row6.keep' qm hb
        replace hB := Below.step hle hB hb
        clear hb c00 c01 c02 c03 c04 c05 c10 c11 c12 c13 c14 c15 c20 c21 c22 c23 c24 c25 cj0 cj1 cj2 cj3 cj4 cj5 cm0 cm1 cm2 cm3 cm4 cm5
        obtain ⟨c00, c01, c02, c03, c04, c05⟩ := id q0
        obtain ⟨c10, c11, c12, c13, c14, c15⟩ := id q1
        obtain ⟨c20, c21, c22, c23, c24, c25⟩ := id q2
        obtain ⟨cj0, cj1, cj2, cj3, cj4, cj5⟩ := id qj
        obtain ⟨cm0, cm1, cm2, cm3, cm4, cm5⟩ := id qm
        go_wp2_with fail
        go_region_held3 (fun w' => Below b0 w w' ∧ w'.cell? ⟨b0, 0, none⟩ = some (.int .u64 a0_0) ∧ w'.cell? ⟨b0, 1, none⟩ = some (.int .u64 a0_1) ∧ w'.cell? ⟨b0, 2, none⟩ = some (.int .u64 a0_2) ∧ w'.cell? ⟨b0, 3, none⟩ = some (.int .u64 a0_3) ∧ w'.cell? ⟨b0, 4, none⟩ = some (.int .u64 a0_4) ∧ w'.cell? ⟨b0, 5, none⟩ = some (.int .u64 a0_5) ∧ w'.cell? ⟨b1, 0, none⟩ = some (.int .u64 a1_0) ∧ w'.cell? ⟨b1, 1, none⟩ = some (.int .u64 a1_1) ∧ w'.cell? ⟨b1, 2, none⟩ = some (.int .u64 a1_2) ∧ w'.cell? ⟨b1, 3, none⟩ = some (.int .u64 a1_3) ∧ w'.cell? ⟨b1, 4, none⟩ = some (.int .u64 a1_4) ∧ w'.cell? ⟨b1, 5, none⟩ = some (.int .u64 a1_5) ∧ w'.cell? ⟨b2, 0, none⟩ = some (.int .u64 a2_0) ∧ w'.cell? ⟨b2, 1, none⟩ = some (.int .u64 a2_1) ∧ w'.cell? ⟨b2, 2, none⟩ = some (.int .u64 a2_2) ∧ w'.cell? ⟨b2, 3, none⟩ = some (.int .u64 a2_3) ∧ w'.cell? ⟨b2, 4, none⟩ = some (.int .u64 a2_4) ∧ w'.cell? ⟨b2, 5, none⟩ = some (.int .u64 a2_5) ∧ w'.cell? ⟨bj, 0, none⟩ = some (.int .u64 (max a0_0 a1_0)) ∧ w'.cell? ⟨bj, 1, none⟩ = some (.int .u64 (max a0_1 a1_1)) ∧ w'.cell? ⟨bj, 2, none⟩ = some (.int .u64 (max a0_2 a1_2)) ∧ w'.cell? ⟨bj, 3, none⟩ = some (.int .u64 (max a0_3 a1_3)) ∧ w'.cell? ⟨bj, 4, none⟩ = some (.int .u64 (max a0_4 a1_4)) ∧ w'.cell? ⟨bj, 5, none⟩ = some (.int .u64 (max a0_5 a1_5)) ∧ w'.cell? ⟨bm, 0, none⟩ = some (.int .u64 (min a0_0 a1_0)) ∧ w'.cell? ⟨bm, 1, none⟩ = some (.int .u64 (min a0_1 a1_1)) ∧ w'.cell? ⟨bm, 2, none⟩ = some (.int .u64 (min a0_2 a1_2)) ∧ w'.cell? ⟨bm, 3, none⟩ = some (.int .u64 (min a0_3 a1_3)) ∧ w'.cell? ⟨bm, 4, none⟩ = some (.int .u64 (min a0_4 a1_4)) ∧ w'.cell? ⟨bm, 5, none⟩ = some (.int .u64 (min a0_5 a1_5))) (simp (maxDischargeDepth := 6) [*, World.cell?_alloc_some]) (first | (go_at_call 12; refine (awake14 _).mono ?_; rintro e w' ⟨rfl, hb⟩; obtain ⟨hc, hf⟩ := bcell2 hb; have hB := Below.step hle (by simp [*]) hb; clear hb hf) | (go_at_call 11; refine (great_true _ _ _ _ _ _ _ _ _ _ _ _ ?_ ?_ ?_ ?_ ?_ ?_ _).mono ?_; (iterate 6 omega); rintro e w' ⟨rfl, hb⟩; obtain ⟨hc, hf⟩ := bcell2 hb; have hB := Below.step hle (by simp [*]) hb; clear hb hf) | (go_at_call 9; refine (join_swap _ _ _ _ _ _ _ _ _ _ _ _ _).mono ?_; rintro e w' ⟨rfl, hb⟩; obtain ⟨hc, hf⟩ := bcell2 hb; have hB := Below.step hle (by simp [*]) hb; clear hb hf) | (go_at_call 13; refine (missing_zero _ _ _ _ _ _ _ _ _ _ _ _ ?_ ?_ ?_ ?_ ?_ ?_ _).mono ?_; (iterate 6 omega); rintro e w' ⟨rfl, hb⟩; obtain ⟨hc, hf⟩ := bcell2 hb; have hB := Below.step hle (by simp [*]) hb; clear hb hf))
        go_wp2
        go_ret
        exact ⟨rfl, Below.mono (B := b0) (by simp [*]) hge⟩
      · have HQ := Lib.hid Q
        clear Q
        go_wp2_with fail
        refine (great_true _ _ _ _ _ _ _ _ _ _ _ _ p0 p1 p2 p3 p4 p5 _).mono ?_
        rintro e w1 ⟨rfl, hb⟩
        replace q0 := Row6.keep' q0 hb
        replace q1 := Row6.keep' q1 hb
        replace q2 := Row6.keep' q2 hb
        replace qj := Row6.keep' qj hb
        replace qm := Row6.keep' qm hb
        replace hB := Below.step hle hB hb
        clear hb c00 c01 c02 c03 c04 c05 c10 c11 c12 c13 c14 c15 c20 c21 c22 c23 c24 c25 cj0 cj1 cj2 cj3 cj4 cj5 cm0 cm1 cm2 cm3 cm4 cm5
        obtain ⟨c00, c01, c02, c03, c04, c05⟩ := id q0
        obtain ⟨c10, c11, c12, c13, c14, c15⟩ := id q1
        obtain ⟨c20, c21, c22, c23, c24, c25⟩ := id q2
        obtain ⟨cj0, cj1, cj2, cj3, cj4, cj5⟩ := id qj
        obtain ⟨cm0, cm1, cm2, cm3, cm4, cm5⟩ := id qm
        go_wp2_with fail
        refine (great_false _ _ _ _ _ _ _ _ _ _ _ _ HQ.out _).mono ?_
        rintro e w2 ⟨rfl, hb⟩
        replace q0 := Row6.keep' q0 hb
        replace q1 := Row6.keep' q1 hb
        replace q2 := Row6.keep' q2 hb
        replace qj := Row6.keep' qj hb
        replace qm := Row6.keep' qm hb
        replace hB := Below.step hle hB hb
        clear hb c00 c01 c02 c03 c04 c05 c10 c11 c12 c13 c14 c15 c20 c21 c22 c23 c24 c25 cj0 cj1 cj2 cj3 cj4 cj5 cm0 cm1 cm2 cm3 cm4 cm5
        obtain ⟨c00, c01, c02, c03, c04, c05⟩ := id q0
        obtain ⟨c10, c11, c12, c13, c14, c15⟩ := id q1
        obtain ⟨c20, c21, c22, c23, c24, c25⟩ := id q2
        obtain ⟨cj0, cj1, cj2, cj3, cj4, cj5⟩ := id qj
        obtain ⟨cm0, cm1, cm2, cm3, cm4, cm5⟩ := id qm
        go_wp2_with fail
        go_region_held3 (fun w' => Below b0 w w' ∧ w'.cell? ⟨b0, 0, none⟩ = some (.int .u64 a0_0) ∧ w'.cell? ⟨b0, 1, none⟩ = some (.int .u64 a0_1) ∧ w'.cell? ⟨b0, 2, none⟩ = some (.int .u64 a0_2) ∧ w'.cell? ⟨b0, 3, none⟩ = some (.int .u64 a0_3) ∧ w'.cell? ⟨b0, 4, none⟩ = some (.int .u64 a0_4) ∧ w'.cell? ⟨b0, 5, none⟩ = some (.int .u64 a0_5) ∧ w'.cell? ⟨b1, 0, none⟩ = some (.int .u64 a1_0) ∧ w'.cell? ⟨b1, 1, none⟩ = some (.int .u64 a1_1) ∧ w'.cell? ⟨b1, 2, none⟩ = some (.int .u64 a1_2) ∧ w'.cell? ⟨b1, 3, none⟩ = some (.int .u64 a1_3) ∧ w'.cell? ⟨b1, 4, none⟩ = some (.int .u64 a1_4) ∧ w'.cell? ⟨b1, 5, none⟩ = some (.int .u64 a1_5) ∧ w'.cell? ⟨b2, 0, none⟩ = some (.int .u64 a2_0) ∧ w'.cell? ⟨b2, 1, none⟩ = some (.int .u64 a2_1) ∧ w'.cell? ⟨b2, 2, none⟩ = some (.int .u64 a2_2) ∧ w'.cell? ⟨b2, 3, none⟩ = some (.int .u64 a2_3) ∧ w'.cell? ⟨b2, 4, none⟩ = some (.int .u64 a2_4) ∧ w'.cell? ⟨b2, 5, none⟩ = some (.int .u64 a2_5) ∧ w'.cell? ⟨bj, 0, none⟩ = some (.int .u64 (max a0_0 a1_0)) ∧ w'.cell? ⟨bj, 1, none⟩ = some (.int .u64 (max a0_1 a1_1)) ∧ w'.cell? ⟨bj, 2, none⟩ = some (.int .u64 (max a0_2 a1_2)) ∧ w'.cell? ⟨bj, 3, none⟩ = some (.int .u64 (max a0_3 a1_3)) ∧ w'.cell? ⟨bj, 4, none⟩ = some (.int .u64 (max a0_4 a1_4)) ∧ w'.cell? ⟨bj, 5, none⟩ = some (.int .u64 (max a0_5 a1_5)) ∧ w'.cell? ⟨bm, 0, none⟩ = some (.int .u64 (min a0_0 a1_0)) ∧ w'.cell? ⟨bm, 1, none⟩ = some (.int .u64 (min a0_1 a1_1)) ∧ w'.cell? ⟨bm, 2, none⟩ = some (.int .u64 (min a0_2 a1_2)) ∧ w'.cell? ⟨bm, 3, none⟩ = some (.int .u64 (min a0_3 a1_3)) ∧ w'.cell? ⟨bm, 4, none⟩ = some (.int .u64 (min a0_4 a1_4)) ∧ w'.cell? ⟨bm, 5, none⟩ = some (.int .u64 (min a0_5 a1_5))) (simp (maxDischargeDepth := 6) [*, World.cell?_alloc_some]) (first | (go_at_call 12; refine (awake14 _).mono ?_; rintro e w' ⟨rfl, hb⟩; obtain ⟨hc, hf⟩ := bcell2 hb; have hB := Below.step hle (by simp [*]) hb; clear hb hf) | (go_at_call 11; refine (great_true _ _ _ _ _ _ _ _ _ _ _ _ ?_ ?_ ?_ ?_ ?_ ?_ _).mono ?_; (iterate 6 omega); rintro e w' ⟨rfl, hb⟩; obtain ⟨hc, hf⟩ := bcell2 hb; have hB := Below.step hle (by simp [*]) hb; clear hb hf) | (go_at_call 11; refine (great_false _ _ _ _ _ _ _ _ _ _ _ _ (not_max_r _ _ _ _ _ _ _ _ _ _ _ _ _ _ _ _ _ _ HQ.out) _).mono ?_; rintro e w' ⟨rfl, hb⟩; obtain ⟨hc, hf⟩ := bcell2 hb; have hB := Below.step hle (by simp [*]) hb; clear hb hf) | (go_at_call 9; refine (join_swap _ _ _ _ _ _ _ _ _ _ _ _ _).mono ?_; rintro e w' ⟨rfl, hb⟩; obtain ⟨hc, hf⟩ := bcell2 hb; have hB := Below.step hle (by simp [*]) hb; clear hb hf) | (go_at_call 13; refine (missing_zero _ _ _ _ _ _ _ _ _ _ _ _ ?_ ?_ ?_ ?_ ?_ ?_ _).mono ?_; (iterate 6 omega); rintro e w' ⟨rfl, hb⟩; obtain ⟨hc, hf⟩ := bcell2 hb; have hB := Below.step hle (by simp [*]) hb; clear hb hf))
        go_wp2
        go_ret
        exact ⟨rfl, Below.mono (B := b0) (by simp [*]) hge⟩
    · have HP := Lib.hid P
      clear P
      go_wp2_with fail
      refine (great_false _ _ _ _ _ _ _ _ _ _ _ _ HP.out _).mono ?_
      rintro e w1 ⟨rfl, hb⟩
      replace q0 := Row6.keep' q0 hb
      replace q1 := Row6.keep' q1 hb
      replace q2 := Row6.keep' q2 hb
      replace qj := Row6.keep' qj hb
      replace qm := Row6.keep' qm hb
      replace hB := Below.step hle hB hb
      clear hb c00 c01 c02 c03 c04 c05 c10 c11 c12 c13 c14 c15 c20 c21 c22 c23 c24 c25 cj0 cj1 cj2 cj3 cj4 cj5 cm0 cm1 cm2 cm3 cm4 cm5
      obtain ⟨c00, c01, c02, c03, c04, c05⟩ := id q0
      obtain ⟨c10, c11, c12, c13, c14, c15⟩ := id q1
      obtain ⟨c20, c21, c22, c23, c24, c25⟩ := id q2
      obtain ⟨cj0, cj1, cj2, cj3, cj4, cj5⟩ := id qj
      obtain ⟨cm0, cm1, cm2, cm3, cm4, cm5⟩ := id qm
      go_wp2_with fail
      go_region_held3 (fun w' => Below b0 w w' ∧ w'.cell? ⟨b0, 0, none⟩ = some (.int .u64 a0_0) ∧ w'.cell? ⟨b0, 1, none⟩ = some (.int .u64 a0_1) ∧ w'.cell? ⟨b0, 2, none⟩ = some (.int .u64 a0_2) ∧ w'.cell? ⟨b0, 3, none⟩ = some (.int .u64 a0_3) ∧ w'.cell? ⟨b0, 4, none⟩ = some (.int .u64 a0_4) ∧ w'.cell? ⟨b0, 5, none⟩ = some (.int .u64 a0_5) ∧ w'.cell? ⟨b1, 0, none⟩ = some (.int .u64 a1_0) ∧ w'.cell? ⟨b1, 1, none⟩ = some (.int .u64 a1_1) ∧ w'.cell? ⟨b1, 2, none⟩ = some (.int .u64 a1_2) ∧ w'.cell? ⟨b1, 3, none⟩ = some (.int .u64 a1_3) ∧ w'.cell? ⟨b1, 4, none⟩ = some (.int .u64 a1_4) ∧ w'.cell? ⟨b1, 5, none⟩ = some (.int .u64 a1_5) ∧ w'.cell? ⟨b2, 0, none⟩ = some (.int .u64 a2_0) ∧ w'.cell? ⟨b2, 1, none⟩ = some (.int .u64 a2_1) ∧ w'.cell? ⟨b2, 2, none⟩ = some (.int .u64 a2_2) ∧ w'.cell? ⟨b2, 3, none⟩ = some (.int .u64 a2_3) ∧ w'.cell? ⟨b2, 4, none⟩ = some (.int .u64 a2_4) ∧ w'.cell? ⟨b2, 5, none⟩ = some (.int .u64 a2_5) ∧ w'.cell? ⟨bj, 0, none⟩ = some (.int .u64 (max a0_0 a1_0)) ∧ w'.cell? ⟨bj, 1, none⟩ = some (.int .u64 (max a0_1 a1_1)) ∧ w'.cell? ⟨bj, 2, none⟩ = some (.int .u64 (max a0_2 a1_2)) ∧ w'.cell? ⟨bj, 3, none⟩ = some (.int .u64 (max a0_3 a1_3)) ∧ w'.cell? ⟨bj, 4, none⟩ = some (.int .u64 (max a0_4 a1_4)) ∧ w'.cell? ⟨bj, 5, none⟩ = some (.int .u64 (max a0_5 a1_5)) ∧ w'.cell? ⟨bm, 0, none⟩ = some (.int .u64 (min a0_0 a1_0)) ∧ w'.cell? ⟨bm, 1, none⟩ = some (.int .u64 (min a0_1 a1_1)) ∧ w'.cell? ⟨bm, 2, none⟩ = some (.int .u64 (min a0_2 a1_2)) ∧ w'.cell? ⟨bm, 3, none⟩ = some (.int .u64 (min a0_3 a1_3)) ∧ w'.cell? ⟨bm, 4, none⟩ = some (.int .u64 (min a0_4 a1_4)) ∧ w'.cell? ⟨bm, 5, none⟩ = some (.int .u64 (min a0_5 a1_5))) (simp (maxDischargeDepth := 6) [*, World.cell?_alloc_some]) (first | (go_at_call 12; refine (awake14 _).mono ?_; rintro e w' ⟨rfl, hb⟩; obtain ⟨hc, hf⟩ := bcell2 hb; have hB := Below.step hle (by simp [*]) hb; clear hb hf) | (go_at_call 11; refine (great_true _ _ _ _ _ _ _ _ _ _ _ _ ?_ ?_ ?_ ?_ ?_ ?_ _).mono ?_; (iterate 6 omega); rintro e w' ⟨rfl, hb⟩; obtain ⟨hc, hf⟩ := bcell2 hb; have hB := Below.step hle (by simp [*]) hb; clear hb hf) | (go_at_call 11; refine (great_false _ _ _ _ _ _ _ _ _ _ _ _ (not_max_l _ _ _ _ _ _ _ _ _ _ _ _ _ _ _ _ _ _ HP.out) _).mono ?_; rintro e w' ⟨rfl, hb⟩; obtain ⟨hc, hf⟩ := bcell2 hb; have hB := Below.step hle (by simp [*]) hb; clear hb hf) | (go_at_call 9; refine (join_swap _ _ _ _ _ _ _ _ _ _ _ _ _).mono ?_; rintro e w' ⟨rfl, hb⟩; obtain ⟨hc, hf⟩ := bcell2 hb; have hB := Below.step hle (by simp [*]) hb; clear hb hf) | (go_at_call 13; refine (missing_zero _ _ _ _ _ _ _ _ _ _ _ _ ?_ ?_ ?_ ?_ ?_ ?_ _).mono ?_; (iterate 6 omega); rintro e w' ⟨rfl, hb⟩; obtain ⟨hc, hf⟩ := bcell2 hb; have hB := Below.step hle (by simp [*]) hb; clear hb hf))
      go_wp2
      go_ret
      exact ⟨rfl, Below.mono (B := b0) (by simp [*]) hge⟩
end Go.Proofs.Ythkhlkiemldbaaa
