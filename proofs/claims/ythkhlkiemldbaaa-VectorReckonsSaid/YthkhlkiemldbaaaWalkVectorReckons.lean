import Derived.Test.YthkhlkiemldbaaaWalkVectorJoins
import Derived.Test.YthkhlkiemldbaaaV4
import Derived.OpenShut
import Derived.Deep.LoopGhost
import Derived.Laws.Bits64
import Derived.Test.YthkhlkiemldbaaaHeld
import Derived.Deep.DeepCutAuto
namespace Go.Proofs.Ythkhlkiemldbaaa
open Go.RowKit
attribute [local go_sem] max_u64 min_u64
attribute [local simp] drew_size row6_drew Row6.alloc below_drew_s

def Joined2 (a0_0 a0_1 a0_2 a0_3 a0_4 a0_5 a1_0 a1_1 a1_2 a1_3 a1_4 a1_5 : Int) (B0 : Nat) (w : World) (b0 b1 : Nat) (s7 s8 : Value) (wr : World) : Prop :=
  ∃ bj bm : Nat, s7 = .pointer (some ⟨bj, 0, none⟩) ∧ s8 = .pointer (some ⟨bm, 0, none⟩) ∧ Row6 wr b0 a0_0 a0_1 a0_2 a0_3 a0_4 a0_5 ∧ Row6 wr b1 a1_0 a1_1 a1_2 a1_3 a1_4 a1_5 ∧ Row6 wr bj (max a0_0 a1_0) (max a0_1 a1_1) (max a0_2 a1_2) (max a0_3 a1_3) (max a0_4 a1_4) (max a0_5 a1_5) ∧ Row6 wr bm (min a0_0 a1_0) (min a0_1 a1_1) (min a0_2 a1_2) (min a0_3 a1_3) (min a0_4 a1_4) (min a0_5 a1_5) ∧ Below B0 w wr

def pick (k : Nat) (x0 x1 x2 x3 x4 x5 : Int) : Int :=
  match k with
  | 0 => x0
  | 1 => x1
  | 2 => x2
  | 3 => x3
  | 4 => x4
  | _ => x5
theorem Row6.at {W : World} {b : Nat} {x0 x1 x2 x3 x4 x5 : Int} (h : Row6 W b x0 x1 x2 x3 x4 x5) (k : Nat) (hk : k < 6) : W.cell? ⟨b, k, none⟩ = some (.int .u64 (pick k x0 x1 x2 x3 x4 x5)) := by
  obtain ⟨h0, h1, h2, h3, h4, h5⟩ := h
  match k, hk with
  | 0, _ => exact h0
  | 1, _ => exact h1
  | 2, _ => exact h2
  | 3, _ => exact h3
  | 4, _ => exact h4
  | 5, _ => exact h5
theorem pick_max (k : Nat) (a0_0 a0_1 a0_2 a0_3 a0_4 a0_5 a1_0 a1_1 a1_2 a1_3 a1_4 a1_5 : Int) : pick k (max a0_0 a1_0) (max a0_1 a1_1) (max a0_2 a1_2) (max a0_3 a1_3) (max a0_4 a1_4) (max a0_5 a1_5) = max (pick k a0_0 a0_1 a0_2 a0_3 a0_4 a0_5) (pick k a1_0 a1_1 a1_2 a1_3 a1_4 a1_5) := by
  unfold pick; split <;> rfl
theorem pick_min (k : Nat) (a0_0 a0_1 a0_2 a0_3 a0_4 a0_5 a1_0 a1_1 a1_2 a1_3 a1_4 a1_5 : Int) : pick k (min a0_0 a1_0) (min a0_1 a1_1) (min a0_2 a1_2) (min a0_3 a1_3) (min a0_4 a1_4) (min a0_5 a1_5) = min (pick k a0_0 a0_1 a0_2 a0_3 a0_4 a0_5) (pick k a1_0 a1_1 a1_2 a1_3 a1_4 a1_5) := by
  unfold pick; split <;> rfl
theorem pick_bd (k : Nat) (x0 x1 x2 x3 x4 x5 : Int) (h0 : (Lit.int .u64 x0).wf = true) (h1 : (Lit.int .u64 x1).wf = true) (h2 : (Lit.int .u64 x2).wf = true) (h3 : (Lit.int .u64 x3).wf = true) (h4 : (Lit.int .u64 x4).wf = true) (h5 : (Lit.int .u64 x5).wf = true) : 0 ≤ pick k x0 x1 x2 x3 x4 x5 ∧ pick k x0 x1 x2 x3 x4 x5 ≤ 18446744073709551615 := by
  unfold pick; split <;> exact bounds_u64 ‹_›
def tsum (k : Nat) (x0 x1 x2 x3 x4 x5 : Int) : Int :=
  match k with
  | 0 => 0
  | 1 => min x0 1048576
  | 2 => min x0 1048576 + min x1 1048576
  | 3 => min x0 1048576 + min x1 1048576 + min x2 1048576
  | 4 => min x0 1048576 + min x1 1048576 + min x2 1048576 + min x3 1048576
  | 5 => min x0 1048576 + min x1 1048576 + min x2 1048576 + min x3 1048576 + min x4 1048576
  | _ => min x0 1048576 + min x1 1048576 + min x2 1048576 + min x3 1048576 + min x4 1048576 + min x5 1048576
theorem tsum_next (k : Nat) (hk : k < 6) (x0 x1 x2 x3 x4 x5 : Int) : tsum (k + 1) x0 x1 x2 x3 x4 x5 = tsum k x0 x1 x2 x3 x4 x5 + min (pick k x0 x1 x2 x3 x4 x5) 1048576 := by
  match k, hk with
  | 0, _ => show min x0 1048576 = 0 + min x0 1048576; omega
  | 1, _ => rfl
  | 2, _ => rfl
  | 3, _ => rfl
  | 4, _ => rfl
  | 5, _ => rfl
theorem tsum_bd (k : Nat) (x0 x1 x2 x3 x4 x5 : Int) (h0 : 0 ≤ x0) (h1 : 0 ≤ x1) (h2 : 0 ≤ x2) (h3 : 0 ≤ x3) (h4 : 0 ≤ x4) (h5 : 0 ≤ x5) : 0 ≤ tsum k x0 x1 x2 x3 x4 x5 ∧ tsum k x0 x1 x2 x3 x4 x5 ≤ 6291456 := by
  unfold tsum; split <;> omega
theorem msum_next (k : Nat) (hk : k < 6) (a0_0 a0_1 a0_2 a0_3 a0_4 a0_5 a1_0 a1_1 a1_2 a1_3 a1_4 a1_5 : Int) : msum (k + 1) a0_0 a0_1 a0_2 a0_3 a0_4 a0_5 a1_0 a1_1 a1_2 a1_3 a1_4 a1_5 = msum k a0_0 a0_1 a0_2 a0_3 a0_4 a0_5 a1_0 a1_1 a1_2 a1_3 a1_4 a1_5 + dif (pick k a0_0 a0_1 a0_2 a0_3 a0_4 a0_5) (pick k a1_0 a1_1 a1_2 a1_3 a1_4 a1_5) := by
  match k, hk with
  | 0, _ => show dif a0_0 a1_0 = 0 + dif a0_0 a1_0; omega
  | 1, _ => rfl
  | 2, _ => rfl
  | 3, _ => rfl
  | 4, _ => rfl
  | 5, _ => rfl
theorem msum_bd (k : Nat) (a0_0 a0_1 a0_2 a0_3 a0_4 a0_5 a1_0 a1_1 a1_2 a1_3 a1_4 a1_5 : Int) : 0 ≤ msum k a0_0 a0_1 a0_2 a0_3 a0_4 a0_5 a1_0 a1_1 a1_2 a1_3 a1_4 a1_5 ∧ msum k a0_0 a0_1 a0_2 a0_3 a0_4 a0_5 a1_0 a1_1 a1_2 a1_3 a1_4 a1_5 ≤ 6597069766656 := by
  have m0 := dif_lo a0_0 a1_0
  have m1 := dif_lo a0_1 a1_1
  have m2 := dif_lo a0_2 a1_2
  have m3 := dif_lo a0_3 a1_3
  have m4 := dif_lo a0_4 a1_4
  have m5 := dif_lo a0_5 a1_5
  have n0 := dif_hi a0_0 a1_0
  have n1 := dif_hi a0_1 a1_1
  have n2 := dif_hi a0_2 a1_2
  have n3 := dif_hi a0_3 a1_3
  have n4 := dif_hi a0_4 a1_4
  have n5 := dif_hi a0_5 a1_5
  unfold msum; split <;> omega

/-- what the loop knows of 'missing' while all is small. -/
def Miss (k : Nat) (a0_0 a0_1 a0_2 a0_3 a0_4 a0_5 a1_0 a1_1 a1_2 a1_3 a1_4 a1_5 : Int) (sm : Bool) (x : Int) : Prop := 0 ≤ x ∧ x ≤ 18446744073709551615 ∧ (sm = true → x = msum k a0_0 a0_1 a0_2 a0_3 a0_4 a0_5 a1_0 a1_1 a1_2 a1_3 a1_4 a1_5)

def Rng6 (x0 x1 x2 x3 x4 x5 : Int) : Prop := (0 ≤ x0 ∧ x0 < 18446744073709551616) ∧ (0 ≤ x1 ∧ x1 < 18446744073709551616) ∧ (0 ≤ x2 ∧ x2 < 18446744073709551616) ∧ (0 ≤ x3 ∧ x3 < 18446744073709551616) ∧ (0 ≤ x4 ∧ x4 < 18446744073709551616) ∧ (0 ≤ x5 ∧ x5 < 18446744073709551616)
theorem rng1 {x : Int} (h : (Lit.int .u64 x).wf = true) : 0 ≤ x ∧ x < 18446744073709551616 := by have := bounds_u64 h; omega
theorem rng6 {x0 x1 x2 x3 x4 x5 : Int} (h0 : (Lit.int .u64 x0).wf = true) (h1 : (Lit.int .u64 x1).wf = true) (h2 : (Lit.int .u64 x2).wf = true) (h3 : (Lit.int .u64 x3).wf = true) (h4 : (Lit.int .u64 x4).wf = true) (h5 : (Lit.int .u64 x5).wf = true) : Rng6 x0 x1 x2 x3 x4 x5 := ⟨rng1 h0, rng1 h1, rng1 h2, rng1 h3, rng1 h4, rng1 h5⟩
@[local simp] theorem row6_drewN_s {W : World} {b n : Nat} {x0 x1 x2 x3 x4 x5 : Int} : Row6 (W.drewN n) b x0 x1 x2 x3 x4 x5 ↔ Row6 W b x0 x1 x2 x3 x4 x5 := Iff.rfl
@[local simp] theorem below_drewN_s {B n : Nat} {a X : World} : Below B a (X.drewN n) ↔ Below B a X := ⟨fun h => ⟨h.os, h.tape, h.output, h.size, h.block⟩, fun h => ⟨h.os, h.tape, h.output, h.size, h.block⟩⟩
theorem total_t (a0 a1 a2 a3 a4 a5 : Int) (wa0 : 0 ≤ a0 ∧ a0 < 18446744073709551616) (wa1 : 0 ≤ a1 ∧ a1 < 18446744073709551616) (wa2 : 0 ≤ a2 ∧ a2 < 18446744073709551616) (wa3 : 0 ≤ a3 ∧ a3 < 18446744073709551616) (wa4 : 0 ≤ a4 ∧ a4 < 18446744073709551616) (wa5 : 0 ≤ a5 ∧ a5 < 18446744073709551616) (w : World) :
    Calls Try.prog 15 #[.agg #[.int .u64 a0, .int .u64 a1, .int .u64 a2, .int .u64 a3, .int .u64 a4, .int .u64 a5]] w fun e w' => e = .returned (.int .u64 (tsum 6 a0 a1 a2 a3 a4 a5)) ∧ Below w.heap.size w w' := total_any a0 a1 a2 a3 a4 a5 wa0 wa1 wa2 wa3 wa4 wa5 w
theorem missing_t (a0 a1 a2 a3 a4 a5 b0 b1 b2 b3 b4 b5 : Int) (hA : Rng6 a0 a1 a2 a3 a4 a5) (hB : Rng6 b0 b1 b2 b3 b4 b5) (w : World) :
    Calls Try.prog 13 #[.agg #[.int .u64 a0, .int .u64 a1, .int .u64 a2, .int .u64 a3, .int .u64 a4, .int .u64 a5], .agg #[.int .u64 b0, .int .u64 b1, .int .u64 b2, .int .u64 b3, .int .u64 b4, .int .u64 b5]] w fun e w' => e = .returned (.int .u64 (msum 6 a0 a1 a2 a3 a4 a5 b0 b1 b2 b3 b4 b5)) ∧ Below w.heap.size w w' :=
  missing_any a0 a1 a2 a3 a4 a5 b0 b1 b2 b3 b4 b5 hA.1 hA.2.1 hA.2.2.1 hA.2.2.2.1 hA.2.2.2.2.1 hA.2.2.2.2.2 hB.1 hB.2.1 hB.2.2.1 hB.2.2.2.1 hB.2.2.2.2.1 hB.2.2.2.2.2 w
theorem miss_no {k : Nat} {a0_0 a0_1 a0_2 a0_3 a0_4 a0_5 a1_0 a1_1 a1_2 a1_3 a1_4 a1_5 pa pb x : Int} {sm : Bool} (h : Miss k a0_0 a0_1 a0_2 a0_3 a0_4 a0_5 a1_0 a1_1 a1_2 a1_3 a1_4 a1_5 sm x) (_hn : msum (k + 1) a0_0 a0_1 a0_2 a0_3 a0_4 a0_5 a1_0 a1_1 a1_2 a1_3 a1_4 a1_5 = msum k a0_0 a0_1 a0_2 a0_3 a0_4 a0_5 a1_0 a1_1 a1_2 a1_3 a1_4 a1_5 + dif pa pb) (_hb : msum k a0_0 a0_1 a0_2 a0_3 a0_4 a0_5 a1_0 a1_1 a1_2 a1_3 a1_4 a1_5 ≤ 6597069766656) (_hd : ¬ pa < pb) : Miss (k + 1) a0_0 a0_1 a0_2 a0_3 a0_4 a0_5 a1_0 a1_1 a1_2 a1_3 a1_4 a1_5 false x := ⟨h.1, h.2.1, fun e => by cases e⟩
theorem miss_no_s {k : Nat} {a0_0 a0_1 a0_2 a0_3 a0_4 a0_5 a1_0 a1_1 a1_2 a1_3 a1_4 a1_5 pa pb x : Int} (h : Miss k a0_0 a0_1 a0_2 a0_3 a0_4 a0_5 a1_0 a1_1 a1_2 a1_3 a1_4 a1_5 true x) (hn : msum (k + 1) a0_0 a0_1 a0_2 a0_3 a0_4 a0_5 a1_0 a1_1 a1_2 a1_3 a1_4 a1_5 = msum k a0_0 a0_1 a0_2 a0_3 a0_4 a0_5 a1_0 a1_1 a1_2 a1_3 a1_4 a1_5 + dif pa pb) (_hb : msum k a0_0 a0_1 a0_2 a0_3 a0_4 a0_5 a1_0 a1_1 a1_2 a1_3 a1_4 a1_5 ≤ 6597069766656) (hd : ¬ pa < pb) : Miss (k + 1) a0_0 a0_1 a0_2 a0_3 a0_4 a0_5 a1_0 a1_1 a1_2 a1_3 a1_4 a1_5 true x :=
  ⟨h.1, h.2.1, fun _ => by rw [hn, dif_no _ _ hd, h.2.2 rfl]; omega⟩
theorem miss_yes {k : Nat} {a0_0 a0_1 a0_2 a0_3 a0_4 a0_5 a1_0 a1_1 a1_2 a1_3 a1_4 a1_5 pa pb x y : Int} {sm : Bool} (_h : Miss k a0_0 a0_1 a0_2 a0_3 a0_4 a0_5 a1_0 a1_1 a1_2 a1_3 a1_4 a1_5 sm x) (_hn : msum (k + 1) a0_0 a0_1 a0_2 a0_3 a0_4 a0_5 a1_0 a1_1 a1_2 a1_3 a1_4 a1_5 = msum k a0_0 a0_1 a0_2 a0_3 a0_4 a0_5 a1_0 a1_1 a1_2 a1_3 a1_4 a1_5 + dif pa pb) (_hb : msum k a0_0 a0_1 a0_2 a0_3 a0_4 a0_5 a1_0 a1_1 a1_2 a1_3 a1_4 a1_5 ≤ 6597069766656) (_hd : pa < pb) (h0 : 0 ≤ y) (h1 : y ≤ 18446744073709551615) : Miss (k + 1) a0_0 a0_1 a0_2 a0_3 a0_4 a0_5 a1_0 a1_1 a1_2 a1_3 a1_4 a1_5 false y := ⟨h0, h1, fun e => by cases e⟩
theorem miss_yes_s {k : Nat} {a0_0 a0_1 a0_2 a0_3 a0_4 a0_5 a1_0 a1_1 a1_2 a1_3 a1_4 a1_5 pa pb x y : Int} (h : Miss k a0_0 a0_1 a0_2 a0_3 a0_4 a0_5 a1_0 a1_1 a1_2 a1_3 a1_4 a1_5 true x) (hn : msum (k + 1) a0_0 a0_1 a0_2 a0_3 a0_4 a0_5 a1_0 a1_1 a1_2 a1_3 a1_4 a1_5 = msum k a0_0 a0_1 a0_2 a0_3 a0_4 a0_5 a1_0 a1_1 a1_2 a1_3 a1_4 a1_5 + dif pa pb) (_hb : msum k a0_0 a0_1 a0_2 a0_3 a0_4 a0_5 a1_0 a1_1 a1_2 a1_3 a1_4 a1_5 ≤ 6597069766656) (hd : pa < pb) (h0 : 0 ≤ y) (h1 : y ≤ 18446744073709551615) (hy : y = x + min (pb - pa) 1099511627776) : Miss (k + 1) a0_0 a0_1 a0_2 a0_3 a0_4 a0_5 a1_0 a1_1 a1_2 a1_3 a1_4 a1_5 true y :=
  ⟨h0, h1, fun _ => by rw [hn, dif_yes _ _ hd, hy, h.2.2 rfl]⟩

theorem range6 {W : World} {b : Nat} {x0 x1 x2 x3 x4 x5 : Int} (h : Row6 W b x0 x1 x2 x3 x4 x5) : W.rangeAt b 0 [.int .u64 x0, .int .u64 x1, .int .u64 x2, .int .u64 x3, .int .u64 x4, .int .u64 x5] := by
  intro j v hj
  rw [Nat.zero_add]
  obtain ⟨h0, h1, h2, h3, h4, h5⟩ := h
  match j, hj with
  | 0, hj => exact h0.trans hj
  | 1, hj => exact h1.trans hj
  | 2, hj => exact h2.trans hj
  | 3, hj => exact h3.trans hj
  | 4, hj => exact h4.trans hj
  | 5, hj => exact h5.trans hj
theorem run_eqv (a : Act) (o : Oper) (w : World) (x y : Operand) (n : Int) (ho : o.op = .binOp .eql 22 x y 22) (hx : a.eval x = .int .u64 n) (hy : a.eval y = .int .u64 n) : (execOp a.eval o).run Try.prog w = .ok (.value (.bool true)) w := by
  unfold execOp
  simp only [ho, hx, hy]
  go_simp
theorem range_keep {w w1 : World} {g : Nat} {l : List Value} (h : w.rangeAt g 0 l) (hb : Below w.heap.size w w1) : w1.rangeAt g 0 l := by
  intro j v hj
  have h1 := h j v hj
  rw [hb.cell (p := ⟨g, 0 + j, none⟩) (World.block_lt_of_cell? w _ h1)]
  exact h1
def SV (b0 b1 : Nat) (w : World) (la lb : List Value) (X : World) : Prop := Below b0 w X ∧ X.rangeAt b0 0 la ∧ X.rangeAt b1 0 lb
theorem SV.step {b0 b1 : Nat} {w X Y : World} {la lb : List Value} (h : SV b0 b1 w la lb X) (hg2 : LeSize b0 w) (hb : Below X.heap.size X Y) : SV b0 b1 w la lb Y :=
  ⟨h.1.trans (hb.mono (Nat.le_trans hg2 h.1.size)), range_keep h.2.1 hb, range_keep h.2.2 hb⟩
set_option maxRecDepth 100000 in
set_option maxHeartbeats 20000000 in
theorem walkVectorReckons (a0_0 a0_1 a0_2 a0_3 a0_4 a0_5 a1_0 a1_1 a1_2 a1_3 a1_4 a1_5 : Int) (w0_0 : (Lit.int .u64 a0_0).wf = true) (w0_1 : (Lit.int .u64 a0_1).wf = true) (w0_2 : (Lit.int .u64 a0_2).wf = true) (w0_3 : (Lit.int .u64 a0_3).wf = true) (w0_4 : (Lit.int .u64 a0_4).wf = true) (w0_5 : (Lit.int .u64 a0_5).wf = true) (w1_0 : (Lit.int .u64 a1_0).wf = true) (w1_1 : (Lit.int .u64 a1_1).wf = true) (w1_2 : (Lit.int .u64 a1_2).wf = true) (w1_3 : (Lit.int .u64 a1_3).wf = true) (w1_4 : (Lit.int .u64 a1_4).wf = true) (w1_5 : (Lit.int .u64 a1_5).wf = true) (w : World) :
    Calls Try.prog 4 #[.agg #[.int .u64 a0_0, .int .u64 a0_1, .int .u64 a0_2, .int .u64 a0_3, .int .u64 a0_4, .int .u64 a0_5], .agg #[.int .u64 a1_0, .int .u64 a1_1, .int .u64 a1_2, .int .u64 a1_3, .int .u64 a1_4, .int .u64 a1_5]] w fun e w' => e = .returned (.bool true) ∧ Below w.heap.size w w' := by
  go_enter Try.func4, Try.ntmps4
  go_wp2_with fail
  obtain ⟨W3, hW3⟩ : ∃ W3, W3 = (w.alloc (.cells #[.int .u64 a0_0, .int .u64 a0_1, .int .u64 a0_2, .int .u64 a0_3, .int .u64 a0_4, .int .u64 a0_5] 24)).alloc (.cells #[.int .u64 a1_0, .int .u64 a1_1, .int .u64 a1_2, .int .u64 a1_3, .int .u64 a1_4, .int .u64 a1_5] 24) := ⟨_, rfl⟩
  rw [← hW3]
  have r0 : Row6 W3 w.heap.size a0_0 a0_1 a0_2 a0_3 a0_4 a0_5 := by rw [hW3]; exact (Row6.new w _ _ _ _ _ _).alloc _
  have r1 : Row6 W3 (w.heap.size + 1) a1_0 a1_1 a1_2 a1_3 a1_4 a1_5 := by rw [hW3]; exact (by simpa using (Row6.new (w.alloc (.cells #[.int .u64 a0_0, .int .u64 a0_1, .int .u64 a0_2, .int .u64 a0_3, .int .u64 a0_4, .int .u64 a0_5] 24)) a1_0 a1_1 a1_2 a1_3 a1_4 a1_5))
  have hbw : Below w.heap.size w W3 := by
    rw [hW3]
    repeat (first | exact Below.refl _ _ | refine below_alloc ?_ (Nat.le_refl _) _)
  clear hW3
  have hle : LeSize w.heap.size w := Nat.le_refl _
  have hge : GeSize w.heap.size w := Nat.le_refl _
  generalize w.heap.size + 1 = b1 at *
  generalize w.heap.size = b0 at *
  obtain ⟨c00, c01, c02, c03, c04, c05⟩ := id r0
  obtain ⟨c10, c11, c12, c13, c14, c15⟩ := id r1
  go_cut [5, 6] (fun s7 s8 wr => Joined2 a0_0 a0_1 a0_2 a0_3 a0_4 a0_5 a1_0 a1_1 a1_2 a1_3 a1_4 a1_5 b0 w b0 b1 s7 s8 wr)
  case first =>
    go_region_held3 (fun w' => Below b0 w w' ∧ w'.cell? ⟨b0, 0, none⟩ = some (.int .u64 a0_0) ∧ w'.cell? ⟨b0, 1, none⟩ = some (.int .u64 a0_1) ∧ w'.cell? ⟨b0, 2, none⟩ = some (.int .u64 a0_2) ∧ w'.cell? ⟨b0, 3, none⟩ = some (.int .u64 a0_3) ∧ w'.cell? ⟨b0, 4, none⟩ = some (.int .u64 a0_4) ∧ w'.cell? ⟨b0, 5, none⟩ = some (.int .u64 a0_5) ∧ w'.cell? ⟨b1, 0, none⟩ = some (.int .u64 a1_0) ∧ w'.cell? ⟨b1, 1, none⟩ = some (.int .u64 a1_1) ∧ w'.cell? ⟨b1, 2, none⟩ = some (.int .u64 a1_2) ∧ w'.cell? ⟨b1, 3, none⟩ = some (.int .u64 a1_3) ∧ w'.cell? ⟨b1, 4, none⟩ = some (.int .u64 a1_4) ∧ w'.cell? ⟨b1, 5, none⟩ = some (.int .u64 a1_5)) (simp (maxDischargeDepth := 6) [*, World.cell?_alloc_some, World.cell?_setCell_far, below_alloc_s, below_setCell_s]) (first | (go_at_call 9; refine (join_any _ _ _ _ _ _ _ _ _ _ _ _ _).mono ?_; rintro e w' ⟨rfl, hb⟩; obtain ⟨hc, hf⟩ := bcell2 hb; (try have nn := NB.keep nn hb); (try have mm := NB.keep mm hb); (first | (have mm := NB.new2d hb; have gm := NB.ge_a2d hb hle (by simp [*, below_alloc_s]); have em0 := NB.ne_a2d (b := b0) hb (by simp [*, World.cell?_alloc_some]); have em1 := NB.ne_a2d (b := b1) hb (by simp [*, World.cell?_alloc_some]);  skip) | (have mm := NB.new2 hb; have gm := NB.ge_a2 hb hle (by simp [*, below_alloc_s]); have em0 := NB.ne_a2 (b := b0) hb (by simp [*, World.cell?_alloc_some]); have em1 := NB.ne_a2 (b := b1) hb (by simp [*, World.cell?_alloc_some]);  skip) | skip); (first | (have nn := NB.newd hb; have gn := NB.ge_ad hb hle (by simp [*, below_alloc_s]); have en0 := NB.ne_ad (b := b0) hb (by simp [*, World.cell?_alloc_some]); have en1 := NB.ne_ad (b := b1) hb (by simp [*, World.cell?_alloc_some]);  skip) | (have nn := NB.new hb; have gn := NB.ge_a hb hle (by simp [*, below_alloc_s]); have en0 := NB.ne_a (b := b0) hb (by simp [*, World.cell?_alloc_some]); have en1 := NB.ne_a (b := b1) hb (by simp [*, World.cell?_alloc_some]);  skip) | skip); (try simp only [World.size_alloc, drew_size] at nn en0 en1 gn); (try (obtain ⟨n0, n1, n2, n3, n4, n5, n6, n7, n8, n9, na, nb, nc⟩ := id nn)); (try (obtain ⟨m0, m1, m2, m3, m4, m5, m6, m7, m8, m9, ma, mb, mc⟩ := id mm)); have hB := Below.step hle (by simp [*, below_alloc_s]) hb; clear hb) | (go_at_call 10; refine (meet_any _ _ _ _ _ _ _ _ _ _ _ _ _).mono ?_; rintro e w' ⟨rfl, hb⟩; obtain ⟨hc, hf⟩ := bcell2 hb; (try have nn := NB.keep nn hb); (try have mm := NB.keep mm hb); (first | (have mm := NB.new2d hb; have gm := NB.ge_a2d hb hle (by simp [*, below_alloc_s]); have em0 := NB.ne_a2d (b := b0) hb (by simp [*, World.cell?_alloc_some]); have em1 := NB.ne_a2d (b := b1) hb (by simp [*, World.cell?_alloc_some]);  skip) | (have mm := NB.new2 hb; have gm := NB.ge_a2 hb hle (by simp [*, below_alloc_s]); have em0 := NB.ne_a2 (b := b0) hb (by simp [*, World.cell?_alloc_some]); have em1 := NB.ne_a2 (b := b1) hb (by simp [*, World.cell?_alloc_some]);  skip) | skip); (first | (have nn := NB.newd hb; have gn := NB.ge_ad hb hle (by simp [*, below_alloc_s]); have en0 := NB.ne_ad (b := b0) hb (by simp [*, World.cell?_alloc_some]); have en1 := NB.ne_ad (b := b1) hb (by simp [*, World.cell?_alloc_some]);  skip) | (have nn := NB.new hb; have gn := NB.ge_a hb hle (by simp [*, below_alloc_s]); have en0 := NB.ne_a (b := b0) hb (by simp [*, World.cell?_alloc_some]); have en1 := NB.ne_a (b := b1) hb (by simp [*, World.cell?_alloc_some]);  skip) | skip); (try simp only [World.size_alloc, drew_size] at nn en0 en1 gn); (try (obtain ⟨n0, n1, n2, n3, n4, n5, n6, n7, n8, n9, na, nb, nc⟩ := id nn)); (try (obtain ⟨m0, m1, m2, m3, m4, m5, m6, m7, m8, m9, ma, mb, mc⟩ := id mm)); have hB := Below.step hle (by simp [*, below_alloc_s]) hb; clear hb))
    all_goals
      go_wp2
      go_meet
      case rel =>
        refine ⟨_, _, rfl, rfl, ?_, ?_, ?_, ?_, ?_⟩
        all_goals (try (unfold Row6))
        all_goals (first | (simp (maxDischargeDepth := 6) [*, World.cell?_alloc_some, World.cell?_setCell_far, below_alloc_s, below_setCell_s]; done) | (simp (maxDischargeDepth := 20) [*, World.cell?_alloc_some, World.cell?_setCell_far, World.cell?_setCell_same, World.cell?_setCell_other, World.cell?_alloc_at, World.cell?_alloc_past]; done) )
  case rest =>
    obtain ⟨bj, bm, rfl, rfl, q0, q1, qj, qm, hB⟩ := hcut
    clear c00 c01 c02 c03 c04 c05 c10 c11 c12 c13 c14 c15 r0 r1 hbw
    have H0 := Lib.hid q0
    have H1 := Lib.hid q1
    have HJ := Lib.hid qj
    have HM := Lib.hid qm
    clear q0 q1 qj qm
    go_wp2
    go_loopw [7, 8, 9, 10] (fun t m s i wr => ∃ (k : Nat) (sm : Bool) (x : Int), k ≤ 6 ∧ i = .int .i64 k ∧ t = .int .u64 (tsum k a0_0 a0_1 a0_2 a0_3 a0_4 a0_5) ∧ s = .bool sm ∧ m = .int .u64 x ∧ Miss k a0_0 a0_1 a0_2 a0_3 a0_4 a0_5 a1_0 a1_1 a1_2 a1_3 a1_4 a1_5 sm x ∧ ∃ n, wr = wc.drewN n) (fun _ _ _ i _ => 6 - (intOf i).toNat)
    case atStart => exact ⟨0, true, 0, by omega, rfl, rfl, rfl, rfl, ⟨by omega, by omega, fun _ => rfl⟩, 0, rfl⟩
    case round =>
      obtain ⟨k, sm, x, hk, rfl, ht, rfl, rfl, hx, n, rfl⟩ := hrel
      have tb := tsum_bd k a0_0 a0_1 a0_2 a0_3 a0_4 a0_5 (bounds_u64 w0_0).1 (bounds_u64 w0_1).1 (bounds_u64 w0_2).1 (bounds_u64 w0_3).1 (bounds_u64 w0_4).1 (bounds_u64 w0_5).1
      obtain ⟨tb0, tb1⟩ := tb
      by_cases hlt : k < 6
      · have tn := tsum_next k hlt a0_0 a0_1 a0_2 a0_3 a0_4 a0_5
        have mn := msum_next k hlt a0_0 a0_1 a0_2 a0_3 a0_4 a0_5 a1_0 a1_1 a1_2 a1_3 a1_4 a1_5
        have mb := msum_bd k a0_0 a0_1 a0_2 a0_3 a0_4 a0_5 a1_0 a1_1 a1_2 a1_3 a1_4 a1_5
        have ka := H0.out.at k hlt
        have kb := H1.out.at k hlt
        have kj := HJ.out.at k hlt
        have km := HM.out.at k hlt
        rw [pick_max] at kj
        rw [pick_min] at km
        obtain ⟨pa0, pa1⟩ := pick_bd k a0_0 a0_1 a0_2 a0_3 a0_4 a0_5 w0_0 w0_1 w0_2 w0_3 w0_4 w0_5
        obtain ⟨pb0, pb1⟩ := pick_bd k a1_0 a1_1 a1_2 a1_3 a1_4 a1_5 w1_0 w1_1 w1_2 w1_3 w1_4 w1_5
        have TN := Lib.hid tn
        have MN := Lib.hid mn
        have MB := Lib.hid mb
        have HX := Lib.hid hx
        have HK := Lib.hid hk
        clear tn mn mb hx hk
        generalize tsum k a0_0 a0_1 a0_2 a0_3 a0_4 a0_5 = tk at *
        generalize pick k a0_0 a0_1 a0_2 a0_3 a0_4 a0_5 = pa at *
        generalize pick k a1_0 a1_1 a1_2 a1_3 a1_4 a1_5 = pb at *
        subst ht
        have l0 : (0 : Int) ≤ (k : Int) := by omega
        have l1 : (k : Int) < 6 := by omega
        go_wp2
        go_region
        have x0 := HX.out.1
        have x1 := HX.out.2.1
        by_cases hd : pa < pb
        · cases sm
          · go_wp2
            go_region
            go_wp2
            go_region
            go_wp2
            go_roundw
            case rel => exact ⟨k + 1, false, _, by omega, by go_num, val_u64 (by have e := TN.out; omega), rfl, rfl, miss_yes HX.out MN.out MB.out.2 (by omega) (by first | omega | (rw [IntKind.wrap_u64]; omega)) (by first | omega | (rw [IntKind.wrap_u64]; omega)), _, rfl⟩
            case measure => simp [intOf]; omega
          · by_cases ha : pa ≤ 1099511627776
            · by_cases hb : pb ≤ 1099511627776
              · have xs := HX.out.2.2 rfl
                have x2 : x ≤ 6597069766656 := by have e := MB.out.2; omega
                clear xs
                go_wp2
                go_region
                go_wp2
                go_region
                go_wp2
                go_roundw
                case rel => exact ⟨k + 1, true, _, by omega, by go_num, val_u64 (by have e := TN.out; omega), rfl, rfl, miss_yes_s HX.out MN.out MB.out.2 (by omega) (by first | omega | (rw [IntKind.wrap_u64]; omega)) (by first | omega | (rw [IntKind.wrap_u64]; omega)) (by omega), _, rfl⟩
                case measure => simp [intOf]; omega
              · go_wp2
                go_region
                go_wp2
                go_region
                go_wp2
                go_roundw
                case rel => exact ⟨k + 1, false, _, by omega, by go_num, val_u64 (by have e := TN.out; omega), rfl, rfl, miss_yes HX.out MN.out MB.out.2 (by omega) (by first | omega | (rw [IntKind.wrap_u64]; omega)) (by first | omega | (rw [IntKind.wrap_u64]; omega)), _, rfl⟩
                case measure => simp [intOf]; omega
            · go_wp2
              go_region
              go_wp2
              go_region
              go_wp2
              go_roundw
              case rel => exact ⟨k + 1, false, _, by omega, by go_num, val_u64 (by have e := TN.out; omega), rfl, rfl, miss_yes HX.out MN.out MB.out.2 (by omega) (by first | omega | (rw [IntKind.wrap_u64]; omega)) (by first | omega | (rw [IntKind.wrap_u64]; omega)), _, rfl⟩
              case measure => simp [intOf]; omega
        · cases sm
          · go_wp2
            go_region
            go_wp2
            go_roundw
            case rel => exact ⟨k + 1, false, _, by omega, by go_num, val_u64 (by have e := TN.out; omega), rfl, rfl, miss_no HX.out MN.out MB.out.2 (by omega), _, rfl⟩
            case measure => simp [intOf]; omega
          · by_cases ha : pa ≤ 1099511627776
            · by_cases hb : pb ≤ 1099511627776
              · go_wp2
                go_region
                go_wp2
                go_roundw
                case rel => exact ⟨k + 1, true, _, by omega, by go_num, val_u64 (by have e := TN.out; omega), rfl, rfl, miss_no_s HX.out MN.out MB.out.2 (by omega), _, rfl⟩
                case measure => simp [intOf]; omega
              · exfalso; omega
            · go_wp2
              all_goals
                go_region
                go_wp2
                go_roundw
                case rel => exact ⟨k + 1, false, _, by omega, by go_num, val_u64 (by have e := TN.out; omega), rfl, rfl, miss_no HX.out MN.out MB.out.2 (by omega), _, rfl⟩
                case measure => simp [intOf]; omega
      · obtain rfl : k = 6 := by have := hk; omega
        have x0 := hx.1
        have x1 := hx.2.1
        have HX := Lib.hid hx
        clear hx hlt hk tb0 tb1
        subst ht
        have HA := Lib.hid (rng6 w0_0 w0_1 w0_2 w0_3 w0_4 w0_5)
        have HC := Lib.hid (rng6 w1_0 w1_1 w1_2 w1_3 w1_4 w1_5)
        have KT := Lib.hid (total_t a0_0 a0_1 a0_2 a0_3 a0_4 a0_5 HA.out.1 HA.out.2.1 HA.out.2.2.1 HA.out.2.2.2.1 HA.out.2.2.2.2.1 HA.out.2.2.2.2.2)
        have KM := Lib.hid (missing_t a0_0 a0_1 a0_2 a0_3 a0_4 a0_5 a1_0 a1_1 a1_2 a1_3 a1_4 a1_5 HA.out HC.out)
        have KG := Lib.hid (great_any a0_0 a0_1 a0_2 a0_3 a0_4 a0_5 a1_0 a1_1 a1_2 a1_3 a1_4 a1_5)
        have KR := Lib.hid (rgreat_any a0_0 a0_1 a0_2 a0_3 a0_4 a0_5 a1_0 a1_1 a1_2 a1_3 a1_4 a1_5)
        have KW := Lib.hid awake14
        have XS : Hid (sm = true → x = msum 6 a0_0 a0_1 a0_2 a0_3 a0_4 a0_5 a1_0 a1_1 a1_2 a1_3 a1_4 a1_5) := Lib.hid HX.out.2.2
        have r0 : (wc.drewN n).rangeAt b0 0 [.int .u64 a0_0, .int .u64 a0_1, .int .u64 a0_2, .int .u64 a0_3, .int .u64 a0_4, .int .u64 a0_5] := range6 H0.out
        have r1 : (wc.drewN n).rangeAt b1 0 [.int .u64 a1_0, .int .u64 a1_1, .int .u64 a1_2, .int .u64 a1_3, .int .u64 a1_4, .int .u64 a1_5] := range6 H1.out
        have hB' : Below b0 w (wc.drewN n) := ⟨hB.os, hB.tape, hB.output, hB.size, hB.block⟩
        have hSV : SV b0 b1 w [.int .u64 a0_0, .int .u64 a0_1, .int .u64 a0_2, .int .u64 a0_3, .int .u64 a0_4, .int .u64 a0_5] [.int .u64 a1_0, .int .u64 a1_1, .int .u64 a1_2, .int .u64 a1_3, .int .u64 a1_4, .int .u64 a1_5] (wc.drewN n).drew := ⟨hB'.drew, r0, r1⟩
        generalize tsum 6 a0_0 a0_1 a0_2 a0_3 a0_4 a0_5 = TT at KT ⊢
        generalize msum 6 a0_0 a0_1 a0_2 a0_3 a0_4 a0_5 a1_0 a1_1 a1_2 a1_3 a1_4 a1_5 = MM at KM XS
        have i24 : Hid ((Try.prog.info? 24).map (·.size) = some ([.int .u64 a0_0, .int .u64 a0_1, .int .u64 a0_2, .int .u64 a0_3, .int .u64 a0_4, .int .u64 a0_5] : List Value).length) := Lib.hid (by kernel_rfl)
        clear HX x0 x1 r0 r1 hB'
        generalize decide (a1_0 ≤ a0_0 ∧ a1_1 ≤ a0_1 ∧ a1_2 ≤ a0_2 ∧ a1_3 ≤ a0_3 ∧ a1_4 ≤ a0_4 ∧ a1_5 ≤ a0_5) = X at KG KR
        have C12 : Hid (∀ W, SV b0 b1 w [.int .u64 a0_0, .int .u64 a0_1, .int .u64 a0_2, .int .u64 a0_3, .int .u64 a0_4, .int .u64 a0_5] [.int .u64 a1_0, .int .u64 a1_1, .int .u64 a1_2, .int .u64 a1_3, .int .u64 a1_4, .int .u64 a1_5] W → Calls Try.prog 12 #[] W (fun e W' => e = .returned (.bool true) ∧ SV b0 b1 w [.int .u64 a0_0, .int .u64 a0_1, .int .u64 a0_2, .int .u64 a0_3, .int .u64 a0_4, .int .u64 a0_5] [.int .u64 a1_0, .int .u64 a1_1, .int .u64 a1_2, .int .u64 a1_3, .int .u64 a1_4, .int .u64 a1_5] W')) := Lib.hid (fun W h => (KW.out W).mono (fun e W' q => ⟨q.1, h.step hle q.2⟩))
        have C11 : Hid (∀ W, SV b0 b1 w [.int .u64 a0_0, .int .u64 a0_1, .int .u64 a0_2, .int .u64 a0_3, .int .u64 a0_4, .int .u64 a0_5] [.int .u64 a1_0, .int .u64 a1_1, .int .u64 a1_2, .int .u64 a1_3, .int .u64 a1_4, .int .u64 a1_5] W → Calls Try.prog 11 #[.agg [.int .u64 a0_0, .int .u64 a0_1, .int .u64 a0_2, .int .u64 a0_3, .int .u64 a0_4, .int .u64 a0_5].toArray, .agg [.int .u64 a1_0, .int .u64 a1_1, .int .u64 a1_2, .int .u64 a1_3, .int .u64 a1_4, .int .u64 a1_5].toArray] W (fun e W' => e = .returned (.bool X) ∧ SV b0 b1 w [.int .u64 a0_0, .int .u64 a0_1, .int .u64 a0_2, .int .u64 a0_3, .int .u64 a0_4, .int .u64 a0_5] [.int .u64 a1_0, .int .u64 a1_1, .int .u64 a1_2, .int .u64 a1_3, .int .u64 a1_4, .int .u64 a1_5] W')) := Lib.hid (fun W h => (KG.out W).mono (fun e W' q => ⟨q.1, h.step hle q.2⟩))
        have C14 : Hid (∀ W, SV b0 b1 w [.int .u64 a0_0, .int .u64 a0_1, .int .u64 a0_2, .int .u64 a0_3, .int .u64 a0_4, .int .u64 a0_5] [.int .u64 a1_0, .int .u64 a1_1, .int .u64 a1_2, .int .u64 a1_3, .int .u64 a1_4, .int .u64 a1_5] W → Calls Try.prog 14 #[.agg [.int .u64 a0_0, .int .u64 a0_1, .int .u64 a0_2, .int .u64 a0_3, .int .u64 a0_4, .int .u64 a0_5].toArray, .agg [.int .u64 a1_0, .int .u64 a1_1, .int .u64 a1_2, .int .u64 a1_3, .int .u64 a1_4, .int .u64 a1_5].toArray] W (fun e W' => e = .returned (.bool X) ∧ SV b0 b1 w [.int .u64 a0_0, .int .u64 a0_1, .int .u64 a0_2, .int .u64 a0_3, .int .u64 a0_4, .int .u64 a0_5] [.int .u64 a1_0, .int .u64 a1_1, .int .u64 a1_2, .int .u64 a1_3, .int .u64 a1_4, .int .u64 a1_5] W')) := Lib.hid (fun W h => (KR.out W).mono (fun e W' q => ⟨q.1, h.step hle q.2⟩))
        have C15 : Hid (∀ W, SV b0 b1 w [.int .u64 a0_0, .int .u64 a0_1, .int .u64 a0_2, .int .u64 a0_3, .int .u64 a0_4, .int .u64 a0_5] [.int .u64 a1_0, .int .u64 a1_1, .int .u64 a1_2, .int .u64 a1_3, .int .u64 a1_4, .int .u64 a1_5] W → Calls Try.prog 15 #[.agg [.int .u64 a0_0, .int .u64 a0_1, .int .u64 a0_2, .int .u64 a0_3, .int .u64 a0_4, .int .u64 a0_5].toArray] W (fun e W' => e = .returned (.int .u64 TT) ∧ SV b0 b1 w [.int .u64 a0_0, .int .u64 a0_1, .int .u64 a0_2, .int .u64 a0_3, .int .u64 a0_4, .int .u64 a0_5] [.int .u64 a1_0, .int .u64 a1_1, .int .u64 a1_2, .int .u64 a1_3, .int .u64 a1_4, .int .u64 a1_5] W')) := Lib.hid (fun W h => (KT.out W).mono (fun e W' q => ⟨q.1, h.step hle q.2⟩))
        have C13 : Hid (∀ W, SV b0 b1 w [.int .u64 a0_0, .int .u64 a0_1, .int .u64 a0_2, .int .u64 a0_3, .int .u64 a0_4, .int .u64 a0_5] [.int .u64 a1_0, .int .u64 a1_1, .int .u64 a1_2, .int .u64 a1_3, .int .u64 a1_4, .int .u64 a1_5] W → Calls Try.prog 13 #[.agg [.int .u64 a0_0, .int .u64 a0_1, .int .u64 a0_2, .int .u64 a0_3, .int .u64 a0_4, .int .u64 a0_5].toArray, .agg [.int .u64 a1_0, .int .u64 a1_1, .int .u64 a1_2, .int .u64 a1_3, .int .u64 a1_4, .int .u64 a1_5].toArray] W (fun e W' => e = .returned (.int .u64 MM) ∧ SV b0 b1 w [.int .u64 a0_0, .int .u64 a0_1, .int .u64 a0_2, .int .u64 a0_3, .int .u64 a0_4, .int .u64 a0_5] [.int .u64 a1_0, .int .u64 a1_1, .int .u64 a1_2, .int .u64 a1_3, .int .u64 a1_4, .int .u64 a1_5] W')) := Lib.hid (fun W h => (KM.out W).mono (fun e W' q => ⟨q.1, h.step hle q.2⟩))
        clear KW KG KR KT KM
        cases sm
        · clear XS
          go_upto_region 13 with (fail)
          refine region_held (SV b0 b1 w [.int .u64 a0_0, .int .u64 a0_1, .int .u64 a0_2, .int .u64 a0_3, .int .u64 a0_4, .int .u64 a0_5] [.int .u64 a1_0, .int .u64 a1_1, .int .u64 a1_2, .int .u64 a1_3, .int .u64 a1_4, .int .u64 a1_5]) 27 (by kernel_rfl) (by kernel_rfl) hSV ?_
          simp only [List.take_succ_cons, List.take_zero, List.drop_succ_cons, List.drop_zero]
          refine wpHeld_call (.bool true) 12 #[] rfl (fun w => by kernel_rfl) (by exact C12.out) ?_
          simp only [Act.put, List.setIfInBounds_toArray, List.set_cons_zero, List.set_cons_succ]
          refine wpHeld_cons (.bool true) rfl (fun w h => heldRun_value (by kernel_rfl) h) ?_
          simp only [Act.put, List.setIfInBounds_toArray, List.set_cons_zero, List.set_cons_succ]
          refine wpHeld_load 24 _ rfl rfl b0 0 rfl [.int .u64 a0_0, .int .u64 a0_1, .int .u64 a0_2, .int .u64 a0_3, .int .u64 a0_4, .int .u64 a0_5] _ (fun w h => h.2.1) Try.underlying24 rfl i24.out ?_
          simp only [Act.put, List.setIfInBounds_toArray, List.set_cons_zero, List.set_cons_succ]
          refine wpHeld_load 24 _ rfl rfl b1 0 rfl [.int .u64 a1_0, .int .u64 a1_1, .int .u64 a1_2, .int .u64 a1_3, .int .u64 a1_4, .int .u64 a1_5] _ (fun w h => h.2.2) Try.underlying24 rfl i24.out ?_
          simp only [Act.put, List.setIfInBounds_toArray, List.set_cons_zero, List.set_cons_succ]
          refine wpHeld_call (.bool X) 11 #[.agg [.int .u64 a0_0, .int .u64 a0_1, .int .u64 a0_2, .int .u64 a0_3, .int .u64 a0_4, .int .u64 a0_5].toArray, .agg [.int .u64 a1_0, .int .u64 a1_1, .int .u64 a1_2, .int .u64 a1_3, .int .u64 a1_4, .int .u64 a1_5].toArray] rfl (fun w => by kernel_rfl) (by exact C11.out) ?_
          simp only [Act.put, List.setIfInBounds_toArray, List.set_cons_zero, List.set_cons_succ]
          refine wpHeld_load 24 _ rfl rfl b0 0 rfl [.int .u64 a0_0, .int .u64 a0_1, .int .u64 a0_2, .int .u64 a0_3, .int .u64 a0_4, .int .u64 a0_5] _ (fun w h => h.2.1) Try.underlying24 rfl i24.out ?_
          simp only [Act.put, List.setIfInBounds_toArray, List.set_cons_zero, List.set_cons_succ]
          refine wpHeld_load 24 _ rfl rfl b1 0 rfl [.int .u64 a1_0, .int .u64 a1_1, .int .u64 a1_2, .int .u64 a1_3, .int .u64 a1_4, .int .u64 a1_5] _ (fun w h => h.2.2) Try.underlying24 rfl i24.out ?_
          simp only [Act.put, List.setIfInBounds_toArray, List.set_cons_zero, List.set_cons_succ]
          refine wpHeld_call (.bool X) 14 #[.agg [.int .u64 a0_0, .int .u64 a0_1, .int .u64 a0_2, .int .u64 a0_3, .int .u64 a0_4, .int .u64 a0_5].toArray, .agg [.int .u64 a1_0, .int .u64 a1_1, .int .u64 a1_2, .int .u64 a1_3, .int .u64 a1_4, .int .u64 a1_5].toArray] rfl (fun w => by kernel_rfl) (by exact C14.out) ?_
          simp only [Act.put, List.setIfInBounds_toArray, List.set_cons_zero, List.set_cons_succ]
          refine wpHeld_cons (.bool true) rfl (fun w h => heldRun_value (by cases X <;> kernel_rfl) h) ?_
          simp only [Act.put, List.setIfInBounds_toArray, List.set_cons_zero, List.set_cons_succ]
          refine wpHeld_cons (.bool true) rfl (fun w h => heldRun_value (by kernel_rfl) h) ?_
          simp only [Act.put, List.setIfInBounds_toArray, List.set_cons_zero, List.set_cons_succ]
          refine wpHeld_cons (.bool true) rfl (fun w h => heldRun_value (by kernel_rfl) h) ?_
          simp only [Act.put, List.setIfInBounds_toArray, List.set_cons_zero, List.set_cons_succ]
          refine wpHeld_load 24 _ rfl rfl b0 0 rfl [.int .u64 a0_0, .int .u64 a0_1, .int .u64 a0_2, .int .u64 a0_3, .int .u64 a0_4, .int .u64 a0_5] _ (fun w h => h.2.1) Try.underlying24 rfl i24.out ?_
          simp only [Act.put, List.setIfInBounds_toArray, List.set_cons_zero, List.set_cons_succ]
          refine wpHeld_call (.int .u64 TT) 15 #[.agg [.int .u64 a0_0, .int .u64 a0_1, .int .u64 a0_2, .int .u64 a0_3, .int .u64 a0_4, .int .u64 a0_5].toArray] rfl (fun w => by kernel_rfl) (by exact C15.out) ?_
          simp only [Act.put, List.setIfInBounds_toArray, List.set_cons_zero, List.set_cons_succ]
          refine wpHeld_cons (.int .u64 TT) rfl (fun w h => heldRun_value (by kernel_rfl) h) ?_
          simp only [Act.put, List.setIfInBounds_toArray, List.set_cons_zero, List.set_cons_succ]
          refine wpHeld_cons (.bool true) rfl (fun w h => heldRun_value (run_eqv _ _ _ _ _ _ rfl rfl rfl) h) ?_
          simp only [Act.put, List.setIfInBounds_toArray, List.set_cons_zero, List.set_cons_succ]
          refine wpHeld_cons (.bool true) rfl (fun w h => heldRun_value (by kernel_rfl) h) ?_
          simp only [Act.put, List.setIfInBounds_toArray, List.set_cons_zero, List.set_cons_succ]
          refine wpHeld_cons (.bool true) rfl (fun w h => heldRun_value (by kernel_rfl) h) ?_
          simp only [Act.put, List.setIfInBounds_toArray, List.set_cons_zero, List.set_cons_succ]
          refine wpHeld_cons (.bool false) rfl (fun w h => heldRun_value (by kernel_rfl) h) ?_
          simp only [Act.put, List.setIfInBounds_toArray, List.set_cons_zero, List.set_cons_succ]
          refine wpHeld_cons (.bool true) rfl (fun w h => heldRun_value (by kernel_rfl) h) ?_
          simp only [Act.put, List.setIfInBounds_toArray, List.set_cons_zero, List.set_cons_succ]
          refine wpHeld_cons (.bool true) rfl (fun w h => heldRun_value (by kernel_rfl) h) ?_
          simp only [Act.put, List.setIfInBounds_toArray, List.set_cons_zero, List.set_cons_succ]
          refine wpHeld_skip rfl ?_
          simp only [Act.put, List.setIfInBounds_toArray, List.set_cons_zero, List.set_cons_succ]
          refine wpHeld_skip rfl ?_
          simp only [Act.put, List.setIfInBounds_toArray, List.set_cons_zero, List.set_cons_succ]
          refine wpHeld_skip rfl ?_
          simp only [Act.put, List.setIfInBounds_toArray, List.set_cons_zero, List.set_cons_succ]
          refine wpHeld_skip rfl ?_
          simp only [Act.put, List.setIfInBounds_toArray, List.set_cons_zero, List.set_cons_succ]
          refine wpHeld_skip rfl ?_
          simp only [Act.put, List.setIfInBounds_toArray, List.set_cons_zero, List.set_cons_succ]
          refine wpHeld_cons (.bool true) rfl (fun w h => heldRun_value (by kernel_rfl) h) ?_
          simp only [Act.put, List.setIfInBounds_toArray, List.set_cons_zero, List.set_cons_succ]
          refine wpHeld_cons (.bool true) rfl (fun w h => heldRun_value (by kernel_rfl) h) ?_
          simp only [Act.put, List.setIfInBounds_toArray, List.set_cons_zero, List.set_cons_succ]
          refine wpHeld_nil ?_
          intro w5 S5
          have HS5 := Lib.hid S5
          clear S5 hSV
          go_wp2_with fail
          go_ret
          exact ⟨rfl, Below.mono (B := b0) HS5.out.1 hge⟩
        · have hx2 : x = MM := XS.out rfl
          subst hx2
          clear XS
          go_upto_region 13 with (fail)
          refine region_held (SV b0 b1 w [.int .u64 a0_0, .int .u64 a0_1, .int .u64 a0_2, .int .u64 a0_3, .int .u64 a0_4, .int .u64 a0_5] [.int .u64 a1_0, .int .u64 a1_1, .int .u64 a1_2, .int .u64 a1_3, .int .u64 a1_4, .int .u64 a1_5]) 27 (by kernel_rfl) (by kernel_rfl) hSV ?_
          simp only [List.take_succ_cons, List.take_zero, List.drop_succ_cons, List.drop_zero]
          refine wpHeld_call (.bool true) 12 #[] rfl (fun w => by kernel_rfl) (by exact C12.out) ?_
          simp only [Act.put, List.setIfInBounds_toArray, List.set_cons_zero, List.set_cons_succ]
          refine wpHeld_cons (.bool true) rfl (fun w h => heldRun_value (by kernel_rfl) h) ?_
          simp only [Act.put, List.setIfInBounds_toArray, List.set_cons_zero, List.set_cons_succ]
          refine wpHeld_load 24 _ rfl rfl b0 0 rfl [.int .u64 a0_0, .int .u64 a0_1, .int .u64 a0_2, .int .u64 a0_3, .int .u64 a0_4, .int .u64 a0_5] _ (fun w h => h.2.1) Try.underlying24 rfl i24.out ?_
          simp only [Act.put, List.setIfInBounds_toArray, List.set_cons_zero, List.set_cons_succ]
          refine wpHeld_load 24 _ rfl rfl b1 0 rfl [.int .u64 a1_0, .int .u64 a1_1, .int .u64 a1_2, .int .u64 a1_3, .int .u64 a1_4, .int .u64 a1_5] _ (fun w h => h.2.2) Try.underlying24 rfl i24.out ?_
          simp only [Act.put, List.setIfInBounds_toArray, List.set_cons_zero, List.set_cons_succ]
          refine wpHeld_call (.bool X) 11 #[.agg [.int .u64 a0_0, .int .u64 a0_1, .int .u64 a0_2, .int .u64 a0_3, .int .u64 a0_4, .int .u64 a0_5].toArray, .agg [.int .u64 a1_0, .int .u64 a1_1, .int .u64 a1_2, .int .u64 a1_3, .int .u64 a1_4, .int .u64 a1_5].toArray] rfl (fun w => by kernel_rfl) (by exact C11.out) ?_
          simp only [Act.put, List.setIfInBounds_toArray, List.set_cons_zero, List.set_cons_succ]
          refine wpHeld_load 24 _ rfl rfl b0 0 rfl [.int .u64 a0_0, .int .u64 a0_1, .int .u64 a0_2, .int .u64 a0_3, .int .u64 a0_4, .int .u64 a0_5] _ (fun w h => h.2.1) Try.underlying24 rfl i24.out ?_
          simp only [Act.put, List.setIfInBounds_toArray, List.set_cons_zero, List.set_cons_succ]
          refine wpHeld_load 24 _ rfl rfl b1 0 rfl [.int .u64 a1_0, .int .u64 a1_1, .int .u64 a1_2, .int .u64 a1_3, .int .u64 a1_4, .int .u64 a1_5] _ (fun w h => h.2.2) Try.underlying24 rfl i24.out ?_
          simp only [Act.put, List.setIfInBounds_toArray, List.set_cons_zero, List.set_cons_succ]
          refine wpHeld_call (.bool X) 14 #[.agg [.int .u64 a0_0, .int .u64 a0_1, .int .u64 a0_2, .int .u64 a0_3, .int .u64 a0_4, .int .u64 a0_5].toArray, .agg [.int .u64 a1_0, .int .u64 a1_1, .int .u64 a1_2, .int .u64 a1_3, .int .u64 a1_4, .int .u64 a1_5].toArray] rfl (fun w => by kernel_rfl) (by exact C14.out) ?_
          simp only [Act.put, List.setIfInBounds_toArray, List.set_cons_zero, List.set_cons_succ]
          refine wpHeld_cons (.bool true) rfl (fun w h => heldRun_value (by cases X <;> kernel_rfl) h) ?_
          simp only [Act.put, List.setIfInBounds_toArray, List.set_cons_zero, List.set_cons_succ]
          refine wpHeld_cons (.bool true) rfl (fun w h => heldRun_value (by kernel_rfl) h) ?_
          simp only [Act.put, List.setIfInBounds_toArray, List.set_cons_zero, List.set_cons_succ]
          refine wpHeld_cons (.bool true) rfl (fun w h => heldRun_value (by kernel_rfl) h) ?_
          simp only [Act.put, List.setIfInBounds_toArray, List.set_cons_zero, List.set_cons_succ]
          refine wpHeld_load 24 _ rfl rfl b0 0 rfl [.int .u64 a0_0, .int .u64 a0_1, .int .u64 a0_2, .int .u64 a0_3, .int .u64 a0_4, .int .u64 a0_5] _ (fun w h => h.2.1) Try.underlying24 rfl i24.out ?_
          simp only [Act.put, List.setIfInBounds_toArray, List.set_cons_zero, List.set_cons_succ]
          refine wpHeld_call (.int .u64 TT) 15 #[.agg [.int .u64 a0_0, .int .u64 a0_1, .int .u64 a0_2, .int .u64 a0_3, .int .u64 a0_4, .int .u64 a0_5].toArray] rfl (fun w => by kernel_rfl) (by exact C15.out) ?_
          simp only [Act.put, List.setIfInBounds_toArray, List.set_cons_zero, List.set_cons_succ]
          refine wpHeld_cons (.int .u64 TT) rfl (fun w h => heldRun_value (by kernel_rfl) h) ?_
          simp only [Act.put, List.setIfInBounds_toArray, List.set_cons_zero, List.set_cons_succ]
          refine wpHeld_cons (.bool true) rfl (fun w h => heldRun_value (run_eqv _ _ _ _ _ _ rfl rfl rfl) h) ?_
          simp only [Act.put, List.setIfInBounds_toArray, List.set_cons_zero, List.set_cons_succ]
          refine wpHeld_cons (.bool true) rfl (fun w h => heldRun_value (by kernel_rfl) h) ?_
          simp only [Act.put, List.setIfInBounds_toArray, List.set_cons_zero, List.set_cons_succ]
          refine wpHeld_cons (.bool true) rfl (fun w h => heldRun_value (by kernel_rfl) h) ?_
          simp only [Act.put, List.setIfInBounds_toArray, List.set_cons_zero, List.set_cons_succ]
          refine wpHeld_cons (.bool true) rfl (fun w h => heldRun_value (by kernel_rfl) h) ?_
          simp only [Act.put, List.setIfInBounds_toArray, List.set_cons_zero, List.set_cons_succ]
          refine wpHeld_cons (.bool false) rfl (fun w h => heldRun_value (by kernel_rfl) h) ?_
          simp only [Act.put, List.setIfInBounds_toArray, List.set_cons_zero, List.set_cons_succ]
          refine wpHeld_cons (.bool false) rfl (fun w h => heldRun_value (by kernel_rfl) h) ?_
          simp only [Act.put, List.setIfInBounds_toArray, List.set_cons_zero, List.set_cons_succ]
          refine wpHeld_load 24 _ rfl rfl b0 0 rfl [.int .u64 a0_0, .int .u64 a0_1, .int .u64 a0_2, .int .u64 a0_3, .int .u64 a0_4, .int .u64 a0_5] _ (fun w h => h.2.1) Try.underlying24 rfl i24.out ?_
          simp only [Act.put, List.setIfInBounds_toArray, List.set_cons_zero, List.set_cons_succ]
          refine wpHeld_load 24 _ rfl rfl b1 0 rfl [.int .u64 a1_0, .int .u64 a1_1, .int .u64 a1_2, .int .u64 a1_3, .int .u64 a1_4, .int .u64 a1_5] _ (fun w h => h.2.2) Try.underlying24 rfl i24.out ?_
          simp only [Act.put, List.setIfInBounds_toArray, List.set_cons_zero, List.set_cons_succ]
          refine wpHeld_call (.int .u64 x) 13 #[.agg [.int .u64 a0_0, .int .u64 a0_1, .int .u64 a0_2, .int .u64 a0_3, .int .u64 a0_4, .int .u64 a0_5].toArray, .agg [.int .u64 a1_0, .int .u64 a1_1, .int .u64 a1_2, .int .u64 a1_3, .int .u64 a1_4, .int .u64 a1_5].toArray] rfl (fun w => by kernel_rfl) (by exact C13.out) ?_
          simp only [Act.put, List.setIfInBounds_toArray, List.set_cons_zero, List.set_cons_succ]
          refine wpHeld_cons (.int .u64 x) rfl (fun w h => heldRun_value (by kernel_rfl) h) ?_
          simp only [Act.put, List.setIfInBounds_toArray, List.set_cons_zero, List.set_cons_succ]
          refine wpHeld_cons (.bool true) rfl (fun w h => heldRun_value (run_eqv _ _ _ _ _ _ rfl rfl rfl) h) ?_
          simp only [Act.put, List.setIfInBounds_toArray, List.set_cons_zero, List.set_cons_succ]
          refine wpHeld_cons (.bool true) rfl (fun w h => heldRun_value (by kernel_rfl) h) ?_
          simp only [Act.put, List.setIfInBounds_toArray, List.set_cons_zero, List.set_cons_succ]
          refine wpHeld_cons (.bool true) rfl (fun w h => heldRun_value (by kernel_rfl) h) ?_
          simp only [Act.put, List.setIfInBounds_toArray, List.set_cons_zero, List.set_cons_succ]
          refine wpHeld_nil ?_
          intro w5 S5
          have HS5 := Lib.hid S5
          clear S5 hSV
          go_wp2_with fail
          go_ret
          exact ⟨rfl, Below.mono (B := b0) HS5.out.1 hge⟩
end Go.Proofs.Ythkhlkiemldbaaa
