/- What Xor and Stream do with a row of blocks: the words of the walk. -/
import Derived.Test.YtlbfohpkngmaoaaDoorChR
import Derived.Test.YtlbfohpkngmaoaaDoorChB
import Derived.Laws.Tables
import Derived.Great.BuildSlice
import Derived.Deep.OwnRows
import Derived.Deep.WholeRow
import Derived.Laws.Small
namespace Go.Proofs.YtlbfohpkngmaoaaDoor.Ch.B
open Go Go.RowKit
theorem size3 (w : World) : (sizeOf 3).run Tryd.prog w = .ok 1 w := by kernel_rfl
theorem size5 (w : World) : (sizeOf 5).run Tryd.prog w = .ok 1 w := by kernel_rfl
theorem size24 (w : World) : (sizeOf 24).run Tryd.prog w = .ok 1 w := by kernel_rfl
def ub (l : List Int) : List Value := l.map (Value.int .u8)
theorem ub_len (l : List Int) : (ub l).length = l.length := by simp [ub]
theorem ub_one (l : List Int) : (ub l).toArray.all (·.oneCell') = true := by
 simp [ub, Value.oneCell']
theorem ub_cell {w : World} {g t : Nat} {l : List Int} (h : Blk w g t (ub l).toArray) {j : Nat} (hj : j < l.length) : w.cell? ⟨g, 0 + j, none⟩ = some (.int .u8 (l.getD j 0)) := by
 rw [h.cell, Nat.zero_add]
 simp [ub, List.getD, List.getElem?_eq_getElem hj, hj]
theorem ub_some {w : World} {g t : Nat} {l : List Int} (h : Blk w g t (ub l).toArray) {j : Nat} (hj : j < l.length) : (w.cell? ⟨g, 0 + j, none⟩).isSome = true := by
 rw [ub_cell h hj]; rfl
theorem ub_set (l : List Int) (j : Nat) (x : Int) : (ub l).set j (.int .u8 x) = ub (l.set j x) := by simp [ub, List.map_set]
def outV (X : Nat → Int) (n m : Nat) : List Int := (List.range n).map fun i => if i < m then X i else 0
theorem outV_len (X : Nat → Int) (n m : Nat) : (outV X n m).length = n := by simp [outV]
theorem outV_zero (X : Nat → Int) (n : Nat) : outV X n 0 = List.replicate n 0 := by
 simp [outV, List.map_const']
theorem outV_set (X : Nat → Int) (n m : Nat) : (outV X n m).set m (X m) = outV X n (m + 1) := by
 apply List.ext_getElem?
 intro i
 simp only [outV, List.getElem?_set, List.length_map, List.length_range, List.getElem?_map]
 by_cases h : m = i
 ·subst h
  by_cases h2 : m < n
  ·simp [h2, List.getElem?_range h2]
  ·simp [h2]
 ·by_cases h2 : i < n
  ·rw [List.getElem?_range h2]
   simp only [h, if_false, Option.map_some]
   by_cases h3 : i < m
   ·rw [if_pos h3, if_pos (by omega)]
   ·rw [if_neg h3, if_neg (by omega)]
  ·have e : (List.range n)[i]? = none := List.getElem?_eq_none (by simp; omega)
   simp [h, e]
theorem outV_full (X : Nat → Int) (n : Nat) : outV X n n = (List.range n).map X := by
 apply List.map_congr_left
 intro i hi
 rw [if_pos (List.mem_range.1 hi)]
theorem run_mk24 (a : Act) (o : Oper) (w w1 : World) (x : Operand) (m : Nat) (ho : o.op = .makeSlice 24 x x) (hx : a.eval x = .int .i64 (m : Int)) (hB : m ≤ 100000) (h1 : w1 = w.alloc (.cells (ub (List.replicate m 0)).toArray 5)) :
  (execOp a.eval o).run Tryd.prog w = .ok (.value (.slice (some ⟨w.heap.size, 0, none⟩) m m)) w1 := by
 have r := run_make_row' (P := Tryd.prog) 24 5 (.int .u8 0) 1 Tryd.underlying24 (by kernel_rfl) rfl .i64 .i64 m (by omega) (by omega) w
 have e : madeCells #[Value.int .u8 0] m = (ub (List.replicate m 0)).toArray := by
  apply Array.ext_getElem?
  intro i
  unfold madeCells ub
  rw [List.map_replicate]
  simp only [List.getElem?_toArray, List.getElem?_replicate, Array.getElem?_map, Array.getElem?_range]
  split <;> simp [Nat.mod_one]
 rw [e] at r
 subst h1
 unfold execOp
 simp only [ho, hx, Sem.run_bind, r, Result.andThen_ok, Sem.run_pure]
theorem run_idxa35 (a : Act) (o : Oper) (w : World) (x i : Operand) (g off k : Nat) (ho : o.op = .indexAddr 53 x i) (hx : a.eval x = .pointer (some ⟨g, off, none⟩)) (hi : a.eval i = .int .i64 (k : Int)) (hk : k < 64) : (execOp a.eval o).run Tryd.prog w = .ok (.value (.pointer (some ⟨g, off + k, none⟩))) w := by
 have j0 : (0 : Int) ≤ (k : Int) := by omega
 have j6 : (k : Int) < 64 := by omega
 unfold execOp
 simp only [ho, hx, hi]
 go_simp
theorem run_min (a : Act) (o : Oper) (w : World) (x y : Operand) (m : Nat) (ho : o.op = .call { callee := .builtin .min, args := #[x, y], argTypes := #[3, 3] }) (ht : o.type = 3) (hx : a.eval x = .int .i64 64) (hy : a.eval y = .int .i64 (m : Int)) : (execOp a.eval o).run Tryd.prog w = .ok (.value (.int .i64 ((min 64 m : Nat) : Int))) w := by
 have e : (Builtin.min_ #[3, 3] 3 #[.int .i64 64, .int .i64 (m : Int)]).run Tryd.prog w = .ok (.int .i64 ((min 64 m : Nat) : Int)) w := by
  rw [run_min_int2]
  split <;> congr 2 <;> omega
 unfold execOp
 simp only [ho, resolve, invoke, builtin, Sem.run_bind, Sem.run_pure, Result.andThen_ok, List.map_toArray, List.map_cons, List.map_nil, hx, hy, ht, e]
def XS (B g2 g3 g4 g5 n d m : Nat) (sp : Option Addr) (cp : Nat) (X : Nat → Int) (w W : World) : Prop :=
 Below B w W ∧ Blk W g2 24 #[.slice sp n cp] ∧ Blk W g4 24 #[.slice (some ⟨g3, 0, none⟩) n n] ∧ Blk W g5 3 #[.int .i64 (d : Int)] ∧ Blk W g3 5 (ub (outV X n m)).toArray
section
variable {B g2 g3 g4 g5 n d m cp : Nat} {sp : Option Addr} {X : Nat → Int} {w W : World}
theorem XS.grown {V : World} {row : Option Nat} {L : Nat} (h : XS B g2 g3 g4 g5 n d m sp cp X w W) (hg : W.grownBy V row) (hr : ∀ r, row = some r → L ≤ r) (hB : B ≤ L) (hBw : B ≤ w.heap.size) (h2 : g2 < L) (h3 : g3 < L) (h4 : g4 < L) (h5 : g5 < L) : XS B g2 g3 g4 g5 n d m sp cp X w V := by
 obtain ⟨a0, a2, a4, a5, a3⟩ := h
 have ne : ∀ g, g < L → some g ≠ row := fun g hg e => by have := hr g e.symm; omega
 exact ⟨a0.grown hg (Nat.le_trans hBw a0.size) (fun k e => by have := hr k e; omega), a2.grown hg (ne _ h2), a4.grown hg (ne _ h4), a5.grown hg (ne _ h5), a3.grown hg (ne _ h3)⟩
theorem XS.below {V : World} (h : XS B g2 g3 g4 g5 n d m sp cp X w W) (hb : Below W.heap.size W V) (hBw : B ≤ w.heap.size) : XS B g2 g3 g4 g5 n d m sp cp X w V := by
 obtain ⟨a0, a2, a4, a5, a3⟩ := h
 exact ⟨a0.trans (hb.mono (Nat.le_trans hBw a0.size)), a2.below hb, a4.below hb, a5.below hb, a3.below hb⟩
theorem XS.put (h : XS B g2 g3 g4 g5 n d m sp cp X w W) (h3 : B ≤ g3) (n2 : g2 ≠ g3) (n4 : g4 ≠ g3) (n5 : g5 ≠ g3) : XS B g2 g3 g4 g5 n d (m + 1) sp cp X w (W.setCell ⟨g3, 0 + m, none⟩ (.int .u8 (X m))) := by
 obtain ⟨a0, a2, a4, a5, a3⟩ := h
 refine ⟨a0.setCell (p := ⟨g3, 0 + m, none⟩) h3 _, a2.other _ _ n2, a4.other _ _ n4, a5.other _ _ n5, ?_⟩
 have := Blk.set a3 m (.int .u8 (X m))
 rw [ub_set, outV_set] at this
 rw [Nat.zero_add]
 exact this
theorem XS.done (h : XS B g2 g3 g4 g5 n d m sp cp X w W) (h5 : B ≤ g5) (n2 : g2 ≠ g5) (n4 : g4 ≠ g5) (n3 : g3 ≠ g5) (e : Nat) : XS B g2 g3 g4 g5 n e m sp cp X w (W.setCell ⟨g5, 0, none⟩ (.int .i64 (e : Int))) := by
 obtain ⟨a0, a2, a4, a5, a3⟩ := h
 exact ⟨a0.setCell (p := ⟨g5, 0, none⟩) h5 _, a2.other _ _ n2, a4.other _ _ n4, Blk.set a5 0 _, a3.other _ _ n3⟩
end
theorem thenN_end {P : Program} {ops : Array Oper} {Q : Exit → Act → World → Prop} {a : Act} {w : World} (h : Q .normal a w) : wpList P ops (thenN Q) [] a w := h
theorem Blk.ne {w : World} {a b t u : Nat} {cs ds : Array Value} (h : Blk w a t cs) (k : Blk w b u ds) (n : t ≠ u) : a ≠ b := by
 intro e
 subst e
 unfold Blk at h k
 rw [h] at k
 simp only [Option.some.injEq, Obj.cells.injEq] at k
 exact n k.2.1
theorem notcells {w : World} {g t : Nat} {cs : Array Value} (h : Blk w g t cs) {row : Option Nat} (hr : ∀ r, row = some r → ∃ o : Obj, w.heap[r]? = some o ∧ o.isCells = false) : some g ≠ row := by
 intro e
 obtain ⟨o, ho, hc⟩ := hr g e.symm
 unfold Blk at h
 rw [h] at ho
 simp only [Option.some.injEq] at ho
 subst ho
 cases hc
theorem XS.drew {B g2 g3 g4 g5 n d m cp : Nat} {sp : Option Addr} {X : Nat → Int} {w W : World} (h : XS B g2 g3 g4 g5 n d m sp cp X w W) : XS B g2 g3 g4 g5 n d m sp cp X w W.drew := ⟨h.1.drew, h.2⟩
theorem keeps_below {W V : World} (h : Below W.heap.size W V) : KeepsOthers W V := KeepsOthers.of_grownBy (row := none) (gb_of h none) (fun j o e => by cases e)
def XR (B g2 g3 g4 g5 n d m : Nat) (sp : Option Addr) (cp : Nat) (X : Nat → Int) (w W : World) (p5 p3 p4 S7 ga : Nat) (row : List Int) (wr : World) : Prop :=
 XS B g2 g3 g4 g5 n d m sp cp X w wr ∧ Blk wr ga 53 (ub row).toArray ∧ KeepsOthers W wr ∧ K3 p5 p3 p4 W wr ∧ S7 ≤ wr.heap.size
section
variable {B g2 g3 g4 g5 n d m cp p5 p3 p4 S7 ga : Nat} {sp : Option Addr} {X : Nat → Int} {w W wr : World} {row : List Int}
theorem XR.drew (h : XR B g2 g3 g4 g5 n d m sp cp X w W p5 p3 p4 S7 ga row wr) : XR B g2 g3 g4 g5 n d m sp cp X w W p5 p3 p4 S7 ga row wr.drew :=
 ⟨h.1.drew, h.2.1, h.2.2.1.trans (KeepsOthers.drew _), h.2.2.2.1, h.2.2.2.2⟩
theorem XR.put (h : XR B g2 g3 g4 g5 n d m sp cp X w W p5 p3 p4 S7 ga row wr) (h3 : B ≤ g3) (n2 : g2 ≠ g3) (n4 : g4 ≠ g3) (n5 : g5 ≠ g3) (na : ga ≠ g3) (np : p5 ≠ g3 ∧ p3 ≠ g3 ∧ p4 ≠ g3) :
  XR B g2 g3 g4 g5 n d (m + 1) sp cp X w W p5 p3 p4 S7 ga row (wr.setCell ⟨g3, 0 + m, none⟩ (.int .u8 (X m))) :=
 ⟨h.1.put h3 n2 n4 n5, h.2.1.other _ _ na, h.2.2.1.trans (KeepsOthers.setCell _ _ _), h.2.2.2.1.trans (K3.setCell _ np.1 np.2.1 np.2.2), by rw [size_setCell]; exact h.2.2.2.2⟩
theorem XR.fin (h : XR B g2 g3 g4 g5 n d m sp cp X w W p5 p3 p4 S7 ga row wr) (h5 : B ≤ g5) (n2 : g2 ≠ g5) (n4 : g4 ≠ g5) (n3 : g3 ≠ g5) (np : p5 ≠ g5 ∧ p3 ≠ g5 ∧ p4 ≠ g5) (e : Nat) :
  XS B g2 g3 g4 g5 n e m sp cp X w (wr.setCell ⟨g5, 0, none⟩ (.int .i64 (e : Int))) ∧ KeepsOthers W (wr.setCell ⟨g5, 0, none⟩ (.int .i64 (e : Int))) ∧ K3 p5 p3 p4 W (wr.setCell ⟨g5, 0, none⟩ (.int .i64 (e : Int))) ∧ S7 ≤ (wr.setCell ⟨g5, 0, none⟩ (.int .i64 (e : Int))).heap.size :=
 ⟨h.1.done h5 n2 n4 n3 e, h.2.2.1.trans (KeepsOthers.setCell _ _ _), h.2.2.2.1.trans (K3.setCell _ np.1 np.2.1 np.2.2), by rw [size_setCell]; exact h.2.2.2.2⟩
end
theorem region_heldR {P : Program} {id l n' : Nat} {Q : Exit → Act → World → Prop} {a : Act} {w : World} {L : List Oper} (S : World → Prop) (n : Nat) (hm : P.follows .mixedOrders = true) (hB : Region.lexTailB .any L.toArray n = true) (hd : noDefer L = true) (hS : S w.drew)
  (h : wpHeld P L.toArray S (fun a' => ∀ w', S w' → wpList P L.toArray (thenN Q) (L.drop n) a' w') (L.take n) a) : (Code.region id L.toArray true).wpIn (Fence.wide.inRound l) n' P Q a w := by
 simp only [Region.lexTailB, Bool.and_eq_true, decide_eq_true_eq] at hB
 obtain ⟨⟨⟨⟨hsel, hn⟩, hs⟩, hc⟩, hlex⟩ := hB
 have hn' : n < L.length := by simpa using hn
 have htl : (L.take n).length = n := by simp; omega
 have hdl : (L.drop n).length = L.toArray.size - n := by simp
 have inv0 : HeadInv .any L.toArray n (Array.replicate L.toArray.size false) :=
  ⟨by simp, fun j oj _ hl => (by rw [getD_replicate_false] at hl; cases hl), fun t _ ht => getD_in (by simpa using ht) (getD_replicate_false _ _)⟩
 have H := anyH_lex (md := .any) (g := L.toArray.size - n) hsel hs hc hn (L.take n) 0 _ a (fun j hj => by
  have hj' : j < n := by rw [htl] at hj; exact hj
  simp [hj']) (by simpa using htl) inv0 (by rw [htl]; exact hlex) h
 refine region_round_any hm hd ?_
 have := wpAny_of_anyH (Q' := thenN Q) (g := L.toArray.size - n) (fun listed a' hL w' hS' => by
  have := wpAny_of_seq (md := .any) (Q' := thenN Q) (L.drop n) n listed a' w' (fun j => by simp [List.getElem?_drop]) (by rw [hdl]; exact hL.1) (hL.2 w' hS')
  rwa [hdl] at this) _ _ _ H _ hS
 rw [htl, show n + (L.toArray.size - n) = L.toArray.size by omega] at this
 exact this
def closesOn (KV NV : List Value) (c : Nat) (w : World) (e : Ending) (w' : World) : Prop :=
 ∃ p5 p3 p4 : Nat, e = .returned (.func (.func 31) #[] #[.pointer (some ⟨p5, 0, none⟩), .pointer (some ⟨p3, 0, none⟩), .pointer (some ⟨p4, 0, none⟩)]) ∧ Below w.heap.size w w' ∧ Blk w' p5 38 #[.int .u32 (c : Int)] ∧ Blk w' p3 23 KV.toArray ∧ Blk w' p4 27 NV.toArray
theorem blocks_fn (KV NV : List Value) (hK : (Tryd.prog.info? 23).map (·.size) = some KV.length) (hN : (Tryd.prog.info? 27).map (·.size) = some NV.length) (c : Nat) (w : World) :
  Calls Tryd.prog 16 #[.agg KV.toArray, .agg NV.toArray, .int .u32 (c : Int)] w (closesOn KV NV c w) := by
 go_enter Tryd.func16, Tryd.ntmps16
 go_wp2_with fail
 refine bodyPost_ret (results_tmp rfl _ _ _) rfl ?_
 refine ⟨_, _, _, rfl, (((Below.refl _ _).alloc (Nat.le_refl _) _).alloc (by simp) _).alloc (by simp; omega) _, Blk.new' _ _ _ _ (by simp), ((Blk.new _ _ _).alloc _).alloc _, (Blk.new' _ _ _ _ (by simp)).alloc _⟩
end Go.Proofs.YtlbfohpkngmaoaaDoor.Ch.B
