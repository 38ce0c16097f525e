/- Texts of use, in one. -/
import Derived.Test.YtlbfohpkngmaoaaDoorChB
import Derived.WalkKit
import Derived.RangeFuncNested
import Derived.RangeFuncBound
import Derived.RangeFuncCalls
import Derived.RangeFuncLeaves
import Derived.RangeFuncFrom
import Derived.TacticsIn
import Derived.Lib.Hide
import Derived.IntWalk
import Derived.LoopTactic
import Derived.Deep.DeepCutAuto
import Derived.OrdersIn
namespace Go.Proofs.YtlbfohpkngmaoaaDoor.Ch
open Go Go.RowKit
def Hands (F : Fence) (n : Nat) (P : Program) (g : Nat) (lb : Array Value) (enc : Nat → Value) (Kp : World → World → Prop) (N : Nat) (w : World) : Prop :=
 ∀ (l : Nat) (J : Nat → World → Prop) (Jx : World → Prop) (W : World), Below w.heap.size w W → AbidesFrom W.heap.size J → AbidesFrom W.heap.size (fun (_ : Unit) W => Jx W) → (∀ k W1, J k W1 → k < N) →
  (∀ k W1, J k W1 → YieldAt F (n - 1) P l #[enc k] W1 fun e W' => (e = .returned (.bool true) ∧ J (k + 1) W' ∧ Kp W1 W') ∨ (e = .returned (.bool false) ∧ Jx W')) →
  J 0 W → CallsIn F n P g (#[.func (.yield l) #[] #[]] ++ lb) W fun e W' => (∃ v, e = .returned v) ∧ Jx W'
def onOrOut (Kp : World → World → Prop) (I : Nat → World → Prop) (O : World → Prop) (out : Nat) (k : Nat) (W : World) : Exit → Act → World → Prop
 | .normal, _, W' => KeepsOthers W W' ∧ Kp W W' ∧ I k W'
 | .exit id, _, W' => id = out ∧ KeepsOthers W W' ∧ O W'
 | _, _, _ => False
variable {F : Fence} {n : Nat} {P : Program}
theorem range_handsH {g : Operand} {p : Tmp} {assign body : Code} {Q : Exit → Act → World → Prop} {a : Act} {w : World}
  (hro : F.round = none) (h1 : 1 ≤ n) {gf : Nat} {lb : Array Value} (hg : a.eval g = .func (.func gf) #[] lb) (hFg : F.fn gf) (eg : ∀ args w, (callFunc gf args).run P w = .ok (.enter gf args) w)
  {enc : Nat → Value} {Kp : World → World → Prop} {N out : Nat} {w0 : World} (hseq : Hands F (n - 1) P gf lb enc Kp N w0) (hKt : ∀ {A B C : World}, Kp A B → Kp B C → Kp A C) (hKb : ∀ (W : World) (l : Nat) (o o' : Obj), w.heap.size ≤ l → W.heap[l]? = some o → o.isCells = false → Kp W (W.putObj l o')) (hb0 : Below w0.heap.size w0 w)
  (I : Nat → World → Prop) (O : World → Prop) (hI : OwnFrom w.heap.size I) (hO : OwnFrom w.heap.size (fun (_ : Unit) W => O W)) (hIN : ∀ k W, I k W → k < N) (h0 : I 0 w) (Ax : Nat × Act → World → Prop) (hAx : OwnFrom w.heap.size Ax)
  (hassign : ∀ (l k : Nat) (W : World) (K : Act → World → Prop), I k W → (∀ a' W1, KeepsOthers W W1 → Kp W W1 → Ax (k, a') W1 → K a' W1) →
   assign.wpIn (F.inRound l) (n - 1 - 1) P (Exit.then K (fun _ _ _ => False)) { tmps := ((#[p] : Array Tmp).zip #[enc k]).foldl (fun t (p, v) => t.setIfInBounds p v) a.tmps, defers := [] } W)
  (hbody : ∀ (l k : Nat) (a' : Act) (W : World), Ax (k, a') W → body.wpIn (F.inRound l) (n - 1 - 1) P (onOrOut Kp I O out (k + 1) W) a' W)
  (hstop : ∀ (D : Nat) (W : World), w.heap.size ≤ D → O W → W.heap[D]? = some (.deferred (some [])) → (Code.exit out).wpIn F n P Q { a with defers := { target := .collected D, args := #[] } :: a.defers } W) :
  (Code.rangeFunc g #[p] assign body).wpIn F n P Q a w := by
 refine wpIn_rangeFunc fun fn hfn => ?_
 rw [hro]
 -- the loop's record and the block for the rounds' deferred calls
 obtain ⟨D, hD⟩ : ∃ D, w.heap.size = D := ⟨_, rfl⟩
 obtain ⟨L, hL⟩ : ∃ L : LoopState → Option Code → Loop, L = fun st pe => { state := st, pending := pe, fn, tmps := a.tmps, params := #[p], assign, body, defers := D } := ⟨_, rfl⟩
 obtain ⟨V, hV⟩ : ∃ V, (w.alloc (.deferred (some []))).alloc (.loop (L .ready none)) = V := ⟨_, rfl⟩
 have inL : V.heap[D + 1]? = some (.loop (L .ready none)) := by
  have q := World.alloc_heap_new (w.alloc (.deferred (some []))) (.loop (L .ready none))
  rw [World.size_alloc, hD, hV] at q
  exact q
 have inD : V.heap[D]? = some (.deferred (some [])) := by
  rw [← hV, ← hD]
  exact (Below.heap_alloc _ _ _ (by simp)).trans (World.alloc_heap_new w _)
 have bV : Below w0.heap.size w0 V := by
  rw [← hV]
  exact hb0.trans ((((Below.refl _ w).alloc (Nat.le_refl _) _).alloc (by simp) _).mono hb0.size)
 have iV : I 0 V := by rw [← hV]; exact hI.alloc _ (hI.alloc _ h0)
 refine ⟨D + 1, [{ target := .collected D, args := #[] }], V, { target := .fn (.func gf) lb, args := #[.func (.yield (D + 1)) #[] #[]] }, V, gf, #[.func (.yield (D + 1)) #[] #[]] ++ lb, V, ?_, ?_, ?_, ?_, fun _ => h1, ?_⟩
 ·rw [← hV, hL, ← hD]; exact run_enterLoop_outer _ _ _ _ _
 ·simp only [resolve, hg]
  simp [go_sem]
 ·intro f' e
  simp [Target.leads] at e
  exact e ▸ hFg
 ·simp [invoke, go_sem, eg]
 have noWalk : ∀ {A : World} {row : Option Nat}, (∀ r, row = some r → V.heap.size ≤ r ∧ ∃ o : Obj, A.heap[r]? = some o ∧ o.isWalk = true) → (∀ r, row = some r → ∃ o : Obj, A.heap[r]? = some o ∧ o.isCells = false) := by
  intro A row h r e
  obtain ⟨_, o, ho, hw⟩ := h r e
  exact ⟨o, ho, Obj.not_cells_of_walk hw⟩
 have sV : w.heap.size ≤ V.heap.size := by rw [← hV]; simp; omega
 have fromV : ∀ {A : World} {row : Option Nat}, (∀ r, row = some r → V.heap.size ≤ r ∧ ∃ o : Obj, A.heap[r]? = some o ∧ o.isWalk = true) → (∀ r, row = some r → w.heap.size ≤ r ∧ ∃ o : Obj, A.heap[r]? = some o ∧ o.isCells = false) := by
  intro A row h r e
  obtain ⟨h1, o, ho, hw⟩ := h r e
  exact ⟨by omega, o, ho, Obj.not_cells_of_walk hw⟩
 refine (hseq (D + 1) (fun k W => I k W ∧ W.heap[D + 1]? = some (.loop (L .ready none)) ∧ W.heap[D]? = some (.deferred (some [])))
  (fun W => O W ∧ W.heap[D + 1]? = some (.loop (L .done (some (.exit out)))) ∧ W.heap[D]? = some (.deferred (some []))) V bV
  (fun k A B row h hg' hr => ⟨hI k A B row h.1 hg' (fromV hr), (grownBy_keeps hg' (fun r e => (hr r e).2) h.2.1 rfl).trans h.2.1, (grownBy_keeps hg' (fun r e => (hr r e).2) h.2.2 rfl).trans h.2.2⟩)
  (fun k A B row h hg' hr => ⟨hO k A B row h.1 hg' (fromV hr), (grownBy_keeps hg' (fun r e => (hr r e).2) h.2.1 rfl).trans h.2.1, (grownBy_keeps hg' (fun r e => (hr r e).2) h.2.2 rfl).trans h.2.2⟩)
  (fun k W h => hIN k W h.1) ?_ ⟨iV, inL, inD⟩).mono ?_
 ·-- a round
  rintro k W ⟨hi, hl, hk⟩
  have lt := (Array.getElem?_eq_some_iff.1 hl).1
  have hy := run_yield (P := P) (args := #[enc k]) hl (by rw [hL]; rfl)
  rw [hL] at hy
  refine ⟨fn, _, assign, body, hy, roundIn_of_wpIn hfn (hassign _ k W _ hi (fun a' W1 kw bw hax => ⟨_, run_beginRound (kw.same _ _ hl rfl) (by rw [hL]), ?_⟩))⟩
  have hl1 : W1.heap[D + 1]? = some (.loop (L .ready none)) := kw.same _ _ hl rfl
  have hk1 : W1.heap[D]? = some (.deferred (some [])) := kw.same _ _ hk rfl
  have lt1 := (Array.getElem?_eq_some_iff.1 hl1).1
  obtain ⟨U, hU⟩ : ∃ U, W1.putObj (D + 1) (.loop { L .ready none with state := .busy }) = U := ⟨_, rfl⟩
  have uL : U.heap[D + 1]? = some (.loop { L .ready none with state := .busy }) := by rw [← hU]; exact World.putObj_heap_same lt1
  have uD : U.heap[D]? = some (.deferred (some [])) := by rw [← hU]; exact (World.putObj_heap_other (by omega)).trans hk1
  have uB : Kp W U := by rw [← hU]; exact hKt bw (hKb W1 _ _ _ (by omega) hl1 rfl)
  have uI : Ax (k, a') U := by rw [← hU]; exact hAx.putObj _ hax (by omega) hl1 rfl
  rw [hU]
  have fin : ∀ (jump : Option Code) (X : World), KeepsOthers U X →
    (Instr.endRound (D + 1) jump).run P X = .ok (.bool jump.isNone) (X.putObj (D + 1) (.loop (L (if jump.isNone then .ready else .done) jump))) ∧ X.heap[D + 1]? = some (.loop { L .ready none with state := .busy }) ∧
    (X.putObj (D + 1) (.loop (L (if jump.isNone then .ready else .done) jump))).heap[D + 1]? = some (.loop (L (if jump.isNone then .ready else .done) jump)) ∧ (X.putObj (D + 1) (.loop (L (if jump.isNone then .ready else .done) jump))).heap[D]? = some (.deferred (some [])) := by
   intro jump X hX
   have xL := hX.same _ _ uL rfl
   have r := run_endRound (P := P) jump xL
   rw [hL] at r ⊢
   exact ⟨r, by rw [hL] at xL; exact xL, World.putObj_heap_same (Array.getElem?_eq_some_iff.1 xL).1, (World.putObj_heap_other (by omega)).trans (hX.same _ _ uD rfl)⟩
  refine wpIn_mono (hbody _ k a' _ uI) ?_
  intro e b X hp
  cases e with
  | normal =>
   obtain ⟨k3, b3, i3⟩ := hp
   obtain ⟨r, l3, l4, d4⟩ := fin none X k3
   exact ⟨_, _, r, .inl ⟨rfl, ⟨hI.putObj _ i3 (by omega) l3 rfl, l4, d4⟩, hKt (hKt uB b3) (hKb X _ _ _ (by omega) l3 rfl)⟩⟩
  | exit id =>
   obtain ⟨rfl, k3, o3⟩ := hp
   obtain ⟨r, l3, l4, d4⟩ := fin (some (.exit id)) X k3
   exact ⟨_, _, r, .inr ⟨rfl, hO.putObj (s := ()) _ o3 (by omega) l3 rfl, l4, d4⟩⟩
  | ret => exact hp.elim
  | goto t => exact hp.elim
  | panic c => exact hp.elim
  | outgrown => exact hp.elim
 ·-- behind it
  rintro e W2 ⟨⟨v, rfl⟩, ho, hl, hk⟩
  refine ⟨some (.exit out), _, by have r := run_endLoop (P := P) hl (by rw [hL]; simp); rw [hL] at r; exact r, ?_⟩
  exact hstop D _ (by omega) (hO.putObj (s := ()) _ ho (by omega) hl rfl) ((World.putObj_heap_other (by omega)).trans hk)
end Go.Proofs.YtlbfohpkngmaoaaDoor.Ch

namespace Go.Proofs.YtlbfohpkngmaoaaDoor.Ch
open Go Go.RowKit
section
variable {F : Fence} {n : Nat} {P : Program} {ops : Array Oper} {Q : Exit → Act → World → Prop} {a : Act} {w : World} {rest : List Oper} {o : Oper}
theorem wpI_value (hF : ∀ f, F.fn f) (hd : ∀ c, o.op ≠ .defer c) (v : Value) (w' : World) (hw : Region.wanted o (yielded ops a.tmps) = true) (hr : (execOp a.eval o).run P w = .ok (.value v) w') (h : wpListIn F n P ops Q rest (a.put o.dst v) w') : wpListIn F n P ops Q (o :: rest) a w := by
 simp only [wpListIn]
 rw [if_pos hw]
 refine ⟨fun f _ => hF f, ?_⟩
 rw [Oper.semAt_eq _ _ _ hd, hr]
 exact h
theorem wpI_pure (hF : ∀ f, F.fn f) (hd : ∀ c, o.op ≠ .defer c) (v : Value) (hw : Region.wanted o (yielded ops a.tmps) = true) (hr : (execOp a.eval o).run P w = .ok (.value v) w) (h : wpListIn F n P ops Q rest (a.put o.dst v) w) : wpListIn F n P ops Q (o :: rest) a w :=
 wpI_value hF hd v w hw hr h
theorem wpI_call (hF : ∀ f, F.fn f) (hdep : F.depth = none) (hd : ∀ c, o.op ≠ .defer c) (f : FuncId) (args : Array Value) (hw : Region.wanted o (yielded ops a.tmps) = true) (hr : (execOp a.eval o).run P w = .ok (.enter f args) w)
  (h : CallsIn F (n - 1) P f args w fun e w' => ∃ v, e = .returned v ∧ wpListIn F n P ops Q rest (a.put o.dst v) w') : wpListIn F n P ops Q (o :: rest) a w := by
 simp only [wpListIn]
 rw [if_pos hw]
 refine ⟨fun f _ => hF f, ?_⟩
 rw [Oper.semAt_eq _ _ _ hd, hr]
 refine ⟨fun e => by simp [hdep] at e, h.mono fun e w' ⟨v, he, hq⟩ => ?_⟩
 subst he
 exact hq
theorem wpI_yield (hF : ∀ f, F.fn f) (hdep : F.depth = none) (hd : ∀ c, o.op ≠ .defer c) (l : Nat) (args : Array Value) {R : Ending → World → Prop} (hw : Region.wanted o (yielded ops a.tmps) = true) (hr : (execOp a.eval o).run P w = (Instr.yield l args).run P w)
  (hy : YieldAt F (n - 1) P l args w R) (h : ∀ e w', R e w' → ∃ v, e = .returned v ∧ wpListIn F n P ops Q rest (a.put o.dst v) w') : wpListIn F n P ops Q (o :: rest) a w := by
 obtain ⟨fn, tmps, assign, body, h1, h2⟩ := hy
 simp only [wpListIn]
 rw [if_pos hw]
 refine ⟨fun f _ => hF f, ?_⟩
 rw [Oper.semAt_eq _ _ _ hd, hr, h1]
 refine ⟨fun e => by simp [hdep] at e, h2.mono fun e w' hR => ?_⟩
 obtain ⟨v, he, hq⟩ := h e w' hR
 subst he
 exact hq
end
theorem wide_fn (f : FuncId) : Fence.wide.fn f := trivial
end Go.Proofs.YtlbfohpkngmaoaaDoor.Ch

namespace Go.Proofs.YtlbfohpkngmaoaaDoor.Ch.B
open Go Go.RowKit
theorem bcell {w : World} {g t : Nat} {cs : Array Value} (h : w.heap[g]? = some (.cells cs t (0, 0))) (j : Nat) : w.cell? ⟨g, j, none⟩ = cs[j]? := cell_of_row w _ _ _ _ _ h
def K3 (p5 p3 p4 : Nat) (a b : World) : Prop := a.heap.size ≤ b.heap.size ∧ b.heap[p5]? = a.heap[p5]? ∧ b.heap[p3]? = a.heap[p3]? ∧ b.heap[p4]? = a.heap[p4]?
theorem K3.trans {p5 p3 p4 : Nat} {a b c : World} (h : K3 p5 p3 p4 a b) (k : K3 p5 p3 p4 b c) : K3 p5 p3 p4 a c := ⟨Nat.le_trans h.1 k.1, k.2.1.trans h.2.1, k.2.2.1.trans h.2.2.1, k.2.2.2.trans h.2.2.2⟩
theorem K3.of {p5 p3 p4 B : Nat} {a b : World} (h : Below B a b) (h5 : p5 < B) (h3 : p3 < B) (h4 : p4 < B) : K3 p5 p3 p4 a b := ⟨h.size, h.block _ h5, h.block _ h3, h.block _ h4⟩
theorem K3.setCell {p5 p3 p4 g o : Nat} {v : Value} (W : World) (h5 : p5 ≠ g) (h3 : p3 ≠ g) (h4 : p4 ≠ g) : K3 p5 p3 p4 W (W.setCell ⟨g, o, none⟩ v) :=
 ⟨Nat.le_of_eq (by simp), heap_setCell_other _ _ _ _ h5, heap_setCell_other _ _ _ _ h3, heap_setCell_other _ _ _ _ h4⟩
theorem K3.putObj {p5 p3 p4 L : Nat} (h5 : p5 < L) (h3 : p3 < L) (h4 : p4 < L) (W : World) (l : Nat) (o o' : Obj) (hl : L ≤ l) (_ : W.heap[l]? = some o) (_ : o.isCells = false) : K3 p5 p3 p4 W (W.putObj l o') :=
 ⟨by simp [World.putObj], World.putObj_heap_other (by omega), World.putObj_heap_other (by omega), World.putObj_heap_other (by omega)⟩
theorem gb_ofC {a b : World} (h : Below a.heap.size a b) (r : Option Nat) : a.grownBy b r := ⟨h.os, h.tape, h.output, h.size, fun k hk _ => h.block k hk⟩
theorem blk_rangeC {w : World} {g t : Nat} {l : List Value} (h : Blk w g t l.toArray) : w.rangeAt g 0 l := by
 intro j v hj
 rw [bcell h, Nat.zero_add, List.getElem?_toArray, hj]
attribute [local irreducible] wpList
set_option maxHeartbeats 4000000 in
set_option maxRecDepth 100000 in
theorem blocks_hands (KV NV : List Value) (c : Nat) (hc : c < 4294967296) (enc : Nat → Value) (hKL : KV.length = 32 ∧ NV.length = 12)
  (hB : ∀ k W, Calls Tryd.prog 17 #[.agg KV.toArray, .agg NV.toArray, .int .u32 (((c + k) % 4294967296 : Nat) : Int)] W fun e w' => e = .returned (enc k) ∧ Below W.heap.size W w')
  (g5 g3 g4 N : Nat) (w : World) (hN : N ≤ 1000000) (b5 : Blk w g5 38 #[.int .u32 (c : Int)]) (b3 : Blk w g3 23 KV.toArray) (b4 : Blk w g4 27 NV.toArray) :
  Hands Fence.wide 3 Tryd.prog 31 #[.pointer (some ⟨g5, 0, none⟩), .pointer (some ⟨g3, 0, none⟩), .pointer (some ⟨g4, 0, none⟩)] enc (K3 g5 g3 g4) N w := by
 intro l J Jx W hW hJ hJx hJN hY h0
 refine callsIn_wide.2 ?_
 show Calls Tryd.prog 31 #[.func (.yield l) #[] #[], .pointer (some ⟨g5, 0, none⟩), .pointer (some ⟨g3, 0, none⟩), .pointer (some ⟨g4, 0, none⟩)] W fun e W' => (∃ v, e = .returned v) ∧ Jx W'
 have HC := Lib.hid hc
 have HKL := Lib.hid hKL
 have HB := Lib.hid hB
 have HN1 := Lib.hid hN
 have HG2 : Hid (∀ X, K3 g5 g3 g4 w X → Blk X g5 38 #[.int .u32 (c : Int)] ∧ Blk X g3 23 KV.toArray ∧ Blk X g4 27 NV.toArray) := Lib.hid (fun X hX => ⟨hX.2.1.trans b5, hX.2.2.1.trans b3, hX.2.2.2.trans b4⟩)
 have KW : Hid (K3 g5 g3 g4 w W) := Lib.hid (K3.of hW b5.lt b3.lt b4.lt)
 have HGL : Hid (g5 < w.heap.size ∧ g3 < w.heap.size ∧ g4 < w.heap.size) := Lib.hid ⟨b5.lt, b3.lt, b4.lt⟩
 have HW := Lib.hid hW
 have HJ := Lib.hid hJ
 have HJN := Lib.hid hJN
 have HY := Lib.hid hY
 have H0 := Lib.hid h0
 clear hc hKL hB hN b5 b3 b4 hW hJ hJx hJN hY h0
 go_enter Tryd.func31, Tryd.ntmps31
 go_upto_region 0 with (fail)
 refine wp_region_lit ?_
 refine zQ (.int .u32 (c : Int)) (run_load_one _ _ _ 38 _ _ rfl (g5) (0) rfl (by rw [bcell (HG2.out W KW.out).1]; rfl) (by kernel_rfl)) ?_
 refine zP (.int .u32 (c : Int)) ?_
 go_wp2_with fail
 go_loopw [5] (fun s5 wr => ∃ k : Nat, s5 = .int .u32 (((c + k) % 4294967296 : Nat) : Int) ∧ Hid (J k wr ∧ K3 g5 g3 g4 w wr ∧ W.heap.size ≤ wr.heap.size)) (fun s5 _ => N - ((intOf s5 - c) % 4294967296).toNat)
 case atStart => exact ⟨0, by rw [Nat.add_zero, Nat.mod_eq_of_lt HC.out], Lib.hid ⟨H0.out, KW.out, Nat.le_refl _⟩⟩
 case round =>
  obtain ⟨k, rfl, RI⟩ := hrel
  have KN := Lib.hid (HJN.out k wr RI.out.1)
  go_upto_region 1 with (fail)
  refine (wpIn_wide (n := 3)).1 (wpIn_region_lit ?_)
  refine wpI_pure wide_fn (fun _ h => by cases h) (.func (.yield l) #[] #[]) rfl (by kernel_rfl) ?_
  simp only [Act.put, List.setIfInBounds_toArray, List.set_cons_zero, List.set_cons_succ]
  refine wpI_pure wide_fn (fun _ h => by cases h) (.agg KV.toArray) rfl (run_load_mid _ _ _ 23 _ rfl g3 0 rfl KV _ (blk_rangeC (HG2.out wr RI.out.2.1).2.1) Tryd.underlying23 rfl (by rw [HKL.out.1]; kernel_rfl)) ?_
  simp only [Act.put, List.setIfInBounds_toArray, List.set_cons_zero, List.set_cons_succ]
  refine wpI_pure wide_fn (fun _ h => by cases h) (.agg NV.toArray) rfl (run_load_mid _ _ _ 27 _ rfl g4 0 rfl NV _ (blk_rangeC (HG2.out wr RI.out.2.1).2.2) Tryd.underlying27 rfl (by rw [HKL.out.2]; kernel_rfl)) ?_
  simp only [Act.put, List.setIfInBounds_toArray, List.set_cons_zero, List.set_cons_succ]
  refine wpI_pure wide_fn (fun _ h => by cases h) (.int .u32 (((c + k) % 4294967296 : Nat) : Int)) rfl (by kernel_rfl) ?_
  simp only [Act.put, List.setIfInBounds_toArray, List.set_cons_zero, List.set_cons_succ]
  refine wpI_call wide_fn rfl (fun _ h => by cases h) 17 #[.agg KV.toArray, .agg NV.toArray, .int .u32 (((c + k) % 4294967296 : Nat) : Int)] rfl (by kernel_rfl) (callsIn_wide.2 ((HB.out k wr).mono fun e w2 ⟨he, hb⟩ => ⟨enc k, he, ?_⟩))
  simp only [Act.put, List.setIfInBounds_toArray, List.set_cons_zero, List.set_cons_succ]
  have J2 : Hid (J k w2 ∧ K3 g5 g3 g4 w w2 ∧ W.heap.size ≤ w2.heap.size) := Lib.hid ⟨HJ.out k wr w2 none RI.out.1 (gb_ofC hb none) (fun r e => by cases e), RI.out.2.1.trans (K3.of hb (Nat.lt_of_lt_of_le HGL.out.1 RI.out.2.1.1) (Nat.lt_of_lt_of_le HGL.out.2.1 RI.out.2.1.1) (Nat.lt_of_lt_of_le HGL.out.2.2 RI.out.2.1.1)), Nat.le_trans RI.out.2.2 hb.size⟩
  clear hb
  refine wpI_yield wide_fn rfl (fun _ h => by cases h) l #[enc k] rfl (by kernel_rfl) (HY.out k w2 J2.out.1) ?_
  rintro e X (⟨rfl, jx, bx⟩ | ⟨rfl, jx⟩)
  ·refine ⟨_, rfl, ?_⟩
   simp only [Act.put, List.setIfInBounds_toArray, List.set_cons_zero, List.set_cons_succ]
   have X1 : Hid (J (k + 1) X ∧ K3 g5 g3 g4 w X ∧ W.heap.size ≤ X.heap.size) := Lib.hid ⟨jx, J2.out.2.1.trans bx, Nat.le_trans J2.out.2.2 bx.1⟩
   clear jx bx
   refine wpListIn_nil ?_
   go_upto_region 2 with (fail)
   refine wp_region_lit ?_
   refine zP (.int .u32 (((c + k) % 4294967296 : Nat) : Int)) ?_
   refine zQ (.int .u32 (((c + (k + 1)) % 4294967296 : Nat) : Int)) (run_addi Tryd.underlying38 rfl rfl rfl _ (by rw [IntKind.wrap_u32]; omega)) ?_
   refine zP (.int .u32 (((c + (k + 1)) % 4294967296 : Nat) : Int)) ?_
   unfold wpList
   go_roundw
   case rel => first | exact ⟨k + 1, rfl, X1⟩ | ((repeat apply Exists.intro); exact ⟨⟨k + 1, rfl, X1⟩, rfl⟩)
   case measure => simp [intOf]; have := KN.out; have := HN1.out; omega
  ·refine ⟨_, rfl, ?_⟩
   simp only [Act.put, List.setIfInBounds_toArray, List.set_cons_zero, List.set_cons_succ]
   refine wpListIn_nil ?_
   go_wp2_with fail
   go_end0
   exact ⟨⟨_, rfl⟩, jx⟩
end Go.Proofs.YtlbfohpkngmaoaaDoor.Ch.B

namespace Go.Proofs.YtlbfohpkngmaoaaDoor.Ch
open Go Go.RowKit
section
variable {n l : Nat} {P : Program} {ops : Array Oper} {Q : Exit → Act → World → Prop} {a : Act} {w : World} {o : Oper} {K : Act → World → Prop}
theorem rowsIn_of {row : String} {args : Array Value} {R : Value → World → Prop} (h : Rows P row args w R) : RowsIn (Fence.wide.inRound l) n P row args w R :=
 fun c cs _ => let ⟨v, w', r, s⟩ := h c cs; ⟨v, w', r, stepsIn_wide.2 s⟩
theorem oper_round (hd : ∀ c, o.op ≠ .defer c) (h : o.wp P a w K Q) : o.wpIn (Fence.wide.inRound l) n P a w K Q := by
 refine ⟨fun f _ => trivial, ?_⟩
 unfold Oper.wp at h
 have e : Oper.semAt (Fence.wide.inRound l).round a.eval o = execOp a.eval o := Oper.semAt_some l _ _ hd
 rw [e]
 generalize (execOp a.eval o).run P w = r at *
 cases r with
 | ok x w' =>
  cases x <;> simp only [Oper.upon, Oper.uponIn] at h ⊢ <;>
   first
    | exact h
    | exact ⟨fun e => by simp [Fence.wide] at e, CallsIn.inRound l (CallsIn.mono (callsIn_wide.2 h) (fun e w2 he => by cases e <;> exact he))⟩
    | exact ⟨fun e => by simp [Fence.wide] at e, rowsIn_of h⟩
    | exact h.elim
 | halt x w' => cases x <;> simp only [Oper.upon, Oper.uponIn] at h ⊢ <;> exact h
theorem ops_round (hd : ∀ (i : Nat) (o : Oper), ops[i]? = some o → ∀ c, o.op ≠ .defer c) (hQ : ¬ LetsOut Q) : ∀ (L : List Nat) (a : Act) (w : World), wpOps P ops Q L a w → wpOpsIn (Fence.wide.inRound l) n P ops Q L a w
 | [], _, _, h => h
 | i :: rest, a, w, h => by
  simp only [wpOps] at h
  simp only [wpOpsIn]
  cases ho : ops[i]? with
  | none => simp only [ho] at h ⊢; exact ops_round hd hQ rest a w h
  | some o =>
   simp only [ho] at h ⊢
   split at h
   ·rename_i hw
    rw [if_pos hw]
    rcases h with h | ⟨_, h⟩
    ·exact Oper.wpIn_mono (fun a w => ops_round hd hQ rest a w) (oper_round (hd i o ho) h)
    ·exact (hQ h).elim
   ·rename_i hw
    rw [if_neg hw]
    exact ⟨fun f _ => trivial, ops_round hd hQ rest _ w h⟩
def isDefer : Op → Bool
 | .defer _ => true
 | _ => false
def noDefer (l : List Oper) : Bool := l.all fun o => !isDefer o.op
theorem noDefer_spec {l : List Oper} (h : noDefer l = true) (i : Nat) (o : Oper) (ho : l.toArray[i]? = some o) (c : Call) : o.op ≠ .defer c := by
 intro e
 have hm : o ∈ l := List.mem_of_getElem? (by simpa using ho)
 have := List.all_eq_true.1 h o hm
 rw [e] at this
 simp [isDefer] at this
def thenN (Q : Exit → Act → World → Prop) : Exit → Act → World → Prop
 | .normal, a, w => Q .normal a w
 | _, _, _ => False
theorem thenN_out : ¬ LetsOut (thenN Q) := by rintro ⟨a, w, h⟩; exact h
theorem region_round {id : Nat} {L : List Oper} (hn : noDefer L = true) (h : wpList P L.toArray (thenN Q) L a w) : (Code.region id L.toArray false).wpIn (Fence.wide.inRound l) n P Q a w := by
 refine wpIn_mono (Q := thenN Q) (wpIn_region (ops_round (noDefer_spec hn) thenN_out _ a w ?_)) (fun e a w h => by cases e <;> first | exact h | exact h.elim)
 rw [List.range_eq_range', show L.toArray.size = L.length by simp, wpOps_eq_wpList L 0 (by simp)]
 exact h
theorem region_round_any {id : Nat} {L : List Oper} (hm : P.follows .mixedOrders = true) (hn : noDefer L = true) (h : wpAny P .any L.toArray (thenN Q) L.toArray.size (Array.replicate L.toArray.size false) a { w with drawn := w.drawn + 1 }) :
  (Code.region id L.toArray true).wpIn (Fence.wide.inRound l) n P Q a w := by
 refine wpIn_mono (Q := thenN Q) (wpIn_region_draw fun t => ?_) (fun e a w h => by cases e <;> first | exact h | exact h.elim)
 simp only [Region.schedule, hm, Bool.true_or, if_true]
 exact ops_round (noDefer_spec hn) thenN_out _ a _ (wpAny_sound L.toArray.size t _ a _ h)
end
end Go.Proofs.YtlbfohpkngmaoaaDoor.Ch

