import Derived.Test.YtlbfohpkngmaoaaChB
import Derived.WalkKit
import Derived.RangeFuncNested
import Derived.RangeFuncBound
import Derived.RangeFuncCalls
import Derived.RangeFuncLeaves
import Derived.RangeFuncFrom
namespace Go.Proofs.Ytlbfohpkngmaoaa.Ch
open Go Go.RowKit
def Hands (F : Fence) (n : Nat) (P : Program) (g : Nat) (lb : Array Value) (enc : Nat → Value) (Kp : World → World → Prop) (N : Nat) (w : World) : Prop :=
 ∀ (l : Nat) (J : Nat → World → Prop) (Jx : World → Prop) (W : World), Below w.heap.size w W → AbidesFrom W.heap.size J → AbidesFrom W.heap.size (fun (_ : Unit) W => Jx W) → (∀ k W1, J k W1 → k < N) →
  (∀ k W1, J k W1 → YieldAt F (n - 1) P l #[enc k] W1 fun e W' => (e = .returned (.bool true) ∧ J (k + 1) W' ∧ Kp W1 W') ∨ (e = .returned (.bool false) ∧ Jx W')) →
  J 0 W → CallsIn F n P g (#[.func (.yield l) #[] #[]] ++ lb) W fun e W' => (∃ v, e = .returned v) ∧ Jx W'
def onOrOut (Kp : World → World → Prop) (I : Nat → World → Prop) (O : World → Prop) (out : Nat) (k : Nat) (W : World) : Exit → Act → World → Prop
 | .normal, _, W' => KeepsOthers W W' ∧ Kp W W' ∧ I k W'
 | .exit id, _, W' => id = out ∧ KeepsOthers W W' ∧ O W'
 | _, _, _ => False
variable {F : Fence} {n : Nat} {P : Program}
theorem range_handsH {g : Operand} {p : Tmp} {assign body : Code} {Q : Exit → Act → World → Prop} {a : Act} {w : World}
  (hro : F.round = none) (h1 : 1 ≤ n) {gf : Nat} {lb : Array Value} (hg : a.eval g = .func (.func gf) #[] lb) (hFg : F.fn gf) (eg : ∀ args w, (callFunc gf args).run P w = .ok (.enter gf args) w)
  {enc : Nat → Value} {Kp : World → World → Prop} {N out : Nat} {w0 : World} (hseq : Hands F (n - 1) P gf lb enc Kp N w0) (hKt : ∀ {A B C : World}, Kp A B → Kp B C → Kp A C) (hKb : ∀ (W : World) (l : Nat) (o o' : Obj), w.heap.size ≤ l → W.heap[l]? = some o → o.isCells = false → Kp W (W.putObj l o')) (hb0 : Below w0.heap.size w0 w)
  (I : Nat → World → Prop) (O : World → Prop) (hI : OwnFrom w.heap.size I) (hO : OwnFrom w.heap.size (fun (_ : Unit) W => O W)) (hIN : ∀ k W, I k W → k < N) (h0 : I 0 w) (Ax : Nat × Act → World → Prop) (hAx : OwnFrom w.heap.size Ax)
  (hassign : ∀ (l k : Nat) (W : World) (K : Act → World → Prop), I k W → (∀ a' W1, KeepsOthers W W1 → Kp W W1 → Ax (k, a') W1 → K a' W1) →
   assign.wpIn (F.inRound l) (n - 1 - 1) P (Exit.then K (fun _ _ _ => False)) { tmps := ((#[p] : Array Tmp).zip #[enc k]).foldl (fun t (p, v) => t.setIfInBounds p v) a.tmps, defers := [] } W)
  (hbody : ∀ (l k : Nat) (a' : Act) (W : World), Ax (k, a') W → body.wpIn (F.inRound l) (n - 1 - 1) P (onOrOut Kp I O out (k + 1) W) a' W)
  (hstop : ∀ (D : Nat) (W : World), w.heap.size ≤ D → O W → W.heap[D]? = some (.deferred (some [])) → (Code.exit out).wpIn F n P Q { a with defers := { target := .collected D, args := #[] } :: a.defers } W) :
  (Code.rangeFunc g #[p] assign body).wpIn F n P Q a w := by
 refine wpIn_rangeFunc fun fn hfn => ?_
 rw [hro]
 -- the loop's record and the block for the rounds' deferred calls
 obtain ⟨D, hD⟩ : ∃ D, w.heap.size = D := ⟨_, rfl⟩
 obtain ⟨L, hL⟩ : ∃ L : LoopState → Option Code → Loop, L = fun st pe => { state := st, pending := pe, fn, tmps := a.tmps, params := #[p], assign, body, defers := D } := ⟨_, rfl⟩
 obtain ⟨V, hV⟩ : ∃ V, (w.alloc (.deferred (some []))).alloc (.loop (L .ready none)) = V := ⟨_, rfl⟩
 have inL : V.heap[D + 1]? = some (.loop (L .ready none)) := by
  have q := World.alloc_heap_new (w.alloc (.deferred (some []))) (.loop (L .ready none))
  rw [World.size_alloc, hD, hV] at q
  exact q
 have inD : V.heap[D]? = some (.deferred (some [])) := by
  rw [← hV, ← hD]
  exact (Below.heap_alloc _ _ _ (by simp)).trans (World.alloc_heap_new w _)
 have bV : Below w0.heap.size w0 V := by
  rw [← hV]
  exact hb0.trans ((((Below.refl _ w).alloc (Nat.le_refl _) _).alloc (by simp) _).mono hb0.size)
 have iV : I 0 V := by rw [← hV]; exact hI.alloc _ (hI.alloc _ h0)
 refine ⟨D + 1, [{ target := .collected D, args := #[] }], V, { target := .fn (.func gf) lb, args := #[.func (.yield (D + 1)) #[] #[]] }, V, gf, #[.func (.yield (D + 1)) #[] #[]] ++ lb, V, ?_, ?_, ?_, ?_, fun _ => h1, ?_⟩
 ·rw [← hV, hL, ← hD]; exact run_enterLoop_outer _ _ _ _ _
 ·simp only [resolve, hg]
  simp [go_sem]
 ·intro f' e
  simp [Target.leads] at e
  exact e ▸ hFg
 ·simp [invoke, go_sem, eg]
 have noWalk : ∀ {A : World} {row : Option Nat}, (∀ r, row = some r → V.heap.size ≤ r ∧ ∃ o : Obj, A.heap[r]? = some o ∧ o.isWalk = true) → (∀ r, row = some r → ∃ o : Obj, A.heap[r]? = some o ∧ o.isCells = false) := by
  intro A row h r e
  obtain ⟨_, o, ho, hw⟩ := h r e
  exact ⟨o, ho, Obj.not_cells_of_walk hw⟩
 have sV : w.heap.size ≤ V.heap.size := by rw [← hV]; simp; omega
 have fromV : ∀ {A : World} {row : Option Nat}, (∀ r, row = some r → V.heap.size ≤ r ∧ ∃ o : Obj, A.heap[r]? = some o ∧ o.isWalk = true) → (∀ r, row = some r → w.heap.size ≤ r ∧ ∃ o : Obj, A.heap[r]? = some o ∧ o.isCells = false) := by
  intro A row h r e
  obtain ⟨h1, o, ho, hw⟩ := h r e
  exact ⟨by omega, o, ho, Obj.not_cells_of_walk hw⟩
 refine (hseq (D + 1) (fun k W => I k W ∧ W.heap[D + 1]? = some (.loop (L .ready none)) ∧ W.heap[D]? = some (.deferred (some [])))
  (fun W => O W ∧ W.heap[D + 1]? = some (.loop (L .done (some (.exit out)))) ∧ W.heap[D]? = some (.deferred (some []))) V bV
  (fun k A B row h hg' hr => ⟨hI k A B row h.1 hg' (fromV hr), (grownBy_keeps hg' (fun r e => (hr r e).2) h.2.1 rfl).trans h.2.1, (grownBy_keeps hg' (fun r e => (hr r e).2) h.2.2 rfl).trans h.2.2⟩)
  (fun k A B row h hg' hr => ⟨hO k A B row h.1 hg' (fromV hr), (grownBy_keeps hg' (fun r e => (hr r e).2) h.2.1 rfl).trans h.2.1, (grownBy_keeps hg' (fun r e => (hr r e).2) h.2.2 rfl).trans h.2.2⟩)
  (fun k W h => hIN k W h.1) ?_ ⟨iV, inL, inD⟩).mono ?_
 ·-- a round
  rintro k W ⟨hi, hl, hk⟩
  have lt := (Array.getElem?_eq_some_iff.1 hl).1
  have hy := run_yield (P := P) (args := #[enc k]) hl (by rw [hL]; rfl)
  rw [hL] at hy
  refine ⟨fn, _, assign, body, hy, roundIn_of_wpIn hfn (hassign _ k W _ hi (fun a' W1 kw bw hax => ⟨_, run_beginRound (kw.same _ _ hl rfl) (by rw [hL]), ?_⟩))⟩
  have hl1 : W1.heap[D + 1]? = some (.loop (L .ready none)) := kw.same _ _ hl rfl
  have hk1 : W1.heap[D]? = some (.deferred (some [])) := kw.same _ _ hk rfl
  have lt1 := (Array.getElem?_eq_some_iff.1 hl1).1
  obtain ⟨U, hU⟩ : ∃ U, W1.putObj (D + 1) (.loop { L .ready none with state := .busy }) = U := ⟨_, rfl⟩
  have uL : U.heap[D + 1]? = some (.loop { L .ready none with state := .busy }) := by rw [← hU]; exact World.putObj_heap_same lt1
  have uD : U.heap[D]? = some (.deferred (some [])) := by rw [← hU]; exact (World.putObj_heap_other (by omega)).trans hk1
  have uB : Kp W U := by rw [← hU]; exact hKt bw (hKb W1 _ _ _ (by omega) hl1 rfl)
  have uI : Ax (k, a') U := by rw [← hU]; exact hAx.putObj _ hax (by omega) hl1 rfl
  rw [hU]
  have fin : ∀ (jump : Option Code) (X : World), KeepsOthers U X →
    (Instr.endRound (D + 1) jump).run P X = .ok (.bool jump.isNone) (X.putObj (D + 1) (.loop (L (if jump.isNone then .ready else .done) jump))) ∧ X.heap[D + 1]? = some (.loop { L .ready none with state := .busy }) ∧
    (X.putObj (D + 1) (.loop (L (if jump.isNone then .ready else .done) jump))).heap[D + 1]? = some (.loop (L (if jump.isNone then .ready else .done) jump)) ∧ (X.putObj (D + 1) (.loop (L (if jump.isNone then .ready else .done) jump))).heap[D]? = some (.deferred (some [])) := by
   intro jump X hX
   have xL := hX.same _ _ uL rfl
   have r := run_endRound (P := P) jump xL
   rw [hL] at r ⊢
   exact ⟨r, by rw [hL] at xL; exact xL, World.putObj_heap_same (Array.getElem?_eq_some_iff.1 xL).1, (World.putObj_heap_other (by omega)).trans (hX.same _ _ uD rfl)⟩
  refine wpIn_mono (hbody _ k a' _ uI) ?_
  intro e b X hp
  cases e with
  | normal =>
   obtain ⟨k3, b3, i3⟩ := hp
   obtain ⟨r, l3, l4, d4⟩ := fin none X k3
   exact ⟨_, _, r, .inl ⟨rfl, ⟨hI.putObj _ i3 (by omega) l3 rfl, l4, d4⟩, hKt (hKt uB b3) (hKb X _ _ _ (by omega) l3 rfl)⟩⟩
  | exit id =>
   obtain ⟨rfl, k3, o3⟩ := hp
   obtain ⟨r, l3, l4, d4⟩ := fin (some (.exit id)) X k3
   exact ⟨_, _, r, .inr ⟨rfl, hO.putObj (s := ()) _ o3 (by omega) l3 rfl, l4, d4⟩⟩
  | ret => exact hp.elim
  | goto t => exact hp.elim
  | panic c => exact hp.elim
  | outgrown => exact hp.elim
 ·-- behind it
  rintro e W2 ⟨⟨v, rfl⟩, ho, hl, hk⟩
  refine ⟨some (.exit out), _, by have r := run_endLoop (P := P) hl (by rw [hL]; simp); rw [hL] at r; exact r, ?_⟩
  exact hstop D _ (by omega) (hO.putObj (s := ()) _ ho (by omega) hl rfl) ((World.putObj_heap_other (by omega)).trans hk)
end Go.Proofs.Ytlbfohpkngmaoaa.Ch
