import Derived.Test.YtlbfohpkngmaoaaChR2
import Derived.RangeFuncCalls
import Derived.OrdersIn
namespace Go.Proofs.Ytlbfohpkngmaoaa.Ch
open Go Go.RowKit
section
variable {n l : Nat} {P : Program} {ops : Array Oper} {Q : Exit → Act → World → Prop} {a : Act} {w : World} {o : Oper} {K : Act → World → Prop}
theorem rowsIn_of {row : String} {args : Array Value} {R : Value → World → Prop} (h : Rows P row args w R) : RowsIn (Fence.wide.inRound l) n P row args w R :=
 fun c cs _ => let ⟨v, w', r, s⟩ := h c cs; ⟨v, w', r, stepsIn_wide.2 s⟩
theorem oper_round (hd : ∀ c, o.op ≠ .defer c) (h : o.wp P a w K Q) : o.wpIn (Fence.wide.inRound l) n P a w K Q := by
 refine ⟨fun f _ => trivial, ?_⟩
 unfold Oper.wp at h
 have e : Oper.semAt (Fence.wide.inRound l).round a.eval o = execOp a.eval o := Oper.semAt_some l _ _ hd
 rw [e]
 generalize (execOp a.eval o).run P w = r at *
 cases r with
 | ok x w' =>
  cases x <;> simp only [Oper.upon, Oper.uponIn] at h ⊢ <;>
   first
    | exact h
    | exact ⟨fun e => by simp [Fence.wide] at e, CallsIn.inRound l (CallsIn.mono (callsIn_wide.2 h) (fun e w2 he => by cases e <;> exact he))⟩
    | exact ⟨fun e => by simp [Fence.wide] at e, rowsIn_of h⟩
    | exact h.elim
 | halt x w' => cases x <;> simp only [Oper.upon, Oper.uponIn] at h ⊢ <;> exact h
theorem ops_round (hd : ∀ (i : Nat) (o : Oper), ops[i]? = some o → ∀ c, o.op ≠ .defer c) (hQ : ¬ LetsOut Q) : ∀ (L : List Nat) (a : Act) (w : World), wpOps P ops Q L a w → wpOpsIn (Fence.wide.inRound l) n P ops Q L a w
 | [], _, _, h => h
 | i :: rest, a, w, h => by
  simp only [wpOps] at h
  simp only [wpOpsIn]
  cases ho : ops[i]? with
  | none => simp only [ho] at h ⊢; exact ops_round hd hQ rest a w h
  | some o =>
   simp only [ho] at h ⊢
   split at h
   ·rename_i hw
    rw [if_pos hw]
    rcases h with h | ⟨_, h⟩
    ·exact Oper.wpIn_mono (fun a w => ops_round hd hQ rest a w) (oper_round (hd i o ho) h)
    ·exact (hQ h).elim
   ·rename_i hw
    rw [if_neg hw]
    exact ⟨fun f _ => trivial, ops_round hd hQ rest _ w h⟩
def isDefer : Op → Bool
 | .defer _ => true
 | _ => false
def noDefer (l : List Oper) : Bool := l.all fun o => !isDefer o.op
theorem noDefer_spec {l : List Oper} (h : noDefer l = true) (i : Nat) (o : Oper) (ho : l.toArray[i]? = some o) (c : Call) : o.op ≠ .defer c := by
 intro e
 have hm : o ∈ l := List.mem_of_getElem? (by simpa using ho)
 have := List.all_eq_true.1 h o hm
 rw [e] at this
 simp [isDefer] at this
def thenN (Q : Exit → Act → World → Prop) : Exit → Act → World → Prop
 | .normal, a, w => Q .normal a w
 | _, _, _ => False
theorem thenN_out : ¬ LetsOut (thenN Q) := by rintro ⟨a, w, h⟩; exact h
theorem region_round {id : Nat} {L : List Oper} (hn : noDefer L = true) (h : wpList P L.toArray (thenN Q) L a w) : (Code.region id L.toArray false).wpIn (Fence.wide.inRound l) n P Q a w := by
 refine wpIn_mono (Q := thenN Q) (wpIn_region (ops_round (noDefer_spec hn) thenN_out _ a w ?_)) (fun e a w h => by cases e <;> first | exact h | exact h.elim)
 rw [List.range_eq_range', show L.toArray.size = L.length by simp, wpOps_eq_wpList L 0 (by simp)]
 exact h
theorem region_round_any {id : Nat} {L : List Oper} (hm : P.follows .mixedOrders = true) (hn : noDefer L = true) (h : wpAny P .any L.toArray (thenN Q) L.toArray.size (Array.replicate L.toArray.size false) a { w with drawn := w.drawn + 1 }) :
  (Code.region id L.toArray true).wpIn (Fence.wide.inRound l) n P Q a w := by
 refine wpIn_mono (Q := thenN Q) (wpIn_region_draw fun t => ?_) (fun e a w h => by cases e <;> first | exact h | exact h.elim)
 simp only [Region.schedule, hm, Bool.true_or, if_true]
 exact ops_round (noDefer_spec hn) thenN_out _ a _ (wpAny_sound L.toArray.size t _ a _ h)
end
end Go.Proofs.Ytlbfohpkngmaoaa.Ch
