/- A region that draws its order: what reads memory that its head (the operations below n) keeps is taken first, whatever else is ready; the tail (stores) comes behind all that. -/
import Derived.Test.YteabblmhcjpboaaDIdx
import Derived.Test.YteabblmhcjpboaaDOps
namespace Go.Proofs.Yteabblmhcjpboaa.D
open Go Go.RowKit
section
variable {n : Nat} {P : Program} {ops : Array Oper} {Q : Exit → Act → World → Prop} {md : Region.Mode} {S : World → Prop}
/-- The act behind an operation is the act ahead of it, but for its slot and the deferred calls. -/
theorem wpOp_actsT {j : Nat} {oj : Oper} {K : Act → World → Prop} {a : Act} {w : World} (hj : ops[j]? = some oj) (h : wpOp P ops Q j K a w) : wpOp P ops Q j (fun a' w' => K a' w' ∧ ∃ u ds, a' = ({ a with defers := ds } : Act).put oj.dst u) a w := by
  unfold wpOp at *
  simp only [hj] at *
  split
  · rename_i hw
    simp only [hw, if_true] at h
    rcases h with h | h
    · refine .inl ?_
      unfold Oper.wp at *
      generalize (execOp a.eval oj).run P w = r at *
      cases r with
      | ok n w' =>
        cases n <;> simp only [Oper.upon] at h ⊢ <;>
          first
            | exact ⟨h, _, a.defers, rfl⟩
            | exact ⟨h, _, _, rfl⟩
            | exact Calls.mono h (fun e w2 he => by cases e <;> first | exact ⟨he, _, a.defers, rfl⟩ | exact he)
            | exact Rows.mono h (fun _ _ he => ⟨he, _, a.defers, rfl⟩)
      | halt x w' => cases x <;> simp only [Oper.upon] at h ⊢ <;> exact h
    · exact .inr h
  · rename_i hw
    simp only [hw] at h
    exact ⟨h, _, a.defers, rfl⟩
/-- The same walk, all of whose worlds are such worlds. -/
def wpAnyT (n : Nat) (S : World → Prop) (P : Program) (md : Region.Mode) (ops : Array Oper) (Q : Exit → Act → World → Prop) : Nat → Array Bool → Act → World → Prop
  | 0, listed, a, w => Region.ready md ops listed = [] ∧ Q .normal a w
  | f + 1, listed, a, w => (Region.ready md ops listed = [] → Q .normal a w) ∧ ∀ i ∈ Region.ready md ops listed, wpOp P ops Q i (fun a' w' => (i < n → S w') ∧ wpAnyT n S P md ops Q f (listed.setIfInBounds i true) a' w') a w
theorem wpAnyT_out : ∀ (f : Nat) (listed : Array Bool) (a : Act) (w : World), wpAnyT n S P md ops Q f listed a w → wpAny P md ops Q f listed a w
  | 0, _, _, _, h => h
  | f + 1, _, _, _, h => ⟨h.1, fun i hi => wpOp_mono (fun a w q => wpAnyT_out f _ a w q.2) (h.2 i hi)⟩
theorem wpAnyT_more {S' : World → Prop} (hS : ∀ w, S' w → S w) : ∀ (f : Nat) (listed : Array Bool) (a : Act) (w : World), wpAnyT n S' P md ops Q f listed a w → wpAnyT n S P md ops Q f listed a w
  | 0, _, _, _, h => h
  | f + 1, _, _, _, h => ⟨h.1, fun i hi => wpOp_mono (fun a w q => ⟨fun hi => hS _ (q.1 hi), wpAnyT_more hS f _ a w q.2⟩) (h.2 i hi)⟩
/-- The operation leaves v, and the world as it is, in every such world. -/
def ReadsT (S : World → Prop) (P : Program) (ops : Array Oper) (o : Oper) (v : Value) (a : Act) : Prop :=
  (Region.wanted o (yielded ops a.tmps) = true ∧ ∀ w, S w → (execOp a.eval o).run P w = .ok (.value v) w) ∨ (Region.wanted o (yielded ops a.tmps) = false ∧ v = undef)
theorem wpAnyT_first {i : Nat} {oi : Oper} {v : Value} (hi : ops[i]? = some oi) (hsel : ∀ (j : Nat) (o : Oper) cs b, ops[j]? = some o → o.op ≠ .select cs b)
    (hQ : ∀ c a w, Q (.panic c) (a.put oi.dst v) w → Q (.panic c) a w) (hin : i < n) (hlast : ∀ (t : Nat) (o : Oper), n ≤ t → ops[t]? = some o → ∃ e ∈ o.after, Region.binds md e = true ∧ (e.on = i ∨ (n ≤ e.on ∧ e.on < ops.size))) :
    ∀ (f : Nat) (listed : Array Bool) (a : Act) (w : World),
      (∀ j oj, ops[j]? = some oj → j ≠ i → listed.getD j true = false → (∀ e ∈ oj.after, Region.binds md e = true → e.on ≠ i) → oi.apart ops oj = true) →
      (∀ t, n ≤ t → t < ops.size → listed.getD t false = false) → i ∈ Region.ready md ops listed → ReadsT S P ops oi v a → S w →
      wpAnyT n S P md ops Q f (listed.setIfInBounds i true) (a.put oi.dst v) w → wpAnyT n S P md ops Q (f + 1) listed a w := by
  intro f
  induction f with
  | zero =>
    intro listed a w _ _ hr hy hS H
    refine ⟨fun h => (by rw [h] at hr; cases hr), fun j hj => ?_⟩
    by_cases hji : j = i
    · subst hji
      unfold wpOp
      simp only [hi]
      rcases hy with ⟨hw, hv⟩ | ⟨hw, rfl⟩
      · simp only [hw, if_true, Oper.wp, hv w hS, Oper.upon]; exact .inl ⟨fun _ => hS, H⟩
      · simp only [hw, Bool.false_eq_true, if_false]; exact ⟨fun _ => hS, H⟩
    · have h1 := ready_mono hj hji
      rw [H.1] at h1
      cases h1
  | succ f ih =>
    intro listed a w hfree htl hr hy hS H
    refine ⟨fun h => (by rw [h] at hr; cases hr), fun j hj => ?_⟩
    by_cases hji : j = i
    · subst hji
      unfold wpOp
      simp only [hi]
      rcases hy with ⟨hw, hv⟩ | ⟨hw, rfl⟩
      · simp only [hw, if_true, Oper.wp, hv w hS, Oper.upon]; exact .inl ⟨fun _ => hS, H⟩
      · simp only [hw, Bool.false_eq_true, if_false]; exact ⟨fun _ => hS, H⟩
    · have hun := (mem_ready.1 hr).1
      have h1 := H.2 j (ready_mono hj hji)
      obtain ⟨hjun, oj, hoj, hall⟩ := mem_ready.1 hj
      have hnot : ∀ e ∈ oj.after, Region.binds md e = true → e.on ≠ i := fun e he hb heq => by
        have h2 := hall e he hb
        rw [heq] at h2
        have h3 : listed.getD i true = false := hun
        have lt : i < listed.size := by
          rcases Nat.lt_or_ge i listed.size with q | q
          · exact q
          · simp [Array.getElem?_eq_none q] at h3
        simp [Array.getElem?_eq_getElem lt] at h2 h3
        rw [h3] at h2
        cases h2
      have hjn : j < n := by
        rcases Nat.lt_or_ge j n with q | q
        · exact q
        · obtain ⟨e, he, hb, ho⟩ := hlast j oj q hoj
          rcases ho with ho | ⟨h5, h6⟩
          · exact absurd ho (hnot e he hb)
          · have h7 := hall e he hb
            rw [htl _ h5 h6] at h7
            cases h7
      have hap := hfree j oj hoj hji hjun hnot
      obtain ⟨p1, p2, p3⟩ := Oper.apart_spec hap
      -- the slot alone: a constant in its place
      have hap' : Oper.apart ops { oi with op := .move (.const v), guard := none } oj = true := by
        unfold Oper.apart at hap ⊢
        rw [Bool.and_eq_true] at hap ⊢
        refine ⟨hap.1, ?_⟩
        cases oj.dst with
        | none => rfl
        | some d => simp [Oper.looksAt, Op.operands]
      have h2 := wpOp_put (oi := { oi with op := .move (.const v), guard := none }) (v := v) (a := a) hoj hap' (fun cs b h => by cases h) (fun cs b => hsel j oj cs b hoj) hQ (.inl ⟨rfl, fun w => by simp [execOp, Sem.run, Act.eval]⟩) h1
      have h3 := wpOp_actsT hoj h2
      refine wpOp_mono ?_ h3
      rintro a' w' ⟨⟨_, hS', hK⟩, u, ds, rfl⟩
      refine ⟨hS', ih (listed.setIfInBounds j true) _ w' ?_ (fun t h5 h6 => by rw [getD_set_ne false (show j ≠ t by omega)]; exact htl t h5 h6) (ready_mono hr (Ne.symm hji)) ?_ (hS' hjn) ?_⟩
      · intro k ok hk hki hun' hno
        refine hfree k ok hk hki ?_ hno
        by_cases hjk : j = k
        · subst hjk; exact hjun
        · rw [getD_set_ne true hjk] at hun'; exact hun'
      · have e1 : execOp (({ a with defers := ds } : Act).put oj.dst u).eval oi = execOp a.eval oi := (execOp_put oi (fun cs b => hsel i oi cs b hi) { a with defers := ds } oj.dst u p3).trans rfl
        have e2 : Region.wanted oi (yielded ops (({ a with defers := ds } : Act).put oj.dst u).tmps) = Region.wanted oi (yielded ops a.tmps) := (wanted_put oi { a with defers := ds } oj.dst u p3).trans rfl
        unfold ReadsT at hy ⊢
        rw [e1, e2]
        exact hy
      · rw [Array.setIfInBounds_comm _ _ hji]
        exact hK
/-- The operation i lies in the head, and each of the tail waits for it. -/
def tailB (md : Region.Mode) (ops : Array Oper) (n i : Nat) : Bool := decide (i < n) && (List.range (ops.size - n)).all fun k => ((ops[n + k]?).map fun o => o.after.any fun e => Region.binds md e && (e.on == i || (decide (n ≤ e.on) && decide (e.on < ops.size)))).getD true
theorem tailB_spec {i : Nat} (h : tailB md ops n i = true) : i < n ∧ ∀ (t : Nat) (o : Oper), n ≤ t → ops[t]? = some o → ∃ e ∈ o.after, Region.binds md e = true ∧ (e.on = i ∨ (n ≤ e.on ∧ e.on < ops.size)) := by
  unfold tailB at h
  rw [Bool.and_eq_true, decide_eq_true_eq, List.all_eq_true] at h
  refine ⟨h.1, fun t o ht ho => ?_⟩
  have hlt : t < ops.size := (Array.getElem?_eq_some_iff.1 ho).1
  have q := h.2 (t - n) (List.mem_range.2 (by omega))
  rw [show n + (t - n) = t by omega, ho] at q
  simp only [Option.map_some, Option.getD_some] at q
  rw [← Array.any_toList, List.any_eq_true] at q
  obtain ⟨e, he, hb⟩ := q
  simp only [Bool.and_eq_true, Bool.or_eq_true, beq_iff_eq, decide_eq_true_eq] at hb
  exact ⟨e, by simpa using he, hb.1, hb.2⟩
/-- The head is over: what is left comes as in any region. -/
theorem wpAnyT_tail : ∀ (f : Nat) (listed : Array Bool) (a : Act) (w : World), (∀ j, j < n → listed.getD j true = true) → wpAny P md ops Q f listed a w → wpAnyT n S P md ops Q f listed a w
  | 0, _, _, _, _, h => h
  | f + 1, listed, _, _, hl, h => ⟨h.1, fun i hi => by
      have hu := (mem_ready.1 hi).1
      have hin : ¬ i < n := fun q => by rw [hl i q] at hu; cases hu
      exact wpOp_mono (fun a w q => ⟨fun k => absurd k hin, wpAnyT_tail f _ a w (fun j hj => by
        by_cases e : i = j
        · exact absurd (e ▸ hj) hin
        · rw [getD_set_ne true e]; exact hl j hj) q⟩) (h.2 i hi)⟩
theorem headB_spec {listed : Array Bool} (h : ((List.range n).all fun j => listed.getD j true) = true) : ∀ j, j < n → listed.getD j true = true := fun j hj => List.all_eq_true.1 h j (List.mem_range.2 hj)
theorem wpAnyT_take {i : Nat} {oi : Oper} {v : Value} {f : Nat} {listed : Array Bool} {a : Act} {w : World} (hi : ops[i]? = some oi) (hs : Region.noSelect ops = true) (hf : Region.free md ops listed i = true) (hr : (Region.ready md ops listed).contains i = true)
    (hQ : ∀ c a w, Q (.panic c) (a.put oi.dst v) w → Q (.panic c) a w) (hb : (tailB md ops n i && (List.range (ops.size - n)).all fun k => !(listed.getD (n + k) false)) = true) (hy : ReadsT S P ops oi v a) (hS : S w) (h : wpAnyT n S P md ops Q f (listed.setIfInBounds i true) (a.put oi.dst v) w) : wpAnyT n S P md ops Q (f + 1) listed a w :=
  by
  rw [Bool.and_eq_true, List.all_eq_true] at hb
  exact wpAnyT_first hi (Region.noSelect_spec hs) hQ (tailB_spec hb.1).1 (tailB_spec hb.1).2 f listed a w (Region.free_spec hi hf) (fun t h5 h6 => by have q := hb.2 (t - n) (List.mem_range.2 (by omega)); rw [show n + (t - n) = t by omega] at q; simpa using q) (by simpa using hr) hy hS h
/-- An operation that is ready alone. -/
theorem wpAnyT_one {i : Nat} {f : Nat} {listed : Array Bool} {a : Act} {w : World} (hr : Region.ready md ops listed = [i]) (h : wpOp P ops Q i (fun a' w' => (i < n → S w') ∧ wpAnyT n S P md ops Q f (listed.setIfInBounds i true) a' w') a w) : wpAnyT n S P md ops Q (f + 1) listed a w :=
  ⟨fun h0 => (by rw [hr] at h0; cases h0), fun j hj => by rw [hr] at hj; obtain rfl : j = i := (by simpa using hj); exact h⟩
theorem wpAnyT_done {listed : Array Bool} {a : Act} {w : World} (hr : Region.ready md ops listed = []) (h : Q .normal a w) : ∀ f, wpAnyT n S P md ops Q f listed a w
  | 0 => ⟨hr, h⟩
  | _ + 1 => ⟨fun _ => h, fun i hi => by rw [hr] at hi; cases hi⟩
theorem region_anyT {id : Nat} {a : Act} {w : World} {l : List Oper} (S : World → Prop) (hm : P.follows .mixedOrders = true) (n k : Nat) (hn : l.toArray.size = k) (h : wpAnyT n S P .any l.toArray Q k (Array.replicate k false) a w.drew) : (Code.region id l.toArray true).wp P Q a w :=
  region_any hm k hn (wpAnyT_out _ _ _ _ h)
end
end Go.Proofs.Yteabblmhcjpboaa.D
