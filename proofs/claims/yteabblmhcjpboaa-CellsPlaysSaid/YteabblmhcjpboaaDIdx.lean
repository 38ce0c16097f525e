/- A region that draws its order: operations taken by their numbers: what reads nothing first (wpAny_take), two that stand side by side, the rest in a row. -/
import Derived.Test.YteabblmhcjpboaaDPair
namespace Go.Proofs.Yteabblmhcjpboaa.D
open Go Go.RowKit
section
variable {P : Program} {ops : Array Oper} {md : Region.Mode}

def seqI (md : Region.Mode) (ops : Array Oper) : List Nat → Array Bool → Bool
  | [], listed => (Region.ready md ops listed).isEmpty
  | i :: is, listed => decide (Region.ready md ops listed = [i]) && seqI md ops is (listed.setIfInBounds i true)
theorem wpAny_of_idx {Q' : Exit → Act → World → Prop} : ∀ (is : List Nat) (l : List Oper) (listed : Array Bool) (a : Act) (w : World), is.map (fun i => ops[i]?) = l.map some →
    seqI md ops is listed = true → wpList P ops Q' l a w → wpAny P md ops Q' is.length listed a w
  | [], l, _, _, _, hl, hB, h => by
    obtain rfl : l = [] := by simpa using hl.symm
    exact ⟨by simpa [seqI] using hB, h⟩
  | i :: is, l, listed, a, w, hl, hB, h => by
    cases l with
    | nil => simp at hl
    | cons o l =>
      simp only [List.map_cons, List.cons.injEq] at hl
      simp only [seqI, Bool.and_eq_true, decide_eq_true_eq] at hB
      refine ⟨fun h1 => (by rw [hB.1] at h1; cases h1), fun k hk => ?_⟩
      rw [hB.1] at hk
      have hik : k = i := by simpa using hk
      subst hik
      have hw : wpOp P ops Q' k (wpList P ops Q' l) a w := by unfold wpOp; simp only [hl.1]; exact h
      exact wpOp_mono (fun a' w' h' => wpAny_of_idx is l _ a' w' hl.2 hB.2 h') hw
theorem wpAny_swap {Q' : Exit → Act → World → Prop} {i j f : Nat} {listed : Array Bool} {a : Act} {w : World} {oi oj : Oper} (vi vj : Value) (hi : ops[i]? = some oi) (hj : ops[j]? = some oj)
    (hB : (decide (Region.ready md ops listed = [i, j]) && decide (Region.ready md ops (listed.setIfInBounds i true) = [j]) && decide (Region.ready md ops (listed.setIfInBounds j true) = [i]) && decide (i ≠ j)) = true)
    (wi : Region.wanted oi (yielded ops a.tmps) = true) (wi' : Region.wanted oi (yielded ops (a.put oj.dst vj).tmps) = true) (wj : Region.wanted oj (yielded ops a.tmps) = true) (wj' : Region.wanted oj (yielded ops (a.put oi.dst vi).tmps) = true)
    (ri : (execOp a.eval oi).run P w = .ok (.value vi) w) (ri' : (execOp (a.put oj.dst vj).eval oi).run P w = .ok (.value vi) w) (rj : (execOp a.eval oj).run P w = .ok (.value vj) w) (rj' : (execOp (a.put oi.dst vi).eval oj).run P w = .ok (.value vj) w)
    (hc : (a.put oi.dst vi).put oj.dst vj = (a.put oj.dst vj).put oi.dst vi) (h : wpAny P md ops Q' f ((listed.setIfInBounds i true).setIfInBounds j true) ((a.put oi.dst vi).put oj.dst vj) w) : wpAny P md ops Q' (f + 2) listed a w := by
  simp only [Bool.and_eq_true, decide_eq_true_eq] at hB
  obtain ⟨⟨⟨q1, q2⟩, q3⟩, q4⟩ := hB
  have one : ∀ {o : Oper} {k : Nat} {b : Act} {v : Value} {K : Act → World → Prop}, ops[k]? = some o → Region.wanted o (yielded ops b.tmps) = true → (execOp b.eval o).run P w = .ok (.value v) w → K (b.put o.dst v) w → wpOp P ops Q' k K b w := by
    intro o k b v K ho hw hr hK
    unfold wpOp
    simp only [ho, hw, if_true, Oper.wp, hr, Oper.upon]
    exact .inl hK
  refine ⟨fun h1 => (by rw [q1] at h1; cases h1), fun k hk => ?_⟩
  rw [q1] at hk
  have : k = i ∨ k = j := by simpa using hk
  rcases this with rfl | rfl
  · refine one hi wi ri ⟨fun h1 => (by rw [q2] at h1; cases h1), fun m hm => ?_⟩
    rw [q2] at hm
    obtain rfl : m = j := by simpa using hm
    exact one hj wj' rj' h
  · refine one hj wj rj ⟨fun h1 => (by rw [q3] at h1; cases h1), fun m hm => ?_⟩
    rw [q3] at hm
    obtain rfl : m = i := by simpa using hm
    refine one hi wi' ri' ?_
    rw [← hc, Array.setIfInBounds_comm _ _ (Ne.symm q4)]
    exact h
theorem region_any {id : Nat} {Q : Exit → Act → World → Prop} {a : Act} {w : World} {l : List Oper} (hm : P.follows .mixedOrders = true) (n : Nat) (hn : l.toArray.size = n) (h : wpAny P .any l.toArray Q n (Array.replicate n false) a w.drew) : (Code.region id l.toArray true).wp P Q a w := by
  subst hn
  exact wp_region_any hm h
end
end Go.Proofs.Yteabblmhcjpboaa.D
