/- A region that draws its order, whose last two operations stand in either order behind all others: the first ones by region_ext's way, or region_held's; the last two, in both orders. -/
import Derived.Test.YteabblmhcjpboaaDExt
namespace Go.Proofs.Yteabblmhcjpboaa.D
open Go Go.RowKit
section
variable {P : Program} {ops : Array Oper} {md : Region.Mode} {Rs : Nat → Value → World → Prop} {w0 : World} {S : World → Prop}

def sinkT (md : Region.Mode) (ops : Array Oper) (n t : Nat) : Bool :=
  (List.range n).all fun i => ((List.range n).any fun j => decide (i < j) && Region.waitsFor md ops j i) || Region.waitsFor md ops t i
def Waits (md : Region.Mode) (ops : Array Oper) (n : Nat) : Prop := ∀ listed, HeadInv md ops n listed → ∀ i, i < n → listed.getD i true = false → ∀ t, n ≤ t → t ∉ Region.ready md ops listed
theorem waits_of {n : Nat} (hs : sinkT md ops n n = true) (hs' : sinkT md ops n (n + 1) = true) (hsz : ops.size = n + 2) : Waits md ops n := by
  have key : ∀ listed, HeadInv md ops n listed → ∀ (d i : Nat), n - i = d → i < n → listed.getD i true = false → ∀ t, n ≤ t → t ∉ Region.ready md ops listed := by
    intro listed inv d
    induction d using Nat.strongRecOn with
    | _ d ih =>
      intro i hd hi hun t ht hr
      obtain ⟨_, ot, hot, hall⟩ := mem_ready.1 hr
      have htlt : t < ops.size := (Array.getElem?_eq_some_iff.1 hot).1
      have hst : sinkT md ops n t = true := by
        rcases (show t = n ∨ t = n + 1 by omega) with rfl | rfl
        · exact hs
        · exact hs'
      have h1 := List.all_eq_true.1 hst i (List.mem_range.2 hi)
      rw [Bool.or_eq_true] at h1
      rcases h1 with h1 | h1
      · obtain ⟨j, hj, hj2⟩ := List.any_eq_true.1 h1
        simp only [Bool.and_eq_true, decide_eq_true_eq] at hj2
        have hjn := List.mem_range.1 hj
        obtain ⟨oj, hoj, e, he, hb, hon⟩ := Region.waitsFor_spec hj2.2
        cases hl : listed.getD j false with
        | true =>
          have h2 := inv.closed j oj hoj hl e he hb
          rw [hon, getD_both hun] at h2
          cases h2
        | false =>
          have hjs : j < listed.size := by rw [inv.size]; omega
          exact ih (n - j) (by omega) j rfl hjn (getD_in hjs hl) t ht hr
      · obtain ⟨oj, hoj, e, he, hb, hon⟩ := Region.waitsFor_spec h1
        have : oj = ot := Option.some.inj (hoj.symm.trans hot)
        subst this
        have h2 := hall e he hb
        rw [hon, getD_both hun] at h2
        cases h2
  exact fun listed inv i hi hun => key listed inv _ i rfl hi hun
def pairB (md : Region.Mode) (ops : Array Oper) (n : Nat) (listed : Array Bool) : Bool :=
  decide (Region.ready md ops listed = [n, n + 1]) && decide (Region.ready md ops (listed.setIfInBounds n true) = [n + 1]) && decide (Region.ready md ops (listed.setIfInBounds (n + 1) true) = [n]) &&
    (Region.ready md ops ((listed.setIfInBounds n true).setIfInBounds (n + 1) true)).isEmpty && (Region.ready md ops ((listed.setIfInBounds (n + 1) true).setIfInBounds n true)).isEmpty
theorem pairB_ready {n : Nat} {listed : Array Bool} (h : pairB md ops n listed = true) : ∀ j ∈ Region.ready md ops listed, n ≤ j := by
  simp only [pairB, Bool.and_eq_true, decide_eq_true_eq] at h
  rw [h.1.1.1.1]
  intro j hj
  simp at hj
  omega
theorem wpAny_of_pair {Q' : Exit → Act → World → Prop} {n : Nat} {listed : Array Bool} {a : Act} {w : World} {o1 o2 : Oper} (h1 : ops[n]? = some o1) (h2 : ops[n + 1]? = some o2) (hB : pairB md ops n listed = true)
    (A : wpList P ops Q' [o1, o2] a w) (B : wpList P ops Q' [o2, o1] a w) : wpAny P md ops Q' 2 listed a w := by
  simp only [pairB, Bool.and_eq_true, decide_eq_true_eq] at hB
  obtain ⟨⟨⟨⟨q1, q2⟩, q3⟩, q4⟩, q5⟩ := hB
  have last : ∀ (o : Oper) (i : Nat) (l : Array Bool) (a' : Act) (w' : World), ops[i]? = some o → Region.ready md ops l = [i] → (Region.ready md ops (l.setIfInBounds i true)).isEmpty = true → wpList P ops Q' [o] a' w' → wpAny P md ops Q' 1 l a' w' := by
    intro o i l a' w' ho hr he hw
    refine ⟨fun h => (by rw [hr] at h; cases h), fun j hj => ?_⟩
    rw [hr] at hj
    obtain rfl : j = i := by simpa using hj
    have h0 : wpOp P ops Q' j (wpList P ops Q' []) a' w' := by unfold wpOp; simp only [ho]; exact hw
    exact wpOp_mono (fun a'' w'' h' => ⟨by simpa using he, h'⟩) h0
  refine ⟨fun h => (by rw [q1] at h; cases h), fun i hi => ?_⟩
  rw [q1] at hi
  have : i = n ∨ i = n + 1 := by simpa using hi
  rcases this with rfl | rfl
  · have h0 : wpOp P ops Q' i (wpList P ops Q' [o2]) a w := by unfold wpOp; simp only [h1]; exact A
    exact wpOp_mono (fun a' w' h' => last o2 (i + 1) _ a' w' h2 q2 q4 h') h0
  · have h0 : wpOp P ops Q' (n + 1) (wpList P ops Q' [o1]) a w := by unfold wpOp; simp only [h2]; exact B
    exact wpOp_mono (fun a' w' h' => last o1 n _ a' w' h1 q3 q5 h') h0
def lexHead2 (md : Region.Mode) (ops : Array Oper) : Nat → Nat → Array Bool → Bool
  | 0, k, listed => pairB md ops k listed
  | f + 1, k, listed => (Region.ready md ops listed).contains k && Region.free md ops listed k && lexHead2 md ops f (k + 1) (listed.setIfInBounds k true)
def lexPairB (ops : Array Oper) (n : Nat) : Bool :=
  Region.noSelect ops && sinkT .any ops n n && sinkT .any ops n (n + 1) && decide (ops.size = n + 2) && lexHead2 .any ops n 0 (Array.replicate ops.size false)
theorem anyE_first2 {n i : Nat} {oi : Oper} {L : Array Bool → (World → Prop) → Act → Prop} (hi : ops[i]? = some oi) (hsel : ∀ (j : Nat) (o : Oper) cs b, ops[j]? = some o → o.op ≠ .select cs b)
    (hw : Waits md ops n) (hin : i < n) (hmono : ∀ listed F F' a, (∀ w, F' w → F w) → L listed F a → L listed F' a)
    (hdone : ∀ listed F a, L listed F a → ∀ j ∈ Region.ready md ops listed, n ≤ j) :
    ∀ (f : Nat) (listed : Array Bool) (F : World → Prop) (a : Act), HeadInv md ops n listed →
      (∀ j oj, ops[j]? = some oj → j ≠ i → listed.getD j true = false → (∀ e ∈ oj.after, Region.binds md e = true → e.on ≠ i) → oi.apart ops oj = true) →
      i ∈ Region.ready md ops listed → ExtAt P ops w0 oi (Rs i) a →
      (∀ v, (∃ w, Rs i v w) → anyE P md ops w0 Rs n L f (listed.setIfInBounds i true) (fun w => F w ∧ Rs i v w) (a.put oi.dst v)) → anyE P md ops w0 Rs n L (f + 1) listed F a := by
  intro f
  induction f with
  | zero =>
    intro listed F a inv _ hr hy H
    have hun := (mem_ready.1 hr).1
    refine ⟨fun h => (by rw [h] at hr; cases hr), fun j hj => ?_⟩
    have hjn : j < n := by
      rcases Nat.lt_or_ge j n with h | h
      · exact h
      · exact absurd hj (hw _ inv i hin hun j h)
    refine ⟨hjn, ?_⟩
    by_cases hji : j = i
    · subst hji; exact ⟨oi, hi, hy, H⟩
    · obtain ⟨v0, hv0⟩ := hy.possible
      have := hdone _ _ _ (H v0 hv0) j (ready_mono hj hji)
      omega
  | succ f ih =>
    intro listed F a inv hfree hr hy H
    have hun := (mem_ready.1 hr).1
    refine ⟨fun h => (by rw [h] at hr; cases hr), fun j hj => ?_⟩
    have hjn : j < n := by
      rcases Nat.lt_or_ge j n with h | h
      · exact h
      · exact absurd hj (hw _ inv i hin hun j h)
    refine ⟨hjn, ?_⟩
    by_cases hji : j = i
    · subst hji; exact ⟨oi, hi, hy, H⟩
    · obtain ⟨v0, hv0⟩ := hy.possible
      obtain ⟨_, oj', hoj', hyj0, _⟩ := (H v0 hv0).2 j (ready_mono hj hji)
      obtain ⟨hjun, oj, hoj, hall⟩ := mem_ready.1 hj
      obtain rfl : oj = oj' := Option.some.inj (hoj.symm.trans hoj')
      have hnot : ∀ e ∈ oj.after, Region.binds md e = true → e.on ≠ i := fun e he hb heq => by
        have h1 := hall e he hb
        rw [heq, getD_both hun] at h1
        cases h1
      have hap := hfree j oj hoj hji hjun hnot
      obtain ⟨h1, h2, h3⟩ := Oper.apart_spec hap
      have hsi : ∀ cs b, oi.op ≠ .select cs b := fun cs b => hsel i oi cs b hi
      have hsj : ∀ cs b, oj.op ≠ .select cs b := fun cs b => hsel j oj cs b hoj
      have hyj : ExtAt P ops w0 oj (Rs j) a := hyj0.of_same (execOp_put oj hsj a oi.dst v0 h1).symm (wanted_put oj a oi.dst v0 h1).symm
      refine ⟨oj, hoj, hyj, fun u hu => ?_⟩
      have hfree' : ∀ k ok, ops[k]? = some ok → k ≠ i → (listed.setIfInBounds j true).getD k true = false →
          (∀ e ∈ ok.after, Region.binds md e = true → e.on ≠ i) → oi.apart ops ok = true := fun k ok hk hki hun hno => by
        refine hfree k ok hk hki ?_ hno
        by_cases hjk : j = k
        · subst hjk; exact hjun
        · rw [getD_set_ne true hjk] at hun; exact hun
      refine ih (listed.setIfInBounds j true) _ _ (inv.set hj hjn) hfree' (ready_mono hr (Ne.symm hji)) (hy.of_same (execOp_put oi hsi a oj.dst u h3) (wanted_put oi a oj.dst u h3)) (fun v hv => ?_)
      obtain ⟨_, oj2, hoj2, _, hK2⟩ := (H v hv).2 j (ready_mono hj hji)
      obtain rfl : oj = oj2 := Option.some.inj (hoj.symm.trans hoj2)
      have h4 := hK2 u hu
      rw [Array.setIfInBounds_comm _ _ hji, ← Act.put_comm a v u h2]
      exact anyE_mono hmono _ _ _ _ _ (fun w ⟨⟨q1, q2⟩, q3⟩ => ⟨⟨q1, q3⟩, q2⟩) h4
theorem anyE_lex2 {n : Nat} {Lq : (World → Prop) → Act → Prop} (hsel : Region.noSelect ops = true) (hw : Waits md ops n) (hLq : ∀ F F' a, (∀ w, F' w → F w) → Lq F a → Lq F' a) :
    ∀ (l : List Oper) (k : Nat) (listed : Array Bool) (F : World → Prop) (a : Act), (∀ j, j < l.length → l[j]? = ops[k + j]?) → k + l.length = n → HeadInv md ops n listed →
    lexHead2 md ops l.length k listed = true → wpExt P ops w0 Rs Lq l k F a →
    anyE P md ops w0 Rs n (fun listed' F' a' => pairB md ops n listed' = true ∧ Lq F' a') l.length listed F a
  | [], k, listed, F, a, _, hk, _, hB, h => by
    have : k = n := by simpa using hk
    subst this
    exact ⟨by simpa [lexHead2] using hB, h⟩
  | o :: l, k, listed, F, a, hl, hk, inv, hB, h => by
    have h0 : ops[k]? = some o := by simpa using (hl 0 (by simp)).symm
    simp only [List.length_cons, lexHead2, Bool.and_eq_true] at hB
    obtain ⟨⟨hr, hf⟩, hB'⟩ := hB
    have hkn : k < n := by simp only [List.length_cons] at hk; omega
    have hr' : k ∈ Region.ready md ops listed := by simpa using hr
    obtain ⟨hy, hK⟩ := h
    exact anyE_first2 h0 (Region.noSelect_spec hsel) hw hkn (fun _ _ _ _ q hL => ⟨hL.1, hLq _ _ _ q hL.2⟩) (fun listed' F' a' hL => pairB_ready hL.1) l.length listed F a inv (Region.free_spec h0 hf) hr' hy
      (fun v hv => anyE_lex2 hsel hw hLq l (k + 1) _ _ _ (fun j hj => by have := hl (j + 1) (by simp; omega); simpa [Nat.add_assoc, Nat.add_comm 1 j] using this) (by simp only [List.length_cons] at hk; omega) (inv.set hr' hkn) hB' (hK v hv))
/-- The first n in whatever order; then the last two, in either. -/
theorem region_ext2 {id : Nat} {Q : Exit → Act → World → Prop} {a : Act} {w : World} {l : List Oper} {o1 o2 : Oper} (Rs : Nat → Value → World → Prop) (hR : ∀ i v, Stays (Rs i v)) (n : Nat) (hm : P.follows .mixedOrders = true) (hB : lexPairB l.toArray n = true) (hd : l.drop n = [o1, o2])
    (h : wpExt P l.toArray w.drew Rs (fun F a' => ∀ w', Ext w.drew w' → F w' → wpList P l.toArray Q [o1, o2] a' w' ∧ wpList P l.toArray Q [o2, o1] a' w') (l.take n) 0 (fun _ => True) a) : (Code.region id l.toArray true).wp P Q a w := by
  simp only [lexPairB, Bool.and_eq_true, decide_eq_true_eq] at hB
  obtain ⟨⟨⟨⟨hsel, hs⟩, hs'⟩, hsz⟩, hlex⟩ := hB
  have hn' : n + 2 = l.length := by simpa using hsz.symm
  have htl : (l.take n).length = n := by simp; omega
  have inv0 : HeadInv .any l.toArray n (Array.replicate l.toArray.size false) :=
    ⟨by simp, fun j oj _ hl => (by rw [getD_replicate_false] at hl; cases hl), fun t _ ht => getD_in (by simpa using ht) (getD_replicate_false _ _)⟩
  have H := anyE_lex2 (md := .any) hsel (waits_of hs hs' hsz) (fun F F' a q hL w' h1 h2 => hL w' h1 (q w' h2)) (l.take n) 0 _ _ a (fun j hj => by
    have hj' : j < n := by rw [htl] at hj; exact hj
    simp [hj']) (by simpa using htl) inv0 (by rw [htl]; exact hlex) h
  have e1 : l.toArray[n]? = some o1 := by have := congrArg (fun q => q[0]?) hd; simpa using this
  have e2 : l.toArray[n + 1]? = some o2 := by have := congrArg (fun q => q[1]?) hd; simpa using this
  refine wp_region_any hm ?_
  have := wpAny_of_anyE (Q' := Q) (g := 2) hR (fun listed F a' hL w' hS' hF => wpAny_of_pair e1 e2 hL.1 (hL.2 w' hS' hF).1 (hL.2 w' hS' hF).2) _ _ _ _ (fun _ _ _ _ => trivial) H w.drew (Ext.refl _) trivial
  rw [htl, ← hsz] at this
  exact this
theorem anyH_first2 {n i : Nat} {oi : Oper} {v : Value} {L : Array Bool → Act → Prop} (hi : ops[i]? = some oi) (hsel : ∀ (j : Nat) (o : Oper) cs b, ops[j]? = some o → o.op ≠ .select cs b)
    (hw : Waits md ops n) (hin : i < n)
    (hdone : ∀ listed a, L listed a → ∀ j ∈ Region.ready md ops listed, n ≤ j) :
    ∀ (f : Nat) (listed : Array Bool) (a : Act), HeadInv md ops n listed →
      (∀ j oj, ops[j]? = some oj → j ≠ i → listed.getD j true = false → (∀ e ∈ oj.after, Region.binds md e = true → e.on ≠ i) → oi.apart ops oj = true) →
      i ∈ Region.ready md ops listed → HeldAt P ops S oi v a →
      anyH P md ops S n L f (listed.setIfInBounds i true) (a.put oi.dst v) → anyH P md ops S n L (f + 1) listed a := by
  intro f
  induction f with
  | zero =>
    intro listed a inv _ hr hy H
    have hun := (mem_ready.1 hr).1
    refine ⟨fun h => (by rw [h] at hr; cases hr), fun j hj => ?_⟩
    have hjn : j < n := by
      rcases Nat.lt_or_ge j n with h | h
      · exact h
      · exact absurd hj (hw _ inv i hin hun j h)
    refine ⟨hjn, ?_⟩
    by_cases hji : j = i
    · subst hji; exact ⟨oi, v, hi, hy, H⟩
    · have := hdone _ _ H j (ready_mono hj hji)
      omega
  | succ f ih =>
    intro listed a inv hfree hr hy H
    have hun := (mem_ready.1 hr).1
    refine ⟨fun h => (by rw [h] at hr; cases hr), fun j hj => ?_⟩
    have hjn : j < n := by
      rcases Nat.lt_or_ge j n with h | h
      · exact h
      · exact absurd hj (hw _ inv i hin hun j h)
    refine ⟨hjn, ?_⟩
    by_cases hji : j = i
    · subst hji; exact ⟨oi, v, hi, hy, H⟩
    · have h1 := (H.2 j (ready_mono hj hji)).2
      obtain ⟨hjun, oj, hoj, hall⟩ := mem_ready.1 hj
      have hnot : ∀ e ∈ oj.after, Region.binds md e = true → e.on ≠ i := fun e he hb heq => by
        have h1 := hall e he hb
        rw [heq, getD_both hun] at h1
        cases h1
      have h2 := hOp_put hoj (hfree j oj hoj hji hjun hnot) (fun cs b => hsel i oi cs b hi) (fun cs b => hsel j oj cs b hoj) hy h1
      have hfree' : ∀ k ok, ops[k]? = some ok → k ≠ i → (listed.setIfInBounds j true).getD k true = false →
          (∀ e ∈ ok.after, Region.binds md e = true → e.on ≠ i) → oi.apart ops ok = true := fun k ok hk hki hun hno => by
        refine hfree k ok hk hki ?_ hno
        by_cases hjk : j = k
        · subst hjk; exact hjun
        · rw [getD_set_ne true hjk] at hun; exact hun
      obtain ⟨o2, u, ho2, hy2, h3⟩ := h2
      refine ⟨o2, u, ho2, hy2, ih (listed.setIfInBounds j true) _ (inv.set hj hjn) hfree' (ready_mono hr (Ne.symm hji)) h3.1 ?_⟩
      rw [Array.setIfInBounds_comm _ _ hji]
      exact h3.2
theorem anyH_lex2 {n : Nat} {Lq : Act → Prop} (hsel : Region.noSelect ops = true) (hw : Waits md ops n) :
    ∀ (l : List Oper) (k : Nat) (listed : Array Bool) (a : Act), (∀ j, j < l.length → l[j]? = ops[k + j]?) → k + l.length = n → HeadInv md ops n listed →
    lexHead2 md ops l.length k listed = true → wpHeld P ops S Lq l a →
    anyH P md ops S n (fun listed' a' => pairB md ops n listed' = true ∧ Lq a') l.length listed a
  | [], k, listed, a, _, hk, _, hB, h => by
    have : k = n := by simpa using hk
    subst this
    exact ⟨by simpa [lexHead2] using hB, h⟩
  | o :: l, k, listed, a, hl, hk, inv, hB, h => by
    have h0 : ops[k]? = some o := by simpa using (hl 0 (by simp)).symm
    simp only [List.length_cons, lexHead2, Bool.and_eq_true] at hB
    obtain ⟨⟨hr, hf⟩, hB'⟩ := hB
    have hkn : k < n := by simp only [List.length_cons] at hk; omega
    have hr' : k ∈ Region.ready md ops listed := by simpa using hr
    obtain ⟨v, hy, hK⟩ := h
    exact anyH_first2 h0 (Region.noSelect_spec hsel) hw hkn (fun listed' a' hL => pairB_ready hL.1) l.length listed a inv (Region.free_spec h0 hf) hr' hy
      (anyH_lex2 hsel hw l (k + 1) _ _ (fun j hj => by have := hl (j + 1) (by simp; omega); simpa [Nat.add_assoc, Nat.add_comm 1 j] using this) (by simp only [List.length_cons] at hk; omega) (inv.set hr' hkn) hB' hK)
/-- The first n in whatever order; then the last two, in either. -/
theorem region_held2 {id : Nat} {Q : Exit → Act → World → Prop} {a : Act} {w : World} {l : List Oper} {o1 o2 : Oper} (S : World → Prop) (n : Nat) (hm : P.follows .mixedOrders = true) (hB : lexPairB l.toArray n = true) (hd : l.drop n = [o1, o2]) (hS : S w.drew)
    (h : wpHeld P l.toArray S (fun a' => ∀ w', S w' → wpList P l.toArray Q [o1, o2] a' w' ∧ wpList P l.toArray Q [o2, o1] a' w') (l.take n) a) : (Code.region id l.toArray true).wp P Q a w := by
  simp only [lexPairB, Bool.and_eq_true, decide_eq_true_eq] at hB
  obtain ⟨⟨⟨⟨hsel, hs⟩, hs'⟩, hsz⟩, hlex⟩ := hB
  have hn' : n + 2 = l.length := by simpa using hsz.symm
  have htl : (l.take n).length = n := by simp; omega
  have inv0 : HeadInv .any l.toArray n (Array.replicate l.toArray.size false) :=
    ⟨by simp, fun j oj _ hl => (by rw [getD_replicate_false] at hl; cases hl), fun t _ ht => getD_in (by simpa using ht) (getD_replicate_false _ _)⟩
  have H := anyH_lex2 (md := .any) hsel (waits_of hs hs' hsz) (l.take n) 0 _ a (fun j hj => by
    have hj' : j < n := by rw [htl] at hj; exact hj
    simp [hj']) (by simpa using htl) inv0 (by rw [htl]; exact hlex) h
  have e1 : l.toArray[n]? = some o1 := by have := congrArg (fun q => q[0]?) hd; simpa using this
  have e2 : l.toArray[n + 1]? = some o2 := by have := congrArg (fun q => q[1]?) hd; simpa using this
  refine wp_region_any hm ?_
  have := wpAny_of_anyH (Q' := Q) (g := 2) (fun listed a' hL w' hS' => wpAny_of_pair e1 e2 hL.1 (hL.2 w' hS').1 (hL.2 w' hS').2) _ _ _ H w.drew hS
  rw [htl, ← hsz] at this
  exact this
/-- A value of which R is known. -/
theorem wpExt_callR {Q : (World → Prop) → Act → Prop} {F : World → Prop} {a : Act} {k : Nat} {o : Oper} {rest : List Oper} (f : FuncId) (args : Array Value) (hw : Region.wanted o (yielded ops a.tmps) = true) (hr : ∀ w, (execOp a.eval o).run P w = .ok (.enter f args) w)
    (h : ∀ w, Ext w0 w → Calls P f args w (fun e w' => ∃ v, e = .returned v ∧ Ext w w' ∧ Rs k v w')) (h2 : ∀ v, (∃ w, Rs k v w) → wpExt P ops w0 Rs Q rest (k + 1) (fun w => F w ∧ Rs k v w) (a.put o.dst v)) : wpExt P ops w0 Rs Q (o :: rest) k F a := by
  refine ⟨.inl ⟨hw, fun w hE => by rw [hr w]; exact (h w hE)⟩, h2⟩
end
end Go.Proofs.Yteabblmhcjpboaa.D
