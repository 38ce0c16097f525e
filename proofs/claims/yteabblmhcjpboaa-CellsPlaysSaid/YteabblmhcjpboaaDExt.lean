/- A region that draws its order, whose first operations only make memory, whatever order they come in: each leaves a value of which something is known that stays so, whatever memory is made; the rest of them stand in a row. -/
import Derived.Test.YteabblmhcjpboaaDHeld
import Derived.Below
namespace Go.Proofs.Yteabblmhcjpboaa.D
open Go Go.RowKit
section
variable {P : Program} {ops : Array Oper} {md : Region.Mode} {Rs : Nat → Value → World → Prop} {w0 : World}

/-- w' is w with more memory. -/
def Ext (w w' : World) : Prop := Below w.heap.size w w'
theorem Ext.refl (w : World) : Ext w w := Below.refl _ _
theorem Ext.trans {a b c : World} (h : Ext a b) (k : Ext b c) : Ext a c := Below.trans h (Below.mono k (Below.size h))
def RunExt (P : Program) (R : Value → World → Prop) (w : World) : Result Next → Prop
  | .ok (.value v) w' => Ext w w' ∧ R v w'
  | .ok .skip w' => Ext w w' ∧ R undef w'
  | .ok (.enter f args) w' => Calls P f args w' (fun e w'' => ∃ v, e = .returned v ∧ Ext w w'' ∧ R v w'')
  | _ => False
def ExtAt (P : Program) (ops : Array Oper) (w0 : World) (o : Oper) (R : Value → World → Prop) (a : Act) : Prop :=
  (Region.wanted o (yielded ops a.tmps) = true ∧ ∀ w, Ext w0 w → RunExt P R w ((execOp a.eval o).run P w)) ∨ (Region.wanted o (yielded ops a.tmps) = false ∧ ∀ w, Ext w0 w → R undef w)
theorem ExtAt.of_same {o : Oper} {R : Value → World → Prop} {a a' : Act} (hy : ExtAt P ops w0 o R a) (he : execOp a'.eval o = execOp a.eval o)
    (hw : Region.wanted o (yielded ops a'.tmps) = Region.wanted o (yielded ops a.tmps)) : ExtAt P ops w0 o R a' := by
  unfold ExtAt at *
  rw [he, hw]
  exact hy
theorem ExtAt.possible {o : Oper} {R : Value → World → Prop} {a : Act} (hy : ExtAt P ops w0 o R a) : ∃ v w, R v w := by
  rcases hy with ⟨_, h⟩ | ⟨_, h⟩
  · have h1 := h w0 (Ext.refl _)
    generalize (execOp a.eval o).run P w0 = r at h1
    cases r with
    | ok n w' =>
      cases n <;> simp only [RunExt] at h1
      case value u => exact ⟨u, w', h1.2⟩
      case skip => exact ⟨undef, w', h1.2⟩
      case enter f args =>
        obtain ⟨e, w2, _, ⟨v, _, _, hr⟩, _⟩ := h1 []
        exact ⟨v, w2, hr⟩
    | halt x w' => simp only [RunExt] at h1
  · exact ⟨undef, w0, h w0 (Ext.refl _)⟩
theorem ExtAt.wpOp {i : Nat} {o : Oper} {R : Value → World → Prop} {a : Act} {Q' : Exit → Act → World → Prop} {K : Act → World → Prop} (hi : ops[i]? = some o) (hy : ExtAt P ops w0 o R a) {w : World} (hS : Ext w0 w) (h : ∀ v w', R v w' → Ext w w' → K (a.put o.dst v) w') :
    wpOp P ops Q' i K a w := by
  unfold Go.wpOp
  simp only [hi]
  rcases hy with ⟨hw, hv⟩ | ⟨hw, hv⟩
  · rw [if_pos hw]
    refine .inl ?_
    unfold Oper.wp
    have h1 := hv w hS
    generalize (execOp a.eval o).run P w = r at h1
    cases r with
    | ok n w' =>
      cases n <;> simp only [RunExt] at h1 <;> simp only [Oper.upon]
      case value u => exact h _ _ h1.2 h1.1
      case skip => exact h _ _ h1.2 h1.1
      case enter f args => exact h1.mono fun e w'' ⟨v, he, hE, hR⟩ => by subst he; exact h _ _ hR hE
    | halt x w' => simp only [RunExt] at h1
  · rw [hw, if_neg (by simp)]
    exact h _ _ (hv w hS) (Ext.refl _)
def eOp (P : Program) (ops : Array Oper) (w0 : World) (Rs : Nat → Value → World → Prop) (i : Nat) (K : (World → Prop) → Act → Prop) (F : World → Prop) (a : Act) : Prop :=
  ∃ o, ops[i]? = some o ∧ ExtAt P ops w0 o (Rs i) a ∧ ∀ v, (∃ w, Rs i v w) → K (fun w => F w ∧ Rs i v w) (a.put o.dst v)
def anyE (P : Program) (md : Region.Mode) (ops : Array Oper) (w0 : World) (Rs : Nat → Value → World → Prop) (n : Nat) (L : Array Bool → (World → Prop) → Act → Prop) : Nat → Array Bool → (World → Prop) → Act → Prop
  | 0, listed, F, a => L listed F a
  | f + 1, listed, F, a => Region.ready md ops listed ≠ [] ∧ ∀ i ∈ Region.ready md ops listed, i < n ∧ eOp P ops w0 Rs i (anyE P md ops w0 Rs n L f (listed.setIfInBounds i true)) F a
def Stays (F : World → Prop) : Prop := ∀ w w', F w → Ext w w' → F w'
theorem wpAny_of_anyE {n g : Nat} {L : Array Bool → (World → Prop) → Act → Prop} {Q' : Exit → Act → World → Prop} (hR : ∀ i v, Stays (Rs i v)) (hL : ∀ listed F a, L listed F a → ∀ w, Ext w0 w → F w → wpAny P md ops Q' g listed a w) :
    ∀ (f : Nat) (listed : Array Bool) (F : World → Prop) (a : Act), Stays F → anyE P md ops w0 Rs n L f listed F a → ∀ w, Ext w0 w → F w → wpAny P md ops Q' (f + g) listed a w
  | 0, listed, F, a, _, h, w, hS, hF => by rw [Nat.zero_add]; exact hL _ _ _ h w hS hF
  | f + 1, listed, F, a, hst, h, w, hS, hF => by
    rw [show f + 1 + g = (f + g) + 1 by omega]
    refine ⟨fun h0 => absurd h0 h.1, fun i hi => ?_⟩
    obtain ⟨_, o, ho, hy, hK⟩ := h.2 i hi
    exact hy.wpOp ho hS (fun v w' hv hE => wpAny_of_anyE hR hL f _ _ _ (fun x y ⟨h1, h2⟩ hxy => ⟨hst x y h1 hxy, hR i v x y h2 hxy⟩) (hK v ⟨w', hv⟩) w' (hS.trans hE) ⟨hst w w' hF hE, hv⟩)
theorem anyE_mono {n : Nat} {L : Array Bool → (World → Prop) → Act → Prop} (hL : ∀ listed F F' a, (∀ w, F' w → F w) → L listed F a → L listed F' a) :
    ∀ (f : Nat) (listed : Array Bool) (F F' : World → Prop) (a : Act), (∀ w, F' w → F w) → anyE P md ops w0 Rs n L f listed F a → anyE P md ops w0 Rs n L f listed F' a
  | 0, _, _, _, _, h, H => hL _ _ _ _ h H
  | f + 1, _, _, _, _, h, H => ⟨H.1, fun i hi => by
      obtain ⟨hn, o, ho, hy, hK⟩ := H.2 i hi
      exact ⟨hn, o, ho, hy, fun v hv => anyE_mono hL f _ _ _ _ (fun w ⟨h1, h2⟩ => ⟨h w h1, h2⟩) (hK v hv)⟩⟩
theorem anyE_first {n i : Nat} {oi : Oper} {L : Array Bool → (World → Prop) → Act → Prop} (hi : ops[i]? = some oi) (hsel : ∀ (j : Nat) (o : Oper) cs b, ops[j]? = some o → o.op ≠ .select cs b)
    (hs : Region.sinkB md ops n = true) (hc : Region.chainB md ops n = true) (hn : n < ops.size) (hin : i < n) (hmono : ∀ listed F F' a, (∀ w, F' w → F w) → L listed F a → L listed F' a)
    (hdone : ∀ listed F a, L listed F a → ∀ j ∈ Region.ready md ops listed, n ≤ j) :
    ∀ (f : Nat) (listed : Array Bool) (F : World → Prop) (a : Act), HeadInv md ops n listed →
      (∀ j oj, ops[j]? = some oj → j ≠ i → listed.getD j true = false → (∀ e ∈ oj.after, Region.binds md e = true → e.on ≠ i) → oi.apart ops oj = true) →
      i ∈ Region.ready md ops listed → ExtAt P ops w0 oi (Rs i) a →
      (∀ v, (∃ w, Rs i v w) → anyE P md ops w0 Rs n L f (listed.setIfInBounds i true) (fun w => F w ∧ Rs i v w) (a.put oi.dst v)) → anyE P md ops w0 Rs n L (f + 1) listed F a := by
  intro f
  induction f with
  | zero =>
    intro listed F a inv _ hr hy H
    have hun := (mem_ready.1 hr).1
    refine ⟨fun h => (by rw [h] at hr; cases hr), fun j hj => ?_⟩
    have hjn : j < n := by
      rcases Nat.lt_or_ge j n with h | h
      · exact h
      · exact absurd hj (tail_waits hs hc hn inv _ i rfl hin hun j h)
    refine ⟨hjn, ?_⟩
    by_cases hji : j = i
    · subst hji; exact ⟨oi, hi, hy, H⟩
    · obtain ⟨v0, hv0⟩ := hy.possible
      have := hdone _ _ _ (H v0 hv0) j (ready_mono hj hji)
      omega
  | succ f ih =>
    intro listed F a inv hfree hr hy H
    have hun := (mem_ready.1 hr).1
    refine ⟨fun h => (by rw [h] at hr; cases hr), fun j hj => ?_⟩
    have hjn : j < n := by
      rcases Nat.lt_or_ge j n with h | h
      · exact h
      · exact absurd hj (tail_waits hs hc hn inv _ i rfl hin hun j h)
    refine ⟨hjn, ?_⟩
    by_cases hji : j = i
    · subst hji; exact ⟨oi, hi, hy, H⟩
    · obtain ⟨v0, hv0⟩ := hy.possible
      obtain ⟨_, oj', hoj', hyj0, _⟩ := (H v0 hv0).2 j (ready_mono hj hji)
      obtain ⟨hjun, oj, hoj, hall⟩ := mem_ready.1 hj
      obtain rfl : oj = oj' := Option.some.inj (hoj.symm.trans hoj')
      have hnot : ∀ e ∈ oj.after, Region.binds md e = true → e.on ≠ i := fun e he hb heq => by
        have h1 := hall e he hb
        rw [heq, getD_both hun] at h1
        cases h1
      have hap := hfree j oj hoj hji hjun hnot
      obtain ⟨h1, h2, h3⟩ := Oper.apart_spec hap
      have hsi : ∀ cs b, oi.op ≠ .select cs b := fun cs b => hsel i oi cs b hi
      have hsj : ∀ cs b, oj.op ≠ .select cs b := fun cs b => hsel j oj cs b hoj
      have hyj : ExtAt P ops w0 oj (Rs j) a := hyj0.of_same (execOp_put oj hsj a oi.dst v0 h1).symm (wanted_put oj a oi.dst v0 h1).symm
      refine ⟨oj, hoj, hyj, fun u hu => ?_⟩
      have hfree' : ∀ k ok, ops[k]? = some ok → k ≠ i → (listed.setIfInBounds j true).getD k true = false →
          (∀ e ∈ ok.after, Region.binds md e = true → e.on ≠ i) → oi.apart ops ok = true := fun k ok hk hki hun hno => by
        refine hfree k ok hk hki ?_ hno
        by_cases hjk : j = k
        · subst hjk; exact hjun
        · rw [getD_set_ne true hjk] at hun; exact hun
      refine ih (listed.setIfInBounds j true) _ _ (inv.set hj hjn) hfree' (ready_mono hr (Ne.symm hji)) (hy.of_same (execOp_put oi hsi a oj.dst u h3) (wanted_put oi a oj.dst u h3)) (fun v hv => ?_)
      obtain ⟨_, oj2, hoj2, _, hK2⟩ := (H v hv).2 j (ready_mono hj hji)
      obtain rfl : oj = oj2 := Option.some.inj (hoj.symm.trans hoj2)
      have h4 := hK2 u hu
      rw [Array.setIfInBounds_comm _ _ hji, ← Act.put_comm a v u h2]
      exact anyE_mono hmono _ _ _ _ _ (fun w ⟨⟨q1, q2⟩, q3⟩ => ⟨⟨q1, q3⟩, q2⟩) h4
/-- The first operations, one behind the other. -/
def wpExt (P : Program) (ops : Array Oper) (w0 : World) (Rs : Nat → Value → World → Prop) (Q : (World → Prop) → Act → Prop) : List Oper → Nat → (World → Prop) → Act → Prop
  | [], _, F, a => Q F a
  | o :: rest, k, F, a => ExtAt P ops w0 o (Rs k) a ∧ ∀ v, (∃ w, Rs k v w) → wpExt P ops w0 Rs Q rest (k + 1) (fun w => F w ∧ Rs k v w) (a.put o.dst v)
theorem anyE_lex {n g : Nat} {Lq : (World → Prop) → Act → Prop} (hsel : Region.noSelect ops = true) (hs : Region.sinkB md ops n = true) (hc : Region.chainB md ops n = true) (hn : n < ops.size) (hLq : ∀ F F' a, (∀ w, F' w → F w) → Lq F a → Lq F' a) :
    ∀ (l : List Oper) (k : Nat) (listed : Array Bool) (F : World → Prop) (a : Act), (∀ j, j < l.length → l[j]? = ops[k + j]?) → k + l.length = n → HeadInv md ops n listed →
    Region.lexHead md ops g l.length k listed = true → wpExt P ops w0 Rs Lq l k F a →
    anyE P md ops w0 Rs n (fun listed' F' a' => Region.seqB md ops g n listed' = true ∧ Lq F' a') l.length listed F a
  | [], k, listed, F, a, _, hk, _, hB, h => by
    have : k = n := by simpa using hk
    subst this
    exact ⟨by simpa [Region.lexHead] using hB, h⟩
  | o :: l, k, listed, F, a, hl, hk, inv, hB, h => by
    have h0 : ops[k]? = some o := by simpa using (hl 0 (by simp)).symm
    simp only [List.length_cons, Region.lexHead, Bool.and_eq_true] at hB
    obtain ⟨⟨hr, hf⟩, hB'⟩ := hB
    have hkn : k < n := by simp only [List.length_cons] at hk; omega
    have hr' : k ∈ Region.ready md ops listed := by simpa using hr
    obtain ⟨hy, hK⟩ := h
    exact anyE_first h0 (Region.noSelect_spec hsel) hs hc hn hkn (fun _ _ _ _ q hL => ⟨hL.1, hLq _ _ _ q hL.2⟩) (fun listed' F' a' hL => seqB_ready hL.1) l.length listed F a inv (Region.free_spec h0 hf) hr' hy
      (fun v hv => anyE_lex hsel hs hc hn hLq l (k + 1) _ _ _ (fun j hj => by have := hl (j + 1) (by simp; omega); simpa [Nat.add_assoc, Nat.add_comm 1 j] using this) (by simp only [List.length_cons] at hk; omega) (inv.set hr' hkn) hB' (hK v hv))
/-- The first n in whatever order, then the rest, one behind the other. -/
theorem region_ext {id : Nat} {Q : Exit → Act → World → Prop} {a : Act} {w : World} {l : List Oper} (Rs : Nat → Value → World → Prop) (hR : ∀ i v, Stays (Rs i v)) (n : Nat) (hm : P.follows .mixedOrders = true) (hB : Region.lexTailB .any l.toArray n = true)
    (h : wpExt P l.toArray w.drew Rs (fun F a' => ∀ w', Ext w.drew w' → F w' → wpList P l.toArray Q (l.drop n) a' w') (l.take n) 0 (fun _ => True) a) : (Code.region id l.toArray true).wp P Q a w := by
  simp only [Region.lexTailB, Bool.and_eq_true, decide_eq_true_eq] at hB
  obtain ⟨⟨⟨⟨hsel, hn⟩, hs⟩, hc⟩, hlex⟩ := hB
  have hn' : n < l.length := by simpa using hn
  have htl : (l.take n).length = n := by simp; omega
  have hdl : (l.drop n).length = l.toArray.size - n := by simp
  have inv0 : HeadInv .any l.toArray n (Array.replicate l.toArray.size false) :=
    ⟨by simp, fun j oj _ hl => (by rw [getD_replicate_false] at hl; cases hl), fun t _ ht => getD_in (by simpa using ht) (getD_replicate_false _ _)⟩
  have H := anyE_lex (md := .any) (g := l.toArray.size - n) hsel hs hc hn (fun F F' a q hL w' h1 h2 => hL w' h1 (q w' h2)) (l.take n) 0 _ _ a (fun j hj => by
    have hj' : j < n := by rw [htl] at hj; exact hj
    simp [hj']) (by simpa using htl) inv0 (by rw [htl]; exact hlex) h
  refine wp_region_any hm ?_
  have := wpAny_of_anyE (Q' := Q) (g := l.toArray.size - n) hR (fun listed F a' hL w' hS' hF => by
    have := wpAny_of_seq (md := .any) (Q' := Q) (l.drop n) n listed a' w' (fun j => by simp [List.getElem?_drop]) (by rw [hdl]; exact hL.1) (hL.2 w' hS' hF)
    rwa [hdl] at this) _ _ _ _ (fun _ _ _ _ => trivial) H w.drew (Ext.refl _) trivial
  rw [htl, show n + (l.toArray.size - n) = l.toArray.size by omega] at this
  exact this
/-! What is known of a value. -/
def isV (c : Value) : Value → World → Prop := fun v _ => v = c
/-- a new block that is just these cells. -/
def isNew (B : Nat) (t : TypeId) (cs : Array Value) : Value → World → Prop := fun v w => ∃ b, v = .pointer (some ⟨b, 0, none⟩) ∧ B ≤ b ∧ w.heap[b]? = some (.cells cs t (0, 0))
theorem stays_isV (c v : Value) : Stays (isV c v) := fun _ _ h _ => h
theorem stays_isNew (B : Nat) (t : TypeId) (cs : Array Value) (v : Value) : Stays (isNew B t cs v) := fun w w' ⟨b, h1, h2, h3⟩ hE => by
  refine ⟨b, h1, h2, ?_⟩
  have hlt : b < w.heap.size := by
    rcases Nat.lt_or_ge b w.heap.size with h | h
    · exact h
    · rw [Array.getElem?_eq_none h] at h3; cases h3
  exact (Below.block hE b hlt).trans h3
theorem stays_true : Stays (fun _ => True) := fun _ _ _ _ => trivial
def kindsOf (l : List (Value → World → Prop)) : Nat → Value → World → Prop := fun i => l.getD i (fun _ _ => True)
theorem kindsOf_stays (l : List (Value → World → Prop)) (h : ∀ R ∈ l, ∀ v, Stays (R v)) : ∀ i v, Stays (kindsOf l i v) := by
  intro i v
  unfold kindsOf
  rcases Nat.lt_or_ge i l.length with hi | hi
  · rw [List.getD, List.getElem?_eq_getElem hi]
    exact h _ (List.getElem_mem hi) v
  · rw [List.getD, List.getElem?_eq_none hi]
    exact stays_true
theorem wpExt_nil {Q : (World → Prop) → Act → Prop} {F : World → Prop} {a : Act} {k : Nat} (h : Q F a) : wpExt P ops w0 Rs Q [] k F a := h
theorem wpExt_val {Q : (World → Prop) → Act → Prop} {F : World → Prop} {a : Act} {k : Nat} {o : Oper} {rest : List Oper} (c : Value) (hR : Rs k = isV c) (hw : Region.wanted o (yielded ops a.tmps) = true) (hr : ∀ w, Ext w0 w → (execOp a.eval o).run P w = .ok (.value c) w)
    (h2 : wpExt P ops w0 Rs Q rest (k + 1) (fun w => F w ∧ Rs k c w) (a.put o.dst c)) : wpExt P ops w0 Rs Q (o :: rest) k F a := by
  refine ⟨.inl ⟨hw, fun w hE => by rw [hr w hE, hR]; exact ⟨Ext.refl _, rfl⟩⟩, fun v ⟨w, hv⟩ => ?_⟩
  rw [hR] at hv
  obtain rfl : v = c := hv
  exact h2
theorem wpExt_call {Q : (World → Prop) → Act → Prop} {F : World → Prop} {a : Act} {k : Nat} {o : Oper} {rest : List Oper} (c : Value) (f : FuncId) (args : Array Value) (hR : Rs k = isV c) (hw : Region.wanted o (yielded ops a.tmps) = true) (hr : ∀ w, (execOp a.eval o).run P w = .ok (.enter f args) w)
    (h : ∀ w, Ext w0 w → Calls P f args w (fun e w' => e = .returned c ∧ Ext w w')) (h2 : wpExt P ops w0 Rs Q rest (k + 1) (fun w => F w ∧ Rs k c w) (a.put o.dst c)) : wpExt P ops w0 Rs Q (o :: rest) k F a := by
  refine ⟨.inl ⟨hw, fun w hE => by rw [hr w, hR]; exact (h w hE).mono fun e w' ⟨he, hx⟩ => ⟨c, he, hx, rfl⟩⟩, fun v ⟨w, hv⟩ => ?_⟩
  rw [hR] at hv
  obtain rfl : v = c := hv
  exact h2
theorem wpExt_skip {Q : (World → Prop) → Act → Prop} {F : World → Prop} {a : Act} {k : Nat} {o : Oper} {rest : List Oper} (hR : Rs k = isV undef) (hw : Region.wanted o (yielded ops a.tmps) = false)
    (h2 : wpExt P ops w0 Rs Q rest (k + 1) (fun w => F w ∧ Rs k undef w) (a.put o.dst undef)) : wpExt P ops w0 Rs Q (o :: rest) k F a := by
  refine ⟨.inr ⟨hw, fun w _ => by rw [hR]; rfl⟩, fun v ⟨w, hv⟩ => ?_⟩
  rw [hR] at hv
  obtain rfl : v = undef := hv
  exact h2
theorem wpExt_new {Q : (World → Prop) → Act → Prop} {F : World → Prop} {a : Act} {k : Nat} {o : Oper} {rest : List Oper} (t : TypeId) (cs : Array Value) (hR : Rs k = isNew w0.heap.size t cs) (hw : Region.wanted o (yielded ops a.tmps) = true)
    (hr : ∀ w, (execOp a.eval o).run P w = .ok (.value (.pointer (some ⟨w.heap.size, 0, none⟩))) (w.alloc (.cells cs t)))
    (h2 : ∀ b, w0.heap.size ≤ b → wpExt P ops w0 Rs Q rest (k + 1) (fun w => F w ∧ Rs k (.pointer (some ⟨b, 0, none⟩)) w) (a.put o.dst (.pointer (some ⟨b, 0, none⟩)))) : wpExt P ops w0 Rs Q (o :: rest) k F a := by
  refine ⟨.inl ⟨hw, fun w hE => by
    rw [hr w, hR]
    exact ⟨(Below.refl _ _).alloc (Nat.le_refl _) _, _, rfl, hE.size, by show (w.heap.push _)[w.heap.size]? = _; simp⟩⟩, fun v ⟨w, hv⟩ => ?_⟩
  rw [hR] at hv
  obtain ⟨b, rfl, hb, _⟩ := hv
  exact h2 b hb
end
end Go.Proofs.Yteabblmhcjpboaa.D
