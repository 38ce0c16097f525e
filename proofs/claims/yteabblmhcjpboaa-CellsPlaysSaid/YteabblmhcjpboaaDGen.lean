/- A region that draws its order, whose first operations keep to a relation E of worlds (reflexive, transitive), whatever order they come in, each leaving a value of which something is known that stays so along E. -/
import Derived.Test.YteabblmhcjpboaaDPair
import Derived.Test.YteabblmhcjpboaaDIdx
namespace Go.Proofs.Yteabblmhcjpboaa.D
open Go Go.RowKit
section
variable {P : Program} {ops : Array Oper} {md : Region.Mode} {Rs : Nat → Sem Next → Value → World → Prop} {w0 : World} {E : World → World → Prop}

def Preo (E : World → World → Prop) : Prop := (∀ w, E w w) ∧ ∀ a b c, E a b → E b c → E a c
def RunG (E : World → World → Prop) (P : Program) (R : Value → World → Prop) (w : World) : Result Next → Prop
  | .ok (.value v) w' => E w w' ∧ R v w'
  | .ok .skip w' => E w w' ∧ R undef w'
  | .ok (.enter f args) w' => Calls P f args w' (fun e w'' => ∃ v, e = .returned v ∧ E w w'' ∧ R v w'')
  | _ => False
def GAt (E : World → World → Prop) (P : Program) (ops : Array Oper) (w0 : World) (o : Oper) (R : Value → World → Prop) (a : Act) : Prop :=
  (Region.wanted o (yielded ops a.tmps) = true ∧ ∀ w, E w0 w → RunG E P R w ((execOp a.eval o).run P w)) ∨ (Region.wanted o (yielded ops a.tmps) = false ∧ ∀ w, E w0 w → R undef w)
theorem GAt.of_same {o : Oper} {R : Value → World → Prop} {a a' : Act} (hy : GAt E P ops w0 o R a) (he : execOp a'.eval o = execOp a.eval o)
    (hw : Region.wanted o (yielded ops a'.tmps) = Region.wanted o (yielded ops a.tmps)) : GAt E P ops w0 o R a' := by
  unfold GAt at *
  rw [he, hw]
  exact hy
theorem GAt.possible (hP : Preo E) {o : Oper} {R : Value → World → Prop} {a : Act} (hy : GAt E P ops w0 o R a) : ∃ v w, R v w := by
  rcases hy with ⟨_, h⟩ | ⟨_, h⟩
  · have h1 := h w0 (hP.1 _)
    generalize (execOp a.eval o).run P w0 = r at h1
    cases r with
    | ok n w' =>
      cases n <;> simp only [RunG] at h1
      case value u => exact ⟨u, w', h1.2⟩
      case skip => exact ⟨undef, w', h1.2⟩
      case enter f args =>
        obtain ⟨e, w2, _, ⟨v, _, _, hr⟩, _⟩ := h1 []
        exact ⟨v, w2, hr⟩
    | halt x w' => simp only [RunG] at h1
  · exact ⟨undef, w0, h w0 (hP.1 _)⟩
theorem GAt.wpOp (hP : Preo E) {i : Nat} {o : Oper} {R : Value → World → Prop} {a : Act} {Q' : Exit → Act → World → Prop} {K : Act → World → Prop} (hi : ops[i]? = some o) (hy : GAt E P ops w0 o R a) {w : World} (hS : E w0 w) (h : ∀ v w', R v w' → E w w' → K (a.put o.dst v) w') :
    wpOp P ops Q' i K a w := by
  unfold Go.wpOp
  simp only [hi]
  rcases hy with ⟨hw, hv⟩ | ⟨hw, hv⟩
  · rw [if_pos hw]
    refine .inl ?_
    unfold Oper.wp
    have h1 := hv w hS
    generalize (execOp a.eval o).run P w = r at h1
    cases r with
    | ok n w' =>
      cases n <;> simp only [RunG] at h1 <;> simp only [Oper.upon]
      case value u => exact h _ _ h1.2 h1.1
      case skip => exact h _ _ h1.2 h1.1
      case enter f args => exact h1.mono fun e w'' ⟨v, he, hE, hR⟩ => by subst he; exact h _ _ hR hE
    | halt x w' => simp only [RunG] at h1
  · rw [hw, if_neg (by simp)]
    exact h _ _ (hv w hS) (hP.1 _)
def gOp (E : World → World → Prop) (P : Program) (ops : Array Oper) (w0 : World) (Rs : Nat → Sem Next → Value → World → Prop) (i : Nat) (K : (World → Prop) → Act → Prop) (F : World → Prop) (a : Act) : Prop :=
  ∃ o, ops[i]? = some o ∧ GAt E P ops w0 o (Rs i (execOp a.eval o)) a ∧ ∀ v, (∃ w, Rs i (execOp a.eval o) v w) → K (fun w => F w ∧ Rs i (execOp a.eval o) v w) (a.put o.dst v)
def anyG (E : World → World → Prop) (P : Program) (md : Region.Mode) (ops : Array Oper) (w0 : World) (Rs : Nat → Sem Next → Value → World → Prop) (n : Nat) (L : Array Bool → (World → Prop) → Act → Prop) : Nat → Array Bool → (World → Prop) → Act → Prop
  | 0, listed, F, a => L listed F a
  | f + 1, listed, F, a => Region.ready md ops listed ≠ [] ∧ ∀ i ∈ Region.ready md ops listed, i < n ∧ gOp E P ops w0 Rs i (anyG E P md ops w0 Rs n L f (listed.setIfInBounds i true)) F a
def StaysG (E : World → World → Prop) (F : World → Prop) : Prop := ∀ w w', F w → E w w' → F w'
theorem wpAny_of_anyG (hP : Preo E) {n g : Nat} {L : Array Bool → (World → Prop) → Act → Prop} {Q' : Exit → Act → World → Prop} (hR : ∀ i z v, StaysG E (Rs i z v)) (hL : ∀ listed F a, L listed F a → ∀ w, E w0 w → F w → wpAny P md ops Q' g listed a w) :
    ∀ (f : Nat) (listed : Array Bool) (F : World → Prop) (a : Act), StaysG E F → anyG E P md ops w0 Rs n L f listed F a → ∀ w, E w0 w → F w → wpAny P md ops Q' (f + g) listed a w
  | 0, listed, F, a, _, h, w, hS, hF => by rw [Nat.zero_add]; exact hL _ _ _ h w hS hF
  | f + 1, listed, F, a, hst, h, w, hS, hF => by
    rw [show f + 1 + g = (f + g) + 1 by omega]
    refine ⟨fun h0 => absurd h0 h.1, fun i hi => ?_⟩
    obtain ⟨_, o, ho, hy, hK⟩ := h.2 i hi
    exact hy.wpOp hP ho hS (fun v w' hv hE => wpAny_of_anyG hP hR hL f _ _ _ (fun x y ⟨h1, h2⟩ hxy => ⟨hst x y h1 hxy, hR i _ v x y h2 hxy⟩) (hK v ⟨w', hv⟩) w' (hP.2 _ _ _ hS hE) ⟨hst w w' hF hE, hv⟩)
theorem anyG_mono {n : Nat} {L : Array Bool → (World → Prop) → Act → Prop} (hL : ∀ listed F F' a, (∀ w, F' w → F w) → L listed F a → L listed F' a) :
    ∀ (f : Nat) (listed : Array Bool) (F F' : World → Prop) (a : Act), (∀ w, F' w → F w) → anyG E P md ops w0 Rs n L f listed F a → anyG E P md ops w0 Rs n L f listed F' a
  | 0, _, _, _, _, h, H => hL _ _ _ _ h H
  | f + 1, _, _, _, _, h, H => ⟨H.1, fun i hi => by
      obtain ⟨hn, o, ho, hy, hK⟩ := H.2 i hi
      exact ⟨hn, o, ho, hy, fun v hv => anyG_mono hL f _ _ _ _ (fun w ⟨h1, h2⟩ => ⟨h w h1, h2⟩) (hK v hv)⟩⟩
/-- The first k0 are listed; of the others only such as are ahead of n. -/
structure HeadInvK (md : Region.Mode) (ops : Array Oper) (n k0 : Nat) (listed : Array Bool) : Prop where
  head : HeadInv md ops n listed
  pre : ∀ i, i < k0 → listed.getD i true = true
theorem HeadInvK.set {n k0 i : Nat} {listed : Array Bool} (inv : HeadInvK md ops n k0 listed) (hi : i ∈ Region.ready md ops listed) (hin : i < n) : HeadInvK md ops n k0 (listed.setIfInBounds i true) := by
  refine ⟨inv.head.set hi hin, fun j hj => ?_⟩
  by_cases h : i = j
  · subst h
    have h1 := inv.pre i hj
    have h2 := (mem_ready.1 hi).1
    rw [h1] at h2; cases h2
  · rw [getD_set_ne true h]; exact inv.pre j hj
def WaitsK (md : Region.Mode) (ops : Array Oper) (n k0 : Nat) : Prop := ∀ listed, HeadInvK md ops n k0 listed → ∀ i, i < n → listed.getD i true = false → ∀ t, n ≤ t → t ∉ Region.ready md ops listed
def sinkK (md : Region.Mode) (ops : Array Oper) (n k0 t : Nat) : Bool :=
  (List.range n).all fun i => decide (i < k0) || ((List.range n).any fun j => decide (i < j) && Region.waitsFor md ops j i) || Region.waitsFor md ops t i
/-- each of the tail waits for all the head, or for one of the tail. -/
def tailK (md : Region.Mode) (ops : Array Oper) (n k0 : Nat) : Bool :=
  (List.range ops.size).all fun t => decide (t < n) || sinkK md ops n k0 t || ((List.range ops.size).any fun u => decide (n ≤ u) && Region.waitsFor md ops t u)
theorem waitsK_of {n k0 : Nat} (hs : tailK md ops n k0 = true) : WaitsK md ops n k0 := by
  have key : ∀ listed, HeadInvK md ops n k0 listed → ∀ (d i : Nat), n - i = d → i < n → listed.getD i true = false → ∀ t, n ≤ t → t ∉ Region.ready md ops listed := by
    intro listed inv d
    induction d using Nat.strongRecOn with
    | _ d ih =>
      intro i hd hi hun t ht hr
      obtain ⟨_, ot, hot, hall⟩ := mem_ready.1 hr
      have htlt : t < ops.size := (Array.getElem?_eq_some_iff.1 hot).1
      have hst := List.all_eq_true.1 hs t (List.mem_range.2 htlt)
      simp only [Bool.or_eq_true, decide_eq_true_eq] at hst
      rcases hst with (hst | hst) | hst
      · omega
      · have h1 := List.all_eq_true.1 hst i (List.mem_range.2 hi)
        simp only [Bool.or_eq_true, decide_eq_true_eq] at h1
        rcases h1 with (h1 | h1) | h1
        · have := inv.pre i h1; rw [hun] at this; cases this
        · obtain ⟨j, hj, hj2⟩ := List.any_eq_true.1 h1
          simp only [Bool.and_eq_true, decide_eq_true_eq] at hj2
          have hjn := List.mem_range.1 hj
          obtain ⟨oj, hoj, e, he, hb, hon⟩ := Region.waitsFor_spec hj2.2
          cases hl : listed.getD j false with
          | true =>
            have h2 := inv.head.closed j oj hoj hl e he hb
            rw [hon, getD_both hun] at h2
            cases h2
          | false =>
            have hjs : j < listed.size := by rw [inv.head.size]; omega
            exact ih (n - j) (by omega) j rfl hjn (getD_in hjs hl) t ht hr
        · obtain ⟨oj, hoj, e, he, hb, hon⟩ := Region.waitsFor_spec h1
          have : oj = ot := Option.some.inj (hoj.symm.trans hot)
          subst this
          have h2 := hall e he hb
          rw [hon, getD_both hun] at h2
          cases h2
      · obtain ⟨u, hu, hu2⟩ := List.any_eq_true.1 hst
        simp only [Bool.and_eq_true, decide_eq_true_eq] at hu2
        obtain ⟨o', ho', e, he, hb, hon⟩ := Region.waitsFor_spec hu2.2
        have : o' = ot := Option.some.inj (ho'.symm.trans hot)
        subst this
        have h2 := hall e he hb
        rw [hon, getD_both (inv.head.tail u hu2.1 (List.mem_range.1 hu))] at h2
        cases h2
  exact fun listed inv i hi hun => key listed inv _ i rfl hi hun
theorem anyG_first (hP : Preo E) {n i k0 : Nat} {oi : Oper} {L : Array Bool → (World → Prop) → Act → Prop} (hi : ops[i]? = some oi) (hsel : ∀ (j : Nat) (o : Oper) cs b, ops[j]? = some o → o.op ≠ .select cs b)
    (hw : WaitsK md ops n k0) (hin : i < n) (hmono : ∀ listed F F' a, (∀ w, F' w → F w) → L listed F a → L listed F' a)
    (hdone : ∀ listed F a, L listed F a → ∀ j ∈ Region.ready md ops listed, n ≤ j) :
    ∀ (f : Nat) (listed : Array Bool) (F : World → Prop) (a : Act), HeadInvK md ops n k0 listed →
      (∀ j oj, ops[j]? = some oj → j ≠ i → listed.getD j true = false → (∀ e ∈ oj.after, Region.binds md e = true → e.on ≠ i) → oi.apart ops oj = true) →
      i ∈ Region.ready md ops listed → GAt E P ops w0 oi (Rs i (execOp a.eval oi)) a →
      (∀ v, (∃ w, Rs i (execOp a.eval oi) v w) → anyG E P md ops w0 Rs n L f (listed.setIfInBounds i true) (fun w => F w ∧ Rs i (execOp a.eval oi) v w) (a.put oi.dst v)) → anyG E P md ops w0 Rs n L (f + 1) listed F a := by
  intro f
  induction f with
  | zero =>
    intro listed F a inv _ hr hy H
    have hun := (mem_ready.1 hr).1
    refine ⟨fun h => (by rw [h] at hr; cases hr), fun j hj => ?_⟩
    have hjn : j < n := by
      rcases Nat.lt_or_ge j n with h | h
      · exact h
      · exact absurd hj (hw _ inv i hin hun j h)
    refine ⟨hjn, ?_⟩
    by_cases hji : j = i
    · subst hji; exact ⟨oi, hi, hy, H⟩
    · obtain ⟨v0, hv0⟩ := hy.possible hP
      have := hdone _ _ _ (H v0 hv0) j (ready_mono hj hji)
      omega
  | succ f ih =>
    intro listed F a inv hfree hr hy H
    have hun := (mem_ready.1 hr).1
    refine ⟨fun h => (by rw [h] at hr; cases hr), fun j hj => ?_⟩
    have hjn : j < n := by
      rcases Nat.lt_or_ge j n with h | h
      · exact h
      · exact absurd hj (hw _ inv i hin hun j h)
    refine ⟨hjn, ?_⟩
    by_cases hji : j = i
    · subst hji; exact ⟨oi, hi, hy, H⟩
    · obtain ⟨v0, hv0⟩ := hy.possible hP
      obtain ⟨_, oj', hoj', hyj0, _⟩ := (H v0 hv0).2 j (ready_mono hj hji)
      obtain ⟨hjun, oj, hoj, hall⟩ := mem_ready.1 hj
      obtain rfl : oj = oj' := Option.some.inj (hoj.symm.trans hoj')
      have hnot : ∀ e ∈ oj.after, Region.binds md e = true → e.on ≠ i := fun e he hb heq => by
        have h1 := hall e he hb
        rw [heq, getD_both hun] at h1
        cases h1
      have hap := hfree j oj hoj hji hjun hnot
      obtain ⟨h1, h2, h3⟩ := Oper.apart_spec hap
      have hsi : ∀ cs b, oi.op ≠ .select cs b := fun cs b => hsel i oi cs b hi
      have hsj : ∀ cs b, oj.op ≠ .select cs b := fun cs b => hsel j oj cs b hoj
      rw [execOp_put oj hsj a oi.dst v0 h1] at hyj0
      have hyj : GAt E P ops w0 oj (Rs j (execOp a.eval oj)) a := hyj0.of_same (execOp_put oj hsj a oi.dst v0 h1).symm (wanted_put oj a oi.dst v0 h1).symm
      refine ⟨oj, hoj, hyj, fun u hu => ?_⟩
      have hfree' : ∀ k ok, ops[k]? = some ok → k ≠ i → (listed.setIfInBounds j true).getD k true = false →
          (∀ e ∈ ok.after, Region.binds md e = true → e.on ≠ i) → oi.apart ops ok = true := fun k ok hk hki hun hno => by
        refine hfree k ok hk hki ?_ hno
        by_cases hjk : j = k
        · subst hjk; exact hjun
        · rw [getD_set_ne true hjk] at hun; exact hun
      refine ih (listed.setIfInBounds j true) _ _ (inv.set hj hjn) hfree' (ready_mono hr (Ne.symm hji)) (by rw [execOp_put oi hsi a oj.dst u h3]; exact hy.of_same (execOp_put oi hsi a oj.dst u h3) (wanted_put oi a oj.dst u h3)) (fun v hv => ?_)
      rw [execOp_put oi hsi a oj.dst u h3] at hv
      obtain ⟨_, oj2, hoj2, _, hK2⟩ := (H v hv).2 j (ready_mono hj hji)
      obtain rfl : oj = oj2 := Option.some.inj (hoj.symm.trans hoj2)
      rw [execOp_put oj hsj a oi.dst v h1] at hK2
      have h4 := hK2 u hu
      rw [Array.setIfInBounds_comm _ _ hji, ← Act.put_comm a v u h2, execOp_put oi hsi a oj.dst u h3]
      exact anyG_mono hmono _ _ _ _ _ (fun w ⟨⟨q1, q2⟩, q3⟩ => ⟨⟨q1, q3⟩, q2⟩) h4
/-- The first operations, one behind the other. -/
def wpG (E : World → World → Prop) (P : Program) (ops : Array Oper) (w0 : World) (Rs : Nat → Sem Next → Value → World → Prop) (Q : (World → Prop) → Act → Prop) : List Oper → Nat → (World → Prop) → Act → Prop
  | [], _, F, a => Q F a
  | o :: rest, k, F, a => GAt E P ops w0 o (Rs k (execOp a.eval o)) a ∧ ∀ v, (∃ w, Rs k (execOp a.eval o) v w) → wpG E P ops w0 Rs Q rest (k + 1) (fun w => F w ∧ Rs k (execOp a.eval o) v w) (a.put o.dst v)
theorem anyG_lex (hP : Preo E) {n g k0 : Nat} {Lq : (World → Prop) → Act → Prop} (hsel : Region.noSelect ops = true) (hw : WaitsK md ops n k0) (hLq : ∀ F F' a, (∀ w, F' w → F w) → Lq F a → Lq F' a) :
    ∀ (l : List Oper) (k : Nat) (listed : Array Bool) (F : World → Prop) (a : Act), (∀ j, j < l.length → l[j]? = ops[k + j]?) → k + l.length = n → HeadInvK md ops n k0 listed →
    Region.lexHead md ops g l.length k listed = true → wpG E P ops w0 Rs Lq l k F a →
    anyG E P md ops w0 Rs n (fun listed' F' a' => Region.seqB md ops g n listed' = true ∧ Lq F' a') l.length listed F a
  | [], k, listed, F, a, _, hk, _, hB, h => by
    have : k = n := by simpa using hk
    subst this
    exact ⟨by simpa [Region.lexHead] using hB, h⟩
  | o :: l, k, listed, F, a, hl, hk, inv, hB, h => by
    have h0 : ops[k]? = some o := by simpa using (hl 0 (by simp)).symm
    simp only [List.length_cons, Region.lexHead, Bool.and_eq_true] at hB
    obtain ⟨⟨hr, hf⟩, hB'⟩ := hB
    have hkn : k < n := by simp only [List.length_cons] at hk; omega
    have hr' : k ∈ Region.ready md ops listed := by simpa using hr
    obtain ⟨hy, hK⟩ := h
    exact anyG_first hP h0 (Region.noSelect_spec hsel) hw hkn (fun _ _ _ _ q hL => ⟨hL.1, hLq _ _ _ q hL.2⟩) (fun listed' F' a' hL => seqB_ready hL.1) l.length listed F a inv (Region.free_spec h0 hf) hr' hy
      (fun v hv => anyG_lex hP hsel hw hLq l (k + 1) _ _ _ (fun j hj => by have := hl (j + 1) (by simp; omega); simpa [Nat.add_assoc, Nat.add_comm 1 j] using this) (by simp only [List.length_cons] at hk; omega) (inv.set hr' hkn) hB' (hK v hv))
theorem anyG_lexP (hP : Preo E) {n k0 : Nat} {Lq : (World → Prop) → Act → Prop} (hsel : Region.noSelect ops = true) (hw : WaitsK md ops n k0) (hLq : ∀ F F' a, (∀ w, F' w → F w) → Lq F a → Lq F' a) :
    ∀ (l : List Oper) (k : Nat) (listed : Array Bool) (F : World → Prop) (a : Act), (∀ j, j < l.length → l[j]? = ops[k + j]?) → k + l.length = n → HeadInvK md ops n k0 listed →
    lexHead2 md ops l.length k listed = true → wpG E P ops w0 Rs Lq l k F a →
    anyG E P md ops w0 Rs n (fun listed' F' a' => pairB md ops n listed' = true ∧ Lq F' a') l.length listed F a
  | [], k, listed, F, a, _, hk, _, hB, h => by
    have : k = n := by simpa using hk
    subst this
    exact ⟨by simpa [lexHead2] using hB, h⟩
  | o :: l, k, listed, F, a, hl, hk, inv, hB, h => by
    have h0 : ops[k]? = some o := by simpa using (hl 0 (by simp)).symm
    simp only [List.length_cons, lexHead2, Bool.and_eq_true] at hB
    obtain ⟨⟨hr, hf⟩, hB'⟩ := hB
    have hkn : k < n := by simp only [List.length_cons] at hk; omega
    have hr' : k ∈ Region.ready md ops listed := by simpa using hr
    obtain ⟨hy, hK⟩ := h
    exact anyG_first hP h0 (Region.noSelect_spec hsel) hw hkn (fun _ _ _ _ q hL => ⟨hL.1, hLq _ _ _ q hL.2⟩) (fun listed' F' a' hL => pairB_ready hL.1) l.length listed F a inv (Region.free_spec h0 hf) hr' hy
      (fun v hv => anyG_lexP hP hsel hw hLq l (k + 1) _ _ _ (fun j hj => by have := hl (j + 1) (by simp; omega); simpa [Nat.add_assoc, Nat.add_comm 1 j] using this) (by simp only [List.length_cons] at hk; omega) (inv.set hr' hkn) hB' (hK v hv))
def preB (md : Region.Mode) (ops : Array Oper) (k0 : Nat) (listed : Array Bool) : Bool :=
  decide (listed.size = ops.size) && ((List.range ops.size).all fun i => listed.getD i (decide (i < k0)) == decide (i < k0)) && ((List.range k0).all fun i => match ops[i]? with | some o => o.after.all (fun e => !Region.binds md e || decide (e.on < k0)) | none => false)
theorem preB_inv {n k0 : Nat} {listed : Array Bool} (hk : k0 ≤ n) (hn : n ≤ ops.size) (h : preB md ops k0 listed = true) : HeadInvK md ops n k0 listed := by
  simp only [preB, Bool.and_eq_true, decide_eq_true_eq] at h
  obtain ⟨⟨h1, h2⟩, h3⟩ := h
  have g : ∀ i, i < ops.size → ∀ d, listed.getD i d = decide (i < k0) := fun i hi d => by
    have := List.all_eq_true.1 h2 i (List.mem_range.2 hi)
    have hl : i < listed.size := by omega
    simp [Array.getD, hl] at this ⊢
    exact this
  refine ⟨⟨h1, fun j oj hj hl e he hb => ?_, fun t ht htl => ?_⟩, fun i hi => ?_⟩
  · have hjs : j < ops.size := (Array.getElem?_eq_some_iff.1 hj).1
    rw [g j hjs] at hl
    have hjk : j < k0 := by simpa using hl
    have := List.all_eq_true.1 h3 j (List.mem_range.2 hjk)
    rw [hj] at this
    have := Array.all_eq_true_iff_forall_mem.1 this e he
    simp [hb] at this
    rw [g e.on (by omega)]
    simpa using this
  · rw [g t htl]; simp; omega
  · rw [g i (by omega)]; simpa using hi
def lexTailK (ops : Array Oper) (k0 n : Nat) (listed : Array Bool) : Bool :=
  Region.noSelect ops && decide (n < ops.size) && decide (k0 ≤ n) && tailK .any ops n k0 && preB .any ops k0 listed && Region.lexHead .any ops (ops.size - n) (n - k0) k0 listed
/-- The first k0 are listed; those ahead of n in whatever order; then the rest, one behind the other. -/
theorem any_gen (hP : Preo E) {Q : Exit → Act → World → Prop} {a : Act} {w : World} {l : List Oper} {listed : Array Bool} (Rs : Nat → Sem Next → Value → World → Prop) (hR : ∀ i z v, StaysG E (Rs i z v)) (k0 n f : Nat) (hf : f = l.toArray.size - k0) (hB : lexTailK l.toArray k0 n listed = true)
    (h : wpG E P l.toArray w Rs (fun F a' => ∀ w', E w w' → F w' → wpList P l.toArray Q (l.drop n) a' w') ((l.drop k0).take (n - k0)) k0 (fun _ => True) a) : wpAny P .any l.toArray Q f listed a w := by
  simp only [lexTailK, Bool.and_eq_true, decide_eq_true_eq] at hB
  obtain ⟨⟨⟨⟨⟨hsel, hn⟩, hk⟩, ht⟩, hp⟩, hlex⟩ := hB
  have hn' : n < l.length := by simpa using hn
  have htl : ((l.drop k0).take (n - k0)).length = n - k0 := by simp; omega
  have hdl : (l.drop n).length = l.toArray.size - n := by simp
  have H := anyG_lex hP (md := .any) (g := l.toArray.size - n) hsel (waitsK_of ht) (fun F F' a q hL w' h1 h2 => hL w' h1 (q w' h2)) ((l.drop k0).take (n - k0)) k0 listed _ a (fun j hj => by
    have hj' : j < n - k0 := by rw [htl] at hj; exact hj
    simp [hj']) (by rw [htl]; omega) (preB_inv hk (Nat.le_of_lt hn) hp) (by rw [htl]; exact hlex) h
  have := wpAny_of_anyG hP (Q' := Q) (g := l.toArray.size - n) hR (fun listed F a' hL w' hS' hF => by
    have := wpAny_of_seq (md := .any) (Q' := Q) (l.drop n) n listed a' w' (fun j => by simp [List.getElem?_drop]) (by rw [hdl]; exact hL.1) (hL.2 w' hS' hF)
    rwa [hdl] at this) _ _ _ _ (fun _ _ _ _ => trivial) H w (hP.1 _) trivial
  rw [htl, show (n - k0) + (l.toArray.size - n) = f by omega] at this
  exact this
def lexPairK (ops : Array Oper) (k0 n : Nat) (listed : Array Bool) : Bool :=
  Region.noSelect ops && decide (n + 2 = ops.size) && decide (k0 ≤ n) && tailK .any ops n k0 && preB .any ops k0 listed && lexHead2 .any ops (n - k0) k0 listed
/-- The same; the last two in either order. -/
theorem any_gen2 (hP : Preo E) {Q : Exit → Act → World → Prop} {a : Act} {w : World} {l : List Oper} {listed : Array Bool} {o1 o2 : Oper} (Rs : Nat → Sem Next → Value → World → Prop) (hR : ∀ i z v, StaysG E (Rs i z v)) (k0 n f : Nat) (hf : f = l.toArray.size - k0) (hB : lexPairK l.toArray k0 n listed = true) (hd : l.drop n = [o1, o2])
    (h : wpG E P l.toArray w Rs (fun F a' => ∀ w', E w w' → F w' → wpList P l.toArray Q [o1, o2] a' w' ∧ wpList P l.toArray Q [o2, o1] a' w') ((l.drop k0).take (n - k0)) k0 (fun _ => True) a) : wpAny P .any l.toArray Q f listed a w := by
  simp only [lexPairK, Bool.and_eq_true, decide_eq_true_eq] at hB
  obtain ⟨⟨⟨⟨⟨hsel, hn⟩, hk⟩, ht⟩, hp⟩, hlex⟩ := hB
  have hn' : n + 2 = l.length := by simpa using hn
  have htl : ((l.drop k0).take (n - k0)).length = n - k0 := by simp; omega
  have H := anyG_lexP hP (md := .any) hsel (waitsK_of ht) (fun F F' a q hL w' h1 h2 => hL w' h1 (q w' h2)) ((l.drop k0).take (n - k0)) k0 listed _ a (fun j hj => by
    have hj' : j < n - k0 := by rw [htl] at hj; exact hj
    simp [hj']) (by rw [htl]; omega) (preB_inv hk (by omega) hp) (by rw [htl]; exact hlex) h
  have e1 : l.toArray[n]? = some o1 := by have := congrArg (fun q => q[0]?) hd; simpa using this
  have e2 : l.toArray[n + 1]? = some o2 := by have := congrArg (fun q => q[1]?) hd; simpa using this
  have := wpAny_of_anyG hP (Q' := Q) (g := 2) hR (fun listed F a' hL w' hS' hF => wpAny_of_pair e1 e2 hL.1 (hL.2 w' hS' hF).1 (hL.2 w' hS' hF).2) _ _ _ _ (fun _ _ _ _ => trivial) H w (hP.1 _) trivial
  rw [htl, show (n - k0) + 2 = f by omega] at this
  exact this
theorem preo_ext : Preo Ext := ⟨Ext.refl, fun _ _ _ h k => h.trans k⟩
theorem staysG_isV (c v : Value) : StaysG E (isV c v) := fun _ _ h _ => h
theorem staysG_true : StaysG E (fun _ => True) := fun _ _ _ _ => trivial
def kindsG (l : List (Sem Next → Value → World → Prop)) : Nat → Sem Next → Value → World → Prop := fun i => l.getD i (fun _ _ _ => True)
theorem kindsG_stays (l : List (Sem Next → Value → World → Prop)) (h : ∀ R ∈ l, ∀ z v, StaysG E (R z v)) : ∀ i z v, StaysG E (kindsG l i z v) := by
  intro i z v
  unfold kindsG
  rcases Nat.lt_or_ge i l.length with hi | hi
  · rw [List.getD, List.getElem?_eq_getElem hi]
    exact h _ (List.getElem_mem hi) z v
  · rw [List.getD, List.getElem?_eq_none hi]
    exact staysG_true
theorem wpG_nil {Q : (World → Prop) → Act → Prop} {F : World → Prop} {a : Act} {k : Nat} (h : Q F a) : wpG E P ops w0 Rs Q [] k F a := h
theorem wpG_val (hP : Preo E) {Q : (World → Prop) → Act → Prop} {F : World → Prop} {a : Act} {k : Nat} {o : Oper} {rest : List Oper} (c : Value) (hR : Rs k (execOp a.eval o) = isV c) (hw : Region.wanted o (yielded ops a.tmps) = true) (hr : ∀ w, E w0 w → (execOp a.eval o).run P w = .ok (.value c) w)
    (h2 : wpG E P ops w0 Rs Q rest (k + 1) (fun w => F w ∧ Rs k (execOp a.eval o) c w) (a.put o.dst c)) : wpG E P ops w0 Rs Q (o :: rest) k F a := by
  refine ⟨.inl ⟨hw, fun w hE => by rw [hr w hE, hR]; exact ⟨hP.1 _, rfl⟩⟩, fun v ⟨w, hv⟩ => ?_⟩
  rw [hR] at hv
  obtain rfl : v = c := hv
  exact h2
theorem wpG_skip (hP : Preo E) {Q : (World → Prop) → Act → Prop} {F : World → Prop} {a : Act} {k : Nat} {o : Oper} {rest : List Oper} (hR : Rs k (execOp a.eval o) = isV undef) (hw : Region.wanted o (yielded ops a.tmps) = false)
    (h2 : wpG E P ops w0 Rs Q rest (k + 1) (fun w => F w ∧ Rs k (execOp a.eval o) undef w) (a.put o.dst undef)) : wpG E P ops w0 Rs Q (o :: rest) k F a := by
  refine ⟨.inr ⟨hw, fun w _ => by rw [hR]; rfl⟩, fun v ⟨w, hv⟩ => ?_⟩
  rw [hR] at hv
  obtain rfl : v = undef := hv
  exact h2
/-- A call of a function, whose value is known by R. -/
theorem wpG_call {Q : (World → Prop) → Act → Prop} {F : World → Prop} {a : Act} {k : Nat} {o : Oper} {rest : List Oper} (f : FuncId) (args : Array Value) (hw : Region.wanted o (yielded ops a.tmps) = true) (hr : ∀ w, (execOp a.eval o).run P w = .ok (.enter f args) w)
    (h : ∀ w, E w0 w → Calls P f args w (fun e w' => ∃ v, e = .returned v ∧ E w w' ∧ Rs k (execOp a.eval o) v w')) (h2 : ∀ v, (∃ w, Rs k (execOp a.eval o) v w) → wpG E P ops w0 Rs Q rest (k + 1) (fun w => F w ∧ Rs k (execOp a.eval o) v w) (a.put o.dst v)) : wpG E P ops w0 Rs Q (o :: rest) k F a := by
  refine ⟨.inl ⟨hw, fun w hE => by rw [hr w]; exact (h w hE)⟩, h2⟩
/-- An operation that leaves a value and a world of which something is known. -/
theorem wpG_run_old {Q : (World → Prop) → Act → Prop} {F : World → Prop} {a : Act} {k : Nat} {o : Oper} {rest : List Oper} (hw : Region.wanted o (yielded ops a.tmps) = true)
    (h : ∀ w, E w0 w → ∃ v w', (execOp a.eval o).run P w = .ok (.value v) w' ∧ E w w' ∧ Rs k (execOp a.eval o) v w') (h2 : ∀ v, (∃ w, Rs k (execOp a.eval o) v w) → wpG E P ops w0 Rs Q rest (k + 1) (fun w => F w ∧ Rs k (execOp a.eval o) v w) (a.put o.dst v)) : wpG E P ops w0 Rs Q (o :: rest) k F a := by
  refine ⟨.inl ⟨hw, fun w hE => ?_⟩, h2⟩
  obtain ⟨v, w', hr, h3, h4⟩ := h w hE
  rw [hr]
  exact ⟨h3, h4⟩
/-- An operation that leaves a value and a world of which something is known. -/
theorem wpG_run {Q : (World → Prop) → Act → Prop} {F : World → Prop} {a : Act} {k : Nat} {o : Oper} {rest : List Oper} (hw : Region.wanted o (yielded ops a.tmps) = true)
    (h : ∀ w, E w0 w → ∃ v w', (execOp a.eval o).run P w = .ok (.value v) w' ∧ E w w' ∧ Rs k (execOp a.eval o) v w') (h2 : ∀ v, (∃ w, Rs k (execOp a.eval o) v w) → wpG E P ops w0 Rs Q rest (k + 1) (fun w => F w ∧ Rs k (execOp a.eval o) v w) (a.put o.dst v)) : wpG E P ops w0 Rs Q (o :: rest) k F a := by
  refine ⟨.inl ⟨hw, fun w hE => ?_⟩, h2⟩
  obtain ⟨v, w', hr, h3, h4⟩ := h w hE
  rw [hr]
  exact ⟨h3, h4⟩
/-- What a slice of one new block is, of which the operation alone tells the cells. -/
def isBuilt (P : Program) (B : Nat) (t : TypeId) : Sem Next → Value → World → Prop := fun z v w => ∃ q cs n, v = .slice (some ⟨q, 0, none⟩) n n ∧ B ≤ q ∧ w.heap[q]? = some (.cells cs t (0, 0)) ∧ ∃ w1, q = w1.heap.size ∧ z.run P w1 = .ok (.value v) (w1.alloc (.cells cs t))
theorem isBuilt_at {B : Nat} {t : TypeId} {z : Sem Next} {v : Value} {w : World} {cs0 : Array Value} (h : isBuilt P B t z v w) (n : Nat) (hz : ∀ w1, z.run P w1 = .ok (.value (.slice (some ⟨w1.heap.size, 0, none⟩) n n)) (w1.alloc (.cells cs0 t))) :
    ∃ q, v = .slice (some ⟨q, 0, none⟩) n n ∧ B ≤ q ∧ w.heap[q]? = some (.cells cs0 t (0, 0)) := by
  obtain ⟨q, cs, m, h1, h2, h3, w1, h4, h5⟩ := h
  have h6 := hz w1
  rw [h5] at h6
  simp only [Result.ok.injEq, Next.value.injEq] at h6
  obtain ⟨e1, e2⟩ := h6
  rw [← h4] at e1
  refine ⟨q, e1, h2, ?_⟩
  have a1 := heap_alloc_new w1 (.cells cs t)
  rw [e2, heap_alloc_new w1 (.cells cs0 t)] at a1
  rw [h3, ← a1]
end
end Go.Proofs.Yteabblmhcjpboaa.D
