/- Texts of use, in one. -/
import Derived.WalkKit
import Derived.ProofKit
import Derived.OpenShut
import Derived.ChangeOld
import Derived.Below
import Derived.StillTail
import Derived.KernelRfl
import Derived.Tactics
import Derived.Deep.MidRow
import Derived.Test.YtlbfohpkngmaoaaRows
import Derived.WalkLawsBesides
import Derived.RegionTactic
import Derived.Deep.DeepCutAuto
import Derived.Deep.Upon
import Derived.Maps.AppendAt
import Derived.Laws.Rows
import Derived.Laws.OwnMore
import Derived.Laws.BitsAllLaws
import Derived.Laws.Externs
import Derived.Outline
import Derived.Lib.Hide
import Derived.IntWalk
import Derived.LoopTactic
import Derived.OneCell
import Derived.Lib.SliceRun
/- Small lemmas on opening and shutting arguments: arrays of integers by value, slices of bytes, all arguments at once behind a call that writes nothing that was there. -/
namespace Go.Proofs.Ytlbfohpkngmaoaa.Ch.B
open Go.ChangeShapes Go.WideShapes Go.ChangeAt Go.RowKit

section
variable {H : Type} {enc : TypeId × Value → H} {P : Program} {W W' : World}

theorem trodAll_lt {spare : Nat → Bool} {held : Bool} {base : Nat} : ∀ {ts : List TypeId} {vs : List Value} {ds : List (DataW H)} {p : List MemPlace}, DataW.TrodAll enc P W base spare held ts vs ds p → ∀ x ∈ p, x.block < W.heap.size := by
  intro ts
  induction ts with
  | nil => intro vs ds p h; obtain ⟨rfl, rfl, rfl⟩ := trodAll_nil h; simp
  | cons t ts ih =>
    intro vs ds p h
    obtain ⟨v0, vs0, d0, ds0, p0, q0, rfl, rfl, rfl, h0, r0⟩ := trodAll_cons h
    intro x hx
    rw [List.mem_append] at hx
    rcases hx with hx | hx
    · obtain ⟨m, hm⟩ := h0
      exact DataW.trod_lt m _ _ _ hm x hx
    · exact ih r0 x hx

theorem trodAll_below (hl : laidOutB P = true) : ∀ (ts : List TypeId) {vs : List Value} {ds : List (DataW H)} {p : List MemPlace}, (ts.all fun t => P.readableRec t && decide (t < P.types.size)) = true →
    DataW.TrodAll enc P W 0 (fun _ => true) true ts vs ds p → Below W.heap.size W W' → (∀ x ∈ p, x.block < W.heap.size) →
    DataW.TrodAll enc P W' 0 (fun b => decide (b < W.heap.size)) true ts vs ds p := by
  intro ts
  induction ts with
  | nil => intro vs ds p _ h _ _; obtain ⟨rfl, rfl, rfl⟩ := trodAll_nil h; exact trodAll_mk0
  | cons t ts ih =>
    intro vs ds p hall h hb hlt
    obtain ⟨v0, vs0, d0, ds0, p0, q0, rfl, rfl, rfl, h0, r0⟩ := trodAll_cons h
    simp only [List.all_cons, Bool.and_eq_true, decide_eq_true_eq] at hall
    exact trodAll_cons_mk (Below.trod hl hall.1.1 hall.1.2 h0 hb (fun x hx => hlt x (by simp [hx]))) (ih (by simpa using hall.2) r0 hb (fun x hx => hlt x (by simp [hx])))

theorem ints_of {k : IntKind} : ∀ (cs : List Value), (∀ v ∈ cs, ∃ a, v = .int k a ∧ (Lit.int k a).wf = true) → ∃ xs : List Int, xs.map (Value.int k) = cs ∧ xs.length = cs.length ∧ ∀ x ∈ xs, (Lit.int k x).wf = true := by
  intro cs
  induction cs with
  | nil => intro _; exact ⟨[], rfl, rfl, by simp⟩
  | cons c cs ih =>
    intro h
    obtain ⟨a, rfl, ha⟩ := h c (by simp)
    obtain ⟨xs, h1, h2, h3⟩ := ih (fun v hv => h v (by simp [hv]))
    refine ⟨a :: xs, by simp [h1], by simp [h2], ?_⟩
    intro x hx
    rcases List.mem_cons.1 hx with rfl | hx
    · exact ha
    · exact h3 x hx

theorem open_arr_int {base b0 : Nat} {r : Reach} {spare : Nat → Bool} {held : Bool} {t e : TypeId} {n : Nat} {k : IntKind} {v : Value} {d : DataW H} {ps : List MemPlace} (ht : P.underlying t = some (.array n e)) (he : P.underlying e = some (.int k))
    (hc : P.cellsOf e = 1) (hct : P.cellsOf t = n) (hval : Value.okWide P W r b0 t v) (hd : DataW.Trod enc P W base spare held t v d ps) :
    ∃ xs : List Int, v = .agg (xs.map (Value.int k)).toArray ∧ xs.length = n ∧ ∀ x ∈ xs, (Lit.int k x).wf = true := by
  simp only [Value.okWide, ht] at hval
  obtain ⟨cs, rfl, hsz, _⟩ := hval
  obtain ⟨fuel, hf⟩ := hd
  simp only [Value.cells] at hf
  obtain ⟨xs, m, _, _, hlen, hl, hel⟩ := DataW.trod_array ht hf
  have key : ∀ i, i < n → ∃ a, cs.toList[i]? = some (.int k a) ∧ (Lit.int k a).wf = true := by
    intro i hi
    have h := hel i hi
    rw [hc, Nat.mul_one] at h
    have : xs[i]? = some xs[i] := List.getElem?_eq_getElem (by omega)
    rw [this] at h
    obtain ⟨a, h1, _, h2⟩ := DataW.trod_int he h
    refine ⟨a, ?_, h2⟩
    have h3 : (cs.toList.drop i).head? = some (.int k a) := by
      cases hd : cs.toList.drop i with
      | nil => rw [hd] at h1; simp at h1
      | cons y ys => rw [hd] at h1; simp at h1; simp [h1]
    simpa using h3
  have hlen' : cs.toList.length = n := by rw [hlen, hct]
  have all : ∀ v ∈ cs.toList, ∃ a, v = .int k a ∧ (Lit.int k a).wf = true := by
    intro v hv
    obtain ⟨i, hi, hiv⟩ := List.getElem_of_mem hv
    obtain ⟨a, h1, h2⟩ := key i (by omega)
    rw [List.getElem?_eq_getElem hi, hiv] at h1
    exact ⟨a, by simpa using h1, h2⟩
  obtain ⟨xs, h1, h2, h3⟩ := ints_of cs.toList all
  exact ⟨xs, by rw [h1], by rw [h2, hlen'], h3⟩

/-- WHAT THE WALK IS TOLD OF A SLICE OF INTEGERS THAT CAME IN: it is nil; or it leads to a row of 'cap' cells, the numbers 'zs' (the first 'len' are its elements, the rest its spare room), each fitting its kind. -/
def IsRow (k : IntKind) (w : World) (a : Option Addr) (len cap : Nat) (zs : List Int) : Prop :=
  (a = none ∧ len = 0 ∧ cap = 0 ∧ zs = []) ∨
  ∃ x, a = some x ∧ len ≤ cap ∧ cap ≤ maxLen ∧ zs.length = cap ∧ (∀ i, i < zs.length → w.cell? (x.add i) = some (.int k (zs.getD i 0))) ∧ ∀ n ∈ zs, (Lit.int k n).wf = true

theorem open_bytes {held : Bool} {t e : TypeId} {k : IntKind} {a : Option Addr} {len cap : Nat} {d : DataW H} {ps : List MemPlace} (ht : P.underlying t = some (.slice e)) (he : P.underlying e = some (.int k))
    (hc : P.cellsOf e = 1) (h0 : DataW.Trod enc P W 0 (fun _ => true) held t (.slice a len cap) d ps) : ∃ zs, IsRow k W a len cap zs := by
  obtain ⟨fuel, hf⟩ := h0
  rcases open_ints ht he hc hf with ⟨hcs, _⟩ | ⟨x, l, c, zs, hcs, _, hl, hm, hz, _, hcell, hwz⟩
  · simp [Value.cells] at hcs
    obtain ⟨rfl, rfl, rfl⟩ := hcs
    exact ⟨[], .inl ⟨rfl, rfl, rfl, rfl⟩⟩
  · simp [Value.cells] at hcs
    obtain ⟨rfl, rfl, rfl⟩ := hcs
    exact ⟨zs, .inr ⟨_, rfl, hl, hm, by simpa using hz, hcell, hwz⟩⟩
end
end Go.Proofs.Ytlbfohpkngmaoaa.Ch.B

/- A region that draws its order, whose first operations each leave one value, whatever order they come in, and a world that meets S, if they begin in one that does; the rest of them stand in a row. -/
namespace Go.Proofs.Ytlbfohpkngmaoaa.Ch.B
open Go
section
variable {P : Program} {ops : Array Oper} {md : Region.Mode} {S : World → Prop}

/-- What an operation comes to: the value v, and a world that meets S. -/
def HeldRun (P : Program) (S : World → Prop) (v : Value) : Result Next → Prop
  | .ok (.value u) w' => u = v ∧ S w'
  | .ok .skip w' => undef = v ∧ S w'
  | .ok (.enter f args) w' => Calls P f args w' (fun e w'' => e = .returned v ∧ S w'')
  | _ => False
def HeldAt (P : Program) (ops : Array Oper) (S : World → Prop) (o : Oper) (v : Value) (a : Act) : Prop :=
  (Region.wanted o (yielded ops a.tmps) = true ∧ ∀ w, S w → HeldRun P S v ((execOp a.eval o).run P w)) ∨ (Region.wanted o (yielded ops a.tmps) = false ∧ v = undef)
theorem HeldAt.of_same {o : Oper} {v : Value} {a a' : Act} (hy : HeldAt P ops S o v a) (he : execOp a'.eval o = execOp a.eval o)
    (hw : Region.wanted o (yielded ops a'.tmps) = Region.wanted o (yielded ops a.tmps)) : HeldAt P ops S o v a' := by
  unfold HeldAt at *
  rw [he, hw]
  exact hy
theorem HeldAt.wpOp {i : Nat} {o : Oper} {v : Value} {a : Act} {Q' : Exit → Act → World → Prop} {K : Act → World → Prop} (hi : ops[i]? = some o) (hy : HeldAt P ops S o v a) (h : ∀ w, S w → K (a.put o.dst v) w) {w : World} (hS : S w) :
    wpOp P ops Q' i K a w := by
  unfold Go.wpOp
  simp only [hi]
  rcases hy with ⟨hw, hv⟩ | ⟨hw, rfl⟩
  · rw [if_pos hw]
    refine .inl ?_
    unfold Oper.wp
    have h1 := hv w hS
    generalize (execOp a.eval o).run P w = r at h1
    cases r with
    | ok n w' =>
      cases n <;> simp only [HeldRun] at h1 <;> simp only [Oper.upon]
      case value u => obtain ⟨rfl, h2⟩ := h1; exact h _ h2
      case skip => obtain ⟨rfl, h2⟩ := h1; exact h _ h2
      case enter f args => exact h1.mono fun e w'' ⟨he, hS2⟩ => by subst he; exact h _ hS2
    | halt x w' => simp only [HeldRun] at h1
  · rw [hw, if_neg (by simp)]
    exact h _ hS
/-- Whatever comes up, of the first n, leaves its value. -/
def hOp (P : Program) (ops : Array Oper) (S : World → Prop) (i : Nat) (K : Act → Prop) (a : Act) : Prop :=
  ∃ o v, ops[i]? = some o ∧ HeldAt P ops S o v a ∧ K (a.put o.dst v)
def anyH (P : Program) (md : Region.Mode) (ops : Array Oper) (S : World → Prop) (n : Nat) (L : Array Bool → Act → Prop) : Nat → Array Bool → Act → Prop
  | 0, listed, a => L listed a
  | f + 1, listed, a => Region.ready md ops listed ≠ [] ∧ ∀ i ∈ Region.ready md ops listed, i < n ∧ hOp P ops S i (anyH P md ops S n L f (listed.setIfInBounds i true)) a
theorem wpAny_of_anyH {n g : Nat} {L : Array Bool → Act → Prop} {Q' : Exit → Act → World → Prop} (hL : ∀ listed a, L listed a → ∀ w, S w → wpAny P md ops Q' g listed a w) :
    ∀ (f : Nat) (listed : Array Bool) (a : Act), anyH P md ops S n L f listed a → ∀ w, S w → wpAny P md ops Q' (f + g) listed a w
  | 0, listed, a, h, w, hS => by rw [Nat.zero_add]; exact hL _ _ h w hS
  | f + 1, listed, a, h, w, hS => by
    rw [show f + 1 + g = (f + g) + 1 by omega]
    refine ⟨fun h0 => absurd h0 h.1, fun i hi => ?_⟩
    obtain ⟨_, o, v, ho, hy, hK⟩ := h.2 i hi
    exact hy.wpOp ho (fun w' hS' => wpAny_of_anyH hL f _ _ hK w' hS') hS
theorem hOp_put {j : Nat} {oi oj : Oper} {v : Value} (hj : ops[j]? = some oj) (hap : oi.apart ops oj = true)
    (hsi : ∀ cs b, oi.op ≠ .select cs b) (hsj : ∀ cs b, oj.op ≠ .select cs b) {K : Act → Prop} {a : Act}
    (hy : HeldAt P ops S oi v a) (h : hOp P ops S j K (a.put oi.dst v)) :
    hOp P ops S j (fun a' => HeldAt P ops S oi v a' ∧ K (a'.put oi.dst v)) a := by
  obtain ⟨h1, h2, h3⟩ := Oper.apart_spec hap
  obtain ⟨o, u, ho, hyj, hK⟩ := h
  obtain rfl : oj = o := Option.some.inj (hj.symm.trans ho)
  refine ⟨oj, u, hj, hyj.of_same (execOp_put oj hsj a oi.dst v h1).symm (wanted_put oj a oi.dst v h1).symm, ?_, ?_⟩
  · exact hy.of_same (execOp_put oi hsi a oj.dst u h3) (wanted_put oi a oj.dst u h3)
  · rw [← Act.put_comm a v u h2]; exact hK
theorem anyH_first {n i : Nat} {oi : Oper} {v : Value} {L : Array Bool → Act → Prop} (hi : ops[i]? = some oi) (hsel : ∀ (j : Nat) (o : Oper) cs b, ops[j]? = some o → o.op ≠ .select cs b)
    (hs : Region.sinkB md ops n = true) (hc : Region.chainB md ops n = true) (hn : n < ops.size) (hin : i < n)
    (hdone : ∀ listed a, L listed a → ∀ j ∈ Region.ready md ops listed, n ≤ j) :
    ∀ (f : Nat) (listed : Array Bool) (a : Act), HeadInv md ops n listed →
      (∀ j oj, ops[j]? = some oj → j ≠ i → listed.getD j true = false → (∀ e ∈ oj.after, Region.binds md e = true → e.on ≠ i) → oi.apart ops oj = true) →
      i ∈ Region.ready md ops listed → HeldAt P ops S oi v a →
      anyH P md ops S n L f (listed.setIfInBounds i true) (a.put oi.dst v) → anyH P md ops S n L (f + 1) listed a := by
  intro f
  induction f with
  | zero =>
    intro listed a inv _ hr hy H
    have hun := (mem_ready.1 hr).1
    refine ⟨fun h => (by rw [h] at hr; cases hr), fun j hj => ?_⟩
    have hjn : j < n := by
      rcases Nat.lt_or_ge j n with h | h
      · exact h
      · exact absurd hj (tail_waits hs hc hn inv _ i rfl hin hun j h)
    refine ⟨hjn, ?_⟩
    by_cases hji : j = i
    · subst hji; exact ⟨oi, v, hi, hy, H⟩
    · have := hdone _ _ H j (ready_mono hj hji)
      omega
  | succ f ih =>
    intro listed a inv hfree hr hy H
    have hun := (mem_ready.1 hr).1
    refine ⟨fun h => (by rw [h] at hr; cases hr), fun j hj => ?_⟩
    have hjn : j < n := by
      rcases Nat.lt_or_ge j n with h | h
      · exact h
      · exact absurd hj (tail_waits hs hc hn inv _ i rfl hin hun j h)
    refine ⟨hjn, ?_⟩
    by_cases hji : j = i
    · subst hji; exact ⟨oi, v, hi, hy, H⟩
    · have h1 := (H.2 j (ready_mono hj hji)).2
      obtain ⟨hjun, oj, hoj, hall⟩ := mem_ready.1 hj
      have hnot : ∀ e ∈ oj.after, Region.binds md e = true → e.on ≠ i := fun e he hb heq => by
        have h1 := hall e he hb
        rw [heq, getD_both hun] at h1
        cases h1
      have h2 := hOp_put hoj (hfree j oj hoj hji hjun hnot) (fun cs b => hsel i oi cs b hi) (fun cs b => hsel j oj cs b hoj) hy h1
      have hfree' : ∀ k ok, ops[k]? = some ok → k ≠ i → (listed.setIfInBounds j true).getD k true = false →
          (∀ e ∈ ok.after, Region.binds md e = true → e.on ≠ i) → oi.apart ops ok = true := fun k ok hk hki hun hno => by
        refine hfree k ok hk hki ?_ hno
        by_cases hjk : j = k
        · subst hjk; exact hjun
        · rw [getD_set_ne true hjk] at hun; exact hun
      obtain ⟨o2, u, ho2, hy2, h3⟩ := h2
      refine ⟨o2, u, ho2, hy2, ih (listed.setIfInBounds j true) _ (inv.set hj hjn) hfree' (ready_mono hr (Ne.symm hji)) h3.1 ?_⟩
      rw [Array.setIfInBounds_comm _ _ hji]
      exact h3.2
/-- The first operations, one behind the other. -/
def wpHeld (P : Program) (ops : Array Oper) (S : World → Prop) (Q : Act → Prop) : List Oper → Act → Prop
  | [], a => Q a
  | o :: rest, a => ∃ v, HeldAt P ops S o v a ∧ wpHeld P ops S Q rest (a.put o.dst v)
theorem wpHeld_nil {Q : Act → Prop} {a : Act} (h : Q a) : wpHeld P ops S Q [] a := h
theorem wpHeld_cons {Q : Act → Prop} {a : Act} {o : Oper} {rest : List Oper} (v : Value) (hw : Region.wanted o (yielded ops a.tmps) = true) (h : ∀ w, S w → HeldRun P S v ((execOp a.eval o).run P w))
    (h2 : wpHeld P ops S Q rest (a.put o.dst v)) : wpHeld P ops S Q (o :: rest) a := ⟨v, .inl ⟨hw, h⟩, h2⟩
theorem wpHeld_skip {Q : Act → Prop} {a : Act} {o : Oper} {rest : List Oper} (hw : Region.wanted o (yielded ops a.tmps) = false)
    (h2 : wpHeld P ops S Q rest (a.put o.dst undef)) : wpHeld P ops S Q (o :: rest) a := ⟨undef, .inr ⟨hw, rfl⟩, h2⟩
theorem anyH_lex {n g : Nat} {Lq : Act → Prop} (hsel : Region.noSelect ops = true) (hs : Region.sinkB md ops n = true) (hc : Region.chainB md ops n = true) (hn : n < ops.size) :
    ∀ (l : List Oper) (k : Nat) (listed : Array Bool) (a : Act), (∀ j, j < l.length → l[j]? = ops[k + j]?) → k + l.length = n → HeadInv md ops n listed →
    Region.lexHead md ops g l.length k listed = true → wpHeld P ops S Lq l a →
    anyH P md ops S n (fun listed' a' => Region.seqB md ops g n listed' = true ∧ Lq a') l.length listed a
  | [], k, listed, a, _, hk, _, hB, h => by
    have : k = n := by simpa using hk
    subst this
    exact ⟨by simpa [Region.lexHead] using hB, h⟩
  | o :: l, k, listed, a, hl, hk, inv, hB, h => by
    have h0 : ops[k]? = some o := by simpa using (hl 0 (by simp)).symm
    simp only [List.length_cons, Region.lexHead, Bool.and_eq_true] at hB
    obtain ⟨⟨hr, hf⟩, hB'⟩ := hB
    have hkn : k < n := by simp only [List.length_cons] at hk; omega
    have hr' : k ∈ Region.ready md ops listed := by simpa using hr
    obtain ⟨v, hy, hK⟩ := h
    exact anyH_first h0 (Region.noSelect_spec hsel) hs hc hn hkn (fun listed' a' hL => seqB_ready hL.1) l.length listed a inv (Region.free_spec h0 hf) hr' hy
      (anyH_lex hsel hs hc hn l (k + 1) _ _ (fun j hj => by have := hl (j + 1) (by simp; omega); simpa [Nat.add_assoc, Nat.add_comm 1 j] using this) (by simp only [List.length_cons] at hk; omega) (inv.set hr' hkn) hB' hK)
/-- The first n in whatever order, then the rest, one behind the other. -/
theorem region_held {id : Nat} {Q : Exit → Act → World → Prop} {a : Act} {w : World} {l : List Oper} (S : World → Prop) (n : Nat) (hm : P.follows .mixedOrders = true) (hB : Region.lexTailB .any l.toArray n = true) (hS : S w.drew)
    (h : wpHeld P l.toArray S (fun a' => ∀ w', S w' → wpList P l.toArray Q (l.drop n) a' w') (l.take n) a) : (Code.region id l.toArray true).wp P Q a w := by
  simp only [Region.lexTailB, Bool.and_eq_true, decide_eq_true_eq] at hB
  obtain ⟨⟨⟨⟨hsel, hn⟩, hs⟩, hc⟩, hlex⟩ := hB
  have hn' : n < l.length := by simpa using hn
  have htl : (l.take n).length = n := by simp; omega
  have hdl : (l.drop n).length = l.toArray.size - n := by simp
  have inv0 : HeadInv .any l.toArray n (Array.replicate l.toArray.size false) :=
    ⟨by simp, fun j oj _ hl => (by rw [getD_replicate_false] at hl; cases hl), fun t _ ht => getD_in (by simpa using ht) (getD_replicate_false _ _)⟩
  have H := anyH_lex (md := .any) (g := l.toArray.size - n) hsel hs hc hn (l.take n) 0 _ a (fun j hj => by
    have hj' : j < n := by rw [htl] at hj; exact hj
    simp [hj']) (by simpa using htl) inv0 (by rw [htl]; exact hlex) h
  refine wp_region_any hm ?_
  have := wpAny_of_anyH (Q' := Q) (g := l.toArray.size - n) (fun listed a' hL w' hS' => by
    have := wpAny_of_seq (md := .any) (Q' := Q) (l.drop n) n listed a' w' (fun j => by simp [List.getElem?_drop]) (by rw [hdl]; exact hL.1) (hL.2 w' hS')
    rwa [hdl] at this) _ _ _ H _ hS
  rw [htl, show n + (l.toArray.size - n) = l.toArray.size by omega] at this
  exact this
/-- An operation that leaves the world as it is. -/
theorem heldRun_value {v : Value} {w : World} {r : Result Next} (hr : r = .ok (.value v) w) (hS : S w) : HeldRun P S v r := by subst hr; exact ⟨rfl, hS⟩
theorem heldRun_enter {v : Value} {w : World} {r : Result Next} {f : FuncId} {args : Array Value} (hr : r = .ok (.enter f args) w) (h : Calls P f args w (fun e w'' => e = .returned v ∧ S w'')) : HeldRun P S v r := by subst hr; exact h
theorem run_load_mid (a : Act) (o : Oper) (w : World) (ty : TypeId) (x : Operand) (ho : o.op = .load ty x) (b off : Nat) (hx : a.eval x = .pointer (some ⟨b, off, none⟩)) (cs : List Value) (d : TypeDesc) (hc : w.rangeAt b off cs)
    (hu : P.underlying ty = some d) (hd : d.isRow = true) (hi : (P.info? ty).map (·.size) = some cs.length) : (execOp a.eval o).run P w = .ok (.value (.agg cs.toArray)) w := by
  unfold execOp
  simp only [ho, hx, Sem.run_bind, run_loadAt_mid w b off ty cs d hc hu hd hi, Result.andThen_ok, Sem.run_pure]
/-- A whole array, or struct, is loaded. -/
theorem wpHeld_load {Q : Act → Prop} {a : Act} {o : Oper} {rest : List Oper} (ty : TypeId) (x : Operand) (ho : o.op = .load ty x) (hw : Region.wanted o (yielded ops a.tmps) = true)
    (b off : Nat) (hx : a.eval x = .pointer (some ⟨b, off, none⟩)) (cs : List Value) (d : TypeDesc) (hc : ∀ w, S w → w.rangeAt b off cs)
    (hu : P.underlying ty = some d) (hd : d.isRow = true) (hi : (P.info? ty).map (·.size) = some cs.length)
    (h2 : wpHeld P ops S Q rest (a.put o.dst (.agg cs.toArray))) : wpHeld P ops S Q (o :: rest) a :=
  wpHeld_cons _ hw (fun w hS => heldRun_value (run_load_mid a o w ty x ho b off hx cs d (hc w hS) hu hd hi) hS) h2
/-- A function is called. -/
theorem wpHeld_call {Q : Act → Prop} {a : Act} {o : Oper} {rest : List Oper} (v : Value) (f : FuncId) (args : Array Value) (hw : Region.wanted o (yielded ops a.tmps) = true)
    (hr : ∀ w, (execOp a.eval o).run P w = .ok (.enter f args) w) (h : ∀ w, S w → Calls P f args w (fun e w'' => e = .returned v ∧ S w''))
    (h2 : wpHeld P ops S Q rest (a.put o.dst v)) : wpHeld P ops S Q (o :: rest) a :=
  wpHeld_cons _ hw (fun w hS => heldRun_enter (hr w) (h w hS)) h2
/-! One operation behind the other. -/
theorem wpL_skip {Q : Exit → Act → World → Prop} {a : Act} {w : World} {o : Oper} {rest : List Oper} (hw : Region.wanted o (yielded ops a.tmps) = false) (h : wpList P ops Q rest (a.put o.dst undef) w) : wpList P ops Q (o :: rest) a w :=
  wpList_step fun K hK => by rw [hw, if_neg (by simp)]; exact hK _ _ h
theorem wpL_value {Q : Exit → Act → World → Prop} {a : Act} {w : World} {o : Oper} {rest : List Oper} (v : Value) (w' : World) (hw : Region.wanted o (yielded ops a.tmps) = true) (hr : (execOp a.eval o).run P w = .ok (.value v) w')
    (h : wpList P ops Q rest (a.put o.dst v) w') : wpList P ops Q (o :: rest) a w :=
  wpList_step fun K hK => by rw [if_pos hw]; unfold Oper.wp; rw [hr]; exact hK _ _ h
theorem wpL_pure {Q : Exit → Act → World → Prop} {a : Act} {w : World} {o : Oper} {rest : List Oper} (v : Value) (hw : Region.wanted o (yielded ops a.tmps) = true) (hr : (execOp a.eval o).run P w = .ok (.value v) w)
    (h : wpList P ops Q rest (a.put o.dst v) w) : wpList P ops Q (o :: rest) a w := wpL_value v w hw hr h
theorem wpL_load {Q : Exit → Act → World → Prop} {a : Act} {w : World} {o : Oper} {rest : List Oper} (ty : TypeId) (x : Operand) (ho : o.op = .load ty x) (hw : Region.wanted o (yielded ops a.tmps) = true)
    (b off : Nat) (hx : a.eval x = .pointer (some ⟨b, off, none⟩)) (cs : List Value) (d : TypeDesc) (hc : w.rangeAt b off cs)
    (hu : P.underlying ty = some d) (hd : d.isRow = true) (hi : (P.info? ty).map (·.size) = some cs.length)
    (h : wpList P ops Q rest (a.put o.dst (.agg cs.toArray)) w) : wpList P ops Q (o :: rest) a w :=
  wpL_value _ _ hw (run_load_mid a o w ty x ho b off hx cs d hc hu hd hi) h
theorem wpL_call {Q : Exit → Act → World → Prop} {a : Act} {w : World} {o : Oper} {rest : List Oper} (f : FuncId) (args : Array Value) (hw : Region.wanted o (yielded ops a.tmps) = true) (hr : (execOp a.eval o).run P w = .ok (.enter f args) w)
    (h : Calls P f args w fun e w' => ∃ v, e = .returned v ∧ wpList P ops Q rest (a.put o.dst v) w') : wpList P ops Q (o :: rest) a w :=
  wpList_step fun K hK => by
    rw [if_pos hw]
    unfold Oper.wp
    rw [hr]
    refine Calls.mono h fun e w' ⟨v, he, hq⟩ => ?_
    subst he
    exact hK _ _ hq
end
end Go.Proofs.Ytlbfohpkngmaoaa.Ch.B

/- Small lemmas for a seat: blocks, worlds that grew, rows of bytes, append, bytes.Clone. -/
namespace Go.Proofs.Ytlbfohpkngmaoaa.Ch.B
open Go Go.RowKit

theorem ret_bool {a b : Bool} (h : a = b) : Ending.returned (.bool a) = .returned (.bool b) := by rw [h]
theorem ret_int {k : IntKind} {a b : Int} (h : a = b) : Ending.returned (.int k a) = .returned (.int k b) := by rw [h]
theorem ret_val {a b : Value} (h : a = b) : Ending.returned a = .returned b := by rw [h]
def Blk (w : World) (g : Nat) (t : TypeId) (cs : Array Value) : Prop := w.heap[g]? = some (.cells cs t (0, 0))
theorem Blk.cell {w : World} {g t : Nat} {cs : Array Value} (h : Blk w g t cs) (j : Nat) : w.cell? ⟨g, j, none⟩ = cs[j]? := cell_of_row w _ _ _ _ _ h
theorem Blk.free {w : World} {g t : Nat} {cs : Array Value} (h : Blk w g t cs) (j : Nat) : w.frozen? ⟨g, j, none⟩ = false := frozen_of_row w g j cs t h
theorem Blk.lt {w : World} {g t : Nat} {cs : Array Value} (h : Blk w g t cs) : g < w.heap.size := by
  rcases Nat.lt_or_ge g w.heap.size with h1 | h1
  · exact h1
  · unfold Blk at h; rw [Array.getElem?_eq_none h1] at h; cases h
theorem Blk.alloc {w : World} {g t : Nat} {cs : Array Value} (h : Blk w g t cs) (o : Obj) : Blk (w.alloc o) g t cs := (Below.heap_alloc w o g h.lt).trans h
theorem Blk.new (w : World) (t : TypeId) (cs : Array Value) : Blk (w.alloc (.cells cs t)) w.heap.size t cs := heap_alloc_new w _
theorem Blk.new' (w : World) (t : TypeId) (cs : Array Value) (n : Nat) (hn : n = w.heap.size) : Blk (w.alloc (.cells cs t)) n t cs := by rw [hn]; exact heap_alloc_new w _
theorem Blk.keep {w w1 : World} {B g t : Nat} {cs : Array Value} (h : Blk w g t cs) (hb : Below B w w1) (hg : g < B) : Blk w1 g t cs := (hb.block _ hg).trans h
theorem Blk.below {w w1 : World} {g t : Nat} {cs : Array Value} (h : Blk w g t cs) (hb : Below w.heap.size w w1) : Blk w1 g t cs := h.keep hb h.lt
theorem Blk.grown {w w1 : World} {g t : Nat} {cs : Array Value} {r : Option Nat} (h : Blk w g t cs) (hb : w.grownBy w1 r) (hg : some g ≠ r) : Blk w1 g t cs := (hb.block _ h.lt hg).trans h
theorem Blk.set {w : World} {g t : Nat} {l : List Value} (h : Blk w g t l.toArray) (o : Nat) (v : Value) : Blk (w.setCell ⟨g, o, none⟩ v) g t (l.set o v).toArray := by
  have e := heap_setCell_same w g o l.toArray t v h
  simpa [Blk] using e
theorem Blk.other {w : World} {g t : Nat} {cs : Array Value} (h : Blk w g t cs) (p : Addr) (v : Value) (hp : g ≠ p.block) : Blk (w.setCell p v) g t cs := (heap_setCell_other _ _ _ _ hp).trans h
theorem Blk.drew {w : World} {g t : Nat} {cs : Array Value} (h : Blk w g t cs) : Blk w.drew g t cs := h
theorem range_blk {w : World} {g t : Nat} {l : List Value} (h : Blk w g t l.toArray) : w.rangeAt g 0 l := by
  intro j v hj
  rw [Nat.zero_add, h.cell]
  simpa using hj
theorem below_setRow {B : Nat} {a w : World} (h : Below B a w) {g : Nat} (hg : B ≤ g) (cs : Array Value) : Below B a (w.setRow g cs) :=
  ⟨h.os, h.tape, h.output, by simpa using h.size, fun k hk => (setRow_other _ _ _ _ (by omega)).trans (h.block k hk)⟩
theorem gb_refl (w : World) (r : Option Nat) : w.grownBy w r := ⟨rfl, rfl, rfl, Nat.le_refl _, fun _ _ _ => rfl⟩
theorem gb_trans {a b c : World} {r : Option Nat} (h : a.grownBy b r) (k : b.grownBy c r) : a.grownBy c r := ⟨k.os.trans h.os, k.tape.trans h.tape, k.output.trans h.output, Nat.le_trans h.size k.size, fun j hj hr => (k.block j (Nat.lt_of_lt_of_le hj h.size) hr).trans (h.block j hj hr)⟩
theorem gb_below {B : Nat} {a b : World} {g : Nat} (h : a.grownBy b (some g)) (hB : B ≤ g) (hg : B ≤ a.heap.size) : Below B a b := ⟨h.os, h.tape, h.output, h.size, fun k hk => h.block k (by omega) (by simp; omega)⟩
theorem gb_of {a b : World} (h : Below a.heap.size a b) (r : Option Nat) : a.grownBy b r := ⟨h.os, h.tape, h.output, h.size, fun k hk _ => h.block k hk⟩
theorem gb_alloc {w X : World} {r : Option Nat} (h : w.grownBy X r) (o : Obj) : w.grownBy (X.alloc o) r := gb_trans h (gb_of ((Below.refl _ _).alloc (Nat.le_refl _) _) r)
theorem gb_drew {w X : World} {r : Option Nat} (h : w.grownBy X r) : w.grownBy X.drew r := gb_trans h (gb_of (Below.refl _ _).drew r)
theorem size_setCell (w : World) (a : Addr) (v : Value) : (w.setCell a v).heap.size = w.heap.size := by simp
theorem gb_set {w X : World} {b : Nat} (h : w.grownBy X (some b)) (o : Nat) (v : Value) : w.grownBy (X.setCell ⟨b, o, none⟩ v) (some b) := by
  have q := Below.setCell (B := 0) (p := ⟨b, o, none⟩) (Below.refl 0 X) (Nat.zero_le _) v
  exact ⟨q.os.trans h.os, q.tape.trans h.tape, q.output.trans h.output, Nat.le_trans h.size q.size, fun k hk hr => (heap_setCell_other _ _ _ _ (fun e => hr (congrArg some e))).trans (h.block k hk hr)⟩
theorem gb_set_new {w X : World} {r : Option Nat} (h : w.grownBy X r) (p : Addr) (hp : w.heap.size ≤ p.block) (v : Value) : w.grownBy (X.setCell p v) r := by
  have q := Below.setCell (B := 0) (p := p) (Below.refl 0 X) (Nat.zero_le _) v
  exact ⟨q.os.trans h.os, q.tape.trans h.tape, q.output.trans h.output, Nat.le_trans h.size q.size, fun k hk hr => (heap_setCell_other _ _ _ _ (by omega)).trans (h.block k hk hr)⟩
theorem run_store_one {P : Program} (a : Act) (o : Oper) (w : World) (ty : TypeId) (x y : Operand) (ho : o.op = .store ty x y) (b off : Nat) (hx : a.eval x = .pointer (some ⟨b, off, none⟩)) (v : Value) (hy : a.eval y = v) (h1 : v.oneCell' = true) (hsz : ∀ w', (sizeOf ty).run P w' = .ok 1 w')
    (hc : (w.cell? ⟨b, off, none⟩).isSome = true) (hf : w.frozen? ⟨b, off, none⟩ = false) : (execOp a.eval o).run P w = .ok .skip (w.setCell ⟨b, off, none⟩ v) := by
  obtain ⟨u, hu⟩ := Option.isSome_iff_exists.1 hc
  have hs := hsz w
  unfold execOp
  subst hy
  simp only [ho, hx]
  generalize a.eval y = v at h1 ⊢
  have hst : ∀ m w', (store ⟨b, off, none⟩ v m).run P w' = stored P w' ⟨b, off, none⟩ v m := fun m w' => run_store P w' _ v m h1
  cases v <;> first | (exfalso; simp [Value.oneCell'] at h1; done) | (go_simp; done)
theorem heldRun_skip {P : Program} {S : World → Prop} {w : World} {r : Result Next} (hr : r = .ok .skip w) (hS : S w) : HeldRun P S undef r := by subst hr; exact ⟨rfl, hS⟩
theorem wpL_store_one {P : Program} {ops : Array Oper} {Q : Exit → Act → World → Prop} {a : Act} {w : World} {o : Oper} {rest : List Oper} {ty : TypeId} {x y : Operand} (hw : Region.wanted o (yielded ops a.tmps) = true) (ho : o.op = .store ty x y)
    (b off : Nat) (hx : a.eval x = .pointer (some ⟨b, off, none⟩)) (v : Value) (hy : a.eval y = v) (h1 : v.oneCell' = true) (hsz : ∀ w', (sizeOf ty).run P w' = .ok 1 w') (hc : (w.cell? ⟨b, off, none⟩).isSome = true) (hf : w.frozen? ⟨b, off, none⟩ = false)
    (h : wpList P ops Q rest (a.put o.dst undef) (w.setCell ⟨b, off, none⟩ v)) : wpList P ops Q (o :: rest) a w :=
  wpList_step fun K hK => by
    rw [if_pos hw]
    unfold Oper.wp
    rw [run_store_one a o w ty x y ho b off hx v hy h1 hsz hc hf]
    exact hK _ _ h
theorem run_load_one (a : Act) (o : Oper) (w : World) (ty : TypeId) (x : Operand) (v : Value) (ho : o.op = .load ty x) (b off : Nat) (hx : a.eval x = .pointer (some ⟨b, off, none⟩)) (hc : w.cell? ⟨b, off, none⟩ = some v) (hagg : (isAgg ty).run Try.prog w = .ok false w) : (execOp a.eval o).run Try.prog w = .ok (.value v) w := by
  unfold execOp
  simp only [ho, hx]
  go_simp
theorem run_idx (a : Act) (o : Oper) (w : World) (x i : Operand) (g off n c k : Nat) (ho : o.op = .indexAddr 33 x i) (hx : a.eval x = .slice (some ⟨g, off, none⟩) n c) (hi : a.eval i = .int .i64 (k : Int)) (hk : k < n) (hn : n ≤ maxLen) : (execOp a.eval o).run Try.prog w = .ok (.value (.pointer (some ⟨g, off + k, none⟩))) w := by
  unfold maxLen at hn
  have j0 : (0 : Int) ≤ (k : Int) := by omega
  have j6 : (k : Int) < (n : Int) := by omega
  unfold execOp
  simp only [ho, hx, hi]
  go_simp

/-- a slice that shows these bytes. -/
def Row (w : World) (a : Option Addr) (n : Nat) (xs : List Int) : Prop := xs.length = n ∧ n ≤ maxLen ∧ (∀ x ∈ xs, 0 ≤ x ∧ x ≤ 255) ∧ ∀ j, j < n → ∃ g o, a = some ⟨g, o, none⟩ ∧ w.cell? ⟨g, o + j, none⟩ = some (.int .u8 (xs.getD j 0))
theorem Row.below {w w' : World} {a : Option Addr} {n : Nat} {xs : List Int} (h : Row w a n xs) (B : Nat) (hb : Below B w w') (hB : w.heap.size ≤ B) : Row w' a n xs := by
  refine ⟨h.1, h.2.1, h.2.2.1, fun j hj => ?_⟩
  obtain ⟨g, o, h1, h2⟩ := h.2.2.2 j hj
  exact ⟨g, o, h1, (hb.cell (p := ⟨g, o + j, none⟩) (Nat.lt_of_lt_of_le (World.block_lt_of_cell? w _ h2) hB)).trans h2⟩
theorem Row.keep {w w' : World} {a : Option Addr} {n : Nat} {xs : List Int} (h : Row w a n xs) (hb : Below w.heap.size w w') : Row w' a n xs := h.below _ hb (Nat.le_refl _)
theorem Row.grown {w w' : World} {a : Option Addr} {n : Nat} {xs : List Int} {r : Option Nat} (h : Row w a n xs) (hb : w.grownBy w' r) (hr : ∀ p, a = some p → some p.block ≠ r) : Row w' a n xs := by
  refine ⟨h.1, h.2.1, h.2.2.1, fun j hj => ?_⟩
  obtain ⟨g, o, h1, h2⟩ := h.2.2.2 j hj
  exact ⟨g, o, h1, hb.cell h2 (by have := hr _ h1; exact this)⟩
theorem Row.setOther {w : World} {a : Option Addr} {n : Nat} {xs : List Int} (h : Row w a n xs) (q : Addr) (v : Value) (hr : ∀ p, a = some p → p.block ≠ q.block) : Row (w.setCell q v) a n xs := by
  refine ⟨h.1, h.2.1, h.2.2.1, fun j hj => ?_⟩
  obtain ⟨g, o, h1, h2⟩ := h.2.2.2 j hj
  exact ⟨g, o, h1, (World.cell?_of_block (a := ⟨g, o + j, none⟩) (heap_setCell_other _ _ _ _ (by have := hr _ h1; exact this))).trans h2⟩
theorem row_of {w : World} {a : Option Addr} {len cap : Nat} {zs : List Int} (h : IsRow .u8 w a len cap zs) : Row w a len (zs.take len) := by
  rcases h with ⟨rfl, rfl, _, rfl⟩ | ⟨⟨b, off, spot⟩, rfl, h2, h3, h4, h5, h6⟩
  · exact ⟨rfl, by simp [maxLen], by simp, fun j hj => absurd hj (by omega)⟩
  · refine ⟨by simp; omega, by omega, fun x hx => bounds_u8 (h6 x (List.mem_of_mem_take hx)), fun j hj => ?_⟩
    have hs : spot = none := by simpa [Addr.add] using World.cell?_spot (h5 0 (by omega))
    subst hs
    have := h5 j (by omega)
    have e : (⟨b, off, none⟩ : Addr).add j = ⟨b, off + j, none⟩ := by unfold Addr.add; split <;> simp_all
    rw [e] at this
    refine ⟨b, off, rfl, ?_⟩
    rw [this]
    simp [List.getD, List.getElem?_take, hj]
theorem getD_byte {xs : List Int} (h : ∀ x ∈ xs, 0 ≤ x ∧ x ≤ 255) (j : Nat) : 0 ≤ xs.getD j 0 ∧ xs.getD j 0 ≤ 255 := by
  rw [List.getD]
  rcases Nat.lt_or_ge j xs.length with hj | hj
  · rw [List.getElem?_eq_getElem hj]
    exact h _ (List.getElem_mem hj)
  · rw [List.getElem?_eq_none hj]
    simp
theorem Row.sub {w : World} {g off n : Nat} {xs : List Int} (h : Row w (some ⟨g, off, none⟩) n xs) (i m : Nat) (hm : i + m ≤ n) : Row w (some ⟨g, off + i, none⟩) m ((xs.drop i).take m) := by
  refine ⟨by rw [List.length_take, List.length_drop, h.1]; omega, by have := h.2.1; omega, fun x hx => h.2.2.1 x (List.mem_of_mem_drop (List.mem_of_mem_take hx)), fun j hj => ?_⟩
  obtain ⟨g', o', e, hc⟩ := h.2.2.2 (i + j) (by omega)
  simp only [Option.some.injEq, Addr.mk.injEq, and_true] at e
  obtain ⟨rfl, rfl⟩ := e
  refine ⟨_, _, rfl, ?_⟩
  rw [Nat.add_assoc, hc]
  simp [List.getD, List.getElem?_take, List.getElem?_drop, hj]
theorem Row.nil (w : World) (a : Option Addr) : Row w a 0 [] := ⟨rfl, by simp [maxLen], by simp, fun j hj => absurd hj (by omega)⟩
theorem conv_zero (w : World) (p : Option Addr) (c : Nat) : (convert 33 9 (.slice p 0 c)).run Try.prog w = .ok (.string (strOfNums [])) w := by
  rw [run_convert_bytes_string w 33 9 5 _ 0 c Try.underlying33 Try.underlying5 Try.underlying9]
  cases p <;> simp [Conv.bytesToString, loadCells]
  all_goals rfl
theorem conv_row (w : World) (a : Option Addr) (n c : Nat) (xs : List Int) (h : Row w a n xs) :
    (convert 33 9 (.slice a n c)).run Try.prog w = .ok (.string (strOfNums xs)) w := by
  by_cases h0 : n = 0
  · subst h0
    obtain rfl : xs = [] := List.eq_nil_of_length_eq_zero h.1
    exact conv_zero w a c
  · obtain ⟨g, o, rfl, _⟩ := h.2.2.2 0 (by omega)
    refine run_convert_bytes_arg w 33 5 Try.underlying33 Try.underlying5 g o n c xs h.1 (fun i hi => ?_) 9 Try.underlying9
    obtain ⟨g', o', e, hc⟩ := h.2.2.2 i hi
    simp only [Option.some.injEq, Addr.mk.injEq, and_true] at e
    obtain ⟨rfl, rfl⟩ := e
    rw [hc]
theorem num_inj : ∀ (xs ys : List Int), (∀ x ∈ xs, 0 ≤ x ∧ x ≤ 255) → (∀ y ∈ ys, 0 ≤ y ∧ y ≤ 255) → xs.map (fun n => UInt8.ofNat n.toNat) = ys.map (fun n => UInt8.ofNat n.toNat) → xs = ys := by
  intro xs
  induction xs with
  | nil => intro ys _ _ h; cases ys with
    | nil => rfl
    | cons y ys => simp at h
  | cons x xs ih =>
    intro ys hx hy h
    cases ys with
    | nil => simp at h
    | cons y ys =>
      simp only [List.map_cons, List.cons.injEq] at h
      have h1 := hx x (by simp)
      have h2 := hy y (by simp)
      have h3 := congrArg UInt8.toNat h.1
      simp at h3
      have : x = y := by omega
      rw [this, ih ys (fun a ha => hx a (by simp [ha])) (fun a ha => hy a (by simp [ha])) h.2]
theorem str_beq (xs ys : List Int) (hx : ∀ x ∈ xs, 0 ≤ x ∧ x ≤ 255) (hy : ∀ y ∈ ys, 0 ≤ y ∧ y ≤ 255) : ((strOfNums xs).toList == (strOfNums ys).toList) = decide (xs = ys) := by
  rw [Bool.eq_iff_iff, beq_iff_eq, decide_eq_true_eq, ByteArray.toList_eq, ByteArray.toList_eq]
  constructor
  · intro h
    exact num_inj xs ys hx hy (by simpa [strOfNums] using h)
  · rintro rfl; rfl
theorem run_conv_str (a : Act) (o : Oper) (w : World) (x : Operand) (p : Option Addr) (n c : Nat) (xs : List Int) (ho : o.op = .convert 33 9 x) (hx : a.eval x = .slice p n c) (h : Row w p n xs) : (execOp a.eval o).run Try.prog w = .ok (.value (.string (strOfNums xs))) w := by
  unfold execOp
  simp only [ho, hx, Sem.run_bind, conv_row w p n c xs h, Result.andThen_ok, Sem.run_pure]
theorem run_str_eql (a : Act) (o : Oper) (w : World) (x y : Operand) (xs ys : List Int) (b : Bool) (ho : o.op = .binOp .eql 9 x y 9) (hx : a.eval x = .string (strOfNums xs)) (hy : a.eval y = .string (strOfNums ys)) (hb : b = decide (xs = ys)) (h0 : ∀ x ∈ xs, 0 ≤ x ∧ x ≤ 255) (h1 : ∀ y ∈ ys, 0 ≤ y ∧ y ≤ 255) : (execOp a.eval o).run Try.prog w = .ok (.value (.bool b)) w := by
  have e := str_beq xs ys h0 h1
  rw [← hb] at e
  clear hb
  unfold execOp
  simp only [ho, hx, hy]
  go_simp

/-- a slice of one's own that holds these bytes. -/
def Own (w : World) (base : Nat) (v : Value) (xs : List Int) : Prop := w.ownsRow base 5 1 v xs.length (xs.map (Value.int .u8)) ∧ ∀ x ∈ xs, 0 ≤ x ∧ x ≤ 255
theorem Own.form {w : World} {base : Nat} {v : Value} {xs : List Int} (h : Own w base v xs) : (v = .slice none 0 0 ∧ xs = []) ∨ ∃ g cap cur, v = .slice (some ⟨g, 0, none⟩) xs.length cap ∧ base ≤ g ∧ Blk w g 5 cur ∧ xs.length ≤ cap ∧ cap ≤ maxLen ∧ cur.size = cap ∧ cur.toList.take xs.length = xs.map (Value.int .u8) := by
  rcases h.1.2 with ⟨h1, h2⟩ | ⟨g, cap, cur, h1, h2, h3, h4, h5, h6, h7⟩
  · exact .inl ⟨h1, List.eq_nil_of_length_eq_zero h2⟩
  · exact .inr ⟨g, cap, cur, h1, h2, h3, h4, h5, by simpa using h6, by simpa using h7⟩
theorem Own.len {w : World} {base : Nat} {v : Value} {xs : List Int} (h : Own w base v xs) : xs.length ≤ maxLen := by
  rcases h.form with ⟨_, rfl⟩ | ⟨_, _, _, _, _, _, h4, h5, _⟩
  · simp [maxLen]
  · omega
theorem Own.row {w : World} {base : Nat} {a : Option Addr} {n c : Nat} {xs : List Int} (h : Own w base (.slice a n c) xs) : Row w a n xs ∧ n ≤ c := by
  have hm := h.len
  rcases h.form with ⟨h1, h2⟩ | ⟨g, cap, cur, h1, h2, h3, h4, h5, h6, h7⟩
  · simp only [Value.slice.injEq] at h1
    obtain ⟨rfl, rfl, rfl⟩ := h1
    subst h2
    exact ⟨Row.nil _ _, by omega⟩
  · simp only [Value.slice.injEq] at h1
    obtain ⟨rfl, rfl, rfl⟩ := h1
    refine ⟨⟨rfl, by omega, h.2, fun j hj => ⟨g, 0, rfl, ?_⟩⟩, h4⟩
    rw [h3.cell, Nat.zero_add]
    have e : (cur.toList.take xs.length)[j]? = (xs.map (Value.int .u8))[j]? := by rw [h7]
    rw [List.getElem?_take, if_pos hj, List.getElem?_map, List.getElem?_eq_getElem (l := xs) hj] at e
    rw [← Array.getElem?_toList, e]
    simp [List.getD, List.getElem?_eq_getElem hj]
theorem Own.below {w w' : World} {base : Nat} {v : Value} {xs : List Int} (h : Own w base v xs) (hb : Below w.heap.size w w') : Own w' base v xs :=
  ⟨h.1.kept (gb_of hb none) (by cases hv : v.ownBlock <;> simp), h.2⟩
theorem Own.grown {w w' : World} {base : Nat} {v : Value} {xs : List Int} {r : Option Nat} (h : Own w base v xs) (hb : w.grownBy w' r) (hr : v.ownBlock = none ∨ v.ownBlock ≠ r) : Own w' base v xs := ⟨h.1.kept hb hr, h.2⟩
theorem Own.alloc {w : World} {base : Nat} {v : Value} {xs : List Int} (h : Own w base v xs) (o : Obj) : Own (w.alloc o) base v xs := ⟨h.1.alloc o, h.2⟩
theorem Own.drew {w : World} {base : Nat} {v : Value} {xs : List Int} (h : Own w base v xs) : Own w.drew base v xs := h
theorem Own.other {w : World} {base : Nat} {v : Value} {xs : List Int} (h : Own w base v xs) (p : Addr) (u : Value) (hp : v.ownBlock ≠ some p.block) : Own (w.setCell p u) base v xs := ⟨ownsRow_setCell_other h.1 hp u, h.2⟩
theorem Own.mono {w : World} {base base' : Nat} {v : Value} {xs : List Int} (h : Own w base v xs) (hb : base' ≤ base) : Own w base' v xs := ⟨h.1.mono hb, h.2⟩
theorem Own.nil (w : World) (base : Nat) : Own w base (.slice none 0 0) [] := ⟨World.ownsRow_nil _ _ _ _, by simp⟩
theorem Own.lt {w : World} {base : Nat} {v : Value} {xs : List Int} (h : Own w base v xs) : ∀ k, v.ownBlock = some k → base ≤ k ∧ k < w.heap.size := h.1.lt
theorem Own.slice {w : World} {base : Nat} {v : Value} {xs : List Int} (h : Own w base v xs) : ∃ a c, v = .slice a xs.length c := by
  rcases h.form with ⟨h1, h2⟩ | ⟨g, cap, cur, h1, _⟩
  · exact ⟨none, 0, by rw [h1, h2]; rfl⟩
  · exact ⟨_, _, h1⟩
theorem map_append_u8 (xs ys : List Int) : (xs ++ ys).map (Value.int .u8) = xs.map (Value.int .u8) ++ ys.map (Value.int .u8) := List.map_append
theorem append_own (w : World) (base : Nat) (v : Value) (xs ys : List Int) (a : Option Addr) (m c : Nat) (hown : Own w base v xs) (hr : Row w a m ys) (hnm : xs.length + m ≤ 140737488355328) (hbase : base ≤ w.heap.size) :
    ∃ v' w', (Builtin.append_ #[33, 33] 33 #[v, .slice a m c]).run Try.prog w = .ok v' w' ∧ Own w' base v' (xs ++ ys) ∧ w.grownBy w' v.ownBlock ∧ (v'.ownBlock = v.ownBlock ∨ v'.ownBlock = some w.heap.size) ∧ (v' = .slice none 0 0 ↔ v = .slice none 0 0 ∧ m = 0) := by
  obtain ⟨i, hi⟩ : ∃ i, Try.prog.info? 5 = some i := Option.isSome_iff_exists.1 (by kernel_rfl)
  have hsz : i.size = 1 := by
    have h : (Try.prog.info? 5).map (·.size) = some 1 := by kernel_rfl
    rw [hi] at h; simpa using h
  have hby : i.bytes = 1 := by
    have h : (Try.prog.info? 5).map (·.bytes) = some 1 := by kernel_rfl
    rw [hi] at h; simpa using h
  have hz : i.zero = some (.int .u8 0) := by
    have h : (Try.prog.info? 5).bind (·.zero) = some (.int .u8 0) := by kernel_rfl
    rw [hi] at h; simpa using h
  by_cases hm : m = 0
  · subst hm
    obtain rfl : ys = [] := List.eq_nil_of_length_eq_zero hr.1
    have hS : Src Try.prog i.size 33 (.slice a 0 c) 0 [] w := by
      cases a with
      | none => exact Src.ofNil w Try.underlying33 c
      | some ad => exact Src.ofSlice w Try.underlying33 ad 0 c [] (by simp) (by simp) (by simp)
    rcases hown.form with ⟨rfl, rfl⟩ | ⟨g, cap, cur, rfl, h2, h3, h4, h5, h6, h7⟩
    · exact ⟨_, w, run_append_nothing w 33 33 33 5 i Try.underlying33 hi none 0 0 (Nat.le_refl _) _ hS, by simpa using hown, gb_refl _ _, .inl rfl, by simp⟩
    · exact ⟨_, w, run_append_nothing w 33 33 33 5 i Try.underlying33 hi _ _ _ h4 _ hS, by simpa using hown, gb_refl _ _, .inl rfl, by simp⟩
  · obtain ⟨g, o, rfl, _⟩ := hr.2.2.2 0 (by omega)
    obtain ⟨v', w', r1, r2, r3, r4, r5⟩ := run_append_own_at (P := Try.prog) w base 33 33 5 i (.int .u8 0) 1 1 Try.underlying33 hi hz hsz hby (by rfl) (by omega) v xs.length (xs.map (Value.int .u8)) hown.1
      ⟨g, o, none⟩ m c (ys.map (Value.int .u8)) (by simp [hr.1]) (fun j u hu => by
        rw [List.getElem?_map] at hu
        have hj : j < ys.length := by
          rcases Nat.lt_or_ge j ys.length with hj | hj
          · exact hj
          · rw [List.getElem?_eq_none hj] at hu; cases hu
        rw [List.getElem?_eq_getElem hj] at hu
        obtain ⟨g', o', e', hc⟩ := hr.2.2.2 j (by rw [← hr.1]; exact hj)
        simp only [Option.some.injEq, Addr.mk.injEq, and_true] at e'
        obtain ⟨rfl, rfl⟩ := e'
        rw [Addr.add_lit, hc, ← hu]
        simp [List.getD, List.getElem?_eq_getElem hj]) (by intro u hu; obtain ⟨x, _, rfl⟩ := List.mem_map.1 hu; rfl) (by unfold maxLen; omega) (by omega) hbase
    refine ⟨v', w', r1, ⟨?_, ?_⟩, r3, r5, r4⟩
    · rw [List.map_append, List.length_append, hr.1]; exact r2
    · intro x hx
      rcases List.mem_append.1 hx with hx | hx
      · exact hown.2 x hx
      · exact hr.2.2.1 x hx
theorem run_app (a : Act) (o : Oper) (w w' : World) (x y : Operand) (v u r : Value) (ho : o.op = .call { callee := .builtin .append, args := #[x, y], argTypes := #[33, 33] }) (ht : o.type = 33) (hx : a.eval x = v) (hy : a.eval y = u)
    (h : (Builtin.append_ #[33, 33] 33 #[v, u]).run Try.prog w = .ok r w') : (execOp a.eval o).run Try.prog w = .ok (.value r) w' := by
  unfold execOp
  simp only [ho, resolve, invoke, builtin, Sem.run_bind, Sem.run_pure, Result.andThen_ok, List.map_toArray, List.map_cons, List.map_nil, hx, hy, ht, h]
theorem eql_nil (w : World) (a : Option Addr) (n c n' c' : Nat) : (binOp .eql 33 (.slice a n c) (.slice none n' c')).run Try.prog w = .ok (.bool a.isNone) w := Go.Lib.run_eql_slice_nil w 33 5 a n c n' c' Try.underlying33
end Go.Proofs.Ytlbfohpkngmaoaa.Ch.B

/- What comparisons and sums of integers come to, for a type of whatever number. -/
namespace Go.Proofs.Ytlbfohpkngmaoaa.Ch.B
open Go Go.RowKit
section
variable {T : TypeId} {K : IntKind} {a : Act} {o : Oper} {w : World} {x y : Operand} {p q : Int} {b : Bool}
theorem run_eqi (hu : Try.prog.underlying T = some (.int K)) (ho : o.op = .binOp .eql T x y T) (hx : a.eval x = .int K p) (hy : a.eval y = .int K q) (hb : decide (p = q) = b) : (execOp a.eval o).run Try.prog w = .ok (.value (.bool b)) w := by
  have u := run_underlying hu w
  subst hb
  unfold execOp
  simp only [ho, hx, hy]
  go_simp
  try rfl
theorem run_nei (hu : Try.prog.underlying T = some (.int K)) (ho : o.op = .binOp .neq T x y T) (hx : a.eval x = .int K p) (hy : a.eval y = .int K q) (hb : decide (p ≠ q) = b) : (execOp a.eval o).run Try.prog w = .ok (.value (.bool b)) w := by
  have u := run_underlying hu w
  subst hb
  unfold execOp
  simp only [ho, hx, hy]
  go_simp
  try rfl
theorem run_lti (hu : Try.prog.underlying T = some (.int K)) (ho : o.op = .binOp .lss T x y T) (hx : a.eval x = .int K p) (hy : a.eval y = .int K q) (hb : decide (p < q) = b) : (execOp a.eval o).run Try.prog w = .ok (.value (.bool b)) w := by
  have u := run_underlying hu w
  subst hb
  unfold execOp
  simp only [ho, hx, hy]
  go_simp
theorem run_gti (hu : Try.prog.underlying T = some (.int K)) (ho : o.op = .binOp .gtr T x y T) (hx : a.eval x = .int K p) (hy : a.eval y = .int K q) (hb : decide (q < p) = b) : (execOp a.eval o).run Try.prog w = .ok (.value (.bool b)) w := by
  have u := run_underlying hu w
  subst hb
  unfold execOp
  simp only [ho, hx, hy]
  go_simp
theorem run_lei (hu : Try.prog.underlying T = some (.int K)) (ho : o.op = .binOp .leq T x y T) (hx : a.eval x = .int K p) (hy : a.eval y = .int K q) (hb : decide (p ≤ q) = b) : (execOp a.eval o).run Try.prog w = .ok (.value (.bool b)) w := by
  have u := run_underlying hu w
  subst hb
  unfold execOp
  simp only [ho, hx, hy]
  go_simp
theorem run_gei (hu : Try.prog.underlying T = some (.int K)) (ho : o.op = .binOp .geq T x y T) (hx : a.eval x = .int K p) (hy : a.eval y = .int K q) (hb : decide (q ≤ p) = b) : (execOp a.eval o).run Try.prog w = .ok (.value (.bool b)) w := by
  have u := run_underlying hu w
  subst hb
  unfold execOp
  simp only [ho, hx, hy]
  go_simp
theorem run_addi (hu : Try.prog.underlying T = some (.int K)) (ho : o.op = .binOp .add T x y T) (hx : a.eval x = .int K p) (hy : a.eval y = .int K q) (r : Int) (hr : K.wrap (p + q) = r) : (execOp a.eval o).run Try.prog w = .ok (.value (.int K r)) w := by
  have u := run_underlying hu w
  subst hr
  unfold execOp
  simp only [ho, hx, hy]
  go_simp
theorem run_subi (hu : Try.prog.underlying T = some (.int K)) (ho : o.op = .binOp .sub T x y T) (hx : a.eval x = .int K p) (hy : a.eval y = .int K q) (r : Int) (hr : K.wrap (p - q) = r) : (execOp a.eval o).run Try.prog w = .ok (.value (.int K r)) w := by
  have u := run_underlying hu w
  subst hr
  unfold execOp
  simp only [ho, hx, hy]
  go_simp
theorem run_muli (hu : Try.prog.underlying T = some (.int K)) (ho : o.op = .binOp .mul T x y T) (hx : a.eval x = .int K p) (hy : a.eval y = .int K q) (r : Int) (hr : K.wrap (p * q) = r) : (execOp a.eval o).run Try.prog w = .ok (.value (.int K r)) w := by
  have u := run_underlying hu w
  subst hr
  unfold execOp
  simp only [ho, hx, hy]
  go_simp
theorem run_biti {op : BinOp} (hop : op = .or ∨ op = .and ∨ op = .xor) (hu : Try.prog.underlying T = some (.int K)) (ho : o.op = .binOp op T x y T) (hx : a.eval x = .int K p) (hy : a.eval y = .int K q) (r : Int) (hr : bits op K p q = r) : (execOp a.eval o).run Try.prog w = .ok (.value (.int K r)) w := by
  have u := run_underlying hu w
  subst hr
  unfold execOp
  simp only [ho, hx, hy]
  rcases hop with rfl | rfl | rfl <;> go_simp
theorem run_convi {T' : TypeId} {K' : IntKind} (hu : Try.prog.underlying T = some (.int K)) (hu' : Try.prog.underlying T' = some (.int K')) (ho : o.op = .convert T T' x) (hx : a.eval x = .int K p) (r : Int) (hr : K'.wrap p = r) : (execOp a.eval o).run Try.prog w = .ok (.value (.int K' r)) w := by
  have u := run_underlying hu w
  have u' := run_underlying hu' w
  subst hr
  unfold execOp
  simp only [ho, hx]
  go_simp
  try rfl
theorem wrap_in (n : Int) (h0 : -9223372036854775808 ≤ n) (h1 : n ≤ 9223372036854775807) : IntKind.i64.wrap n = n := IntWalk.i64_in _ (by omega)
end
end Go.Proofs.Ytlbfohpkngmaoaa.Ch.B

/- A region that draws its order, whose first operations only make memory, whatever order they come in: each leaves a value of which something is known that stays so, whatever memory is made; the rest of them stand in a row. -/
namespace Go.Proofs.Ytlbfohpkngmaoaa.Ch.B
open Go Go.RowKit
section
variable {P : Program} {ops : Array Oper} {md : Region.Mode} {Rs : Nat → Value → World → Prop} {w0 : World}

/-- w' is w with more memory. -/
def Ext (w w' : World) : Prop := Below w.heap.size w w'
theorem Ext.refl (w : World) : Ext w w := Below.refl _ _
theorem Ext.trans {a b c : World} (h : Ext a b) (k : Ext b c) : Ext a c := Below.trans h (Below.mono k (Below.size h))
def RunExt (P : Program) (R : Value → World → Prop) (w : World) : Result Next → Prop
  | .ok (.value v) w' => Ext w w' ∧ R v w'
  | .ok .skip w' => Ext w w' ∧ R undef w'
  | .ok (.enter f args) w' => Calls P f args w' (fun e w'' => ∃ v, e = .returned v ∧ Ext w w'' ∧ R v w'')
  | _ => False
def ExtAt (P : Program) (ops : Array Oper) (w0 : World) (o : Oper) (R : Value → World → Prop) (a : Act) : Prop :=
  (Region.wanted o (yielded ops a.tmps) = true ∧ ∀ w, Ext w0 w → RunExt P R w ((execOp a.eval o).run P w)) ∨ (Region.wanted o (yielded ops a.tmps) = false ∧ ∀ w, Ext w0 w → R undef w)
theorem ExtAt.of_same {o : Oper} {R : Value → World → Prop} {a a' : Act} (hy : ExtAt P ops w0 o R a) (he : execOp a'.eval o = execOp a.eval o)
    (hw : Region.wanted o (yielded ops a'.tmps) = Region.wanted o (yielded ops a.tmps)) : ExtAt P ops w0 o R a' := by
  unfold ExtAt at *
  rw [he, hw]
  exact hy
theorem ExtAt.possible {o : Oper} {R : Value → World → Prop} {a : Act} (hy : ExtAt P ops w0 o R a) : ∃ v w, R v w := by
  rcases hy with ⟨_, h⟩ | ⟨_, h⟩
  · have h1 := h w0 (Ext.refl _)
    generalize (execOp a.eval o).run P w0 = r at h1
    cases r with
    | ok n w' =>
      cases n <;> simp only [RunExt] at h1
      case value u => exact ⟨u, w', h1.2⟩
      case skip => exact ⟨undef, w', h1.2⟩
      case enter f args =>
        obtain ⟨e, w2, _, ⟨v, _, _, hr⟩, _⟩ := h1 []
        exact ⟨v, w2, hr⟩
    | halt x w' => simp only [RunExt] at h1
  · exact ⟨undef, w0, h w0 (Ext.refl _)⟩
theorem ExtAt.wpOp {i : Nat} {o : Oper} {R : Value → World → Prop} {a : Act} {Q' : Exit → Act → World → Prop} {K : Act → World → Prop} (hi : ops[i]? = some o) (hy : ExtAt P ops w0 o R a) {w : World} (hS : Ext w0 w) (h : ∀ v w', R v w' → Ext w w' → K (a.put o.dst v) w') :
    wpOp P ops Q' i K a w := by
  unfold Go.wpOp
  simp only [hi]
  rcases hy with ⟨hw, hv⟩ | ⟨hw, hv⟩
  · rw [if_pos hw]
    refine .inl ?_
    unfold Oper.wp
    have h1 := hv w hS
    generalize (execOp a.eval o).run P w = r at h1
    cases r with
    | ok n w' =>
      cases n <;> simp only [RunExt] at h1 <;> simp only [Oper.upon]
      case value u => exact h _ _ h1.2 h1.1
      case skip => exact h _ _ h1.2 h1.1
      case enter f args => exact h1.mono fun e w'' ⟨v, he, hE, hR⟩ => by subst he; exact h _ _ hR hE
    | halt x w' => simp only [RunExt] at h1
  · rw [hw, if_neg (by simp)]
    exact h _ _ (hv w hS) (Ext.refl _)
def eOp (P : Program) (ops : Array Oper) (w0 : World) (Rs : Nat → Value → World → Prop) (i : Nat) (K : (World → Prop) → Act → Prop) (F : World → Prop) (a : Act) : Prop :=
  ∃ o, ops[i]? = some o ∧ ExtAt P ops w0 o (Rs i) a ∧ ∀ v, (∃ w, Rs i v w) → K (fun w => F w ∧ Rs i v w) (a.put o.dst v)
def anyE (P : Program) (md : Region.Mode) (ops : Array Oper) (w0 : World) (Rs : Nat → Value → World → Prop) (n : Nat) (L : Array Bool → (World → Prop) → Act → Prop) : Nat → Array Bool → (World → Prop) → Act → Prop
  | 0, listed, F, a => L listed F a
  | f + 1, listed, F, a => Region.ready md ops listed ≠ [] ∧ ∀ i ∈ Region.ready md ops listed, i < n ∧ eOp P ops w0 Rs i (anyE P md ops w0 Rs n L f (listed.setIfInBounds i true)) F a
def Stays (F : World → Prop) : Prop := ∀ w w', F w → Ext w w' → F w'
theorem wpAny_of_anyE {n g : Nat} {L : Array Bool → (World → Prop) → Act → Prop} {Q' : Exit → Act → World → Prop} (hR : ∀ i v, Stays (Rs i v)) (hL : ∀ listed F a, L listed F a → ∀ w, Ext w0 w → F w → wpAny P md ops Q' g listed a w) :
    ∀ (f : Nat) (listed : Array Bool) (F : World → Prop) (a : Act), Stays F → anyE P md ops w0 Rs n L f listed F a → ∀ w, Ext w0 w → F w → wpAny P md ops Q' (f + g) listed a w
  | 0, listed, F, a, _, h, w, hS, hF => by rw [Nat.zero_add]; exact hL _ _ _ h w hS hF
  | f + 1, listed, F, a, hst, h, w, hS, hF => by
    rw [show f + 1 + g = (f + g) + 1 by omega]
    refine ⟨fun h0 => absurd h0 h.1, fun i hi => ?_⟩
    obtain ⟨_, o, ho, hy, hK⟩ := h.2 i hi
    exact hy.wpOp ho hS (fun v w' hv hE => wpAny_of_anyE hR hL f _ _ _ (fun x y ⟨h1, h2⟩ hxy => ⟨hst x y h1 hxy, hR i v x y h2 hxy⟩) (hK v ⟨w', hv⟩) w' (hS.trans hE) ⟨hst w w' hF hE, hv⟩)
theorem anyE_mono {n : Nat} {L : Array Bool → (World → Prop) → Act → Prop} (hL : ∀ listed F F' a, (∀ w, F' w → F w) → L listed F a → L listed F' a) :
    ∀ (f : Nat) (listed : Array Bool) (F F' : World → Prop) (a : Act), (∀ w, F' w → F w) → anyE P md ops w0 Rs n L f listed F a → anyE P md ops w0 Rs n L f listed F' a
  | 0, _, _, _, _, h, H => hL _ _ _ _ h H
  | f + 1, _, _, _, _, h, H => ⟨H.1, fun i hi => by
      obtain ⟨hn, o, ho, hy, hK⟩ := H.2 i hi
      exact ⟨hn, o, ho, hy, fun v hv => anyE_mono hL f _ _ _ _ (fun w ⟨h1, h2⟩ => ⟨h w h1, h2⟩) (hK v hv)⟩⟩
theorem anyE_first {n i : Nat} {oi : Oper} {L : Array Bool → (World → Prop) → Act → Prop} (hi : ops[i]? = some oi) (hsel : ∀ (j : Nat) (o : Oper) cs b, ops[j]? = some o → o.op ≠ .select cs b)
    (hs : Region.sinkB md ops n = true) (hc : Region.chainB md ops n = true) (hn : n < ops.size) (hin : i < n) (hmono : ∀ listed F F' a, (∀ w, F' w → F w) → L listed F a → L listed F' a)
    (hdone : ∀ listed F a, L listed F a → ∀ j ∈ Region.ready md ops listed, n ≤ j) :
    ∀ (f : Nat) (listed : Array Bool) (F : World → Prop) (a : Act), HeadInv md ops n listed →
      (∀ j oj, ops[j]? = some oj → j ≠ i → listed.getD j true = false → (∀ e ∈ oj.after, Region.binds md e = true → e.on ≠ i) → oi.apart ops oj = true) →
      i ∈ Region.ready md ops listed → ExtAt P ops w0 oi (Rs i) a →
      (∀ v, (∃ w, Rs i v w) → anyE P md ops w0 Rs n L f (listed.setIfInBounds i true) (fun w => F w ∧ Rs i v w) (a.put oi.dst v)) → anyE P md ops w0 Rs n L (f + 1) listed F a := by
  intro f
  induction f with
  | zero =>
    intro listed F a inv _ hr hy H
    have hun := (mem_ready.1 hr).1
    refine ⟨fun h => (by rw [h] at hr; cases hr), fun j hj => ?_⟩
    have hjn : j < n := by
      rcases Nat.lt_or_ge j n with h | h
      · exact h
      · exact absurd hj (tail_waits hs hc hn inv _ i rfl hin hun j h)
    refine ⟨hjn, ?_⟩
    by_cases hji : j = i
    · subst hji; exact ⟨oi, hi, hy, H⟩
    · obtain ⟨v0, hv0⟩ := hy.possible
      have := hdone _ _ _ (H v0 hv0) j (ready_mono hj hji)
      omega
  | succ f ih =>
    intro listed F a inv hfree hr hy H
    have hun := (mem_ready.1 hr).1
    refine ⟨fun h => (by rw [h] at hr; cases hr), fun j hj => ?_⟩
    have hjn : j < n := by
      rcases Nat.lt_or_ge j n with h | h
      · exact h
      · exact absurd hj (tail_waits hs hc hn inv _ i rfl hin hun j h)
    refine ⟨hjn, ?_⟩
    by_cases hji : j = i
    · subst hji; exact ⟨oi, hi, hy, H⟩
    · obtain ⟨v0, hv0⟩ := hy.possible
      obtain ⟨_, oj', hoj', hyj0, _⟩ := (H v0 hv0).2 j (ready_mono hj hji)
      obtain ⟨hjun, oj, hoj, hall⟩ := mem_ready.1 hj
      obtain rfl : oj = oj' := Option.some.inj (hoj.symm.trans hoj')
      have hnot : ∀ e ∈ oj.after, Region.binds md e = true → e.on ≠ i := fun e he hb heq => by
        have h1 := hall e he hb
        rw [heq, getD_both hun] at h1
        cases h1
      have hap := hfree j oj hoj hji hjun hnot
      obtain ⟨h1, h2, h3⟩ := Oper.apart_spec hap
      have hsi : ∀ cs b, oi.op ≠ .select cs b := fun cs b => hsel i oi cs b hi
      have hsj : ∀ cs b, oj.op ≠ .select cs b := fun cs b => hsel j oj cs b hoj
      have hyj : ExtAt P ops w0 oj (Rs j) a := hyj0.of_same (execOp_put oj hsj a oi.dst v0 h1).symm (wanted_put oj a oi.dst v0 h1).symm
      refine ⟨oj, hoj, hyj, fun u hu => ?_⟩
      have hfree' : ∀ k ok, ops[k]? = some ok → k ≠ i → (listed.setIfInBounds j true).getD k true = false →
          (∀ e ∈ ok.after, Region.binds md e = true → e.on ≠ i) → oi.apart ops ok = true := fun k ok hk hki hun hno => by
        refine hfree k ok hk hki ?_ hno
        by_cases hjk : j = k
        · subst hjk; exact hjun
        · rw [getD_set_ne true hjk] at hun; exact hun
      refine ih (listed.setIfInBounds j true) _ _ (inv.set hj hjn) hfree' (ready_mono hr (Ne.symm hji)) (hy.of_same (execOp_put oi hsi a oj.dst u h3) (wanted_put oi a oj.dst u h3)) (fun v hv => ?_)
      obtain ⟨_, oj2, hoj2, _, hK2⟩ := (H v hv).2 j (ready_mono hj hji)
      obtain rfl : oj = oj2 := Option.some.inj (hoj.symm.trans hoj2)
      have h4 := hK2 u hu
      rw [Array.setIfInBounds_comm _ _ hji, ← Act.put_comm a v u h2]
      exact anyE_mono hmono _ _ _ _ _ (fun w ⟨⟨q1, q2⟩, q3⟩ => ⟨⟨q1, q3⟩, q2⟩) h4
/-- The first operations, one behind the other. -/
def wpExt (P : Program) (ops : Array Oper) (w0 : World) (Rs : Nat → Value → World → Prop) (Q : (World → Prop) → Act → Prop) : List Oper → Nat → (World → Prop) → Act → Prop
  | [], _, F, a => Q F a
  | o :: rest, k, F, a => ExtAt P ops w0 o (Rs k) a ∧ ∀ v, (∃ w, Rs k v w) → wpExt P ops w0 Rs Q rest (k + 1) (fun w => F w ∧ Rs k v w) (a.put o.dst v)
theorem anyE_lex {n g : Nat} {Lq : (World → Prop) → Act → Prop} (hsel : Region.noSelect ops = true) (hs : Region.sinkB md ops n = true) (hc : Region.chainB md ops n = true) (hn : n < ops.size) (hLq : ∀ F F' a, (∀ w, F' w → F w) → Lq F a → Lq F' a) :
    ∀ (l : List Oper) (k : Nat) (listed : Array Bool) (F : World → Prop) (a : Act), (∀ j, j < l.length → l[j]? = ops[k + j]?) → k + l.length = n → HeadInv md ops n listed →
    Region.lexHead md ops g l.length k listed = true → wpExt P ops w0 Rs Lq l k F a →
    anyE P md ops w0 Rs n (fun listed' F' a' => Region.seqB md ops g n listed' = true ∧ Lq F' a') l.length listed F a
  | [], k, listed, F, a, _, hk, _, hB, h => by
    have : k = n := by simpa using hk
    subst this
    exact ⟨by simpa [Region.lexHead] using hB, h⟩
  | o :: l, k, listed, F, a, hl, hk, inv, hB, h => by
    have h0 : ops[k]? = some o := by simpa using (hl 0 (by simp)).symm
    simp only [List.length_cons, Region.lexHead, Bool.and_eq_true] at hB
    obtain ⟨⟨hr, hf⟩, hB'⟩ := hB
    have hkn : k < n := by simp only [List.length_cons] at hk; omega
    have hr' : k ∈ Region.ready md ops listed := by simpa using hr
    obtain ⟨hy, hK⟩ := h
    exact anyE_first h0 (Region.noSelect_spec hsel) hs hc hn hkn (fun _ _ _ _ q hL => ⟨hL.1, hLq _ _ _ q hL.2⟩) (fun listed' F' a' hL => seqB_ready hL.1) l.length listed F a inv (Region.free_spec h0 hf) hr' hy
      (fun v hv => anyE_lex hsel hs hc hn hLq l (k + 1) _ _ _ (fun j hj => by have := hl (j + 1) (by simp; omega); simpa [Nat.add_assoc, Nat.add_comm 1 j] using this) (by simp only [List.length_cons] at hk; omega) (inv.set hr' hkn) hB' (hK v hv))
/-- The first n in whatever order, then the rest, one behind the other. -/
theorem region_ext {id : Nat} {Q : Exit → Act → World → Prop} {a : Act} {w : World} {l : List Oper} (Rs : Nat → Value → World → Prop) (hR : ∀ i v, Stays (Rs i v)) (n : Nat) (hm : P.follows .mixedOrders = true) (hB : Region.lexTailB .any l.toArray n = true)
    (h : wpExt P l.toArray w.drew Rs (fun F a' => ∀ w', Ext w.drew w' → F w' → wpList P l.toArray Q (l.drop n) a' w') (l.take n) 0 (fun _ => True) a) : (Code.region id l.toArray true).wp P Q a w := by
  simp only [Region.lexTailB, Bool.and_eq_true, decide_eq_true_eq] at hB
  obtain ⟨⟨⟨⟨hsel, hn⟩, hs⟩, hc⟩, hlex⟩ := hB
  have hn' : n < l.length := by simpa using hn
  have htl : (l.take n).length = n := by simp; omega
  have hdl : (l.drop n).length = l.toArray.size - n := by simp
  have inv0 : HeadInv .any l.toArray n (Array.replicate l.toArray.size false) :=
    ⟨by simp, fun j oj _ hl => (by rw [getD_replicate_false] at hl; cases hl), fun t _ ht => getD_in (by simpa using ht) (getD_replicate_false _ _)⟩
  have H := anyE_lex (md := .any) (g := l.toArray.size - n) hsel hs hc hn (fun F F' a q hL w' h1 h2 => hL w' h1 (q w' h2)) (l.take n) 0 _ _ a (fun j hj => by
    have hj' : j < n := by rw [htl] at hj; exact hj
    simp [hj']) (by simpa using htl) inv0 (by rw [htl]; exact hlex) h
  refine wp_region_any hm ?_
  have := wpAny_of_anyE (Q' := Q) (g := l.toArray.size - n) hR (fun listed F a' hL w' hS' hF => by
    have := wpAny_of_seq (md := .any) (Q' := Q) (l.drop n) n listed a' w' (fun j => by simp [List.getElem?_drop]) (by rw [hdl]; exact hL.1) (hL.2 w' hS' hF)
    rwa [hdl] at this) _ _ _ _ (fun _ _ _ _ => trivial) H w.drew (Ext.refl _) trivial
  rw [htl, show n + (l.toArray.size - n) = l.toArray.size by omega] at this
  exact this
/-! What is known of a value. -/
def isV (c : Value) : Value → World → Prop := fun v _ => v = c
/-- a new block that is just these cells. -/
def isNew (B : Nat) (t : TypeId) (cs : Array Value) : Value → World → Prop := fun v w => ∃ b, v = .pointer (some ⟨b, 0, none⟩) ∧ B ≤ b ∧ w.heap[b]? = some (.cells cs t (0, 0))
theorem stays_isV (c v : Value) : Stays (isV c v) := fun _ _ h _ => h
theorem stays_isNew (B : Nat) (t : TypeId) (cs : Array Value) (v : Value) : Stays (isNew B t cs v) := fun w w' ⟨b, h1, h2, h3⟩ hE => by
  refine ⟨b, h1, h2, ?_⟩
  have hlt : b < w.heap.size := by
    rcases Nat.lt_or_ge b w.heap.size with h | h
    · exact h
    · rw [Array.getElem?_eq_none h] at h3; cases h3
  exact (Below.block hE b hlt).trans h3
theorem stays_true : Stays (fun _ => True) := fun _ _ _ _ => trivial
def kindsOf (l : List (Value → World → Prop)) : Nat → Value → World → Prop := fun i => l.getD i (fun _ _ => True)
theorem kindsOf_stays (l : List (Value → World → Prop)) (h : ∀ R ∈ l, ∀ v, Stays (R v)) : ∀ i v, Stays (kindsOf l i v) := by
  intro i v
  unfold kindsOf
  rcases Nat.lt_or_ge i l.length with hi | hi
  · rw [List.getD, List.getElem?_eq_getElem hi]
    exact h _ (List.getElem_mem hi) v
  · rw [List.getD, List.getElem?_eq_none hi]
    exact stays_true
theorem wpExt_nil {Q : (World → Prop) → Act → Prop} {F : World → Prop} {a : Act} {k : Nat} (h : Q F a) : wpExt P ops w0 Rs Q [] k F a := h
theorem wpExt_val {Q : (World → Prop) → Act → Prop} {F : World → Prop} {a : Act} {k : Nat} {o : Oper} {rest : List Oper} (c : Value) (hR : Rs k = isV c) (hw : Region.wanted o (yielded ops a.tmps) = true) (hr : ∀ w, Ext w0 w → (execOp a.eval o).run P w = .ok (.value c) w)
    (h2 : wpExt P ops w0 Rs Q rest (k + 1) (fun w => F w ∧ Rs k c w) (a.put o.dst c)) : wpExt P ops w0 Rs Q (o :: rest) k F a := by
  refine ⟨.inl ⟨hw, fun w hE => by rw [hr w hE, hR]; exact ⟨Ext.refl _, rfl⟩⟩, fun v ⟨w, hv⟩ => ?_⟩
  rw [hR] at hv
  obtain rfl : v = c := hv
  exact h2
theorem wpExt_call {Q : (World → Prop) → Act → Prop} {F : World → Prop} {a : Act} {k : Nat} {o : Oper} {rest : List Oper} (c : Value) (f : FuncId) (args : Array Value) (hR : Rs k = isV c) (hw : Region.wanted o (yielded ops a.tmps) = true) (hr : ∀ w, (execOp a.eval o).run P w = .ok (.enter f args) w)
    (h : ∀ w, Ext w0 w → Calls P f args w (fun e w' => e = .returned c ∧ Ext w w')) (h2 : wpExt P ops w0 Rs Q rest (k + 1) (fun w => F w ∧ Rs k c w) (a.put o.dst c)) : wpExt P ops w0 Rs Q (o :: rest) k F a := by
  refine ⟨.inl ⟨hw, fun w hE => by rw [hr w, hR]; exact (h w hE).mono fun e w' ⟨he, hx⟩ => ⟨c, he, hx, rfl⟩⟩, fun v ⟨w, hv⟩ => ?_⟩
  rw [hR] at hv
  obtain rfl : v = c := hv
  exact h2
theorem wpExt_skip {Q : (World → Prop) → Act → Prop} {F : World → Prop} {a : Act} {k : Nat} {o : Oper} {rest : List Oper} (hR : Rs k = isV undef) (hw : Region.wanted o (yielded ops a.tmps) = false)
    (h2 : wpExt P ops w0 Rs Q rest (k + 1) (fun w => F w ∧ Rs k undef w) (a.put o.dst undef)) : wpExt P ops w0 Rs Q (o :: rest) k F a := by
  refine ⟨.inr ⟨hw, fun w _ => by rw [hR]; rfl⟩, fun v ⟨w, hv⟩ => ?_⟩
  rw [hR] at hv
  obtain rfl : v = undef := hv
  exact h2
theorem wpExt_new {Q : (World → Prop) → Act → Prop} {F : World → Prop} {a : Act} {k : Nat} {o : Oper} {rest : List Oper} (t : TypeId) (cs : Array Value) (hR : Rs k = isNew w0.heap.size t cs) (hw : Region.wanted o (yielded ops a.tmps) = true)
    (hr : ∀ w, (execOp a.eval o).run P w = .ok (.value (.pointer (some ⟨w.heap.size, 0, none⟩))) (w.alloc (.cells cs t)))
    (h2 : ∀ b, w0.heap.size ≤ b → wpExt P ops w0 Rs Q rest (k + 1) (fun w => F w ∧ Rs k (.pointer (some ⟨b, 0, none⟩)) w) (a.put o.dst (.pointer (some ⟨b, 0, none⟩)))) : wpExt P ops w0 Rs Q (o :: rest) k F a := by
  refine ⟨.inl ⟨hw, fun w hE => by
    rw [hr w, hR]
    exact ⟨(Below.refl _ _).alloc (Nat.le_refl _) _, _, rfl, hE.size, by show (w.heap.push _)[w.heap.size]? = _; simp⟩⟩, fun v ⟨w, hv⟩ => ?_⟩
  rw [hR] at hv
  obtain ⟨b, rfl, hb, _⟩ := hv
  exact h2 b hb
end
end Go.Proofs.Ytlbfohpkngmaoaa.Ch.B

/- A region that draws its order, whose last two operations stand in either order behind all others: the first ones by region_ext's way, or region_held's; the last two, in both orders. -/
namespace Go.Proofs.Ytlbfohpkngmaoaa.Ch.B
open Go Go.RowKit
section
variable {P : Program} {ops : Array Oper} {md : Region.Mode} {Rs : Nat → Value → World → Prop} {w0 : World} {S : World → Prop}

def sinkT (md : Region.Mode) (ops : Array Oper) (n t : Nat) : Bool :=
  (List.range n).all fun i => ((List.range n).any fun j => decide (i < j) && Region.waitsFor md ops j i) || Region.waitsFor md ops t i
def Waits (md : Region.Mode) (ops : Array Oper) (n : Nat) : Prop := ∀ listed, HeadInv md ops n listed → ∀ i, i < n → listed.getD i true = false → ∀ t, n ≤ t → t ∉ Region.ready md ops listed
theorem waits_of {n : Nat} (hs : sinkT md ops n n = true) (hs' : sinkT md ops n (n + 1) = true) (hsz : ops.size = n + 2) : Waits md ops n := by
  have key : ∀ listed, HeadInv md ops n listed → ∀ (d i : Nat), n - i = d → i < n → listed.getD i true = false → ∀ t, n ≤ t → t ∉ Region.ready md ops listed := by
    intro listed inv d
    induction d using Nat.strongRecOn with
    | _ d ih =>
      intro i hd hi hun t ht hr
      obtain ⟨_, ot, hot, hall⟩ := mem_ready.1 hr
      have htlt : t < ops.size := (Array.getElem?_eq_some_iff.1 hot).1
      have hst : sinkT md ops n t = true := by
        rcases (show t = n ∨ t = n + 1 by omega) with rfl | rfl
        · exact hs
        · exact hs'
      have h1 := List.all_eq_true.1 hst i (List.mem_range.2 hi)
      rw [Bool.or_eq_true] at h1
      rcases h1 with h1 | h1
      · obtain ⟨j, hj, hj2⟩ := List.any_eq_true.1 h1
        simp only [Bool.and_eq_true, decide_eq_true_eq] at hj2
        have hjn := List.mem_range.1 hj
        obtain ⟨oj, hoj, e, he, hb, hon⟩ := Region.waitsFor_spec hj2.2
        cases hl : listed.getD j false with
        | true =>
          have h2 := inv.closed j oj hoj hl e he hb
          rw [hon, getD_both hun] at h2
          cases h2
        | false =>
          have hjs : j < listed.size := by rw [inv.size]; omega
          exact ih (n - j) (by omega) j rfl hjn (getD_in hjs hl) t ht hr
      · obtain ⟨oj, hoj, e, he, hb, hon⟩ := Region.waitsFor_spec h1
        have : oj = ot := Option.some.inj (hoj.symm.trans hot)
        subst this
        have h2 := hall e he hb
        rw [hon, getD_both hun] at h2
        cases h2
  exact fun listed inv i hi hun => key listed inv _ i rfl hi hun
def pairB (md : Region.Mode) (ops : Array Oper) (n : Nat) (listed : Array Bool) : Bool :=
  decide (Region.ready md ops listed = [n, n + 1]) && decide (Region.ready md ops (listed.setIfInBounds n true) = [n + 1]) && decide (Region.ready md ops (listed.setIfInBounds (n + 1) true) = [n]) &&
    (Region.ready md ops ((listed.setIfInBounds n true).setIfInBounds (n + 1) true)).isEmpty && (Region.ready md ops ((listed.setIfInBounds (n + 1) true).setIfInBounds n true)).isEmpty
theorem pairB_ready {n : Nat} {listed : Array Bool} (h : pairB md ops n listed = true) : ∀ j ∈ Region.ready md ops listed, n ≤ j := by
  simp only [pairB, Bool.and_eq_true, decide_eq_true_eq] at h
  rw [h.1.1.1.1]
  intro j hj
  simp at hj
  omega
theorem wpAny_of_pair {Q' : Exit → Act → World → Prop} {n : Nat} {listed : Array Bool} {a : Act} {w : World} {o1 o2 : Oper} (h1 : ops[n]? = some o1) (h2 : ops[n + 1]? = some o2) (hB : pairB md ops n listed = true)
    (A : wpList P ops Q' [o1, o2] a w) (B : wpList P ops Q' [o2, o1] a w) : wpAny P md ops Q' 2 listed a w := by
  simp only [pairB, Bool.and_eq_true, decide_eq_true_eq] at hB
  obtain ⟨⟨⟨⟨q1, q2⟩, q3⟩, q4⟩, q5⟩ := hB
  have last : ∀ (o : Oper) (i : Nat) (l : Array Bool) (a' : Act) (w' : World), ops[i]? = some o → Region.ready md ops l = [i] → (Region.ready md ops (l.setIfInBounds i true)).isEmpty = true → wpList P ops Q' [o] a' w' → wpAny P md ops Q' 1 l a' w' := by
    intro o i l a' w' ho hr he hw
    refine ⟨fun h => (by rw [hr] at h; cases h), fun j hj => ?_⟩
    rw [hr] at hj
    obtain rfl : j = i := by simpa using hj
    have h0 : wpOp P ops Q' j (wpList P ops Q' []) a' w' := by unfold wpOp; simp only [ho]; exact hw
    exact wpOp_mono (fun a'' w'' h' => ⟨by simpa using he, h'⟩) h0
  refine ⟨fun h => (by rw [q1] at h; cases h), fun i hi => ?_⟩
  rw [q1] at hi
  have : i = n ∨ i = n + 1 := by simpa using hi
  rcases this with rfl | rfl
  · have h0 : wpOp P ops Q' i (wpList P ops Q' [o2]) a w := by unfold wpOp; simp only [h1]; exact A
    exact wpOp_mono (fun a' w' h' => last o2 (i + 1) _ a' w' h2 q2 q4 h') h0
  · have h0 : wpOp P ops Q' (n + 1) (wpList P ops Q' [o1]) a w := by unfold wpOp; simp only [h2]; exact B
    exact wpOp_mono (fun a' w' h' => last o1 n _ a' w' h1 q3 q5 h') h0
def lexHead2 (md : Region.Mode) (ops : Array Oper) : Nat → Nat → Array Bool → Bool
  | 0, k, listed => pairB md ops k listed
  | f + 1, k, listed => (Region.ready md ops listed).contains k && Region.free md ops listed k && lexHead2 md ops f (k + 1) (listed.setIfInBounds k true)
def lexPairB (ops : Array Oper) (n : Nat) : Bool :=
  Region.noSelect ops && sinkT .any ops n n && sinkT .any ops n (n + 1) && decide (ops.size = n + 2) && lexHead2 .any ops n 0 (Array.replicate ops.size false)
theorem anyE_first2 {n i : Nat} {oi : Oper} {L : Array Bool → (World → Prop) → Act → Prop} (hi : ops[i]? = some oi) (hsel : ∀ (j : Nat) (o : Oper) cs b, ops[j]? = some o → o.op ≠ .select cs b)
    (hw : Waits md ops n) (hin : i < n) (hmono : ∀ listed F F' a, (∀ w, F' w → F w) → L listed F a → L listed F' a)
    (hdone : ∀ listed F a, L listed F a → ∀ j ∈ Region.ready md ops listed, n ≤ j) :
    ∀ (f : Nat) (listed : Array Bool) (F : World → Prop) (a : Act), HeadInv md ops n listed →
      (∀ j oj, ops[j]? = some oj → j ≠ i → listed.getD j true = false → (∀ e ∈ oj.after, Region.binds md e = true → e.on ≠ i) → oi.apart ops oj = true) →
      i ∈ Region.ready md ops listed → ExtAt P ops w0 oi (Rs i) a →
      (∀ v, (∃ w, Rs i v w) → anyE P md ops w0 Rs n L f (listed.setIfInBounds i true) (fun w => F w ∧ Rs i v w) (a.put oi.dst v)) → anyE P md ops w0 Rs n L (f + 1) listed F a := by
  intro f
  induction f with
  | zero =>
    intro listed F a inv _ hr hy H
    have hun := (mem_ready.1 hr).1
    refine ⟨fun h => (by rw [h] at hr; cases hr), fun j hj => ?_⟩
    have hjn : j < n := by
      rcases Nat.lt_or_ge j n with h | h
      · exact h
      · exact absurd hj (hw _ inv i hin hun j h)
    refine ⟨hjn, ?_⟩
    by_cases hji : j = i
    · subst hji; exact ⟨oi, hi, hy, H⟩
    · obtain ⟨v0, hv0⟩ := hy.possible
      have := hdone _ _ _ (H v0 hv0) j (ready_mono hj hji)
      omega
  | succ f ih =>
    intro listed F a inv hfree hr hy H
    have hun := (mem_ready.1 hr).1
    refine ⟨fun h => (by rw [h] at hr; cases hr), fun j hj => ?_⟩
    have hjn : j < n := by
      rcases Nat.lt_or_ge j n with h | h
      · exact h
      · exact absurd hj (hw _ inv i hin hun j h)
    refine ⟨hjn, ?_⟩
    by_cases hji : j = i
    · subst hji; exact ⟨oi, hi, hy, H⟩
    · obtain ⟨v0, hv0⟩ := hy.possible
      obtain ⟨_, oj', hoj', hyj0, _⟩ := (H v0 hv0).2 j (ready_mono hj hji)
      obtain ⟨hjun, oj, hoj, hall⟩ := mem_ready.1 hj
      obtain rfl : oj = oj' := Option.some.inj (hoj.symm.trans hoj')
      have hnot : ∀ e ∈ oj.after, Region.binds md e = true → e.on ≠ i := fun e he hb heq => by
        have h1 := hall e he hb
        rw [heq, getD_both hun] at h1
        cases h1
      have hap := hfree j oj hoj hji hjun hnot
      obtain ⟨h1, h2, h3⟩ := Oper.apart_spec hap
      have hsi : ∀ cs b, oi.op ≠ .select cs b := fun cs b => hsel i oi cs b hi
      have hsj : ∀ cs b, oj.op ≠ .select cs b := fun cs b => hsel j oj cs b hoj
      have hyj : ExtAt P ops w0 oj (Rs j) a := hyj0.of_same (execOp_put oj hsj a oi.dst v0 h1).symm (wanted_put oj a oi.dst v0 h1).symm
      refine ⟨oj, hoj, hyj, fun u hu => ?_⟩
      have hfree' : ∀ k ok, ops[k]? = some ok → k ≠ i → (listed.setIfInBounds j true).getD k true = false →
          (∀ e ∈ ok.after, Region.binds md e = true → e.on ≠ i) → oi.apart ops ok = true := fun k ok hk hki hun hno => by
        refine hfree k ok hk hki ?_ hno
        by_cases hjk : j = k
        · subst hjk; exact hjun
        · rw [getD_set_ne true hjk] at hun; exact hun
      refine ih (listed.setIfInBounds j true) _ _ (inv.set hj hjn) hfree' (ready_mono hr (Ne.symm hji)) (hy.of_same (execOp_put oi hsi a oj.dst u h3) (wanted_put oi a oj.dst u h3)) (fun v hv => ?_)
      obtain ⟨_, oj2, hoj2, _, hK2⟩ := (H v hv).2 j (ready_mono hj hji)
      obtain rfl : oj = oj2 := Option.some.inj (hoj.symm.trans hoj2)
      have h4 := hK2 u hu
      rw [Array.setIfInBounds_comm _ _ hji, ← Act.put_comm a v u h2]
      exact anyE_mono hmono _ _ _ _ _ (fun w ⟨⟨q1, q2⟩, q3⟩ => ⟨⟨q1, q3⟩, q2⟩) h4
theorem anyE_lex2 {n : Nat} {Lq : (World → Prop) → Act → Prop} (hsel : Region.noSelect ops = true) (hw : Waits md ops n) (hLq : ∀ F F' a, (∀ w, F' w → F w) → Lq F a → Lq F' a) :
    ∀ (l : List Oper) (k : Nat) (listed : Array Bool) (F : World → Prop) (a : Act), (∀ j, j < l.length → l[j]? = ops[k + j]?) → k + l.length = n → HeadInv md ops n listed →
    lexHead2 md ops l.length k listed = true → wpExt P ops w0 Rs Lq l k F a →
    anyE P md ops w0 Rs n (fun listed' F' a' => pairB md ops n listed' = true ∧ Lq F' a') l.length listed F a
  | [], k, listed, F, a, _, hk, _, hB, h => by
    have : k = n := by simpa using hk
    subst this
    exact ⟨by simpa [lexHead2] using hB, h⟩
  | o :: l, k, listed, F, a, hl, hk, inv, hB, h => by
    have h0 : ops[k]? = some o := by simpa using (hl 0 (by simp)).symm
    simp only [List.length_cons, lexHead2, Bool.and_eq_true] at hB
    obtain ⟨⟨hr, hf⟩, hB'⟩ := hB
    have hkn : k < n := by simp only [List.length_cons] at hk; omega
    have hr' : k ∈ Region.ready md ops listed := by simpa using hr
    obtain ⟨hy, hK⟩ := h
    exact anyE_first2 h0 (Region.noSelect_spec hsel) hw hkn (fun _ _ _ _ q hL => ⟨hL.1, hLq _ _ _ q hL.2⟩) (fun listed' F' a' hL => pairB_ready hL.1) l.length listed F a inv (Region.free_spec h0 hf) hr' hy
      (fun v hv => anyE_lex2 hsel hw hLq l (k + 1) _ _ _ (fun j hj => by have := hl (j + 1) (by simp; omega); simpa [Nat.add_assoc, Nat.add_comm 1 j] using this) (by simp only [List.length_cons] at hk; omega) (inv.set hr' hkn) hB' (hK v hv))
/-- The first n in whatever order; then the last two, in either. -/
theorem region_ext2 {id : Nat} {Q : Exit → Act → World → Prop} {a : Act} {w : World} {l : List Oper} {o1 o2 : Oper} (Rs : Nat → Value → World → Prop) (hR : ∀ i v, Stays (Rs i v)) (n : Nat) (hm : P.follows .mixedOrders = true) (hB : lexPairB l.toArray n = true) (hd : l.drop n = [o1, o2])
    (h : wpExt P l.toArray w.drew Rs (fun F a' => ∀ w', Ext w.drew w' → F w' → wpList P l.toArray Q [o1, o2] a' w' ∧ wpList P l.toArray Q [o2, o1] a' w') (l.take n) 0 (fun _ => True) a) : (Code.region id l.toArray true).wp P Q a w := by
  simp only [lexPairB, Bool.and_eq_true, decide_eq_true_eq] at hB
  obtain ⟨⟨⟨⟨hsel, hs⟩, hs'⟩, hsz⟩, hlex⟩ := hB
  have hn' : n + 2 = l.length := by simpa using hsz.symm
  have htl : (l.take n).length = n := by simp; omega
  have inv0 : HeadInv .any l.toArray n (Array.replicate l.toArray.size false) :=
    ⟨by simp, fun j oj _ hl => (by rw [getD_replicate_false] at hl; cases hl), fun t _ ht => getD_in (by simpa using ht) (getD_replicate_false _ _)⟩
  have H := anyE_lex2 (md := .any) hsel (waits_of hs hs' hsz) (fun F F' a q hL w' h1 h2 => hL w' h1 (q w' h2)) (l.take n) 0 _ _ a (fun j hj => by
    have hj' : j < n := by rw [htl] at hj; exact hj
    simp [hj']) (by simpa using htl) inv0 (by rw [htl]; exact hlex) h
  have e1 : l.toArray[n]? = some o1 := by have := congrArg (fun q => q[0]?) hd; simpa using this
  have e2 : l.toArray[n + 1]? = some o2 := by have := congrArg (fun q => q[1]?) hd; simpa using this
  refine wp_region_any hm ?_
  have := wpAny_of_anyE (Q' := Q) (g := 2) hR (fun listed F a' hL w' hS' hF => wpAny_of_pair e1 e2 hL.1 (hL.2 w' hS' hF).1 (hL.2 w' hS' hF).2) _ _ _ _ (fun _ _ _ _ => trivial) H w.drew (Ext.refl _) trivial
  rw [htl, ← hsz] at this
  exact this
theorem anyH_first2 {n i : Nat} {oi : Oper} {v : Value} {L : Array Bool → Act → Prop} (hi : ops[i]? = some oi) (hsel : ∀ (j : Nat) (o : Oper) cs b, ops[j]? = some o → o.op ≠ .select cs b)
    (hw : Waits md ops n) (hin : i < n)
    (hdone : ∀ listed a, L listed a → ∀ j ∈ Region.ready md ops listed, n ≤ j) :
    ∀ (f : Nat) (listed : Array Bool) (a : Act), HeadInv md ops n listed →
      (∀ j oj, ops[j]? = some oj → j ≠ i → listed.getD j true = false → (∀ e ∈ oj.after, Region.binds md e = true → e.on ≠ i) → oi.apart ops oj = true) →
      i ∈ Region.ready md ops listed → HeldAt P ops S oi v a →
      anyH P md ops S n L f (listed.setIfInBounds i true) (a.put oi.dst v) → anyH P md ops S n L (f + 1) listed a := by
  intro f
  induction f with
  | zero =>
    intro listed a inv _ hr hy H
    have hun := (mem_ready.1 hr).1
    refine ⟨fun h => (by rw [h] at hr; cases hr), fun j hj => ?_⟩
    have hjn : j < n := by
      rcases Nat.lt_or_ge j n with h | h
      · exact h
      · exact absurd hj (hw _ inv i hin hun j h)
    refine ⟨hjn, ?_⟩
    by_cases hji : j = i
    · subst hji; exact ⟨oi, v, hi, hy, H⟩
    · have := hdone _ _ H j (ready_mono hj hji)
      omega
  | succ f ih =>
    intro listed a inv hfree hr hy H
    have hun := (mem_ready.1 hr).1
    refine ⟨fun h => (by rw [h] at hr; cases hr), fun j hj => ?_⟩
    have hjn : j < n := by
      rcases Nat.lt_or_ge j n with h | h
      · exact h
      · exact absurd hj (hw _ inv i hin hun j h)
    refine ⟨hjn, ?_⟩
    by_cases hji : j = i
    · subst hji; exact ⟨oi, v, hi, hy, H⟩
    · have h1 := (H.2 j (ready_mono hj hji)).2
      obtain ⟨hjun, oj, hoj, hall⟩ := mem_ready.1 hj
      have hnot : ∀ e ∈ oj.after, Region.binds md e = true → e.on ≠ i := fun e he hb heq => by
        have h1 := hall e he hb
        rw [heq, getD_both hun] at h1
        cases h1
      have h2 := hOp_put hoj (hfree j oj hoj hji hjun hnot) (fun cs b => hsel i oi cs b hi) (fun cs b => hsel j oj cs b hoj) hy h1
      have hfree' : ∀ k ok, ops[k]? = some ok → k ≠ i → (listed.setIfInBounds j true).getD k true = false →
          (∀ e ∈ ok.after, Region.binds md e = true → e.on ≠ i) → oi.apart ops ok = true := fun k ok hk hki hun hno => by
        refine hfree k ok hk hki ?_ hno
        by_cases hjk : j = k
        · subst hjk; exact hjun
        · rw [getD_set_ne true hjk] at hun; exact hun
      obtain ⟨o2, u, ho2, hy2, h3⟩ := h2
      refine ⟨o2, u, ho2, hy2, ih (listed.setIfInBounds j true) _ (inv.set hj hjn) hfree' (ready_mono hr (Ne.symm hji)) h3.1 ?_⟩
      rw [Array.setIfInBounds_comm _ _ hji]
      exact h3.2
theorem anyH_lex2 {n : Nat} {Lq : Act → Prop} (hsel : Region.noSelect ops = true) (hw : Waits md ops n) :
    ∀ (l : List Oper) (k : Nat) (listed : Array Bool) (a : Act), (∀ j, j < l.length → l[j]? = ops[k + j]?) → k + l.length = n → HeadInv md ops n listed →
    lexHead2 md ops l.length k listed = true → wpHeld P ops S Lq l a →
    anyH P md ops S n (fun listed' a' => pairB md ops n listed' = true ∧ Lq a') l.length listed a
  | [], k, listed, a, _, hk, _, hB, h => by
    have : k = n := by simpa using hk
    subst this
    exact ⟨by simpa [lexHead2] using hB, h⟩
  | o :: l, k, listed, a, hl, hk, inv, hB, h => by
    have h0 : ops[k]? = some o := by simpa using (hl 0 (by simp)).symm
    simp only [List.length_cons, lexHead2, Bool.and_eq_true] at hB
    obtain ⟨⟨hr, hf⟩, hB'⟩ := hB
    have hkn : k < n := by simp only [List.length_cons] at hk; omega
    have hr' : k ∈ Region.ready md ops listed := by simpa using hr
    obtain ⟨v, hy, hK⟩ := h
    exact anyH_first2 h0 (Region.noSelect_spec hsel) hw hkn (fun listed' a' hL => pairB_ready hL.1) l.length listed a inv (Region.free_spec h0 hf) hr' hy
      (anyH_lex2 hsel hw l (k + 1) _ _ (fun j hj => by have := hl (j + 1) (by simp; omega); simpa [Nat.add_assoc, Nat.add_comm 1 j] using this) (by simp only [List.length_cons] at hk; omega) (inv.set hr' hkn) hB' hK)
/-- The first n in whatever order; then the last two, in either. -/
theorem region_held2 {id : Nat} {Q : Exit → Act → World → Prop} {a : Act} {w : World} {l : List Oper} {o1 o2 : Oper} (S : World → Prop) (n : Nat) (hm : P.follows .mixedOrders = true) (hB : lexPairB l.toArray n = true) (hd : l.drop n = [o1, o2]) (hS : S w.drew)
    (h : wpHeld P l.toArray S (fun a' => ∀ w', S w' → wpList P l.toArray Q [o1, o2] a' w' ∧ wpList P l.toArray Q [o2, o1] a' w') (l.take n) a) : (Code.region id l.toArray true).wp P Q a w := by
  simp only [lexPairB, Bool.and_eq_true, decide_eq_true_eq] at hB
  obtain ⟨⟨⟨⟨hsel, hs⟩, hs'⟩, hsz⟩, hlex⟩ := hB
  have hn' : n + 2 = l.length := by simpa using hsz.symm
  have htl : (l.take n).length = n := by simp; omega
  have inv0 : HeadInv .any l.toArray n (Array.replicate l.toArray.size false) :=
    ⟨by simp, fun j oj _ hl => (by rw [getD_replicate_false] at hl; cases hl), fun t _ ht => getD_in (by simpa using ht) (getD_replicate_false _ _)⟩
  have H := anyH_lex2 (md := .any) hsel (waits_of hs hs' hsz) (l.take n) 0 _ a (fun j hj => by
    have hj' : j < n := by rw [htl] at hj; exact hj
    simp [hj']) (by simpa using htl) inv0 (by rw [htl]; exact hlex) h
  have e1 : l.toArray[n]? = some o1 := by have := congrArg (fun q => q[0]?) hd; simpa using this
  have e2 : l.toArray[n + 1]? = some o2 := by have := congrArg (fun q => q[1]?) hd; simpa using this
  refine wp_region_any hm ?_
  have := wpAny_of_anyH (Q' := Q) (g := 2) (fun listed a' hL w' hS' => wpAny_of_pair e1 e2 hL.1 (hL.2 w' hS').1 (hL.2 w' hS').2) _ _ _ H w.drew hS
  rw [htl, ← hsz] at this
  exact this
/-- A value of which R is known. -/
theorem wpExt_callR {Q : (World → Prop) → Act → Prop} {F : World → Prop} {a : Act} {k : Nat} {o : Oper} {rest : List Oper} (f : FuncId) (args : Array Value) (hw : Region.wanted o (yielded ops a.tmps) = true) (hr : ∀ w, (execOp a.eval o).run P w = .ok (.enter f args) w)
    (h : ∀ w, Ext w0 w → Calls P f args w (fun e w' => ∃ v, e = .returned v ∧ Ext w w' ∧ Rs k v w')) (h2 : ∀ v, (∃ w, Rs k v w) → wpExt P ops w0 Rs Q rest (k + 1) (fun w => F w ∧ Rs k v w) (a.put o.dst v)) : wpExt P ops w0 Rs Q (o :: rest) k F a := by
  refine ⟨.inl ⟨hw, fun w hE => by rw [hr w]; exact (h w hE)⟩, h2⟩
end
end Go.Proofs.Ytlbfohpkngmaoaa.Ch.B

/- A region that draws its order: operations taken by their numbers: what reads nothing first (wpAny_take), two that stand side by side, the rest in a row. -/
namespace Go.Proofs.Ytlbfohpkngmaoaa.Ch.B
open Go Go.RowKit
section
variable {P : Program} {ops : Array Oper} {md : Region.Mode}

def seqI (md : Region.Mode) (ops : Array Oper) : List Nat → Array Bool → Bool
  | [], listed => (Region.ready md ops listed).isEmpty
  | i :: is, listed => decide (Region.ready md ops listed = [i]) && seqI md ops is (listed.setIfInBounds i true)
theorem wpAny_of_idx {Q' : Exit → Act → World → Prop} : ∀ (is : List Nat) (l : List Oper) (listed : Array Bool) (a : Act) (w : World), is.map (fun i => ops[i]?) = l.map some →
    seqI md ops is listed = true → wpList P ops Q' l a w → wpAny P md ops Q' is.length listed a w
  | [], l, _, _, _, hl, hB, h => by
    obtain rfl : l = [] := by simpa using hl.symm
    exact ⟨by simpa [seqI] using hB, h⟩
  | i :: is, l, listed, a, w, hl, hB, h => by
    cases l with
    | nil => simp at hl
    | cons o l =>
      simp only [List.map_cons, List.cons.injEq] at hl
      simp only [seqI, Bool.and_eq_true, decide_eq_true_eq] at hB
      refine ⟨fun h1 => (by rw [hB.1] at h1; cases h1), fun k hk => ?_⟩
      rw [hB.1] at hk
      have hik : k = i := by simpa using hk
      subst hik
      have hw : wpOp P ops Q' k (wpList P ops Q' l) a w := by unfold wpOp; simp only [hl.1]; exact h
      exact wpOp_mono (fun a' w' h' => wpAny_of_idx is l _ a' w' hl.2 hB.2 h') hw
theorem wpAny_swap {Q' : Exit → Act → World → Prop} {i j f : Nat} {listed : Array Bool} {a : Act} {w : World} {oi oj : Oper} (vi vj : Value) (hi : ops[i]? = some oi) (hj : ops[j]? = some oj)
    (hB : (decide (Region.ready md ops listed = [i, j]) && decide (Region.ready md ops (listed.setIfInBounds i true) = [j]) && decide (Region.ready md ops (listed.setIfInBounds j true) = [i]) && decide (i ≠ j)) = true)
    (wi : Region.wanted oi (yielded ops a.tmps) = true) (wi' : Region.wanted oi (yielded ops (a.put oj.dst vj).tmps) = true) (wj : Region.wanted oj (yielded ops a.tmps) = true) (wj' : Region.wanted oj (yielded ops (a.put oi.dst vi).tmps) = true)
    (ri : (execOp a.eval oi).run P w = .ok (.value vi) w) (ri' : (execOp (a.put oj.dst vj).eval oi).run P w = .ok (.value vi) w) (rj : (execOp a.eval oj).run P w = .ok (.value vj) w) (rj' : (execOp (a.put oi.dst vi).eval oj).run P w = .ok (.value vj) w)
    (hc : (a.put oi.dst vi).put oj.dst vj = (a.put oj.dst vj).put oi.dst vi) (h : wpAny P md ops Q' f ((listed.setIfInBounds i true).setIfInBounds j true) ((a.put oi.dst vi).put oj.dst vj) w) : wpAny P md ops Q' (f + 2) listed a w := by
  simp only [Bool.and_eq_true, decide_eq_true_eq] at hB
  obtain ⟨⟨⟨q1, q2⟩, q3⟩, q4⟩ := hB
  have one : ∀ {o : Oper} {k : Nat} {b : Act} {v : Value} {K : Act → World → Prop}, ops[k]? = some o → Region.wanted o (yielded ops b.tmps) = true → (execOp b.eval o).run P w = .ok (.value v) w → K (b.put o.dst v) w → wpOp P ops Q' k K b w := by
    intro o k b v K ho hw hr hK
    unfold wpOp
    simp only [ho, hw, if_true, Oper.wp, hr, Oper.upon]
    exact .inl hK
  refine ⟨fun h1 => (by rw [q1] at h1; cases h1), fun k hk => ?_⟩
  rw [q1] at hk
  have : k = i ∨ k = j := by simpa using hk
  rcases this with rfl | rfl
  · refine one hi wi ri ⟨fun h1 => (by rw [q2] at h1; cases h1), fun m hm => ?_⟩
    rw [q2] at hm
    obtain rfl : m = j := by simpa using hm
    exact one hj wj' rj' h
  · refine one hj wj rj ⟨fun h1 => (by rw [q3] at h1; cases h1), fun m hm => ?_⟩
    rw [q3] at hm
    obtain rfl : m = i := by simpa using hm
    refine one hi wi' ri' ?_
    rw [← hc, Array.setIfInBounds_comm _ _ (Ne.symm q4)]
    exact h
theorem region_any {id : Nat} {Q : Exit → Act → World → Prop} {a : Act} {w : World} {l : List Oper} (hm : P.follows .mixedOrders = true) (n : Nat) (hn : l.toArray.size = n) (h : wpAny P .any l.toArray Q n (Array.replicate n false) a w.drew) : (Code.region id l.toArray true).wp P Q a w := by
  subst hn
  exact wp_region_any hm h
end
end Go.Proofs.Ytlbfohpkngmaoaa.Ch.B

/- A region that draws its order, whose first operations keep to a relation E of worlds (reflexive, transitive), whatever order they come in, each leaving a value of which something is known that stays so along E. -/
namespace Go.Proofs.Ytlbfohpkngmaoaa.Ch.B
open Go Go.RowKit
section
variable {P : Program} {ops : Array Oper} {md : Region.Mode} {Rs : Nat → Sem Next → Value → World → Prop} {w0 : World} {E : World → World → Prop}

def Preo (E : World → World → Prop) : Prop := (∀ w, E w w) ∧ ∀ a b c, E a b → E b c → E a c
def RunG (E : World → World → Prop) (P : Program) (R : Value → World → Prop) (w : World) : Result Next → Prop
  | .ok (.value v) w' => E w w' ∧ R v w'
  | .ok .skip w' => E w w' ∧ R undef w'
  | .ok (.enter f args) w' => Calls P f args w' (fun e w'' => ∃ v, e = .returned v ∧ E w w'' ∧ R v w'')
  | _ => False
def GAt (E : World → World → Prop) (P : Program) (ops : Array Oper) (w0 : World) (o : Oper) (R : Value → World → Prop) (a : Act) : Prop :=
  (Region.wanted o (yielded ops a.tmps) = true ∧ ∀ w, E w0 w → RunG E P R w ((execOp a.eval o).run P w)) ∨ (Region.wanted o (yielded ops a.tmps) = false ∧ ∀ w, E w0 w → R undef w)
theorem GAt.of_same {o : Oper} {R : Value → World → Prop} {a a' : Act} (hy : GAt E P ops w0 o R a) (he : execOp a'.eval o = execOp a.eval o)
    (hw : Region.wanted o (yielded ops a'.tmps) = Region.wanted o (yielded ops a.tmps)) : GAt E P ops w0 o R a' := by
  unfold GAt at *
  rw [he, hw]
  exact hy
theorem GAt.possible (hP : Preo E) {o : Oper} {R : Value → World → Prop} {a : Act} (hy : GAt E P ops w0 o R a) : ∃ v w, R v w := by
  rcases hy with ⟨_, h⟩ | ⟨_, h⟩
  · have h1 := h w0 (hP.1 _)
    generalize (execOp a.eval o).run P w0 = r at h1
    cases r with
    | ok n w' =>
      cases n <;> simp only [RunG] at h1
      case value u => exact ⟨u, w', h1.2⟩
      case skip => exact ⟨undef, w', h1.2⟩
      case enter f args =>
        obtain ⟨e, w2, _, ⟨v, _, _, hr⟩, _⟩ := h1 []
        exact ⟨v, w2, hr⟩
    | halt x w' => simp only [RunG] at h1
  · exact ⟨undef, w0, h w0 (hP.1 _)⟩
theorem GAt.wpOp (hP : Preo E) {i : Nat} {o : Oper} {R : Value → World → Prop} {a : Act} {Q' : Exit → Act → World → Prop} {K : Act → World → Prop} (hi : ops[i]? = some o) (hy : GAt E P ops w0 o R a) {w : World} (hS : E w0 w) (h : ∀ v w', R v w' → E w w' → K (a.put o.dst v) w') :
    wpOp P ops Q' i K a w := by
  unfold Go.wpOp
  simp only [hi]
  rcases hy with ⟨hw, hv⟩ | ⟨hw, hv⟩
  · rw [if_pos hw]
    refine .inl ?_
    unfold Oper.wp
    have h1 := hv w hS
    generalize (execOp a.eval o).run P w = r at h1
    cases r with
    | ok n w' =>
      cases n <;> simp only [RunG] at h1 <;> simp only [Oper.upon]
      case value u => exact h _ _ h1.2 h1.1
      case skip => exact h _ _ h1.2 h1.1
      case enter f args => exact h1.mono fun e w'' ⟨v, he, hE, hR⟩ => by subst he; exact h _ _ hR hE
    | halt x w' => simp only [RunG] at h1
  · rw [hw, if_neg (by simp)]
    exact h _ _ (hv w hS) (hP.1 _)
def gOp (E : World → World → Prop) (P : Program) (ops : Array Oper) (w0 : World) (Rs : Nat → Sem Next → Value → World → Prop) (i : Nat) (K : (World → Prop) → Act → Prop) (F : World → Prop) (a : Act) : Prop :=
  ∃ o, ops[i]? = some o ∧ GAt E P ops w0 o (Rs i (execOp a.eval o)) a ∧ ∀ v, (∃ w, Rs i (execOp a.eval o) v w) → K (fun w => F w ∧ Rs i (execOp a.eval o) v w) (a.put o.dst v)
def anyG (E : World → World → Prop) (P : Program) (md : Region.Mode) (ops : Array Oper) (w0 : World) (Rs : Nat → Sem Next → Value → World → Prop) (n : Nat) (L : Array Bool → (World → Prop) → Act → Prop) : Nat → Array Bool → (World → Prop) → Act → Prop
  | 0, listed, F, a => L listed F a
  | f + 1, listed, F, a => Region.ready md ops listed ≠ [] ∧ ∀ i ∈ Region.ready md ops listed, i < n ∧ gOp E P ops w0 Rs i (anyG E P md ops w0 Rs n L f (listed.setIfInBounds i true)) F a
def StaysG (E : World → World → Prop) (F : World → Prop) : Prop := ∀ w w', F w → E w w' → F w'
theorem wpAny_of_anyG (hP : Preo E) {n g : Nat} {L : Array Bool → (World → Prop) → Act → Prop} {Q' : Exit → Act → World → Prop} (hR : ∀ i z v, StaysG E (Rs i z v)) (hL : ∀ listed F a, L listed F a → ∀ w, E w0 w → F w → wpAny P md ops Q' g listed a w) :
    ∀ (f : Nat) (listed : Array Bool) (F : World → Prop) (a : Act), StaysG E F → anyG E P md ops w0 Rs n L f listed F a → ∀ w, E w0 w → F w → wpAny P md ops Q' (f + g) listed a w
  | 0, listed, F, a, _, h, w, hS, hF => by rw [Nat.zero_add]; exact hL _ _ _ h w hS hF
  | f + 1, listed, F, a, hst, h, w, hS, hF => by
    rw [show f + 1 + g = (f + g) + 1 by omega]
    refine ⟨fun h0 => absurd h0 h.1, fun i hi => ?_⟩
    obtain ⟨_, o, ho, hy, hK⟩ := h.2 i hi
    exact hy.wpOp hP ho hS (fun v w' hv hE => wpAny_of_anyG hP hR hL f _ _ _ (fun x y ⟨h1, h2⟩ hxy => ⟨hst x y h1 hxy, hR i _ v x y h2 hxy⟩) (hK v ⟨w', hv⟩) w' (hP.2 _ _ _ hS hE) ⟨hst w w' hF hE, hv⟩)
theorem anyG_mono {n : Nat} {L : Array Bool → (World → Prop) → Act → Prop} (hL : ∀ listed F F' a, (∀ w, F' w → F w) → L listed F a → L listed F' a) :
    ∀ (f : Nat) (listed : Array Bool) (F F' : World → Prop) (a : Act), (∀ w, F' w → F w) → anyG E P md ops w0 Rs n L f listed F a → anyG E P md ops w0 Rs n L f listed F' a
  | 0, _, _, _, _, h, H => hL _ _ _ _ h H
  | f + 1, _, _, _, _, h, H => ⟨H.1, fun i hi => by
      obtain ⟨hn, o, ho, hy, hK⟩ := H.2 i hi
      exact ⟨hn, o, ho, hy, fun v hv => anyG_mono hL f _ _ _ _ (fun w ⟨h1, h2⟩ => ⟨h w h1, h2⟩) (hK v hv)⟩⟩
/-- The first k0 are listed; of the others only such as are ahead of n. -/
structure HeadInvK (md : Region.Mode) (ops : Array Oper) (n k0 : Nat) (listed : Array Bool) : Prop where
  head : HeadInv md ops n listed
  pre : ∀ i, i < k0 → listed.getD i true = true
theorem HeadInvK.set {n k0 i : Nat} {listed : Array Bool} (inv : HeadInvK md ops n k0 listed) (hi : i ∈ Region.ready md ops listed) (hin : i < n) : HeadInvK md ops n k0 (listed.setIfInBounds i true) := by
  refine ⟨inv.head.set hi hin, fun j hj => ?_⟩
  by_cases h : i = j
  · subst h
    have h1 := inv.pre i hj
    have h2 := (mem_ready.1 hi).1
    rw [h1] at h2; cases h2
  · rw [getD_set_ne true h]; exact inv.pre j hj
def WaitsK (md : Region.Mode) (ops : Array Oper) (n k0 : Nat) : Prop := ∀ listed, HeadInvK md ops n k0 listed → ∀ i, i < n → listed.getD i true = false → ∀ t, n ≤ t → t ∉ Region.ready md ops listed
def sinkK (md : Region.Mode) (ops : Array Oper) (n k0 t : Nat) : Bool :=
  (List.range n).all fun i => decide (i < k0) || ((List.range n).any fun j => decide (i < j) && Region.waitsFor md ops j i) || Region.waitsFor md ops t i
/-- each of the tail waits for all the head, or for one of the tail. -/
def tailK (md : Region.Mode) (ops : Array Oper) (n k0 : Nat) : Bool :=
  (List.range ops.size).all fun t => decide (t < n) || sinkK md ops n k0 t || ((List.range ops.size).any fun u => decide (n ≤ u) && Region.waitsFor md ops t u)
theorem waitsK_of {n k0 : Nat} (hs : tailK md ops n k0 = true) : WaitsK md ops n k0 := by
  have key : ∀ listed, HeadInvK md ops n k0 listed → ∀ (d i : Nat), n - i = d → i < n → listed.getD i true = false → ∀ t, n ≤ t → t ∉ Region.ready md ops listed := by
    intro listed inv d
    induction d using Nat.strongRecOn with
    | _ d ih =>
      intro i hd hi hun t ht hr
      obtain ⟨_, ot, hot, hall⟩ := mem_ready.1 hr
      have htlt : t < ops.size := (Array.getElem?_eq_some_iff.1 hot).1
      have hst := List.all_eq_true.1 hs t (List.mem_range.2 htlt)
      simp only [Bool.or_eq_true, decide_eq_true_eq] at hst
      rcases hst with (hst | hst) | hst
      · omega
      · have h1 := List.all_eq_true.1 hst i (List.mem_range.2 hi)
        simp only [Bool.or_eq_true, decide_eq_true_eq] at h1
        rcases h1 with (h1 | h1) | h1
        · have := inv.pre i h1; rw [hun] at this; cases this
        · obtain ⟨j, hj, hj2⟩ := List.any_eq_true.1 h1
          simp only [Bool.and_eq_true, decide_eq_true_eq] at hj2
          have hjn := List.mem_range.1 hj
          obtain ⟨oj, hoj, e, he, hb, hon⟩ := Region.waitsFor_spec hj2.2
          cases hl : listed.getD j false with
          | true =>
            have h2 := inv.head.closed j oj hoj hl e he hb
            rw [hon, getD_both hun] at h2
            cases h2
          | false =>
            have hjs : j < listed.size := by rw [inv.head.size]; omega
            exact ih (n - j) (by omega) j rfl hjn (getD_in hjs hl) t ht hr
        · obtain ⟨oj, hoj, e, he, hb, hon⟩ := Region.waitsFor_spec h1
          have : oj = ot := Option.some.inj (hoj.symm.trans hot)
          subst this
          have h2 := hall e he hb
          rw [hon, getD_both hun] at h2
          cases h2
      · obtain ⟨u, hu, hu2⟩ := List.any_eq_true.1 hst
        simp only [Bool.and_eq_true, decide_eq_true_eq] at hu2
        obtain ⟨o', ho', e, he, hb, hon⟩ := Region.waitsFor_spec hu2.2
        have : o' = ot := Option.some.inj (ho'.symm.trans hot)
        subst this
        have h2 := hall e he hb
        rw [hon, getD_both (inv.head.tail u hu2.1 (List.mem_range.1 hu))] at h2
        cases h2
  exact fun listed inv i hi hun => key listed inv _ i rfl hi hun
theorem anyG_first (hP : Preo E) {n i k0 : Nat} {oi : Oper} {L : Array Bool → (World → Prop) → Act → Prop} (hi : ops[i]? = some oi) (hsel : ∀ (j : Nat) (o : Oper) cs b, ops[j]? = some o → o.op ≠ .select cs b)
    (hw : WaitsK md ops n k0) (hin : i < n) (hmono : ∀ listed F F' a, (∀ w, F' w → F w) → L listed F a → L listed F' a)
    (hdone : ∀ listed F a, L listed F a → ∀ j ∈ Region.ready md ops listed, n ≤ j) :
    ∀ (f : Nat) (listed : Array Bool) (F : World → Prop) (a : Act), HeadInvK md ops n k0 listed →
      (∀ j oj, ops[j]? = some oj → j ≠ i → listed.getD j true = false → (∀ e ∈ oj.after, Region.binds md e = true → e.on ≠ i) → oi.apart ops oj = true) →
      i ∈ Region.ready md ops listed → GAt E P ops w0 oi (Rs i (execOp a.eval oi)) a →
      (∀ v, (∃ w, Rs i (execOp a.eval oi) v w) → anyG E P md ops w0 Rs n L f (listed.setIfInBounds i true) (fun w => F w ∧ Rs i (execOp a.eval oi) v w) (a.put oi.dst v)) → anyG E P md ops w0 Rs n L (f + 1) listed F a := by
  intro f
  induction f with
  | zero =>
    intro listed F a inv _ hr hy H
    have hun := (mem_ready.1 hr).1
    refine ⟨fun h => (by rw [h] at hr; cases hr), fun j hj => ?_⟩
    have hjn : j < n := by
      rcases Nat.lt_or_ge j n with h | h
      · exact h
      · exact absurd hj (hw _ inv i hin hun j h)
    refine ⟨hjn, ?_⟩
    by_cases hji : j = i
    · subst hji; exact ⟨oi, hi, hy, H⟩
    · obtain ⟨v0, hv0⟩ := hy.possible hP
      have := hdone _ _ _ (H v0 hv0) j (ready_mono hj hji)
      omega
  | succ f ih =>
    intro listed F a inv hfree hr hy H
    have hun := (mem_ready.1 hr).1
    refine ⟨fun h => (by rw [h] at hr; cases hr), fun j hj => ?_⟩
    have hjn : j < n := by
      rcases Nat.lt_or_ge j n with h | h
      · exact h
      · exact absurd hj (hw _ inv i hin hun j h)
    refine ⟨hjn, ?_⟩
    by_cases hji : j = i
    · subst hji; exact ⟨oi, hi, hy, H⟩
    · obtain ⟨v0, hv0⟩ := hy.possible hP
      obtain ⟨_, oj', hoj', hyj0, _⟩ := (H v0 hv0).2 j (ready_mono hj hji)
      obtain ⟨hjun, oj, hoj, hall⟩ := mem_ready.1 hj
      obtain rfl : oj = oj' := Option.some.inj (hoj.symm.trans hoj')
      have hnot : ∀ e ∈ oj.after, Region.binds md e = true → e.on ≠ i := fun e he hb heq => by
        have h1 := hall e he hb
        rw [heq, getD_both hun] at h1
        cases h1
      have hap := hfree j oj hoj hji hjun hnot
      obtain ⟨h1, h2, h3⟩ := Oper.apart_spec hap
      have hsi : ∀ cs b, oi.op ≠ .select cs b := fun cs b => hsel i oi cs b hi
      have hsj : ∀ cs b, oj.op ≠ .select cs b := fun cs b => hsel j oj cs b hoj
      rw [execOp_put oj hsj a oi.dst v0 h1] at hyj0
      have hyj : GAt E P ops w0 oj (Rs j (execOp a.eval oj)) a := hyj0.of_same (execOp_put oj hsj a oi.dst v0 h1).symm (wanted_put oj a oi.dst v0 h1).symm
      refine ⟨oj, hoj, hyj, fun u hu => ?_⟩
      have hfree' : ∀ k ok, ops[k]? = some ok → k ≠ i → (listed.setIfInBounds j true).getD k true = false →
          (∀ e ∈ ok.after, Region.binds md e = true → e.on ≠ i) → oi.apart ops ok = true := fun k ok hk hki hun hno => by
        refine hfree k ok hk hki ?_ hno
        by_cases hjk : j = k
        · subst hjk; exact hjun
        · rw [getD_set_ne true hjk] at hun; exact hun
      refine ih (listed.setIfInBounds j true) _ _ (inv.set hj hjn) hfree' (ready_mono hr (Ne.symm hji)) (by rw [execOp_put oi hsi a oj.dst u h3]; exact hy.of_same (execOp_put oi hsi a oj.dst u h3) (wanted_put oi a oj.dst u h3)) (fun v hv => ?_)
      rw [execOp_put oi hsi a oj.dst u h3] at hv
      obtain ⟨_, oj2, hoj2, _, hK2⟩ := (H v hv).2 j (ready_mono hj hji)
      obtain rfl : oj = oj2 := Option.some.inj (hoj.symm.trans hoj2)
      rw [execOp_put oj hsj a oi.dst v h1] at hK2
      have h4 := hK2 u hu
      rw [Array.setIfInBounds_comm _ _ hji, ← Act.put_comm a v u h2, execOp_put oi hsi a oj.dst u h3]
      exact anyG_mono hmono _ _ _ _ _ (fun w ⟨⟨q1, q2⟩, q3⟩ => ⟨⟨q1, q3⟩, q2⟩) h4
/-- The first operations, one behind the other. -/
def wpG (E : World → World → Prop) (P : Program) (ops : Array Oper) (w0 : World) (Rs : Nat → Sem Next → Value → World → Prop) (Q : (World → Prop) → Act → Prop) : List Oper → Nat → (World → Prop) → Act → Prop
  | [], _, F, a => Q F a
  | o :: rest, k, F, a => GAt E P ops w0 o (Rs k (execOp a.eval o)) a ∧ ∀ v, (∃ w, Rs k (execOp a.eval o) v w) → wpG E P ops w0 Rs Q rest (k + 1) (fun w => F w ∧ Rs k (execOp a.eval o) v w) (a.put o.dst v)
theorem anyG_lex (hP : Preo E) {n g k0 : Nat} {Lq : (World → Prop) → Act → Prop} (hsel : Region.noSelect ops = true) (hw : WaitsK md ops n k0) (hLq : ∀ F F' a, (∀ w, F' w → F w) → Lq F a → Lq F' a) :
    ∀ (l : List Oper) (k : Nat) (listed : Array Bool) (F : World → Prop) (a : Act), (∀ j, j < l.length → l[j]? = ops[k + j]?) → k + l.length = n → HeadInvK md ops n k0 listed →
    Region.lexHead md ops g l.length k listed = true → wpG E P ops w0 Rs Lq l k F a →
    anyG E P md ops w0 Rs n (fun listed' F' a' => Region.seqB md ops g n listed' = true ∧ Lq F' a') l.length listed F a
  | [], k, listed, F, a, _, hk, _, hB, h => by
    have : k = n := by simpa using hk
    subst this
    exact ⟨by simpa [Region.lexHead] using hB, h⟩
  | o :: l, k, listed, F, a, hl, hk, inv, hB, h => by
    have h0 : ops[k]? = some o := by simpa using (hl 0 (by simp)).symm
    simp only [List.length_cons, Region.lexHead, Bool.and_eq_true] at hB
    obtain ⟨⟨hr, hf⟩, hB'⟩ := hB
    have hkn : k < n := by simp only [List.length_cons] at hk; omega
    have hr' : k ∈ Region.ready md ops listed := by simpa using hr
    obtain ⟨hy, hK⟩ := h
    exact anyG_first hP h0 (Region.noSelect_spec hsel) hw hkn (fun _ _ _ _ q hL => ⟨hL.1, hLq _ _ _ q hL.2⟩) (fun listed' F' a' hL => seqB_ready hL.1) l.length listed F a inv (Region.free_spec h0 hf) hr' hy
      (fun v hv => anyG_lex hP hsel hw hLq l (k + 1) _ _ _ (fun j hj => by have := hl (j + 1) (by simp; omega); simpa [Nat.add_assoc, Nat.add_comm 1 j] using this) (by simp only [List.length_cons] at hk; omega) (inv.set hr' hkn) hB' (hK v hv))
theorem anyG_lexP (hP : Preo E) {n k0 : Nat} {Lq : (World → Prop) → Act → Prop} (hsel : Region.noSelect ops = true) (hw : WaitsK md ops n k0) (hLq : ∀ F F' a, (∀ w, F' w → F w) → Lq F a → Lq F' a) :
    ∀ (l : List Oper) (k : Nat) (listed : Array Bool) (F : World → Prop) (a : Act), (∀ j, j < l.length → l[j]? = ops[k + j]?) → k + l.length = n → HeadInvK md ops n k0 listed →
    lexHead2 md ops l.length k listed = true → wpG E P ops w0 Rs Lq l k F a →
    anyG E P md ops w0 Rs n (fun listed' F' a' => pairB md ops n listed' = true ∧ Lq F' a') l.length listed F a
  | [], k, listed, F, a, _, hk, _, hB, h => by
    have : k = n := by simpa using hk
    subst this
    exact ⟨by simpa [lexHead2] using hB, h⟩
  | o :: l, k, listed, F, a, hl, hk, inv, hB, h => by
    have h0 : ops[k]? = some o := by simpa using (hl 0 (by simp)).symm
    simp only [List.length_cons, lexHead2, Bool.and_eq_true] at hB
    obtain ⟨⟨hr, hf⟩, hB'⟩ := hB
    have hkn : k < n := by simp only [List.length_cons] at hk; omega
    have hr' : k ∈ Region.ready md ops listed := by simpa using hr
    obtain ⟨hy, hK⟩ := h
    exact anyG_first hP h0 (Region.noSelect_spec hsel) hw hkn (fun _ _ _ _ q hL => ⟨hL.1, hLq _ _ _ q hL.2⟩) (fun listed' F' a' hL => pairB_ready hL.1) l.length listed F a inv (Region.free_spec h0 hf) hr' hy
      (fun v hv => anyG_lexP hP hsel hw hLq l (k + 1) _ _ _ (fun j hj => by have := hl (j + 1) (by simp; omega); simpa [Nat.add_assoc, Nat.add_comm 1 j] using this) (by simp only [List.length_cons] at hk; omega) (inv.set hr' hkn) hB' (hK v hv))
def preB (md : Region.Mode) (ops : Array Oper) (k0 : Nat) (listed : Array Bool) : Bool :=
  decide (listed.size = ops.size) && ((List.range ops.size).all fun i => listed.getD i (decide (i < k0)) == decide (i < k0)) && ((List.range k0).all fun i => match ops[i]? with | some o => o.after.all (fun e => !Region.binds md e || decide (e.on < k0)) | none => false)
theorem preB_inv {n k0 : Nat} {listed : Array Bool} (hk : k0 ≤ n) (hn : n ≤ ops.size) (h : preB md ops k0 listed = true) : HeadInvK md ops n k0 listed := by
  simp only [preB, Bool.and_eq_true, decide_eq_true_eq] at h
  obtain ⟨⟨h1, h2⟩, h3⟩ := h
  have g : ∀ i, i < ops.size → ∀ d, listed.getD i d = decide (i < k0) := fun i hi d => by
    have := List.all_eq_true.1 h2 i (List.mem_range.2 hi)
    have hl : i < listed.size := by omega
    simp [Array.getD, hl] at this ⊢
    exact this
  refine ⟨⟨h1, fun j oj hj hl e he hb => ?_, fun t ht htl => ?_⟩, fun i hi => ?_⟩
  · have hjs : j < ops.size := (Array.getElem?_eq_some_iff.1 hj).1
    rw [g j hjs] at hl
    have hjk : j < k0 := by simpa using hl
    have := List.all_eq_true.1 h3 j (List.mem_range.2 hjk)
    rw [hj] at this
    have := Array.all_eq_true_iff_forall_mem.1 this e he
    simp [hb] at this
    rw [g e.on (by omega)]
    simpa using this
  · rw [g t htl]; simp; omega
  · rw [g i (by omega)]; simpa using hi
def lexTailK (ops : Array Oper) (k0 n : Nat) (listed : Array Bool) : Bool :=
  Region.noSelect ops && decide (n < ops.size) && decide (k0 ≤ n) && tailK .any ops n k0 && preB .any ops k0 listed && Region.lexHead .any ops (ops.size - n) (n - k0) k0 listed
/-- The first k0 are listed; those ahead of n in whatever order; then the rest, one behind the other. -/
theorem any_gen (hP : Preo E) {Q : Exit → Act → World → Prop} {a : Act} {w : World} {l : List Oper} {listed : Array Bool} (Rs : Nat → Sem Next → Value → World → Prop) (hR : ∀ i z v, StaysG E (Rs i z v)) (k0 n f : Nat) (hf : f = l.toArray.size - k0) (hB : lexTailK l.toArray k0 n listed = true)
    (h : wpG E P l.toArray w Rs (fun F a' => ∀ w', E w w' → F w' → wpList P l.toArray Q (l.drop n) a' w') ((l.drop k0).take (n - k0)) k0 (fun _ => True) a) : wpAny P .any l.toArray Q f listed a w := by
  simp only [lexTailK, Bool.and_eq_true, decide_eq_true_eq] at hB
  obtain ⟨⟨⟨⟨⟨hsel, hn⟩, hk⟩, ht⟩, hp⟩, hlex⟩ := hB
  have hn' : n < l.length := by simpa using hn
  have htl : ((l.drop k0).take (n - k0)).length = n - k0 := by simp; omega
  have hdl : (l.drop n).length = l.toArray.size - n := by simp
  have H := anyG_lex hP (md := .any) (g := l.toArray.size - n) hsel (waitsK_of ht) (fun F F' a q hL w' h1 h2 => hL w' h1 (q w' h2)) ((l.drop k0).take (n - k0)) k0 listed _ a (fun j hj => by
    have hj' : j < n - k0 := by rw [htl] at hj; exact hj
    simp [hj']) (by rw [htl]; omega) (preB_inv hk (Nat.le_of_lt hn) hp) (by rw [htl]; exact hlex) h
  have := wpAny_of_anyG hP (Q' := Q) (g := l.toArray.size - n) hR (fun listed F a' hL w' hS' hF => by
    have := wpAny_of_seq (md := .any) (Q' := Q) (l.drop n) n listed a' w' (fun j => by simp [List.getElem?_drop]) (by rw [hdl]; exact hL.1) (hL.2 w' hS' hF)
    rwa [hdl] at this) _ _ _ _ (fun _ _ _ _ => trivial) H w (hP.1 _) trivial
  rw [htl, show (n - k0) + (l.toArray.size - n) = f by omega] at this
  exact this
def lexPairK (ops : Array Oper) (k0 n : Nat) (listed : Array Bool) : Bool :=
  Region.noSelect ops && decide (n + 2 = ops.size) && decide (k0 ≤ n) && tailK .any ops n k0 && preB .any ops k0 listed && lexHead2 .any ops (n - k0) k0 listed
/-- The same; the last two in either order. -/
theorem any_gen2 (hP : Preo E) {Q : Exit → Act → World → Prop} {a : Act} {w : World} {l : List Oper} {listed : Array Bool} {o1 o2 : Oper} (Rs : Nat → Sem Next → Value → World → Prop) (hR : ∀ i z v, StaysG E (Rs i z v)) (k0 n f : Nat) (hf : f = l.toArray.size - k0) (hB : lexPairK l.toArray k0 n listed = true) (hd : l.drop n = [o1, o2])
    (h : wpG E P l.toArray w Rs (fun F a' => ∀ w', E w w' → F w' → wpList P l.toArray Q [o1, o2] a' w' ∧ wpList P l.toArray Q [o2, o1] a' w') ((l.drop k0).take (n - k0)) k0 (fun _ => True) a) : wpAny P .any l.toArray Q f listed a w := by
  simp only [lexPairK, Bool.and_eq_true, decide_eq_true_eq] at hB
  obtain ⟨⟨⟨⟨⟨hsel, hn⟩, hk⟩, ht⟩, hp⟩, hlex⟩ := hB
  have hn' : n + 2 = l.length := by simpa using hn
  have htl : ((l.drop k0).take (n - k0)).length = n - k0 := by simp; omega
  have H := anyG_lexP hP (md := .any) hsel (waitsK_of ht) (fun F F' a q hL w' h1 h2 => hL w' h1 (q w' h2)) ((l.drop k0).take (n - k0)) k0 listed _ a (fun j hj => by
    have hj' : j < n - k0 := by rw [htl] at hj; exact hj
    simp [hj']) (by rw [htl]; omega) (preB_inv hk (by omega) hp) (by rw [htl]; exact hlex) h
  have e1 : l.toArray[n]? = some o1 := by have := congrArg (fun q => q[0]?) hd; simpa using this
  have e2 : l.toArray[n + 1]? = some o2 := by have := congrArg (fun q => q[1]?) hd; simpa using this
  have := wpAny_of_anyG hP (Q' := Q) (g := 2) hR (fun listed F a' hL w' hS' hF => wpAny_of_pair e1 e2 hL.1 (hL.2 w' hS' hF).1 (hL.2 w' hS' hF).2) _ _ _ _ (fun _ _ _ _ => trivial) H w (hP.1 _) trivial
  rw [htl, show (n - k0) + 2 = f by omega] at this
  exact this
theorem preo_ext : Preo Ext := ⟨Ext.refl, fun _ _ _ h k => h.trans k⟩
theorem staysG_isV (c v : Value) : StaysG E (isV c v) := fun _ _ h _ => h
theorem staysG_true : StaysG E (fun _ => True) := fun _ _ _ _ => trivial
def kindsG (l : List (Sem Next → Value → World → Prop)) : Nat → Sem Next → Value → World → Prop := fun i => l.getD i (fun _ _ _ => True)
theorem kindsG_stays (l : List (Sem Next → Value → World → Prop)) (h : ∀ R ∈ l, ∀ z v, StaysG E (R z v)) : ∀ i z v, StaysG E (kindsG l i z v) := by
  intro i z v
  unfold kindsG
  rcases Nat.lt_or_ge i l.length with hi | hi
  · rw [List.getD, List.getElem?_eq_getElem hi]
    exact h _ (List.getElem_mem hi) z v
  · rw [List.getD, List.getElem?_eq_none hi]
    exact staysG_true
theorem wpG_nil {Q : (World → Prop) → Act → Prop} {F : World → Prop} {a : Act} {k : Nat} (h : Q F a) : wpG E P ops w0 Rs Q [] k F a := h
theorem wpG_val (hP : Preo E) {Q : (World → Prop) → Act → Prop} {F : World → Prop} {a : Act} {k : Nat} {o : Oper} {rest : List Oper} (c : Value) (hR : Rs k (execOp a.eval o) = isV c) (hw : Region.wanted o (yielded ops a.tmps) = true) (hr : ∀ w, E w0 w → (execOp a.eval o).run P w = .ok (.value c) w)
    (h2 : wpG E P ops w0 Rs Q rest (k + 1) (fun w => F w ∧ Rs k (execOp a.eval o) c w) (a.put o.dst c)) : wpG E P ops w0 Rs Q (o :: rest) k F a := by
  refine ⟨.inl ⟨hw, fun w hE => by rw [hr w hE, hR]; exact ⟨hP.1 _, rfl⟩⟩, fun v ⟨w, hv⟩ => ?_⟩
  rw [hR] at hv
  obtain rfl : v = c := hv
  exact h2
theorem wpG_skip (hP : Preo E) {Q : (World → Prop) → Act → Prop} {F : World → Prop} {a : Act} {k : Nat} {o : Oper} {rest : List Oper} (hR : Rs k (execOp a.eval o) = isV undef) (hw : Region.wanted o (yielded ops a.tmps) = false)
    (h2 : wpG E P ops w0 Rs Q rest (k + 1) (fun w => F w ∧ Rs k (execOp a.eval o) undef w) (a.put o.dst undef)) : wpG E P ops w0 Rs Q (o :: rest) k F a := by
  refine ⟨.inr ⟨hw, fun w _ => by rw [hR]; rfl⟩, fun v ⟨w, hv⟩ => ?_⟩
  rw [hR] at hv
  obtain rfl : v = undef := hv
  exact h2
/-- A call of a function, whose value is known by R. -/
theorem wpG_call {Q : (World → Prop) → Act → Prop} {F : World → Prop} {a : Act} {k : Nat} {o : Oper} {rest : List Oper} (f : FuncId) (args : Array Value) (hw : Region.wanted o (yielded ops a.tmps) = true) (hr : ∀ w, (execOp a.eval o).run P w = .ok (.enter f args) w)
    (h : ∀ w, E w0 w → Calls P f args w (fun e w' => ∃ v, e = .returned v ∧ E w w' ∧ Rs k (execOp a.eval o) v w')) (h2 : ∀ v, (∃ w, Rs k (execOp a.eval o) v w) → wpG E P ops w0 Rs Q rest (k + 1) (fun w => F w ∧ Rs k (execOp a.eval o) v w) (a.put o.dst v)) : wpG E P ops w0 Rs Q (o :: rest) k F a := by
  refine ⟨.inl ⟨hw, fun w hE => by rw [hr w]; exact (h w hE)⟩, h2⟩
/-- An operation that leaves a value and a world of which something is known. -/
theorem wpG_run_old {Q : (World → Prop) → Act → Prop} {F : World → Prop} {a : Act} {k : Nat} {o : Oper} {rest : List Oper} (hw : Region.wanted o (yielded ops a.tmps) = true)
    (h : ∀ w, E w0 w → ∃ v w', (execOp a.eval o).run P w = .ok (.value v) w' ∧ E w w' ∧ Rs k (execOp a.eval o) v w') (h2 : ∀ v, (∃ w, Rs k (execOp a.eval o) v w) → wpG E P ops w0 Rs Q rest (k + 1) (fun w => F w ∧ Rs k (execOp a.eval o) v w) (a.put o.dst v)) : wpG E P ops w0 Rs Q (o :: rest) k F a := by
  refine ⟨.inl ⟨hw, fun w hE => ?_⟩, h2⟩
  obtain ⟨v, w', hr, h3, h4⟩ := h w hE
  rw [hr]
  exact ⟨h3, h4⟩
/-- An operation that leaves a value and a world of which something is known. -/
theorem wpG_run {Q : (World → Prop) → Act → Prop} {F : World → Prop} {a : Act} {k : Nat} {o : Oper} {rest : List Oper} (hw : Region.wanted o (yielded ops a.tmps) = true)
    (h : ∀ w, E w0 w → ∃ v w', (execOp a.eval o).run P w = .ok (.value v) w' ∧ E w w' ∧ Rs k (execOp a.eval o) v w') (h2 : ∀ v, (∃ w, Rs k (execOp a.eval o) v w) → wpG E P ops w0 Rs Q rest (k + 1) (fun w => F w ∧ Rs k (execOp a.eval o) v w) (a.put o.dst v)) : wpG E P ops w0 Rs Q (o :: rest) k F a := by
  refine ⟨.inl ⟨hw, fun w hE => ?_⟩, h2⟩
  obtain ⟨v, w', hr, h3, h4⟩ := h w hE
  rw [hr]
  exact ⟨h3, h4⟩
/-- What a slice of one new block is, of which the operation alone tells the cells. -/
def isBuilt (P : Program) (B : Nat) (t : TypeId) : Sem Next → Value → World → Prop := fun z v w => ∃ q cs n, v = .slice (some ⟨q, 0, none⟩) n n ∧ B ≤ q ∧ w.heap[q]? = some (.cells cs t (0, 0)) ∧ ∃ w1, q = w1.heap.size ∧ z.run P w1 = .ok (.value v) (w1.alloc (.cells cs t))
theorem isBuilt_at {B : Nat} {t : TypeId} {z : Sem Next} {v : Value} {w : World} {cs0 : Array Value} (h : isBuilt P B t z v w) (n : Nat) (hz : ∀ w1, z.run P w1 = .ok (.value (.slice (some ⟨w1.heap.size, 0, none⟩) n n)) (w1.alloc (.cells cs0 t))) :
    ∃ q, v = .slice (some ⟨q, 0, none⟩) n n ∧ B ≤ q ∧ w.heap[q]? = some (.cells cs0 t (0, 0)) := by
  obtain ⟨q, cs, m, h1, h2, h3, w1, h4, h5⟩ := h
  have h6 := hz w1
  rw [h5] at h6
  simp only [Result.ok.injEq, Next.value.injEq] at h6
  obtain ⟨e1, e2⟩ := h6
  rw [← h4] at e1
  refine ⟨q, e1, h2, ?_⟩
  have a1 := heap_alloc_new w1 (.cells cs t)
  rw [e2, heap_alloc_new w1 (.cells cs0 t)] at a1
  rw [h3, ← a1]
end
end Go.Proofs.Ytlbfohpkngmaoaa.Ch.B

/- A region that draws its order, all of whose operations each leave one value and keep S (a store of what is there already too), whatever order they come in. -/
namespace Go.Proofs.Ytlbfohpkngmaoaa.Ch.B
open Go
section
variable {P : Program} {ops : Array Oper} {md : Region.Mode} {S : World → Prop}

theorem ready_lt {listed : Array Bool} {j : Nat} (hj : j ∈ Region.ready md ops listed) : j < ops.size := by
  obtain ⟨_, oj, hoj, _⟩ := mem_ready.1 hj
  exact (Array.getElem?_eq_some_iff.1 hoj).1
theorem anyH_first_all {i : Nat} {oi : Oper} {v : Value} {L : Array Bool → Act → Prop} (hi : ops[i]? = some oi) (hsel : ∀ (j : Nat) (o : Oper) cs b, ops[j]? = some o → o.op ≠ .select cs b)
    (hdone : ∀ listed a, L listed a → Region.ready md ops listed = []) :
    ∀ (f : Nat) (listed : Array Bool) (a : Act),
      (∀ j oj, ops[j]? = some oj → j ≠ i → listed.getD j true = false → (∀ e ∈ oj.after, Region.binds md e = true → e.on ≠ i) → oi.apart ops oj = true) →
      i ∈ Region.ready md ops listed → HeldAt P ops S oi v a →
      anyH P md ops S ops.size L f (listed.setIfInBounds i true) (a.put oi.dst v) → anyH P md ops S ops.size L (f + 1) listed a := by
  intro f
  induction f with
  | zero =>
    intro listed a _ hr hy H
    refine ⟨fun h => (by rw [h] at hr; cases hr), fun j hj => ⟨ready_lt hj, ?_⟩⟩
    by_cases hji : j = i
    · subst hji; exact ⟨oi, v, hi, hy, H⟩
    · have h1 := ready_mono hj hji
      rw [hdone _ _ H] at h1
      cases h1
  | succ f ih =>
    intro listed a hfree hr hy H
    refine ⟨fun h => (by rw [h] at hr; cases hr), fun j hj => ⟨ready_lt hj, ?_⟩⟩
    by_cases hji : j = i
    · subst hji; exact ⟨oi, v, hi, hy, H⟩
    · have hun := (mem_ready.1 hr).1
      have h1 := (H.2 j (ready_mono hj hji)).2
      obtain ⟨hjun, oj, hoj, hall⟩ := mem_ready.1 hj
      have hnot : ∀ e ∈ oj.after, Region.binds md e = true → e.on ≠ i := fun e he hb heq => by
        have h1 := hall e he hb
        rw [heq, getD_both hun] at h1
        cases h1
      have h2 := hOp_put hoj (hfree j oj hoj hji hjun hnot) (fun cs b => hsel i oi cs b hi) (fun cs b => hsel j oj cs b hoj) hy h1
      have hfree' : ∀ k ok, ops[k]? = some ok → k ≠ i → (listed.setIfInBounds j true).getD k true = false →
          (∀ e ∈ ok.after, Region.binds md e = true → e.on ≠ i) → oi.apart ops ok = true := fun k ok hk hki hun hno => by
        refine hfree k ok hk hki ?_ hno
        by_cases hjk : j = k
        · subst hjk; exact hjun
        · rw [getD_set_ne true hjk] at hun; exact hun
      obtain ⟨o2, u, ho2, hy2, h3⟩ := h2
      refine ⟨o2, u, ho2, hy2, ih (listed.setIfInBounds j true) _ hfree' (ready_mono hr (Ne.symm hji)) h3.1 ?_⟩
      rw [Array.setIfInBounds_comm _ _ hji]
      exact h3.2
theorem anyH_lex_all {Lq : Act → Prop} (hsel : Region.noSelect ops = true) :
    ∀ (l : List Oper) (k : Nat) (listed : Array Bool) (a : Act), (∀ j, j < l.length → l[j]? = ops[k + j]?) → k + l.length = ops.size →
    Region.lexHead md ops 0 l.length k listed = true → wpHeld P ops S Lq l a →
    anyH P md ops S ops.size (fun listed' a' => Region.ready md ops listed' = [] ∧ Lq a') l.length listed a
  | [], k, listed, a, _, _, hB, h => by
    refine ⟨?_, h⟩
    simpa [Region.lexHead, Region.seqB] using hB
  | o :: l, k, listed, a, hl, hk, hB, h => by
    have h0 : ops[k]? = some o := by simpa using (hl 0 (by simp)).symm
    simp only [List.length_cons, Region.lexHead, Bool.and_eq_true] at hB
    obtain ⟨⟨hr, hf⟩, hB'⟩ := hB
    have hr' : k ∈ Region.ready md ops listed := by simpa using hr
    obtain ⟨v, hy, hK⟩ := h
    exact anyH_first_all h0 (Region.noSelect_spec hsel) (fun listed' a' hL => hL.1) l.length listed a (Region.free_spec h0 hf) hr' hy
      (anyH_lex_all hsel l (k + 1) _ _ (fun j hj => by have := hl (j + 1) (by simp; omega); simpa [Nat.add_assoc, Nat.add_comm 1 j] using this) (by simp only [List.length_cons] at hk; omega) hB' hK)
def lexAllB (ops : Array Oper) : Bool := Region.noSelect ops && Region.lexHead .any ops 0 ops.size 0 (Array.replicate ops.size false)
/-- All, in whatever order. -/
theorem region_held_all {id : Nat} {Q : Exit → Act → World → Prop} {a : Act} {w : World} {l : List Oper} (S : World → Prop) (hm : P.follows .mixedOrders = true) (hB : lexAllB l.toArray = true) (hS : S w.drew)
    (h : wpHeld P l.toArray S (fun a' => ∀ w', S w' → wpList P l.toArray Q [] a' w') l a) : (Code.region id l.toArray true).wp P Q a w := by
  simp only [lexAllB, Bool.and_eq_true] at hB
  obtain ⟨hsel, hlex⟩ := hB
  have hsz : l.toArray.size = l.length := by simp
  rw [hsz] at hlex
  have H := anyH_lex_all (md := .any) hsel l 0 _ a (fun j _ => by simp) (by simp) hlex h
  refine wp_region_any hm ?_
  have := wpAny_of_anyH (Q' := Q) (g := 0) (fun listed a' hL w' hS' => ⟨hL.1, hL.2 w' hS'⟩) _ _ _ H _ hS
  rw [Nat.add_zero] at this
  rw [hsz]
  exact this
end
end Go.Proofs.Ytlbfohpkngmaoaa.Ch.B

/- One operation of a region that draws its order. -/
namespace Go.Proofs.Ytlbfohpkngmaoaa.Ch.B
open Go Go.RowKit
section
variable {Pg : Program} {ops : Array Oper}
theorem op_valw {Q' : Exit → Act → World → Prop} {i : Nat} {o : Oper} {a : Act} {w : World} {K : Act → World → Prop} (v : Value) (w' : World) (ho : ops[i]? = some o) (hw : Region.wanted o (yielded ops a.tmps) = true) (hr : (execOp a.eval o).run Pg w = .ok (.value v) w') (hK : K (a.put o.dst v) w') : wpOp Pg ops Q' i K a w := by
  unfold wpOp
  simp only [ho, hw, if_true, Oper.wp, hr, Oper.upon]
  exact .inl hK
theorem op_val {Q' : Exit → Act → World → Prop} {i : Nat} {o : Oper} {a : Act} {w : World} {K : Act → World → Prop} (v : Value) (ho : ops[i]? = some o) (hw : Region.wanted o (yielded ops a.tmps) = true) (hr : (execOp a.eval o).run Pg w = .ok (.value v) w) (hK : K (a.put o.dst v) w) : wpOp Pg ops Q' i K a w := op_valw v w ho hw hr hK
theorem op_call {Q' : Exit → Act → World → Prop} {i : Nat} {o : Oper} {a : Act} {w : World} {K : Act → World → Prop} (f : FuncId) (args : Array Value) (ho : ops[i]? = some o) (hw : Region.wanted o (yielded ops a.tmps) = true) (hr : (execOp a.eval o).run Pg w = .ok (.enter f args) w)
    (h : Calls Pg f args w fun e w' => ∃ v, e = .returned v ∧ K (a.put o.dst v) w') : wpOp Pg ops Q' i K a w := by
  unfold wpOp
  simp only [ho, hw, if_true, Oper.wp, hr, Oper.upon]
  refine .inl (Calls.mono h fun e w' ⟨v, he, hq⟩ => ?_)
  subst he
  exact hq
end
end Go.Proofs.Ytlbfohpkngmaoaa.Ch.B

