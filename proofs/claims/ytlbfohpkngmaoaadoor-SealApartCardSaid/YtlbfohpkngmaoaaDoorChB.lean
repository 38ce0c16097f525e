/- Texts of use, in one. -/
import Derived.WalkKit
import Derived.ProofKit
import Derived.OpenShut
import Derived.ChangeOld
import Derived.Below
import Derived.StillTail
import Derived.KernelRfl
import Derived.Tactics
import Derived.Deep.MidRow
import Derived.Test.YtlbfohpkngmaoaaDoorRows
import Derived.WalkLawsBesides
import Derived.RegionTactic
import Derived.Deep.DeepCutAuto
import Derived.Deep.Upon
import Derived.Maps.AppendAt
import Derived.Laws.Rows
import Derived.Laws.OwnMore
import Derived.Laws.BitsAllLaws
import Derived.Laws.Externs
import Derived.Outline
import Derived.Lib.Hide
import Derived.IntWalk
import Derived.LoopTactic
import Derived.OneCell
import Derived.Lib.SliceRun
/- Small lemmas on opening and shutting arguments: arrays of integers by value, slices of bytes, all arguments at once behind a call that writes nothing that was there. -/
namespace Go.Proofs.YtlbfohpkngmaoaaDoor.Ch.B
open Go.ChangeShapes Go.WideShapes Go.ChangeAt Go.RowKit
section
variable {H : Type} {enc : TypeId × Value → H} {P : Program} {W W' : World}
theorem trodAll_lt {spare : Nat → Bool} {held : Bool} {base : Nat} : ∀ {ts : List TypeId} {vs : List Value} {ds : List (DataW H)} {p : List MemPlace}, DataW.TrodAll enc P W base spare held ts vs ds p → ∀ x ∈ p, x.block < W.heap.size := by
 intro ts
 induction ts with
 | nil => intro vs ds p h; obtain ⟨rfl, rfl, rfl⟩ := trodAll_nil h; simp
 | cons t ts ih =>
  intro vs ds p h
  obtain ⟨v0, vs0, d0, ds0, p0, q0, rfl, rfl, rfl, h0, r0⟩ := trodAll_cons h
  intro x hx
  rw [List.mem_append] at hx
  rcases hx with hx | hx
  ·obtain ⟨m, hm⟩ := h0
   exact DataW.trod_lt m _ _ _ hm x hx
  ·exact ih r0 x hx
theorem trodAll_below (hl : laidOutB P = true) : ∀ (ts : List TypeId) {vs : List Value} {ds : List (DataW H)} {p : List MemPlace}, (ts.all fun t => P.readableRec t && decide (t < P.types.size)) = true →
  DataW.TrodAll enc P W 0 (fun _ => true) true ts vs ds p → Below W.heap.size W W' → (∀ x ∈ p, x.block < W.heap.size) →
  DataW.TrodAll enc P W' 0 (fun b => decide (b < W.heap.size)) true ts vs ds p := by
 intro ts
 induction ts with
 | nil => intro vs ds p _ h _ _; obtain ⟨rfl, rfl, rfl⟩ := trodAll_nil h; exact trodAll_mk0
 | cons t ts ih =>
  intro vs ds p hall h hb hlt
  obtain ⟨v0, vs0, d0, ds0, p0, q0, rfl, rfl, rfl, h0, r0⟩ := trodAll_cons h
  simp only [List.all_cons, Bool.and_eq_true, decide_eq_true_eq] at hall
  exact trodAll_cons_mk (Below.trod hl hall.1.1 hall.1.2 h0 hb (fun x hx => hlt x (by simp [hx]))) (ih (by simpa using hall.2) r0 hb (fun x hx => hlt x (by simp [hx])))
theorem ints_of {k : IntKind} : ∀ (cs : List Value), (∀ v ∈ cs, ∃ a, v = .int k a ∧ (Lit.int k a).wf = true) → ∃ xs : List Int, xs.map (Value.int k) = cs ∧ xs.length = cs.length ∧ ∀ x ∈ xs, (Lit.int k x).wf = true := by
 intro cs
 induction cs with
 | nil => intro _; exact ⟨[], rfl, rfl, by simp⟩
 | cons c cs ih =>
  intro h
  obtain ⟨a, rfl, ha⟩ := h c (by simp)
  obtain ⟨xs, h1, h2, h3⟩ := ih (fun v hv => h v (by simp [hv]))
  refine ⟨a :: xs, by simp [h1], by simp [h2], ?_⟩
  intro x hx
  rcases List.mem_cons.1 hx with rfl | hx
  ·exact ha
  ·exact h3 x hx
theorem open_arr_int {base b0 : Nat} {r : Reach} {spare : Nat → Bool} {held : Bool} {t e : TypeId} {n : Nat} {k : IntKind} {v : Value} {d : DataW H} {ps : List MemPlace} (ht : P.underlying t = some (.array n e)) (he : P.underlying e = some (.int k))
  (hc : P.cellsOf e = 1) (hct : P.cellsOf t = n) (hval : Value.okWide P W r b0 t v) (hd : DataW.Trod enc P W base spare held t v d ps) :
  ∃ xs : List Int, v = .agg (xs.map (Value.int k)).toArray ∧ xs.length = n ∧ ∀ x ∈ xs, (Lit.int k x).wf = true := by
 simp only [Value.okWide, ht] at hval
 obtain ⟨cs, rfl, hsz, _⟩ := hval
 obtain ⟨fuel, hf⟩ := hd
 simp only [Value.cells] at hf
 obtain ⟨xs, m, _, _, hlen, hl, hel⟩ := DataW.trod_array ht hf
 have key : ∀ i, i < n → ∃ a, cs.toList[i]? = some (.int k a) ∧ (Lit.int k a).wf = true := by
  intro i hi
  have h := hel i hi
  rw [hc, Nat.mul_one] at h
  have : xs[i]? = some xs[i] := List.getElem?_eq_getElem (by omega)
  rw [this] at h
  obtain ⟨a, h1, _, h2⟩ := DataW.trod_int he h
  refine ⟨a, ?_, h2⟩
  have h3 : (cs.toList.drop i).head? = some (.int k a) := by
   cases hd : cs.toList.drop i with
   | nil => rw [hd] at h1; simp at h1
   | cons y ys => rw [hd] at h1; simp at h1; simp [h1]
  simpa using h3
 have hlen' : cs.toList.length = n := by rw [hlen, hct]
 have all : ∀ v ∈ cs.toList, ∃ a, v = .int k a ∧ (Lit.int k a).wf = true := by
  intro v hv
  obtain ⟨i, hi, hiv⟩ := List.getElem_of_mem hv
  obtain ⟨a, h1, h2⟩ := key i (by omega)
  rw [List.getElem?_eq_getElem hi, hiv] at h1
  exact ⟨a, by simpa using h1, h2⟩
 obtain ⟨xs, h1, h2, h3⟩ := ints_of cs.toList all
 exact ⟨xs, by rw [h1], by rw [h2, hlen'], h3⟩
def IsRow (k : IntKind) (w : World) (a : Option Addr) (len cap : Nat) (zs : List Int) : Prop :=
 (a = none ∧ len = 0 ∧ cap = 0 ∧ zs = []) ∨
 ∃ x, a = some x ∧ len ≤ cap ∧ cap ≤ maxLen ∧ zs.length = cap ∧ (∀ i, i < zs.length → w.cell? (x.add i) = some (.int k (zs.getD i 0))) ∧ ∀ n ∈ zs, (Lit.int k n).wf = true
theorem open_bytes {held : Bool} {t e : TypeId} {k : IntKind} {a : Option Addr} {len cap : Nat} {d : DataW H} {ps : List MemPlace} (ht : P.underlying t = some (.slice e)) (he : P.underlying e = some (.int k))
  (hc : P.cellsOf e = 1) (h0 : DataW.Trod enc P W 0 (fun _ => true) held t (.slice a len cap) d ps) : ∃ zs, IsRow k W a len cap zs := by
 obtain ⟨fuel, hf⟩ := h0
 rcases open_ints ht he hc hf with ⟨hcs, _⟩ | ⟨x, l, c, zs, hcs, _, hl, hm, hz, _, hcell, hwz⟩
 ·simp [Value.cells] at hcs
  obtain ⟨rfl, rfl, rfl⟩ := hcs
  exact ⟨[], .inl ⟨rfl, rfl, rfl, rfl⟩⟩
 ·simp [Value.cells] at hcs
  obtain ⟨rfl, rfl, rfl⟩ := hcs
  exact ⟨zs, .inr ⟨_, rfl, hl, hm, by simpa using hz, hcell, hwz⟩⟩
end
end Go.Proofs.YtlbfohpkngmaoaaDoor.Ch.B
/- A region that draws its order, whose first operations each leave one value, whatever order they come in, and a world that meets S, if they begin in one that does; the rest of them stand in a row. -/
namespace Go.Proofs.YtlbfohpkngmaoaaDoor.Ch.B
open Go
section
variable {P : Program} {ops : Array Oper} {md : Region.Mode} {S : World → Prop}
def HeldRun (P : Program) (S : World → Prop) (v : Value) : Result Next → Prop
 | .ok (.value u) w' => u = v ∧ S w'
 | .ok .skip w' => undef = v ∧ S w'
 | .ok (.enter f args) w' => Calls P f args w' (fun e w'' => e = .returned v ∧ S w'')
 | _ => False
def HeldAt (P : Program) (ops : Array Oper) (S : World → Prop) (o : Oper) (v : Value) (a : Act) : Prop :=
 (Region.wanted o (yielded ops a.tmps) = true ∧ ∀ w, S w → HeldRun P S v ((execOp a.eval o).run P w)) ∨ (Region.wanted o (yielded ops a.tmps) = false ∧ v = undef)
theorem HeldAt.of_same {o : Oper} {v : Value} {a a' : Act} (hy : HeldAt P ops S o v a) (he : execOp a'.eval o = execOp a.eval o)
  (hw : Region.wanted o (yielded ops a'.tmps) = Region.wanted o (yielded ops a.tmps)) : HeldAt P ops S o v a' := by
 unfold HeldAt at *
 rw [he, hw]
 exact hy
theorem HeldAt.wpOp {i : Nat} {o : Oper} {v : Value} {a : Act} {Q' : Exit → Act → World → Prop} {K : Act → World → Prop} (hi : ops[i]? = some o) (hy : HeldAt P ops S o v a) (h : ∀ w, S w → K (a.put o.dst v) w) {w : World} (hS : S w) :
  wpOp P ops Q' i K a w := by
 unfold Go.wpOp
 simp only [hi]
 rcases hy with ⟨hw, hv⟩ | ⟨hw, rfl⟩
 ·rw [if_pos hw]
  refine .inl ?_
  unfold Oper.wp
  have h1 := hv w hS
  generalize (execOp a.eval o).run P w = r at h1
  cases r with
  | ok n w' =>
   cases n <;> simp only [HeldRun] at h1 <;> simp only [Oper.upon]
   case value u => obtain ⟨rfl, h2⟩ := h1; exact h _ h2
   case skip => obtain ⟨rfl, h2⟩ := h1; exact h _ h2
   case enter f args => exact h1.mono fun e w'' ⟨he, hS2⟩ => by subst he; exact h _ hS2
  | halt x w' => simp only [HeldRun] at h1
 ·rw [hw, if_neg (by simp)]
  exact h _ hS
def hOp (P : Program) (ops : Array Oper) (S : World → Prop) (i : Nat) (K : Act → Prop) (a : Act) : Prop :=
 ∃ o v, ops[i]? = some o ∧ HeldAt P ops S o v a ∧ K (a.put o.dst v)
def anyH (P : Program) (md : Region.Mode) (ops : Array Oper) (S : World → Prop) (n : Nat) (L : Array Bool → Act → Prop) : Nat → Array Bool → Act → Prop
 | 0, listed, a => L listed a
 | f + 1, listed, a => Region.ready md ops listed ≠ [] ∧ ∀ i ∈ Region.ready md ops listed, i < n ∧ hOp P ops S i (anyH P md ops S n L f (listed.setIfInBounds i true)) a
theorem wpAny_of_anyH {n g : Nat} {L : Array Bool → Act → Prop} {Q' : Exit → Act → World → Prop} (hL : ∀ listed a, L listed a → ∀ w, S w → wpAny P md ops Q' g listed a w) :
  ∀ (f : Nat) (listed : Array Bool) (a : Act), anyH P md ops S n L f listed a → ∀ w, S w → wpAny P md ops Q' (f + g) listed a w
 | 0, listed, a, h, w, hS => by rw [Nat.zero_add]; exact hL _ _ h w hS
 | f + 1, listed, a, h, w, hS => by
  rw [show f + 1 + g = (f + g) + 1 by omega]
  refine ⟨fun h0 => absurd h0 h.1, fun i hi => ?_⟩
  obtain ⟨_, o, v, ho, hy, hK⟩ := h.2 i hi
  exact hy.wpOp ho (fun w' hS' => wpAny_of_anyH hL f _ _ hK w' hS') hS
theorem hOp_put {j : Nat} {oi oj : Oper} {v : Value} (hj : ops[j]? = some oj) (hap : oi.apart ops oj = true)
  (hsi : ∀ cs b, oi.op ≠ .select cs b) (hsj : ∀ cs b, oj.op ≠ .select cs b) {K : Act → Prop} {a : Act}
  (hy : HeldAt P ops S oi v a) (h : hOp P ops S j K (a.put oi.dst v)) :
  hOp P ops S j (fun a' => HeldAt P ops S oi v a' ∧ K (a'.put oi.dst v)) a := by
 obtain ⟨h1, h2, h3⟩ := Oper.apart_spec hap
 obtain ⟨o, u, ho, hyj, hK⟩ := h
 obtain rfl : oj = o := Option.some.inj (hj.symm.trans ho)
 refine ⟨oj, u, hj, hyj.of_same (execOp_put oj hsj a oi.dst v h1).symm (wanted_put oj a oi.dst v h1).symm, ?_, ?_⟩
 ·exact hy.of_same (execOp_put oi hsi a oj.dst u h3) (wanted_put oi a oj.dst u h3)
 ·rw [← Act.put_comm a v u h2]; exact hK
theorem anyH_first {n i : Nat} {oi : Oper} {v : Value} {L : Array Bool → Act → Prop} (hi : ops[i]? = some oi) (hsel : ∀ (j : Nat) (o : Oper) cs b, ops[j]? = some o → o.op ≠ .select cs b)
  (hs : Region.sinkB md ops n = true) (hc : Region.chainB md ops n = true) (hn : n < ops.size) (hin : i < n)
  (hdone : ∀ listed a, L listed a → ∀ j ∈ Region.ready md ops listed, n ≤ j) :
  ∀ (f : Nat) (listed : Array Bool) (a : Act), HeadInv md ops n listed →
   (∀ j oj, ops[j]? = some oj → j ≠ i → listed.getD j true = false → (∀ e ∈ oj.after, Region.binds md e = true → e.on ≠ i) → oi.apart ops oj = true) →
   i ∈ Region.ready md ops listed → HeldAt P ops S oi v a →
   anyH P md ops S n L f (listed.setIfInBounds i true) (a.put oi.dst v) → anyH P md ops S n L (f + 1) listed a := by
 intro f
 induction f with
 | zero =>
  intro listed a inv _ hr hy H
  have hun := (mem_ready.1 hr).1
  refine ⟨fun h => (by rw [h] at hr; cases hr), fun j hj => ?_⟩
  have hjn : j < n := by
   rcases Nat.lt_or_ge j n with h | h
   ·exact h
   ·exact absurd hj (tail_waits hs hc hn inv _ i rfl hin hun j h)
  refine ⟨hjn, ?_⟩
  by_cases hji : j = i
  ·subst hji; exact ⟨oi, v, hi, hy, H⟩
  ·have := hdone _ _ H j (ready_mono hj hji)
   omega
 | succ f ih =>
  intro listed a inv hfree hr hy H
  have hun := (mem_ready.1 hr).1
  refine ⟨fun h => (by rw [h] at hr; cases hr), fun j hj => ?_⟩
  have hjn : j < n := by
   rcases Nat.lt_or_ge j n with h | h
   ·exact h
   ·exact absurd hj (tail_waits hs hc hn inv _ i rfl hin hun j h)
  refine ⟨hjn, ?_⟩
  by_cases hji : j = i
  ·subst hji; exact ⟨oi, v, hi, hy, H⟩
  ·have h1 := (H.2 j (ready_mono hj hji)).2
   obtain ⟨hjun, oj, hoj, hall⟩ := mem_ready.1 hj
   have hnot : ∀ e ∈ oj.after, Region.binds md e = true → e.on ≠ i := fun e he hb heq => by
    have h1 := hall e he hb
    rw [heq, getD_both hun] at h1
    cases h1
   have h2 := hOp_put hoj (hfree j oj hoj hji hjun hnot) (fun cs b => hsel i oi cs b hi) (fun cs b => hsel j oj cs b hoj) hy h1
   have hfree' : ∀ k ok, ops[k]? = some ok → k ≠ i → (listed.setIfInBounds j true).getD k true = false →
     (∀ e ∈ ok.after, Region.binds md e = true → e.on ≠ i) → oi.apart ops ok = true := fun k ok hk hki hun hno => by
    refine hfree k ok hk hki ?_ hno
    by_cases hjk : j = k
    ·subst hjk; exact hjun
    ·rw [getD_set_ne true hjk] at hun; exact hun
   obtain ⟨o2, u, ho2, hy2, h3⟩ := h2
   refine ⟨o2, u, ho2, hy2, ih (listed.setIfInBounds j true) _ (inv.set hj hjn) hfree' (ready_mono hr (Ne.symm hji)) h3.1 ?_⟩
   rw [Array.setIfInBounds_comm _ _ hji]
   exact h3.2
def wpHeld (P : Program) (ops : Array Oper) (S : World → Prop) (Q : Act → Prop) : List Oper → Act → Prop
 | [], a => Q a
 | o :: rest, a => ∃ v, HeldAt P ops S o v a ∧ wpHeld P ops S Q rest (a.put o.dst v)
theorem wpHeld_nil {Q : Act → Prop} {a : Act} (h : Q a) : wpHeld P ops S Q [] a := h
theorem wpHeld_cons {Q : Act → Prop} {a : Act} {o : Oper} {rest : List Oper} (v : Value) (hw : Region.wanted o (yielded ops a.tmps) = true) (h : ∀ w, S w → HeldRun P S v ((execOp a.eval o).run P w))
  (h2 : wpHeld P ops S Q rest (a.put o.dst v)) : wpHeld P ops S Q (o :: rest) a := ⟨v, .inl ⟨hw, h⟩, h2⟩
theorem wpHeld_skip {Q : Act → Prop} {a : Act} {o : Oper} {rest : List Oper} (hw : Region.wanted o (yielded ops a.tmps) = false)
  (h2 : wpHeld P ops S Q rest (a.put o.dst undef)) : wpHeld P ops S Q (o :: rest) a := ⟨undef, .inr ⟨hw, rfl⟩, h2⟩
theorem anyH_lex {n g : Nat} {Lq : Act → Prop} (hsel : Region.noSelect ops = true) (hs : Region.sinkB md ops n = true) (hc : Region.chainB md ops n = true) (hn : n < ops.size) :
  ∀ (l : List Oper) (k : Nat) (listed : Array Bool) (a : Act), (∀ j, j < l.length → l[j]? = ops[k + j]?) → k + l.length = n → HeadInv md ops n listed →
  Region.lexHead md ops g l.length k listed = true → wpHeld P ops S Lq l a →
  anyH P md ops S n (fun listed' a' => Region.seqB md ops g n listed' = true ∧ Lq a') l.length listed a
 | [], k, listed, a, _, hk, _, hB, h => by
  have : k = n := by simpa using hk
  subst this
  exact ⟨by simpa [Region.lexHead] using hB, h⟩
 | o :: l, k, listed, a, hl, hk, inv, hB, h => by
  have h0 : ops[k]? = some o := by simpa using (hl 0 (by simp)).symm
  simp only [List.length_cons, Region.lexHead, Bool.and_eq_true] at hB
  obtain ⟨⟨hr, hf⟩, hB'⟩ := hB
  have hkn : k < n := by simp only [List.length_cons] at hk; omega
  have hr' : k ∈ Region.ready md ops listed := by simpa using hr
  obtain ⟨v, hy, hK⟩ := h
  exact anyH_first h0 (Region.noSelect_spec hsel) hs hc hn hkn (fun listed' a' hL => seqB_ready hL.1) l.length listed a inv (Region.free_spec h0 hf) hr' hy
   (anyH_lex hsel hs hc hn l (k + 1) _ _ (fun j hj => by have := hl (j + 1) (by simp; omega); simpa [Nat.add_assoc, Nat.add_comm 1 j] using this) (by simp only [List.length_cons] at hk; omega) (inv.set hr' hkn) hB' hK)
theorem region_held {id : Nat} {Q : Exit → Act → World → Prop} {a : Act} {w : World} {l : List Oper} (S : World → Prop) (n : Nat) (hm : P.follows .mixedOrders = true) (hB : Region.lexTailB .any l.toArray n = true) (hS : S w.drew)
  (h : wpHeld P l.toArray S (fun a' => ∀ w', S w' → wpList P l.toArray Q (l.drop n) a' w') (l.take n) a) : (Code.region id l.toArray true).wp P Q a w := by
 simp only [Region.lexTailB, Bool.and_eq_true, decide_eq_true_eq] at hB
 obtain ⟨⟨⟨⟨hsel, hn⟩, hs⟩, hc⟩, hlex⟩ := hB
 have hn' : n < l.length := by simpa using hn
 have htl : (l.take n).length = n := by simp; omega
 have hdl : (l.drop n).length = l.toArray.size - n := by simp
 have inv0 : HeadInv .any l.toArray n (Array.replicate l.toArray.size false) :=
  ⟨by simp, fun j oj _ hl => (by rw [getD_replicate_false] at hl; cases hl), fun t _ ht => getD_in (by simpa using ht) (getD_replicate_false _ _)⟩
 have H := anyH_lex (md := .any) (g := l.toArray.size - n) hsel hs hc hn (l.take n) 0 _ a (fun j hj => by
  have hj' : j < n := by rw [htl] at hj; exact hj
  simp [hj']) (by simpa using htl) inv0 (by rw [htl]; exact hlex) h
 refine wp_region_any hm ?_
 have := wpAny_of_anyH (Q' := Q) (g := l.toArray.size - n) (fun listed a' hL w' hS' => by
  have := wpAny_of_seq (md := .any) (Q' := Q) (l.drop n) n listed a' w' (fun j => by simp [List.getElem?_drop]) (by rw [hdl]; exact hL.1) (hL.2 w' hS')
  rwa [hdl] at this) _ _ _ H _ hS
 rw [htl, show n + (l.toArray.size - n) = l.toArray.size by omega] at this
 exact this
theorem heldRun_value {v : Value} {w : World} {r : Result Next} (hr : r = .ok (.value v) w) (hS : S w) : HeldRun P S v r := by subst hr; exact ⟨rfl, hS⟩
theorem heldRun_enter {v : Value} {w : World} {r : Result Next} {f : FuncId} {args : Array Value} (hr : r = .ok (.enter f args) w) (h : Calls P f args w (fun e w'' => e = .returned v ∧ S w'')) : HeldRun P S v r := by subst hr; exact h
theorem run_load_mid (a : Act) (o : Oper) (w : World) (ty : TypeId) (x : Operand) (ho : o.op = .load ty x) (b off : Nat) (hx : a.eval x = .pointer (some ⟨b, off, none⟩)) (cs : List Value) (d : TypeDesc) (hc : w.rangeAt b off cs)
  (hu : P.underlying ty = some d) (hd : d.isRow = true) (hi : (P.info? ty).map (·.size) = some cs.length) : (execOp a.eval o).run P w = .ok (.value (.agg cs.toArray)) w := by
 unfold execOp
 simp only [ho, hx, Sem.run_bind, run_loadAt_mid w b off ty cs d hc hu hd hi, Result.andThen_ok, Sem.run_pure]
theorem wpHeld_load {Q : Act → Prop} {a : Act} {o : Oper} {rest : List Oper} (ty : TypeId) (x : Operand) (ho : o.op = .load ty x) (hw : Region.wanted o (yielded ops a.tmps) = true)
  (b off : Nat) (hx : a.eval x = .pointer (some ⟨b, off, none⟩)) (cs : List Value) (d : TypeDesc) (hc : ∀ w, S w → w.rangeAt b off cs)
  (hu : P.underlying ty = some d) (hd : d.isRow = true) (hi : (P.info? ty).map (·.size) = some cs.length)
  (h2 : wpHeld P ops S Q rest (a.put o.dst (.agg cs.toArray))) : wpHeld P ops S Q (o :: rest) a :=
 wpHeld_cons _ hw (fun w hS => heldRun_value (run_load_mid a o w ty x ho b off hx cs d (hc w hS) hu hd hi) hS) h2
theorem wpHeld_call {Q : Act → Prop} {a : Act} {o : Oper} {rest : List Oper} (v : Value) (f : FuncId) (args : Array Value) (hw : Region.wanted o (yielded ops a.tmps) = true)
  (hr : ∀ w, (execOp a.eval o).run P w = .ok (.enter f args) w) (h : ∀ w, S w → Calls P f args w (fun e w'' => e = .returned v ∧ S w''))
  (h2 : wpHeld P ops S Q rest (a.put o.dst v)) : wpHeld P ops S Q (o :: rest) a :=
 wpHeld_cons _ hw (fun w hS => heldRun_enter (hr w) (h w hS)) h2
theorem wpL_skip {Q : Exit → Act → World → Prop} {a : Act} {w : World} {o : Oper} {rest : List Oper} (hw : Region.wanted o (yielded ops a.tmps) = false) (h : wpList P ops Q rest (a.put o.dst undef) w) : wpList P ops Q (o :: rest) a w :=
 wpList_step fun K hK => by rw [hw, if_neg (by simp)]; exact hK _ _ h
theorem wpL_value {Q : Exit → Act → World → Prop} {a : Act} {w : World} {o : Oper} {rest : List Oper} (v : Value) (w' : World) (hw : Region.wanted o (yielded ops a.tmps) = true) (hr : (execOp a.eval o).run P w = .ok (.value v) w')
  (h : wpList P ops Q rest (a.put o.dst v) w') : wpList P ops Q (o :: rest) a w :=
 wpList_step fun K hK => by rw [if_pos hw]; unfold Oper.wp; rw [hr]; exact hK _ _ h
theorem wpL_pure {Q : Exit → Act → World → Prop} {a : Act} {w : World} {o : Oper} {rest : List Oper} (v : Value) (hw : Region.wanted o (yielded ops a.tmps) = true) (hr : (execOp a.eval o).run P w = .ok (.value v) w)
  (h : wpList P ops Q rest (a.put o.dst v) w) : wpList P ops Q (o :: rest) a w := wpL_value v w hw hr h
theorem wpL_load {Q : Exit → Act → World → Prop} {a : Act} {w : World} {o : Oper} {rest : List Oper} (ty : TypeId) (x : Operand) (ho : o.op = .load ty x) (hw : Region.wanted o (yielded ops a.tmps) = true)
  (b off : Nat) (hx : a.eval x = .pointer (some ⟨b, off, none⟩)) (cs : List Value) (d : TypeDesc) (hc : w.rangeAt b off cs)
  (hu : P.underlying ty = some d) (hd : d.isRow = true) (hi : (P.info? ty).map (·.size) = some cs.length)
  (h : wpList P ops Q rest (a.put o.dst (.agg cs.toArray)) w) : wpList P ops Q (o :: rest) a w :=
 wpL_value _ _ hw (run_load_mid a o w ty x ho b off hx cs d hc hu hd hi) h
theorem wpL_call {Q : Exit → Act → World → Prop} {a : Act} {w : World} {o : Oper} {rest : List Oper} (f : FuncId) (args : Array Value) (hw : Region.wanted o (yielded ops a.tmps) = true) (hr : (execOp a.eval o).run P w = .ok (.enter f args) w)
  (h : Calls P f args w fun e w' => ∃ v, e = .returned v ∧ wpList P ops Q rest (a.put o.dst v) w') : wpList P ops Q (o :: rest) a w :=
 wpList_step fun K hK => by
  rw [if_pos hw]
  unfold Oper.wp
  rw [hr]
  refine Calls.mono h fun e w' ⟨v, he, hq⟩ => ?_
  subst he
  exact hK _ _ hq
end
end Go.Proofs.YtlbfohpkngmaoaaDoor.Ch.B
/- Small lemmas for a seat: blocks, worlds that grew, rows of bytes, append, bytes.Clone. -/
namespace Go.Proofs.YtlbfohpkngmaoaaDoor.Ch.B
open Go Go.RowKit
def Blk (w : World) (g : Nat) (t : TypeId) (cs : Array Value) : Prop := w.heap[g]? = some (.cells cs t (0, 0))
theorem Blk.cell {w : World} {g t : Nat} {cs : Array Value} (h : Blk w g t cs) (j : Nat) : w.cell? ⟨g, j, none⟩ = cs[j]? := cell_of_row w _ _ _ _ _ h
theorem Blk.free {w : World} {g t : Nat} {cs : Array Value} (h : Blk w g t cs) (j : Nat) : w.frozen? ⟨g, j, none⟩ = false := frozen_of_row w g j cs t h
theorem Blk.lt {w : World} {g t : Nat} {cs : Array Value} (h : Blk w g t cs) : g < w.heap.size := by
 rcases Nat.lt_or_ge g w.heap.size with h1 | h1
 ·exact h1
 ·unfold Blk at h; rw [Array.getElem?_eq_none h1] at h; cases h
theorem Blk.alloc {w : World} {g t : Nat} {cs : Array Value} (h : Blk w g t cs) (o : Obj) : Blk (w.alloc o) g t cs := (Below.heap_alloc w o g h.lt).trans h
theorem Blk.new (w : World) (t : TypeId) (cs : Array Value) : Blk (w.alloc (.cells cs t)) w.heap.size t cs := heap_alloc_new w _
theorem Blk.new' (w : World) (t : TypeId) (cs : Array Value) (n : Nat) (hn : n = w.heap.size) : Blk (w.alloc (.cells cs t)) n t cs := by rw [hn]; exact heap_alloc_new w _
theorem Blk.keep {w w1 : World} {B g t : Nat} {cs : Array Value} (h : Blk w g t cs) (hb : Below B w w1) (hg : g < B) : Blk w1 g t cs := (hb.block _ hg).trans h
theorem Blk.below {w w1 : World} {g t : Nat} {cs : Array Value} (h : Blk w g t cs) (hb : Below w.heap.size w w1) : Blk w1 g t cs := h.keep hb h.lt
theorem Blk.grown {w w1 : World} {g t : Nat} {cs : Array Value} {r : Option Nat} (h : Blk w g t cs) (hb : w.grownBy w1 r) (hg : some g ≠ r) : Blk w1 g t cs := (hb.block _ h.lt hg).trans h
theorem Blk.set {w : World} {g t : Nat} {l : List Value} (h : Blk w g t l.toArray) (o : Nat) (v : Value) : Blk (w.setCell ⟨g, o, none⟩ v) g t (l.set o v).toArray := by
 have e := heap_setCell_same w g o l.toArray t v h
 simpa [Blk] using e
theorem Blk.other {w : World} {g t : Nat} {cs : Array Value} (h : Blk w g t cs) (p : Addr) (v : Value) (hp : g ≠ p.block) : Blk (w.setCell p v) g t cs := (heap_setCell_other _ _ _ _ hp).trans h
theorem Blk.drew {w : World} {g t : Nat} {cs : Array Value} (h : Blk w g t cs) : Blk w.drew g t cs := h
theorem below_setRow {B : Nat} {a w : World} (h : Below B a w) {g : Nat} (hg : B ≤ g) (cs : Array Value) : Below B a (w.setRow g cs) :=
 ⟨h.os, h.tape, h.output, by simpa using h.size, fun k hk => (setRow_other _ _ _ _ (by omega)).trans (h.block k hk)⟩
theorem gb_refl (w : World) (r : Option Nat) : w.grownBy w r := ⟨rfl, rfl, rfl, Nat.le_refl _, fun _ _ _ => rfl⟩
theorem gb_trans {a b c : World} {r : Option Nat} (h : a.grownBy b r) (k : b.grownBy c r) : a.grownBy c r := ⟨k.os.trans h.os, k.tape.trans h.tape, k.output.trans h.output, Nat.le_trans h.size k.size, fun j hj hr => (k.block j (Nat.lt_of_lt_of_le hj h.size) hr).trans (h.block j hj hr)⟩
theorem gb_of {a b : World} (h : Below a.heap.size a b) (r : Option Nat) : a.grownBy b r := ⟨h.os, h.tape, h.output, h.size, fun k hk _ => h.block k hk⟩
theorem gb_drew {w X : World} {r : Option Nat} (h : w.grownBy X r) : w.grownBy X.drew r := gb_trans h (gb_of (Below.refl _ _).drew r)
theorem size_setCell (w : World) (a : Addr) (v : Value) : (w.setCell a v).heap.size = w.heap.size := by simp
theorem run_store_one {P : Program} (a : Act) (o : Oper) (w : World) (ty : TypeId) (x y : Operand) (ho : o.op = .store ty x y) (b off : Nat) (hx : a.eval x = .pointer (some ⟨b, off, none⟩)) (v : Value) (hy : a.eval y = v) (h1 : v.oneCell' = true) (hsz : ∀ w', (sizeOf ty).run P w' = .ok 1 w')
  (hc : (w.cell? ⟨b, off, none⟩).isSome = true) (hf : w.frozen? ⟨b, off, none⟩ = false) : (execOp a.eval o).run P w = .ok .skip (w.setCell ⟨b, off, none⟩ v) := by
 obtain ⟨u, hu⟩ := Option.isSome_iff_exists.1 hc
 have hs := hsz w
 unfold execOp
 subst hy
 simp only [ho, hx]
 generalize a.eval y = v at h1 ⊢
 have hst : ∀ m w', (store ⟨b, off, none⟩ v m).run P w' = stored P w' ⟨b, off, none⟩ v m := fun m w' => run_store P w' _ v m h1
 cases v <;> first | (exfalso; simp [Value.oneCell'] at h1; done) | (go_simp; done)
theorem wpL_store_one {P : Program} {ops : Array Oper} {Q : Exit → Act → World → Prop} {a : Act} {w : World} {o : Oper} {rest : List Oper} {ty : TypeId} {x y : Operand} (hw : Region.wanted o (yielded ops a.tmps) = true) (ho : o.op = .store ty x y)
  (b off : Nat) (hx : a.eval x = .pointer (some ⟨b, off, none⟩)) (v : Value) (hy : a.eval y = v) (h1 : v.oneCell' = true) (hsz : ∀ w', (sizeOf ty).run P w' = .ok 1 w') (hc : (w.cell? ⟨b, off, none⟩).isSome = true) (hf : w.frozen? ⟨b, off, none⟩ = false)
  (h : wpList P ops Q rest (a.put o.dst undef) (w.setCell ⟨b, off, none⟩ v)) : wpList P ops Q (o :: rest) a w :=
 wpList_step fun K hK => by
  rw [if_pos hw]
  unfold Oper.wp
  rw [run_store_one a o w ty x y ho b off hx v hy h1 hsz hc hf]
  exact hK _ _ h
theorem run_load_one (a : Act) (o : Oper) (w : World) (ty : TypeId) (x : Operand) (v : Value) (ho : o.op = .load ty x) (b off : Nat) (hx : a.eval x = .pointer (some ⟨b, off, none⟩)) (hc : w.cell? ⟨b, off, none⟩ = some v) (hagg : (isAgg ty).run Tryd.prog w = .ok false w) : (execOp a.eval o).run Tryd.prog w = .ok (.value v) w := by
 unfold execOp
 simp only [ho, hx]
 go_simp
theorem run_idx (a : Act) (o : Oper) (w : World) (x i : Operand) (g off n c k : Nat) (ho : o.op = .indexAddr 24 x i) (hx : a.eval x = .slice (some ⟨g, off, none⟩) n c) (hi : a.eval i = .int .i64 (k : Int)) (hk : k < n) (hn : n ≤ maxLen) : (execOp a.eval o).run Tryd.prog w = .ok (.value (.pointer (some ⟨g, off + k, none⟩))) w := by
 unfold maxLen at hn
 have j0 : (0 : Int) ≤ (k : Int) := by omega
 have j6 : (k : Int) < (n : Int) := by omega
 unfold execOp
 simp only [ho, hx, hi]
 go_simp
def Row (w : World) (a : Option Addr) (n : Nat) (xs : List Int) : Prop := xs.length = n ∧ n ≤ maxLen ∧ (∀ x ∈ xs, 0 ≤ x ∧ x ≤ 255) ∧ ∀ j, j < n → ∃ g o, a = some ⟨g, o, none⟩ ∧ w.cell? ⟨g, o + j, none⟩ = some (.int .u8 (xs.getD j 0))
theorem Row.below {w w' : World} {a : Option Addr} {n : Nat} {xs : List Int} (h : Row w a n xs) (B : Nat) (hb : Below B w w') (hB : w.heap.size ≤ B) : Row w' a n xs := by
 refine ⟨h.1, h.2.1, h.2.2.1, fun j hj => ?_⟩
 obtain ⟨g, o, h1, h2⟩ := h.2.2.2 j hj
 exact ⟨g, o, h1, (hb.cell (p := ⟨g, o + j, none⟩) (Nat.lt_of_lt_of_le (World.block_lt_of_cell? w _ h2) hB)).trans h2⟩
theorem Row.keep {w w' : World} {a : Option Addr} {n : Nat} {xs : List Int} (h : Row w a n xs) (hb : Below w.heap.size w w') : Row w' a n xs := h.below _ hb (Nat.le_refl _)
theorem Row.grown {w w' : World} {a : Option Addr} {n : Nat} {xs : List Int} {r : Option Nat} (h : Row w a n xs) (hb : w.grownBy w' r) (hr : ∀ p, a = some p → some p.block ≠ r) : Row w' a n xs := by
 refine ⟨h.1, h.2.1, h.2.2.1, fun j hj => ?_⟩
 obtain ⟨g, o, h1, h2⟩ := h.2.2.2 j hj
 exact ⟨g, o, h1, hb.cell h2 (by have := hr _ h1; exact this)⟩
theorem row_of {w : World} {a : Option Addr} {len cap : Nat} {zs : List Int} (h : IsRow .u8 w a len cap zs) : Row w a len (zs.take len) := by
 rcases h with ⟨rfl, rfl, _, rfl⟩ | ⟨⟨b, off, spot⟩, rfl, h2, h3, h4, h5, h6⟩
 ·exact ⟨rfl, by simp [maxLen], by simp, fun j hj => absurd hj (by omega)⟩
 ·refine ⟨by simp; omega, by omega, fun x hx => bounds_u8 (h6 x (List.mem_of_mem_take hx)), fun j hj => ?_⟩
  have hs : spot = none := by simpa [Addr.add] using World.cell?_spot (h5 0 (by omega))
  subst hs
  have := h5 j (by omega)
  have e : (⟨b, off, none⟩ : Addr).add j = ⟨b, off + j, none⟩ := by unfold Addr.add; split <;> simp_all
  rw [e] at this
  refine ⟨b, off, rfl, ?_⟩
  rw [this]
  simp [List.getD, List.getElem?_take, hj]
theorem getD_byte {xs : List Int} (h : ∀ x ∈ xs, 0 ≤ x ∧ x ≤ 255) (j : Nat) : 0 ≤ xs.getD j 0 ∧ xs.getD j 0 ≤ 255 := by
 rw [List.getD]
 rcases Nat.lt_or_ge j xs.length with hj | hj
 ·rw [List.getElem?_eq_getElem hj]
  exact h _ (List.getElem_mem hj)
 ·rw [List.getElem?_eq_none hj]
  simp
theorem Row.sub {w : World} {g off n : Nat} {xs : List Int} (h : Row w (some ⟨g, off, none⟩) n xs) (i m : Nat) (hm : i + m ≤ n) : Row w (some ⟨g, off + i, none⟩) m ((xs.drop i).take m) := by
 refine ⟨by rw [List.length_take, List.length_drop, h.1]; omega, by have := h.2.1; omega, fun x hx => h.2.2.1 x (List.mem_of_mem_drop (List.mem_of_mem_take hx)), fun j hj => ?_⟩
 obtain ⟨g', o', e, hc⟩ := h.2.2.2 (i + j) (by omega)
 simp only [Option.some.injEq, Addr.mk.injEq, and_true] at e
 obtain ⟨rfl, rfl⟩ := e
 refine ⟨_, _, rfl, ?_⟩
 rw [Nat.add_assoc, hc]
 simp [List.getD, List.getElem?_take, List.getElem?_drop, hj]
theorem Row.nil (w : World) (a : Option Addr) : Row w a 0 [] := ⟨rfl, by simp [maxLen], by simp, fun j hj => absurd hj (by omega)⟩
theorem conv_zero (w : World) (p : Option Addr) (c : Nat) : (convert 24 9 (.slice p 0 c)).run Tryd.prog w = .ok (.string (strOfNums [])) w := by
 rw [run_convert_bytes_string w 24 9 5 _ 0 c Tryd.underlying24 Tryd.underlying5 Tryd.underlying9]
 cases p <;> simp [Conv.bytesToString, loadCells]
 all_goals rfl
theorem conv_row (w : World) (a : Option Addr) (n c : Nat) (xs : List Int) (h : Row w a n xs) :
  (convert 24 9 (.slice a n c)).run Tryd.prog w = .ok (.string (strOfNums xs)) w := by
 by_cases h0 : n = 0
 ·subst h0
  obtain rfl : xs = [] := List.eq_nil_of_length_eq_zero h.1
  exact conv_zero w a c
 ·obtain ⟨g, o, rfl, _⟩ := h.2.2.2 0 (by omega)
  refine run_convert_bytes_arg w 24 5 Tryd.underlying24 Tryd.underlying5 g o n c xs h.1 (fun i hi => ?_) 9 Tryd.underlying9
  obtain ⟨g', o', e, hc⟩ := h.2.2.2 i hi
  simp only [Option.some.injEq, Addr.mk.injEq, and_true] at e
  obtain ⟨rfl, rfl⟩ := e
  rw [hc]
theorem num_inj : ∀ (xs ys : List Int), (∀ x ∈ xs, 0 ≤ x ∧ x ≤ 255) → (∀ y ∈ ys, 0 ≤ y ∧ y ≤ 255) → xs.map (fun n => UInt8.ofNat n.toNat) = ys.map (fun n => UInt8.ofNat n.toNat) → xs = ys := by
 intro xs
 induction xs with
 | nil => intro ys _ _ h; cases ys with
  | nil => rfl
  | cons y ys => simp at h
 | cons x xs ih =>
  intro ys hx hy h
  cases ys with
  | nil => simp at h
  | cons y ys =>
   simp only [List.map_cons, List.cons.injEq] at h
   have h1 := hx x (by simp)
   have h2 := hy y (by simp)
   have h3 := congrArg UInt8.toNat h.1
   simp at h3
   have : x = y := by omega
   rw [this, ih ys (fun a ha => hx a (by simp [ha])) (fun a ha => hy a (by simp [ha])) h.2]
theorem str_beq (xs ys : List Int) (hx : ∀ x ∈ xs, 0 ≤ x ∧ x ≤ 255) (hy : ∀ y ∈ ys, 0 ≤ y ∧ y ≤ 255) : ((strOfNums xs).toList == (strOfNums ys).toList) = decide (xs = ys) := by
 rw [Bool.eq_iff_iff, beq_iff_eq, decide_eq_true_eq, ByteArray.toList_eq, ByteArray.toList_eq]
 constructor
 ·intro h
  exact num_inj xs ys hx hy (by simpa [strOfNums] using h)
 ·rintro rfl; rfl
theorem run_conv_str (a : Act) (o : Oper) (w : World) (x : Operand) (p : Option Addr) (n c : Nat) (xs : List Int) (ho : o.op = .convert 24 9 x) (hx : a.eval x = .slice p n c) (h : Row w p n xs) : (execOp a.eval o).run Tryd.prog w = .ok (.value (.string (strOfNums xs))) w := by
 unfold execOp
 simp only [ho, hx, Sem.run_bind, conv_row w p n c xs h, Result.andThen_ok, Sem.run_pure]
theorem run_str_eql (a : Act) (o : Oper) (w : World) (x y : Operand) (xs ys : List Int) (b : Bool) (ho : o.op = .binOp .eql 9 x y 9) (hx : a.eval x = .string (strOfNums xs)) (hy : a.eval y = .string (strOfNums ys)) (hb : b = decide (xs = ys)) (h0 : ∀ x ∈ xs, 0 ≤ x ∧ x ≤ 255) (h1 : ∀ y ∈ ys, 0 ≤ y ∧ y ≤ 255) : (execOp a.eval o).run Tryd.prog w = .ok (.value (.bool b)) w := by
 have e := str_beq xs ys h0 h1
 rw [← hb] at e
 clear hb
 unfold execOp
 simp only [ho, hx, hy]
 go_simp
def Own (w : World) (base : Nat) (v : Value) (xs : List Int) : Prop := w.ownsRow base 5 1 v xs.length (xs.map (Value.int .u8)) ∧ ∀ x ∈ xs, 0 ≤ x ∧ x ≤ 255
theorem Own.form {w : World} {base : Nat} {v : Value} {xs : List Int} (h : Own w base v xs) : (v = .slice none 0 0 ∧ xs = []) ∨ ∃ g cap cur, v = .slice (some ⟨g, 0, none⟩) xs.length cap ∧ base ≤ g ∧ Blk w g 5 cur ∧ xs.length ≤ cap ∧ cap ≤ maxLen ∧ cur.size = cap ∧ cur.toList.take xs.length = xs.map (Value.int .u8) := by
 rcases h.1.2 with ⟨h1, h2⟩ | ⟨g, cap, cur, h1, h2, h3, h4, h5, h6, h7⟩
 ·exact .inl ⟨h1, List.eq_nil_of_length_eq_zero h2⟩
 ·exact .inr ⟨g, cap, cur, h1, h2, h3, h4, h5, by simpa using h6, by simpa using h7⟩
theorem Own.len {w : World} {base : Nat} {v : Value} {xs : List Int} (h : Own w base v xs) : xs.length ≤ maxLen := by
 rcases h.form with ⟨_, rfl⟩ | ⟨_, _, _, _, _, _, h4, h5, _⟩
 ·simp [maxLen]
 ·omega
theorem Own.row {w : World} {base : Nat} {a : Option Addr} {n c : Nat} {xs : List Int} (h : Own w base (.slice a n c) xs) : Row w a n xs ∧ n ≤ c := by
 have hm := h.len
 rcases h.form with ⟨h1, h2⟩ | ⟨g, cap, cur, h1, h2, h3, h4, h5, h6, h7⟩
 ·simp only [Value.slice.injEq] at h1
  obtain ⟨rfl, rfl, rfl⟩ := h1
  subst h2
  exact ⟨Row.nil _ _, by omega⟩
 ·simp only [Value.slice.injEq] at h1
  obtain ⟨rfl, rfl, rfl⟩ := h1
  refine ⟨⟨rfl, by omega, h.2, fun j hj => ⟨g, 0, rfl, ?_⟩⟩, h4⟩
  rw [h3.cell, Nat.zero_add]
  have e : (cur.toList.take xs.length)[j]? = (xs.map (Value.int .u8))[j]? := by rw [h7]
  rw [List.getElem?_take, if_pos hj, List.getElem?_map, List.getElem?_eq_getElem (l := xs) hj] at e
  rw [← Array.getElem?_toList, e]
  simp [List.getD, List.getElem?_eq_getElem hj]
theorem Own.below {w w' : World} {base : Nat} {v : Value} {xs : List Int} (h : Own w base v xs) (hb : Below w.heap.size w w') : Own w' base v xs :=
 ⟨h.1.kept (gb_of hb none) (by cases hv : v.ownBlock <;> simp), h.2⟩
theorem Own.grown {w w' : World} {base : Nat} {v : Value} {xs : List Int} {r : Option Nat} (h : Own w base v xs) (hb : w.grownBy w' r) (hr : v.ownBlock = none ∨ v.ownBlock ≠ r) : Own w' base v xs := ⟨h.1.kept hb hr, h.2⟩
theorem Own.alloc {w : World} {base : Nat} {v : Value} {xs : List Int} (h : Own w base v xs) (o : Obj) : Own (w.alloc o) base v xs := ⟨h.1.alloc o, h.2⟩
theorem Own.drew {w : World} {base : Nat} {v : Value} {xs : List Int} (h : Own w base v xs) : Own w.drew base v xs := h
theorem Own.other {w : World} {base : Nat} {v : Value} {xs : List Int} (h : Own w base v xs) (p : Addr) (u : Value) (hp : v.ownBlock ≠ some p.block) : Own (w.setCell p u) base v xs := ⟨ownsRow_setCell_other h.1 hp u, h.2⟩
theorem Own.mono {w : World} {base base' : Nat} {v : Value} {xs : List Int} (h : Own w base v xs) (hb : base' ≤ base) : Own w base' v xs := ⟨h.1.mono hb, h.2⟩
theorem Own.nil (w : World) (base : Nat) : Own w base (.slice none 0 0) [] := ⟨World.ownsRow_nil _ _ _ _, by simp⟩
theorem Own.lt {w : World} {base : Nat} {v : Value} {xs : List Int} (h : Own w base v xs) : ∀ k, v.ownBlock = some k → base ≤ k ∧ k < w.heap.size := h.1.lt
theorem Own.slice {w : World} {base : Nat} {v : Value} {xs : List Int} (h : Own w base v xs) : ∃ a c, v = .slice a xs.length c := by
 rcases h.form with ⟨h1, h2⟩ | ⟨g, cap, cur, h1, _⟩
 ·exact ⟨none, 0, by rw [h1, h2]; rfl⟩
 ·exact ⟨_, _, h1⟩
theorem append_own (w : World) (base : Nat) (v : Value) (xs ys : List Int) (a : Option Addr) (m c : Nat) (hown : Own w base v xs) (hr : Row w a m ys) (hnm : xs.length + m ≤ 140737488355328) (hbase : base ≤ w.heap.size) :
  ∃ v' w', (Builtin.append_ #[24, 24] 24 #[v, .slice a m c]).run Tryd.prog w = .ok v' w' ∧ Own w' base v' (xs ++ ys) ∧ w.grownBy w' v.ownBlock ∧ (v'.ownBlock = v.ownBlock ∨ v'.ownBlock = some w.heap.size) ∧ (v' = .slice none 0 0 ↔ v = .slice none 0 0 ∧ m = 0) := by
 obtain ⟨i, hi⟩ : ∃ i, Tryd.prog.info? 5 = some i := Option.isSome_iff_exists.1 (by kernel_rfl)
 have hsz : i.size = 1 := by
  have h : (Tryd.prog.info? 5).map (·.size) = some 1 := by kernel_rfl
  rw [hi] at h; simpa using h
 have hby : i.bytes = 1 := by
  have h : (Tryd.prog.info? 5).map (·.bytes) = some 1 := by kernel_rfl
  rw [hi] at h; simpa using h
 have hz : i.zero = some (.int .u8 0) := by
  have h : (Tryd.prog.info? 5).bind (·.zero) = some (.int .u8 0) := by kernel_rfl
  rw [hi] at h; simpa using h
 by_cases hm : m = 0
 ·subst hm
  obtain rfl : ys = [] := List.eq_nil_of_length_eq_zero hr.1
  have hS : Src Tryd.prog i.size 24 (.slice a 0 c) 0 [] w := by
   cases a with
   | none => exact Src.ofNil w Tryd.underlying24 c
   | some ad => exact Src.ofSlice w Tryd.underlying24 ad 0 c [] (by simp) (by simp) (by simp)
  rcases hown.form with ⟨rfl, rfl⟩ | ⟨g, cap, cur, rfl, h2, h3, h4, h5, h6, h7⟩
  ·exact ⟨_, w, run_append_nothing w 24 24 24 5 i Tryd.underlying24 hi none 0 0 (Nat.le_refl _) _ hS, by simpa using hown, gb_refl _ _, .inl rfl, by simp⟩
  ·exact ⟨_, w, run_append_nothing w 24 24 24 5 i Tryd.underlying24 hi _ _ _ h4 _ hS, by simpa using hown, gb_refl _ _, .inl rfl, by simp⟩
 ·obtain ⟨g, o, rfl, _⟩ := hr.2.2.2 0 (by omega)
  obtain ⟨v', w', r1, r2, r3, r4, r5⟩ := run_append_own_at (P := Tryd.prog) w base 24 24 5 i (.int .u8 0) 1 1 Tryd.underlying24 hi hz hsz hby (by rfl) (by omega) v xs.length (xs.map (Value.int .u8)) hown.1
   ⟨g, o, none⟩ m c (ys.map (Value.int .u8)) (by simp [hr.1]) (fun j u hu => by
    rw [List.getElem?_map] at hu
    have hj : j < ys.length := by
     rcases Nat.lt_or_ge j ys.length with hj | hj
     ·exact hj
     ·rw [List.getElem?_eq_none hj] at hu; cases hu
    rw [List.getElem?_eq_getElem hj] at hu
    obtain ⟨g', o', e', hc⟩ := hr.2.2.2 j (by rw [← hr.1]; exact hj)
    simp only [Option.some.injEq, Addr.mk.injEq, and_true] at e'
    obtain ⟨rfl, rfl⟩ := e'
    rw [Addr.add_lit, hc, ← hu]
    simp [List.getD, List.getElem?_eq_getElem hj]) (by intro u hu; obtain ⟨x, _, rfl⟩ := List.mem_map.1 hu; rfl) (by unfold maxLen; omega) (by omega) hbase
  refine ⟨v', w', r1, ⟨?_, ?_⟩, r3, r5, r4⟩
  ·rw [List.map_append, List.length_append, hr.1]; exact r2
  ·intro x hx
   rcases List.mem_append.1 hx with hx | hx
   ·exact hown.2 x hx
   ·exact hr.2.2.1 x hx
theorem run_app (a : Act) (o : Oper) (w w' : World) (x y : Operand) (v u r : Value) (ho : o.op = .call { callee := .builtin .append, args := #[x, y], argTypes := #[24, 24] }) (ht : o.type = 24) (hx : a.eval x = v) (hy : a.eval y = u)
  (h : (Builtin.append_ #[24, 24] 24 #[v, u]).run Tryd.prog w = .ok r w') : (execOp a.eval o).run Tryd.prog w = .ok (.value r) w' := by
 unfold execOp
 simp only [ho, resolve, invoke, builtin, Sem.run_bind, Sem.run_pure, Result.andThen_ok, List.map_toArray, List.map_cons, List.map_nil, hx, hy, ht, h]
end Go.Proofs.YtlbfohpkngmaoaaDoor.Ch.B
/- What comparisons and sums of integers come to, for a type of whatever number. -/
namespace Go.Proofs.YtlbfohpkngmaoaaDoor.Ch.B
open Go Go.RowKit
section
variable {T : TypeId} {K : IntKind} {a : Act} {o : Oper} {w : World} {x y : Operand} {p q : Int} {b : Bool}
theorem run_nei (hu : Tryd.prog.underlying T = some (.int K)) (ho : o.op = .binOp .neq T x y T) (hx : a.eval x = .int K p) (hy : a.eval y = .int K q) (hb : decide (p ≠ q) = b) : (execOp a.eval o).run Tryd.prog w = .ok (.value (.bool b)) w := by
 have u := run_underlying hu w
 subst hb
 unfold execOp
 simp only [ho, hx, hy]
 go_simp
 try rfl
theorem run_lti (hu : Tryd.prog.underlying T = some (.int K)) (ho : o.op = .binOp .lss T x y T) (hx : a.eval x = .int K p) (hy : a.eval y = .int K q) (hb : decide (p < q) = b) : (execOp a.eval o).run Tryd.prog w = .ok (.value (.bool b)) w := by
 have u := run_underlying hu w
 subst hb
 unfold execOp
 simp only [ho, hx, hy]
 go_simp
theorem run_gti (hu : Tryd.prog.underlying T = some (.int K)) (ho : o.op = .binOp .gtr T x y T) (hx : a.eval x = .int K p) (hy : a.eval y = .int K q) (hb : decide (q < p) = b) : (execOp a.eval o).run Tryd.prog w = .ok (.value (.bool b)) w := by
 have u := run_underlying hu w
 subst hb
 unfold execOp
 simp only [ho, hx, hy]
 go_simp
theorem run_gei (hu : Tryd.prog.underlying T = some (.int K)) (ho : o.op = .binOp .geq T x y T) (hx : a.eval x = .int K p) (hy : a.eval y = .int K q) (hb : decide (q ≤ p) = b) : (execOp a.eval o).run Tryd.prog w = .ok (.value (.bool b)) w := by
 have u := run_underlying hu w
 subst hb
 unfold execOp
 simp only [ho, hx, hy]
 go_simp
theorem run_addi (hu : Tryd.prog.underlying T = some (.int K)) (ho : o.op = .binOp .add T x y T) (hx : a.eval x = .int K p) (hy : a.eval y = .int K q) (r : Int) (hr : K.wrap (p + q) = r) : (execOp a.eval o).run Tryd.prog w = .ok (.value (.int K r)) w := by
 have u := run_underlying hu w
 subst hr
 unfold execOp
 simp only [ho, hx, hy]
 go_simp
theorem run_subi (hu : Tryd.prog.underlying T = some (.int K)) (ho : o.op = .binOp .sub T x y T) (hx : a.eval x = .int K p) (hy : a.eval y = .int K q) (r : Int) (hr : K.wrap (p - q) = r) : (execOp a.eval o).run Tryd.prog w = .ok (.value (.int K r)) w := by
 have u := run_underlying hu w
 subst hr
 unfold execOp
 simp only [ho, hx, hy]
 go_simp
theorem run_muli (hu : Tryd.prog.underlying T = some (.int K)) (ho : o.op = .binOp .mul T x y T) (hx : a.eval x = .int K p) (hy : a.eval y = .int K q) (r : Int) (hr : K.wrap (p * q) = r) : (execOp a.eval o).run Tryd.prog w = .ok (.value (.int K r)) w := by
 have u := run_underlying hu w
 subst hr
 unfold execOp
 simp only [ho, hx, hy]
 go_simp
theorem run_biti {op : BinOp} (hop : op = .or ∨ op = .and ∨ op = .xor) (hu : Tryd.prog.underlying T = some (.int K)) (ho : o.op = .binOp op T x y T) (hx : a.eval x = .int K p) (hy : a.eval y = .int K q) (r : Int) (hr : bits op K p q = r) : (execOp a.eval o).run Tryd.prog w = .ok (.value (.int K r)) w := by
 have u := run_underlying hu w
 subst hr
 unfold execOp
 simp only [ho, hx, hy]
 rcases hop with rfl | rfl | rfl <;> go_simp
theorem run_convi {T' : TypeId} {K' : IntKind} (hu : Tryd.prog.underlying T = some (.int K)) (hu' : Tryd.prog.underlying T' = some (.int K')) (ho : o.op = .convert T T' x) (hx : a.eval x = .int K p) (r : Int) (hr : K'.wrap p = r) : (execOp a.eval o).run Tryd.prog w = .ok (.value (.int K' r)) w := by
 have u := run_underlying hu w
 have u' := run_underlying hu' w
 subst hr
 unfold execOp
 simp only [ho, hx]
 go_simp
 try rfl
theorem wrap_in (n : Int) (h0 : -9223372036854775808 ≤ n) (h1 : n ≤ 9223372036854775807) : IntKind.i64.wrap n = n := IntWalk.i64_in _ (by omega)
end
end Go.Proofs.YtlbfohpkngmaoaaDoor.Ch.B
/- A region that draws its order, whose first operations only make memory, whatever order they come in: each leaves a value of which something is known that stays so, whatever memory is made; the rest of them stand in a row. -/
namespace Go.Proofs.YtlbfohpkngmaoaaDoor.Ch.B
open Go Go.RowKit
section
variable {P : Program} {ops : Array Oper} {md : Region.Mode} {Rs : Nat → Value → World → Prop} {w0 : World}
def Ext (w w' : World) : Prop := Below w.heap.size w w'
theorem Ext.refl (w : World) : Ext w w := Below.refl _ _
theorem Ext.trans {a b c : World} (h : Ext a b) (k : Ext b c) : Ext a c := Below.trans h (Below.mono k (Below.size h))
def RunExt (P : Program) (R : Value → World → Prop) (w : World) : Result Next → Prop
 | .ok (.value v) w' => Ext w w' ∧ R v w'
 | .ok .skip w' => Ext w w' ∧ R undef w'
 | .ok (.enter f args) w' => Calls P f args w' (fun e w'' => ∃ v, e = .returned v ∧ Ext w w'' ∧ R v w'')
 | _ => False
def ExtAt (P : Program) (ops : Array Oper) (w0 : World) (o : Oper) (R : Value → World → Prop) (a : Act) : Prop :=
 (Region.wanted o (yielded ops a.tmps) = true ∧ ∀ w, Ext w0 w → RunExt P R w ((execOp a.eval o).run P w)) ∨ (Region.wanted o (yielded ops a.tmps) = false ∧ ∀ w, Ext w0 w → R undef w)
theorem ExtAt.of_same {o : Oper} {R : Value → World → Prop} {a a' : Act} (hy : ExtAt P ops w0 o R a) (he : execOp a'.eval o = execOp a.eval o)
  (hw : Region.wanted o (yielded ops a'.tmps) = Region.wanted o (yielded ops a.tmps)) : ExtAt P ops w0 o R a' := by
 unfold ExtAt at *
 rw [he, hw]
 exact hy
theorem ExtAt.possible {o : Oper} {R : Value → World → Prop} {a : Act} (hy : ExtAt P ops w0 o R a) : ∃ v w, R v w := by
 rcases hy with ⟨_, h⟩ | ⟨_, h⟩
 ·have h1 := h w0 (Ext.refl _)
  generalize (execOp a.eval o).run P w0 = r at h1
  cases r with
  | ok n w' =>
   cases n <;> simp only [RunExt] at h1
   case value u => exact ⟨u, w', h1.2⟩
   case skip => exact ⟨undef, w', h1.2⟩
   case enter f args =>
    obtain ⟨e, w2, _, ⟨v, _, _, hr⟩, _⟩ := h1 []
    exact ⟨v, w2, hr⟩
  | halt x w' => simp only [RunExt] at h1
 ·exact ⟨undef, w0, h w0 (Ext.refl _)⟩
theorem ExtAt.wpOp {i : Nat} {o : Oper} {R : Value → World → Prop} {a : Act} {Q' : Exit → Act → World → Prop} {K : Act → World → Prop} (hi : ops[i]? = some o) (hy : ExtAt P ops w0 o R a) {w : World} (hS : Ext w0 w) (h : ∀ v w', R v w' → Ext w w' → K (a.put o.dst v) w') :
  wpOp P ops Q' i K a w := by
 unfold Go.wpOp
 simp only [hi]
 rcases hy with ⟨hw, hv⟩ | ⟨hw, hv⟩
 ·rw [if_pos hw]
  refine .inl ?_
  unfold Oper.wp
  have h1 := hv w hS
  generalize (execOp a.eval o).run P w = r at h1
  cases r with
  | ok n w' =>
   cases n <;> simp only [RunExt] at h1 <;> simp only [Oper.upon]
   case value u => exact h _ _ h1.2 h1.1
   case skip => exact h _ _ h1.2 h1.1
   case enter f args => exact h1.mono fun e w'' ⟨v, he, hE, hR⟩ => by subst he; exact h _ _ hR hE
  | halt x w' => simp only [RunExt] at h1
 ·rw [hw, if_neg (by simp)]
  exact h _ _ (hv w hS) (Ext.refl _)
end
end Go.Proofs.YtlbfohpkngmaoaaDoor.Ch.B
/- A region that draws its order, whose last two operations stand in either order behind all others: the first ones by region_ext's way, or region_held's; the last two, in both orders. -/
namespace Go.Proofs.YtlbfohpkngmaoaaDoor.Ch.B
open Go Go.RowKit
section
variable {P : Program} {ops : Array Oper} {md : Region.Mode} {Rs : Nat → Value → World → Prop} {w0 : World} {S : World → Prop}
end
end Go.Proofs.YtlbfohpkngmaoaaDoor.Ch.B
/- A region that draws its order: operations taken by their numbers: what reads nothing first (wpAny_take), two that stand side by side, the rest in a row. -/
namespace Go.Proofs.YtlbfohpkngmaoaaDoor.Ch.B
open Go Go.RowKit
section
variable {P : Program} {ops : Array Oper} {md : Region.Mode}
def seqI (md : Region.Mode) (ops : Array Oper) : List Nat → Array Bool → Bool
 | [], listed => (Region.ready md ops listed).isEmpty
 | i :: is, listed => decide (Region.ready md ops listed = [i]) && seqI md ops is (listed.setIfInBounds i true)
theorem wpAny_of_idx {Q' : Exit → Act → World → Prop} : ∀ (is : List Nat) (l : List Oper) (listed : Array Bool) (a : Act) (w : World), is.map (fun i => ops[i]?) = l.map some →
  seqI md ops is listed = true → wpList P ops Q' l a w → wpAny P md ops Q' is.length listed a w
 | [], l, _, _, _, hl, hB, h => by
  obtain rfl : l = [] := by simpa using hl.symm
  exact ⟨by simpa [seqI] using hB, h⟩
 | i :: is, l, listed, a, w, hl, hB, h => by
  cases l with
  | nil => simp at hl
  | cons o l =>
   simp only [List.map_cons, List.cons.injEq] at hl
   simp only [seqI, Bool.and_eq_true, decide_eq_true_eq] at hB
   refine ⟨fun h1 => (by rw [hB.1] at h1; cases h1), fun k hk => ?_⟩
   rw [hB.1] at hk
   have hik : k = i := by simpa using hk
   subst hik
   have hw : wpOp P ops Q' k (wpList P ops Q' l) a w := by unfold wpOp; simp only [hl.1]; exact h
   exact wpOp_mono (fun a' w' h' => wpAny_of_idx is l _ a' w' hl.2 hB.2 h') hw
theorem region_any {id : Nat} {Q : Exit → Act → World → Prop} {a : Act} {w : World} {l : List Oper} (hm : P.follows .mixedOrders = true) (n : Nat) (hn : l.toArray.size = n) (h : wpAny P .any l.toArray Q n (Array.replicate n false) a w.drew) : (Code.region id l.toArray true).wp P Q a w := by
 subst hn
 exact wp_region_any hm h
end
end Go.Proofs.YtlbfohpkngmaoaaDoor.Ch.B
/- A region that draws its order, whose first operations keep to a relation E of worlds (reflexive, transitive), whatever order they come in, each leaving a value of which something is known that stays so along E. -/
namespace Go.Proofs.YtlbfohpkngmaoaaDoor.Ch.B
open Go Go.RowKit
section
variable {P : Program} {ops : Array Oper} {md : Region.Mode} {Rs : Nat → Sem Next → Value → World → Prop} {w0 : World} {E : World → World → Prop}
def Preo (E : World → World → Prop) : Prop := (∀ w, E w w) ∧ ∀ a b c, E a b → E b c → E a c
def RunG (E : World → World → Prop) (P : Program) (R : Value → World → Prop) (w : World) : Result Next → Prop
 | .ok (.value v) w' => E w w' ∧ R v w'
 | .ok .skip w' => E w w' ∧ R undef w'
 | .ok (.enter f args) w' => Calls P f args w' (fun e w'' => ∃ v, e = .returned v ∧ E w w'' ∧ R v w'')
 | _ => False
def GAt (E : World → World → Prop) (P : Program) (ops : Array Oper) (w0 : World) (o : Oper) (R : Value → World → Prop) (a : Act) : Prop :=
 (Region.wanted o (yielded ops a.tmps) = true ∧ ∀ w, E w0 w → RunG E P R w ((execOp a.eval o).run P w)) ∨ (Region.wanted o (yielded ops a.tmps) = false ∧ ∀ w, E w0 w → R undef w)
theorem GAt.of_same {o : Oper} {R : Value → World → Prop} {a a' : Act} (hy : GAt E P ops w0 o R a) (he : execOp a'.eval o = execOp a.eval o)
  (hw : Region.wanted o (yielded ops a'.tmps) = Region.wanted o (yielded ops a.tmps)) : GAt E P ops w0 o R a' := by
 unfold GAt at *
 rw [he, hw]
 exact hy
theorem GAt.possible (hP : Preo E) {o : Oper} {R : Value → World → Prop} {a : Act} (hy : GAt E P ops w0 o R a) : ∃ v w, R v w := by
 rcases hy with ⟨_, h⟩ | ⟨_, h⟩
 ·have h1 := h w0 (hP.1 _)
  generalize (execOp a.eval o).run P w0 = r at h1
  cases r with
  | ok n w' =>
   cases n <;> simp only [RunG] at h1
   case value u => exact ⟨u, w', h1.2⟩
   case skip => exact ⟨undef, w', h1.2⟩
   case enter f args =>
    obtain ⟨e, w2, _, ⟨v, _, _, hr⟩, _⟩ := h1 []
    exact ⟨v, w2, hr⟩
  | halt x w' => simp only [RunG] at h1
 ·exact ⟨undef, w0, h w0 (hP.1 _)⟩
theorem GAt.wpOp (hP : Preo E) {i : Nat} {o : Oper} {R : Value → World → Prop} {a : Act} {Q' : Exit → Act → World → Prop} {K : Act → World → Prop} (hi : ops[i]? = some o) (hy : GAt E P ops w0 o R a) {w : World} (hS : E w0 w) (h : ∀ v w', R v w' → E w w' → K (a.put o.dst v) w') :
  wpOp P ops Q' i K a w := by
 unfold Go.wpOp
 simp only [hi]
 rcases hy with ⟨hw, hv⟩ | ⟨hw, hv⟩
 ·rw [if_pos hw]
  refine .inl ?_
  unfold Oper.wp
  have h1 := hv w hS
  generalize (execOp a.eval o).run P w = r at h1
  cases r with
  | ok n w' =>
   cases n <;> simp only [RunG] at h1 <;> simp only [Oper.upon]
   case value u => exact h _ _ h1.2 h1.1
   case skip => exact h _ _ h1.2 h1.1
   case enter f args => exact h1.mono fun e w'' ⟨v, he, hE, hR⟩ => by subst he; exact h _ _ hR hE
  | halt x w' => simp only [RunG] at h1
 ·rw [hw, if_neg (by simp)]
  exact h _ _ (hv w hS) (hP.1 _)
structure HeadInvK (md : Region.Mode) (ops : Array Oper) (n k0 : Nat) (listed : Array Bool) : Prop where
 head : HeadInv md ops n listed
 pre : ∀ i, i < k0 → listed.getD i true = true
theorem HeadInvK.set {n k0 i : Nat} {listed : Array Bool} (inv : HeadInvK md ops n k0 listed) (hi : i ∈ Region.ready md ops listed) (hin : i < n) : HeadInvK md ops n k0 (listed.setIfInBounds i true) := by
 refine ⟨inv.head.set hi hin, fun j hj => ?_⟩
 by_cases h : i = j
 ·subst h
  have h1 := inv.pre i hj
  have h2 := (mem_ready.1 hi).1
  rw [h1] at h2; cases h2
 ·rw [getD_set_ne true h]; exact inv.pre j hj
end
end Go.Proofs.YtlbfohpkngmaoaaDoor.Ch.B
/- A region that draws its order, all of whose operations each leave one value and keep S (a store of what is there already too), whatever order they come in. -/
namespace Go.Proofs.YtlbfohpkngmaoaaDoor.Ch.B
open Go
section
variable {P : Program} {ops : Array Oper} {md : Region.Mode} {S : World → Prop}
theorem ready_lt {listed : Array Bool} {j : Nat} (hj : j ∈ Region.ready md ops listed) : j < ops.size := by
 obtain ⟨_, oj, hoj, _⟩ := mem_ready.1 hj
 exact (Array.getElem?_eq_some_iff.1 hoj).1
theorem anyH_first_all {i : Nat} {oi : Oper} {v : Value} {L : Array Bool → Act → Prop} (hi : ops[i]? = some oi) (hsel : ∀ (j : Nat) (o : Oper) cs b, ops[j]? = some o → o.op ≠ .select cs b)
  (hdone : ∀ listed a, L listed a → Region.ready md ops listed = []) :
  ∀ (f : Nat) (listed : Array Bool) (a : Act),
   (∀ j oj, ops[j]? = some oj → j ≠ i → listed.getD j true = false → (∀ e ∈ oj.after, Region.binds md e = true → e.on ≠ i) → oi.apart ops oj = true) →
   i ∈ Region.ready md ops listed → HeldAt P ops S oi v a →
   anyH P md ops S ops.size L f (listed.setIfInBounds i true) (a.put oi.dst v) → anyH P md ops S ops.size L (f + 1) listed a := by
 intro f
 induction f with
 | zero =>
  intro listed a _ hr hy H
  refine ⟨fun h => (by rw [h] at hr; cases hr), fun j hj => ⟨ready_lt hj, ?_⟩⟩
  by_cases hji : j = i
  ·subst hji; exact ⟨oi, v, hi, hy, H⟩
  ·have h1 := ready_mono hj hji
   rw [hdone _ _ H] at h1
   cases h1
 | succ f ih =>
  intro listed a hfree hr hy H
  refine ⟨fun h => (by rw [h] at hr; cases hr), fun j hj => ⟨ready_lt hj, ?_⟩⟩
  by_cases hji : j = i
  ·subst hji; exact ⟨oi, v, hi, hy, H⟩
  ·have hun := (mem_ready.1 hr).1
   have h1 := (H.2 j (ready_mono hj hji)).2
   obtain ⟨hjun, oj, hoj, hall⟩ := mem_ready.1 hj
   have hnot : ∀ e ∈ oj.after, Region.binds md e = true → e.on ≠ i := fun e he hb heq => by
    have h1 := hall e he hb
    rw [heq, getD_both hun] at h1
    cases h1
   have h2 := hOp_put hoj (hfree j oj hoj hji hjun hnot) (fun cs b => hsel i oi cs b hi) (fun cs b => hsel j oj cs b hoj) hy h1
   have hfree' : ∀ k ok, ops[k]? = some ok → k ≠ i → (listed.setIfInBounds j true).getD k true = false →
     (∀ e ∈ ok.after, Region.binds md e = true → e.on ≠ i) → oi.apart ops ok = true := fun k ok hk hki hun hno => by
    refine hfree k ok hk hki ?_ hno
    by_cases hjk : j = k
    ·subst hjk; exact hjun
    ·rw [getD_set_ne true hjk] at hun; exact hun
   obtain ⟨o2, u, ho2, hy2, h3⟩ := h2
   refine ⟨o2, u, ho2, hy2, ih (listed.setIfInBounds j true) _ hfree' (ready_mono hr (Ne.symm hji)) h3.1 ?_⟩
   rw [Array.setIfInBounds_comm _ _ hji]
   exact h3.2
theorem anyH_lex_all {Lq : Act → Prop} (hsel : Region.noSelect ops = true) :
  ∀ (l : List Oper) (k : Nat) (listed : Array Bool) (a : Act), (∀ j, j < l.length → l[j]? = ops[k + j]?) → k + l.length = ops.size →
  Region.lexHead md ops 0 l.length k listed = true → wpHeld P ops S Lq l a →
  anyH P md ops S ops.size (fun listed' a' => Region.ready md ops listed' = [] ∧ Lq a') l.length listed a
 | [], k, listed, a, _, _, hB, h => by
  refine ⟨?_, h⟩
  simpa [Region.lexHead, Region.seqB] using hB
 | o :: l, k, listed, a, hl, hk, hB, h => by
  have h0 : ops[k]? = some o := by simpa using (hl 0 (by simp)).symm
  simp only [List.length_cons, Region.lexHead, Bool.and_eq_true] at hB
  obtain ⟨⟨hr, hf⟩, hB'⟩ := hB
  have hr' : k ∈ Region.ready md ops listed := by simpa using hr
  obtain ⟨v, hy, hK⟩ := h
  exact anyH_first_all h0 (Region.noSelect_spec hsel) (fun listed' a' hL => hL.1) l.length listed a (Region.free_spec h0 hf) hr' hy
   (anyH_lex_all hsel l (k + 1) _ _ (fun j hj => by have := hl (j + 1) (by simp; omega); simpa [Nat.add_assoc, Nat.add_comm 1 j] using this) (by simp only [List.length_cons] at hk; omega) hB' hK)
def lexAllB (ops : Array Oper) : Bool := Region.noSelect ops && Region.lexHead .any ops 0 ops.size 0 (Array.replicate ops.size false)
theorem region_held_all {id : Nat} {Q : Exit → Act → World → Prop} {a : Act} {w : World} {l : List Oper} (S : World → Prop) (hm : P.follows .mixedOrders = true) (hB : lexAllB l.toArray = true) (hS : S w.drew)
  (h : wpHeld P l.toArray S (fun a' => ∀ w', S w' → wpList P l.toArray Q [] a' w') l a) : (Code.region id l.toArray true).wp P Q a w := by
 simp only [lexAllB, Bool.and_eq_true] at hB
 obtain ⟨hsel, hlex⟩ := hB
 have hsz : l.toArray.size = l.length := by simp
 rw [hsz] at hlex
 have H := anyH_lex_all (md := .any) hsel l 0 _ a (fun j _ => by simp) (by simp) hlex h
 refine wp_region_any hm ?_
 have := wpAny_of_anyH (Q' := Q) (g := 0) (fun listed a' hL w' hS' => ⟨hL.1, hL.2 w' hS'⟩) _ _ _ H _ hS
 rw [Nat.add_zero] at this
 rw [hsz]
 exact this
end
end Go.Proofs.YtlbfohpkngmaoaaDoor.Ch.B
/- One operation of a region that draws its order. -/
namespace Go.Proofs.YtlbfohpkngmaoaaDoor.Ch.B
open Go Go.RowKit
section
variable {Pg : Program} {ops : Array Oper}
theorem op_valw {Q' : Exit → Act → World → Prop} {i : Nat} {o : Oper} {a : Act} {w : World} {K : Act → World → Prop} (v : Value) (w' : World) (ho : ops[i]? = some o) (hw : Region.wanted o (yielded ops a.tmps) = true) (hr : (execOp a.eval o).run Pg w = .ok (.value v) w') (hK : K (a.put o.dst v) w') : wpOp Pg ops Q' i K a w := by
 unfold wpOp
 simp only [ho, hw, if_true, Oper.wp, hr, Oper.upon]
 exact .inl hK
theorem op_val {Q' : Exit → Act → World → Prop} {i : Nat} {o : Oper} {a : Act} {w : World} {K : Act → World → Prop} (v : Value) (ho : ops[i]? = some o) (hw : Region.wanted o (yielded ops a.tmps) = true) (hr : (execOp a.eval o).run Pg w = .ok (.value v) w) (hK : K (a.put o.dst v) w) : wpOp Pg ops Q' i K a w := op_valw v w ho hw hr hK
theorem op_call {Q' : Exit → Act → World → Prop} {i : Nat} {o : Oper} {a : Act} {w : World} {K : Act → World → Prop} (f : FuncId) (args : Array Value) (ho : ops[i]? = some o) (hw : Region.wanted o (yielded ops a.tmps) = true) (hr : (execOp a.eval o).run Pg w = .ok (.enter f args) w)
  (h : Calls Pg f args w fun e w' => ∃ v, e = .returned v ∧ K (a.put o.dst v) w') : wpOp Pg ops Q' i K a w := by
 unfold wpOp
 simp only [ho, hw, if_true, Oper.wp, hr, Oper.upon]
 refine .inl (Calls.mono h fun e w' ⟨v, he, hq⟩ => ?_)
 subst he
 exact hq
end
end Go.Proofs.YtlbfohpkngmaoaaDoor.Ch.B
namespace Go.Proofs.YtlbfohpkngmaoaaDoor.Ch.B
open Go Go.RowKit
section
variable {P : Program} {ops : Array Oper} {Q : Exit → Act → World → Prop} {a a' : Act} {w : World} {o : Oper} {rest : List Oper} {S : World → Prop} {Qh : Act → Prop}
theorem zP (v : Value) (h : wpList P ops Q rest a' w) (ha : a.put o.dst v = a' := by (simp only [Act.put, List.setIfInBounds_toArray, List.set_cons_zero, List.set_cons_succ]) <;> rfl) (hr : (execOp a.eval o).run P w = .ok (.value v) w := by kernel_rfl) (hw : Region.wanted o (yielded ops a.tmps) = true := by rfl) : wpList P ops Q (o :: rest) a w :=
 wpL_pure v hw hr (by rw [ha]; exact h)
theorem zQ (v : Value) (hr : (execOp a.eval o).run P w = .ok (.value v) w) (h : wpList P ops Q rest a' w) (ha : a.put o.dst v = a' := by (simp only [Act.put, List.setIfInBounds_toArray, List.set_cons_zero, List.set_cons_succ]) <;> rfl) (hw : Region.wanted o (yielded ops a.tmps) = true := by rfl) : wpList P ops Q (o :: rest) a w :=
 wpL_pure v hw hr (by rw [ha]; exact h)
theorem zV (v : Value) (W : World) (hr : (execOp a.eval o).run P w = .ok (.value v) W) (h : wpList P ops Q rest a' W) (ha : a.put o.dst v = a' := by (simp only [Act.put, List.setIfInBounds_toArray, List.set_cons_zero, List.set_cons_succ]) <;> rfl) (hw : Region.wanted o (yielded ops a.tmps) = true := by rfl) : wpList P ops Q (o :: rest) a w :=
 wpL_value v W hw hr (by rw [ha]; exact h)
theorem zH (v : Value) (h : ∀ w, S w → HeldRun P S v ((execOp a.eval o).run P w)) (h2 : wpHeld P ops S Qh rest a') (ha : a.put o.dst v = a' := by (simp only [Act.put, List.setIfInBounds_toArray, List.set_cons_zero, List.set_cons_succ]) <;> rfl) (hw : Region.wanted o (yielded ops a.tmps) = true := by rfl) : wpHeld P ops S Qh (o :: rest) a :=
 wpHeld_cons v hw h (by rw [ha]; exact h2)
theorem zA {md : Region.Mode} {fuel : Nat} {listed : Array Bool} {p : Op} {ty : TypeId} {s : String} {e : Array Edge} {g : Option (Nat × Bool)} (i d : Nat) (v : Value) (h : wpAny P md ops Q fuel (listed.setIfInBounds i true) a' w) (ha : a.put (some d) v = a' := by (simp only [Act.put, List.setIfInBounds_toArray, List.set_cons_zero, List.set_cons_succ]) <;> rfl) (hi : ops[i]? = some ⟨some d, p, ty, s, e, g⟩ := by rfl)
  (hs : Region.noSelect ops = true := by kernel_rfl) (hf : Region.free md ops listed i = true := by kernel_rfl) (hr : (Region.ready md ops listed).contains i = true := by kernel_rfl) (hQ : ∀ c a w, Q (.panic c) (a.put (some d) v) w → Q (.panic c) a w := by exact fun _ _ _ h => h)
  (hw : Region.wanted ⟨some d, p, ty, s, e, g⟩ (yielded ops a.tmps) = true := by rfl) (hy : ∀ w, (execOp a.eval ⟨some d, p, ty, s, e, g⟩).run P w = .ok (.value v) w := by intro w; kernel_rfl) : wpAny P md ops Q (fuel + 1) listed a w :=
 wpAny_take (i := i) hi hs hf hr hQ (Or.inl ⟨hw, hy⟩) (by rw [ha]; exact h)
end
end Go.Proofs.YtlbfohpkngmaoaaDoor.Ch.B
