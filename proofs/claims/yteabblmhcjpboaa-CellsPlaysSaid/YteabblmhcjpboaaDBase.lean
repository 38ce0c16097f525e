/- Small lemmas for a seat: blocks, worlds that grew, rows of bytes, append, bytes.Clone. -/
import Derived.Test.YteabblmhcjpboaaRows
import Derived.Test.YteabblmhcjpboaaDHeld
import Derived.Test.YteabblmhcjpboaaDOpen
import Derived.WalkKit
import Derived.WalkLawsBesides
import Derived.RegionTactic
import Derived.Deep.DeepCutAuto
import Derived.Deep.Upon
import Derived.Maps.AppendAt
import Derived.Laws.Rows
import Derived.Laws.OwnMore
import Derived.Laws.BitsAllLaws
import Derived.Laws.Externs
import Derived.Outline
import Derived.Lib.Hide
import Derived.IntWalk
import Derived.LoopTactic
import Derived.OneCell
import Derived.Lib.SliceRun
namespace Go.Proofs.Yteabblmhcjpboaa.D
open Go Go.RowKit

theorem ret_bool {a b : Bool} (h : a = b) : Ending.returned (.bool a) = .returned (.bool b) := by rw [h]
theorem ret_int {k : IntKind} {a b : Int} (h : a = b) : Ending.returned (.int k a) = .returned (.int k b) := by rw [h]
theorem ret_val {a b : Value} (h : a = b) : Ending.returned a = .returned b := by rw [h]
def Blk (w : World) (g : Nat) (t : TypeId) (cs : Array Value) : Prop := w.heap[g]? = some (.cells cs t (0, 0))
theorem Blk.cell {w : World} {g t : Nat} {cs : Array Value} (h : Blk w g t cs) (j : Nat) : w.cell? ⟨g, j, none⟩ = cs[j]? := cell_of_row w _ _ _ _ _ h
theorem Blk.free {w : World} {g t : Nat} {cs : Array Value} (h : Blk w g t cs) (j : Nat) : w.frozen? ⟨g, j, none⟩ = false := frozen_of_row w g j cs t h
theorem Blk.lt {w : World} {g t : Nat} {cs : Array Value} (h : Blk w g t cs) : g < w.heap.size := by
  rcases Nat.lt_or_ge g w.heap.size with h1 | h1
  · exact h1
  · unfold Blk at h; rw [Array.getElem?_eq_none h1] at h; cases h
theorem Blk.alloc {w : World} {g t : Nat} {cs : Array Value} (h : Blk w g t cs) (o : Obj) : Blk (w.alloc o) g t cs := (Below.heap_alloc w o g h.lt).trans h
theorem Blk.new (w : World) (t : TypeId) (cs : Array Value) : Blk (w.alloc (.cells cs t)) w.heap.size t cs := heap_alloc_new w _
theorem Blk.new' (w : World) (t : TypeId) (cs : Array Value) (n : Nat) (hn : n = w.heap.size) : Blk (w.alloc (.cells cs t)) n t cs := by rw [hn]; exact heap_alloc_new w _
theorem Blk.keep {w w1 : World} {B g t : Nat} {cs : Array Value} (h : Blk w g t cs) (hb : Below B w w1) (hg : g < B) : Blk w1 g t cs := (hb.block _ hg).trans h
theorem Blk.below {w w1 : World} {g t : Nat} {cs : Array Value} (h : Blk w g t cs) (hb : Below w.heap.size w w1) : Blk w1 g t cs := h.keep hb h.lt
theorem Blk.grown {w w1 : World} {g t : Nat} {cs : Array Value} {r : Option Nat} (h : Blk w g t cs) (hb : w.grownBy w1 r) (hg : some g ≠ r) : Blk w1 g t cs := (hb.block _ h.lt hg).trans h
theorem Blk.set {w : World} {g t : Nat} {l : List Value} (h : Blk w g t l.toArray) (o : Nat) (v : Value) : Blk (w.setCell ⟨g, o, none⟩ v) g t (l.set o v).toArray := by
  have e := heap_setCell_same w g o l.toArray t v h
  simpa [Blk] using e
theorem Blk.other {w : World} {g t : Nat} {cs : Array Value} (h : Blk w g t cs) (p : Addr) (v : Value) (hp : g ≠ p.block) : Blk (w.setCell p v) g t cs := (heap_setCell_other _ _ _ _ hp).trans h
theorem Blk.drew {w : World} {g t : Nat} {cs : Array Value} (h : Blk w g t cs) : Blk w.drew g t cs := h
theorem range_blk {w : World} {g t : Nat} {l : List Value} (h : Blk w g t l.toArray) : w.rangeAt g 0 l := by
  intro j v hj
  rw [Nat.zero_add, h.cell]
  simpa using hj
theorem below_setRow {B : Nat} {a w : World} (h : Below B a w) {g : Nat} (hg : B ≤ g) (cs : Array Value) : Below B a (w.setRow g cs) :=
  ⟨h.os, h.tape, h.output, by simpa using h.size, fun k hk => (setRow_other _ _ _ _ (by omega)).trans (h.block k hk)⟩
theorem gb_refl (w : World) (r : Option Nat) : w.grownBy w r := ⟨rfl, rfl, rfl, Nat.le_refl _, fun _ _ _ => rfl⟩
theorem gb_trans {a b c : World} {r : Option Nat} (h : a.grownBy b r) (k : b.grownBy c r) : a.grownBy c r := ⟨k.os.trans h.os, k.tape.trans h.tape, k.output.trans h.output, Nat.le_trans h.size k.size, fun j hj hr => (k.block j (Nat.lt_of_lt_of_le hj h.size) hr).trans (h.block j hj hr)⟩
theorem gb_below {B : Nat} {a b : World} {g : Nat} (h : a.grownBy b (some g)) (hB : B ≤ g) (hg : B ≤ a.heap.size) : Below B a b := ⟨h.os, h.tape, h.output, h.size, fun k hk => h.block k (by omega) (by simp; omega)⟩
theorem gb_of {a b : World} (h : Below a.heap.size a b) (r : Option Nat) : a.grownBy b r := ⟨h.os, h.tape, h.output, h.size, fun k hk _ => h.block k hk⟩
theorem gb_alloc {w X : World} {r : Option Nat} (h : w.grownBy X r) (o : Obj) : w.grownBy (X.alloc o) r := gb_trans h (gb_of ((Below.refl _ _).alloc (Nat.le_refl _) _) r)
theorem gb_drew {w X : World} {r : Option Nat} (h : w.grownBy X r) : w.grownBy X.drew r := gb_trans h (gb_of (Below.refl _ _).drew r)
theorem size_setCell (w : World) (a : Addr) (v : Value) : (w.setCell a v).heap.size = w.heap.size := by simp
theorem gb_set {w X : World} {b : Nat} (h : w.grownBy X (some b)) (o : Nat) (v : Value) : w.grownBy (X.setCell ⟨b, o, none⟩ v) (some b) := by
  have q := Below.setCell (B := 0) (p := ⟨b, o, none⟩) (Below.refl 0 X) (Nat.zero_le _) v
  exact ⟨q.os.trans h.os, q.tape.trans h.tape, q.output.trans h.output, Nat.le_trans h.size q.size, fun k hk hr => (heap_setCell_other _ _ _ _ (fun e => hr (congrArg some e))).trans (h.block k hk hr)⟩
theorem gb_set_new {w X : World} {r : Option Nat} (h : w.grownBy X r) (p : Addr) (hp : w.heap.size ≤ p.block) (v : Value) : w.grownBy (X.setCell p v) r := by
  have q := Below.setCell (B := 0) (p := p) (Below.refl 0 X) (Nat.zero_le _) v
  exact ⟨q.os.trans h.os, q.tape.trans h.tape, q.output.trans h.output, Nat.le_trans h.size q.size, fun k hk hr => (heap_setCell_other _ _ _ _ (by omega)).trans (h.block k hk hr)⟩
theorem run_store_one {P : Program} (a : Act) (o : Oper) (w : World) (ty : TypeId) (x y : Operand) (ho : o.op = .store ty x y) (b off : Nat) (hx : a.eval x = .pointer (some ⟨b, off, none⟩)) (v : Value) (hy : a.eval y = v) (h1 : v.oneCell' = true) (hsz : ∀ w', (sizeOf ty).run P w' = .ok 1 w')
    (hc : (w.cell? ⟨b, off, none⟩).isSome = true) (hf : w.frozen? ⟨b, off, none⟩ = false) : (execOp a.eval o).run P w = .ok .skip (w.setCell ⟨b, off, none⟩ v) := by
  obtain ⟨u, hu⟩ := Option.isSome_iff_exists.1 hc
  have hs := hsz w
  unfold execOp
  subst hy
  simp only [ho, hx]
  generalize a.eval y = v at h1 ⊢
  have hst : ∀ m w', (store ⟨b, off, none⟩ v m).run P w' = stored P w' ⟨b, off, none⟩ v m := fun m w' => run_store P w' _ v m h1
  cases v <;> first | (exfalso; simp [Value.oneCell'] at h1; done) | (go_simp; done)
theorem heldRun_skip {P : Program} {S : World → Prop} {w : World} {r : Result Next} (hr : r = .ok .skip w) (hS : S w) : HeldRun P S undef r := by subst hr; exact ⟨rfl, hS⟩
theorem wpL_store_one {P : Program} {ops : Array Oper} {Q : Exit → Act → World → Prop} {a : Act} {w : World} {o : Oper} {rest : List Oper} {ty : TypeId} {x y : Operand} (hw : Region.wanted o (yielded ops a.tmps) = true) (ho : o.op = .store ty x y)
    (b off : Nat) (hx : a.eval x = .pointer (some ⟨b, off, none⟩)) (v : Value) (hy : a.eval y = v) (h1 : v.oneCell' = true) (hsz : ∀ w', (sizeOf ty).run P w' = .ok 1 w') (hc : (w.cell? ⟨b, off, none⟩).isSome = true) (hf : w.frozen? ⟨b, off, none⟩ = false)
    (h : wpList P ops Q rest (a.put o.dst undef) (w.setCell ⟨b, off, none⟩ v)) : wpList P ops Q (o :: rest) a w :=
  wpList_step fun K hK => by
    rw [if_pos hw]
    unfold Oper.wp
    rw [run_store_one a o w ty x y ho b off hx v hy h1 hsz hc hf]
    exact hK _ _ h
theorem run_load_one (a : Act) (o : Oper) (w : World) (ty : TypeId) (x : Operand) (v : Value) (ho : o.op = .load ty x) (b off : Nat) (hx : a.eval x = .pointer (some ⟨b, off, none⟩)) (hc : w.cell? ⟨b, off, none⟩ = some v) (hagg : (isAgg ty).run Try.prog w = .ok false w) : (execOp a.eval o).run Try.prog w = .ok (.value v) w := by
  unfold execOp
  simp only [ho, hx]
  go_simp
theorem run_idx (a : Act) (o : Oper) (w : World) (x i : Operand) (g off n c k : Nat) (ho : o.op = .indexAddr 26 x i) (hx : a.eval x = .slice (some ⟨g, off, none⟩) n c) (hi : a.eval i = .int .i64 (k : Int)) (hk : k < n) (hn : n ≤ maxLen) : (execOp a.eval o).run Try.prog w = .ok (.value (.pointer (some ⟨g, off + k, none⟩))) w := by
  unfold maxLen at hn
  have j0 : (0 : Int) ≤ (k : Int) := by omega
  have j6 : (k : Int) < (n : Int) := by omega
  unfold execOp
  simp only [ho, hx, hi]
  go_simp

/-- a slice that shows these bytes. -/
def Row (w : World) (a : Option Addr) (n : Nat) (xs : List Int) : Prop := xs.length = n ∧ n ≤ maxLen ∧ (∀ x ∈ xs, 0 ≤ x ∧ x ≤ 255) ∧ ∀ j, j < n → ∃ g o, a = some ⟨g, o, none⟩ ∧ w.cell? ⟨g, o + j, none⟩ = some (.int .u8 (xs.getD j 0))
theorem Row.below {w w' : World} {a : Option Addr} {n : Nat} {xs : List Int} (h : Row w a n xs) (B : Nat) (hb : Below B w w') (hB : w.heap.size ≤ B) : Row w' a n xs := by
  refine ⟨h.1, h.2.1, h.2.2.1, fun j hj => ?_⟩
  obtain ⟨g, o, h1, h2⟩ := h.2.2.2 j hj
  exact ⟨g, o, h1, (hb.cell (p := ⟨g, o + j, none⟩) (Nat.lt_of_lt_of_le (World.block_lt_of_cell? w _ h2) hB)).trans h2⟩
theorem Row.keep {w w' : World} {a : Option Addr} {n : Nat} {xs : List Int} (h : Row w a n xs) (hb : Below w.heap.size w w') : Row w' a n xs := h.below _ hb (Nat.le_refl _)
theorem Row.grown {w w' : World} {a : Option Addr} {n : Nat} {xs : List Int} {r : Option Nat} (h : Row w a n xs) (hb : w.grownBy w' r) (hr : ∀ p, a = some p → some p.block ≠ r) : Row w' a n xs := by
  refine ⟨h.1, h.2.1, h.2.2.1, fun j hj => ?_⟩
  obtain ⟨g, o, h1, h2⟩ := h.2.2.2 j hj
  exact ⟨g, o, h1, hb.cell h2 (by have := hr _ h1; exact this)⟩
theorem Row.setOther {w : World} {a : Option Addr} {n : Nat} {xs : List Int} (h : Row w a n xs) (q : Addr) (v : Value) (hr : ∀ p, a = some p → p.block ≠ q.block) : Row (w.setCell q v) a n xs := by
  refine ⟨h.1, h.2.1, h.2.2.1, fun j hj => ?_⟩
  obtain ⟨g, o, h1, h2⟩ := h.2.2.2 j hj
  exact ⟨g, o, h1, (World.cell?_of_block (a := ⟨g, o + j, none⟩) (heap_setCell_other _ _ _ _ (by have := hr _ h1; exact this))).trans h2⟩
theorem row_of {w : World} {a : Option Addr} {len cap : Nat} {zs : List Int} (h : IsRow .u8 w a len cap zs) : Row w a len (zs.take len) := by
  rcases h with ⟨rfl, rfl, _, rfl⟩ | ⟨⟨b, off, spot⟩, rfl, h2, h3, h4, h5, h6⟩
  · exact ⟨rfl, by simp [maxLen], by simp, fun j hj => absurd hj (by omega)⟩
  · refine ⟨by simp; omega, by omega, fun x hx => bounds_u8 (h6 x (List.mem_of_mem_take hx)), fun j hj => ?_⟩
    have hs : spot = none := by simpa [Addr.add] using World.cell?_spot (h5 0 (by omega))
    subst hs
    have := h5 j (by omega)
    have e : (⟨b, off, none⟩ : Addr).add j = ⟨b, off + j, none⟩ := by unfold Addr.add; split <;> simp_all
    rw [e] at this
    refine ⟨b, off, rfl, ?_⟩
    rw [this]
    simp [List.getD, List.getElem?_take, hj]
theorem getD_byte {xs : List Int} (h : ∀ x ∈ xs, 0 ≤ x ∧ x ≤ 255) (j : Nat) : 0 ≤ xs.getD j 0 ∧ xs.getD j 0 ≤ 255 := by
  rw [List.getD]
  rcases Nat.lt_or_ge j xs.length with hj | hj
  · rw [List.getElem?_eq_getElem hj]
    exact h _ (List.getElem_mem hj)
  · rw [List.getElem?_eq_none hj]
    simp
theorem Row.sub {w : World} {g off n : Nat} {xs : List Int} (h : Row w (some ⟨g, off, none⟩) n xs) (i m : Nat) (hm : i + m ≤ n) : Row w (some ⟨g, off + i, none⟩) m ((xs.drop i).take m) := by
  refine ⟨by rw [List.length_take, List.length_drop, h.1]; omega, by have := h.2.1; omega, fun x hx => h.2.2.1 x (List.mem_of_mem_drop (List.mem_of_mem_take hx)), fun j hj => ?_⟩
  obtain ⟨g', o', e, hc⟩ := h.2.2.2 (i + j) (by omega)
  simp only [Option.some.injEq, Addr.mk.injEq, and_true] at e
  obtain ⟨rfl, rfl⟩ := e
  refine ⟨_, _, rfl, ?_⟩
  rw [Nat.add_assoc, hc]
  simp [List.getD, List.getElem?_take, List.getElem?_drop, hj]
theorem Row.nil (w : World) (a : Option Addr) : Row w a 0 [] := ⟨rfl, by simp [maxLen], by simp, fun j hj => absurd hj (by omega)⟩
theorem conv_zero (w : World) (p : Option Addr) (c : Nat) : (convert 26 9 (.slice p 0 c)).run Try.prog w = .ok (.string (strOfNums [])) w := by
  rw [run_convert_bytes_string w 26 9 5 _ 0 c Try.underlying26 Try.underlying5 Try.underlying9]
  cases p <;> simp [Conv.bytesToString, loadCells]
  all_goals rfl
theorem conv_row (w : World) (a : Option Addr) (n c : Nat) (xs : List Int) (h : Row w a n xs) :
    (convert 26 9 (.slice a n c)).run Try.prog w = .ok (.string (strOfNums xs)) w := by
  by_cases h0 : n = 0
  · subst h0
    obtain rfl : xs = [] := List.eq_nil_of_length_eq_zero h.1
    exact conv_zero w a c
  · obtain ⟨g, o, rfl, _⟩ := h.2.2.2 0 (by omega)
    refine run_convert_bytes_arg w 26 5 Try.underlying26 Try.underlying5 g o n c xs h.1 (fun i hi => ?_) 9 Try.underlying9
    obtain ⟨g', o', e, hc⟩ := h.2.2.2 i hi
    simp only [Option.some.injEq, Addr.mk.injEq, and_true] at e
    obtain ⟨rfl, rfl⟩ := e
    rw [hc]
theorem num_inj : ∀ (xs ys : List Int), (∀ x ∈ xs, 0 ≤ x ∧ x ≤ 255) → (∀ y ∈ ys, 0 ≤ y ∧ y ≤ 255) → xs.map (fun n => UInt8.ofNat n.toNat) = ys.map (fun n => UInt8.ofNat n.toNat) → xs = ys := by
  intro xs
  induction xs with
  | nil => intro ys _ _ h; cases ys with
    | nil => rfl
    | cons y ys => simp at h
  | cons x xs ih =>
    intro ys hx hy h
    cases ys with
    | nil => simp at h
    | cons y ys =>
      simp only [List.map_cons, List.cons.injEq] at h
      have h1 := hx x (by simp)
      have h2 := hy y (by simp)
      have h3 := congrArg UInt8.toNat h.1
      simp at h3
      have : x = y := by omega
      rw [this, ih ys (fun a ha => hx a (by simp [ha])) (fun a ha => hy a (by simp [ha])) h.2]
theorem str_beq (xs ys : List Int) (hx : ∀ x ∈ xs, 0 ≤ x ∧ x ≤ 255) (hy : ∀ y ∈ ys, 0 ≤ y ∧ y ≤ 255) : ((strOfNums xs).toList == (strOfNums ys).toList) = decide (xs = ys) := by
  rw [Bool.eq_iff_iff, beq_iff_eq, decide_eq_true_eq, ByteArray.toList_eq, ByteArray.toList_eq]
  constructor
  · intro h
    exact num_inj xs ys hx hy (by simpa [strOfNums] using h)
  · rintro rfl; rfl
theorem run_conv_str (a : Act) (o : Oper) (w : World) (x : Operand) (p : Option Addr) (n c : Nat) (xs : List Int) (ho : o.op = .convert 26 9 x) (hx : a.eval x = .slice p n c) (h : Row w p n xs) : (execOp a.eval o).run Try.prog w = .ok (.value (.string (strOfNums xs))) w := by
  unfold execOp
  simp only [ho, hx, Sem.run_bind, conv_row w p n c xs h, Result.andThen_ok, Sem.run_pure]
theorem run_str_eql (a : Act) (o : Oper) (w : World) (x y : Operand) (xs ys : List Int) (b : Bool) (ho : o.op = .binOp .eql 9 x y 9) (hx : a.eval x = .string (strOfNums xs)) (hy : a.eval y = .string (strOfNums ys)) (hb : b = decide (xs = ys)) (h0 : ∀ x ∈ xs, 0 ≤ x ∧ x ≤ 255) (h1 : ∀ y ∈ ys, 0 ≤ y ∧ y ≤ 255) : (execOp a.eval o).run Try.prog w = .ok (.value (.bool b)) w := by
  have e := str_beq xs ys h0 h1
  rw [← hb] at e
  clear hb
  unfold execOp
  simp only [ho, hx, hy]
  go_simp

/-- a slice of one's own that holds these bytes. -/
def Own (w : World) (base : Nat) (v : Value) (xs : List Int) : Prop := w.ownsRow base 5 1 v xs.length (xs.map (Value.int .u8)) ∧ ∀ x ∈ xs, 0 ≤ x ∧ x ≤ 255
theorem Own.form {w : World} {base : Nat} {v : Value} {xs : List Int} (h : Own w base v xs) : (v = .slice none 0 0 ∧ xs = []) ∨ ∃ g cap cur, v = .slice (some ⟨g, 0, none⟩) xs.length cap ∧ base ≤ g ∧ Blk w g 5 cur ∧ xs.length ≤ cap ∧ cap ≤ maxLen ∧ cur.size = cap ∧ cur.toList.take xs.length = xs.map (Value.int .u8) := by
  rcases h.1.2 with ⟨h1, h2⟩ | ⟨g, cap, cur, h1, h2, h3, h4, h5, h6, h7⟩
  · exact .inl ⟨h1, List.eq_nil_of_length_eq_zero h2⟩
  · exact .inr ⟨g, cap, cur, h1, h2, h3, h4, h5, by simpa using h6, by simpa using h7⟩
theorem Own.len {w : World} {base : Nat} {v : Value} {xs : List Int} (h : Own w base v xs) : xs.length ≤ maxLen := by
  rcases h.form with ⟨_, rfl⟩ | ⟨_, _, _, _, _, _, h4, h5, _⟩
  · simp [maxLen]
  · omega
theorem Own.row {w : World} {base : Nat} {a : Option Addr} {n c : Nat} {xs : List Int} (h : Own w base (.slice a n c) xs) : Row w a n xs ∧ n ≤ c := by
  have hm := h.len
  rcases h.form with ⟨h1, h2⟩ | ⟨g, cap, cur, h1, h2, h3, h4, h5, h6, h7⟩
  · simp only [Value.slice.injEq] at h1
    obtain ⟨rfl, rfl, rfl⟩ := h1
    subst h2
    exact ⟨Row.nil _ _, by omega⟩
  · simp only [Value.slice.injEq] at h1
    obtain ⟨rfl, rfl, rfl⟩ := h1
    refine ⟨⟨rfl, by omega, h.2, fun j hj => ⟨g, 0, rfl, ?_⟩⟩, h4⟩
    rw [h3.cell, Nat.zero_add]
    have e : (cur.toList.take xs.length)[j]? = (xs.map (Value.int .u8))[j]? := by rw [h7]
    rw [List.getElem?_take, if_pos hj, List.getElem?_map, List.getElem?_eq_getElem (l := xs) hj] at e
    rw [← Array.getElem?_toList, e]
    simp [List.getD, List.getElem?_eq_getElem hj]
theorem Own.below {w w' : World} {base : Nat} {v : Value} {xs : List Int} (h : Own w base v xs) (hb : Below w.heap.size w w') : Own w' base v xs :=
  ⟨h.1.kept (gb_of hb none) (by cases hv : v.ownBlock <;> simp), h.2⟩
theorem Own.grown {w w' : World} {base : Nat} {v : Value} {xs : List Int} {r : Option Nat} (h : Own w base v xs) (hb : w.grownBy w' r) (hr : v.ownBlock = none ∨ v.ownBlock ≠ r) : Own w' base v xs := ⟨h.1.kept hb hr, h.2⟩
theorem Own.alloc {w : World} {base : Nat} {v : Value} {xs : List Int} (h : Own w base v xs) (o : Obj) : Own (w.alloc o) base v xs := ⟨h.1.alloc o, h.2⟩
theorem Own.drew {w : World} {base : Nat} {v : Value} {xs : List Int} (h : Own w base v xs) : Own w.drew base v xs := h
theorem Own.other {w : World} {base : Nat} {v : Value} {xs : List Int} (h : Own w base v xs) (p : Addr) (u : Value) (hp : v.ownBlock ≠ some p.block) : Own (w.setCell p u) base v xs := ⟨ownsRow_setCell_other h.1 hp u, h.2⟩
theorem Own.mono {w : World} {base base' : Nat} {v : Value} {xs : List Int} (h : Own w base v xs) (hb : base' ≤ base) : Own w base' v xs := ⟨h.1.mono hb, h.2⟩
theorem Own.nil (w : World) (base : Nat) : Own w base (.slice none 0 0) [] := ⟨World.ownsRow_nil _ _ _ _, by simp⟩
theorem Own.lt {w : World} {base : Nat} {v : Value} {xs : List Int} (h : Own w base v xs) : ∀ k, v.ownBlock = some k → base ≤ k ∧ k < w.heap.size := h.1.lt
theorem Own.slice {w : World} {base : Nat} {v : Value} {xs : List Int} (h : Own w base v xs) : ∃ a c, v = .slice a xs.length c := by
  rcases h.form with ⟨h1, h2⟩ | ⟨g, cap, cur, h1, _⟩
  · exact ⟨none, 0, by rw [h1, h2]; rfl⟩
  · exact ⟨_, _, h1⟩
theorem map_append_u8 (xs ys : List Int) : (xs ++ ys).map (Value.int .u8) = xs.map (Value.int .u8) ++ ys.map (Value.int .u8) := List.map_append
theorem append_own (w : World) (base : Nat) (v : Value) (xs ys : List Int) (a : Option Addr) (m c : Nat) (hown : Own w base v xs) (hr : Row w a m ys) (hnm : xs.length + m ≤ 140737488355328) (hbase : base ≤ w.heap.size) :
    ∃ v' w', (Builtin.append_ #[26, 26] 26 #[v, .slice a m c]).run Try.prog w = .ok v' w' ∧ Own w' base v' (xs ++ ys) ∧ w.grownBy w' v.ownBlock ∧ (v'.ownBlock = v.ownBlock ∨ v'.ownBlock = some w.heap.size) ∧ (v' = .slice none 0 0 ↔ v = .slice none 0 0 ∧ m = 0) := by
  obtain ⟨i, hi⟩ : ∃ i, Try.prog.info? 5 = some i := Option.isSome_iff_exists.1 (by kernel_rfl)
  have hsz : i.size = 1 := by
    have h : (Try.prog.info? 5).map (·.size) = some 1 := by kernel_rfl
    rw [hi] at h; simpa using h
  have hby : i.bytes = 1 := by
    have h : (Try.prog.info? 5).map (·.bytes) = some 1 := by kernel_rfl
    rw [hi] at h; simpa using h
  have hz : i.zero = some (.int .u8 0) := by
    have h : (Try.prog.info? 5).bind (·.zero) = some (.int .u8 0) := by kernel_rfl
    rw [hi] at h; simpa using h
  by_cases hm : m = 0
  · subst hm
    obtain rfl : ys = [] := List.eq_nil_of_length_eq_zero hr.1
    have hS : Src Try.prog i.size 26 (.slice a 0 c) 0 [] w := by
      cases a with
      | none => exact Src.ofNil w Try.underlying26 c
      | some ad => exact Src.ofSlice w Try.underlying26 ad 0 c [] (by simp) (by simp) (by simp)
    rcases hown.form with ⟨rfl, rfl⟩ | ⟨g, cap, cur, rfl, h2, h3, h4, h5, h6, h7⟩
    · exact ⟨_, w, run_append_nothing w 26 26 26 5 i Try.underlying26 hi none 0 0 (Nat.le_refl _) _ hS, by simpa using hown, gb_refl _ _, .inl rfl, by simp⟩
    · exact ⟨_, w, run_append_nothing w 26 26 26 5 i Try.underlying26 hi _ _ _ h4 _ hS, by simpa using hown, gb_refl _ _, .inl rfl, by simp⟩
  · obtain ⟨g, o, rfl, _⟩ := hr.2.2.2 0 (by omega)
    obtain ⟨v', w', r1, r2, r3, r4, r5⟩ := run_append_own_at (P := Try.prog) w base 26 26 5 i (.int .u8 0) 1 1 Try.underlying26 hi hz hsz hby (by rfl) (by omega) v xs.length (xs.map (Value.int .u8)) hown.1
      ⟨g, o, none⟩ m c (ys.map (Value.int .u8)) (by simp [hr.1]) (fun j u hu => by
        rw [List.getElem?_map] at hu
        have hj : j < ys.length := by
          rcases Nat.lt_or_ge j ys.length with hj | hj
          · exact hj
          · rw [List.getElem?_eq_none hj] at hu; cases hu
        rw [List.getElem?_eq_getElem hj] at hu
        obtain ⟨g', o', e', hc⟩ := hr.2.2.2 j (by rw [← hr.1]; exact hj)
        simp only [Option.some.injEq, Addr.mk.injEq, and_true] at e'
        obtain ⟨rfl, rfl⟩ := e'
        rw [Addr.add_lit, hc, ← hu]
        simp [List.getD, List.getElem?_eq_getElem hj]) (by intro u hu; obtain ⟨x, _, rfl⟩ := List.mem_map.1 hu; rfl) (by unfold maxLen; omega) (by omega) hbase
    refine ⟨v', w', r1, ⟨?_, ?_⟩, r3, r5, r4⟩
    · rw [List.map_append, List.length_append, hr.1]; exact r2
    · intro x hx
      rcases List.mem_append.1 hx with hx | hx
      · exact hown.2 x hx
      · exact hr.2.2.1 x hx
theorem run_app (a : Act) (o : Oper) (w w' : World) (x y : Operand) (v u r : Value) (ho : o.op = .call { callee := .builtin .append, args := #[x, y], argTypes := #[26, 26] }) (ht : o.type = 26) (hx : a.eval x = v) (hy : a.eval y = u)
    (h : (Builtin.append_ #[26, 26] 26 #[v, u]).run Try.prog w = .ok r w') : (execOp a.eval o).run Try.prog w = .ok (.value r) w' := by
  unfold execOp
  simp only [ho, resolve, invoke, builtin, Sem.run_bind, Sem.run_pure, Result.andThen_ok, List.map_toArray, List.map_cons, List.map_nil, hx, hy, ht, h]
theorem eql_nil (w : World) (a : Option Addr) (n c n' c' : Nat) : (binOp .eql 26 (.slice a n c) (.slice none n' c')).run Try.prog w = .ok (.bool a.isNone) w := Go.Lib.run_eql_slice_nil w 26 5 a n c n' c' Try.underlying26
theorem clone_none (w : World) (n c : Nat) : Calls Try.prog 37 #[.slice none 0 0] w fun e w' => e = .returned (.slice none 0 0) ∧ w = w' := by
  have q := eql_nil
  go_enter Try.func37, Try.ntmps37
  go_wp2_with fail
  go_ret
  exact ⟨rfl, rfl⟩
/-- bytes.Clone. -/
theorem clone_any (w : World) (a : Option Addr) (n c : Nat) (xs : List Int) (h : Row w a n xs) (hbig : n ≤ 140737488355328) (hnil : a = none → c = 0) :
    Calls Try.prog 37 #[.slice a n c] w fun e w' => ∃ v, e = .returned v ∧ Own w' w.heap.size v xs ∧ Below w.heap.size w w' ∧ (v = .slice none 0 0 ↔ a = none) := by
  cases a with
  | none =>
    have h0 : n = 0 := by
      rcases Nat.eq_zero_or_pos n with h0 | h0
      · exact h0
      · obtain ⟨g, o, h1, _⟩ := h.2.2.2 0 h0; cases h1
    subst h0
    obtain rfl := hnil rfl
    obtain rfl : xs = [] := List.eq_nil_of_length_eq_zero h.1
    exact (clone_none w 0 0).mono fun e w' ⟨he, hw⟩ => ⟨_, he, by subst hw; exact ⟨Own.nil _ _, Below.refl _ _, by simp⟩⟩
  | some ad =>
    have HR := Lib.hid h
    clear h
    have q := eql_nil
    go_enter Try.func37, Try.ntmps37
    go_upto_region 3 with (fail)
    refine wp_region_lit ?_
    have O0 : Own (w.alloc (.cells #[] 5)) w.heap.size (.slice (some ⟨w.heap.size, 0, none⟩) 0 0) [] := ⟨World.ownsRow_made w #[] 0 (Nat.le_refl _) (by simp [maxLen]) (by simp), by simp⟩
    obtain ⟨v', w', r1, r2, r3, r4, r5⟩ := append_own (w.alloc (.cells #[] 5)) w.heap.size _ [] xs (some ad) n c O0 (HR.out.keep ((Below.refl _ _).alloc (Nat.le_refl _) _)) (by simpa using hbig) (by simp)
    have R1 := Lib.hid r1
    have R2 : Hid (Own w' w.heap.size v' xs ∧ Below w.heap.size w w' ∧ v' ≠ .slice none 0 0) := Lib.hid ⟨by simpa using r2, ((Below.refl _ _).alloc (Nat.le_refl _) _).trans ⟨r3.os, r3.tape, r3.output, r3.size, fun k hk => r3.block k (by simp; omega) (by simp [Value.ownBlock]; omega)⟩, by rw [Ne, r5]; simp⟩
    clear O0 r1 r2 r3 r4 r5
    refine wpL_value (.slice (some ⟨w.heap.size, 0, none⟩) 0 0) (w.alloc (.cells #[] 5)) rfl (by kernel_rfl) ?_
    simp only [Act.put, List.setIfInBounds_toArray, List.set_cons_zero, List.set_cons_succ]
    refine wpL_pure (.slice (some ad) n c) rfl (by kernel_rfl) ?_
    simp only [Act.put, List.setIfInBounds_toArray, List.set_cons_zero, List.set_cons_succ]
    refine wpL_value v' w' rfl (run_app _ _ _ _ _ _ _ _ _ rfl rfl rfl rfl R1.out) ?_
    simp only [Act.put, List.setIfInBounds_toArray, List.set_cons_zero, List.set_cons_succ]
    go_wp2_with fail
    go_ret
    exact ⟨_, rfl, R2.out.1, R2.out.2.1, by simp [R2.out.2.2]⟩
end Go.Proofs.Yteabblmhcjpboaa.D
