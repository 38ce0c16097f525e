import Derived.Test.YtfhjfpgfbeiacaaDoorHaH5
import Derived.Laws.ResultCell
import Derived.Great.BuildSlice
namespace Go.Proofs.YtfhjfpgfbeiacaaDoor.Ha
open Go Go.RowKit
set_option maxRecDepth 100000

abbrev hh0 : List Nat := Go.Proofs.YtfhjfpgfbeiacaaDoor.Ha.h0
def TabH (w : World) : Prop := ∀ i, i < 8 → w.cell? ⟨0, i, none⟩ = some (.int .u32 (hh0.getD i 0 : Nat))
theorem TabH.grown {w w' : World} {r : Option Nat} (h : TabH w) (hb : w.grownBy w' r) (hr : some 0 ≠ r) : TabH w' := fun i hi => hb.cell (h i hi) hr
theorem TabH.below {w w' : World} (h : TabH w) (hb : Below w.heap.size w w') : TabH w' := h.grown (gb_of hb none) (by simp)
theorem TabH.range {w : World} (h : TabH w) : w.rangeAt 0 0 (u32l hh0) := by
  intro j v hj
  have hlt : j < 8 := by
    rcases Nat.lt_or_ge j 8 with h1 | h1
    · exact h1
    · rw [List.getElem?_eq_none (by simp [u32l, Go.Proofs.YtfhjfpgfbeiacaaDoor.Ha.h0]; omega)] at hj; cases hj
  rw [Nat.zero_add, h j hlt, ← hj]
  have hx : j < hh0.length := by simpa [Go.Proofs.YtfhjfpgfbeiacaaDoor.Ha.h0] using hlt
  unfold u32l
  rw [List.getElem?_map, List.getElem?_eq_getElem hx, List.getD, List.getElem?_eq_getElem hx]
  rfl
theorem qq {p r : Prop} (h : p) (f : p → r) : r := f h
theorem gb_row {w X : World} {r : Option Nat} (h : w.grownBy X r) (g : Nat) (hg : w.heap.size ≤ g) (cs : Array Value) : w.grownBy (X.setRow g cs) r :=
  ⟨h.os, h.tape, h.output, by simpa using h.size, fun k hk hr => (setRow_other _ _ _ _ (by omega)).trans (h.block k hk hr)⟩
/-- a change of a block that is new. -/
theorem gb_new {w X Y : World} {r : Option Nat} {g : Nat} (h : w.grownBy X r) (k : X.grownBy Y (some g)) (hg : w.heap.size ≤ g) : w.grownBy Y r :=
  ⟨k.os.trans h.os, k.tape.trans h.tape, k.output.trans h.output, Nat.le_trans h.size k.size, fun j hj hr => (k.block j (Nat.lt_of_lt_of_le hj h.size) (by simp; omega)).trans (h.block j hj hr)⟩
theorem u8l_one (l : List Int) : (u8l l).toArray.all (·.oneCell') = true := by
  simp only [List.all_toArray, List.all_eq_true, u8l, List.mem_map]
  rintro v ⟨x, _, rfl⟩
  rfl
theorem Mid.below {w w' : World} {b : Nat} {H : List Nat} {R : List Int} {hv tot : Nat} (h : Mid w b H R hv tot) (hb : Below w.heap.size w w') : Mid w' b H R hv tot := ⟨h.1.below hb, h.2⟩
theorem Mid.stateRange {w : World} {b : Nat} {H : List Nat} {R : List Int} {hv tot : Nat} (h : Mid w b H R hv tot) : w.rangeAt b 0 (u32l H) := by
  intro j v hj
  rw [Nat.zero_add, h.1.cell, List.getElem?_toArray]
  unfold digL
  have hlt : j < (u32l H).length := by
    rcases Nat.lt_or_ge j (u32l H).length with h1 | h1
    · exact h1
    · rw [List.getElem?_eq_none h1] at hj; cases hj
  rw [List.getElem?_append_left hlt, hj]
/-- texts that are handed in as one slice. -/
def PSl (w : World) (a : Option Addr) (len : Nat) (L : List (List Int)) : Prop := L.length = len ∧ len ≤ maxLen ∧ ∀ k, k < len → ∃ g o a' n' c', a = some ⟨g, o, none⟩ ∧ w.cell? ⟨g, o + k, none⟩ = some (.slice a' n' c') ∧ Sl w a' n' c' (L.getD k []) ∧ n' ≤ 4611686018427387904
theorem parts_stay {w wr : World} {a : Option Addr} {b ln k g o pn pc : Nat} {pa : Option Addr} {L : List (List Int)} (hs : ∀ X, w.grownBy X (some b) → PSl X a ln L) (hne : ∀ p : Addr, a = some p → p.block ≠ b) (hg : w.grownBy wr (some b)) (hk : k < ln) (ea : a = some ⟨g, o, none⟩) (hc : wr.cell? ⟨g, o + k, none⟩ = some (.slice pa pn pc)) :
    ∀ X, wr.grownBy X (some b) → Sl X pa pn pc (L.getD k []) := by
  intro X hX
  obtain ⟨g2, o2, pa2, pn2, pc2, ea2, hc2, hsl2, _⟩ := (hs X (gb_trans hg hX)).2.2 k hk
  rw [ea] at ea2
  simp only [Option.some.injEq, Addr.mk.injEq, and_true] at ea2
  obtain ⟨rfl, rfl⟩ := ea2
  have q1 := hX.cell hc (by have := hne _ ea; simpa using this)
  rw [hc2] at q1
  simp only [Option.some.injEq, Value.slice.injEq] at q1
  obtain ⟨rfl, rfl, rfl⟩ := q1
  exact hsl2
theorem flat_take_succ {L : List (List Int)} {ln k : Nat} (hl : L.length = ln) (hk : k < ln) : (L.take k).flatten ++ L.getD k [] = (L.take (k + 1)).flatten := by
  have hx : k < L.length := by omega
  rw [List.take_add_one, List.flatten_append, List.getD, List.getElem?_eq_getElem hx]
  simp
theorem run_idx35 (a : Act) (o : Oper) (w : World) (x i : Operand) (g off n c k : Nat) (ho : o.op = .indexAddr 91 x i) (hx : a.eval x = .slice (some ⟨g, off, none⟩) n c) (hi : a.eval i = .int .i64 (k : Int)) (hk : k < n) (hn : n ≤ maxLen) : (execOp a.eval o).run Tryd.prog w = .ok (.value (.pointer (some ⟨g, off + k, none⟩))) w := by
  unfold maxLen at hn
  have j0 : (0 : Int) ≤ (k : Int) := by omega
  have j6 : (k : Int) < (n : Int) := by omega
  unfold execOp
  simp only [ho, hx, hi]
  go_simp
theorem run_rem64 (a : Act) (o : Oper) (w : World) (x : Operand) (p : Nat) (ho : o.op = .binOp .rem 3 x (.const (.int .i64 64)) 3) (hx : a.eval x = .int .i64 (p : Int)) : (execOp a.eval o).run Tryd.prog w = .ok (.value (.int .i64 ((p % 64 : Nat) : Int))) w := by
  have hc : a.eval (.const (.int .i64 64)) = .int .i64 64 := rfl
  have u := run_underlying Tryd.underlying3 w
  unfold execOp
  simp only [ho, hx, hc]
  go_simp
  simp [Int.tmod_eq_emod_of_nonneg, IntKind.wrap, IntKind.bits, IntKind.signed]
  try omega
theorem run_shr47 (a : Act) (o : Oper) (w : World) (x : Operand) (p : Nat) (ho : o.op = .binOp .shr 31 x (.const (.int .u64 32)) 82) (hx : a.eval x = .int .u64 ((p % 18446744073709551616 : Nat) : Int)) : (execOp a.eval o).run Tryd.prog w = .ok (.value (.int .u64 ((p % 18446744073709551616 / 4294967296 : Nat) : Int))) w := by
  have hc : a.eval (.const (.int .u64 32)) = .int .u64 32 := rfl
  obtain ⟨q, hq⟩ : ∃ q, p % 18446744073709551616 = q := ⟨_, rfl⟩
  have b0 : (0 : Int) ≤ (q : Int) := by omega
  have b1 : (q : Int) < 18446744073709551616 := by omega
  rw [hq] at hx ⊢
  unfold execOp
  simp only [ho, hx, hc]
  go_simp
  try omega
theorem run_slto60 (a : Act) (o : Oper) (w : World) (x i : Operand) (g m : Nat) (ho : o.op = .slice 111 x none (some i) none) (hx : a.eval x = .pointer (some ⟨g, 0, none⟩)) (hi : a.eval i = .int .i64 (m : Int)) (hm : m ≤ 72) :
    (execOp a.eval o).run Tryd.prog w = .ok (.value (.slice (some ⟨g, 0, none⟩) m 72)) w := by
  have h1 : (0 : Int) ≤ (m : Int) := by omega
  have h2 : (m : Int) ≤ 72 := by omega
  unfold execOp
  simp only [ho, hx, Option.map_some, Option.map_none, hi]
  go_simp
theorem run_index49 (a : Act) (o : Oper) (w : World) (x i : Operand) (H : List Nat) (k : Nat) (ho : o.op = .index 95 x i) (hx : a.eval x = .agg (u32l H).toArray) (hi : a.eval i = .int .i64 (k : Int)) (hH : HOk H) (hk : k < 8) : (execOp a.eval o).run Tryd.prog w = .ok (.value (.int .u32 (H.getD k 0 : Nat))) w := by
  obtain ⟨h0, h1, h2, h3, h4, h5, h6, h7, rfl⟩ := hH.eight
  have hh : k = 0 ∨ k = 1 ∨ k = 2 ∨ k = 3 ∨ k = 4 ∨ k = 5 ∨ k = 6 ∨ k = 7 := by omega
  unfold execOp
  simp only [ho, hx, hi, u32l, List.map_cons, List.map_nil]
  rcases hh with rfl | rfl | rfl | rfl | rfl | rfl | rfl | rfl <;> rfl
theorem set4 (l : List Value) (o : Nat) (a b c d : Value) (h : o + 4 ≤ l.length) : (((l.set o a).set (o + 1) b).set (o + 2) c).set (o + 3) d = l.take o ++ [a, b, c, d] ++ l.drop (o + 4) := by
  apply List.ext_getElem?
  intro j
  simp only [List.getElem?_set, List.length_set]
  rcases Nat.lt_or_ge j o with hj | hj
  · rw [if_neg (by omega), if_neg (by omega), if_neg (by omega), if_neg (by omega), List.append_assoc, List.getElem?_append_left (by simp; omega), List.getElem?_take, if_pos hj]
  · rcases Nat.lt_or_ge j (o + 4) with hj4 | hj4
    · rw [List.append_assoc, List.getElem?_append_right (by simp; omega), List.length_take, List.getElem?_append_left (by simp; omega)]
      have hm : min o l.length = o := by omega
      rw [hm]
      have : j = o ∨ j = o + 1 ∨ j = o + 2 ∨ j = o + 3 := by omega
      rcases this with rfl | rfl | rfl | rfl
      · simp; omega
      · simp; omega
      · simp; omega
      · simp; omega
    · rw [if_neg (by omega), if_neg (by omega), if_neg (by omega), if_neg (by omega), List.getElem?_append_right (by simp; omega), List.getElem?_drop]
      congr 1
      simp
      omega
theorem put_sp (w : World) (g t o n c x : Nat) (l : List Int) (hB : Blk w g t (u8l l).toArray) (hl : o + 4 ≤ (u8l l).length) (hn : 4 ≤ n ∧ n ≤ maxLen) (hx : x < 4294967296) :
    Calls Tryd.prog 57 #[.slice (some ⟨g, o, none⟩) n c, .int .u32 (x : Int)] w fun e w' => e = .returned (.tuple #[]) ∧ Blk w' g t (u8l (l.take o ++ [((x / 16777216 % 256 : Nat) : Int), ((x / 65536 % 256 : Nat) : Int), ((x / 256 % 256 : Nat) : Int), ((x % 256 : Nat) : Int)] ++ l.drop (o + 4))).toArray ∧ w.grownBy w' (some g) := by
  refine (put_any w g t o n c x (u8l l) hB hl hn hx).mono fun e w' ⟨he, q1, q2⟩ => ⟨he, ?_, q2⟩
  rw [set4 _ _ _ _ _ _ hl] at q1
  have e : u8l (l.take o ++ [((x / 16777216 % 256 : Nat) : Int), ((x / 65536 % 256 : Nat) : Int), ((x / 256 % 256 : Nat) : Int), ((x % 256 : Nat) : Int)] ++ l.drop (o + 4)) = (u8l l).take o ++ [.int .u8 ((x / 16777216 % 256 : Nat) : Int), .int .u8 ((x / 65536 % 256 : Nat) : Int), .int .u8 ((x / 256 % 256 : Nat) : Int), .int .u8 ((x % 256 : Nat) : Int)] ++ (u8l l).drop (o + 4) := by
    simp [u8l, List.map_take, List.map_drop]
  rw [e]
  exact q1
/-- the state at the end of a text. -/
def shaH (t : List Int) : List Nat := stN (t ++ padS t.length) ((t ++ padS t.length).length / 64)
theorem shaH_ok (t : List Int) : HOk (shaH t) := stN_ok _ _
theorem sha_end (t : List Int) : shaS t = outS (shaH t) := by
  unfold shaS shaH
  rw [List.length_append, padS_len, Nat.add_assoc]
theorem rep_drop (n k : Nat) (x : Int) : (List.replicate n x).drop k = List.replicate (n - k) x := by simp
theorem tail1 {n x : Nat} (h : pad0 n < 64) : ((128 : Int) :: List.replicate 71 0).take (0 + (pad0 n + 1)) ++ [(((x) / 16777216 % 256 : Nat) : Int), (((x) / 65536 % 256 : Nat) : Int), (((x) / 256 % 256 : Nat) : Int), (((x) % 256 : Nat) : Int)] ++ ((128 : Int) :: List.replicate 71 0).drop (0 + (pad0 n + 1) + 4) = (128 : Int) :: List.replicate (pad0 n) 0 ++ [(((x) / 16777216 % 256 : Nat) : Int), (((x) / 65536 % 256 : Nat) : Int), (((x) / 256 % 256 : Nat) : Int), (((x) % 256 : Nat) : Int)] ++ List.replicate (71 - pad0 n - 4) 0 := by
  rw [Nat.zero_add, show pad0 n + 1 + 4 = (pad0 n + 4) + 1 by omega, List.take_succ_cons, List.drop_succ_cons, List.take_replicate, rep_drop, Nat.min_eq_left (by omega)]
  congr 2
  all_goals omega
theorem tail2 {n x y : Nat} (h : pad0 n < 64) : ((128 : Int) :: List.replicate (pad0 n) 0 ++ [(((x) / 16777216 % 256 : Nat) : Int), (((x) / 65536 % 256 : Nat) : Int), (((x) / 256 % 256 : Nat) : Int), (((x) % 256 : Nat) : Int)] ++ List.replicate (71 - pad0 n - 4) 0).take (0 + (pad0 n + 5)) ++ [(((y) / 16777216 % 256 : Nat) : Int), (((y) / 65536 % 256 : Nat) : Int), (((y) / 256 % 256 : Nat) : Int), (((y) % 256 : Nat) : Int)] ++ ((128 : Int) :: List.replicate (pad0 n) 0 ++ [(((x) / 16777216 % 256 : Nat) : Int), (((x) / 65536 % 256 : Nat) : Int), (((x) / 256 % 256 : Nat) : Int), (((x) % 256 : Nat) : Int)] ++ List.replicate (71 - pad0 n - 4) 0).drop (0 + (pad0 n + 5) + 4) = (128 : Int) :: List.replicate (pad0 n) 0 ++ [(((x) / 16777216 % 256 : Nat) : Int), (((x) / 65536 % 256 : Nat) : Int), (((x) / 256 % 256 : Nat) : Int), (((x) % 256 : Nat) : Int)] ++ [(((y) / 16777216 % 256 : Nat) : Int), (((y) / 65536 % 256 : Nat) : Int), (((y) / 256 % 256 : Nat) : Int), (((y) % 256 : Nat) : Int)] ++ List.replicate (71 - pad0 n - 8) 0 := by
  have hl : ((128 : Int) :: List.replicate (pad0 n) 0 ++ [(((x) / 16777216 % 256 : Nat) : Int), (((x) / 65536 % 256 : Nat) : Int), (((x) / 256 % 256 : Nat) : Int), (((x) % 256 : Nat) : Int)]).length = pad0 n + 5 := by simp
  rw [Nat.zero_add, List.take_append_of_le_length (by omega), List.take_of_length_le (by omega), List.drop_append, List.drop_of_length_le (by omega), hl, List.nil_append, rep_drop]
  congr 2
  all_goals omega
theorem padS_eq (n : Nat) : padS n = (128 : Int) :: List.replicate (pad0 n) 0 ++ [(((n * 8 % 18446744073709551616 / 4294967296) / 16777216 % 256 : Nat) : Int), (((n * 8 % 18446744073709551616 / 4294967296) / 65536 % 256 : Nat) : Int), (((n * 8 % 18446744073709551616 / 4294967296) / 256 % 256 : Nat) : Int), (((n * 8 % 18446744073709551616 / 4294967296) % 256 : Nat) : Int)] ++ [(((n * 8 % 18446744073709551616 % 4294967296) / 16777216 % 256 : Nat) : Int), (((n * 8 % 18446744073709551616 % 4294967296) / 65536 % 256 : Nat) : Int), (((n * 8 % 18446744073709551616 % 4294967296) / 256 % 256 : Nat) : Int), (((n * 8 % 18446744073709551616 % 4294967296) % 256 : Nat) : Int)] := by
  unfold padS
  rw [List.cons_append, List.cons_append, List.append_assoc]
  congr 2
  obtain ⟨q, hq⟩ : ∃ q, n * 8 % 18446744073709551616 = q := ⟨_, rfl⟩
  rw [hq]
  have hr : List.range 8 = [0, 1, 2, 3, 4, 5, 6, 7] := by decide
  rw [hr]
  simp only [List.map_cons, List.map_nil, List.cons_append, List.nil_append, Nat.mul_zero, Nat.sub_zero, Nat.reduceMul, Nat.reduceSub, Nat.reducePow, Nat.pow_zero, Nat.div_one]
  congr 1
  · omega
  congr 1
  · omega
  congr 1
  · omega
  congr 1
  congr 1
  · omega
  congr 1
  · omega
  congr 1
  · omega
  congr 1
  omega
theorem tail_sl {X : World} {g n : Nat} (h : pad0 n < 64) (hB : Blk X g 111 (u8l ((128 : Int) :: List.replicate (pad0 n) 0 ++ [(((n * 8 % 18446744073709551616 / 4294967296) / 16777216 % 256 : Nat) : Int), (((n * 8 % 18446744073709551616 / 4294967296) / 65536 % 256 : Nat) : Int), (((n * 8 % 18446744073709551616 / 4294967296) / 256 % 256 : Nat) : Int), (((n * 8 % 18446744073709551616 / 4294967296) % 256 : Nat) : Int)] ++ [(((n * 8 % 18446744073709551616 % 4294967296) / 16777216 % 256 : Nat) : Int), (((n * 8 % 18446744073709551616 % 4294967296) / 65536 % 256 : Nat) : Int), (((n * 8 % 18446744073709551616 % 4294967296) / 256 % 256 : Nat) : Int), (((n * 8 % 18446744073709551616 % 4294967296) % 256 : Nat) : Int)] ++ List.replicate (71 - pad0 n - 8) 0)).toArray) : Sl X (some ⟨g, 0, none⟩) (pad0 n + 9) 72 (padS n) := by
  rw [← padS_eq] at hB
  have hl := padS_len n
  refine ⟨⟨hl, by unfold maxLen; omega, fun x hx => ?_, fun j hj => ⟨g, 0, rfl, ?_⟩⟩, by omega, by omega, fun _ p hp => by cases hp; rfl⟩
  · simp only [padS, List.mem_cons, List.mem_append, List.mem_replicate, List.mem_map] at hx
    rcases hx with rfl | ⟨_, rfl⟩ | ⟨i, _, rfl⟩ <;> omega
  · rw [hB.cell, Nat.zero_add, List.getElem?_toArray]
    unfold u8l
    have hx : j < (padS n).length := by omega
    rw [List.map_append, List.getElem?_append_left (by simp; omega), List.getElem?_map, List.getElem?_eq_getElem hx, List.getD, List.getElem?_eq_getElem hx]
    rfl
theorem out_step {H : List Nat} {k : Nat} (hk : k < 8) : ((outS H).take (4 * k) ++ List.replicate (32 - 4 * k) 0).take (0 + 4 * k) ++ [(((H.getD k 0) / 16777216 % 256 : Nat) : Int), (((H.getD k 0) / 65536 % 256 : Nat) : Int), (((H.getD k 0) / 256 % 256 : Nat) : Int), (((H.getD k 0) % 256 : Nat) : Int)] ++ ((outS H).take (4 * k) ++ List.replicate (32 - 4 * k) (0 : Int)).drop (0 + 4 * k + 4) = (outS H).take (4 * (k + 1)) ++ List.replicate (32 - 4 * (k + 1)) 0 := by
  have hl : ((outS H).take (4 * k)).length = 4 * k := by rw [List.length_take, outS_len]; omega
  rw [Nat.zero_add, List.take_append_of_le_length (by omega), List.take_of_length_le (by omega), List.drop_append, List.drop_of_length_le (by omega), hl, List.nil_append, rep_drop]
  congr 1
  · apply List.ext_getElem?
    intro j
    rcases Nat.lt_or_ge j (4 * k) with hj | hj
    · rw [List.getElem?_append_left (by omega), List.getElem?_take, if_pos hj, List.getElem?_take, if_pos (by omega)]
    · rw [List.getElem?_append_right (by omega), hl]
      rcases Nat.lt_or_ge j (4 * (k + 1)) with hj2 | hj2
      · rw [List.getElem?_take, if_pos hj2]
        unfold outS
        rw [List.getElem?_map, List.getElem?_range (by omega)]
        have : j = 4 * k ∨ j = 4 * k + 1 ∨ j = 4 * k + 2 ∨ j = 4 * k + 3 := by omega
        rcases this with rfl | rfl | rfl | rfl
        · simp only [Nat.sub_self, List.getElem?_cons_zero, Option.map_some, show 4 * k / 4 = k by omega, show 4 * k % 4 = 0 by omega]; try rfl
        · simp only [show 4 * k + 1 - 4 * k = 1 by omega, List.getElem?_cons_succ, List.getElem?_cons_zero, Option.map_some, show (4 * k + 1) / 4 = k by omega, show (4 * k + 1) % 4 = 1 by omega]; try rfl
        · simp only [show 4 * k + 2 - 4 * k = 2 by omega, List.getElem?_cons_succ, List.getElem?_cons_zero, Option.map_some, show (4 * k + 2) / 4 = k by omega, show (4 * k + 2) % 4 = 2 by omega]; try rfl
        · simp only [show 4 * k + 3 - 4 * k = 3 by omega, List.getElem?_cons_succ, List.getElem?_cons_zero, Option.map_some, show (4 * k + 3) / 4 = k by omega, show (4 * k + 3) % 4 = 3 by omega]; try simp
      · rw [List.getElem?_eq_none (by simp; omega), List.getElem?_eq_none (by simp [outS_len]; omega)]
  · congr 1
    omega
attribute [local irreducible] wpList
set_option maxHeartbeats 4000000 in
/-- (d *digest) write. -/
theorem write_any (w : World) (b : Nat) (t : List Int) (a : Option Addr) (ln lc : Nat) (L : List (List Int)) (h : Dig w b t) (hs : ∀ X, w.grownBy X (some b) → PSl X a ln L) (hne : 0 < ln → ∀ p : Addr, a = some p → p.block ≠ b) (hln : ln ≤ 4611686018427387904) (hT : TabK w) (hb : 3 < b) :
    Calls Tryd.prog 49 #[.pointer (some ⟨b, 0, none⟩), .slice a ln lc] w fun e w' => e = .returned (.tuple #[]) ∧ Dig w' b (t ++ L.flatten) ∧ w.grownBy w' (some b) := by
  have HD := Lib.hid h
  have HS := Lib.hid hs
  have HNE := Lib.hid hne
  have HT := Lib.hid hT
  have HB := Lib.hid hb
  have LN := Lib.hid hln
  have LE : Hid (L.length = ln) := Lib.hid (hs w (gb_refl _ _)).1
  have LL : Hid (ln ≤ maxLen) := Lib.hid (hs w (gb_refl _ _)).2.1
  clear h hs hne hT hb hln
  go_enter Tryd.func49, Tryd.ntmps49
  go_upto_region 0 with (fail)
  refine wp_region_lit ?_
  refine wpL_pure (.slice a ln lc) rfl (by kernel_rfl) ?_
  simp only [Act.put, List.setIfInBounds_toArray, List.set_cons_zero, List.set_cons_succ]
  refine wpL_pure (.int .i64 (ln : Int)) rfl (by kernel_rfl) ?_
  simp only [Act.put, List.setIfInBounds_toArray, List.set_cons_zero, List.set_cons_succ]
  refine wpL_pure (.int .i64 0) rfl (by kernel_rfl) ?_
  simp only [Act.put, List.setIfInBounds_toArray, List.set_cons_zero, List.set_cons_succ]
  go_wp2_with fail
  go_loopw [8] (fun s8 wr => ∃ k : Nat, s8 = .int .i64 (k : Int) ∧ Hid (k ≤ ln ∧ Dig wr b (t ++ (L.take k).flatten) ∧ w.grownBy wr (some b))) (fun s8 _ => ln - (intOf s8).toNat)
  case atStart => exact ⟨0, rfl, Lib.hid ⟨by omega, by simpa using HD.out, gb_refl _ _⟩⟩
  case round =>
    obtain ⟨k, rfl, RI⟩ := hrel
    by_cases hlt : k < ln
    · have HK := Lib.hid hlt
      clear hlt
      obtain ⟨g, o, pa, pn, pc, ea, hc, hsl, hn⟩ := (HS.out wr RI.out.2.2).2.2 k HK.out
      have AE := Lib.hid ea
      have C0 := Lib.hid hc
      have PN := Lib.hid hn
      have PS := Lib.hid (parts_stay HS.out (HNE.out (by have := HK.out; omega)) RI.out.2.2 HK.out ea hc)
      clear ea hc hsl hn
      go_upto_region 1 with (fail)
      refine wp_region_lit ?_
      refine wpL_pure (.bool true) rfl (run_lti Tryd.underlying3 rfl rfl rfl (by have := HK.out; rw [decide_eq_true_eq]; omega)) ?_
      simp only [Act.put, List.setIfInBounds_toArray, List.set_cons_zero, List.set_cons_succ]
      go_upto_region 2 with (fail)
      refine wp_region_lit ?_
      refine wpL_pure (.pointer (some ⟨g, o + k, none⟩)) rfl (run_idx35 _ _ _ _ _ g o ln lc k rfl (by rw [AE.out]; rfl) rfl HK.out LL.out) ?_
      simp only [Act.put, List.setIfInBounds_toArray, List.set_cons_zero, List.set_cons_succ]
      refine wpL_pure (.slice pa pn pc) rfl (run_load_one _ _ _ 32 _ _ rfl (g) (o + k) rfl (C0.out) (by kernel_rfl)) ?_
      simp only [Act.put, List.setIfInBounds_toArray, List.set_cons_zero, List.set_cons_succ]
      refine wpL_pure (.slice pa pn pc) rfl (by kernel_rfl) ?_
      simp only [Act.put, List.setIfInBounds_toArray, List.set_cons_zero, List.set_cons_succ]
      go_upto_region 3 with (fail)
      refine wp_region_lit ?_
      refine wpL_pure (.pointer (some ⟨b, 0, none⟩)) rfl (by kernel_rfl) ?_
      simp only [Act.put, List.setIfInBounds_toArray, List.set_cons_zero, List.set_cons_succ]
      refine wpL_pure (.slice pa pn pc) rfl (by kernel_rfl) ?_
      simp only [Act.put, List.setIfInBounds_toArray, List.set_cons_zero, List.set_cons_succ]
      refine wpL_call 56 #[.pointer (some ⟨b, 0, none⟩), .slice pa pn pc] rfl (by kernel_rfl) (((part_any wr b (t ++ (L.take k).flatten) (L.getD k []) pa pn pc RI.out.2.1 PS.out PN.out (HT.out.grown RI.out.2.2 (by have := HB.out; simp; omega)) HB.out)).mono fun e w4 ⟨he, q1, q2⟩ => ⟨.tuple #[], he, ?_⟩)
      simp only [Act.put, List.setIfInBounds_toArray, List.set_cons_zero, List.set_cons_succ]
      have NX : Hid (k + 1 ≤ ln ∧ Dig w4 b (t ++ (L.take (k + 1)).flatten) ∧ w.grownBy w4 (some b)) := Lib.hid ⟨HK.out, by rw [← flat_take_succ LE.out HK.out, ← List.append_assoc]; exact q1, gb_trans RI.out.2.2 q2⟩
      clear q1 q2
      go_upto_region 4 with (fail)
      refine wp_region_lit ?_
      refine wpL_pure (.int .i64 ((k + 1 : Nat) : Int)) rfl (run_addi Tryd.underlying3 rfl rfl rfl _ (by have := HK.out; have := LL.out; unfold maxLen at this; have := LN.out; rw [wrap_in _ (by omega) (by omega)]; omega)) ?_
      simp only [Act.put, List.setIfInBounds_toArray, List.set_cons_zero, List.set_cons_succ]
      refine wpL_pure (.int .i64 ((k + 1 : Nat) : Int)) rfl (by kernel_rfl) ?_
      simp only [Act.put, List.setIfInBounds_toArray, List.set_cons_zero, List.set_cons_succ]
      unfold wpList
      go_roundw
      case rel => first | exact ⟨_, rfl, NX⟩ | ((repeat apply Exists.intro); exact ⟨⟨_, rfl, NX⟩, rfl⟩)
      case measure => simp [intOf]; have := HK.out; omega
    · have HK := Lib.hid hlt
      have EK : Hid (k = ln) := Lib.hid (by have := RI.out.1; omega)
      clear hlt
      go_upto_region 1 with (fail)
      refine wp_region_lit ?_
      refine wpL_pure (.bool false) rfl (run_lti Tryd.underlying3 rfl rfl rfl (by have := HK.out; rw [decide_eq_false_iff_not]; omega)) ?_
      simp only [Act.put, List.setIfInBounds_toArray, List.set_cons_zero, List.set_cons_succ]
      go_wp2_with fail
      go_end0
      exact ⟨rfl, by have h := RI.out.2.1; rw [EK.out, List.take_of_length_le (by rw [LE.out]; omega)] at h; exact h, RI.out.2.2⟩
set_option maxHeartbeats 8000000 in
set_option maxRecDepth 100000 in
/-- (d *digest) end. -/
theorem dend_any (w : World) (b : Nat) (t : List Int) (h : Dig w b t) (hT : TabK w) (hb : 3 < b) :
    Calls Tryd.prog 50 #[.pointer (some ⟨b, 0, none⟩)] w fun e w' => e = .returned (.agg (u8l (shaS t)).toArray) ∧ w.grownBy w' (some b) := by
  obtain ⟨R, hM, hR⟩ := h
  have HR := Lib.hid hR
  have HT := Lib.hid hT
  have HB := Lib.hid hb
  have HBL : Hid (b < w.heap.size) := Lib.hid hM.1.lt
  have HH8 := Lib.hid (shaH_ok t)
  clear hR hT hb
  go_enter Tryd.func50, Tryd.ntmps50
  go_upto_region 1 with (fail)
  have Z2 := Blk.new w 23 (u8l (List.replicate 32 0)).toArray
  have A0 := gb_alloc (gb_refl w (some b)) (.cells (u8l (List.replicate 32 0)).toArray 23)
  have M0a := hM.below ((Below.refl w.heap.size w).alloc (Nat.le_refl _) (.cells (u8l (List.replicate 32 0)).toArray 23))
  have SZ : w.heap.size < (w.alloc (.cells (u8l (List.replicate 32 0)).toArray 23)).heap.size := by simp
  obtain ⟨w1, hw1⟩ : ∃ V, V = w.alloc (.cells (u8l (List.replicate 32 0)).toArray 23) := ⟨_, rfl⟩
  rw [← hw1] at Z2 A0 M0a SZ
  try rw [show w.alloc (.cells #[.int .u8 0, .int .u8 0, .int .u8 0, .int .u8 0, .int .u8 0, .int .u8 0, .int .u8 0, .int .u8 0, .int .u8 0, .int .u8 0, .int .u8 0, .int .u8 0, .int .u8 0, .int .u8 0, .int .u8 0, .int .u8 0, .int .u8 0, .int .u8 0, .int .u8 0, .int .u8 0, .int .u8 0, .int .u8 0, .int .u8 0, .int .u8 0, .int .u8 0, .int .u8 0, .int .u8 0, .int .u8 0, .int .u8 0, .int .u8 0, .int .u8 0, .int .u8 0] 23) = w1 from hw1.symm]
  have M0 : Hid (Mid w1 b (stN t (t.length / 64)) R (t.length % 64) (t.length % 18446744073709551616) ∧ w.grownBy w1 (some b) ∧ Blk w1 w.heap.size 23 (u8l (List.replicate 32 0)).toArray ∧ w.heap.size < w1.heap.size) := Lib.hid ⟨M0a, A0, Z2, SZ⟩
  clear Z2 A0 M0a SZ hw1
  obtain ⟨g2, hg2⟩ : ∃ q, w.heap.size = q := ⟨_, rfl⟩
  have G2 : Hid (w.heap.size = g2) := Lib.hid hg2
  rw [hg2] at M0
  try rw [hg2]
  clear hg2
  refine wp_region_lit ?_
  refine wpL_pure (.pointer (some ⟨b, 0, none⟩)) rfl (by kernel_rfl) ?_
  simp only [Act.put, List.setIfInBounds_toArray, List.set_cons_zero, List.set_cons_succ]
  refine wpL_pure (.pointer (some ⟨b, 0, none⟩)) rfl (by kernel_rfl) ?_
  simp only [Act.put, List.setIfInBounds_toArray, List.set_cons_zero, List.set_cons_succ]
  refine wpL_pure (.pointer (some ⟨b, 73, none⟩)) rfl (by kernel_rfl) ?_
  simp only [Act.put, List.setIfInBounds_toArray, List.set_cons_zero, List.set_cons_succ]
  refine wpL_pure (.int .u64 (t.length % 18446744073709551616 : Nat)) rfl (run_load_one _ _ _ 31 _ _ rfl (b) (73) rfl (M0.out.1.total) (by kernel_rfl)) ?_
  simp only [Act.put, List.setIfInBounds_toArray, List.set_cons_zero, List.set_cons_succ]
  refine wpL_pure (.int .u64 (t.length * 8 % 18446744073709551616 : Nat)) rfl (run_muli Tryd.underlying31 rfl rfl rfl _ (by rw [IntKind.wrap_u64]; omega)) ?_
  simp only [Act.put, List.setIfInBounds_toArray, List.set_cons_zero, List.set_cons_succ]
  refine wpL_pure (.int .u64 (t.length * 8 % 18446744073709551616 : Nat)) rfl (by kernel_rfl) ?_
  simp only [Act.put, List.setIfInBounds_toArray, List.set_cons_zero, List.set_cons_succ]
  obtain ⟨w2, hw2⟩ : ∃ V, V = w1.alloc (.cells (u8l (List.replicate 72 0)).toArray 111) := ⟨_, rfl⟩
  have M2 : Hid (Mid w2 b (stN t (t.length / 64)) R (t.length % 64) (t.length % 18446744073709551616) ∧ w.grownBy w2 (some b) ∧ Blk w2 g2 23 (u8l (List.replicate 32 0)).toArray ∧ Blk w2 w1.heap.size 111 (u8l (List.replicate 72 0)).toArray) := Lib.hid (qq (by rw [hw2]; exact (Below.refl _ _).alloc (Nat.le_refl _) _ : Below w1.heap.size w1 w2) fun q => ⟨M0.out.1.below q, gb_trans M0.out.2.1 (gb_of q _), M0.out.2.2.1.below q, by rw [hw2]; exact Blk.new _ _ _⟩)
  go_upto_region 2 with (fail)
  refine wp_region_lit ?_
  refine wpL_value (.pointer (some ⟨w1.heap.size, 0, none⟩)) (w2) rfl (by rw [hw2]; kernel_rfl) ?_
  simp only [Act.put, List.setIfInBounds_toArray, List.set_cons_zero, List.set_cons_succ]
  clear hw2
  have G4 : Hid (g2 < w1.heap.size ∧ b < w1.heap.size) := Lib.hid ⟨by have := M0.out.2.2.1.lt; omega, M0.out.1.1.lt⟩
  clear M0
  generalize w1.heap.size = g4 at M2 G4 ⊢
  go_upto_region 3 with (fail)
  refine wp_region_lit ?_
  refine wpL_pure (.pointer (some ⟨g4, 0, none⟩)) rfl (by kernel_rfl) ?_
  simp only [Act.put, List.setIfInBounds_toArray, List.set_cons_zero, List.set_cons_succ]
  refine wpL_store_one rfl rfl (g4) (0) rfl (.int .u8 128) rfl rfl size5 (by rw [M2.out.2.2.2.cell]; rfl) (M2.out.2.2.2.free _) ?_
  simp only [Act.put, List.setIfInBounds_toArray, List.set_cons_zero, List.set_cons_succ]
  obtain ⟨w3, hw3⟩ : ∃ V, V = w2.setCell ⟨g4, 0, none⟩ (.int .u8 128) := ⟨_, rfl⟩
  rw [← hw3]
  have M3 : Hid (Mid w3 b (stN t (t.length / 64)) R (t.length % 64) (t.length % 18446744073709551616) ∧ w.grownBy w3 (some b) ∧ Blk w3 g2 23 (u8l (List.replicate 32 0)).toArray ∧ Blk w3 g4 111 (u8l ((128 : Int) :: List.replicate 71 0)).toArray) := Lib.hid (by rw [hw3]; exact ⟨⟨M2.out.1.1.other _ _ (by have := G4.out; simp; omega), M2.out.1.2⟩, gb_set_new M2.out.2.1 _ (by have := G4.out; have := G2.out; simp; omega) _, M2.out.2.2.1.other _ _ (by have := G4.out; simp; omega), Blk.set (l := u8l (List.replicate 72 0)) M2.out.2.2.2 0 _⟩)
  clear hw3 M2
  go_upto_region 4 with (fail)
  refine wp_region_lit ?_
  refine wpL_pure (.pointer (some ⟨b, 0, none⟩)) rfl (by kernel_rfl) ?_
  simp only [Act.put, List.setIfInBounds_toArray, List.set_cons_zero, List.set_cons_succ]
  refine wpL_pure (.pointer (some ⟨b, 0, none⟩)) rfl (by kernel_rfl) ?_
  simp only [Act.put, List.setIfInBounds_toArray, List.set_cons_zero, List.set_cons_succ]
  refine wpL_pure (.pointer (some ⟨b, 72, none⟩)) rfl (by kernel_rfl) ?_
  simp only [Act.put, List.setIfInBounds_toArray, List.set_cons_zero, List.set_cons_succ]
  refine wpL_pure (.int .i64 ((t.length % 64 : Nat) : Int)) rfl (run_load_one _ _ _ 3 _ _ rfl (b) (72) rfl (M3.out.1.held) (by kernel_rfl)) ?_
  simp only [Act.put, List.setIfInBounds_toArray, List.set_cons_zero, List.set_cons_succ]
  refine wpL_pure (.int .i64 ((119 - t.length % 64 : Nat) : Int)) rfl (run_subi Tryd.underlying3 rfl rfl rfl _ (by rw [wrap_in _ (by omega) (by omega)]; omega)) ?_
  simp only [Act.put, List.setIfInBounds_toArray, List.set_cons_zero, List.set_cons_succ]
  refine wpL_pure (.int .i64 ((pad0 t.length : Nat) : Int)) rfl (run_rem64 _ _ _ _ (119 - t.length % 64) rfl rfl) ?_
  simp only [Act.put, List.setIfInBounds_toArray, List.set_cons_zero, List.set_cons_succ]
  refine wpL_pure (.int .i64 ((pad0 t.length : Nat) : Int)) rfl (by kernel_rfl) ?_
  simp only [Act.put, List.setIfInBounds_toArray, List.set_cons_zero, List.set_cons_succ]
  have NZ : Hid (pad0 t.length < 64) := Lib.hid (by unfold pad0; omega)
  go_upto_region 5 with (fail)
  refine wp_region_lit ?_
  refine wpL_pure (.int .i64 ((pad0 t.length : Nat) : Int)) rfl (by kernel_rfl) ?_
  simp only [Act.put, List.setIfInBounds_toArray, List.set_cons_zero, List.set_cons_succ]
  refine wpL_pure (.int .i64 ((pad0 t.length + 1 : Nat) : Int)) rfl (run_addi Tryd.underlying3 rfl rfl rfl _ (by have := NZ.out; rw [wrap_in _ (by omega) (by omega)]; omega)) ?_
  simp only [Act.put, List.setIfInBounds_toArray, List.set_cons_zero, List.set_cons_succ]
  refine wpL_pure (.slice (some ⟨g4, 0 + (pad0 t.length + 1), none⟩) (72 - (pad0 t.length + 1)) (72 - (pad0 t.length + 1))) rfl (run_slarr 111 72 (by simp) _ _ _ _ _ g4 0 (pad0 t.length + 1) rfl rfl rfl (by have := NZ.out; omega)) ?_
  simp only [Act.put, List.setIfInBounds_toArray, List.set_cons_zero, List.set_cons_succ]
  refine wpL_pure (.int .u64 (t.length * 8 % 18446744073709551616 : Nat)) rfl (by kernel_rfl) ?_
  simp only [Act.put, List.setIfInBounds_toArray, List.set_cons_zero, List.set_cons_succ]
  refine wpL_pure (.int .u64 (((t.length * 8 % 18446744073709551616) / 4294967296 : Nat) : Int)) rfl (run_shr47 _ _ _ _ _ rfl rfl) ?_
  simp only [Act.put, List.setIfInBounds_toArray, List.set_cons_zero, List.set_cons_succ]
  refine wpL_pure (.int .u32 (((t.length * 8 % 18446744073709551616) / 4294967296 : Nat) : Int)) rfl (run_convi Tryd.underlying31 Tryd.underlying94 rfl rfl _ (by rw [IntKind.wrap_u32]; omega)) ?_
  simp only [Act.put, List.setIfInBounds_toArray, List.set_cons_zero, List.set_cons_succ]
  refine wpL_call 57 #[.slice (some ⟨g4, 0 + (pad0 t.length + 1), none⟩) (72 - (pad0 t.length + 1)) (72 - (pad0 t.length + 1)), .int .u32 (((t.length * 8 % 18446744073709551616) / 4294967296 : Nat) : Int)] rfl (by kernel_rfl) (((put_sp w3 g4 111 (0 + (pad0 t.length + 1)) (72 - (pad0 t.length + 1)) (72 - (pad0 t.length + 1)) ((t.length * 8 % 18446744073709551616) / 4294967296) _ M3.out.2.2.2 (by simp [u8l]; have := NZ.out; omega) (by have := NZ.out; unfold maxLen; omega) (by omega))).mono fun e w4 ⟨he, q1, q2⟩ => ⟨.tuple #[], he, ?_⟩)
  simp only [Act.put, List.setIfInBounds_toArray, List.set_cons_zero, List.set_cons_succ]
  have M4 : Hid (Mid w4 b (stN t (t.length / 64)) R (t.length % 64) (t.length % 18446744073709551616) ∧ w.grownBy w4 (some b) ∧ Blk w4 g2 23 (u8l (List.replicate 32 0)).toArray ∧ Blk w4 g4 111 (u8l ((128 : Int) :: List.replicate (pad0 t.length) 0 ++ [((((t.length * 8 % 18446744073709551616) / 4294967296) / 16777216 % 256 : Nat) : Int), ((((t.length * 8 % 18446744073709551616) / 4294967296) / 65536 % 256 : Nat) : Int), ((((t.length * 8 % 18446744073709551616) / 4294967296) / 256 % 256 : Nat) : Int), ((((t.length * 8 % 18446744073709551616) / 4294967296) % 256 : Nat) : Int)] ++ List.replicate (71 - pad0 t.length - 4) 0)).toArray) := Lib.hid ⟨⟨M3.out.1.1.grown q2 (by have := G4.out; simp; omega), M3.out.1.2⟩, gb_new M3.out.2.1 q2 (by have := G4.out; have := G2.out; omega), M3.out.2.2.1.grown q2 (by have := G4.out; simp; omega), by rw [← tail1 NZ.out]; exact q1⟩
  clear q1 q2 M3
  go_upto_region 6 with (fail)
  refine wp_region_lit ?_
  refine wpL_pure (.int .i64 ((pad0 t.length : Nat) : Int)) rfl (by kernel_rfl) ?_
  simp only [Act.put, List.setIfInBounds_toArray, List.set_cons_zero, List.set_cons_succ]
  refine wpL_pure (.int .i64 ((pad0 t.length + 5 : Nat) : Int)) rfl (run_addi Tryd.underlying3 rfl rfl rfl _ (by have := NZ.out; rw [wrap_in _ (by omega) (by omega)]; omega)) ?_
  simp only [Act.put, List.setIfInBounds_toArray, List.set_cons_zero, List.set_cons_succ]
  refine wpL_pure (.slice (some ⟨g4, 0 + (pad0 t.length + 5), none⟩) (72 - (pad0 t.length + 5)) (72 - (pad0 t.length + 5))) rfl (run_slarr 111 72 (by simp) _ _ _ _ _ g4 0 (pad0 t.length + 5) rfl rfl rfl (by have := NZ.out; omega)) ?_
  simp only [Act.put, List.setIfInBounds_toArray, List.set_cons_zero, List.set_cons_succ]
  refine wpL_pure (.int .u64 (t.length * 8 % 18446744073709551616 : Nat)) rfl (by kernel_rfl) ?_
  simp only [Act.put, List.setIfInBounds_toArray, List.set_cons_zero, List.set_cons_succ]
  refine wpL_pure (.int .u32 (((t.length * 8 % 18446744073709551616) % 4294967296 : Nat) : Int)) rfl (run_convi Tryd.underlying31 Tryd.underlying94 rfl rfl _ (by rw [IntKind.wrap_u32]; omega)) ?_
  simp only [Act.put, List.setIfInBounds_toArray, List.set_cons_zero, List.set_cons_succ]
  refine wpL_call 57 #[.slice (some ⟨g4, 0 + (pad0 t.length + 5), none⟩) (72 - (pad0 t.length + 5)) (72 - (pad0 t.length + 5)), .int .u32 (((t.length * 8 % 18446744073709551616) % 4294967296 : Nat) : Int)] rfl (by kernel_rfl) (((put_sp w4 g4 111 (0 + (pad0 t.length + 5)) (72 - (pad0 t.length + 5)) (72 - (pad0 t.length + 5)) ((t.length * 8 % 18446744073709551616) % 4294967296) _ M4.out.2.2.2 (by simp [u8l]; have := NZ.out; omega) (by have := NZ.out; unfold maxLen; omega) (by omega))).mono fun e w5 ⟨he, q1, q2⟩ => ⟨.tuple #[], he, ?_⟩)
  simp only [Act.put, List.setIfInBounds_toArray, List.set_cons_zero, List.set_cons_succ]
  have M5 : Hid (Mid w5 b (stN t (t.length / 64)) R (t.length % 64) (t.length % 18446744073709551616) ∧ w.grownBy w5 (some b) ∧ Blk w5 g2 23 (u8l (List.replicate 32 0)).toArray ∧ Blk w5 g4 111 (u8l ((128 : Int) :: List.replicate (pad0 t.length) 0 ++ [((((t.length * 8 % 18446744073709551616) / 4294967296) / 16777216 % 256 : Nat) : Int), ((((t.length * 8 % 18446744073709551616) / 4294967296) / 65536 % 256 : Nat) : Int), ((((t.length * 8 % 18446744073709551616) / 4294967296) / 256 % 256 : Nat) : Int), ((((t.length * 8 % 18446744073709551616) / 4294967296) % 256 : Nat) : Int)] ++ [((((t.length * 8 % 18446744073709551616) % 4294967296) / 16777216 % 256 : Nat) : Int), ((((t.length * 8 % 18446744073709551616) % 4294967296) / 65536 % 256 : Nat) : Int), ((((t.length * 8 % 18446744073709551616) % 4294967296) / 256 % 256 : Nat) : Int), ((((t.length * 8 % 18446744073709551616) % 4294967296) % 256 : Nat) : Int)] ++ List.replicate (71 - pad0 t.length - 8) 0)).toArray) := Lib.hid ⟨⟨M4.out.1.1.grown q2 (by have := G4.out; simp; omega), M4.out.1.2⟩, gb_new M4.out.2.1 q2 (by have := G4.out; have := G2.out; omega), M4.out.2.2.1.grown q2 (by have := G4.out; simp; omega), by rw [← tail2 NZ.out]; exact q1⟩
  clear q1 q2 M4
  go_upto_region 7 with (fail)
  refine wp_region_lit ?_
  refine wpL_pure (.pointer (some ⟨b, 0, none⟩)) rfl (by kernel_rfl) ?_
  simp only [Act.put, List.setIfInBounds_toArray, List.set_cons_zero, List.set_cons_succ]
  refine wpL_pure (.int .i64 ((pad0 t.length : Nat) : Int)) rfl (by kernel_rfl) ?_
  simp only [Act.put, List.setIfInBounds_toArray, List.set_cons_zero, List.set_cons_succ]
  refine wpL_pure (.int .i64 ((pad0 t.length + 9 : Nat) : Int)) rfl (run_addi Tryd.underlying3 rfl rfl rfl _ (by have := NZ.out; rw [wrap_in _ (by omega) (by omega)]; omega)) ?_
  simp only [Act.put, List.setIfInBounds_toArray, List.set_cons_zero, List.set_cons_succ]
  refine wpL_pure (.slice (some ⟨g4, 0, none⟩) (pad0 t.length + 9) 72) rfl (run_slto60 _ _ _ _ _ g4 (pad0 t.length + 9) rfl rfl rfl (by have := NZ.out; omega)) ?_
  simp only [Act.put, List.setIfInBounds_toArray, List.set_cons_zero, List.set_cons_succ]
  refine wpL_call 56 #[.pointer (some ⟨b, 0, none⟩), .slice (some ⟨g4, 0, none⟩) (pad0 t.length + 9) 72] rfl (by kernel_rfl) (((part_any w5 b t (padS t.length) (some ⟨g4, 0, none⟩) (pad0 t.length + 9) 72 ⟨R, M5.out.1, HR.out⟩ (fun X hX => tail_sl NZ.out (M5.out.2.2.2.grown hX (by have := G4.out; simp; omega))) (by have := NZ.out; omega) (HT.out.grown M5.out.2.1 (by have := HB.out; simp; omega)) HB.out)).mono fun e w6 ⟨he, q1, q2⟩ => ⟨.tuple #[], he, ?_⟩)
  simp only [Act.put, List.setIfInBounds_toArray, List.set_cons_zero, List.set_cons_succ]
  obtain ⟨R6, m6, _, _⟩ := q1
  have M6 : Hid (Mid w6 b (shaH t) R6 ((t ++ padS t.length).length % 64) ((t ++ padS t.length).length % 18446744073709551616) ∧ w.grownBy w6 (some b) ∧ Blk w6 g2 23 (u8l (List.replicate 32 0)).toArray) := Lib.hid ⟨by unfold shaH; exact m6, gb_trans M5.out.2.1 q2, M5.out.2.2.1.grown q2 (by have := M5.out.1.1.lt; have := G2.out; have := HBL.out; simp; omega)⟩
  clear m6 q2 M5
  obtain ⟨w7, hw7⟩ : ∃ V, V = w6.alloc (.cells (u8l (List.replicate 32 0)).toArray 23) := ⟨_, rfl⟩
  have M7 : Hid (Mid w7 b (shaH t) R6 ((t ++ padS t.length).length % 64) ((t ++ padS t.length).length % 18446744073709551616) ∧ w.grownBy w7 (some b) ∧ Blk w7 g2 23 (u8l (List.replicate 32 0)).toArray ∧ Blk w7 w6.heap.size 23 (u8l (List.replicate 32 0)).toArray ∧ g2 < w6.heap.size) := Lib.hid (qq (by rw [hw7]; exact (Below.refl _ _).alloc (Nat.le_refl _) _ : Below w6.heap.size w6 w7) fun q => ⟨M6.out.1.below q, gb_trans M6.out.2.1 (gb_of q _), M6.out.2.2.below q, by rw [hw7]; exact Blk.new _ _ _, M6.out.2.2.lt⟩)
  go_upto_region 8 with (fail)
  refine wp_region_lit ?_
  refine wpL_value (.pointer (some ⟨w6.heap.size, 0, none⟩)) (w7) rfl (by rw [hw7]; kernel_rfl) ?_
  simp only [Act.put, List.setIfInBounds_toArray, List.set_cons_zero, List.set_cons_succ]
  clear hw7 M6
  generalize w6.heap.size = g6 at M7 ⊢
  go_upto_region 9 with (fail)
  refine wp_region_lit ?_
  refine wpL_pure (.pointer (some ⟨b, 0, none⟩)) rfl (by kernel_rfl) ?_
  simp only [Act.put, List.setIfInBounds_toArray, List.set_cons_zero, List.set_cons_succ]
  refine wpL_pure (.pointer (some ⟨b, 0, none⟩)) rfl (by kernel_rfl) ?_
  simp only [Act.put, List.setIfInBounds_toArray, List.set_cons_zero, List.set_cons_succ]
  refine wpL_pure (.pointer (some ⟨b, 0, none⟩)) rfl (by kernel_rfl) ?_
  simp only [Act.put, List.setIfInBounds_toArray, List.set_cons_zero, List.set_cons_succ]
  refine wpL_load 95 _ rfl rfl b 0 rfl (u32l (shaH t)) _ M7.out.1.stateRange Tryd.underlying95 rfl (by rw [u32l_len, M7.out.1.2.1.1]; kernel_rfl) ?_
  simp only [Act.put, List.setIfInBounds_toArray, List.set_cons_zero, List.set_cons_succ]
  refine wpL_pure (.int .i64 0) rfl (by kernel_rfl) ?_
  simp only [Act.put, List.setIfInBounds_toArray, List.set_cons_zero, List.set_cons_succ]
  go_wp2_with fail
  go_loopw [43] (fun s43 wr => ∃ k : Nat, s43 = .int .i64 (k : Int) ∧ Hid (k ≤ 8 ∧ Blk wr g2 23 (u8l (List.replicate 32 0)).toArray ∧ Blk wr g6 23 (u8l ((outS (shaH t)).take (4 * k) ++ List.replicate (32 - 4 * k) 0)).toArray ∧ w.grownBy wr (some b))) (fun s43 _ => 8 - (intOf s43).toNat)
  case atStart => exact ⟨0, rfl, Lib.hid ⟨by omega, M7.out.2.2.1, by simpa using M7.out.2.2.2.1, M7.out.2.1⟩⟩
  case round =>
    obtain ⟨k, rfl, RI⟩ := hrel
    by_cases hlt : k < 8
    · have HK := Lib.hid hlt
      clear hlt
      go_upto_region 10 with (fail)
      refine wp_region_lit ?_
      refine wpL_pure (.bool true) rfl (run_lti Tryd.underlying3 rfl rfl rfl (by have := HK.out; rw [decide_eq_true_eq]; omega)) ?_
      simp only [Act.put, List.setIfInBounds_toArray, List.set_cons_zero, List.set_cons_succ]
      go_upto_region 11 with (fail)
      refine wp_region_lit ?_
      refine wpL_pure (.int .i64 (k : Int)) rfl (by kernel_rfl) ?_
      simp only [Act.put, List.setIfInBounds_toArray, List.set_cons_zero, List.set_cons_succ]
      refine wpL_pure (.int .u32 ((shaH t).getD k 0 : Nat)) rfl (run_index49 _ _ _ _ _ (shaH t) k rfl rfl rfl HH8.out HK.out) ?_
      simp only [Act.put, List.setIfInBounds_toArray, List.set_cons_zero, List.set_cons_succ]
      refine wpL_pure (.int .i64 (k : Int)) rfl (by kernel_rfl) ?_
      simp only [Act.put, List.setIfInBounds_toArray, List.set_cons_zero, List.set_cons_succ]
      refine wpL_pure (.int .u32 ((shaH t).getD k 0 : Nat)) rfl (by kernel_rfl) ?_
      simp only [Act.put, List.setIfInBounds_toArray, List.set_cons_zero, List.set_cons_succ]
      go_upto_region 12 with (fail)
      refine wp_region_lit ?_
      refine wpL_pure (.int .i64 (k : Int)) rfl (by kernel_rfl) ?_
      simp only [Act.put, List.setIfInBounds_toArray, List.set_cons_zero, List.set_cons_succ]
      refine wpL_pure (.int .i64 ((4 * k : Nat) : Int)) rfl (run_muli Tryd.underlying3 rfl rfl rfl _ (by have := HK.out; rw [wrap_in _ (by omega) (by omega)]; omega)) ?_
      simp only [Act.put, List.setIfInBounds_toArray, List.set_cons_zero, List.set_cons_succ]
      refine wpL_pure (.slice (some ⟨g6, 0 + 4 * k, none⟩) (32 - 4 * k) (32 - 4 * k)) rfl (run_slarr 23 32 (by simp) _ _ _ _ _ g6 0 (4 * k) rfl rfl rfl (by have := HK.out; omega)) ?_
      simp only [Act.put, List.setIfInBounds_toArray, List.set_cons_zero, List.set_cons_succ]
      refine wpL_pure (.int .u32 ((shaH t).getD k 0 : Nat)) rfl (by kernel_rfl) ?_
      simp only [Act.put, List.setIfInBounds_toArray, List.set_cons_zero, List.set_cons_succ]
      refine wpL_call 57 #[.slice (some ⟨g6, 0 + 4 * k, none⟩) (32 - 4 * k) (32 - 4 * k), .int .u32 ((shaH t).getD k 0 : Nat)] rfl (by kernel_rfl) (((put_sp wr g6 23 (0 + 4 * k) (32 - 4 * k) (32 - 4 * k) ((shaH t).getD k 0) _ RI.out.2.2.1 (by simp [u8l, outS_len]; have := HK.out; omega) (by have := HK.out; unfold maxLen; omega) (getD_lt HH8.out.2 k))).mono fun e w8 ⟨he, q1, q2⟩ => ⟨.tuple #[], he, ?_⟩)
      simp only [Act.put, List.setIfInBounds_toArray, List.set_cons_zero, List.set_cons_succ]
      have NX : Hid (k + 1 ≤ 8 ∧ Blk w8 g2 23 (u8l (List.replicate 32 0)).toArray ∧ Blk w8 g6 23 (u8l ((outS (shaH t)).take (4 * (k + 1)) ++ List.replicate (32 - 4 * (k + 1)) 0)).toArray ∧ w.grownBy w8 (some b)) := Lib.hid ⟨HK.out, RI.out.2.1.grown q2 (by have := M7.out.2.2.2.2; simp; omega), by rw [← out_step HK.out]; exact q1, gb_new RI.out.2.2.2 q2 (by have := M7.out.2.2.2.2; have := G2.out; omega)⟩
      clear q1 q2
      go_upto_region 13 with (fail)
      refine wp_region_lit ?_
      refine wpL_pure (.int .i64 ((k + 1 : Nat) : Int)) rfl (run_addi Tryd.underlying3 rfl rfl rfl _ (by have := HK.out; rw [wrap_in _ (by omega) (by omega)]; omega)) ?_
      simp only [Act.put, List.setIfInBounds_toArray, List.set_cons_zero, List.set_cons_succ]
      refine wpL_pure (.int .i64 ((k + 1 : Nat) : Int)) rfl (by kernel_rfl) ?_
      simp only [Act.put, List.setIfInBounds_toArray, List.set_cons_zero, List.set_cons_succ]
      unfold wpList
      go_roundw
      case rel => first | exact ⟨_, rfl, NX⟩ | ((repeat apply Exists.intro); exact ⟨⟨_, rfl, NX⟩, rfl⟩)
      case measure => simp [intOf]; have := HK.out; omega
    · have HK := Lib.hid hlt
      have EK : Hid (k = 8) := Lib.hid (by have := RI.out.1; omega)
      clear hlt
      have F8 : Hid (Blk wr g2 23 (u8l (List.replicate 32 0)).toArray ∧ Blk wr g6 23 (u8l (outS (shaH t))).toArray ∧ w.grownBy wr (some b)) := Lib.hid ⟨RI.out.2.1, by have h := RI.out.2.2.1; rw [EK.out, List.take_of_length_le (by rw [outS_len]; omega)] at h; simpa using h, RI.out.2.2.2⟩
      go_upto_region 10 with (fail)
      refine wp_region_lit ?_
      refine wpL_pure (.bool false) rfl (run_lti Tryd.underlying3 rfl rfl rfl (by have := HK.out; rw [decide_eq_false_iff_not]; omega)) ?_
      simp only [Act.put, List.setIfInBounds_toArray, List.set_cons_zero, List.set_cons_succ]
      go_upto_region 14 with (fail)
      refine wp_region_lit ?_
      refine wpL_load 23 _ rfl rfl g6 0 rfl (u8l (outS (shaH t))) _ (range_blk F8.out.2.1) Tryd.underlying23 rfl (by rw [u8l_len, outS_len]; kernel_rfl) ?_
      simp only [Act.put, List.setIfInBounds_toArray, List.set_cons_zero, List.set_cons_succ]
      refine wpList_store_rowTo rfl 23 _ _ rfl rfl g2 (u8l (outS (shaH t))).toArray rfl rfl 23 _ F8.out.1 (by simp only [List.size_toArray, u8l_len, outS_len]; kernel_rfl) (by simp [u8l_len, outS_len]) (u8l_one _) ?_
      go_wp2_with fail
      refine bodyPost_ret (results_cell_row rfl _ _ g2 23 _ (0, 0) _ rfl (setRow_heap _ _ _ _ _ _ F8.out.1) Tryd.underlying23 rfl (by simp only [List.size_toArray, u8l_len, outS_len]; kernel_rfl)) rfl ?_
      exact ⟨by rw [sha_end], gb_row F8.out.2.2 g2 (by have := G2.out; omega) _⟩
end Go.Proofs.YtfhjfpgfbeiacaaDoor.Ha
