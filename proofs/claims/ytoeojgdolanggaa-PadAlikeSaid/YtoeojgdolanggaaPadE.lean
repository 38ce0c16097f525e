import Derived.Test.YtoeojgdolanggaaPadD
import Derived.Test.YtoeojgdolanggaaOpen
import Derived.Deep.OwnRows
import Derived.Laws.CopyOwn
import Derived.Laws.OwnMore
import Derived.Laws.BytesArg
import Derived.Laws.Rows
import Derived.Deep.DeepFit
import Derived.Deep.RegionHeld
namespace Go.Proofs.Ytoeojgdolanggaa
open Go.RowKit

/-- a text, a mark, and noughts up to n. -/
def padded (l : List Int) (n : Nat) : List Int := l ++ 128 :: List.replicate (n - l.length - 1) 0
theorem length_padded (l : List Int) (n : Nat) (h : l.length < n) : (padded l n).length = n := by
  simp [padded]; omega
theorem mark_inj : ∀ (n m : Nat) (x y : List Int), List.replicate n (0 : Int) ++ 128 :: x = List.replicate m 0 ++ 128 :: y → x = y := by
  intro n
  induction n with
  | zero =>
    intro m x y h
    cases m with
    | zero => simpa using h
    | succ m => simp [List.replicate_succ] at h
  | succ n ih =>
    intro m x y h
    cases m with
    | zero => simp [List.replicate_succ] at h
    | succ m => exact ih m x y (by simpa [List.replicate_succ] using h)
theorem padded_inj (x y : List Int) (n m : Nat) (h : padded x n = padded y m) : x = y := by
  have h' := congrArg List.reverse h
  simp only [padded, List.reverse_append, List.reverse_cons, List.reverse_replicate, List.append_assoc, List.singleton_append] at h'
  have := mark_inj _ _ _ _ h'
  simpa using congrArg List.reverse this
theorem splice_padded (l : List Int) (n : Nat) (h : l.length < n) :
    (splice (List.replicate n (Value.int .u8 0)) 0 (l.map (Value.int .u8))).set l.length (.int .u8 128) = (padded l n).map (Value.int .u8) := by
  unfold splice padded
  simp only [List.take_zero, List.nil_append, Nat.zero_add, List.length_map, List.drop_replicate]
  rw [List.set_append_right _ _ (by simp)]
  simp only [List.length_map, Nat.sub_self]
  obtain ⟨k, rfl⟩ : ∃ k, n = l.length + 1 + k := ⟨n - l.length - 1, by omega⟩
  rw [show l.length + 1 + k - l.length = k + 1 from by omega]
  simp [List.replicate_succ]

theorem Try.info5 : (Try.prog.info? 5).map (fun i => (i.zero, i.size, i.bytes)) = some (some (.int .u8 0), 1, 1) := by kernel_rfl
theorem Try.size5 : (Try.prog.info? 5).map (·.size) = some 1 := by kernel_rfl

theorem row_cells (w : World) (k : IntKind) (x : Addr) (xs : List Int) (h : ∀ i, i < xs.length → w.cell? (x.add i) = some (.int k (xs.getD i 0))) (len : Nat) (hl : len ≤ xs.length) :
    ∀ j v, ((xs.take len).map (Value.int k))[j]? = some v → w.cell? (x.add j) = some v := by
  intro j v hv
  have hj : j < len := by
    rcases Nat.lt_or_ge j len with h | h
    · exact h
    · rw [List.getElem?_eq_none (by simp; omega)] at hv; cases hv
  rw [h j (by omega), ← hv]
  simp [List.getElem?_take, hj, List.getD, List.getElem?_eq_getElem (show j < xs.length by omega)]

theorem splice_at (n : Nat) (cs : List Value) (h : cs.length < n) : (splice (List.replicate n (Value.int .u8 0)) 0 cs)[cs.length]? = some (.int .u8 0) := by
  unfold splice
  simp only [List.take_zero, List.nil_append, Nat.zero_add, List.drop_replicate]
  rw [List.getElem?_append_right (Nat.le_refl _), Nat.sub_self]
  rw [List.getElem?_replicate, if_pos (by omega)]
theorem made_row (w : World) (n : Nat) : (w.alloc (.cells (madeCells #[.int .u8 0] n) 5)).heap[w.heap.size]? = some (.cells (List.replicate n (Value.int .u8 0)).toArray 5 (0, 0)) := by
  have h : madeCells #[Value.int .u8 0] n = (List.replicate n (Value.int .u8 0)).toArray := by
    rw [← toList_madeCells_one]
  rw [h]
  show (w.heap.push _)[w.heap.size]? = _
  simp
theorem set_row (w : World) (g i : Nat) (L : List Value) (u : Value) (h : w.heap[g]? = some (.cells L.toArray 5 (0, 0))) : (w.setCell ⟨g, i, none⟩ u).heap[g]? = some (.cells (L.set i u).toArray 5 (0, 0)) := by
  simp [World.setCell, Array.getElem?_modify, h]
theorem row_frozen (w : World) (g i : Nat) (L : List Value) (h : w.heap[g]? = some (.cells L.toArray 5 (0, 0))) : w.frozen? ⟨g, i, none⟩ = false := by
  simp [World.frozen?, h]

theorem pad_any (a : Option Addr) (len cap : Nat) (zs : List Int) (w : World) (h : IsRow .u8 w a len cap zs) (hl : len ≤ 2047) (sz : Nat) (hs : bkv len = sz) :
    Calls Try.prog 15 #[.slice a len cap] w fun e w' => e = .returned (.tuple #[.slice (some ⟨w.heap.size, 0, none⟩) sz sz, .int .i64 0]) ∧
      w'.heap[w.heap.size]? = some (.cells ((padded (zs.take len) sz).map (Value.int .u8)).toArray 5 (0, 0)) ∧ Below w.heap.size w w' := by
  have b := bkv_low (len : Int) (by omega) (by omega)
  rw [hs] at b
  have hlt : len < sz := by omega
  have hsz : sz ≤ 2048 := by omega
  have hcs : ((zs.take len).map (Value.int .u8)).length = len := by
    rcases h with ⟨_, rfl, _, rfl⟩ | ⟨x, _, h1, _, h2, _, _⟩ <;> simp
    omega
  have hpos : 0 < ((zs.take len).map (Value.int .u8)).length → ∃ ad, a = some ad ∧ ∀ j v, ((zs.take len).map (Value.int .u8))[j]? = some v → w.cell? (ad.add j) = some v := by
    intro hp
    rcases h with ⟨_, rfl, _, rfl⟩ | ⟨x, rfl, h1, _, h2, h3, _⟩
    · simp at hp
    · exact ⟨x, rfl, row_cells w .u8 x zs h3 len (by omega)⟩
  obtain ⟨cs, hcd⟩ : ∃ cs, cs = (zs.take len).map (Value.int .u8) := ⟨_, rfl⟩
  rw [← hcd] at hcs hpos
  have hone : ∀ v ∈ cs, v.oneCell' = true := by
    intro v hv
    rw [hcd] at hv
    obtain ⟨n, _, rfl⟩ := List.mem_map.1 hv
    rfl
  have hmk := fun w => run_make_row' (P := Try.prog) 30 5 (.int .u8 0) 1 Try.underlying30 Try.info5 rfl .i64 .i64 sz (by omega) (by omega) w
  have HCD := Lib.hid hcd
  have HC := Lib.hid hcs
  have HP := Lib.hid hpos
  have H1 := Lib.hid hone
  clear hcd hcs hpos hone b
  have l0 : (0 : Int) ≤ (len : Int) := by omega
  have l1 : (len : Int) < (sz : Int) := by omega
  go_enter Try.func15, Try.ntmps15
  go_wp2_with (first | (go_at_call 10; refine (bucket_low _ _ (by omega) (by omega)).mono ?_; rintro e w' ⟨rfl, rfl⟩) | (with_reducible refine wpList_copy_splice (o := ⟨some 20, _, _, _, _, _⟩) rfl (.tmp 18) (.tmp 19) 30 30 rfl 5 Try.underlying30 Try.size5 (some ⟨w.heap.size, 0, none⟩) a sz sz len cap ?h1 ?h2 w.heap.size 0 (List.replicate sz (.int .u8 0)) 5 ?c1 cs ?c2 ?c3 ?c4 ?c5 w.heap.size w ?c6 ?c7 ?_))
  case h1 => rfl
  case h2 => rfl
  case c1 => exact made_row w sz
  case c2 => rw [HC.out]; exact (Nat.min_eq_left (by omega)).symm
  case c3 =>
    intro hp
    obtain ⟨ad, h1, h2⟩ := HP.out hp
    exact ⟨ad, h1, fun j v hv => by rw [World.cell?_alloc_some _ _ _ (by rw [h2 j v hv]; rfl)]; exact h2 j v hv⟩
  case c4 => rw [HC.out]; simp; omega
  case c5 => exact H1.out
  case c6 => exact (Below.refl _ _).alloc (Nat.le_refl _) _
  case c7 => exact Nat.le_refl _
  intro w2 hg2 hb2
  have f1 : w2.cell? ⟨w.heap.size, len, none⟩ = some (.int .u8 0) := by
    rw [cell_of_row w2 _ _ _ _ _ hg2.out, ← HC.out]
    simpa using splice_at sz cs (by rw [HC.out]; omega)
  have f2 : w2.frozen? ⟨w.heap.size, len, none⟩ = false := row_frozen _ _ _ _ hg2.out
  go_wp2
  go_ret2
  refine ⟨rfl, ?_, hb2.setCell (Nat.le_refl _) _⟩
  have hz : (zs.take len).length = len := by have := HC.out; rw [HCD.out] at this; simpa using this
  rw [set_row _ _ _ _ _ hg2.out, HCD.out]
  have := splice_padded (zs.take len) sz (by omega)
  rw [hz] at this
  rw [this]
end Go.Proofs.Ytoeojgdolanggaa
