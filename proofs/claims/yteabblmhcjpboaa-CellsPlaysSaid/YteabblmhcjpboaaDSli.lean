/- Slices that are cut, copied, and handed on in parts. -/
import Derived.Test.YteabblmhcjpboaaDOps
import Derived.Laws.CopyRow
import Derived.Laws.IdiomCopy
namespace Go.Proofs.Yteabblmhcjpboaa.D
open Go Go.RowKit

def u8l (l : List Int) : List Value := l.map (Value.int .u8)
theorem u8l_len (l : List Int) : (u8l l).length = l.length := by simp [u8l]
theorem u8l_one (l : List Int) : (u8l l).toArray.all (·.oneCell') = true := by
  simp [u8l, Value.oneCell']
def dropA (a : Option Addr) (c s : Nat) : Option Addr := a.map fun p => ⟨p.block, p.off + (if c = s then 0 else s), p.spot⟩
theorem run_slicep' (a : Act) (o : Oper) (w : World) (x i : Operand) (ad : Option Addr) (len cap m L : Nat) (ho : o.op = .slice 26 x (some i) none none) (hx : a.eval x = .slice ad len cap) (hi : a.eval i = .int .i64 (m : Int)) (hm : m ≤ len) (hc : len ≤ cap) (hw : cap < 9223372036854775808 ∧ (0 < cap → ∀ p, ad = some p → p.spot = none)) (hL : L = len - m) :
    (execOp a.eval o).run Try.prog w = .ok (.value (.slice (dropA ad cap m) L (cap - m))) w := by
  subst hL
  obtain ⟨hw, hsp⟩ := hw
  have h1 : (0 : Int) ≤ (m : Int) := by omega
  have h2 : (m : Int) ≤ (len : Int) := by omega
  have h3 : (len : Int) ≤ (cap : Int) := by omega
  have h4 : (m : Int) ≤ (cap : Int) := by omega
  unfold execOp
  cases ad with
  | none =>
    simp only [ho, hx, Option.map_some, Option.map_none, hi]
    go_simp
    rfl
  | some p =>
    obtain ⟨g, off, spot⟩ := p
    simp only [ho, hx, Option.map_some, Option.map_none, hi]
    by_cases hq : cap = m
    · subst hq
      by_cases hz : cap = 0
      · subst hz
        obtain rfl : len = 0 := by omega
        go_simp
        simp [dropA]
      · obtain rfl : spot = none := hsp (by omega) _ rfl
        go_simp
        simp [dropA]
    · obtain rfl : spot = none := hsp (by omega) _ rfl
      go_simp
      simp [dropA, hq]
def Sl (w : World) (a : Option Addr) (n c : Nat) (xs : List Int) : Prop := Row w a n xs ∧ n ≤ c ∧ c < 9223372036854775808 ∧ (0 < c → ∀ p, a = some p → p.spot = none)
theorem Sl.drop {w : World} {a : Option Addr} {n c : Nat} {xs : List Int} (h : Sl w a n c xs) (s : Nat) (hs : s ≤ n) : Sl w (dropA a c s) (n - s) (c - s) (xs.drop s) := by
  obtain ⟨h1, h2, h3, h4⟩ := h
  have hl := h1.1
  refine ⟨?_, by omega, by omega, fun h0 p hp => ?_⟩
  · by_cases e : n = s
    · subst e
      rw [Nat.sub_self, show xs.drop n = [] from List.drop_of_length_le (by omega)]
      exact Row.nil _ _
    · cases a with
      | none => obtain ⟨g, o, q, _⟩ := h1.2.2.2 0 (by omega); cases q
      | some p =>
        obtain ⟨g, off, spot⟩ := p
        obtain rfl : spot = none := h4 (by omega) _ rfl
        have q := h1.sub s (n - s) (by omega)
        rw [List.take_of_length_le (by rw [List.length_drop]; omega)] at q
        unfold dropA
        rw [if_neg (by omega)]
        exact q
  · cases a with
    | none => simp [dropA] at hp
    | some q =>
      have := h4 (by omega) q rfl
      simp [dropA] at hp
      subst hp
      exact this
theorem run_cpy (a : Act) (o : Oper) (w w' : World) (x y : Operand) (v u : Value) (r : Value) (ho : o.op = .call { callee := .builtin .copy, args := #[x, y], argTypes := #[26, 26] }) (ht : o.type = 3) (hx : a.eval x = v) (hy : a.eval y = u)
    (h : (Builtin.copy_ #[26, 26] 3 #[v, u]).run Try.prog w = .ok r w') : (execOp a.eval o).run Try.prog w = .ok (.value r) w' := by
  unfold execOp
  simp only [ho, resolve, invoke, builtin, Sem.run_bind, Sem.run_pure, Result.andThen_ok, List.map_toArray, List.map_cons, List.map_nil, hx, hy, ht, h]
theorem copy_blk (w : World) (g t o d dc : Nat) (l : List Value) (a : Option Addr) (n c : Nat) (xs : List Int) (hB : Blk w g t l.toArray) (hr : Row w a n xs) (ho : o + d ≤ l.length) (k : Nat) (hk : k = Nat.min n d) :
    ∃ w', (Builtin.copy_ #[26, 26] 3 #[.slice (some ⟨g, o, none⟩) d dc, .slice a n c]).run Try.prog w = .ok (.int .i64 (k : Int)) w' ∧ Blk w' g t (l.take o ++ u8l (xs.take k) ++ l.drop (o + k)).toArray ∧ w.grownBy w' (some g) := by
  subst hk
  have hs : (Try.prog.info? 5).map (·.size) = some 1 := by kernel_rfl
  by_cases h0 : Nat.min n d = 0
  · rw [h0]
    refine ⟨w, run_copy_none w 26 26 3 5 _ _ d dc n c Try.underlying26 hs h0, ?_, gb_refl _ _⟩
    simpa [u8l] using hB
  · have hle := Nat.min_le_left n d
    have hle2 := Nat.min_le_right n d
    change Nat.min n d ≤ n at hle
    change Nat.min n d ≤ d at hle2
    obtain ⟨g', o', rfl, _⟩ := hr.2.2.2 0 (by omega)
    have hlen : (u8l (xs.take (Nat.min n d))).length = Nat.min n d := by simp only [u8l, List.length_map, List.length_take, hr.1]; omega
    have h := run_copy_row (P := Try.prog) w 26 26 3 5 g o d dc ⟨g', o', none⟩ n c l.toArray t (u8l (xs.take (Nat.min n d))) Try.underlying26 hs hB hlen
      (fun j v hv => by
        have hj : j < Nat.min n d := by
          rcases Nat.lt_or_ge j (Nat.min n d) with hj | hj
          · exact hj
          · rw [List.getElem?_eq_none (by rw [hlen]; omega)] at hv; cases hv
        obtain ⟨g2, o2, e, hc⟩ := hr.2.2.2 j (by omega)
        simp only [Option.some.injEq, Addr.mk.injEq, and_true] at e
        obtain ⟨rfl, rfl⟩ := e
        rw [Addr.add_lit, hc, ← hv]
        have hx : j < xs.length := by rw [hr.1]; omega
        simp [u8l, hj, List.getD, List.getElem?_eq_getElem hx])
      (by rw [hlen]; simp; omega) (by intro v hv; simp only [u8l, List.mem_map] at hv; obtain ⟨x, _, rfl⟩ := hv; rfl)
    rw [hlen] at h
    refine ⟨_, h, ?_, ?_⟩
    · have e := setRow_heap w g l.toArray (l.take o ++ u8l (xs.take (Nat.min n d)) ++ l.drop (o + Nat.min n d)).toArray t (0, 0) hB
      simpa [Blk] using e
    · have q := below_setRow (B := 0) (Below.refl 0 w) (g := g) (Nat.zero_le _) (l.toArray.toList.take o ++ u8l (xs.take (Nat.min n d)) ++ l.toArray.toList.drop (o + Nat.min n d)).toArray
      exact ⟨q.os, q.tape, q.output, q.size, fun k hk hr => (setRow_other _ _ _ _ (fun e => hr (congrArg some e)))⟩
theorem Sl.addr {w : World} {a : Option Addr} {n c : Nat} {xs : List Int} (h : Sl w a n c xs) (hn : 0 < n) : ∃ g o, a = some ⟨g, o, none⟩ := by
  obtain ⟨g, o, e, _⟩ := h.1.2.2.2 0 hn
  exact ⟨g, o, e⟩
def slLen : Value → Nat | .slice _ n _ => n | _ => 0
theorem qq {p r : Prop} (h : p) (f : p → r) : r := f h
theorem gb_new {w X Y : World} {r : Option Nat} {g : Nat} (h : w.grownBy X r) (k : X.grownBy Y (some g)) (hg : w.heap.size ≤ g) : w.grownBy Y r :=
  ⟨k.os.trans h.os, k.tape.trans h.tape, k.output.trans h.output, Nat.le_trans h.size k.size, fun j hj hr => (k.block j (Nat.lt_of_lt_of_le hj h.size) (by simp; omega)).trans (h.block j hj hr)⟩
def PSl (w : World) (a : Option Addr) (len : Nat) (L : List (List Int)) : Prop := L.length = len ∧ len ≤ maxLen ∧ ∀ k, k < len → ∃ g o a' n' c', a = some ⟨g, o, none⟩ ∧ w.cell? ⟨g, o + k, none⟩ = some (.slice a' n' c') ∧ Sl w a' n' c' (L.getD k []) ∧ n' ≤ 4611686018427387904
theorem parts_stay {w wr : World} {a : Option Addr} {b ln k g o pn pc : Nat} {pa : Option Addr} {L : List (List Int)} (hs : ∀ X, w.grownBy X (some b) → PSl X a ln L) (hne : ∀ p : Addr, a = some p → p.block ≠ b) (hg : w.grownBy wr (some b)) (hk : k < ln) (ea : a = some ⟨g, o, none⟩) (hc : wr.cell? ⟨g, o + k, none⟩ = some (.slice pa pn pc)) :
    ∀ X, wr.grownBy X (some b) → Sl X pa pn pc (L.getD k []) := by
  intro X hX
  obtain ⟨g2, o2, pa2, pn2, pc2, ea2, hc2, hsl2, _⟩ := (hs X (gb_trans hg hX)).2.2 k hk
  rw [ea] at ea2
  simp only [Option.some.injEq, Addr.mk.injEq, and_true] at ea2
  obtain ⟨rfl, rfl⟩ := ea2
  have q1 := hX.cell hc (by have := hne _ ea; simpa using this)
  rw [hc2] at q1
  simp only [Option.some.injEq, Value.slice.injEq] at q1
  obtain ⟨rfl, rfl, rfl⟩ := q1
  exact hsl2
theorem flat_take_succ {L : List (List Int)} {ln k : Nat} (hl : L.length = ln) (hk : k < ln) : (L.take k).flatten ++ L.getD k [] = (L.take (k + 1)).flatten := by
  have hx : k < L.length := by omega
  rw [List.take_add_one, List.flatten_append, List.getD, List.getElem?_eq_getElem hx]
  simp
theorem run_idxp (a : Act) (o : Oper) (w : World) (x i : Operand) (g off n c k : Nat) (ho : o.op = .indexAddr 22 x i) (hx : a.eval x = .slice (some ⟨g, off, none⟩) n c) (hi : a.eval i = .int .i64 (k : Int)) (hk : k < n) (hn : n ≤ maxLen) : (execOp a.eval o).run Try.prog w = .ok (.value (.pointer (some ⟨g, off + k, none⟩))) w := by
  unfold maxLen at hn
  have j0 : (0 : Int) ≤ (k : Int) := by omega
  have j6 : (k : Int) < (n : Int) := by omega
  unfold execOp
  simp only [ho, hx, hi]
  go_simp
theorem Sl.below {w w' : World} {a : Option Addr} {n c : Nat} {xs : List Int} (h : Sl w a n c xs) (hb : Below w.heap.size w w') : Sl w' a n c xs := ⟨h.1.keep hb, h.2⟩
theorem PSl.below {w w' : World} {a : Option Addr} {ln : Nat} {L : List (List Int)} (h : PSl w a ln L) (hb : Below w.heap.size w w') : PSl w' a ln L :=
  ⟨h.1, h.2.1, fun k hk => by
    obtain ⟨g, o, a', n', c', h1, h2, h3, h4⟩ := h.2.2 k hk
    exact ⟨g, o, a', n', c', h1, (hb.cell (p := ⟨g, o + k, none⟩) (World.block_lt_of_cell? w _ h2)).trans h2, h3.below hb, h4⟩⟩
theorem psl_one {w : World} {g : Nat} {a : Option Addr} {n c : Nat} {xs : List Int} (h : Blk w g 26 #[.slice a n c]) (hs : Sl w a n c xs) (hn : n ≤ 4611686018427387904) : PSl w (some ⟨g, 0, none⟩) 1 [xs] :=
  ⟨rfl, by unfold maxLen; omega, fun k hk => by
    obtain rfl : k = 0 := by omega
    exact ⟨g, 0, a, n, c, rfl, by rw [h.cell]; rfl, hs, hn⟩⟩
end Go.Proofs.Yteabblmhcjpboaa.D
