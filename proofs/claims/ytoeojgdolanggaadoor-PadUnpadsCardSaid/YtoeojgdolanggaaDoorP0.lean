import Derived.Test.YtoeojgdolanggaaDoorBase
import Derived.Test.YtoeojgdolanggaaDoorArith
import Derived.Test.YtoeojgdolanggaaDoorHeldAll
import Derived.Deep.OwnRows
import Derived.Great.BuildSlice
namespace Go.Proofs.YtoeojgdolanggaaDoor
open Go Go.RowKit

def byte (t : List Int) (j : Nat) : Nat := (t.getD j 0).toNat
def u8l (l : List Int) : List Value := l.map (Value.int .u8)
def dropA (a : Option Addr) (c s : Nat) : Option Addr := a.map fun p => ⟨p.block, p.off + (if c = s then 0 else s), p.spot⟩
theorem run_slicep' (a : Act) (o : Oper) (w : World) (x i : Operand) (ad : Option Addr) (len cap m L : Nat) (ho : o.op = .slice 22 x (some i) none none) (hx : a.eval x = .slice ad len cap) (hi : a.eval i = .int .i64 (m : Int)) (hm : m ≤ len) (hc : len ≤ cap) (hw : cap < 9223372036854775808 ∧ (0 < cap → ∀ p, ad = some p → p.spot = none)) (hL : L = len - m) :
    (execOp a.eval o).run Tryd.prog w = .ok (.value (.slice (dropA ad cap m) L (cap - m))) w := by
  subst hL
  obtain ⟨hw, hsp⟩ := hw
  have h1 : (0 : Int) ≤ (m : Int) := by omega
  have h2 : (m : Int) ≤ (len : Int) := by omega
  have h3 : (len : Int) ≤ (cap : Int) := by omega
  have h4 : (m : Int) ≤ (cap : Int) := by omega
  unfold execOp
  cases ad with
  | none =>
    simp only [ho, hx, Option.map_some, Option.map_none, hi]
    go_simp
    rfl
  | some p =>
    obtain ⟨g, off, spot⟩ := p
    simp only [ho, hx, Option.map_some, Option.map_none, hi]
    by_cases hq : cap = m
    · subst hq
      by_cases hz : cap = 0
      · subst hz
        obtain rfl : len = 0 := by omega
        go_simp
        simp [dropA]
      · obtain rfl : spot = none := hsp (by omega) _ rfl
        go_simp
        simp [dropA]
    · obtain rfl : spot = none := hsp (by omega) _ rfl
      go_simp
      simp [dropA, hq]
def Sl (w : World) (a : Option Addr) (n c : Nat) (xs : List Int) : Prop := Row w a n xs ∧ n ≤ c ∧ c < 9223372036854775808 ∧ (0 < c → ∀ p, a = some p → p.spot = none)
theorem Sl.drop {w : World} {a : Option Addr} {n c : Nat} {xs : List Int} (h : Sl w a n c xs) (s : Nat) (hs : s ≤ n) : Sl w (dropA a c s) (n - s) (c - s) (xs.drop s) := by
  obtain ⟨h1, h2, h3, h4⟩ := h
  have hl := h1.1
  refine ⟨?_, by omega, by omega, fun h0 p hp => ?_⟩
  · by_cases e : n = s
    · subst e
      rw [Nat.sub_self, show xs.drop n = [] from List.drop_of_length_le (by omega)]
      exact Row.nil _ _
    · cases a with
      | none => obtain ⟨g, o, q, _⟩ := h1.2.2.2 0 (by omega); cases q
      | some p =>
        obtain ⟨g, off, spot⟩ := p
        obtain rfl : spot = none := h4 (by omega) _ rfl
        have q := h1.sub s (n - s) (by omega)
        rw [List.take_of_length_le (by rw [List.length_drop]; omega)] at q
        unfold dropA
        rw [if_neg (by omega)]
        exact q
  · cases a with
    | none => simp [dropA] at hp
    | some q =>
      have := h4 (by omega) q rfl
      simp [dropA] at hp
      subst hp
      exact this
theorem run_cpy (a : Act) (o : Oper) (w w' : World) (x y : Operand) (v u : Value) (r : Value) (ho : o.op = .call { callee := .builtin .copy, args := #[x, y], argTypes := #[22, 22] }) (ht : o.type = 3) (hx : a.eval x = v) (hy : a.eval y = u)
    (h : (Builtin.copy_ #[22, 22] 3 #[v, u]).run Tryd.prog w = .ok r w') : (execOp a.eval o).run Tryd.prog w = .ok (.value r) w' := by
  unfold execOp
  simp only [ho, resolve, invoke, builtin, Sem.run_bind, Sem.run_pure, Result.andThen_ok, List.map_toArray, List.map_cons, List.map_nil, hx, hy, ht, h]
theorem copy_blk (w : World) (g t o d dc : Nat) (l : List Value) (a : Option Addr) (n c : Nat) (xs : List Int) (hB : Blk w g t l.toArray) (hr : Row w a n xs) (ho : o + d ≤ l.length) (k : Nat) (hk : k = Nat.min n d) :
    ∃ w', (Builtin.copy_ #[22, 22] 3 #[.slice (some ⟨g, o, none⟩) d dc, .slice a n c]).run Tryd.prog w = .ok (.int .i64 (k : Int)) w' ∧ Blk w' g t (l.take o ++ u8l (xs.take k) ++ l.drop (o + k)).toArray ∧ w.grownBy w' (some g) := by
  subst hk
  have hs : (Tryd.prog.info? 5).map (·.size) = some 1 := by kernel_rfl
  by_cases h0 : Nat.min n d = 0
  · rw [h0]
    refine ⟨w, run_copy_none w 22 22 3 5 _ _ d dc n c Tryd.underlying22 hs h0, ?_, gb_refl _ _⟩
    simpa [u8l] using hB
  · have hle := Nat.min_le_left n d
    have hle2 := Nat.min_le_right n d
    change Nat.min n d ≤ n at hle
    change Nat.min n d ≤ d at hle2
    obtain ⟨g', o', rfl, _⟩ := hr.2.2.2 0 (by omega)
    have hlen : (u8l (xs.take (Nat.min n d))).length = Nat.min n d := by simp only [u8l, List.length_map, List.length_take, hr.1]; omega
    have h := run_copy_row (P := Tryd.prog) w 22 22 3 5 g o d dc ⟨g', o', none⟩ n c l.toArray t (u8l (xs.take (Nat.min n d))) Tryd.underlying22 hs hB hlen
      (fun j v hv => by
        have hj : j < Nat.min n d := by
          rcases Nat.lt_or_ge j (Nat.min n d) with hj | hj
          · exact hj
          · rw [List.getElem?_eq_none (by rw [hlen]; omega)] at hv; cases hv
        obtain ⟨g2, o2, e, hc⟩ := hr.2.2.2 j (by omega)
        simp only [Option.some.injEq, Addr.mk.injEq, and_true] at e
        obtain ⟨rfl, rfl⟩ := e
        rw [Addr.add_lit, hc, ← hv]
        have hx : j < xs.length := by rw [hr.1]; omega
        simp [u8l, hj, List.getD, List.getElem?_eq_getElem hx])
      (by rw [hlen]; simp; omega) (by intro v hv; simp only [u8l, List.mem_map] at hv; obtain ⟨x, _, rfl⟩ := hv; rfl)
    rw [hlen] at h
    refine ⟨_, h, ?_, ?_⟩
    · have e := setRow_heap w g l.toArray (l.take o ++ u8l (xs.take (Nat.min n d)) ++ l.drop (o + Nat.min n d)).toArray t (0, 0) hB
      simpa [Blk] using e
    · have q := below_setRow (B := 0) (Below.refl 0 w) (g := g) (Nat.zero_le _) (l.toArray.toList.take o ++ u8l (xs.take (Nat.min n d)) ++ l.toArray.toList.drop (o + Nat.min n d)).toArray
      exact ⟨q.os, q.tape, q.output, q.size, fun k hk hr => (setRow_other _ _ _ _ (fun e => hr (congrArg some e)))⟩
theorem u8l_len (l : List Int) : (u8l l).length = l.length := by simp [u8l]
theorem qq {p r : Prop} (h : p) (f : p → r) : r := f h
theorem u8l_one (l : List Int) : (u8l l).toArray.all (·.oneCell') = true := by
  simp only [List.all_toArray, List.all_eq_true, u8l, List.mem_map]
  rintro v ⟨x, _, rfl⟩
  rfl
theorem Sl.below {w w' : World} {a : Option Addr} {n c : Nat} {xs : List Int} (h : Sl w a n c xs) (hb : Below w.heap.size w w') : Sl w' a n c xs := ⟨h.1.keep hb, h.2⟩
theorem sl_blk {w : World} {g t n : Nat} {xs : List Int} (h : Blk w g t (u8l xs).toArray) (hl : xs.length = n) (hb : ∀ x ∈ xs, 0 ≤ x ∧ x ≤ 255) (hn : n ≤ 4611686018427387904) : Sl w (some ⟨g, 0, none⟩) n n xs := by
  refine ⟨⟨hl, by unfold maxLen; omega, hb, fun j hj => ⟨g, 0, rfl, ?_⟩⟩, by omega, by omega, fun _ p hp => by cases hp; rfl⟩
  have hx : j < xs.length := by omega
  rw [h.cell, Nat.zero_add, List.getElem?_toArray]
  unfold u8l
  rw [List.getElem?_map, List.getElem?_eq_getElem hx, List.getD, List.getElem?_eq_getElem hx]
  rfl
def lenOf (v : Value) : Nat := match v with | .slice _ n _ => n | _ => 0
theorem sl_one (w : World) {x : Int} (h : 0 ≤ x ∧ x ≤ 255) : Sl (w.alloc (.cells #[.int .u8 x] 5)) (some ⟨w.heap.size, 0, none⟩) 1 1 [x] :=
  sl_blk (t := 5) (xs := [x]) (Blk.new _ _ _) rfl (by simpa using h) (by omega)
theorem own_some {w : World} {b : Nat} {v : Value} {xs : List Int} (h : Own w b v xs) (hn : v ≠ .slice none 0 0) : ∃ g c, v = .slice (some ⟨g, 0, none⟩) xs.length c := by
  rcases h.form with ⟨h1, _⟩ | ⟨g, cap, cur, h1, _⟩
  · exact absurd h1 hn
  · exact ⟨g, cap, h1⟩
theorem spot_of {w : World} {b o : Nat} {sp : Option Nat} {v : Value} (h : w.cell? ⟨b, o, sp⟩ = some v) : sp = none := by
  cases sp with
  | none => rfl
  | some x =>
    unfold World.cell? at h
    split at h <;> simp at h
theorem add_zero_addr (p : Addr) : p.add 0 = p := by
  unfold Addr.add
  simp
theorem sl_of {w : World} {a : Option Addr} {n c : Nat} {zs : List Int} (h : IsRow .u8 w a n c zs) : Sl w a n c (zs.take n) := by
  refine ⟨row_of h, ?_⟩
  rcases h with ⟨rfl, rfl, rfl, rfl⟩ | ⟨x, rfl, h2, h3, h4, h5, h6⟩
  · exact ⟨by omega, by omega, fun h => absurd h (by omega)⟩
  · unfold maxLen at h3
    refine ⟨h2, by omega, fun h0 p hp => ?_⟩
    cases hp
    obtain ⟨b, o, sp⟩ := x
    have q := h5 0 (by omega)
    rw [add_zero_addr] at q
    exact spot_of q
theorem u8_bounds {ks : List Int} (h : ∀ x ∈ ks, (Lit.int .u8 x).wf = true) : ∀ x ∈ ks, 0 ≤ x ∧ x ≤ 255 := fun x hx => bounds_u8 (h x hx)
theorem run_idxr (a : Act) (o : Oper) (w : World) (x i : Operand) (g off n c k : Nat) (ho : o.op = .indexAddr 22 x i) (hx : a.eval x = .slice (some ⟨g, off, none⟩) n c) (hi : a.eval i = .int .i64 (k : Int)) (hk : k < n) (hn : n ≤ maxLen) {r : Nat} (hr : off + k = r) : (execOp a.eval o).run Tryd.prog w = .ok (.value (.pointer (some ⟨g, r, none⟩))) w := by
  subst hr
  exact run_idx a o w x i g off n c k ho hx hi hk hn
theorem sl_pre {w : World} {g t m : Nat} {cur : Array Value} {xs : List Int} (h : Blk w g t cur) (ht : cur.toList.take m = u8l xs) (hl : xs.length = m) (hb : ∀ x ∈ xs, 0 ≤ x ∧ x ≤ 255) (hm : m ≤ 4611686018427387904) : Sl w (some ⟨g, 0, none⟩) m m xs := by
  refine ⟨⟨hl, by unfold maxLen; omega, hb, fun j hj => ⟨g, 0, rfl, ?_⟩⟩, by omega, by omega, fun _ p hp => by cases hp; rfl⟩
  have hx : j < xs.length := by omega
  have e : (cur.toList.take m)[j]? = (u8l xs)[j]? := by rw [ht]
  unfold u8l at e
  rw [List.getElem?_take, if_pos hj, List.getElem?_map, List.getElem?_eq_getElem hx] at e
  rw [h.cell, Nat.zero_add, ← Array.getElem?_toList, e, List.getD, List.getElem?_eq_getElem hx]
  rfl
theorem run_slto (a : Act) (o : Oper) (w : World) (x i : Operand) (ad : Option Addr) (len cap m : Nat) (ho : o.op = .slice 22 x none (some i) none) (hx : a.eval x = .slice ad len cap) (hi : a.eval i = .int .i64 (m : Int)) (hm : m ≤ cap) (hc : cap < 9223372036854775808) (hsp : 0 < cap → ∀ p, ad = some p → p.spot = none) :
    (execOp a.eval o).run Tryd.prog w = .ok (.value (.slice ad m cap)) w := by
  have h1 : (0 : Int) ≤ (m : Int) := by omega
  have h2 : (m : Int) ≤ (cap : Int) := by omega
  unfold execOp
  simp only [ho, hx, Option.map_some, Option.map_none, hi]
  cases ad with
  | none => go_simp
  | some p =>
    obtain ⟨b, off, sp⟩ := p
    by_cases hz : cap = 0
    · subst hz
      obtain rfl : m = 0 := by omega
      go_simp
      try simp
    · obtain rfl : sp = none := hsp (by omega) _ rfl
      go_simp
theorem Sl.takeN {w : World} {a : Option Addr} {n c : Nat} {xs : List Int} (h : Sl w a n c xs) (k : Nat) (hk : k ≤ n) : Sl w a k c (xs.take k) := by
  obtain ⟨h1, h2, h3, h4⟩ := h
  have hl := h1.1
  refine ⟨⟨by rw [List.length_take]; omega, by have := h1.2.1; omega, fun x hx => h1.2.2.1 x (List.mem_of_mem_take hx), fun j hj => ?_⟩, by omega, h3, h4⟩
  obtain ⟨g, o, e, hc⟩ := h1.2.2.2 j (by omega)
  refine ⟨g, o, e, ?_⟩
  rw [hc, List.getD, List.getD, List.getElem?_take, if_pos hj]
theorem sl_nil (w : World) : Sl w none 0 0 [] := ⟨Row.nil _ _, by omega, by omega, fun h => absurd h (by omega)⟩
theorem gb_own {w w' : World} {B : Nat} {v : Value} {xs : List Int} (h : Own w B v xs) (hg : w.grownBy w' v.ownBlock) (hB : B ≤ w.heap.size) : Below B w w' :=
  ⟨hg.os, hg.tape, hg.output, hg.size, fun k hk => hg.block k (by omega) (fun e => by have := h.lt k e.symm; omega)⟩
theorem own_sl {w : World} {b : Nat} {v : Value} {xs : List Int} (h : Own w b v xs) : ∃ a c, v = .slice a xs.length c ∧ Sl w a xs.length c xs := by
  rcases h.form with ⟨h1, h2⟩ | ⟨g, cap, cur, h1, h2, h3, h4, h5, h6, h7⟩
  · subst h2
    exact ⟨none, 0, h1, sl_nil _⟩
  · refine ⟨_, _, h1, ?_⟩
    rw [h1] at h
    unfold maxLen at h5
    exact ⟨h.row.1, h4, by omega, fun _ p hp => by cases hp; rfl⟩
theorem own_len {w : World} {b n c : Nat} {a : Option Addr} {xs : List Int} (h : Own w b (.slice a n c) xs) : xs.length = n := h.row.1.1
theorem own_sl' {w : World} {b n c : Nat} {a : Option Addr} {xs : List Int} (h : Own w b (.slice a n c) xs) : Sl w a n c xs := by
  obtain ⟨a9, c9, e, s⟩ := own_sl h
  simp only [Value.slice.injEq] at e
  obtain ⟨rfl, h2, rfl⟩ := e
  rw [h2]
  exact s
theorem size5 (w : World) : (sizeOf 5).run Tryd.prog w = .ok 1 w := by kernel_rfl
end Go.Proofs.YtoeojgdolanggaaDoor
