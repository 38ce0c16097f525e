import Derived.Test.YtfhjfpgfbeiacaaDoorHaH3
import Derived.Laws.CopyRow
import Derived.Laws.IdiomCopy
namespace Go.Proofs.YtfhjfpgfbeiacaaDoor.Ha
open Go Go.RowKit
set_option maxRecDepth 100000

def u8l (l : List Int) : List Value := l.map (Value.int .u8)
def dropA (a : Option Addr) (c s : Nat) : Option Addr := a.map fun p => ⟨p.block, p.off + (if c = s then 0 else s), p.spot⟩
theorem run_slicep' (a : Act) (o : Oper) (w : World) (x i : Operand) (ad : Option Addr) (len cap m L : Nat) (ho : o.op = .slice 32 x (some i) none none) (hx : a.eval x = .slice ad len cap) (hi : a.eval i = .int .i64 (m : Int)) (hm : m ≤ len) (hc : len ≤ cap) (hw : cap < 9223372036854775808 ∧ (0 < cap → ∀ p, ad = some p → p.spot = none)) (hL : L = len - m) :
    (execOp a.eval o).run Tryd.prog w = .ok (.value (.slice (dropA ad cap m) L (cap - m))) w := by
  subst hL
  obtain ⟨hw, hsp⟩ := hw
  have h1 : (0 : Int) ≤ (m : Int) := by omega
  have h2 : (m : Int) ≤ (len : Int) := by omega
  have h3 : (len : Int) ≤ (cap : Int) := by omega
  have h4 : (m : Int) ≤ (cap : Int) := by omega
  unfold execOp
  cases ad with
  | none =>
    simp only [ho, hx, Option.map_some, Option.map_none, hi]
    go_simp
    rfl
  | some p =>
    obtain ⟨g, off, spot⟩ := p
    simp only [ho, hx, Option.map_some, Option.map_none, hi]
    by_cases hq : cap = m
    · subst hq
      by_cases hz : cap = 0
      · subst hz
        obtain rfl : len = 0 := by omega
        go_simp
        simp [dropA]
      · obtain rfl : spot = none := hsp (by omega) _ rfl
        go_simp
        simp [dropA]
    · obtain rfl : spot = none := hsp (by omega) _ rfl
      go_simp
      simp [dropA, hq]
/-- a slice whose bytes are known, with what slicing wants. -/
def Sl (w : World) (a : Option Addr) (n c : Nat) (xs : List Int) : Prop := Row w a n xs ∧ n ≤ c ∧ c < 9223372036854775808 ∧ (0 < c → ∀ p, a = some p → p.spot = none)
theorem Sl.drop {w : World} {a : Option Addr} {n c : Nat} {xs : List Int} (h : Sl w a n c xs) (s : Nat) (hs : s ≤ n) : Sl w (dropA a c s) (n - s) (c - s) (xs.drop s) := by
  obtain ⟨h1, h2, h3, h4⟩ := h
  have hl := h1.1
  refine ⟨?_, by omega, by omega, fun h0 p hp => ?_⟩
  · by_cases e : n = s
    · subst e
      rw [Nat.sub_self, show xs.drop n = [] from List.drop_of_length_le (by omega)]
      exact Row.nil _ _
    · cases a with
      | none => obtain ⟨g, o, q, _⟩ := h1.2.2.2 0 (by omega); cases q
      | some p =>
        obtain ⟨g, off, spot⟩ := p
        obtain rfl : spot = none := h4 (by omega) _ rfl
        have q := h1.sub s (n - s) (by omega)
        rw [List.take_of_length_le (by rw [List.length_drop]; omega)] at q
        unfold dropA
        rw [if_neg (by omega)]
        exact q
  · cases a with
    | none => simp [dropA] at hp
    | some q =>
      have := h4 (by omega) q rfl
      simp [dropA] at hp
      subst hp
      exact this
theorem run_cpy (a : Act) (o : Oper) (w w' : World) (x y : Operand) (v u : Value) (r : Value) (ho : o.op = .call { callee := .builtin .copy, args := #[x, y], argTypes := #[32, 32] }) (ht : o.type = 3) (hx : a.eval x = v) (hy : a.eval y = u)
    (h : (Builtin.copy_ #[32, 32] 3 #[v, u]).run Tryd.prog w = .ok r w') : (execOp a.eval o).run Tryd.prog w = .ok (.value r) w' := by
  unfold execOp
  simp only [ho, resolve, invoke, builtin, Sem.run_bind, Sem.run_pure, Result.andThen_ok, List.map_toArray, List.map_cons, List.map_nil, hx, hy, ht, h]
/-- copy into a block. -/
theorem copy_blk (w : World) (g t o d dc : Nat) (l : List Value) (a : Option Addr) (n c : Nat) (xs : List Int) (hB : Blk w g t l.toArray) (hr : Row w a n xs) (ho : o + d ≤ l.length) (k : Nat) (hk : k = Nat.min n d) :
    ∃ w', (Builtin.copy_ #[32, 32] 3 #[.slice (some ⟨g, o, none⟩) d dc, .slice a n c]).run Tryd.prog w = .ok (.int .i64 (k : Int)) w' ∧ Blk w' g t (l.take o ++ u8l (xs.take k) ++ l.drop (o + k)).toArray ∧ w.grownBy w' (some g) := by
  subst hk
  have hs : (Tryd.prog.info? 5).map (·.size) = some 1 := by kernel_rfl
  by_cases h0 : Nat.min n d = 0
  · rw [h0]
    refine ⟨w, run_copy_none w 32 32 3 5 _ _ d dc n c Tryd.underlying32 hs h0, ?_, gb_refl _ _⟩
    simpa [u8l] using hB
  · have hle := Nat.min_le_left n d
    have hle2 := Nat.min_le_right n d
    change Nat.min n d ≤ n at hle
    change Nat.min n d ≤ d at hle2
    obtain ⟨g', o', rfl, _⟩ := hr.2.2.2 0 (by omega)
    have hlen : (u8l (xs.take (Nat.min n d))).length = Nat.min n d := by simp only [u8l, List.length_map, List.length_take, hr.1]; omega
    have h := run_copy_row (P := Tryd.prog) w 32 32 3 5 g o d dc ⟨g', o', none⟩ n c l.toArray t (u8l (xs.take (Nat.min n d))) Tryd.underlying32 hs hB hlen
      (fun j v hv => by
        have hj : j < Nat.min n d := by
          rcases Nat.lt_or_ge j (Nat.min n d) with hj | hj
          · exact hj
          · rw [List.getElem?_eq_none (by rw [hlen]; omega)] at hv; cases hv
        obtain ⟨g2, o2, e, hc⟩ := hr.2.2.2 j (by omega)
        simp only [Option.some.injEq, Addr.mk.injEq, and_true] at e
        obtain ⟨rfl, rfl⟩ := e
        rw [Addr.add_lit, hc, ← hv]
        have hx : j < xs.length := by rw [hr.1]; omega
        simp [u8l, hj, List.getD, List.getElem?_eq_getElem hx])
      (by rw [hlen]; simp; omega) (by intro v hv; simp only [u8l, List.mem_map] at hv; obtain ⟨x, _, rfl⟩ := hv; rfl)
    rw [hlen] at h
    refine ⟨_, h, ?_, ?_⟩
    · have e := setRow_heap w g l.toArray (l.take o ++ u8l (xs.take (Nat.min n d)) ++ l.drop (o + Nat.min n d)).toArray t (0, 0) hB
      simpa [Blk] using e
    · have q := below_setRow (B := 0) (Below.refl 0 w) (g := g) (Nat.zero_le _) (l.toArray.toList.take o ++ u8l (xs.take (Nat.min n d)) ++ l.toArray.toList.drop (o + Nat.min n d)).toArray
      exact ⟨q.os, q.tape, q.output, q.size, fun k hk hr => (setRow_other _ _ _ _ (fun e => hr (congrArg some e)))⟩
theorem run_slarr (T n : Nat) (hT : (T, n) ∈ [(92, 64), (23, 32), (22, 32), (111, 72)]) (a : Act) (o : Oper) (w : World) (x i : Operand) (g off m : Nat) (ho : o.op = .slice T x (some i) none none) (hx : a.eval x = .pointer (some ⟨g, off, none⟩)) (hi : a.eval i = .int .i64 (m : Int)) (hm : m < n) :
    (execOp a.eval o).run Tryd.prog w = .ok (.value (.slice (some ⟨g, off + m, none⟩) (n - m) (n - m))) w := by
  simp only [List.mem_cons, Prod.mk.injEq, List.not_mem_nil, or_false] at hT
  rcases hT with ⟨rfl, rfl⟩ | ⟨rfl, rfl⟩ | ⟨rfl, rfl⟩ | ⟨rfl, rfl⟩
  all_goals
    have h1 : (0 : Int) ≤ (m : Int) := by omega
    unfold execOp
    simp only [ho, hx, Option.map_some, Option.map_none, hi]
    first
      | (have h2 : (m : Int) ≤ 64 := by omega
         have h3 : ¬ 64 = m := by omega
         go_simp; done)
      | (have h2 : (m : Int) ≤ 32 := by omega
         have h3 : ¬ 32 = m := by omega
         go_simp; done)
      | (have h2 : (m : Int) ≤ 72 := by omega
         have h3 : ¬ 72 = m := by omega
         go_simp; done)
end Go.Proofs.YtfhjfpgfbeiacaaDoor.Ha
