import Derived.Test.YtbgmielhnklkgaaP7
import Derived.Maps.AppendAt
import Derived.Deep.Upon
namespace Go.Proofs.Ytbgmielhnklkgaa
open Go.RowKit

theorem row_own {w : World} {base g n cap : Nat} {xs : List Int} (h : w.ownsRow base 5 1 (.slice (some ⟨g, 0, none⟩) n cap) n (xs.map (Value.int .u8))) (hb : ∀ x ∈ xs, 0 ≤ x ∧ x ≤ 255) : Row w (some ⟨g, 0, none⟩) n xs := by
  obtain ⟨hl, h⟩ := h
  have hl' : xs.length = n := by simpa using hl
  rcases h with ⟨h1, _⟩ | ⟨g', cap', cur, h1, _, h3, h4, h5, h6, h7⟩
  · cases h1
  · simp only [Value.slice.injEq, Option.some.injEq, Addr.mk.injEq, true_and, and_true] at h1
    obtain ⟨rfl, rfl⟩ := h1
    refine ⟨hl', by omega, hb, fun j hj => ⟨g, 0, rfl, ?_⟩⟩
    have hB : Blk w g 5 cur := h3
    rw [hB.cell, Nat.zero_add]
    have e : (cur.toList.take (n * 1))[j]? = (xs.map (Value.int .u8))[j]? := by rw [h7]
    rw [List.getElem?_take, if_pos (by omega), List.getElem?_map, List.getElem?_eq_getElem (l := xs) (by omega)] at e
    rw [← Array.getElem?_toList, e]
    simp [List.getD, List.getElem?_eq_getElem (show j < xs.length by omega)]
theorem append_own (w : World) (base g0 n cap0 : Nat) (xs ys : List Int) (a : Option Addr) (m c : Nat) (hown : w.ownsRow base 5 1 (.slice (some ⟨g0, 0, none⟩) n cap0) n (xs.map (Value.int .u8))) (hr : Row w a m ys) (hnm : n + m ≤ 1000) (hbase : base ≤ w.heap.size) :
    ∃ g cap w', (Builtin.append_ #[24, 24] 24 #[.slice (some ⟨g0, 0, none⟩) n cap0, .slice a m c]).run Try.prog w = .ok (.slice (some ⟨g, 0, none⟩) (n + m) cap) w' ∧ w'.ownsRow base 5 1 (.slice (some ⟨g, 0, none⟩) (n + m) cap) (n + m) ((xs ++ ys).map (Value.int .u8)) ∧ Below base w w' := by
  obtain ⟨i, hi⟩ : ∃ i, Try.prog.info? 5 = some i := Option.isSome_iff_exists.1 (by kernel_rfl)
  have hsz : i.size = 1 := by
    have h : (Try.prog.info? 5).map (·.size) = some 1 := by kernel_rfl
    rw [hi] at h; simpa using h
  have hby : i.bytes = 1 := by
    have h : (Try.prog.info? 5).map (·.bytes) = some 1 := by kernel_rfl
    rw [hi] at h; simpa using h
  have hz : i.zero = some (.int .u8 0) := by
    have h : (Try.prog.info? 5).bind (·.zero) = some (.int .u8 0) := by kernel_rfl
    rw [hi] at h; simpa using h
  have own := hown
  obtain ⟨hl, h⟩ := hown
  have hl' : xs.length = n := by simpa using hl
  rcases h with ⟨h1, _⟩ | ⟨g', cap', cur, h1, h2, h3, h4, h5, h6, h7⟩
  · cases h1
  simp only [Value.slice.injEq, Option.some.injEq, Addr.mk.injEq, true_and, and_true] at h1
  obtain ⟨rfl, rfl⟩ := h1
  by_cases hm : m = 0
  · subst hm
    obtain rfl : ys = [] := List.eq_nil_of_length_eq_zero hr.1
    refine ⟨g0, cap0, w, ?_, by simpa using own, Below.refl _ _⟩
    refine run_append_nothing w 24 24 24 5 i Try.underlying24 hi (some ⟨g0, 0, none⟩) n cap0 h4 _ ?_
    cases a with
    | none => exact Src.ofNil w Try.underlying24 c
    | some ad => exact Src.ofSlice w Try.underlying24 ad 0 c [] (by simp) (by simp) (by simp)
  · obtain ⟨g, o, rfl, _⟩ := hr.2.2.2 0 (by omega)
    obtain ⟨v', w', r1, r2, r3, _, r5⟩ := run_append_own_at (P := Try.prog) w base 24 24 5 i (.int .u8 0) 1 1 Try.underlying24 hi hz hsz hby (by rfl) (by omega) (.slice (some ⟨g0, 0, none⟩) n cap0) n (xs.map (Value.int .u8)) own
      ⟨g, o, none⟩ m c (ys.map (Value.int .u8)) (by simp [hr.1]) (fun j u hu => by
        rw [List.getElem?_map] at hu
        have hj : j < ys.length := by
          rcases Nat.lt_or_ge j ys.length with hj | hj
          · exact hj
          · rw [List.getElem?_eq_none hj] at hu; cases hu
        rw [List.getElem?_eq_getElem hj] at hu
        obtain ⟨g', o', e', hc⟩ := hr.2.2.2 j (by rw [← hr.1]; exact hj)
        simp only [Option.some.injEq, Addr.mk.injEq, and_true] at e'
        obtain ⟨rfl, rfl⟩ := e'
        rw [Addr.add_lit, hc, ← hu]
        simp [List.getD, List.getElem?_eq_getElem hj]) (by intro u hu; obtain ⟨x, _, rfl⟩ := List.mem_map.1 hu; rfl) (by unfold maxLen; omega) (by omega) hbase
    have hB : Below base w w' := ⟨r3.os, r3.tape, r3.output, r3.size, fun k hk => r3.block k (by omega) (by simp [Value.ownBlock]; omega)⟩
    have q := r2.2
    rcases q with ⟨_, q⟩ | ⟨g2, cap2, cur2, rfl, _⟩
    · omega
    · exact ⟨g2, cap2, w', r1, by rw [List.map_append]; exact r2, hB⟩
theorem run_app (a : Act) (o : Oper) (w w' : World) (x y : Operand) (v u r : Value) (ho : o.op = .call { callee := .builtin .append, args := #[x, y], argTypes := #[24, 24] }) (ht : o.type = 24) (hx : a.eval x = v) (hy : a.eval y = u)
    (h : (Builtin.append_ #[24, 24] 24 #[v, u]).run Try.prog w = .ok r w') : (execOp a.eval o).run Try.prog w = .ok (.value r) w' := by
  unfold execOp
  simp only [ho, resolve, invoke, builtin, Sem.run_bind, Sem.run_pure, Result.andThen_ok, List.map_toArray, List.map_cons, List.map_nil, hx, hy, ht, h]
end Go.Proofs.Ytbgmielhnklkgaa
