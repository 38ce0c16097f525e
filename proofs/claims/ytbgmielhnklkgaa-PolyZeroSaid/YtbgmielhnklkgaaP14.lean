import Derived.Test.YtbgmielhnklkgaaP13
namespace Go.Proofs.Ytbgmielhnklkgaa
open Go.RowKit

def upd (K : Nat → Nat) (j v : Nat) (i : Nat) : Nat := if i = j then v else K i
theorem upd_lt {K : Nat → Nat} (hK : ∀ j, K j < 256) (j : Nat) {v : Nat} (hv : v < 256) (i : Nat) : upd K j v i < 256 := by
  unfold upd
  split
  · exact hv
  · exact hK i
theorem rest_set (K : Nat → Nat) (j v : Nat) (_hj : j < 16) : (rest16 K).set j (.int .u8 (v : Int)) = rest16 (upd K j v) := by
  apply List.ext_getElem?
  intro i
  simp only [rest16, List.getElem?_set, List.length_map, List.length_range, List.getElem?_map]
  by_cases hi : i < 16
  · rw [List.getElem?_range hi]
    by_cases h : j = i
    · subst h; simp [upd, hi]
    · have h' : ¬ i = j := fun e => h e.symm
      simp [h, upd, h']
  · rw [List.getElem?_eq_none (by simp; omega)]
    have h : ¬ j = i := by omega
    simp [h]
theorem sum_r {w : World} {b : Nat} {h0 h1 h2 : Int} {K : Nat → Nat} {hl : Int} (h : Blk w b 40 (sumc h0 h1 h2 (rest16 K) hl).toArray) (j v : Nat) (hj : j < 16) : Blk (w.setCell ⟨b, 5 + j, none⟩ (.int .u8 (v : Int))) b 40 (sumc h0 h1 h2 (rest16 (upd K j v)) hl).toArray := by
  have q := h.set (5 + j) (.int .u8 (v : Int))
  have e : (sumc h0 h1 h2 (rest16 K) hl).set (5 + j) (.int .u8 (v : Int)) = sumc h0 h1 h2 (rest16 (upd K j v)) hl := by
    rw [← rest_set K j v hj]
    unfold sumc
    rw [List.set_append_left _ _ (by simp [rest16]; omega), List.set_append_right _ _ (by simp)]
    simp
  rwa [e] at q
theorem sum_cells {b : Nat} {h0 h1 h2 hl : Int} {w0 : World} : ∀ (vs : List Nat) (k : Nat) (w : World) (K : Nat → Nat), (∀ j, K j < 256) → (∀ v ∈ vs, v < 256) → k + vs.length ≤ 16 → w0.grownBy w (some b) → Blk w b 40 (sumc h0 h1 h2 (rest16 K) hl).toArray →
    ∃ K', (∀ j, K' j < 256) ∧ w0.grownBy (w.setCells b (5 + k) (vs.map fun (v : Nat) => Value.int .u8 (v : Int))) (some b) ∧ Blk (w.setCells b (5 + k) (vs.map fun (v : Nat) => Value.int .u8 (v : Int))) b 40 (sumc h0 h1 h2 (rest16 K') hl).toArray
  | [], _, w, K, hK, _, _, hg, hb => ⟨K, hK, hg, hb⟩
  | v :: vs, k, w, K, hK, hv, hl', hg, hb => by
    simp only [List.length_cons] at hl'
    have q := sum_cells vs (k + 1) (w.setCell ⟨b, 5 + k, none⟩ (.int .u8 (v : Int))) (upd K k v) (upd_lt hK k (hv v (by simp))) (fun x hx => hv x (by simp [hx])) (by omega) (gb_set hg _ _) (sum_r hb k v (by omega))
    rw [← Nat.add_assoc] at q
    exact q
theorem run_slice16 (a : Act) (o : Oper) (w : World) (x i : Operand) (b r : Nat) (ho : o.op = .slice 26 x (some i) none none) (hx : a.eval x = .pointer (some ⟨b, 5, none⟩)) (hi : a.eval i = .int .i64 (r : Int)) (hr : r ≤ 16) :
    (execOp a.eval o).run Try.prog w = .ok (.value (.slice (some ⟨b, 5 + (if r < 16 then r else 0), none⟩) (16 - r) (16 - r))) w := by
  unfold execOp
  simp only [ho, hx, Option.map_some, Option.map_none, hi]
  rcases (show r = 0 ∨ r = 1 ∨ r = 2 ∨ r = 3 ∨ r = 4 ∨ r = 5 ∨ r = 6 ∨ r = 7 ∨ r = 8 ∨ r = 9 ∨ r = 10 ∨ r = 11 ∨ r = 12 ∨ r = 13 ∨ r = 14 ∨ r = 15 ∨ r = 16 by omega) with rfl | rfl | rfl | rfl | rfl | rfl | rfl | rfl | rfl | rfl | rfl | rfl | rfl | rfl | rfl | rfl | rfl
  all_goals kernel_rfl
theorem run_add1 (a : Act) (o : Oper) (w : World) (x : Operand) (k : Nat) (ho : o.op = .binOp .add 3 x (.const (.int .i64 1)) 3) (hx : a.eval x = .int .i64 (k : Int)) (hk : k < 1000) : (execOp a.eval o).run Try.prog w = .ok (.value (.int .i64 ((k + 1 : Nat) : Int))) w := by
  have hc : a.eval (.const (.int .i64 1)) = .int .i64 1 := rfl
  unfold execOp
  simp only [ho, hx, hc]
  go_simp
  all_goals (first | done | exact IntWalk.i64_in _ (by omega) | (rw [IntKind.wrap_i64]; omega) | omega)
theorem run_lss16 (a : Act) (o : Oper) (w : World) (x : Operand) (k : Nat) (ho : o.op = .binOp .lss 3 x (.const (.int .i64 16)) 3) (hx : a.eval x = .int .i64 (k : Int)) (hk : k < 16) : (execOp a.eval o).run Try.prog w = .ok (.value (.bool true)) w := by
  have hc : a.eval (.const (.int .i64 16)) = .int .i64 16 := rfl
  have h1 : (k : Int) < 16 := by omega
  unfold execOp
  simp only [ho, hx, hc]
  go_simp
theorem zero_cells (r : Nat) (hr : r ≤ 16) : (Builtin.zeroCells #[.int .u8 0] (16 - r)).toList = ((List.replicate (16 - r) (0 : Nat)).map fun (v : Nat) => Value.int .u8 (v : Int)) := by
  rcases (show r = 0 ∨ r = 1 ∨ r = 2 ∨ r = 3 ∨ r = 4 ∨ r = 5 ∨ r = 6 ∨ r = 7 ∨ r = 8 ∨ r = 9 ∨ r = 10 ∨ r = 11 ∨ r = 12 ∨ r = 13 ∨ r = 14 ∨ r = 15 ∨ r = 16 by omega) with rfl | rfl | rfl | rfl | rfl | rfl | rfl | rfl | rfl | rfl | rfl | rfl | rfl | rfl | rfl | rfl | rfl
  all_goals kernel_rfl
theorem run_clear (w : World) (b r : Nat) (hr : r ≤ 16) {h0 h1 h2 hl : Int} {K : Nat → Nat} (hb : Blk w b 40 (sumc h0 h1 h2 (rest16 K) hl).toArray) :
    (Builtin.clear_ #[24] 0 #[.slice (some ⟨b, 5 + (if r < 16 then r else 0), none⟩) (16 - r) (16 - r)]).run Try.prog w = .ok (.tuple #[]) (w.setCells b (5 + r) ((List.replicate (16 - r) (0 : Nat)).map fun (v : Nat) => Value.int .u8 (v : Int))) := by
  have hz : (zeroValue 5).run Try.prog w = .ok (.int .u8 0) w := by kernel_rfl
  have hs := run_storeCells_cells (P := Try.prog) b (5 + r) ((List.replicate (16 - r) (0 : Nat)).map fun (v : Nat) => Value.int .u8 (v : Int)) 0 w (fun j hj => by
    simp at hj
    rw [Nat.add_zero, Nat.add_assoc, sum_rest hb (r + j) (by omega)]; rfl) (fun j _ => hb.free _) (by intro v hv; simp at hv; rw [hv.2]; rfl)
  rw [Nat.add_zero] at hs
  by_cases h16 : r = 16
  · subst h16
    unfold Builtin.clear_
    simp [run_underlying Try.underlying24, Result.andThen]
    rfl
  · obtain ⟨m, hm⟩ : ∃ m, 16 - r = m + 1 := ⟨15 - r, by omega⟩
    have hc := zero_cells r hr
    rw [if_pos (by omega)]
    rw [hm] at hs hc ⊢
    simp only [List.map_replicate] at hs hc ⊢
    rw [show (((0 : Nat) : Int)) = (0 : Int) from rfl] at hs hc ⊢
    unfold Builtin.clear_
    simp [run_underlying Try.underlying24, Result.andThen, hz]
    rw [show (Value.int .u8 0).cells = #[.int .u8 0] from rfl, hc]
    simp [hs]
end Go.Proofs.Ytbgmielhnklkgaa
