import Derived.Test.YtbgmielhnklkgaaP17
namespace Go.Proofs.Ytbgmielhnklkgaa
open Go.RowKit

theorem write_none (w : World) (b c : Nat) (a : Option Addr) : Calls Try.prog 15 #[.pointer (some ⟨b, 0, none⟩), .slice a 0 c] w fun e w' => e = .returned (.tuple #[]) ∧ w = w' := by
  go_enter Try.func15, Try.ntmps15
  go_wp2_with fail
  refine wp_loop_rounds 1 ?_
  rw [rounds_succ]
  go_wp2_with fail
  go_end0
  exact ⟨rfl, rfl⟩
theorem write_row (w : World) (b n c : Nat) (a : Option Addr) (xs : List Int) (hr : Row w a n xs) (hc : n ≤ c) (hn : n ≤ 300) (hlt : w.heap.size ≤ b) (X : World) (hX : Below w.heap.size w X) (hb : Blk X b 40 (sumc 0 0 0 (rest16 (fun _ => 0)) 0).toArray) :
    Calls Try.prog 15 #[.pointer (some ⟨b, 0, none⟩), .slice a n c] X fun e w' => e = .returned (.tuple #[]) ∧ X.grownBy w' (some b) ∧ ∃ K hl, (∀ j, K j < 256) ∧ hl < 16 ∧ Blk w' b 40 (sumc 0 0 0 (rest16 K) ((hl : Nat) : Int)).toArray := by
  by_cases h0 : n = 0
  · subst h0
    refine (write_none X b c a).mono fun e w' ⟨he, hw⟩ => ?_
    subst hw
    exact ⟨he, gb_refl _ _, fun _ => 0, 0, fun _ => by show (0 : Nat) < 256; omega, by omega, hb⟩
  · obtain ⟨g, o, rfl, hc0⟩ := hr.2.2.2 0 (by omega)
    have hX' := hr.below w.heap.size hX (Nat.le_refl _)
    have hgb : g ≠ b := by
      have h1 : g < w.heap.size := World.block_lt_of_cell? w _ hc0
      omega
    refine write_any X b g o n c 0 (fun _ => 0) (xs.map Int.toNat) (fun _ => by show (0 : Nat) < 256; omega) (by omega) hb hgb hn hc (by rw [List.length_map]; exact hr.1) (fun v hv => by
      obtain ⟨x, hx, rfl⟩ := List.mem_map.1 hv
      have := hr.2.2.1 x hx
      omega) (fun j hj => ?_)
    obtain ⟨g', o', e', hcell⟩ := hX'.2.2.2 j hj
    simp only [Option.some.injEq, Addr.mk.injEq, and_true] at e'
    obtain ⟨rfl, rfl⟩ := e'
    rw [hcell]
    have hl : j < xs.length := by rw [hr.1]; exact hj
    have hx := hr.2.2.1 xs[j] (List.getElem_mem hl)
    simp [List.getD, List.getElem?_eq_getElem hl, hx.1]
    omega
theorem by8_le (x : Nat → Nat) (hx : ∀ j, x j < 256) (i : Nat) (hi : i < 8) : by8 (le x 8) i = x i := by
  have h0 := hx 0
  have h1 := hx 1
  have h2 := hx 2
  have h3 := hx 3
  have h4 := hx 4
  have h5 := hx 5
  have h6 := hx 6
  have h7 := hx 7
  unfold by8
  simp only [le, Nat.zero_add, Nat.mul_zero, Nat.reduceMul, Nat.reducePow, Nat.mul_one, Nat.reduceAdd]
  rcases (show i = 0 ∨ i = 1 ∨ i = 2 ∨ i = 3 ∨ i = 4 ∨ i = 5 ∨ i = 6 ∨ i = 7 by omega) with rfl | rfl | rfl | rfl | rfl | rfl | rfl | rfl
  all_goals simp only [Nat.mul_zero, Nat.reduceMul, Nat.reducePow, Nat.mul_one]
  all_goals omega
theorem outb_le (K : Nat → Nat) (hK : ∀ j, K j < 256) : outb (le (fun j => K (16 + j)) 8) (le (fun j => K (24 + j)) 8) 8 = (List.range 16).map fun (j : Nat) => Value.int .u8 (K (16 + j) : Int) := by
  unfold outb
  apply List.map_congr_left
  intro i hi
  have hi' := List.mem_range.1 hi
  by_cases h : i < 8
  · rw [if_pos h, if_pos h, by8_le _ (fun j => hK _) i h]
  · rw [if_neg h, if_pos (by omega), by8_le _ (fun j => hK _) (i - 8) (by omega), show 24 + (i - 8) = 16 + i by omega]
theorem nat_key (xs : List Int) (hl : xs.length = 32) (hw : ∀ x ∈ xs, (Lit.int .u8 x).wf = true) : ∃ K : Nat → Nat, (∀ j, K j < 256) ∧ (xs.map (Value.int .u8)).toArray = (keyl K).toArray := by
  have hb : ∀ x ∈ xs, 0 ≤ x ∧ x ≤ 255 := fun x hx => bounds_u8 (hw x hx)
  refine ⟨fun j => (xs.getD j 0).toNat, fun j => ?_, ?_⟩
  · have := getD_byte hb j
    show (xs.getD j 0).toNat < 256
    omega
  · congr 1
    apply List.ext_getElem?
    intro i
    simp only [keyl, List.getElem?_map]
    by_cases hi : i < 32
    · rw [List.getElem?_range hi, List.getElem?_eq_getElem (by omega)]
      have h := hb xs[i] (List.getElem_mem (by omega))
      simp [List.getD, List.getElem?_eq_getElem (show i < xs.length by omega), h.1]
      omega
    · rw [List.getElem?_eq_none (by omega), List.getElem?_eq_none (by simp; omega)]
      rfl
theorem run_cnv (a : Act) (o : Oper) (w : World) (x : Operand) (v r : Value) (ho : o.op = .convert 24 9 x) (hx : a.eval x = v) (h : (convert 24 9 v).run Try.prog w = .ok r w) : (execOp a.eval o).run Try.prog w = .ok (.value r) w := by
  unfold execOp
  simp only [ho, hx, Sem.run_bind, h, Result.andThen_ok, Sem.run_pure]
theorem run_eqs (a : Act) (o : Oper) (w : World) (x y : Operand) (s : ByteArray) (ho : o.op = .binOp .eql 9 x y 9) (hx : a.eval x = .string s) (hy : a.eval y = .string s) : (execOp a.eval o).run Try.prog w = .ok (.value (.bool true)) w := by
  unfold execOp
  simp only [ho, hx, hy]
  go_simp
theorem run_gtr300 (a : Act) (o : Oper) (w : World) (x : Operand) (n : Nat) (b : Bool) (ho : o.op = .binOp .gtr 3 x (.const (.int .i64 300)) 3) (hx : a.eval x = .int .i64 (n : Int)) (hb : decide ((300 : Int) < (n : Int)) = b) : (execOp a.eval o).run Try.prog w = .ok (.value (.bool b)) w := by
  have hc : a.eval (.const (.int .i64 300)) = .int .i64 300 := rfl
  subst hb
  unfold execOp
  simp only [ho, hx, hc]
  go_simp
theorem row_ints {w : World} {g o : Nat} {K : Nat → Nat} (hK : ∀ j, K j < 256) (h : ∀ j, j < 16 → w.cell? ⟨g, o + j, none⟩ = some (.int .u8 ((K j : Nat) : Int))) : Row w (some ⟨g, o, none⟩) 16 ((List.range 16).map fun (j : Nat) => ((K j : Nat) : Int)) := by
  refine ⟨by simp, by simp [maxLen], fun x hx => ?_, fun j hj => ⟨g, o, rfl, ?_⟩⟩
  · obtain ⟨j, _, rfl⟩ := List.mem_map.1 hx
    have := hK j
    omega
  · rw [h j hj]
    simp [List.getD, List.getElem?_map, List.getElem?_range hj]
end Go.Proofs.Ytbgmielhnklkgaa
