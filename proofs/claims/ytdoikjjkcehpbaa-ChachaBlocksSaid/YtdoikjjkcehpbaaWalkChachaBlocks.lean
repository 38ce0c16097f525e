import Derived.Test.YtdoikjjkcehpbaaC8
import Derived.Test.YtdoikjjkcehpbaaC9
import Derived.Test.YtdoikjjkcehpbaaC10
import Derived.Test.YtdoikjjkcehpbaaHeld
import Derived.Deep.DeepCutAuto
import Derived.OpenShut
namespace Go.Proofs.Ytdoikjjkcehpbaa
open Go.RowKit

def u8l (n : Nat) (f : Nat → Nat) : List Value := (List.range n).map fun (j : Nat) => Value.int .u8 (f j : Int)
theorem u8s_l (n : Nat) (f : Nat → Nat) : u8s n f = (u8l n f).toArray := rfl
theorem i23 (X : Nat → Nat) : (Try.prog.info? 23).map (·.size) = some (u8l 32 X).length := by rw [show (u8l 32 X).length = 32 by simp [u8l]]; kernel_rfl
theorem i22 (X : Nat → Nat) : (Try.prog.info? 22).map (·.size) = some (u8l 32 X).length := by rw [show (u8l 32 X).length = 32 by simp [u8l]]; kernel_rfl
theorem i28 (X : Nat → Nat) : (Try.prog.info? 28).map (·.size) = some (u8l 12 X).length := by rw [show (u8l 12 X).length = 12 by simp [u8l]]; kernel_rfl
theorem range_blk {w : World} {g t : Nat} {l : List Value} (h : Blk w g t l.toArray) : w.rangeAt g 0 l := by
  intro j v hj
  rw [Nat.zero_add, cell_of_row w _ _ _ _ _ h]
  simpa using hj
theorem range_keep {w w1 : World} {g : Nat} {l : List Value} (h : w.rangeAt g 0 l) (hb : Below w.heap.size w w1) : w1.rangeAt g 0 l := by
  intro j v hj
  have h1 := h j v hj
  rw [hb.cell (p := ⟨g, 0 + j, none⟩) (World.block_lt_of_cell? w _ h1)]
  exact h1
def SS (g0 g1 : Nat) (w : World) (la lb : List Value) (X : World) : Prop := Below g0 w X ∧ X.rangeAt g0 0 la ∧ X.rangeAt g1 0 lb
theorem SS.step {g0 g1 : Nat} {la lb : List Value} {w X w1 : World} (h : SS g0 g1 w la lb X) (hg : g0 ≤ w.heap.size) (hb : Below X.heap.size X w1) : SS g0 g1 w la lb w1 :=
  ⟨h.1.trans (hb.mono (Nat.le_trans hg h.1.size)), range_keep h.2.1 hb, range_keep h.2.2 hb⟩
attribute [local go_sem] eq35
set_option maxRecDepth 100000 in
theorem eql35 (L : List Nat) (hl : L.length = 64) (w : World) (a : Act) (o : Oper) (x y : Operand) (hm : o.op = .binOp .eql 35 x y 35) (hx : a.eval x = .agg (u8b L)) (hy : a.eval y = .agg (u8b L)) : (execOp a.eval o).run Try.prog w = .ok (.value (.bool true)) w := by
  have h := eq35 L hl w
  have g : (Try.prog.eqGuardType Try.prog.depth 35) = false := by kernel_rfl
  unfold execOp
  simp only [hm, hx, hy]
  go_simp
theorem obs_len (L M : List Nat) (n : Nat) : (obs L M n).length = 64 := by simp [obs]
set_option maxHeartbeats 4000000 in
theorem blocks_any (X Y : Nat → Nat) (c : Nat) (bX : ∀ j, X j < 256) (bY : ∀ j, Y j < 256) (hc : c < 4294967296) (w : World) :
    Calls Try.prog 4 #[.agg (u8s 32 X), .agg (u8s 12 Y), .int .u32 (c : Int)] w fun e w' => e = .returned (.bool true) ∧ Below w.heap.size w w' := by
  have BX := Lib.hid bX
  have BY := Lib.hid bY
  have HC := Lib.hid hc
  clear bX bY hc
  go_enter Try.func4, Try.ntmps4
  go_upto_region 1 with (fail)
  obtain ⟨W, hW⟩ : ∃ V, V = (w.alloc (.cells (u8s 32 X) 23)).alloc (.cells (u8s 12 Y) 28) := ⟨_, rfl⟩
  rw [← hW]
  have S0 : SS w.heap.size (w.heap.size + 1) w (u8l 32 X) (u8l 12 Y) W := by
    rw [hW]
    exact ⟨((Below.refl _ _).alloc (Nat.le_refl _) _).alloc (by simp) _, range_blk (t := 23) ((Blk.new _ _ _).alloc _), range_blk (t := 28) (Blk.new' _ _ _ _ (by simp))⟩
  have le0 : w.heap.size ≤ w.heap.size := Nat.le_refl _
  clear hW
  generalize w.heap.size + 1 = g1 at *
  generalize hg0 : w.heap.size = g0 at S0 ⊢
  have LE : Hid (g0 ≤ w.heap.size) := Lib.hid (by omega)
  clear le0
  have G0 := Lib.hid hg0
  clear hg0
  refine region_held (SS g0 g1 w (u8l 32 X) (u8l 12 Y)) 12 (by kernel_rfl) (by kernel_rfl) ⟨S0.1.drew, S0.2.1, S0.2.2⟩ ?_
  simp only [List.take_succ_cons, List.take_zero, List.drop_succ_cons, List.drop_zero]
  refine wpHeld_call (.bool true) 8 #[] rfl (fun w => by kernel_rfl) (fun w h => (awake_any w).mono (fun e w'' ⟨he, hb⟩ => ⟨he, h.step LE.out hb⟩)) ?_
  simp only [Act.put, List.setIfInBounds_toArray, List.set_cons_zero, List.set_cons_succ]
  refine wpHeld_cons (.bool true) rfl (fun w h => heldRun_value (by kernel_rfl) h) ?_
  simp only [Act.put, List.setIfInBounds_toArray, List.set_cons_zero, List.set_cons_succ]
  refine wpHeld_load 23 _ rfl rfl g0 0 rfl (u8l 32 X) _ (fun w h => h.2.1) Try.underlying23 rfl (i23 _) ?_
  simp only [Act.put, List.setIfInBounds_toArray, List.set_cons_zero, List.set_cons_succ]
  refine wpHeld_load 28 _ rfl rfl g1 0 rfl (u8l 12 Y) _ (fun w h => h.2.2) Try.underlying28 rfl (i28 _) ?_
  simp only [Act.put, List.setIfInBounds_toArray, List.set_cons_zero, List.set_cons_succ]
  refine wpHeld_cons (.int .u32 (c : Int)) rfl (fun w h => heldRun_value (by kernel_rfl) h) ?_
  simp only [Act.put, List.setIfInBounds_toArray, List.set_cons_zero, List.set_cons_succ]
  refine wpHeld_call _ 12 #[.agg (u8s 32 X), .agg (u8s 12 Y), .int .u32 (c : Int)] rfl (fun w => by kernel_rfl) (fun w h => (block_any X Y c BX.out BY.out HC.out w).mono (fun e w'' ⟨he, hb⟩ => ⟨he, h.step LE.out hb⟩)) ?_
  simp only [Act.put, List.setIfInBounds_toArray, List.set_cons_zero, List.set_cons_succ]
  refine wpHeld_load 23 _ rfl rfl g0 0 rfl (u8l 32 X) _ (fun w h => h.2.1) Try.underlying23 rfl (i23 _) ?_
  simp only [Act.put, List.setIfInBounds_toArray, List.set_cons_zero, List.set_cons_succ]
  refine wpHeld_load 28 _ rfl rfl g1 0 rfl (u8l 12 Y) _ (fun w h => h.2.2) Try.underlying28 rfl (i28 _) ?_
  simp only [Act.put, List.setIfInBounds_toArray, List.set_cons_zero, List.set_cons_succ]
  refine wpHeld_cons (.int .u32 (c : Int)) rfl (fun w h => heldRun_value (by kernel_rfl) h) ?_
  simp only [Act.put, List.setIfInBounds_toArray, List.set_cons_zero, List.set_cons_succ]
  refine wpHeld_call _ 13 #[.agg (u8s 32 X), .agg (u8s 12 Y), .int .u32 (c : Int)] rfl (fun w => by kernel_rfl) (fun w h => (refblock_any X Y c BX.out BY.out HC.out w).mono (fun e w'' ⟨he, hb⟩ => ⟨he, h.step LE.out hb⟩)) ?_
  simp only [Act.put, List.setIfInBounds_toArray, List.set_cons_zero, List.set_cons_succ]
  refine wpHeld_cons (.bool true) rfl (fun w h => heldRun_value (eql35 _ (obs_len _ _ _) w _ _ _ _ rfl rfl rfl) h) ?_
  simp only [Act.put, List.setIfInBounds_toArray, List.set_cons_zero, List.set_cons_succ]
  refine wpHeld_cons (.bool true) rfl (fun w h => heldRun_value (by kernel_rfl) h) ?_
  simp only [Act.put, List.setIfInBounds_toArray, List.set_cons_zero, List.set_cons_succ]
  refine wpHeld_nil ?_
  intro W1 S1
  clear S0
  have S2 := Lib.hid S1
  clear S1
  go_wp2_with fail
  go_ret
  exact ⟨rfl, by rw [G0.out]; exact S2.out.1⟩
theorem nat_u8 (xs : List Int) (n : Nat) (hl : xs.length = n) (hw : ∀ x ∈ xs, (Lit.int .u8 x).wf = true) : ∃ X : Nat → Nat, (∀ j, X j < 256) ∧ (xs.map (Value.int .u8)).toArray = u8s n X := by
  refine ⟨fun j => (xs.getD j 0).toNat, fun j => ?_, ?_⟩
  · have h := range_u8 hw j
    have e : xs.getD j 0 = xs[j]?.getD 0 := by simp [List.getD]
    show (xs.getD j 0).toNat < 256
    rw [e]; omega
  · unfold u8s
    congr 1
    apply List.ext_getElem?
    intro i
    simp only [List.getElem?_map]
    by_cases hi : i < n
    · rw [List.getElem?_range hi, List.getElem?_eq_getElem (by omega)]
      have h := range_u8 hw i
      rw [List.getElem?_eq_getElem (by omega)] at h
      simp only [Option.getD_some] at h
      simp [List.getD, List.getElem?_eq_getElem (show i < xs.length by omega), h.1]
      omega
    · rw [List.getElem?_eq_none (by omega), List.getElem?_eq_none (by simp; omega)]
      rfl
theorem walkChachaBlocks (xs : List Int) (ys : List Int) (c : Int) (lx : xs.length = 32) (wx : ∀ x ∈ xs, (Lit.int .u8 x).wf = true) (ly : ys.length = 12) (wy : ∀ x ∈ ys, (Lit.int .u8 x).wf = true) (hc : (Lit.int .u32 c).wf = true) (w : World) :
    Calls Try.prog 4 #[.agg (xs.map (Value.int .u8)).toArray, .agg (ys.map (Value.int .u8)).toArray, .int .u32 c] w fun e w' => e = .returned (.bool true) ∧ Below w.heap.size w w' := by
  obtain ⟨X, bX, eX⟩ := nat_u8 xs 32 lx wx
  obtain ⟨Y, bY, eY⟩ := nat_u8 ys 12 ly wy
  have hb := bounds_u32 hc
  obtain ⟨n, rfl⟩ : ∃ n : Nat, c = (n : Int) := ⟨c.toNat, by omega⟩
  rw [eX, eY]
  exact blocks_any X Y n bX bY (by omega) w
end Go.Proofs.Ytdoikjjkcehpbaa
