import Derived.Test.YtbgmielhnklkgaaP10
import Derived.Test.YtbgmielhnklkgaaHeldAll
namespace Go.Proofs.Ytbgmielhnklkgaa
open Go.RowKit

/-- the cells of a sum under way whose r is nought. -/
def sumc (h0 h1 h2 : Int) (rs : List Value) (hl : Int) : List Value := [.int .u64 h0, .int .u64 h1, .int .u64 h2, .int .u64 0, .int .u64 0] ++ rs ++ [.int .i64 hl]
section
variable {w : World} {b : Nat} {h0 h1 h2 : Int} {rs : List Value} {hl : Int}
theorem sum_c0 (h : Blk w b 40 (sumc h0 h1 h2 rs hl).toArray) : w.cell? ⟨b, 0, none⟩ = some (.int .u64 h0) := by rw [h.cell]; simp [sumc]
theorem sum_c1 (h : Blk w b 40 (sumc h0 h1 h2 rs hl).toArray) : w.cell? ⟨b, 1, none⟩ = some (.int .u64 h1) := by rw [h.cell]; simp [sumc]
theorem sum_c2 (h : Blk w b 40 (sumc h0 h1 h2 rs hl).toArray) : w.cell? ⟨b, 2, none⟩ = some (.int .u64 h2) := by rw [h.cell]; simp [sumc]
theorem sum_c3 (h : Blk w b 40 (sumc h0 h1 h2 rs hl).toArray) : w.cell? ⟨b, 3, none⟩ = some (.int .u64 0) := by rw [h.cell]; simp [sumc]
theorem sum_c4 (h : Blk w b 40 (sumc h0 h1 h2 rs hl).toArray) : w.cell? ⟨b, 4, none⟩ = some (.int .u64 0) := by rw [h.cell]; simp [sumc]
theorem sum_s0 (h : Blk w b 40 (sumc h0 h1 h2 rs hl).toArray) (x : Int) : Blk (w.setCell ⟨b, 0, none⟩ (.int .u64 x)) b 40 (sumc x h1 h2 rs hl).toArray := by have := h.set 0 (.int .u64 x); simpa [sumc] using this
theorem sum_s1 (h : Blk w b 40 (sumc h0 h1 h2 rs hl).toArray) (x : Int) : Blk (w.setCell ⟨b, 1, none⟩ (.int .u64 x)) b 40 (sumc h0 x h2 rs hl).toArray := by have := h.set 1 (.int .u64 x); simpa [sumc] using this
theorem sum_s2 (h : Blk w b 40 (sumc h0 h1 h2 rs hl).toArray) (x : Int) : Blk (w.setCell ⟨b, 2, none⟩ (.int .u64 x)) b 40 (sumc h0 h1 x rs hl).toArray := by have := h.set 2 (.int .u64 x); simpa [sumc] using this
end
theorem gb_refl (w : World) (r : Option Nat) : w.grownBy w r := ⟨rfl, rfl, rfl, Nat.le_refl _, fun _ _ _ => rfl⟩
theorem gb_trans {a b c : World} {r : Option Nat} (h : a.grownBy b r) (k : b.grownBy c r) : a.grownBy c r := ⟨k.os.trans h.os, k.tape.trans h.tape, k.output.trans h.output, Nat.le_trans h.size k.size, fun j hj hr => (k.block j (Nat.lt_of_lt_of_le hj h.size) hr).trans (h.block j hj hr)⟩
theorem gb_below {B : Nat} {a b : World} {g : Nat} (h : a.grownBy b (some g)) (hB : B ≤ g) (hg : B ≤ a.heap.size) : Below B a b := ⟨h.os, h.tape, h.output, h.size, fun k hk => h.block k (by omega) (by simp; omega)⟩
theorem gb_of {a b : World} (h : Below a.heap.size a b) (r : Option Nat) : a.grownBy b r := ⟨h.os, h.tape, h.output, h.size, fun k hk _ => h.block k hk⟩
theorem gb_alloc {w X : World} {r : Option Nat} (h : w.grownBy X r) (o : Obj) : w.grownBy (X.alloc o) r := gb_trans h (gb_of ((Below.refl _ _).alloc (Nat.le_refl _) _) r)
theorem gb_drew {w X : World} {r : Option Nat} (h : w.grownBy X r) : w.grownBy X.drew r := gb_trans h (gb_of (Below.refl _ _).drew r)
theorem gb_set {w X : World} {b : Nat} (h : w.grownBy X (some b)) (o : Nat) (v : Value) : w.grownBy (X.setCell ⟨b, o, none⟩ v) (some b) := by
  have q : Below b X (X.setCell ⟨b, o, none⟩ v) := Below.setCell (p := ⟨b, o, none⟩) (Below.refl b X) (Nat.le_refl b) v
  exact gb_trans h ⟨q.os, q.tape, q.output, q.size, fun k _ hk => heap_setCell_other _ _ _ _ (by intro e; exact hk (by rw [e]))⟩
theorem gb_row {w X : World} {r : Option Nat} (h : w.grownBy X r) (g : Nat) (hg : w.heap.size ≤ g) (cs : Array Value) : w.grownBy (X.setRow g cs) r := by
  have q : Below g X (X.setRow g cs) := below_setRow (Below.refl _ _) (Nat.le_refl _) _
  exact ⟨q.os.trans h.os, q.tape.trans h.tape, q.output.trans h.output, Nat.le_trans h.size q.size, fun k hk hr => (setRow_other _ _ _ _ (by omega)).trans (h.block k hk hr)⟩
def S27 (b g : Nat) (w : World) (rs : List Value) (hl : Int) (X : World) : Prop := w.grownBy X (some b) ∧ Blk X b 40 (sumc 0 0 0 rs hl).toArray ∧ Blk X g 37 #[.int .u64 0, .int .u64 0]
theorem size35 (w : World) : (sizeOf 35).run Try.prog w = .ok 1 w := by kernel_rfl
theorem run_store_one {P : Program} (a : Act) (o : Oper) (w : World) (ty : TypeId) (x y : Operand) (ho : o.op = .store ty x y) (b off : Nat) (hx : a.eval x = .pointer (some ⟨b, off, none⟩)) (k : IntKind) (n : Int) (hy : a.eval y = .int k n) (hsz : ∀ w', (sizeOf ty).run P w' = .ok 1 w')
    (hc : (w.cell? ⟨b, off, none⟩).isSome = true) (hf : w.frozen? ⟨b, off, none⟩ = false) : (execOp a.eval o).run P w = .ok .skip (w.setCell ⟨b, off, none⟩ (.int k n)) := by
  obtain ⟨u, hu⟩ := Option.isSome_iff_exists.1 hc
  have hs := hsz w
  unfold execOp
  simp only [ho, hx, hy]
  go_simp
theorem heldRun_skip {P : Program} {S : World → Prop} {w : World} {r : Result Next} (hr : r = .ok .skip w) (hS : S w) : HeldRun P S undef r := by subst hr; exact ⟨rfl, hS⟩
theorem S27.store0 {b g : Nat} {w X : World} {rs : List Value} {hl : Int} (h : S27 b g w rs hl X) (ne : g ≠ b) : S27 b g w rs hl (X.setCell ⟨b, 0, none⟩ (.int .u64 0)) := ⟨gb_set h.1 _ _, sum_s0 h.2.1 0, (heap_setCell_other _ _ _ _ ne).trans h.2.2⟩
theorem S27.store1 {b g : Nat} {w X : World} {rs : List Value} {hl : Int} (h : S27 b g w rs hl X) (ne : g ≠ b) : S27 b g w rs hl (X.setCell ⟨b, 1, none⟩ (.int .u64 0)) := ⟨gb_set h.1 _ _, sum_s1 h.2.1 0, (heap_setCell_other _ _ _ _ ne).trans h.2.2⟩
theorem S27.store2 {b g : Nat} {w X : World} {rs : List Value} {hl : Int} (h : S27 b g w rs hl X) (ne : g ≠ b) : S27 b g w rs hl (X.setCell ⟨b, 2, none⟩ (.int .u64 0)) := ⟨gb_set h.1 _ _, sum_s2 h.2.1 0, (heap_setCell_other _ _ _ _ ne).trans h.2.2⟩
theorem S27.drew {b g : Nat} {w X : World} {rs : List Value} {hl : Int} (h : S27 b g w rs hl X) : S27 b g w rs hl X.drew := ⟨gb_drew h.1, h.2.1, h.2.2⟩
theorem wpL_store_one {P : Program} {ops : Array Oper} {Q : Exit → Act → World → Prop} {a : Act} {w : World} {o : Oper} {rest : List Oper} {ty : TypeId} {x y : Operand} (hw : Region.wanted o (yielded ops a.tmps) = true) (ho : o.op = .store ty x y)
    (b off : Nat) (hx : a.eval x = .pointer (some ⟨b, off, none⟩)) (k : IntKind) (n : Int) (hy : a.eval y = .int k n) (hsz : ∀ w', (sizeOf ty).run P w' = .ok 1 w') (hc : (w.cell? ⟨b, off, none⟩).isSome = true) (hf : w.frozen? ⟨b, off, none⟩ = false)
    (h : wpList P ops Q rest (a.put o.dst undef) (w.setCell ⟨b, off, none⟩ (.int k n))) : wpList P ops Q (o :: rest) a w :=
  wpList_step fun K hK => by
    rw [if_pos hw]
    obtain ⟨u, hu⟩ := Option.isSome_iff_exists.1 hc
    have hs := hsz w
    unfold Oper.wp execOp
    simp only [ho, hx, hy]
    go_simp
    exact hK _ _ h
theorem add_zero (w : World) (b : Nat) (rs : List Value) (hl : Int) (hb : Blk w b 40 (sumc 0 0 0 rs hl).toArray) :
    Calls Try.prog 27 #[.pointer (some ⟨b, 0, none⟩), .agg #[.int .u64 0, .int .u64 0]] w fun e w' => e = .returned (.tuple #[]) ∧ w.grownBy w' (some b) ∧ Blk w' b 40 (sumc 0 0 0 rs hl).toArray := by
  have NE0 := hb.lt
  have HS0 : Hid (S27 b w.heap.size w rs hl (w.alloc (.cells #[.int .u64 0, .int .u64 0] 37))) := Lib.hid ⟨gb_alloc (gb_refl _ _) _, hb.alloc _, Blk.new _ _ _⟩
  clear hb
  have NE : Hid (w.heap.size ≠ b) := Lib.hid (by omega)
  clear NE0
  go_enter Try.func27, Try.ntmps27
  go_upto_region 2 with (fail)
  have HS := HS0
  clear HS0
  generalize hg : w.heap.size = g at *
  clear hg
  go_upto_region 2 with (fail)
  refine region_held_all (S27 b g w rs hl) (by kernel_rfl) (by kernel_rfl) HS.out.drew ?_
  refine wpHeld_cons (.pointer (some ⟨b, 0, none⟩)) rfl (fun w h => heldRun_value (by kernel_rfl) h) ?_
  simp only [Act.put, List.setIfInBounds_toArray, List.set_cons_zero, List.set_cons_succ]
  refine wpHeld_cons (.pointer (some ⟨b, 0, none⟩)) rfl (fun w h => heldRun_value (by kernel_rfl) h) ?_
  simp only [Act.put, List.setIfInBounds_toArray, List.set_cons_zero, List.set_cons_succ]
  refine wpHeld_cons (.pointer (some ⟨b, 0, none⟩)) rfl (fun w h => heldRun_value (by kernel_rfl) h) ?_
  simp only [Act.put, List.setIfInBounds_toArray, List.set_cons_zero, List.set_cons_succ]
  refine wpHeld_cons (.pointer (some ⟨b, 0, none⟩)) rfl (fun w h => heldRun_value (by kernel_rfl) h) ?_
  simp only [Act.put, List.setIfInBounds_toArray, List.set_cons_zero, List.set_cons_succ]
  refine wpHeld_cons (.pointer (some ⟨b, 0, none⟩)) rfl (fun w h => heldRun_value (by kernel_rfl) h) ?_
  simp only [Act.put, List.setIfInBounds_toArray, List.set_cons_zero, List.set_cons_succ]
  refine wpHeld_cons (.int .u64 0) rfl (fun w h => heldRun_value (run_load_one _ _ _ 35 _ _ rfl b 0 rfl (sum_c0 h.2.1) (by kernel_rfl)) h) ?_
  simp only [Act.put, List.setIfInBounds_toArray, List.set_cons_zero, List.set_cons_succ]
  refine wpHeld_cons (.pointer (some ⟨g, 0, none⟩)) rfl (fun w h => heldRun_value (by kernel_rfl) h) ?_
  simp only [Act.put, List.setIfInBounds_toArray, List.set_cons_zero, List.set_cons_succ]
  refine wpHeld_cons (.int .u64 0) rfl (fun w h => heldRun_value (run_load_one _ _ _ 35 _ _ rfl g 0 rfl (h.2.2.cell 0) (by kernel_rfl)) h) ?_
  simp only [Act.put, List.setIfInBounds_toArray, List.set_cons_zero, List.set_cons_succ]
  refine wpHeld_cons (.tuple #[.int .u64 0, .int .u64 0]) rfl (fun w h => heldRun_value (by kernel_rfl) h) ?_
  simp only [Act.put, List.setIfInBounds_toArray, List.set_cons_zero, List.set_cons_succ]
  refine wpHeld_cons (.tuple #[.int .u64 0, .int .u64 0]) rfl (fun w h => heldRun_value (by kernel_rfl) h) ?_
  simp only [Act.put, List.setIfInBounds_toArray, List.set_cons_zero, List.set_cons_succ]
  refine wpHeld_cons (.int .u64 0) rfl (fun w h => heldRun_value (by kernel_rfl) h) ?_
  simp only [Act.put, List.setIfInBounds_toArray, List.set_cons_zero, List.set_cons_succ]
  refine wpHeld_cons (.int .u64 0) rfl (fun w h => heldRun_value (by kernel_rfl) h) ?_
  simp only [Act.put, List.setIfInBounds_toArray, List.set_cons_zero, List.set_cons_succ]
  refine wpHeld_cons (.pointer (some ⟨b, 0, none⟩)) rfl (fun w h => heldRun_value (by kernel_rfl) h) ?_
  simp only [Act.put, List.setIfInBounds_toArray, List.set_cons_zero, List.set_cons_succ]
  refine wpHeld_cons (.pointer (some ⟨b, 0, none⟩)) rfl (fun w h => heldRun_value (by kernel_rfl) h) ?_
  simp only [Act.put, List.setIfInBounds_toArray, List.set_cons_zero, List.set_cons_succ]
  refine wpHeld_cons (.pointer (some ⟨b, 0, none⟩)) rfl (fun w h => heldRun_value (by kernel_rfl) h) ?_
  simp only [Act.put, List.setIfInBounds_toArray, List.set_cons_zero, List.set_cons_succ]
  refine wpHeld_cons undef rfl (fun w h => heldRun_skip (run_store_one _ _ _ 35 _ _ rfl b 0 rfl .u64 0 rfl size35 (by rw [sum_c0 h.2.1]; rfl) (h.2.1.free _)) (h.store0 NE.out)) ?_
  simp only [Act.put, List.setIfInBounds_toArray, List.set_cons_zero, List.set_cons_succ]
  refine wpHeld_cons (.int .u64 0) rfl (fun w h => heldRun_value (by kernel_rfl) h) ?_
  simp only [Act.put, List.setIfInBounds_toArray, List.set_cons_zero, List.set_cons_succ]
  refine wpHeld_nil ?_
  intro X1 h
  have HT : Hid (S27 b g w rs hl X1) := Lib.hid h
  clear h HS
  have HS := HT
  clear HT
  go_upto_region 3 with (fail)
  refine region_held_all (S27 b g w rs hl) (by kernel_rfl) (by kernel_rfl) HS.out.drew ?_
  refine wpHeld_cons (.pointer (some ⟨b, 0, none⟩)) rfl (fun w h => heldRun_value (by kernel_rfl) h) ?_
  simp only [Act.put, List.setIfInBounds_toArray, List.set_cons_zero, List.set_cons_succ]
  refine wpHeld_cons (.pointer (some ⟨b, 0, none⟩)) rfl (fun w h => heldRun_value (by kernel_rfl) h) ?_
  simp only [Act.put, List.setIfInBounds_toArray, List.set_cons_zero, List.set_cons_succ]
  refine wpHeld_cons (.pointer (some ⟨b, 0, none⟩)) rfl (fun w h => heldRun_value (by kernel_rfl) h) ?_
  simp only [Act.put, List.setIfInBounds_toArray, List.set_cons_zero, List.set_cons_succ]
  refine wpHeld_cons (.pointer (some ⟨b, 0, none⟩)) rfl (fun w h => heldRun_value (by kernel_rfl) h) ?_
  simp only [Act.put, List.setIfInBounds_toArray, List.set_cons_zero, List.set_cons_succ]
  refine wpHeld_cons (.pointer (some ⟨b, 1, none⟩)) rfl (fun w h => heldRun_value (by kernel_rfl) h) ?_
  simp only [Act.put, List.setIfInBounds_toArray, List.set_cons_zero, List.set_cons_succ]
  refine wpHeld_cons (.int .u64 0) rfl (fun w h => heldRun_value (run_load_one _ _ _ 35 _ _ rfl b 1 rfl (sum_c1 h.2.1) (by kernel_rfl)) h) ?_
  simp only [Act.put, List.setIfInBounds_toArray, List.set_cons_zero, List.set_cons_succ]
  refine wpHeld_cons (.pointer (some ⟨g, 1, none⟩)) rfl (fun w h => heldRun_value (by kernel_rfl) h) ?_
  simp only [Act.put, List.setIfInBounds_toArray, List.set_cons_zero, List.set_cons_succ]
  refine wpHeld_cons (.int .u64 0) rfl (fun w h => heldRun_value (run_load_one _ _ _ 35 _ _ rfl g 1 rfl (h.2.2.cell 1) (by kernel_rfl)) h) ?_
  simp only [Act.put, List.setIfInBounds_toArray, List.set_cons_zero, List.set_cons_succ]
  refine wpHeld_cons (.int .u64 0) rfl (fun w h => heldRun_value (by kernel_rfl) h) ?_
  simp only [Act.put, List.setIfInBounds_toArray, List.set_cons_zero, List.set_cons_succ]
  refine wpHeld_cons (.tuple #[.int .u64 0, .int .u64 0]) rfl (fun w h => heldRun_value (by kernel_rfl) h) ?_
  simp only [Act.put, List.setIfInBounds_toArray, List.set_cons_zero, List.set_cons_succ]
  refine wpHeld_cons (.tuple #[.int .u64 0, .int .u64 0]) rfl (fun w h => heldRun_value (by kernel_rfl) h) ?_
  simp only [Act.put, List.setIfInBounds_toArray, List.set_cons_zero, List.set_cons_succ]
  refine wpHeld_cons (.int .u64 0) rfl (fun w h => heldRun_value (by kernel_rfl) h) ?_
  simp only [Act.put, List.setIfInBounds_toArray, List.set_cons_zero, List.set_cons_succ]
  refine wpHeld_cons (.int .u64 0) rfl (fun w h => heldRun_value (by kernel_rfl) h) ?_
  simp only [Act.put, List.setIfInBounds_toArray, List.set_cons_zero, List.set_cons_succ]
  refine wpHeld_cons (.pointer (some ⟨b, 0, none⟩)) rfl (fun w h => heldRun_value (by kernel_rfl) h) ?_
  simp only [Act.put, List.setIfInBounds_toArray, List.set_cons_zero, List.set_cons_succ]
  refine wpHeld_cons (.pointer (some ⟨b, 0, none⟩)) rfl (fun w h => heldRun_value (by kernel_rfl) h) ?_
  simp only [Act.put, List.setIfInBounds_toArray, List.set_cons_zero, List.set_cons_succ]
  refine wpHeld_cons (.pointer (some ⟨b, 1, none⟩)) rfl (fun w h => heldRun_value (by kernel_rfl) h) ?_
  simp only [Act.put, List.setIfInBounds_toArray, List.set_cons_zero, List.set_cons_succ]
  refine wpHeld_cons undef rfl (fun w h => heldRun_skip (run_store_one _ _ _ 35 _ _ rfl b 1 rfl .u64 0 rfl size35 (by rw [sum_c1 h.2.1]; rfl) (h.2.1.free _)) (h.store1 NE.out)) ?_
  simp only [Act.put, List.setIfInBounds_toArray, List.set_cons_zero, List.set_cons_succ]
  refine wpHeld_cons (.int .u64 0) rfl (fun w h => heldRun_value (by kernel_rfl) h) ?_
  simp only [Act.put, List.setIfInBounds_toArray, List.set_cons_zero, List.set_cons_succ]
  refine wpHeld_nil ?_
  intro X2 h
  have HT : Hid (S27 b g w rs hl X2) := Lib.hid h
  clear h HS
  have HS := HT
  clear HT
  go_upto_region 4 with (fail)
  refine region_held_all (S27 b g w rs hl) (by kernel_rfl) (by kernel_rfl) HS.out.drew ?_
  refine wpHeld_cons (.pointer (some ⟨b, 0, none⟩)) rfl (fun w h => heldRun_value (by kernel_rfl) h) ?_
  simp only [Act.put, List.setIfInBounds_toArray, List.set_cons_zero, List.set_cons_succ]
  refine wpHeld_cons (.pointer (some ⟨b, 0, none⟩)) rfl (fun w h => heldRun_value (by kernel_rfl) h) ?_
  simp only [Act.put, List.setIfInBounds_toArray, List.set_cons_zero, List.set_cons_succ]
  refine wpHeld_cons (.pointer (some ⟨b, 0, none⟩)) rfl (fun w h => heldRun_value (by kernel_rfl) h) ?_
  simp only [Act.put, List.setIfInBounds_toArray, List.set_cons_zero, List.set_cons_succ]
  refine wpHeld_cons (.pointer (some ⟨b, 2, none⟩)) rfl (fun w h => heldRun_value (by kernel_rfl) h) ?_
  simp only [Act.put, List.setIfInBounds_toArray, List.set_cons_zero, List.set_cons_succ]
  refine wpHeld_cons (.int .u64 0) rfl (fun w h => heldRun_value (run_load_one _ _ _ 35 _ _ rfl b 2 rfl (sum_c2 h.2.1) (by kernel_rfl)) h) ?_
  simp only [Act.put, List.setIfInBounds_toArray, List.set_cons_zero, List.set_cons_succ]
  refine wpHeld_cons (.int .u64 0) rfl (fun w h => heldRun_value (by kernel_rfl) h) ?_
  simp only [Act.put, List.setIfInBounds_toArray, List.set_cons_zero, List.set_cons_succ]
  refine wpHeld_cons (.int .u64 0) rfl (fun w h => heldRun_value (by kernel_rfl) h) ?_
  simp only [Act.put, List.setIfInBounds_toArray, List.set_cons_zero, List.set_cons_succ]
  refine wpHeld_cons (.pointer (some ⟨b, 0, none⟩)) rfl (fun w h => heldRun_value (by kernel_rfl) h) ?_
  simp only [Act.put, List.setIfInBounds_toArray, List.set_cons_zero, List.set_cons_succ]
  refine wpHeld_cons (.pointer (some ⟨b, 0, none⟩)) rfl (fun w h => heldRun_value (by kernel_rfl) h) ?_
  simp only [Act.put, List.setIfInBounds_toArray, List.set_cons_zero, List.set_cons_succ]
  refine wpHeld_cons (.pointer (some ⟨b, 2, none⟩)) rfl (fun w h => heldRun_value (by kernel_rfl) h) ?_
  simp only [Act.put, List.setIfInBounds_toArray, List.set_cons_zero, List.set_cons_succ]
  refine wpHeld_cons undef rfl (fun w h => heldRun_skip (run_store_one _ _ _ 35 _ _ rfl b 2 rfl .u64 0 rfl size35 (by rw [sum_c2 h.2.1]; rfl) (h.2.1.free _)) (h.store2 NE.out)) ?_
  simp only [Act.put, List.setIfInBounds_toArray, List.set_cons_zero, List.set_cons_succ]
  refine wpHeld_nil ?_
  intro X3 h
  have HT : Hid (S27 b g w rs hl X3) := Lib.hid h
  clear h HS
  have HS := HT
  clear HT
  go_upto_region 5 with (fail)
  go_end0
  exact ⟨rfl, HS.out.1, HS.out.2.1⟩
end Go.Proofs.Ytbgmielhnklkgaa
