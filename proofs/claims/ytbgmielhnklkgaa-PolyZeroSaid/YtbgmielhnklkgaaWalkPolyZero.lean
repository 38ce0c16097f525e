import Derived.Test.YtbgmielhnklkgaaP18
namespace Go.Proofs.Ytbgmielhnklkgaa
open Go.RowKit

def splice : List Value → Nat → List Value → List Value
  | l, _, [] => l
  | l, o, v :: vs => splice (l.set o v) (o + 1) vs
def late (K : Nat → Nat) (j : Nat) : Nat := if j < 16 then 0 else K j
theorem copied {w X : World} {g0 g1 B : Nat} {K : Nat → Nat} (h : Blk X g1 23 #[.int .u8 0, .int .u8 0, .int .u8 0, .int .u8 0, .int .u8 0, .int .u8 0, .int .u8 0, .int .u8 0, .int .u8 0, .int .u8 0, .int .u8 0, .int .u8 0, .int .u8 0, .int .u8 0, .int .u8 0, .int .u8 0, .int .u8 0, .int .u8 0, .int .u8 0, .int .u8 0, .int .u8 0, .int .u8 0, .int .u8 0, .int .u8 0, .int .u8 0, .int .u8 0, .int .u8 0, .int .u8 0, .int .u8 0, .int .u8 0, .int .u8 0, .int .u8 0]) (hk : Blk X g0 23 (keyl K).toArray) (hw : Below B w X) (ne : g0 ≠ g1) (hg : B ≤ g1) :
    Blk (X.setCells g1 16 ((List.range 16).map fun (j : Nat) => Value.int .u8 ((K (16 + j) : Nat) : Int))) g1 23 (keyl (late K)).toArray ∧ Blk (X.setCells g1 16 ((List.range 16).map fun (j : Nat) => Value.int .u8 ((K (16 + j) : Nat) : Int))) g0 23 (keyl K).toArray ∧ Below B w (X.setCells g1 16 ((List.range 16).map fun (j : Nat) => Value.int .u8 ((K (16 + j) : Nat) : Int))) := by
  have gen : ∀ (vs : List Value) (o : Nat) (Z : World) (l : List Value), Blk Z g1 23 l.toArray → Blk Z g0 23 (keyl K).toArray → Below B w Z →
      (∃ l', l' = splice l o vs ∧ Blk (Z.setCells g1 o vs) g1 23 l'.toArray) ∧ Blk (Z.setCells g1 o vs) g0 23 (keyl K).toArray ∧ Below B w (Z.setCells g1 o vs) := by
    intro vs
    induction vs with
    | nil => intro o Z l h1 h2 h3; exact ⟨⟨l, rfl, h1⟩, h2, h3⟩
    | cons v vs ih => intro o Z l h1 h2 h3; exact ih (o + 1) _ _ (h1.set o v) ((heap_setCell_other _ _ _ _ ne).trans h2) (Below.setCell (p := ⟨g1, o, none⟩) h3 hg v)
  obtain ⟨⟨l', e, q⟩, q2, q3⟩ := gen ((List.range 16).map fun (j : Nat) => Value.int .u8 ((K (16 + j) : Nat) : Int)) 16 X _ h hk hw
  refine ⟨?_, q2, q3⟩
  have e2 : l' = keyl (late K) := by rw [e]; kernel_rfl
  rw [e2] at q
  exact q
def lastb (K : Nat → Nat) : List Value := (List.range 16).map fun (j : Nat) => Value.int .u8 ((K (16 + j) : Nat) : Int)
theorem sizeL (K : Nat → Nat) : (Try.prog.info? 26).map (·.size) = some (lastb K).toArray.size := by rw [show (lastb K).toArray.size = 16 by simp [lastb]]; kernel_rfl
theorem szL (K : Nat → Nat) : (#[.int .u8 0, .int .u8 0, .int .u8 0, .int .u8 0, .int .u8 0, .int .u8 0, .int .u8 0, .int .u8 0, .int .u8 0, .int .u8 0, .int .u8 0, .int .u8 0, .int .u8 0, .int .u8 0, .int .u8 0, .int .u8 0] : Array Value).size = (lastb K).toArray.size := by simp [lastb]
theorem oneL (K : Nat → Nat) : (lastb K).toArray.all (·.oneCell') = true := by simp [lastb, Value.oneCell']
theorem size23 (K : Nat → Nat) : (Try.prog.info? 23).map (·.size) = some (keyl K).toArray.size := by rw [show (keyl K).toArray.size = 32 by simp [keyl]]; kernel_rfl
theorem code_late (w : World) (K : Nat → Nat) (hK : ∀ j, K j < 256) (gp : Nat) (a : Option Addr) (n c : Nat) (hp : w.cell? ⟨gp, 0, none⟩ = some (.slice a n c)) (xs : List Int) (hr : Row w a n xs) (hc : n ≤ c) (hn : n ≤ 300) :
    Calls Try.prog 10 #[.agg (keyl (late K)).toArray, .slice (some ⟨gp, 0, none⟩) 1 1] w fun e w' => e = .returned (.agg (lastb K).toArray) ∧ Below w.heap.size w w' := by
  have lK : ∀ j, late K j < 256 := fun j => by
    unfold late
    split
    · omega
    · exact hK j
  have h := code_part w (late K) lK (fun j hj => by unfold late; rw [if_pos hj]) gp a n c hp (fun b hb _ X hX hbl _ => write_row w b n c a xs hr hc hn hb X hX hbl)
  rw [outb_le (late K) lK] at h
  have e : ((List.range 16).map fun (j : Nat) => Value.int .u8 ((late K (16 + j) : Nat) : Int)) = lastb K := by
    unfold lastb
    apply List.map_congr_left
    intro i _
    unfold late
    rw [if_neg (by omega)]
  rw [e] at h
  exact h
set_option maxHeartbeats 1000000 in
theorem walkPolyZero (xs : List Int) (a1 : Option Addr) (n1 c1 : Nat) (z1 : List Int) (lx : xs.length = 32) (wx : ∀ x ∈ xs, (Lit.int .u8 x).wf = true) (w : World) (h1 : IsRow .u8 w a1 n1 c1 z1) :
    Calls Try.prog 3 #[.agg (xs.map (Value.int .u8)).toArray, .slice a1 n1 c1] w fun e w' => e = .returned (.bool true) ∧ Below w.heap.size w w' := by
  obtain ⟨K, hK, eK⟩ := nat_key xs lx wx
  rw [eK]
  have HK := Lib.hid hK
  have H1 := Lib.hid (row_of h1)
  have HC : Hid (n1 ≤ c1) := Lib.hid (by rcases h1 with ⟨_, h, _, _⟩ | ⟨_, _, h, _⟩ <;> omega)
  clear hK eK lx wx h1
  by_cases i1 : 300 < n1
  · have q1 : decide ((300 : Int) < (n1 : Int)) = true := by rw [decide_eq_true_eq]; omega
    go_enter Try.func3, Try.ntmps3
    go_upto_region 1 with (fail)
    obtain ⟨W0, hW0⟩ : ∃ V, V = w.alloc (.cells (keyl K).toArray 23) := ⟨_, rfl⟩
    rw [← hW0]
    have HK0 : Hid (Blk W0 w.heap.size 23 (keyl K).toArray) := Lib.hid (by rw [hW0]; exact Blk.new _ _ _)
    have B0 : Hid (Below w.heap.size w W0) := Lib.hid (by rw [hW0]; exact (Below.refl _ _).alloc (Nat.le_refl _) _)
    clear hW0
    generalize hg0 : w.heap.size = g0 at HK0 ⊢
    have G0 := Lib.hid hg0
    clear hg0
    refine wp_region_lit ?_
    refine wpL_call 9 #[] rfl (by kernel_rfl) ((awake9 W0).mono fun e w1 ⟨he, hb⟩ => ⟨.bool true, he, ?_⟩)
    simp only [Act.put, List.setIfInBounds_toArray, List.set_cons_zero, List.set_cons_succ]
    have B1 : Hid (Below w.heap.size w w1) := Lib.hid (B0.out.trans (hb.mono B0.out.size))
    have K1 : Hid (Blk w1 g0 23 (keyl K).toArray) := Lib.hid (HK0.out.keep hb HK0.out.lt)
    clear hb B0 HK0
    refine wpL_pure (.bool false) rfl (by kernel_rfl) ?_
    simp only [Act.put, List.setIfInBounds_toArray, List.set_cons_zero, List.set_cons_succ]
    refine wpL_pure (.bool false) rfl (by kernel_rfl) ?_
    simp only [Act.put, List.setIfInBounds_toArray, List.set_cons_zero, List.set_cons_succ]
    refine wpL_pure (.slice a1 n1 c1) rfl (by kernel_rfl) ?_
    simp only [Act.put, List.setIfInBounds_toArray, List.set_cons_zero, List.set_cons_succ]
    refine wpL_pure (.int .i64 (n1 : Int)) rfl (by kernel_rfl) ?_
    simp only [Act.put, List.setIfInBounds_toArray, List.set_cons_zero, List.set_cons_succ]
    refine wpL_pure (.bool true) rfl (run_gtr300 _ _ _ _ n1 _ rfl rfl q1) ?_
    simp only [Act.put, List.setIfInBounds_toArray, List.set_cons_zero, List.set_cons_succ]
    refine wpL_pure (.bool true) rfl (by kernel_rfl) ?_
    simp only [Act.put, List.setIfInBounds_toArray, List.set_cons_zero, List.set_cons_succ]
    go_upto_region 2 with (fail)
    refine wp_region_lit ?_
    refine wpL_call 9 #[] rfl (by kernel_rfl) ((awake9 w1).mono fun e w2 ⟨he, hb⟩ => ⟨.bool true, he, ?_⟩)
    simp only [Act.put, List.setIfInBounds_toArray, List.set_cons_zero, List.set_cons_succ]
    refine wpL_pure (.bool true) rfl (by kernel_rfl) ?_
    simp only [Act.put, List.setIfInBounds_toArray, List.set_cons_zero, List.set_cons_succ]
    go_wp2_with fail
    go_ret
    exact ⟨rfl, B1.out.trans (hb.mono B1.out.size)⟩
  · have q1 : decide ((300 : Int) < (n1 : Int)) = false := by rw [decide_eq_false_iff_not]; omega
    go_enter Try.func3, Try.ntmps3
    go_upto_region 1 with (fail)
    obtain ⟨W0, hW0⟩ : ∃ V, V = w.alloc (.cells (keyl K).toArray 23) := ⟨_, rfl⟩
    rw [← hW0]
    have HK0 : Hid (Blk W0 w.heap.size 23 (keyl K).toArray) := Lib.hid (by rw [hW0]; exact Blk.new _ _ _)
    have B0 : Hid (Below w.heap.size w W0) := Lib.hid (by rw [hW0]; exact (Below.refl _ _).alloc (Nat.le_refl _) _)
    clear hW0
    generalize hg0 : w.heap.size = g0 at HK0 ⊢
    have G0 := Lib.hid hg0
    clear hg0
    refine wp_region_lit ?_
    refine wpL_call 9 #[] rfl (by kernel_rfl) ((awake9 W0).mono fun e w1 ⟨he, hb⟩ => ⟨.bool true, he, ?_⟩)
    simp only [Act.put, List.setIfInBounds_toArray, List.set_cons_zero, List.set_cons_succ]
    have B1 : Hid (Below w.heap.size w w1) := Lib.hid (B0.out.trans (hb.mono B0.out.size))
    have K1 : Hid (Blk w1 g0 23 (keyl K).toArray) := Lib.hid (HK0.out.keep hb HK0.out.lt)
    clear hb B0 HK0
    refine wpL_pure (.bool false) rfl (by kernel_rfl) ?_
    simp only [Act.put, List.setIfInBounds_toArray, List.set_cons_zero, List.set_cons_succ]
    refine wpL_pure (.bool false) rfl (by kernel_rfl) ?_
    simp only [Act.put, List.setIfInBounds_toArray, List.set_cons_zero, List.set_cons_succ]
    refine wpL_pure (.slice a1 n1 c1) rfl (by kernel_rfl) ?_
    simp only [Act.put, List.setIfInBounds_toArray, List.set_cons_zero, List.set_cons_succ]
    refine wpL_pure (.int .i64 (n1 : Int)) rfl (by kernel_rfl) ?_
    simp only [Act.put, List.setIfInBounds_toArray, List.set_cons_zero, List.set_cons_succ]
    refine wpL_pure (.bool false) rfl (run_gtr300 _ _ _ _ n1 _ rfl rfl q1) ?_
    simp only [Act.put, List.setIfInBounds_toArray, List.set_cons_zero, List.set_cons_succ]
    refine wpL_pure (.bool false) rfl (by kernel_rfl) ?_
    simp only [Act.put, List.setIfInBounds_toArray, List.set_cons_zero, List.set_cons_succ]
    go_upto_region 3 with (fail)
    refine wp_region_lit ?_
    refine wpL_value (.pointer (some ⟨w1.heap.size, 0, none⟩)) (w1.alloc (.cells #[.int .u8 0, .int .u8 0, .int .u8 0, .int .u8 0, .int .u8 0, .int .u8 0, .int .u8 0, .int .u8 0, .int .u8 0, .int .u8 0, .int .u8 0, .int .u8 0, .int .u8 0, .int .u8 0, .int .u8 0, .int .u8 0, .int .u8 0, .int .u8 0, .int .u8 0, .int .u8 0, .int .u8 0, .int .u8 0, .int .u8 0, .int .u8 0, .int .u8 0, .int .u8 0, .int .u8 0, .int .u8 0, .int .u8 0, .int .u8 0, .int .u8 0, .int .u8 0] 23)) rfl (by kernel_rfl) ?_
    simp only [Act.put, List.setIfInBounds_toArray, List.set_cons_zero, List.set_cons_succ]
    obtain ⟨W2, hW2⟩ : ∃ V, V = w1.alloc (.cells #[.int .u8 0, .int .u8 0, .int .u8 0, .int .u8 0, .int .u8 0, .int .u8 0, .int .u8 0, .int .u8 0, .int .u8 0, .int .u8 0, .int .u8 0, .int .u8 0, .int .u8 0, .int .u8 0, .int .u8 0, .int .u8 0, .int .u8 0, .int .u8 0, .int .u8 0, .int .u8 0, .int .u8 0, .int .u8 0, .int .u8 0, .int .u8 0, .int .u8 0, .int .u8 0, .int .u8 0, .int .u8 0, .int .u8 0, .int .u8 0, .int .u8 0, .int .u8 0] 23) := ⟨_, rfl⟩
    rw [← hW2]
    have ZB : Hid (Blk W2 w1.heap.size 23 #[.int .u8 0, .int .u8 0, .int .u8 0, .int .u8 0, .int .u8 0, .int .u8 0, .int .u8 0, .int .u8 0, .int .u8 0, .int .u8 0, .int .u8 0, .int .u8 0, .int .u8 0, .int .u8 0, .int .u8 0, .int .u8 0, .int .u8 0, .int .u8 0, .int .u8 0, .int .u8 0, .int .u8 0, .int .u8 0, .int .u8 0, .int .u8 0, .int .u8 0, .int .u8 0, .int .u8 0, .int .u8 0, .int .u8 0, .int .u8 0, .int .u8 0, .int .u8 0]) := Lib.hid (by rw [hW2]; exact Blk.new _ _ _)
    have K2 : Hid (Blk W2 g0 23 (keyl K).toArray) := Lib.hid (by rw [hW2]; exact K1.out.alloc _)
    have B2 : Hid (Below w.heap.size w W2) := Lib.hid (by rw [hW2]; exact B1.out.alloc B1.out.size _)
    have NE : Hid (g0 ≠ w1.heap.size ∧ w.heap.size ≤ w1.heap.size) := Lib.hid ⟨Nat.ne_of_lt K1.out.lt, B1.out.size⟩
    clear hW2 K1 B1
    generalize w1.heap.size = g1 at *
    go_upto_region 4 with (fail)
    refine region_held (fun X => Below w.heap.size w X ∧ Blk X g0 23 (keyl K).toArray ∧ Blk X g1 23 #[.int .u8 0, .int .u8 0, .int .u8 0, .int .u8 0, .int .u8 0, .int .u8 0, .int .u8 0, .int .u8 0, .int .u8 0, .int .u8 0, .int .u8 0, .int .u8 0, .int .u8 0, .int .u8 0, .int .u8 0, .int .u8 0, .int .u8 0, .int .u8 0, .int .u8 0, .int .u8 0, .int .u8 0, .int .u8 0, .int .u8 0, .int .u8 0, .int .u8 0, .int .u8 0, .int .u8 0, .int .u8 0, .int .u8 0, .int .u8 0, .int .u8 0, .int .u8 0]) 2 (by kernel_rfl) (by kernel_rfl) ⟨B2.out.drew, K2.out, ZB.out⟩ ?_
    simp only [List.take_succ_cons, List.take_zero, List.drop_succ_cons, List.drop_zero]
    refine wpHeld_cons (.slice (some ⟨g1, 16, none⟩) 16 16) rfl (fun w h => heldRun_value (by kernel_rfl) h) ?_
    simp only [Act.put, List.setIfInBounds_toArray, List.set_cons_zero, List.set_cons_succ]
    refine wpHeld_cons (.slice (some ⟨g0, 16, none⟩) 16 16) rfl (fun w h => heldRun_value (by kernel_rfl) h) ?_
    simp only [Act.put, List.setIfInBounds_toArray, List.set_cons_zero, List.set_cons_succ]
    refine wpHeld_nil ?_
    intro X h
    have CP := Lib.hid (run_copy_cells (P := Try.prog) X 24 24 3 5 g1 16 16 16 ⟨g0, 16, none⟩ 16 16 ((List.range 16).map fun (j : Nat) => Value.int .u8 ((K (16 + j) : Nat) : Int)) Try.underlying24 (by kernel_rfl) (by simp) (fun j v hv => by
        rw [List.getElem?_map] at hv
        have hj : j < 16 := by
          rcases Nat.lt_or_ge j 16 with hj | hj
          · exact hj
          · rw [List.getElem?_eq_none (by simp; omega)] at hv; cases hv
        rw [List.getElem?_range hj] at hv
        rw [Addr.add_lit, key_cell h.2.1 (16 + j) (by omega), ← hv]
        rfl) (fun j hj => by
        simp at hj
        rw [h.2.2.cell, Array.getElem?_eq_getElem (by simp; omega)]
        rfl) (fun j _ => h.2.2.free _) (by intro v hv; obtain ⟨x, _, rfl⟩ := List.mem_map.1 hv; rfl))
    obtain ⟨Y, hY⟩ : ∃ Y, Y = X.setCells g1 16 ((List.range 16).map fun (j : Nat) => Value.int .u8 ((K (16 + j) : Nat) : Int)) := ⟨_, rfl⟩
    rw [← hY] at CP
    have K3 : Hid (Blk Y g1 23 (keyl (late K)).toArray ∧ Blk Y g0 23 (keyl K).toArray ∧ Below w.heap.size w Y) := Lib.hid (by rw [hY]; exact copied h.2.2 h.2.1 h.1 NE.out.1 NE.out.2)
    clear hY h ZB K2 B2
    refine wpL_value (.int .i64 16) Y rfl (run_cpy _ _ _ _ _ _ _ _ _ rfl rfl rfl rfl CP.out) ?_
    simp only [Act.put, List.setIfInBounds_toArray, List.set_cons_zero, List.set_cons_succ]
    clear CP
    go_upto_region 5 with (fail)
    refine wp_region_lit ?_
    refine wpList_load_row rfl 23 _ rfl g1 rfl 23 _ (0, 0) _ K3.out.1 Try.underlying23 rfl (size23 _) ?_
    simp only [Act.put, List.setIfInBounds_toArray, List.set_cons_zero, List.set_cons_succ]
    refine wpL_pure (.slice a1 n1 c1) rfl (by kernel_rfl) ?_
    simp only [Act.put, List.setIfInBounds_toArray, List.set_cons_zero, List.set_cons_succ]
    refine wpL_value (.slice (some ⟨Y.heap.size, 0, none⟩) 1 1) (Y.alloc (.cells #[.slice a1 n1 c1] 24)) rfl (by kernel_rfl) ?_
    simp only [Act.put, List.setIfInBounds_toArray, List.set_cons_zero, List.set_cons_succ]
    refine wpL_call 10 #[.agg (keyl (late K)).toArray, .slice (some ⟨Y.heap.size, 0, none⟩) 1 1] rfl (by kernel_rfl) ((code_late (Y.alloc (.cells #[.slice a1 n1 c1] 24)) K HK.out Y.heap.size a1 n1 c1 (cell_new _ _ _ 0) _ (H1.out.below w.heap.size (K3.out.2.2.alloc K3.out.2.2.size _) (Nat.le_refl _)) HC.out (by omega)).mono fun e V ⟨he, hb⟩ => ⟨_, he, ?_⟩)
    simp only [Act.put, List.setIfInBounds_toArray, List.set_cons_zero, List.set_cons_succ]
    have K4 : Hid (Blk V g0 23 (keyl K).toArray) := Lib.hid ((K3.out.2.1.alloc _).keep hb (K3.out.2.1.alloc _).lt)
    have B4 : Hid (Below w.heap.size w V) := Lib.hid ((K3.out.2.2.alloc K3.out.2.2.size _).trans (hb.mono (Nat.le_trans K3.out.2.2.size (by simp))))
    clear hb K3
    refine wpL_value (.pointer (some ⟨V.heap.size, 0, none⟩)) (V.alloc (.cells #[.int .u8 0, .int .u8 0, .int .u8 0, .int .u8 0, .int .u8 0, .int .u8 0, .int .u8 0, .int .u8 0, .int .u8 0, .int .u8 0, .int .u8 0, .int .u8 0, .int .u8 0, .int .u8 0, .int .u8 0, .int .u8 0] 26)) rfl (by kernel_rfl) ?_
    simp only [Act.put, List.setIfInBounds_toArray, List.set_cons_zero, List.set_cons_succ]
    refine wpList_store_row rfl 26 _ _ rfl V.heap.size _ rfl rfl 26 _ (Blk.new V 26 #[.int .u8 0, .int .u8 0, .int .u8 0, .int .u8 0, .int .u8 0, .int .u8 0, .int .u8 0, .int .u8 0, .int .u8 0, .int .u8 0, .int .u8 0, .int .u8 0, .int .u8 0, .int .u8 0, .int .u8 0, .int .u8 0]) (sizeL K) (szL K) (oneL K) ?_
    obtain ⟨U, hU⟩ : ∃ U, U = (V.alloc (.cells #[.int .u8 0, .int .u8 0, .int .u8 0, .int .u8 0, .int .u8 0, .int .u8 0, .int .u8 0, .int .u8 0, .int .u8 0, .int .u8 0, .int .u8 0, .int .u8 0, .int .u8 0, .int .u8 0, .int .u8 0, .int .u8 0] 26)).setRow V.heap.size (lastb K).toArray := ⟨_, rfl⟩
    rw [← hU]
    have R5 : Hid (Blk U V.heap.size 26 (lastb K).toArray) := Lib.hid (by rw [hU]; exact setRow_heap _ _ _ _ _ _ (Blk.new V 26 #[.int .u8 0, .int .u8 0, .int .u8 0, .int .u8 0, .int .u8 0, .int .u8 0, .int .u8 0, .int .u8 0, .int .u8 0, .int .u8 0, .int .u8 0, .int .u8 0, .int .u8 0, .int .u8 0, .int .u8 0, .int .u8 0]))
    have K5 : Hid (Blk U g0 23 (keyl K).toArray) := Lib.hid (by rw [hU]; exact (setRow_other _ _ _ _ (Nat.ne_of_lt K4.out.lt)).trans (K4.out.alloc _))
    have B5 : Hid (Below w.heap.size w U) := Lib.hid (by rw [hU]; exact below_setRow (B4.out.alloc B4.out.size _) B4.out.size _)
    clear hU K4 B4
    generalize V.heap.size = g6 at *
    go_upto_region 6 with (fail)
    refine region_held (fun X => Below w.heap.size w X ∧ Blk X g0 23 (keyl K).toArray ∧ Blk X g6 26 (lastb K).toArray) 5 (by kernel_rfl) (by kernel_rfl) ⟨B5.out.drew, K5.out, R5.out⟩ ?_
    simp only [List.take_succ_cons, List.take_zero, List.drop_succ_cons, List.drop_zero]
    refine wpHeld_cons (.slice (some ⟨g6, 0, none⟩) 16 16) rfl (fun w h => heldRun_value (by kernel_rfl) h) ?_
    simp only [Act.put, List.setIfInBounds_toArray, List.set_cons_zero, List.set_cons_succ]
    refine wpHeld_cons (.string (strOfNums ((List.range 16).map fun (j : Nat) => ((K (16 + j) : Nat) : Int)))) rfl (fun w h => heldRun_value (run_cnv _ _ _ _ _ _ rfl rfl (conv_row _ _ 16 16 _ (row_ints (K := fun j => K (16 + j)) (fun j => HK.out _) (fun j hj => by rw [Nat.zero_add, h.2.2.cell]; simp [lastb, List.getElem?_range hj])))) h) ?_
    simp only [Act.put, List.setIfInBounds_toArray, List.set_cons_zero, List.set_cons_succ]
    refine wpHeld_cons (.slice (some ⟨g0, 16, none⟩) 16 16) rfl (fun w h => heldRun_value (by kernel_rfl) h) ?_
    simp only [Act.put, List.setIfInBounds_toArray, List.set_cons_zero, List.set_cons_succ]
    refine wpHeld_cons (.string (strOfNums ((List.range 16).map fun (j : Nat) => ((K (16 + j) : Nat) : Int)))) rfl (fun w h => heldRun_value (run_cnv _ _ _ _ _ _ rfl rfl (conv_row _ _ 16 16 _ (row_ints (K := fun j => K (16 + j)) (fun j => HK.out _) (fun j hj => key_cell h.2.1 (16 + j) (by omega))))) h) ?_
    simp only [Act.put, List.setIfInBounds_toArray, List.set_cons_zero, List.set_cons_succ]
    refine wpHeld_cons (.bool true) rfl (fun w h => heldRun_value (run_eqs _ _ _ _ _ _ rfl rfl rfl) h) ?_
    simp only [Act.put, List.setIfInBounds_toArray, List.set_cons_zero, List.set_cons_succ]
    refine wpHeld_nil ?_
    intro X h
    have HX := Lib.hid h.1
    clear h
    go_wp2_with fail
    go_ret
    exact ⟨rfl, HX.out⟩
end Go.Proofs.Ytbgmielhnklkgaa
