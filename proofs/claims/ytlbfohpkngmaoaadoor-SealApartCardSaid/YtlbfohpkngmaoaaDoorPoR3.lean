/- The reference: products, and whether a number is less than 2^130 - 5. -/
import Derived.Test.YtlbfohpkngmaoaaDoorPoR2
import Derived.Deep.OwnRows
namespace Go.Proofs.YtlbfohpkngmaoaaDoor.Po
open Go Go.RowKit
theorem size3' (w : World) : (sizeOf 3).run Tryd.prog w = .ok 1 w := by kernel_rfl
def nv (l : List Nat) : List Value := l.map fun (x : Nat) => Value.int .i64 (x : Int)
theorem nv_set (l : List Nat) (j x : Nat) : nv (l.set j x) = (nv l).set j (.int .i64 ((x : Nat) : Int)) := by simp [nv, List.map_set]
theorem nv_cell {w : World} {g : Nat} {l : List Nat} (h : Blk w g 3 (nv l).toArray) {j : Nat} (hj : j < l.length) : w.cell? ⟨g, 0 + j, none⟩ = some (.int .i64 ((l.getD j 0 : Nat) : Int)) := by
 rw [h.cell, Nat.zero_add]
 simp [nv, List.getD, List.getElem?_eq_getElem hj, hj]
theorem run_mk43 (a : Act) (o : Oper) (w w1 : World) (x : Operand) (m : Nat) (ho : o.op = .makeSlice 108 x x) (hx : a.eval x = .int .i64 (m : Int)) (hB : m ≤ 100000) (h1 : w1 = w.alloc (.cells (nv (List.replicate m 0)).toArray 3)) :
  (execOp a.eval o).run Tryd.prog w = .ok (.value (.slice (some ⟨w.heap.size, 0, none⟩) m m)) w1 := by
 have r := run_make_row' (P := Tryd.prog) 108 3 (.int .i64 0) 8 Tryd.underlying108 (by kernel_rfl) rfl .i64 .i64 m (by omega) (by omega) w
 have e : madeCells #[Value.int .i64 0] m = (nv (List.replicate m 0)).toArray := by
  apply Array.ext_getElem?
  intro i
  unfold madeCells nv
  rw [List.map_replicate]
  simp only [List.getElem?_toArray, List.getElem?_replicate, Array.getElem?_map, Array.getElem?_range]
  split <;> simp [Nat.mod_one]
 rw [e] at r
 subst h1
 unfold execOp
 simp only [ho, hx, Sem.run_bind, r, Result.andThen_ok, Sem.run_pure]
theorem lim_zeros (B m : Nat) : Lim B (List.replicate m 0) := by
 intro j
 by_cases h : j < m
 ·simp [List.getD, h]
 ·rw [List.getD, List.getElem?_eq_none (by simp; omega)]; simp
def CInv (K : Nat) (os : List Nat) (i : Nat) : Prop := (∀ j, j < i → os.getD j 0 < 256) ∧ os.getD i 0 ≤ 2 * K ∧ ∀ j, i < j → os.getD j 0 ≤ K
theorem cinv_zero {K B : Nat} {os : List Nat} (h : Lim B os) (hB : B ≤ K) : CInv K os 0 := ⟨fun j hj => by omega, by have := h 0; omega, fun j _ => by have := h j; omega⟩
theorem CInv.step {K i : Nat} {os : List Nat} (h : CInv K os i) (hi : i + 1 < os.length) (hK : 256 ≤ K) : CInv K ((os.set (i + 1) (os.getD (i + 1) 0 + os.getD i 0 / 256)).set i (os.getD i 0 % 256)) (i + 1) := by
 obtain ⟨a1, a2, a3⟩ := h
 refine ⟨fun j hj => ?_, ?_, fun j hj => ?_⟩
 ·by_cases e : i = j
  ·subst e
   rw [getD_set_self (by simp; omega)]
   omega
  ·rw [getD_set_ne e, getD_set_ne (by omega)]
   exact a1 j (by omega)
 ·rw [getD_set_ne (by omega), getD_set_self hi]
  have := a3 (i + 1) (by omega)
  omega
 ·rw [getD_set_ne (by omega), getD_set_ne (by omega)]
  exact a3 j (by omega)
theorem CInv.done {K i m : Nat} {os : List Nat} (h : CInv K os i) (hm : os.length = m) (hi : i + 1 = m) (hl : os.getD (m - 1) 0 = 0) : ∀ z ∈ os, z < 256 := by
 intro z hz
 obtain ⟨j, hj, rfl⟩ := List.mem_iff_getElem.1 hz
 have e : os.getD j 0 = os[j] := by simp [List.getD, hj]
 by_cases e2 : j = i
 ·rw [show m - 1 = i by omega, ← e2, e] at hl
  omega
 ·have := h.1 j (by omega)
  omega
theorem ipst_blk {w W : World} {g m : Nat} {os : List Nat} (hB : Below g w W) (hg : w.heap.size = g) (h : Blk W g 3 (nv os).toArray) (hl : os.length = m) (hm : m ≤ 100000) : IPSt w W (.slice (some ⟨g, 0, none⟩) m m) os := by
 refine ⟨⟨⟨by simp [ni, hl], .inr ⟨g, m, _, by rw [ni_len, hl], by omega, h, by rw [ni_len]; omega, by unfold maxLen; omega, by simp [nv, hl], ?_⟩⟩, trivial⟩, by rw [hg]; exact hB⟩
 rw [ni_len, hl, Nat.mul_one]
 simp [nv, ni, hl, List.take_of_length_le]
attribute [local irreducible] wpList
set_option maxRecDepth 100000 in
set_option maxHeartbeats 8000000 in
theorem refmul_any (w : World) (a b : Option Addr) (la ca lb cb : Nat) (xs ys : List Nat) (hx : I.Row w a la (ni xs)) (hy : I.Row w b lb (ni ys)) (dx : ∀ x ∈ xs, x < 256) (dy : ∀ y ∈ ys, y < 256) (hl : la ≤ 200 ∧ lb ≤ 200) :
  Calls Tryd.prog 46 #[.slice a la ca, .slice b lb cb] w fun e w' => ∃ g zs, e = .returned (.slice (some ⟨g, 0, none⟩) (la + lb + 1) (la + lb + 1)) ∧ IPSt w w' (.slice (some ⟨g, 0, none⟩) (la + lb + 1) (la + lb + 1)) zs ∧ zs.length = la + lb + 1 ∧ (∀ z ∈ zs, z < 256) ∧ vd zs = vd xs * vd ys := by
 have HX := Lib.hid hx
 have HY := Lib.hid hy
 have DX := Lib.hid dx
 have DY := Lib.hid dy
 have LN := Lib.hid hl
 have LX : Hid (xs.length = la) := Lib.hid (by rw [← ni_len]; exact hx.1)
 have LY : Hid (ys.length = lb) := Lib.hid (by rw [← ni_len]; exact hy.1)
 clear hx hy dx dy hl
 go_enter Tryd.func46, Tryd.ntmps46
 go_upto_region 0 with (fail)
 refine wp_region_lit ?_
 refine zP (.slice none 0 0) ?_
 obtain ⟨w1, hw1⟩ : ∃ V, V = w.alloc (.cells (nv (List.replicate (la + lb + 1) 0)).toArray 3) := ⟨_, rfl⟩
 have B1 : Hid (Below w.heap.size w w1 ∧ Blk w1 w.heap.size 3 (nv (List.replicate (la + lb + 1) 0)).toArray) := Lib.hid (by rw [hw1]; exact ⟨(Below.refl _ _).alloc (Nat.le_refl _) _, Blk.new _ _ _⟩)
 have HW1 := Lib.hid hw1
 clear hw1
 go_upto_region 1 with (fail)
 refine wp_region_lit ?_
 refine zP (.slice a la ca) ?_
 refine zP (.int .i64 (la : Int)) ?_
 refine zP (.slice b lb cb) ?_
 refine zP (.int .i64 (lb : Int)) ?_
 refine zQ (.int .i64 ((la + lb : Nat) : Int)) (run_addi Tryd.underlying3 rfl rfl rfl _ (by have := LN.out; rw [wrap_in _ (by omega) (by omega)]; omega)) ?_
 refine zQ (.int .i64 ((la + lb + 1 : Nat) : Int)) (run_addi Tryd.underlying3 rfl rfl rfl _ (by have := LN.out; rw [wrap_in _ (by omega) (by omega)]; omega)) ?_
 refine zV (.slice (some ⟨w.heap.size, 0, none⟩) (la + lb + 1) (la + lb + 1)) (w1) (run_mk43 _ _ _ _ _ (la + lb + 1) rfl rfl (by have := LN.out; omega) HW1.out) ?_
 refine zP (.slice (some ⟨w.heap.size, 0, none⟩) (la + lb + 1) (la + lb + 1)) ?_
 clear HW1
 obtain ⟨g, hg⟩ : ∃ q, w.heap.size = q := ⟨_, rfl⟩
 have G := Lib.hid hg
 rw [hg] at B1
 try rw [hg]
 clear hg
 obtain ⟨m, hm⟩ : ∃ q, la + lb + 1 = q := ⟨_, rfl⟩
 have M := Lib.hid hm
 rw [hm] at B1
 try rw [hm]
 clear hm
 go_upto_region 2 with (fail)
 refine wp_region_lit ?_
 refine zP (.int .i64 0) ?_
 go_wp2_with fail
 go_loopw [6] (fun s6 wr => ∃ (i : Nat) (os : List Nat), s6 = .int .i64 ((i : Nat) : Int) ∧ Hid (i ≤ la ∧ os.length = m ∧ Below g w wr ∧ Blk wr g 3 (nv os).toArray ∧ vd os = vd (xs.take i) * vd ys ∧ Lim ((i * lb) * 65025) os)) (fun s6 _ => la - (intOf s6).toNat)
 case atStart => exact ⟨0, _, rfl, Lib.hid ⟨by omega, by rw [List.length_replicate], B1.out.1, B1.out.2, by simp [vd, vd_zeros], lim_zeros _ _⟩⟩
 case round =>
  clear B1
  obtain ⟨i, os0, rfl, RI⟩ := hrel
  by_cases hlt : i < la
  ·have HK := Lib.hid hlt
   clear hlt
   have IL : Hid (i * lb ≤ 40000 ∧ (i + 1) * lb = i * lb + lb) := Lib.hid ⟨Nat.le_trans (Nat.mul_le_mul (show i ≤ 200 by have := HK.out; have := LN.out; omega) LN.out.2) (by decide), by rw [Nat.add_mul, Nat.one_mul]⟩
   obtain ⟨il, hil⟩ : ∃ q, i * lb = q := ⟨_, rfl⟩
   rw [hil] at IL RI
   obtain ⟨g1, o1, ea, hca⟩ := ni_cell HX.out HK.out
   have EA := Lib.hid ea
   obtain ⟨xa, hxa⟩ : ∃ q, xs.getD i 0 = q := ⟨_, rfl⟩
   rw [hxa] at hca
   have CA : Hid (∀ X, Below g w X → X.cell? ⟨g1, o1 + i, none⟩ = some (.int .i64 ((xa : Nat) : Int))) := Lib.hid (fun X h => (h.cell (p := ⟨g1, o1 + i, none⟩) (by rw [← G.out]; exact World.block_lt_of_cell? w _ hca)).trans hca)
   have XA : Hid (xs.getD i 0 = xa ∧ xa < 256) := Lib.hid ⟨hxa, by rw [← hxa]; exact getD_lt DX.out i⟩
   have IL2 := Lib.hid hil
   clear ea hca hxa hil
   go_upto_region 3 with (fail)
   refine wp_region_lit ?_
   refine zP (.int .i64 ((i : Nat) : Int)) ?_
   refine zP (.slice a la ca) ?_
   refine zP (.int .i64 (la : Int)) ?_
   refine zQ (.bool true) (run_lti Tryd.underlying3 rfl rfl rfl (by have := HK.out; rw [decide_eq_true_eq]; omega)) ?_
   go_upto_region 5 with (fail)
   refine wp_region_lit ?_
   refine zP (.int .i64 0) ?_
   have RX := RI
   clear RI
   skip
   go_wp2_with fail
   go_loopw [7] (fun s7 wq => ∃ (k : Nat) (os : List Nat), s7 = .int .i64 ((k : Nat) : Int) ∧ Hid (k ≤ lb ∧ os.length = m ∧ Below g w wq ∧ Blk wq g 3 (nv os).toArray ∧ vd os = vd (xs.take i) * vd ys + 256 ^ i * xs.getD i 0 * vd (ys.take k) ∧ Lim ((il + k) * 65025) os)) (fun s7 _ => lb - (intOf s7).toNat)
   case atStart => exact ⟨0, os0, rfl, Lib.hid ⟨by omega, RX.out.2.1, RX.out.2.2.1, RX.out.2.2.2.1, by rw [RX.out.2.2.2.2.1]; simp [vd], by rw [Nat.add_zero]; exact RX.out.2.2.2.2.2⟩⟩
   case round =>
    obtain ⟨k, os, rfl, RJ⟩ := hrel
    by_cases hlt2 : k < lb
    ·have HK2 := Lib.hid hlt2
     clear hlt2
     obtain ⟨g2, o2, eb, hcb⟩ := ni_cell HY.out HK2.out
     have EB := Lib.hid eb
     obtain ⟨yb, hyb⟩ : ∃ q, ys.getD k 0 = q := ⟨_, rfl⟩
     rw [hyb] at hcb
     have CB : Hid (∀ X, Below g w X → X.cell? ⟨g2, o2 + k, none⟩ = some (.int .i64 ((yb : Nat) : Int))) := Lib.hid (fun X h => (h.cell (p := ⟨g2, o2 + k, none⟩) (by rw [← G.out]; exact World.block_lt_of_cell? w _ hcb)).trans hcb)
     have YB : Hid (ys.getD k 0 = yb ∧ yb < 256) := Lib.hid ⟨hyb, by rw [← hyb]; exact getD_lt DY.out k⟩
     obtain ⟨ov, hov⟩ : ∃ q, os.getD (i + k) 0 = q := ⟨_, rfl⟩
     obtain ⟨pr, hpr⟩ : ∃ q, xa * yb = q := ⟨_, rfl⟩
     have PR : Hid (pr ≤ 65025 ∧ ov ≤ (il + k) * 65025 ∧ xa * yb = pr) := Lib.hid ⟨by rw [← hpr]; exact Nat.le_trans (Nat.mul_le_mul (show xa ≤ 255 by have := XA.out; omega) (show yb ≤ 255 by have := YB.out; omega)) (by decide), by rw [← hov]; exact RJ.out.2.2.2.2.2 _, hpr⟩
     have OV := Lib.hid hov
     have CO : Hid (∀ X, Blk X g 3 (nv os).toArray → X.cell? ⟨g, 0 + (i + k), none⟩ = some (.int .i64 ((ov : Nat) : Int))) := Lib.hid (fun X h => by rw [← hov]; exact nv_cell h (by have := HK.out; have := HK2.out; have := M.out; have := RJ.out.2.1; omega))
     have IX : Hid (i + k < m ∧ m ≤ 401) := Lib.hid (by have := HK.out; have := HK2.out; have := M.out; have := LN.out; omega)
     clear eb hcb hyb hov hpr
     go_upto_region 6 with (fail)
     refine wp_region_lit ?_
     refine zP (.int .i64 ((k : Nat) : Int)) ?_
     refine zP (.slice b lb cb) ?_
     refine zP (.int .i64 (lb : Int)) ?_
     refine zQ (.bool true) (run_lti Tryd.underlying3 rfl rfl rfl (by have := HK2.out; rw [decide_eq_true_eq]; omega)) ?_
     go_upto_region 8 with (fail)
     refine region_held (fun X => Below g w X ∧ Blk X g 3 (nv os).toArray) 17 (by kernel_rfl) (by kernel_rfl) (⟨RJ.out.2.2.1.drew, RJ.out.2.2.2.1.drew⟩) ?_
     simp only [List.take_succ_cons, List.take_zero, List.drop_succ_cons, List.drop_zero]
     refine zH (.slice (some ⟨g, 0, none⟩) m m) (fun w h => heldRun_value (by kernel_rfl) h) ?_
     refine zH (.int .i64 ((i : Nat) : Int)) (fun w h => heldRun_value (by kernel_rfl) h) ?_
     refine zH (.int .i64 ((k : Nat) : Int)) (fun w h => heldRun_value (by kernel_rfl) h) ?_
     refine zH (.int .i64 ((i + k : Nat) : Int)) (fun w h => heldRun_value (run_addi Tryd.underlying3 rfl rfl rfl _ (by have := IX.out; rw [wrap_in _ (by omega) (by omega)]; omega)) h) ?_
     refine zH (.pointer (some ⟨g, 0 + (i + k), none⟩)) (fun w h => heldRun_value (I.run_idx _ _ _ _ _ g 0 m m (i + k) rfl rfl rfl IX.out.1 (by have := IX.out; unfold maxLen; omega)) h) ?_
     refine zH (.int .i64 ((ov : Nat) : Int)) (fun w h => heldRun_value (run_load_one _ _ _ 3 _ _ rfl (g) (0 + (i + k)) rfl (CO.out _ h.2) (by kernel_rfl)) h) ?_
     refine zH (.slice a la ca) (fun w h => heldRun_value (by kernel_rfl) h) ?_
     refine zH (.int .i64 ((i : Nat) : Int)) (fun w h => heldRun_value (by kernel_rfl) h) ?_
     refine zH (.pointer (some ⟨g1, o1 + i, none⟩)) (fun w h => heldRun_value (I.run_idx _ _ _ _ _ g1 o1 la ca i rfl (by rw [EA.out]; rfl) rfl HK.out HX.out.2.1) h) ?_
     refine zH (.int .i64 ((xa : Nat) : Int)) (fun w h => heldRun_value (run_load_one _ _ _ 3 _ _ rfl (g1) (o1 + i) rfl (CA.out _ h.1) (by kernel_rfl)) h) ?_
     refine zH (.slice b lb cb) (fun w h => heldRun_value (by kernel_rfl) h) ?_
     refine zH (.int .i64 ((k : Nat) : Int)) (fun w h => heldRun_value (by kernel_rfl) h) ?_
     refine zH (.pointer (some ⟨g2, o2 + k, none⟩)) (fun w h => heldRun_value (I.run_idx _ _ _ _ _ g2 o2 lb cb k rfl (by rw [EB.out]; rfl) rfl HK2.out HY.out.2.1) h) ?_
     refine zH (.int .i64 ((yb : Nat) : Int)) (fun w h => heldRun_value (run_load_one _ _ _ 3 _ _ rfl (g2) (o2 + k) rfl (CB.out _ h.1) (by kernel_rfl)) h) ?_
     refine zH (.int .i64 ((pr : Nat) : Int)) (fun w h => heldRun_value (run_muli Tryd.underlying3 rfl rfl rfl _ (by rw [← Int.natCast_mul, PR.out.2.2]; have := PR.out.1; exact wrap_in _ (by omega) (by omega))) h) ?_
     refine zH (.int .i64 ((ov + pr : Nat) : Int)) (fun w h => heldRun_value (run_addi Tryd.underlying3 rfl rfl rfl _ (by have := PR.out; have := IL.out; have := IX.out; have := HK2.out; have := LN.out; rw [wrap_in _ (by omega) (by omega)]; omega)) h) ?_
     refine zH (.pointer (some ⟨g, 0 + (i + k), none⟩)) (fun w h => heldRun_value (I.run_idx _ _ _ _ _ g 0 m m (i + k) rfl rfl rfl IX.out.1 (by have := IX.out; unfold maxLen; omega)) h) ?_
     refine wpHeld_nil ?_
     intro X h
     have Q := Lib.hid h
     clear h
     refine wpL_store_one rfl rfl (g) (0 + (i + k)) rfl (.int .i64 ((ov + pr : Nat) : Int)) rfl rfl size3' (by rw [CO.out _ Q.out.2]; rfl) (Q.out.2.free _) ?_
     simp only [Act.put, List.setIfInBounds_toArray, List.set_cons_zero, List.set_cons_succ]
     obtain ⟨w4, hw4⟩ : ∃ V, V = X.setCell ⟨g, 0 + (i + k), none⟩ (.int .i64 ((ov + pr : Nat) : Int)) := ⟨_, rfl⟩
     rw [← hw4]
     have NX : Hid (k + 1 ≤ lb ∧ (os.set (i + k) (ov + pr)).length = m ∧ Below g w w4 ∧ Blk w4 g 3 (nv (os.set (i + k) (ov + pr))).toArray ∧ vd (os.set (i + k) (ov + pr)) = vd (xs.take i) * vd ys + 256 ^ i * xs.getD i 0 * vd (ys.take (k + 1)) ∧ Lim ((il + (k + 1)) * 65025) (os.set (i + k) (ov + pr))) := Lib.hid ⟨HK2.out, by rw [List.length_set]; exact RJ.out.2.1, by rw [hw4]; exact Q.out.1.setCell (p := ⟨g, 0 + (i + k), none⟩) (Nat.le_refl _) _, by rw [hw4, Nat.zero_add, nv_set]; exact Q.out.2.set _ _, by rw [← PR.out.2.2, ← OV.out, ← XA.out.1, ← YB.out.1]; exact mul_step (by rw [RJ.out.2.1, LX.out, LY.out]; exact M.out.symm) (by rw [LX.out]; exact HK.out) (by rw [LY.out]; exact HK2.out) RJ.out.2.2.2.2.1, RJ.out.2.2.2.2.2.set (by omega) (by have := PR.out; omega)⟩
     clear hw4 Q
     go_upto_region 7 with (fail)
     refine wp_region_lit ?_
     refine zP (.int .i64 ((k : Nat) : Int)) ?_
     refine zQ (.int .i64 ((k + 1 : Nat) : Int)) (run_addi Tryd.underlying3 rfl rfl rfl _ (by have := HK2.out; have := LN.out; rw [wrap_in _ (by omega) (by omega)]; omega)) ?_
     refine zP (.int .i64 ((k + 1 : Nat) : Int)) ?_
     unfold wpList
     go_roundw
     case rel => first | exact ⟨k + 1, _, rfl, NX⟩ | ((repeat apply Exists.intro); exact ⟨⟨k + 1, _, rfl, NX⟩, rfl⟩)
     case measure => simp [intOf]; have := HK2.out; omega
    ·have HK2 := Lib.hid hlt2
     have EK : Hid (k = lb) := Lib.hid (by have := RJ.out.1; omega)
     clear hlt2
     go_upto_region 6 with (fail)
     refine wp_region_lit ?_
     refine zP (.int .i64 ((k : Nat) : Int)) ?_
     refine zP (.slice b lb cb) ?_
     refine zP (.int .i64 (lb : Int)) ?_
     refine zQ (.bool false) (run_lti Tryd.underlying3 rfl rfl rfl (by have := HK2.out; rw [decide_eq_false_iff_not]; omega)) ?_
     go_upto_region 4 with (fail)
     refine wp_region_lit ?_
     refine zP (.int .i64 ((i : Nat) : Int)) ?_
     refine zQ (.int .i64 ((i + 1 : Nat) : Int)) (run_addi Tryd.underlying3 rfl rfl rfl _ (by have := HK.out; have := LN.out; rw [wrap_in _ (by omega) (by omega)]; omega)) ?_
     refine zP (.int .i64 ((i + 1 : Nat) : Int)) ?_
     have NX : Hid (i + 1 ≤ la ∧ os.length = m ∧ Below g w wr ∧ Blk wr g 3 (nv os).toArray ∧ vd os = vd (xs.take (i + 1)) * vd ys ∧ Lim (((i + 1) * lb) * 65025) os) := Lib.hid ⟨HK.out, RJ.out.2.1, RJ.out.2.2.1, RJ.out.2.2.2.1, mul_row (by have h := RJ.out.2.2.2.2.1; rw [EK.out, ← LY.out] at h; exact h), by have h := RJ.out.2.2.2.2.2; rw [EK.out] at h; rw [Nat.add_mul, Nat.one_mul, IL2.out]; exact h⟩
     unfold wpList
     go_roundw
     case rel => first | exact ⟨i + 1, _, rfl, NX⟩ | ((repeat apply Exists.intro); exact ⟨⟨i + 1, _, rfl, NX⟩, rfl⟩)
     case measure => simp [intOf]; have := HK.out; omega
  ·have HK := Lib.hid hlt
   have EI : Hid (i = la) := Lib.hid (by have := RI.out.1; omega)
   clear hlt
   have R2 : Hid (os0.length = m ∧ Below g w wr ∧ Blk wr g 3 (nv os0).toArray ∧ vd os0 = vd xs * vd ys ∧ CInv 2601000000 os0 0) := Lib.hid ⟨RI.out.2.1, RI.out.2.2.1, RI.out.2.2.2.1, by rw [RI.out.2.2.2.2.1, EI.out, List.take_of_length_le (by rw [LX.out]; omega)], cinv_zero RI.out.2.2.2.2.2 (by rw [EI.out]; have : la * lb ≤ 200 * 200 := Nat.mul_le_mul LN.out.1 LN.out.2; omega)⟩
   go_upto_region 3 with (fail)
   refine wp_region_lit ?_
   refine zP (.int .i64 ((i : Nat) : Int)) ?_
   refine zP (.slice a la ca) ?_
   refine zP (.int .i64 (la : Int)) ?_
   refine zQ (.bool false) (run_lti Tryd.underlying3 rfl rfl rfl (by have := HK.out; rw [decide_eq_false_iff_not]; omega)) ?_
   go_upto_region 9 with (fail)
   refine wp_region_lit ?_
   refine zP (.int .i64 0) ?_
   go_wp2_with fail
   go_loopw [8] (fun s8 wq => ∃ (j : Nat) (os : List Nat), s8 = .int .i64 ((j : Nat) : Int) ∧ Hid (j + 1 ≤ m ∧ os.length = m ∧ Below g w wq ∧ Blk wq g 3 (nv os).toArray ∧ vd os = vd xs * vd ys ∧ CInv 2601000000 os j)) (fun s8 _ => m - (intOf s8).toNat)
   case atStart => exact ⟨0, os0, rfl, Lib.hid ⟨by have := M.out; omega, R2.out⟩⟩
   case round =>
    clear R2 RI
    obtain ⟨j, os, rfl, RJ⟩ := hrel
    have MB : Hid (m ≤ 401) := Lib.hid (by have := M.out; have := LN.out; omega)
    by_cases hlt2 : j + 1 < m
    ·have HK2 := Lib.hid hlt2
     clear hlt2
     obtain ⟨o0, ho0⟩ : ∃ q, os.getD j 0 = q := ⟨_, rfl⟩
     obtain ⟨o1, ho1⟩ : ∃ q, os.getD (j + 1) 0 = q := ⟨_, rfl⟩
     have OB : Hid (o0 ≤ 5202000000 ∧ o1 ≤ 2601000000 ∧ os.getD j 0 = o0 ∧ os.getD (j + 1) 0 = o1) := Lib.hid ⟨by rw [← ho0]; exact RJ.out.2.2.2.2.2.2.1, by rw [← ho1]; exact RJ.out.2.2.2.2.2.2.2 _ (by omega), ho0, ho1⟩
     have C0 : Hid (∀ X, Blk X g 3 (nv os).toArray → X.cell? ⟨g, 0 + j, none⟩ = some (.int .i64 ((o0 : Nat) : Int)) ∧ X.cell? ⟨g, 0 + (j + 1), none⟩ = some (.int .i64 ((o1 : Nat) : Int))) := Lib.hid (fun X h => ⟨by rw [← ho0]; exact nv_cell h (by have := HK2.out; have := RJ.out.2.1; omega), by rw [← ho1]; exact nv_cell h (by have := HK2.out; have := RJ.out.2.1; omega)⟩)
     clear ho0 ho1
     go_upto_region 10 with (fail)
     refine wp_region_lit ?_
     refine zP (.int .i64 ((j : Nat) : Int)) ?_
     refine zQ (.int .i64 ((j + 1 : Nat) : Int)) (run_addi Tryd.underlying3 rfl rfl rfl _ (by have := HK2.out; have := MB.out; rw [wrap_in _ (by omega) (by omega)]; omega)) ?_
     refine zP (.slice (some ⟨g, 0, none⟩) m m) ?_
     refine zP (.int .i64 (m : Int)) ?_
     refine zQ (.bool true) (run_lti Tryd.underlying3 rfl rfl rfl (by have := HK2.out; rw [decide_eq_true_eq]; omega)) ?_
     go_upto_region 12 with (fail)
     refine region_held (fun X => Below g w X ∧ Blk X g 3 (nv os).toArray) 12 (by kernel_rfl) (by kernel_rfl) (⟨RJ.out.2.2.1.drew, RJ.out.2.2.2.1.drew⟩) ?_
     simp only [List.take_succ_cons, List.take_zero, List.drop_succ_cons, List.drop_zero]
     refine zH (.slice (some ⟨g, 0, none⟩) m m) (fun w h => heldRun_value (by kernel_rfl) h) ?_
     refine zH (.int .i64 ((j : Nat) : Int)) (fun w h => heldRun_value (by kernel_rfl) h) ?_
     refine zH (.int .i64 ((j + 1 : Nat) : Int)) (fun w h => heldRun_value (run_addi Tryd.underlying3 rfl rfl rfl _ (by have := HK2.out; have := MB.out; rw [wrap_in _ (by omega) (by omega)]; omega)) h) ?_
     refine zH (.pointer (some ⟨g, 0 + (j + 1), none⟩)) (fun w h => heldRun_value (I.run_idx _ _ _ _ _ g 0 m m (j + 1) rfl rfl rfl HK2.out (by have := MB.out; unfold maxLen; omega)) h) ?_
     refine zH (.int .i64 ((o1 : Nat) : Int)) (fun w h => heldRun_value (run_load_one _ _ _ 3 _ _ rfl (g) (0 + (j + 1)) rfl ((C0.out _ h.2).2) (by kernel_rfl)) h) ?_
     refine zH (.slice (some ⟨g, 0, none⟩) m m) (fun w h => heldRun_value (by kernel_rfl) h) ?_
     refine zH (.int .i64 ((j : Nat) : Int)) (fun w h => heldRun_value (by kernel_rfl) h) ?_
     refine zH (.pointer (some ⟨g, 0 + j, none⟩)) (fun w h => heldRun_value (I.run_idx _ _ _ _ _ g 0 m m j rfl rfl rfl (by have := HK2.out; omega) (by have := MB.out; unfold maxLen; omega)) h) ?_
     refine zH (.int .i64 ((o0 : Nat) : Int)) (fun w h => heldRun_value (run_load_one _ _ _ 3 _ _ rfl (g) (0 + j) rfl ((C0.out _ h.2).1) (by kernel_rfl)) h) ?_
     refine zH (.int .i64 ((o0 / 256 : Nat) : Int)) (fun w h => heldRun_value (rquo256 _ _ _ _ o0 _ rfl rfl rfl (by have := OB.out; omega)) h) ?_
     refine zH (.int .i64 ((o1 + o0 / 256 : Nat) : Int)) (fun w h => heldRun_value (run_addi Tryd.underlying3 rfl rfl rfl _ (by have := OB.out; rw [wrap_in _ (by omega) (by omega)]; omega)) h) ?_
     refine zH (.pointer (some ⟨g, 0 + (j + 1), none⟩)) (fun w h => heldRun_value (I.run_idx _ _ _ _ _ g 0 m m (j + 1) rfl rfl rfl HK2.out (by have := MB.out; unfold maxLen; omega)) h) ?_
     refine wpHeld_nil ?_
     intro X h
     have Q := Lib.hid h
     clear h
     refine wpL_store_one rfl rfl (g) (0 + (j + 1)) rfl (.int .i64 ((o1 + o0 / 256 : Nat) : Int)) rfl rfl size3' (by rw [(C0.out _ Q.out.2).2]; rfl) (Q.out.2.free _) ?_
     simp only [Act.put, List.setIfInBounds_toArray, List.set_cons_zero, List.set_cons_succ]
     obtain ⟨w4, hw4⟩ : ∃ V, V = X.setCell ⟨g, 0 + (j + 1), none⟩ (.int .i64 ((o1 + o0 / 256 : Nat) : Int)) := ⟨_, rfl⟩
     rw [← hw4]
     have Q4 : Hid (Below g w w4 ∧ Blk w4 g 3 (nv (os.set (j + 1) (o1 + o0 / 256))).toArray) := Lib.hid (by rw [hw4]; exact ⟨Q.out.1.setCell (p := ⟨g, 0 + (j + 1), none⟩) (Nat.le_refl _) _, by rw [Nat.zero_add, nv_set]; exact Q.out.2.set _ _⟩)
     have C1 : Hid (w4.cell? ⟨g, 0 + j, none⟩ = some (.int .i64 ((o0 : Nat) : Int))) := Lib.hid (by have e := nv_cell Q4.out.2 (j := j) (by rw [List.length_set]; have := HK2.out; have := RJ.out.2.1; omega); rw [getD_set_ne (by omega), OB.out.2.2.1] at e; exact e)
     clear hw4 Q
     go_upto_region 13 with (fail)
     refine wp_region_lit ?_
     refine zP (.slice (some ⟨g, 0, none⟩) m m) ?_
     refine zP (.int .i64 ((j : Nat) : Int)) ?_
     refine zP (.slice (some ⟨g, 0, none⟩) m m) ?_
     refine zP (.int .i64 ((j : Nat) : Int)) ?_
     refine zQ (.pointer (some ⟨g, 0 + j, none⟩)) (I.run_idx _ _ _ _ _ g 0 m m j rfl rfl rfl (by have := HK2.out; omega) (by have := MB.out; unfold maxLen; omega)) ?_
     refine zQ (.int .i64 ((o0 : Nat) : Int)) (run_load_one _ _ _ 3 _ _ rfl (g) (0 + j) rfl (C1.out) (by kernel_rfl)) ?_
     refine zQ (.int .i64 ((o0 % 256 : Nat) : Int)) (run_rem256 _ _ _ _ o0 _ rfl rfl rfl (by have := OB.out; omega)) ?_
     refine zQ (.pointer (some ⟨g, 0 + j, none⟩)) (I.run_idx _ _ _ _ _ g 0 m m j rfl rfl rfl (by have := HK2.out; omega) (by have := MB.out; unfold maxLen; omega)) ?_
     refine wpL_store_one rfl rfl (g) (0 + j) rfl (.int .i64 ((o0 % 256 : Nat) : Int)) rfl rfl size3' (by rw [C1.out]; rfl) (Q4.out.2.free _) ?_
     simp only [Act.put, List.setIfInBounds_toArray, List.set_cons_zero, List.set_cons_succ]
     obtain ⟨w5, hw5⟩ : ∃ V, V = w4.setCell ⟨g, 0 + j, none⟩ (.int .i64 ((o0 % 256 : Nat) : Int)) := ⟨_, rfl⟩
     rw [← hw5]
     have NX : Hid (j + 1 + 1 ≤ m ∧ ((os.set (j + 1) (o1 + o0 / 256)).set j (o0 % 256)).length = m ∧ Below g w w5 ∧ Blk w5 g 3 (nv ((os.set (j + 1) (o1 + o0 / 256)).set j (o0 % 256))).toArray ∧ vd ((os.set (j + 1) (o1 + o0 / 256)).set j (o0 % 256)) = vd xs * vd ys ∧ CInv 2601000000 ((os.set (j + 1) (o1 + o0 / 256)).set j (o0 % 256)) (j + 1)) := Lib.hid ⟨HK2.out, by rw [List.length_set, List.length_set]; exact RJ.out.2.1, by rw [hw5]; exact Q4.out.1.setCell (p := ⟨g, 0 + j, none⟩) (Nat.le_refl _) _, by rw [hw5, Nat.zero_add, nv_set]; exact Q4.out.2.set _ _, by rw [← OB.out.2.2.1, ← OB.out.2.2.2, carry_out (by rw [RJ.out.2.1]; exact HK2.out)]; exact RJ.out.2.2.2.2.1, by rw [← OB.out.2.2.1, ← OB.out.2.2.2]; exact RJ.out.2.2.2.2.2.step (by rw [RJ.out.2.1]; exact HK2.out) (by omega)⟩
     clear hw5 Q4
     go_upto_region 11 with (fail)
     refine wp_region_lit ?_
     refine zP (.int .i64 ((j : Nat) : Int)) ?_
     refine zQ (.int .i64 ((j + 1 : Nat) : Int)) (run_addi Tryd.underlying3 rfl rfl rfl _ (by have := HK2.out; have := MB.out; rw [wrap_in _ (by omega) (by omega)]; omega)) ?_
     refine zP (.int .i64 ((j + 1 : Nat) : Int)) ?_
     unfold wpList
     go_roundw
     case rel => first | exact ⟨j + 1, _, rfl, NX⟩ | ((repeat apply Exists.intro); exact ⟨⟨j + 1, _, rfl, NX⟩, rfl⟩)
     case measure => simp [intOf]; have := HK2.out; omega
    ·have HK2 := Lib.hid hlt2
     clear hlt2
     go_upto_region 10 with (fail)
     refine wp_region_lit ?_
     refine zP (.int .i64 ((j : Nat) : Int)) ?_
     refine zQ (.int .i64 ((j + 1 : Nat) : Int)) (run_addi Tryd.underlying3 rfl rfl rfl _ (by have := RJ.out.1; have := MB.out; rw [wrap_in _ (by omega) (by omega)]; omega)) ?_
     refine zP (.slice (some ⟨g, 0, none⟩) m m) ?_
     refine zP (.int .i64 (m : Int)) ?_
     refine zQ (.bool false) (run_lti Tryd.underlying3 rfl rfl rfl (by have := HK2.out; rw [decide_eq_false_iff_not]; omega)) ?_
     go_upto_region 14 with (fail)
     refine wp_region_lit ?_
     refine zP (.slice (some ⟨g, 0, none⟩) m m) ?_
     refine zP (.slice (some ⟨g, 0, none⟩) m m) ?_
     go_wp2_with fail
     go_ret
     exact ⟨g, os, by show Ending.returned (Value.slice (some ⟨g, 0, none⟩) m m) = _; rw [M.out], by rw [M.out]; exact ipst_blk RJ.out.2.2.1 G.out RJ.out.2.2.2.1 RJ.out.2.1 (by have := MB.out; omega), by rw [M.out]; exact RJ.out.2.1, RJ.out.2.2.2.2.2.done RJ.out.2.1 (by have := HK2.out; have := RJ.out.1; omega) (by have := M.out; have := LX.out; have := LY.out; have e := mul_last DX.out DY.out RJ.out.2.2.2.2.1; rw [show xs.length + ys.length = m - 1 by omega] at e; exact e), RJ.out.2.2.2.2.1⟩
set_option maxRecDepth 100000 in
set_option maxHeartbeats 8000000 in
theorem refless_any (w : World) (a : Option Addr) (n c : Nat) (xs : List Nat) (hx : I.Row w a n (ni xs)) (dx : ∀ x ∈ xs, x < 256) (hl : 17 ≤ n ∧ n ≤ 1000) :
  Calls Tryd.prog 54 #[.slice a n c] w fun e w' => e = .returned (.bool (decide (vd xs < p130))) ∧ Below w.heap.size w w' := by
 have HX := Lib.hid hx
 have DX := Lib.hid dx
 have LN := Lib.hid hl
 have LX : Hid (xs.length = n) := Lib.hid (by rw [← ni_len]; exact hx.1)
 clear hx dx hl
 go_enter Tryd.func54, Tryd.ntmps54
 go_upto_region 0 with (fail)
 refine wp_region_lit ?_
 refine zP (.bool false) ?_
 go_upto_region 1 with (fail)
 refine wp_region_lit ?_
 refine zP (.bool true) ?_
 go_upto_region 2 with (fail)
 refine wp_region_lit ?_
 refine zP (.int .i64 0) ?_
 go_wp2_with fail
 go_loopw [3, 4] (fun s3 s4 wr => ∃ (i : Nat) (z : Bool), s3 = .bool z ∧ s4 = .int .i64 ((i : Nat) : Int) ∧ Hid (i ≤ n ∧ Below w.heap.size w wr ∧ z = decide (vd (xs.take i) ≤ msts i))) (fun _ s4 _ => n - (intOf s4).toNat)
 case atStart => exact ⟨0, true, rfl, rfl, Lib.hid ⟨by omega, Below.refl _ _, by simp [vd]⟩⟩
 case round =>
  obtain ⟨i, z, rfl, rfl, RI⟩ := hrel
  by_cases hlt : i < n
  ·have HK := Lib.hid hlt
   clear hlt
   obtain ⟨g, o, ea, hc⟩ := ni_cell (HX.out.keep RI.out.2.1) HK.out
   have EA := Lib.hid ea
   obtain ⟨x, hx⟩ : ∃ q, xs.getD i 0 = q := ⟨_, rfl⟩
   rw [hx] at hc
   have HC := Lib.hid hc
   have XX := Lib.hid (And.intro hx (getD_lt DX.out i))
   clear ea hc hx
   by_cases h0 : i = 0
   ·have HI := Lib.hid h0
    clear h0
    by_cases hs : x < 250
    ·have HS := Lib.hid hs
     clear hs
     go_upto_region 3 with (fail)
     refine wp_region_lit ?_
     refine zP (.int .i64 ((i : Nat) : Int)) ?_
     refine zP (.slice a n c) ?_
     refine zP (.int .i64 (n : Int)) ?_
     refine zQ (.bool true) (run_lti Tryd.underlying3 rfl rfl rfl (by have := HK.out; rw [decide_eq_true_eq]; omega)) ?_
     go_upto_region 5 with (fail)
     refine wp_region_lit ?_
     refine zP (.int .i64 255) ?_
     go_upto_region 6 with (fail)
     refine wp_region_lit ?_
     refine zP (.int .i64 ((i : Nat) : Int)) ?_
     refine zQ (.bool true) (run_eqi Tryd.underlying3 rfl rfl rfl (by have := HI.out; rw [decide_eq_true_eq]; omega)) ?_
     go_upto_region 7 with (fail)
     refine wp_region_lit ?_
     refine zP (.int .i64 250) ?_
     go_upto_region 8 with (fail)
     refine wp_region_lit ?_
     refine zP (.int .i64 ((i : Nat) : Int)) ?_
     refine zQ (.bool false) (run_eqi Tryd.underlying3 rfl rfl rfl (by have := HI.out; rw [decide_eq_false_iff_not]; omega)) ?_
     go_upto_region 10 with (fail)
     refine wp_region_lit ?_
     refine zP (.int .i64 ((i : Nat) : Int)) ?_
     refine zQ (.bool false) (run_gti Tryd.underlying3 rfl rfl rfl (by have := HI.out; rw [decide_eq_false_iff_not]; omega)) ?_
     go_upto_region 12 with (fail)
     refine wp_region_lit ?_
     refine zP (.slice a n c) ?_
     refine zP (.int .i64 ((i : Nat) : Int)) ?_
     refine zQ (.pointer (some ⟨g, o + i, none⟩)) (I.run_idx _ _ _ _ _ g o n c i rfl (by rw [EA.out]; rfl) rfl HK.out HX.out.2.1) ?_
     refine zQ (.int .i64 ((x : Nat) : Int)) (run_load_one _ _ _ 3 _ _ rfl (g) (o + i) rfl (HC.out) (by kernel_rfl)) ?_
     refine zP (.int .i64 250) ?_
     refine zQ (.bool true) (run_lti Tryd.underlying3 rfl rfl rfl (by have := HS.out; rw [decide_eq_true_eq]; omega)) ?_
     refine zP (.bool true) ?_
     refine wpL_skip (by kernel_rfl) ?_
     simp only [Act.put, List.setIfInBounds_toArray, List.set_cons_zero, List.set_cons_succ]
     refine wpL_skip (by kernel_rfl) ?_
     simp only [Act.put, List.setIfInBounds_toArray, List.set_cons_zero, List.set_cons_succ]
     refine wpL_skip (by kernel_rfl) ?_
     simp only [Act.put, List.setIfInBounds_toArray, List.set_cons_zero, List.set_cons_succ]
     refine wpL_skip (by kernel_rfl) ?_
     simp only [Act.put, List.setIfInBounds_toArray, List.set_cons_zero, List.set_cons_succ]
     refine wpL_skip (by kernel_rfl) ?_
     simp only [Act.put, List.setIfInBounds_toArray, List.set_cons_zero, List.set_cons_succ]
     refine wpL_skip (by kernel_rfl) ?_
     simp only [Act.put, List.setIfInBounds_toArray, List.set_cons_zero, List.set_cons_succ]
     refine wpL_skip (by kernel_rfl) ?_
     simp only [Act.put, List.setIfInBounds_toArray, List.set_cons_zero, List.set_cons_succ]
     refine wpL_skip (by kernel_rfl) ?_
     simp only [Act.put, List.setIfInBounds_toArray, List.set_cons_zero, List.set_cons_succ]
     refine wpL_skip (by kernel_rfl) ?_
     simp only [Act.put, List.setIfInBounds_toArray, List.set_cons_zero, List.set_cons_succ]
     refine zP (.bool true) ?_
     refine zP (.bool true) ?_
     go_upto_region 4 with (fail)
     refine wp_region_lit ?_
     refine zP (.int .i64 ((i : Nat) : Int)) ?_
     refine zQ (.int .i64 ((i + 1 : Nat) : Int)) (run_addi Tryd.underlying3 rfl rfl rfl _ (by have := HK.out; have := LN.out; rw [wrap_in _ (by omega) (by omega)]; omega)) ?_
     refine zP (.int .i64 ((i + 1 : Nat) : Int)) ?_
     have LS := Lib.hid (less_step DX.out XX.out.1 (show mst i = 250 by unfold mst; have := HI.out; rw [if_pos this]))
     have NX : Hid (i + 1 ≤ n ∧ Below w.heap.size w wr ∧ true = decide (vd (xs.take (i + 1)) ≤ msts (i + 1))) := Lib.hid ⟨HK.out, RI.out.2.1, by rw [eq_comm, decide_eq_true_eq, LS.out]; exact .inl HS.out⟩
     unfold wpList
     go_roundw
     case rel => first | exact ⟨i + 1, _, rfl, rfl, NX⟩ | ((repeat apply Exists.intro); exact ⟨⟨i + 1, _, rfl, rfl, NX⟩, rfl⟩)
     case measure => simp [intOf]; have := HK.out; omega
    ·by_cases he : x = 250
     ·have HS := Lib.hid he
      clear hs he
      go_upto_region 3 with (fail)
      refine wp_region_lit ?_
      refine zP (.int .i64 ((i : Nat) : Int)) ?_
      refine zP (.slice a n c) ?_
      refine zP (.int .i64 (n : Int)) ?_
      refine zQ (.bool true) (run_lti Tryd.underlying3 rfl rfl rfl (by have := HK.out; rw [decide_eq_true_eq]; omega)) ?_
      go_upto_region 5 with (fail)
      refine wp_region_lit ?_
      refine zP (.int .i64 255) ?_
      go_upto_region 6 with (fail)
      refine wp_region_lit ?_
      refine zP (.int .i64 ((i : Nat) : Int)) ?_
      refine zQ (.bool true) (run_eqi Tryd.underlying3 rfl rfl rfl (by have := HI.out; rw [decide_eq_true_eq]; omega)) ?_
      go_upto_region 7 with (fail)
      refine wp_region_lit ?_
      refine zP (.int .i64 250) ?_
      go_upto_region 8 with (fail)
      refine wp_region_lit ?_
      refine zP (.int .i64 ((i : Nat) : Int)) ?_
      refine zQ (.bool false) (run_eqi Tryd.underlying3 rfl rfl rfl (by have := HI.out; rw [decide_eq_false_iff_not]; omega)) ?_
      go_upto_region 10 with (fail)
      refine wp_region_lit ?_
      refine zP (.int .i64 ((i : Nat) : Int)) ?_
      refine zQ (.bool false) (run_gti Tryd.underlying3 rfl rfl rfl (by have := HI.out; rw [decide_eq_false_iff_not]; omega)) ?_
      go_upto_region 12 with (fail)
      refine wp_region_lit ?_
      refine zP (.slice a n c) ?_
      refine zP (.int .i64 ((i : Nat) : Int)) ?_
      refine zQ (.pointer (some ⟨g, o + i, none⟩)) (I.run_idx _ _ _ _ _ g o n c i rfl (by rw [EA.out]; rfl) rfl HK.out HX.out.2.1) ?_
      refine zQ (.int .i64 ((x : Nat) : Int)) (run_load_one _ _ _ 3 _ _ rfl (g) (o + i) rfl (HC.out) (by kernel_rfl)) ?_
      refine zP (.int .i64 250) ?_
      refine zQ (.bool false) (run_lti Tryd.underlying3 rfl rfl rfl (by have := HS.out; rw [decide_eq_false_iff_not]; omega)) ?_
      refine zP (.bool false) ?_
      refine zP (.slice a n c) ?_
      refine zP (.int .i64 ((i : Nat) : Int)) ?_
      refine zQ (.pointer (some ⟨g, o + i, none⟩)) (I.run_idx _ _ _ _ _ g o n c i rfl (by rw [EA.out]; rfl) rfl HK.out HX.out.2.1) ?_
      refine zQ (.int .i64 ((x : Nat) : Int)) (run_load_one _ _ _ 3 _ _ rfl (g) (o + i) rfl (HC.out) (by kernel_rfl)) ?_
      refine zP (.int .i64 250) ?_
      refine zQ (.bool true) (run_eqi Tryd.underlying3 rfl rfl rfl (by have := HS.out; rw [decide_eq_true_eq]; omega)) ?_
      refine zP (.bool true) ?_
      refine zP (.bool z) ?_
      refine zP (.bool z) ?_
      refine zP (.bool z) ?_
      refine zP (.bool z) ?_
      go_upto_region 4 with (fail)
      refine wp_region_lit ?_
      refine zP (.int .i64 ((i : Nat) : Int)) ?_
      refine zQ (.int .i64 ((i + 1 : Nat) : Int)) (run_addi Tryd.underlying3 rfl rfl rfl _ (by have := HK.out; have := LN.out; rw [wrap_in _ (by omega) (by omega)]; omega)) ?_
      refine zP (.int .i64 ((i + 1 : Nat) : Int)) ?_
      have LS := Lib.hid (less_step DX.out XX.out.1 (show mst i = 250 by unfold mst; have := HI.out; rw [if_pos this]))
      have NX : Hid (i + 1 ≤ n ∧ Below w.heap.size w wr ∧ z = decide (vd (xs.take (i + 1)) ≤ msts (i + 1))) := Lib.hid ⟨HK.out, RI.out.2.1, by rw [RI.out.2.2, decide_eq_decide, LS.out]; exact ⟨fun h => .inr ⟨HS.out, h⟩, fun h => h.elim (fun h2 => by have := HS.out; omega) (fun h2 => h2.2)⟩⟩
      unfold wpList
      go_roundw
      case rel => first | exact ⟨i + 1, _, rfl, rfl, NX⟩ | ((repeat apply Exists.intro); exact ⟨⟨i + 1, _, rfl, rfl, NX⟩, rfl⟩)
      case measure => simp [intOf]; have := HK.out; omega
     ·have HS := Lib.hid (And.intro hs he)
      clear hs he
      go_upto_region 3 with (fail)
      refine wp_region_lit ?_
      refine zP (.int .i64 ((i : Nat) : Int)) ?_
      refine zP (.slice a n c) ?_
      refine zP (.int .i64 (n : Int)) ?_
      refine zQ (.bool true) (run_lti Tryd.underlying3 rfl rfl rfl (by have := HK.out; rw [decide_eq_true_eq]; omega)) ?_
      go_upto_region 5 with (fail)
      refine wp_region_lit ?_
      refine zP (.int .i64 255) ?_
      go_upto_region 6 with (fail)
      refine wp_region_lit ?_
      refine zP (.int .i64 ((i : Nat) : Int)) ?_
      refine zQ (.bool true) (run_eqi Tryd.underlying3 rfl rfl rfl (by have := HI.out; rw [decide_eq_true_eq]; omega)) ?_
      go_upto_region 7 with (fail)
      refine wp_region_lit ?_
      refine zP (.int .i64 250) ?_
      go_upto_region 8 with (fail)
      refine wp_region_lit ?_
      refine zP (.int .i64 ((i : Nat) : Int)) ?_
      refine zQ (.bool false) (run_eqi Tryd.underlying3 rfl rfl rfl (by have := HI.out; rw [decide_eq_false_iff_not]; omega)) ?_
      go_upto_region 10 with (fail)
      refine wp_region_lit ?_
      refine zP (.int .i64 ((i : Nat) : Int)) ?_
      refine zQ (.bool false) (run_gti Tryd.underlying3 rfl rfl rfl (by have := HI.out; rw [decide_eq_false_iff_not]; omega)) ?_
      go_upto_region 12 with (fail)
      refine wp_region_lit ?_
      refine zP (.slice a n c) ?_
      refine zP (.int .i64 ((i : Nat) : Int)) ?_
      refine zQ (.pointer (some ⟨g, o + i, none⟩)) (I.run_idx _ _ _ _ _ g o n c i rfl (by rw [EA.out]; rfl) rfl HK.out HX.out.2.1) ?_
      refine zQ (.int .i64 ((x : Nat) : Int)) (run_load_one _ _ _ 3 _ _ rfl (g) (o + i) rfl (HC.out) (by kernel_rfl)) ?_
      refine zP (.int .i64 250) ?_
      refine zQ (.bool false) (run_lti Tryd.underlying3 rfl rfl rfl (by have := HS.out; rw [decide_eq_false_iff_not]; omega)) ?_
      refine zP (.bool false) ?_
      refine zP (.slice a n c) ?_
      refine zP (.int .i64 ((i : Nat) : Int)) ?_
      refine zQ (.pointer (some ⟨g, o + i, none⟩)) (I.run_idx _ _ _ _ _ g o n c i rfl (by rw [EA.out]; rfl) rfl HK.out HX.out.2.1) ?_
      refine zQ (.int .i64 ((x : Nat) : Int)) (run_load_one _ _ _ 3 _ _ rfl (g) (o + i) rfl (HC.out) (by kernel_rfl)) ?_
      refine zP (.int .i64 250) ?_
      refine zQ (.bool false) (run_eqi Tryd.underlying3 rfl rfl rfl (by have := HS.out; rw [decide_eq_false_iff_not]; omega)) ?_
      refine zP (.bool false) ?_
      refine wpL_skip (by kernel_rfl) ?_
      simp only [Act.put, List.setIfInBounds_toArray, List.set_cons_zero, List.set_cons_succ]
      refine zP (.bool false) ?_
      refine zP (.bool false) ?_
      refine zP (.bool false) ?_
      go_upto_region 4 with (fail)
      refine wp_region_lit ?_
      refine zP (.int .i64 ((i : Nat) : Int)) ?_
      refine zQ (.int .i64 ((i + 1 : Nat) : Int)) (run_addi Tryd.underlying3 rfl rfl rfl _ (by have := HK.out; have := LN.out; rw [wrap_in _ (by omega) (by omega)]; omega)) ?_
      refine zP (.int .i64 ((i + 1 : Nat) : Int)) ?_
      have LS := Lib.hid (less_step DX.out XX.out.1 (show mst i = 250 by unfold mst; have := HI.out; rw [if_pos this]))
      have NX : Hid (i + 1 ≤ n ∧ Below w.heap.size w wr ∧ false = decide (vd (xs.take (i + 1)) ≤ msts (i + 1))) := Lib.hid ⟨HK.out, RI.out.2.1, by rw [eq_comm, decide_eq_false_iff_not, LS.out]; exact fun h => h.elim (fun h2 => HS.out.1 h2) (fun h2 => HS.out.2 h2.1)⟩
      unfold wpList
      go_roundw
      case rel => first | exact ⟨i + 1, _, rfl, rfl, NX⟩ | ((repeat apply Exists.intro); exact ⟨⟨i + 1, _, rfl, rfl, NX⟩, rfl⟩)
      case measure => simp [intOf]; have := HK.out; omega
   ·by_cases h1 : i = 16
    ·have HI := Lib.hid h1
     clear h0 h1
     by_cases hs : x < 3
     ·have HS := Lib.hid hs
      clear hs
      go_upto_region 3 with (fail)
      refine wp_region_lit ?_
      refine zP (.int .i64 ((i : Nat) : Int)) ?_
      refine zP (.slice a n c) ?_
      refine zP (.int .i64 (n : Int)) ?_
      refine zQ (.bool true) (run_lti Tryd.underlying3 rfl rfl rfl (by have := HK.out; rw [decide_eq_true_eq]; omega)) ?_
      go_upto_region 5 with (fail)
      refine wp_region_lit ?_
      refine zP (.int .i64 255) ?_
      go_upto_region 6 with (fail)
      refine wp_region_lit ?_
      refine zP (.int .i64 ((i : Nat) : Int)) ?_
      refine zQ (.bool false) (run_eqi Tryd.underlying3 rfl rfl rfl (by have := HI.out; rw [decide_eq_false_iff_not]; omega)) ?_
      go_upto_region 8 with (fail)
      refine wp_region_lit ?_
      refine zP (.int .i64 ((i : Nat) : Int)) ?_
      refine zQ (.bool true) (run_eqi Tryd.underlying3 rfl rfl rfl (by have := HI.out; rw [decide_eq_true_eq]; omega)) ?_
      go_upto_region 9 with (fail)
      refine wp_region_lit ?_
      refine zP (.int .i64 3) ?_
      go_upto_region 10 with (fail)
      refine wp_region_lit ?_
      refine zP (.int .i64 ((i : Nat) : Int)) ?_
      refine zQ (.bool false) (run_gti Tryd.underlying3 rfl rfl rfl (by have := HI.out; rw [decide_eq_false_iff_not]; omega)) ?_
      go_upto_region 12 with (fail)
      refine wp_region_lit ?_
      refine zP (.slice a n c) ?_
      refine zP (.int .i64 ((i : Nat) : Int)) ?_
      refine zQ (.pointer (some ⟨g, o + i, none⟩)) (I.run_idx _ _ _ _ _ g o n c i rfl (by rw [EA.out]; rfl) rfl HK.out HX.out.2.1) ?_
      refine zQ (.int .i64 ((x : Nat) : Int)) (run_load_one _ _ _ 3 _ _ rfl (g) (o + i) rfl (HC.out) (by kernel_rfl)) ?_
      refine zP (.int .i64 3) ?_
      refine zQ (.bool true) (run_lti Tryd.underlying3 rfl rfl rfl (by have := HS.out; rw [decide_eq_true_eq]; omega)) ?_
      refine zP (.bool true) ?_
      refine wpL_skip (by kernel_rfl) ?_
      simp only [Act.put, List.setIfInBounds_toArray, List.set_cons_zero, List.set_cons_succ]
      refine wpL_skip (by kernel_rfl) ?_
      simp only [Act.put, List.setIfInBounds_toArray, List.set_cons_zero, List.set_cons_succ]
      refine wpL_skip (by kernel_rfl) ?_
      simp only [Act.put, List.setIfInBounds_toArray, List.set_cons_zero, List.set_cons_succ]
      refine wpL_skip (by kernel_rfl) ?_
      simp only [Act.put, List.setIfInBounds_toArray, List.set_cons_zero, List.set_cons_succ]
      refine wpL_skip (by kernel_rfl) ?_
      simp only [Act.put, List.setIfInBounds_toArray, List.set_cons_zero, List.set_cons_succ]
      refine wpL_skip (by kernel_rfl) ?_
      simp only [Act.put, List.setIfInBounds_toArray, List.set_cons_zero, List.set_cons_succ]
      refine wpL_skip (by kernel_rfl) ?_
      simp only [Act.put, List.setIfInBounds_toArray, List.set_cons_zero, List.set_cons_succ]
      refine wpL_skip (by kernel_rfl) ?_
      simp only [Act.put, List.setIfInBounds_toArray, List.set_cons_zero, List.set_cons_succ]
      refine wpL_skip (by kernel_rfl) ?_
      simp only [Act.put, List.setIfInBounds_toArray, List.set_cons_zero, List.set_cons_succ]
      refine zP (.bool true) ?_
      refine zP (.bool true) ?_
      go_upto_region 4 with (fail)
      refine wp_region_lit ?_
      refine zP (.int .i64 ((i : Nat) : Int)) ?_
      refine zQ (.int .i64 ((i + 1 : Nat) : Int)) (run_addi Tryd.underlying3 rfl rfl rfl _ (by have := HK.out; have := LN.out; rw [wrap_in _ (by omega) (by omega)]; omega)) ?_
      refine zP (.int .i64 ((i + 1 : Nat) : Int)) ?_
      have LS := Lib.hid (less_step DX.out XX.out.1 (show mst i = 3 by unfold mst; have := HI.out; rw [if_neg (by omega), if_pos this]))
      have NX : Hid (i + 1 ≤ n ∧ Below w.heap.size w wr ∧ true = decide (vd (xs.take (i + 1)) ≤ msts (i + 1))) := Lib.hid ⟨HK.out, RI.out.2.1, by rw [eq_comm, decide_eq_true_eq, LS.out]; exact .inl HS.out⟩
      unfold wpList
      go_roundw
      case rel => first | exact ⟨i + 1, _, rfl, rfl, NX⟩ | ((repeat apply Exists.intro); exact ⟨⟨i + 1, _, rfl, rfl, NX⟩, rfl⟩)
      case measure => simp [intOf]; have := HK.out; omega
     ·by_cases he : x = 3
      ·have HS := Lib.hid he
       clear hs he
       go_upto_region 3 with (fail)
       refine wp_region_lit ?_
       refine zP (.int .i64 ((i : Nat) : Int)) ?_
       refine zP (.slice a n c) ?_
       refine zP (.int .i64 (n : Int)) ?_
       refine zQ (.bool true) (run_lti Tryd.underlying3 rfl rfl rfl (by have := HK.out; rw [decide_eq_true_eq]; omega)) ?_
       go_upto_region 5 with (fail)
       refine wp_region_lit ?_
       refine zP (.int .i64 255) ?_
       go_upto_region 6 with (fail)
       refine wp_region_lit ?_
       refine zP (.int .i64 ((i : Nat) : Int)) ?_
       refine zQ (.bool false) (run_eqi Tryd.underlying3 rfl rfl rfl (by have := HI.out; rw [decide_eq_false_iff_not]; omega)) ?_
       go_upto_region 8 with (fail)
       refine wp_region_lit ?_
       refine zP (.int .i64 ((i : Nat) : Int)) ?_
       refine zQ (.bool true) (run_eqi Tryd.underlying3 rfl rfl rfl (by have := HI.out; rw [decide_eq_true_eq]; omega)) ?_
       go_upto_region 9 with (fail)
       refine wp_region_lit ?_
       refine zP (.int .i64 3) ?_
       go_upto_region 10 with (fail)
       refine wp_region_lit ?_
       refine zP (.int .i64 ((i : Nat) : Int)) ?_
       refine zQ (.bool false) (run_gti Tryd.underlying3 rfl rfl rfl (by have := HI.out; rw [decide_eq_false_iff_not]; omega)) ?_
       go_upto_region 12 with (fail)
       refine wp_region_lit ?_
       refine zP (.slice a n c) ?_
       refine zP (.int .i64 ((i : Nat) : Int)) ?_
       refine zQ (.pointer (some ⟨g, o + i, none⟩)) (I.run_idx _ _ _ _ _ g o n c i rfl (by rw [EA.out]; rfl) rfl HK.out HX.out.2.1) ?_
       refine zQ (.int .i64 ((x : Nat) : Int)) (run_load_one _ _ _ 3 _ _ rfl (g) (o + i) rfl (HC.out) (by kernel_rfl)) ?_
       refine zP (.int .i64 3) ?_
       refine zQ (.bool false) (run_lti Tryd.underlying3 rfl rfl rfl (by have := HS.out; rw [decide_eq_false_iff_not]; omega)) ?_
       refine zP (.bool false) ?_
       refine zP (.slice a n c) ?_
       refine zP (.int .i64 ((i : Nat) : Int)) ?_
       refine zQ (.pointer (some ⟨g, o + i, none⟩)) (I.run_idx _ _ _ _ _ g o n c i rfl (by rw [EA.out]; rfl) rfl HK.out HX.out.2.1) ?_
       refine zQ (.int .i64 ((x : Nat) : Int)) (run_load_one _ _ _ 3 _ _ rfl (g) (o + i) rfl (HC.out) (by kernel_rfl)) ?_
       refine zP (.int .i64 3) ?_
       refine zQ (.bool true) (run_eqi Tryd.underlying3 rfl rfl rfl (by have := HS.out; rw [decide_eq_true_eq]; omega)) ?_
       refine zP (.bool true) ?_
       refine zP (.bool z) ?_
       refine zP (.bool z) ?_
       refine zP (.bool z) ?_
       refine zP (.bool z) ?_
       go_upto_region 4 with (fail)
       refine wp_region_lit ?_
       refine zP (.int .i64 ((i : Nat) : Int)) ?_
       refine zQ (.int .i64 ((i + 1 : Nat) : Int)) (run_addi Tryd.underlying3 rfl rfl rfl _ (by have := HK.out; have := LN.out; rw [wrap_in _ (by omega) (by omega)]; omega)) ?_
       refine zP (.int .i64 ((i + 1 : Nat) : Int)) ?_
       have LS := Lib.hid (less_step DX.out XX.out.1 (show mst i = 3 by unfold mst; have := HI.out; rw [if_neg (by omega), if_pos this]))
       have NX : Hid (i + 1 ≤ n ∧ Below w.heap.size w wr ∧ z = decide (vd (xs.take (i + 1)) ≤ msts (i + 1))) := Lib.hid ⟨HK.out, RI.out.2.1, by rw [RI.out.2.2, decide_eq_decide, LS.out]; exact ⟨fun h => .inr ⟨HS.out, h⟩, fun h => h.elim (fun h2 => by have := HS.out; omega) (fun h2 => h2.2)⟩⟩
       unfold wpList
       go_roundw
       case rel => first | exact ⟨i + 1, _, rfl, rfl, NX⟩ | ((repeat apply Exists.intro); exact ⟨⟨i + 1, _, rfl, rfl, NX⟩, rfl⟩)
       case measure => simp [intOf]; have := HK.out; omega
      ·have HS := Lib.hid (And.intro hs he)
       clear hs he
       go_upto_region 3 with (fail)
       refine wp_region_lit ?_
       refine zP (.int .i64 ((i : Nat) : Int)) ?_
       refine zP (.slice a n c) ?_
       refine zP (.int .i64 (n : Int)) ?_
       refine zQ (.bool true) (run_lti Tryd.underlying3 rfl rfl rfl (by have := HK.out; rw [decide_eq_true_eq]; omega)) ?_
       go_upto_region 5 with (fail)
       refine wp_region_lit ?_
       refine zP (.int .i64 255) ?_
       go_upto_region 6 with (fail)
       refine wp_region_lit ?_
       refine zP (.int .i64 ((i : Nat) : Int)) ?_
       refine zQ (.bool false) (run_eqi Tryd.underlying3 rfl rfl rfl (by have := HI.out; rw [decide_eq_false_iff_not]; omega)) ?_
       go_upto_region 8 with (fail)
       refine wp_region_lit ?_
       refine zP (.int .i64 ((i : Nat) : Int)) ?_
       refine zQ (.bool true) (run_eqi Tryd.underlying3 rfl rfl rfl (by have := HI.out; rw [decide_eq_true_eq]; omega)) ?_
       go_upto_region 9 with (fail)
       refine wp_region_lit ?_
       refine zP (.int .i64 3) ?_
       go_upto_region 10 with (fail)
       refine wp_region_lit ?_
       refine zP (.int .i64 ((i : Nat) : Int)) ?_
       refine zQ (.bool false) (run_gti Tryd.underlying3 rfl rfl rfl (by have := HI.out; rw [decide_eq_false_iff_not]; omega)) ?_
       go_upto_region 12 with (fail)
       refine wp_region_lit ?_
       refine zP (.slice a n c) ?_
       refine zP (.int .i64 ((i : Nat) : Int)) ?_
       refine zQ (.pointer (some ⟨g, o + i, none⟩)) (I.run_idx _ _ _ _ _ g o n c i rfl (by rw [EA.out]; rfl) rfl HK.out HX.out.2.1) ?_
       refine zQ (.int .i64 ((x : Nat) : Int)) (run_load_one _ _ _ 3 _ _ rfl (g) (o + i) rfl (HC.out) (by kernel_rfl)) ?_
       refine zP (.int .i64 3) ?_
       refine zQ (.bool false) (run_lti Tryd.underlying3 rfl rfl rfl (by have := HS.out; rw [decide_eq_false_iff_not]; omega)) ?_
       refine zP (.bool false) ?_
       refine zP (.slice a n c) ?_
       refine zP (.int .i64 ((i : Nat) : Int)) ?_
       refine zQ (.pointer (some ⟨g, o + i, none⟩)) (I.run_idx _ _ _ _ _ g o n c i rfl (by rw [EA.out]; rfl) rfl HK.out HX.out.2.1) ?_
       refine zQ (.int .i64 ((x : Nat) : Int)) (run_load_one _ _ _ 3 _ _ rfl (g) (o + i) rfl (HC.out) (by kernel_rfl)) ?_
       refine zP (.int .i64 3) ?_
       refine zQ (.bool false) (run_eqi Tryd.underlying3 rfl rfl rfl (by have := HS.out; rw [decide_eq_false_iff_not]; omega)) ?_
       refine zP (.bool false) ?_
       refine wpL_skip (by kernel_rfl) ?_
       simp only [Act.put, List.setIfInBounds_toArray, List.set_cons_zero, List.set_cons_succ]
       refine zP (.bool false) ?_
       refine zP (.bool false) ?_
       refine zP (.bool false) ?_
       go_upto_region 4 with (fail)
       refine wp_region_lit ?_
       refine zP (.int .i64 ((i : Nat) : Int)) ?_
       refine zQ (.int .i64 ((i + 1 : Nat) : Int)) (run_addi Tryd.underlying3 rfl rfl rfl _ (by have := HK.out; have := LN.out; rw [wrap_in _ (by omega) (by omega)]; omega)) ?_
       refine zP (.int .i64 ((i + 1 : Nat) : Int)) ?_
       have LS := Lib.hid (less_step DX.out XX.out.1 (show mst i = 3 by unfold mst; have := HI.out; rw [if_neg (by omega), if_pos this]))
       have NX : Hid (i + 1 ≤ n ∧ Below w.heap.size w wr ∧ false = decide (vd (xs.take (i + 1)) ≤ msts (i + 1))) := Lib.hid ⟨HK.out, RI.out.2.1, by rw [eq_comm, decide_eq_false_iff_not, LS.out]; exact fun h => h.elim (fun h2 => HS.out.1 h2) (fun h2 => HS.out.2 h2.1)⟩
       unfold wpList
       go_roundw
       case rel => first | exact ⟨i + 1, _, rfl, rfl, NX⟩ | ((repeat apply Exists.intro); exact ⟨⟨i + 1, _, rfl, rfl, NX⟩, rfl⟩)
       case measure => simp [intOf]; have := HK.out; omega
    ·by_cases h2 : 16 < i
     ·have HI := Lib.hid h2
      clear h0 h1 h2
      by_cases hs : x < 0
      ·have HS := Lib.hid hs
       clear hs
       go_upto_region 3 with (fail)
       refine wp_region_lit ?_
       refine zP (.int .i64 ((i : Nat) : Int)) ?_
       refine zP (.slice a n c) ?_
       refine zP (.int .i64 (n : Int)) ?_
       refine zQ (.bool true) (run_lti Tryd.underlying3 rfl rfl rfl (by have := HK.out; rw [decide_eq_true_eq]; omega)) ?_
       go_upto_region 5 with (fail)
       refine wp_region_lit ?_
       refine zP (.int .i64 255) ?_
       go_upto_region 6 with (fail)
       refine wp_region_lit ?_
       refine zP (.int .i64 ((i : Nat) : Int)) ?_
       refine zQ (.bool false) (run_eqi Tryd.underlying3 rfl rfl rfl (by have := HI.out; rw [decide_eq_false_iff_not]; omega)) ?_
       go_upto_region 8 with (fail)
       refine wp_region_lit ?_
       refine zP (.int .i64 ((i : Nat) : Int)) ?_
       refine zQ (.bool false) (run_eqi Tryd.underlying3 rfl rfl rfl (by have := HI.out; rw [decide_eq_false_iff_not]; omega)) ?_
       go_upto_region 10 with (fail)
       refine wp_region_lit ?_
       refine zP (.int .i64 ((i : Nat) : Int)) ?_
       refine zQ (.bool true) (run_gti Tryd.underlying3 rfl rfl rfl (by have := HI.out; rw [decide_eq_true_eq]; omega)) ?_
       go_upto_region 11 with (fail)
       refine wp_region_lit ?_
       refine zP (.int .i64 0) ?_
       go_upto_region 12 with (fail)
       refine wp_region_lit ?_
       refine zP (.slice a n c) ?_
       refine zP (.int .i64 ((i : Nat) : Int)) ?_
       refine zQ (.pointer (some ⟨g, o + i, none⟩)) (I.run_idx _ _ _ _ _ g o n c i rfl (by rw [EA.out]; rfl) rfl HK.out HX.out.2.1) ?_
       refine zQ (.int .i64 ((x : Nat) : Int)) (run_load_one _ _ _ 3 _ _ rfl (g) (o + i) rfl (HC.out) (by kernel_rfl)) ?_
       refine zP (.int .i64 0) ?_
       refine zQ (.bool true) (run_lti Tryd.underlying3 rfl rfl rfl (by have := HS.out; rw [decide_eq_true_eq]; omega)) ?_
       refine zP (.bool true) ?_
       refine wpL_skip (by kernel_rfl) ?_
       simp only [Act.put, List.setIfInBounds_toArray, List.set_cons_zero, List.set_cons_succ]
       refine wpL_skip (by kernel_rfl) ?_
       simp only [Act.put, List.setIfInBounds_toArray, List.set_cons_zero, List.set_cons_succ]
       refine wpL_skip (by kernel_rfl) ?_
       simp only [Act.put, List.setIfInBounds_toArray, List.set_cons_zero, List.set_cons_succ]
       refine wpL_skip (by kernel_rfl) ?_
       simp only [Act.put, List.setIfInBounds_toArray, List.set_cons_zero, List.set_cons_succ]
       refine wpL_skip (by kernel_rfl) ?_
       simp only [Act.put, List.setIfInBounds_toArray, List.set_cons_zero, List.set_cons_succ]
       refine wpL_skip (by kernel_rfl) ?_
       simp only [Act.put, List.setIfInBounds_toArray, List.set_cons_zero, List.set_cons_succ]
       refine wpL_skip (by kernel_rfl) ?_
       simp only [Act.put, List.setIfInBounds_toArray, List.set_cons_zero, List.set_cons_succ]
       refine wpL_skip (by kernel_rfl) ?_
       simp only [Act.put, List.setIfInBounds_toArray, List.set_cons_zero, List.set_cons_succ]
       refine wpL_skip (by kernel_rfl) ?_
       simp only [Act.put, List.setIfInBounds_toArray, List.set_cons_zero, List.set_cons_succ]
       refine zP (.bool true) ?_
       refine zP (.bool true) ?_
       go_upto_region 4 with (fail)
       refine wp_region_lit ?_
       refine zP (.int .i64 ((i : Nat) : Int)) ?_
       refine zQ (.int .i64 ((i + 1 : Nat) : Int)) (run_addi Tryd.underlying3 rfl rfl rfl _ (by have := HK.out; have := LN.out; rw [wrap_in _ (by omega) (by omega)]; omega)) ?_
       refine zP (.int .i64 ((i + 1 : Nat) : Int)) ?_
       have LS := Lib.hid (less_step DX.out XX.out.1 (show mst i = 0 by unfold mst; have := HI.out; rw [if_neg (by omega), if_neg (by omega), if_pos this]))
       have NX : Hid (i + 1 ≤ n ∧ Below w.heap.size w wr ∧ true = decide (vd (xs.take (i + 1)) ≤ msts (i + 1))) := Lib.hid ⟨HK.out, RI.out.2.1, by rw [eq_comm, decide_eq_true_eq, LS.out]; exact .inl HS.out⟩
       unfold wpList
       go_roundw
       case rel => first | exact ⟨i + 1, _, rfl, rfl, NX⟩ | ((repeat apply Exists.intro); exact ⟨⟨i + 1, _, rfl, rfl, NX⟩, rfl⟩)
       case measure => simp [intOf]; have := HK.out; omega
      ·by_cases he : x = 0
       ·have HS := Lib.hid he
        clear hs he
        go_upto_region 3 with (fail)
        refine wp_region_lit ?_
        refine zP (.int .i64 ((i : Nat) : Int)) ?_
        refine zP (.slice a n c) ?_
        refine zP (.int .i64 (n : Int)) ?_
        refine zQ (.bool true) (run_lti Tryd.underlying3 rfl rfl rfl (by have := HK.out; rw [decide_eq_true_eq]; omega)) ?_
        go_upto_region 5 with (fail)
        refine wp_region_lit ?_
        refine zP (.int .i64 255) ?_
        go_upto_region 6 with (fail)
        refine wp_region_lit ?_
        refine zP (.int .i64 ((i : Nat) : Int)) ?_
        refine zQ (.bool false) (run_eqi Tryd.underlying3 rfl rfl rfl (by have := HI.out; rw [decide_eq_false_iff_not]; omega)) ?_
        go_upto_region 8 with (fail)
        refine wp_region_lit ?_
        refine zP (.int .i64 ((i : Nat) : Int)) ?_
        refine zQ (.bool false) (run_eqi Tryd.underlying3 rfl rfl rfl (by have := HI.out; rw [decide_eq_false_iff_not]; omega)) ?_
        go_upto_region 10 with (fail)
        refine wp_region_lit ?_
        refine zP (.int .i64 ((i : Nat) : Int)) ?_
        refine zQ (.bool true) (run_gti Tryd.underlying3 rfl rfl rfl (by have := HI.out; rw [decide_eq_true_eq]; omega)) ?_
        go_upto_region 11 with (fail)
        refine wp_region_lit ?_
        refine zP (.int .i64 0) ?_
        go_upto_region 12 with (fail)
        refine wp_region_lit ?_
        refine zP (.slice a n c) ?_
        refine zP (.int .i64 ((i : Nat) : Int)) ?_
        refine zQ (.pointer (some ⟨g, o + i, none⟩)) (I.run_idx _ _ _ _ _ g o n c i rfl (by rw [EA.out]; rfl) rfl HK.out HX.out.2.1) ?_
        refine zQ (.int .i64 ((x : Nat) : Int)) (run_load_one _ _ _ 3 _ _ rfl (g) (o + i) rfl (HC.out) (by kernel_rfl)) ?_
        refine zP (.int .i64 0) ?_
        refine zQ (.bool false) (run_lti Tryd.underlying3 rfl rfl rfl (by have := HS.out; rw [decide_eq_false_iff_not]; omega)) ?_
        refine zP (.bool false) ?_
        refine zP (.slice a n c) ?_
        refine zP (.int .i64 ((i : Nat) : Int)) ?_
        refine zQ (.pointer (some ⟨g, o + i, none⟩)) (I.run_idx _ _ _ _ _ g o n c i rfl (by rw [EA.out]; rfl) rfl HK.out HX.out.2.1) ?_
        refine zQ (.int .i64 ((x : Nat) : Int)) (run_load_one _ _ _ 3 _ _ rfl (g) (o + i) rfl (HC.out) (by kernel_rfl)) ?_
        refine zP (.int .i64 0) ?_
        refine zQ (.bool true) (run_eqi Tryd.underlying3 rfl rfl rfl (by have := HS.out; rw [decide_eq_true_eq]; omega)) ?_
        refine zP (.bool true) ?_
        refine zP (.bool z) ?_
        refine zP (.bool z) ?_
        refine zP (.bool z) ?_
        refine zP (.bool z) ?_
        go_upto_region 4 with (fail)
        refine wp_region_lit ?_
        refine zP (.int .i64 ((i : Nat) : Int)) ?_
        refine zQ (.int .i64 ((i + 1 : Nat) : Int)) (run_addi Tryd.underlying3 rfl rfl rfl _ (by have := HK.out; have := LN.out; rw [wrap_in _ (by omega) (by omega)]; omega)) ?_
        refine zP (.int .i64 ((i + 1 : Nat) : Int)) ?_
        have LS := Lib.hid (less_step DX.out XX.out.1 (show mst i = 0 by unfold mst; have := HI.out; rw [if_neg (by omega), if_neg (by omega), if_pos this]))
        have NX : Hid (i + 1 ≤ n ∧ Below w.heap.size w wr ∧ z = decide (vd (xs.take (i + 1)) ≤ msts (i + 1))) := Lib.hid ⟨HK.out, RI.out.2.1, by rw [RI.out.2.2, decide_eq_decide, LS.out]; exact ⟨fun h => .inr ⟨HS.out, h⟩, fun h => h.elim (fun h2 => by have := HS.out; omega) (fun h2 => h2.2)⟩⟩
        unfold wpList
        go_roundw
        case rel => first | exact ⟨i + 1, _, rfl, rfl, NX⟩ | ((repeat apply Exists.intro); exact ⟨⟨i + 1, _, rfl, rfl, NX⟩, rfl⟩)
        case measure => simp [intOf]; have := HK.out; omega
       ·have HS := Lib.hid (And.intro hs he)
        clear hs he
        go_upto_region 3 with (fail)
        refine wp_region_lit ?_
        refine zP (.int .i64 ((i : Nat) : Int)) ?_
        refine zP (.slice a n c) ?_
        refine zP (.int .i64 (n : Int)) ?_
        refine zQ (.bool true) (run_lti Tryd.underlying3 rfl rfl rfl (by have := HK.out; rw [decide_eq_true_eq]; omega)) ?_
        go_upto_region 5 with (fail)
        refine wp_region_lit ?_
        refine zP (.int .i64 255) ?_
        go_upto_region 6 with (fail)
        refine wp_region_lit ?_
        refine zP (.int .i64 ((i : Nat) : Int)) ?_
        refine zQ (.bool false) (run_eqi Tryd.underlying3 rfl rfl rfl (by have := HI.out; rw [decide_eq_false_iff_not]; omega)) ?_
        go_upto_region 8 with (fail)
        refine wp_region_lit ?_
        refine zP (.int .i64 ((i : Nat) : Int)) ?_
        refine zQ (.bool false) (run_eqi Tryd.underlying3 rfl rfl rfl (by have := HI.out; rw [decide_eq_false_iff_not]; omega)) ?_
        go_upto_region 10 with (fail)
        refine wp_region_lit ?_
        refine zP (.int .i64 ((i : Nat) : Int)) ?_
        refine zQ (.bool true) (run_gti Tryd.underlying3 rfl rfl rfl (by have := HI.out; rw [decide_eq_true_eq]; omega)) ?_
        go_upto_region 11 with (fail)
        refine wp_region_lit ?_
        refine zP (.int .i64 0) ?_
        go_upto_region 12 with (fail)
        refine wp_region_lit ?_
        refine zP (.slice a n c) ?_
        refine zP (.int .i64 ((i : Nat) : Int)) ?_
        refine zQ (.pointer (some ⟨g, o + i, none⟩)) (I.run_idx _ _ _ _ _ g o n c i rfl (by rw [EA.out]; rfl) rfl HK.out HX.out.2.1) ?_
        refine zQ (.int .i64 ((x : Nat) : Int)) (run_load_one _ _ _ 3 _ _ rfl (g) (o + i) rfl (HC.out) (by kernel_rfl)) ?_
        refine zP (.int .i64 0) ?_
        refine zQ (.bool false) (run_lti Tryd.underlying3 rfl rfl rfl (by have := HS.out; rw [decide_eq_false_iff_not]; omega)) ?_
        refine zP (.bool false) ?_
        refine zP (.slice a n c) ?_
        refine zP (.int .i64 ((i : Nat) : Int)) ?_
        refine zQ (.pointer (some ⟨g, o + i, none⟩)) (I.run_idx _ _ _ _ _ g o n c i rfl (by rw [EA.out]; rfl) rfl HK.out HX.out.2.1) ?_
        refine zQ (.int .i64 ((x : Nat) : Int)) (run_load_one _ _ _ 3 _ _ rfl (g) (o + i) rfl (HC.out) (by kernel_rfl)) ?_
        refine zP (.int .i64 0) ?_
        refine zQ (.bool false) (run_eqi Tryd.underlying3 rfl rfl rfl (by have := HS.out; rw [decide_eq_false_iff_not]; omega)) ?_
        refine zP (.bool false) ?_
        refine wpL_skip (by kernel_rfl) ?_
        simp only [Act.put, List.setIfInBounds_toArray, List.set_cons_zero, List.set_cons_succ]
        refine zP (.bool false) ?_
        refine zP (.bool false) ?_
        refine zP (.bool false) ?_
        go_upto_region 4 with (fail)
        refine wp_region_lit ?_
        refine zP (.int .i64 ((i : Nat) : Int)) ?_
        refine zQ (.int .i64 ((i + 1 : Nat) : Int)) (run_addi Tryd.underlying3 rfl rfl rfl _ (by have := HK.out; have := LN.out; rw [wrap_in _ (by omega) (by omega)]; omega)) ?_
        refine zP (.int .i64 ((i + 1 : Nat) : Int)) ?_
        have LS := Lib.hid (less_step DX.out XX.out.1 (show mst i = 0 by unfold mst; have := HI.out; rw [if_neg (by omega), if_neg (by omega), if_pos this]))
        have NX : Hid (i + 1 ≤ n ∧ Below w.heap.size w wr ∧ false = decide (vd (xs.take (i + 1)) ≤ msts (i + 1))) := Lib.hid ⟨HK.out, RI.out.2.1, by rw [eq_comm, decide_eq_false_iff_not, LS.out]; exact fun h => h.elim (fun h2 => HS.out.1 h2) (fun h2 => HS.out.2 h2.1)⟩
        unfold wpList
        go_roundw
        case rel => first | exact ⟨i + 1, _, rfl, rfl, NX⟩ | ((repeat apply Exists.intro); exact ⟨⟨i + 1, _, rfl, rfl, NX⟩, rfl⟩)
        case measure => simp [intOf]; have := HK.out; omega
     ·have HI := Lib.hid (And.intro h0 (And.intro h1 h2))
      clear h0 h1 h2
      by_cases hs : x < 255
      ·have HS := Lib.hid hs
       clear hs
       go_upto_region 3 with (fail)
       refine wp_region_lit ?_
       refine zP (.int .i64 ((i : Nat) : Int)) ?_
       refine zP (.slice a n c) ?_
       refine zP (.int .i64 (n : Int)) ?_
       refine zQ (.bool true) (run_lti Tryd.underlying3 rfl rfl rfl (by have := HK.out; rw [decide_eq_true_eq]; omega)) ?_
       go_upto_region 5 with (fail)
       refine wp_region_lit ?_
       refine zP (.int .i64 255) ?_
       go_upto_region 6 with (fail)
       refine wp_region_lit ?_
       refine zP (.int .i64 ((i : Nat) : Int)) ?_
       refine zQ (.bool false) (run_eqi Tryd.underlying3 rfl rfl rfl (by have := HI.out; rw [decide_eq_false_iff_not]; omega)) ?_
       go_upto_region 8 with (fail)
       refine wp_region_lit ?_
       refine zP (.int .i64 ((i : Nat) : Int)) ?_
       refine zQ (.bool false) (run_eqi Tryd.underlying3 rfl rfl rfl (by have := HI.out; rw [decide_eq_false_iff_not]; omega)) ?_
       go_upto_region 10 with (fail)
       refine wp_region_lit ?_
       refine zP (.int .i64 ((i : Nat) : Int)) ?_
       refine zQ (.bool false) (run_gti Tryd.underlying3 rfl rfl rfl (by have := HI.out; rw [decide_eq_false_iff_not]; omega)) ?_
       go_upto_region 12 with (fail)
       refine wp_region_lit ?_
       refine zP (.slice a n c) ?_
       refine zP (.int .i64 ((i : Nat) : Int)) ?_
       refine zQ (.pointer (some ⟨g, o + i, none⟩)) (I.run_idx _ _ _ _ _ g o n c i rfl (by rw [EA.out]; rfl) rfl HK.out HX.out.2.1) ?_
       refine zQ (.int .i64 ((x : Nat) : Int)) (run_load_one _ _ _ 3 _ _ rfl (g) (o + i) rfl (HC.out) (by kernel_rfl)) ?_
       refine zP (.int .i64 255) ?_
       refine zQ (.bool true) (run_lti Tryd.underlying3 rfl rfl rfl (by have := HS.out; rw [decide_eq_true_eq]; omega)) ?_
       refine zP (.bool true) ?_
       refine wpL_skip (by kernel_rfl) ?_
       simp only [Act.put, List.setIfInBounds_toArray, List.set_cons_zero, List.set_cons_succ]
       refine wpL_skip (by kernel_rfl) ?_
       simp only [Act.put, List.setIfInBounds_toArray, List.set_cons_zero, List.set_cons_succ]
       refine wpL_skip (by kernel_rfl) ?_
       simp only [Act.put, List.setIfInBounds_toArray, List.set_cons_zero, List.set_cons_succ]
       refine wpL_skip (by kernel_rfl) ?_
       simp only [Act.put, List.setIfInBounds_toArray, List.set_cons_zero, List.set_cons_succ]
       refine wpL_skip (by kernel_rfl) ?_
       simp only [Act.put, List.setIfInBounds_toArray, List.set_cons_zero, List.set_cons_succ]
       refine wpL_skip (by kernel_rfl) ?_
       simp only [Act.put, List.setIfInBounds_toArray, List.set_cons_zero, List.set_cons_succ]
       refine wpL_skip (by kernel_rfl) ?_
       simp only [Act.put, List.setIfInBounds_toArray, List.set_cons_zero, List.set_cons_succ]
       refine wpL_skip (by kernel_rfl) ?_
       simp only [Act.put, List.setIfInBounds_toArray, List.set_cons_zero, List.set_cons_succ]
       refine wpL_skip (by kernel_rfl) ?_
       simp only [Act.put, List.setIfInBounds_toArray, List.set_cons_zero, List.set_cons_succ]
       refine zP (.bool true) ?_
       refine zP (.bool true) ?_
       go_upto_region 4 with (fail)
       refine wp_region_lit ?_
       refine zP (.int .i64 ((i : Nat) : Int)) ?_
       refine zQ (.int .i64 ((i + 1 : Nat) : Int)) (run_addi Tryd.underlying3 rfl rfl rfl _ (by have := HK.out; have := LN.out; rw [wrap_in _ (by omega) (by omega)]; omega)) ?_
       refine zP (.int .i64 ((i + 1 : Nat) : Int)) ?_
       have LS := Lib.hid (less_step DX.out XX.out.1 (show mst i = 255 by unfold mst; have := HI.out; rw [if_neg (by omega), if_neg (by omega), if_neg (by omega)]))
       have NX : Hid (i + 1 ≤ n ∧ Below w.heap.size w wr ∧ true = decide (vd (xs.take (i + 1)) ≤ msts (i + 1))) := Lib.hid ⟨HK.out, RI.out.2.1, by rw [eq_comm, decide_eq_true_eq, LS.out]; exact .inl HS.out⟩
       unfold wpList
       go_roundw
       case rel => first | exact ⟨i + 1, _, rfl, rfl, NX⟩ | ((repeat apply Exists.intro); exact ⟨⟨i + 1, _, rfl, rfl, NX⟩, rfl⟩)
       case measure => simp [intOf]; have := HK.out; omega
      ·by_cases he : x = 255
       ·have HS := Lib.hid he
        clear hs he
        go_upto_region 3 with (fail)
        refine wp_region_lit ?_
        refine zP (.int .i64 ((i : Nat) : Int)) ?_
        refine zP (.slice a n c) ?_
        refine zP (.int .i64 (n : Int)) ?_
        refine zQ (.bool true) (run_lti Tryd.underlying3 rfl rfl rfl (by have := HK.out; rw [decide_eq_true_eq]; omega)) ?_
        go_upto_region 5 with (fail)
        refine wp_region_lit ?_
        refine zP (.int .i64 255) ?_
        go_upto_region 6 with (fail)
        refine wp_region_lit ?_
        refine zP (.int .i64 ((i : Nat) : Int)) ?_
        refine zQ (.bool false) (run_eqi Tryd.underlying3 rfl rfl rfl (by have := HI.out; rw [decide_eq_false_iff_not]; omega)) ?_
        go_upto_region 8 with (fail)
        refine wp_region_lit ?_
        refine zP (.int .i64 ((i : Nat) : Int)) ?_
        refine zQ (.bool false) (run_eqi Tryd.underlying3 rfl rfl rfl (by have := HI.out; rw [decide_eq_false_iff_not]; omega)) ?_
        go_upto_region 10 with (fail)
        refine wp_region_lit ?_
        refine zP (.int .i64 ((i : Nat) : Int)) ?_
        refine zQ (.bool false) (run_gti Tryd.underlying3 rfl rfl rfl (by have := HI.out; rw [decide_eq_false_iff_not]; omega)) ?_
        go_upto_region 12 with (fail)
        refine wp_region_lit ?_
        refine zP (.slice a n c) ?_
        refine zP (.int .i64 ((i : Nat) : Int)) ?_
        refine zQ (.pointer (some ⟨g, o + i, none⟩)) (I.run_idx _ _ _ _ _ g o n c i rfl (by rw [EA.out]; rfl) rfl HK.out HX.out.2.1) ?_
        refine zQ (.int .i64 ((x : Nat) : Int)) (run_load_one _ _ _ 3 _ _ rfl (g) (o + i) rfl (HC.out) (by kernel_rfl)) ?_
        refine zP (.int .i64 255) ?_
        refine zQ (.bool false) (run_lti Tryd.underlying3 rfl rfl rfl (by have := HS.out; rw [decide_eq_false_iff_not]; omega)) ?_
        refine zP (.bool false) ?_
        refine zP (.slice a n c) ?_
        refine zP (.int .i64 ((i : Nat) : Int)) ?_
        refine zQ (.pointer (some ⟨g, o + i, none⟩)) (I.run_idx _ _ _ _ _ g o n c i rfl (by rw [EA.out]; rfl) rfl HK.out HX.out.2.1) ?_
        refine zQ (.int .i64 ((x : Nat) : Int)) (run_load_one _ _ _ 3 _ _ rfl (g) (o + i) rfl (HC.out) (by kernel_rfl)) ?_
        refine zP (.int .i64 255) ?_
        refine zQ (.bool true) (run_eqi Tryd.underlying3 rfl rfl rfl (by have := HS.out; rw [decide_eq_true_eq]; omega)) ?_
        refine zP (.bool true) ?_
        refine zP (.bool z) ?_
        refine zP (.bool z) ?_
        refine zP (.bool z) ?_
        refine zP (.bool z) ?_
        go_upto_region 4 with (fail)
        refine wp_region_lit ?_
        refine zP (.int .i64 ((i : Nat) : Int)) ?_
        refine zQ (.int .i64 ((i + 1 : Nat) : Int)) (run_addi Tryd.underlying3 rfl rfl rfl _ (by have := HK.out; have := LN.out; rw [wrap_in _ (by omega) (by omega)]; omega)) ?_
        refine zP (.int .i64 ((i + 1 : Nat) : Int)) ?_
        have LS := Lib.hid (less_step DX.out XX.out.1 (show mst i = 255 by unfold mst; have := HI.out; rw [if_neg (by omega), if_neg (by omega), if_neg (by omega)]))
        have NX : Hid (i + 1 ≤ n ∧ Below w.heap.size w wr ∧ z = decide (vd (xs.take (i + 1)) ≤ msts (i + 1))) := Lib.hid ⟨HK.out, RI.out.2.1, by rw [RI.out.2.2, decide_eq_decide, LS.out]; exact ⟨fun h => .inr ⟨HS.out, h⟩, fun h => h.elim (fun h2 => by have := HS.out; omega) (fun h2 => h2.2)⟩⟩
        unfold wpList
        go_roundw
        case rel => first | exact ⟨i + 1, _, rfl, rfl, NX⟩ | ((repeat apply Exists.intro); exact ⟨⟨i + 1, _, rfl, rfl, NX⟩, rfl⟩)
        case measure => simp [intOf]; have := HK.out; omega
       ·have HS := Lib.hid (And.intro hs he)
        clear hs he
        go_upto_region 3 with (fail)
        refine wp_region_lit ?_
        refine zP (.int .i64 ((i : Nat) : Int)) ?_
        refine zP (.slice a n c) ?_
        refine zP (.int .i64 (n : Int)) ?_
        refine zQ (.bool true) (run_lti Tryd.underlying3 rfl rfl rfl (by have := HK.out; rw [decide_eq_true_eq]; omega)) ?_
        go_upto_region 5 with (fail)
        refine wp_region_lit ?_
        refine zP (.int .i64 255) ?_
        go_upto_region 6 with (fail)
        refine wp_region_lit ?_
        refine zP (.int .i64 ((i : Nat) : Int)) ?_
        refine zQ (.bool false) (run_eqi Tryd.underlying3 rfl rfl rfl (by have := HI.out; rw [decide_eq_false_iff_not]; omega)) ?_
        go_upto_region 8 with (fail)
        refine wp_region_lit ?_
        refine zP (.int .i64 ((i : Nat) : Int)) ?_
        refine zQ (.bool false) (run_eqi Tryd.underlying3 rfl rfl rfl (by have := HI.out; rw [decide_eq_false_iff_not]; omega)) ?_
        go_upto_region 10 with (fail)
        refine wp_region_lit ?_
        refine zP (.int .i64 ((i : Nat) : Int)) ?_
        refine zQ (.bool false) (run_gti Tryd.underlying3 rfl rfl rfl (by have := HI.out; rw [decide_eq_false_iff_not]; omega)) ?_
        go_upto_region 12 with (fail)
        refine wp_region_lit ?_
        refine zP (.slice a n c) ?_
        refine zP (.int .i64 ((i : Nat) : Int)) ?_
        refine zQ (.pointer (some ⟨g, o + i, none⟩)) (I.run_idx _ _ _ _ _ g o n c i rfl (by rw [EA.out]; rfl) rfl HK.out HX.out.2.1) ?_
        refine zQ (.int .i64 ((x : Nat) : Int)) (run_load_one _ _ _ 3 _ _ rfl (g) (o + i) rfl (HC.out) (by kernel_rfl)) ?_
        refine zP (.int .i64 255) ?_
        refine zQ (.bool false) (run_lti Tryd.underlying3 rfl rfl rfl (by have := HS.out; rw [decide_eq_false_iff_not]; omega)) ?_
        refine zP (.bool false) ?_
        refine zP (.slice a n c) ?_
        refine zP (.int .i64 ((i : Nat) : Int)) ?_
        refine zQ (.pointer (some ⟨g, o + i, none⟩)) (I.run_idx _ _ _ _ _ g o n c i rfl (by rw [EA.out]; rfl) rfl HK.out HX.out.2.1) ?_
        refine zQ (.int .i64 ((x : Nat) : Int)) (run_load_one _ _ _ 3 _ _ rfl (g) (o + i) rfl (HC.out) (by kernel_rfl)) ?_
        refine zP (.int .i64 255) ?_
        refine zQ (.bool false) (run_eqi Tryd.underlying3 rfl rfl rfl (by have := HS.out; rw [decide_eq_false_iff_not]; omega)) ?_
        refine zP (.bool false) ?_
        refine wpL_skip (by kernel_rfl) ?_
        simp only [Act.put, List.setIfInBounds_toArray, List.set_cons_zero, List.set_cons_succ]
        refine zP (.bool false) ?_
        refine zP (.bool false) ?_
        refine zP (.bool false) ?_
        go_upto_region 4 with (fail)
        refine wp_region_lit ?_
        refine zP (.int .i64 ((i : Nat) : Int)) ?_
        refine zQ (.int .i64 ((i + 1 : Nat) : Int)) (run_addi Tryd.underlying3 rfl rfl rfl _ (by have := HK.out; have := LN.out; rw [wrap_in _ (by omega) (by omega)]; omega)) ?_
        refine zP (.int .i64 ((i + 1 : Nat) : Int)) ?_
        have LS := Lib.hid (less_step DX.out XX.out.1 (show mst i = 255 by unfold mst; have := HI.out; rw [if_neg (by omega), if_neg (by omega), if_neg (by omega)]))
        have NX : Hid (i + 1 ≤ n ∧ Below w.heap.size w wr ∧ false = decide (vd (xs.take (i + 1)) ≤ msts (i + 1))) := Lib.hid ⟨HK.out, RI.out.2.1, by rw [eq_comm, decide_eq_false_iff_not, LS.out]; exact fun h => h.elim (fun h2 => HS.out.1 h2) (fun h2 => HS.out.2 h2.1)⟩
        unfold wpList
        go_roundw
        case rel => first | exact ⟨i + 1, _, rfl, rfl, NX⟩ | ((repeat apply Exists.intro); exact ⟨⟨i + 1, _, rfl, rfl, NX⟩, rfl⟩)
        case measure => simp [intOf]; have := HK.out; omega
  ·have HK := Lib.hid hlt
   have EK : Hid (i = n) := Lib.hid (by have := RI.out.1; omega)
   clear hlt
   go_upto_region 3 with (fail)
   refine wp_region_lit ?_
   refine zP (.int .i64 ((i : Nat) : Int)) ?_
   refine zP (.slice a n c) ?_
   refine zP (.int .i64 (n : Int)) ?_
   refine zQ (.bool false) (run_lti Tryd.underlying3 rfl rfl rfl (by have := HK.out; rw [decide_eq_false_iff_not]; omega)) ?_
   go_upto_region 13 with (fail)
   refine wp_region_lit ?_
   refine zP (.bool z) ?_
   refine zP (.bool z) ?_
   go_wp2_with fail
   go_ret
   exact ⟨by show Ending.returned (Value.bool z) = _; rw [RI.out.2.2, EK.out, ← LX.out, decide_eq_decide.2 (less_end (a := xs) (by have := LX.out; have := LN.out; omega))], RI.out.2.1⟩
end Go.Proofs.YtlbfohpkngmaoaaDoor.Po
