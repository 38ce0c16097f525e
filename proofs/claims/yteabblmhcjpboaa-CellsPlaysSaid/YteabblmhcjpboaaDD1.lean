import Derived.Test.YteabblmhcjpboaaDArith
import Derived.Test.YteabblmhcjpboaaDGen
import Derived.Laws.Tables
import Derived.Maps.Own
namespace Go.Proofs.Yteabblmhcjpboaa.D
open Go Go.RowKit
set_option maxRecDepth 100000
theorem wpL_eff {P : Program} {ops : Array Oper} {Q : Exit → Act → World → Prop} {a : Act} {w : World} {o : Oper} {rest : List Oper} (w' : World) (hw : Region.wanted o (yielded ops a.tmps) = true) (hr : (execOp a.eval o).run P w = .ok .skip w')
    (h : wpList P ops Q rest (a.put o.dst undef) w') : wpList P ops Q (o :: rest) a w :=
  wpList_step fun K hK => by rw [if_pos hw]; unfold Oper.wp; rw [hr]; exact hK _ _ h
def setMap (w : World) (gm : Nat) (o : Obj) : World := { w with heap := w.heap.setIfInBounds gm o }
theorem setMap_gb (w : World) (gm : Nat) (o : Obj) : w.grownBy (setMap w gm o) (some gm) := ⟨rfl, rfl, rfl, by simp [setMap], fun k _ hr => by
  have : gm ≠ k := fun e => hr (congrArg some e.symm)
  simp [setMap, Array.getElem?_setIfInBounds_ne this]⟩
theorem setMap_at (w : World) (gm : Nat) (o : Obj) (h : gm < w.heap.size) : (setMap w gm o).heap[gm]? = some o := by simp [setMap, h]
theorem ck (b : Bool) (i : Int) (w : World) : (Instr.checkKey b 10000 3 (.int .i64 i)).run Try.prog w = .ok () w := by
  rw [show (10000 : Nat) = 9999 + 1 from rfl, Instr.checkKey]
  simp [run_underlying Try.underlying3]
theorem run_upd (a : Act) (o : Oper) (w : World) (x y z : Operand) (gm c : Nat) (i : Int) (v : Value) (ho : o.op = .mapUpdate 60 x y z) (hx : a.eval x = .map (some gm)) (hy : a.eval y = .int .i64 i) (hz : a.eval z = v) (hm : w.heap[gm]? = some (.map #[] c)) :
    (execOp a.eval o).run Try.prog w = .ok .skip (setMap w gm (.map #[⟨.int .i64 i, v, c⟩] (c + 1))) := by
  subst hz
  have s := Go.MapKept.run_setObj_map (P := Try.prog) (.map #[⟨.int .i64 i, a.eval z, c⟩] (c + 1)) hm
  have q := Go.MapKept.run_getObj_map (P := Try.prog) hm
  unfold execOp
  simp only [ho, hx, hy]
  simp [Instr.mapUpdate, run_underlying Try.underlying60, run_underlying Try.underlying3, ck, Instr.findKey, Instr.findNow, q, s, setMap]
theorem run_lookup0 (a : Act) (o : Oper) (w : World) (x y : Operand) (gm c : Nat) (i : Int) (ho : o.op = .lookup 60 x y true) (hx : a.eval x = .map (some gm)) (hy : a.eval y = .int .i64 i) (hm : w.heap[gm]? = some (.map #[] c)) :
    (execOp a.eval o).run Try.prog w = .ok (.value (.tuple #[.agg #[.int .u8 0, .int .u8 0, .int .u8 0, .int .u8 0, .int .u8 0, .int .u8 0, .int .u8 0, .int .u8 0, .int .u8 0, .int .u8 0, .int .u8 0, .int .u8 0, .int .u8 0, .int .u8 0, .int .u8 0, .int .u8 0, .int .u8 0, .int .u8 0, .int .u8 0, .int .u8 0, .int .u8 0, .int .u8 0, .int .u8 0, .int .u8 0, .int .u8 0, .int .u8 0, .int .u8 0, .int .u8 0, .int .u8 0, .int .u8 0, .int .u8 0, .int .u8 0, .int .u8 0, .int .u8 0, .int .u8 0, .int .u8 0, .int .u8 0, .int .u8 0, .int .u8 0, .int .u8 0, .int .u8 0, .int .u8 0, .int .u8 0, .int .u8 0, .int .u8 0, .int .u8 0, .int .u8 0, .int .u8 0, .int .u8 0, .int .u8 0, .int .u8 0, .int .u8 0, .int .u8 0, .int .u8 0, .int .u8 0, .int .u8 0, .int .u8 0, .int .u8 0, .int .u8 0, .int .u8 0, .int .u8 0, .int .u8 0, .int .u8 0, .int .u8 0], .bool false])) w := by
  have q := Go.MapKept.run_getObj_map (P := Try.prog) hm
  unfold execOp
  simp only [ho, hx, hy]
  simp [Instr.lookup, run_underlying Try.underlying60, run_underlying Try.underlying3, ck, Instr.findKey, Instr.findNow, q]
theorem row_one (w : World) (x : Int) (h0 : 0 ≤ x) (h1 : x ≤ 255) : Row (w.alloc (.cells #[.int .u8 x] 5)) (some ⟨w.heap.size, 0, none⟩) 1 [x] :=
  ⟨rfl, by simp [maxLen], by simp; omega, fun j hj => ⟨_, _, rfl, by rw [(Blk.new w 5 _).cell]; (obtain rfl : j = 0 := by omega); rfl⟩⟩
/-- a sector's first k bytes: those of bs, filled with x. -/
def fullL (x : Int) (bs : List Int) (k : Nat) : List Int := (List.range k).map fun i => if i < bs.length then bs.getD i 0 else x
theorem fullL_len (x : Int) (bs : List Int) (k : Nat) : (fullL x bs k).length = k := by simp [fullL]
theorem fullL_next (x : Int) (bs : List Int) (k : Nat) : fullL x bs (k + 1) = fullL x bs k ++ [if k < bs.length then bs.getD k 0 else x] := by simp [fullL, List.range_succ]
set_option maxHeartbeats 1000000 in
theorem full_any (w : World) (x : Int) (hx : 0 ≤ x ∧ x ≤ 255) (a : Option Addr) (n c : Nat) (bs : List Int) (h : Row w a n bs) :
    Calls Try.prog 17 #[.int .u8 x, .slice a n c] w fun e w' => ∃ v, e = .returned v ∧ Own w' w.heap.size v (fullL x bs 64) ∧ Below w.heap.size w w' := by
  have HX := Lib.hid hx
  have HR := Lib.hid h
  have HM := Lib.hid h.2.1
  clear hx h
  go_enter Try.func17, Try.ntmps17
  go_wp2_with fail
  go_loopw [5, 6] (fun s5 s6 wr => ∃ (k : Nat) (a5 : Option Addr) (c5 : Nat), s5 = .slice a5 k c5 ∧ s6 = .int .i64 (k : Int) ∧ Hid (k ≤ 64 ∧ Own wr w.heap.size (.slice a5 k c5) (fullL x bs k) ∧ Below w.heap.size w wr)) (fun _ s6 _ => 64 - (intOf s6).toNat)
  case atStart => exact ⟨0, none, 0, rfl, rfl, Lib.hid ⟨by omega, Own.nil _ _, Below.refl _ _⟩⟩
  case round =>
    obtain ⟨k, a5, c5, rfl, rfl, RI⟩ := hrel
    by_cases hlt : k < 64
    · have HK : Hid (k < 64 ∧ True) := Lib.hid ⟨hlt, trivial⟩
      clear hlt
      by_cases hin : k < n
      · have IB := Lib.hid hin
        have hkb : k < bs.length := by rw [HR.out.1]; exact hin
        obtain ⟨gb, ob, rfl, _⟩ := HR.out.2.2.2 k hin
        have KC : Hid (wr.cell? ⟨gb, ob + k, none⟩ = some (.int .u8 (bs.getD k 0))) := Lib.hid (by
          obtain ⟨g', o', e, hc⟩ := (HR.out.keep RI.out.2.2).2.2.2 k hin
          simp only [Option.some.injEq, Addr.mk.injEq, and_true] at e
          obtain ⟨rfl, rfl⟩ := e
          exact hc)
        have BV := Lib.hid (getD_byte HR.out.2.2.1 k)
        obtain ⟨W1, hW1⟩ : ∃ V, V = wr.alloc (.cells #[.int .u8 (bs.getD k 0)] 5) := ⟨_, rfl⟩
        have R0 : Row W1 (some ⟨wr.heap.size, 0, none⟩) 1 [(bs.getD k 0)] := by rw [hW1]; exact row_one wr _ BV.out.1 BV.out.2
        have b0 : Below w.heap.size w W1 := by rw [hW1]; exact RI.out.2.2.alloc RI.out.2.2.size _
        obtain ⟨v2, W2, r1, r2, r3, r4, _⟩ := append_own W1 w.heap.size (.slice a5 k c5) (fullL x bs k) [(bs.getD k 0)] _ 1 1 (by rw [hW1]; exact RI.out.2.1.alloc _) R0 (by rw [fullL_len]; have := HK.out; omega) b0.size
        obtain ⟨a2, c2, e2⟩ := r2.slice
        have e3 : v2 = .slice a2 (k + 1) c2 := by rw [e2, List.length_append, fullL_len]; rfl
        subst e3
        have R1 := Lib.hid r1
        have NX : Hid (k + 1 ≤ 64 ∧ Own W2 w.heap.size (.slice a2 (k + 1) c2) (fullL x bs (k + 1)) ∧ Below w.heap.size w W2) := Lib.hid ⟨by have := HK.out.1; omega, by rw [fullL_next, if_pos hkb]; exact r2, b0.grown r3 b0.size (fun j hj => (RI.out.2.1.lt j hj).1)⟩
        clear r1 r2 r3 r4 R0 b0 BV e2
        clear hin hkb
        go_upto_region 3 with (fail)
        refine wp_region_lit ?_
        refine wpL_pure (.int .i64 (k : Int)) rfl (by kernel_rfl) ?_
        simp only [Act.put, List.setIfInBounds_toArray, List.set_cons_zero, List.set_cons_succ]
        refine wpL_pure (.bool true) rfl (run_lti Try.underlying3 rfl rfl rfl (by have := HK.out.1; rw [decide_eq_true_eq]; omega)) ?_
        simp only [Act.put, List.setIfInBounds_toArray, List.set_cons_zero, List.set_cons_succ]
        go_upto_region 5 with (fail)
        refine wp_region_lit ?_
        refine wpL_pure (.int .u8 x) rfl (by kernel_rfl) ?_
        simp only [Act.put, List.setIfInBounds_toArray, List.set_cons_zero, List.set_cons_succ]
        refine wpL_pure (.int .u8 x) rfl (by kernel_rfl) ?_
        simp only [Act.put, List.setIfInBounds_toArray, List.set_cons_zero, List.set_cons_succ]
        go_upto_region 6 with (fail)
        refine wp_region_lit ?_
        refine wpL_pure (.int .i64 (k : Int)) rfl (by kernel_rfl) ?_
        simp only [Act.put, List.setIfInBounds_toArray, List.set_cons_zero, List.set_cons_succ]
        refine wpL_pure (.slice (some ⟨gb, ob, none⟩) n c) rfl (by kernel_rfl) ?_
        simp only [Act.put, List.setIfInBounds_toArray, List.set_cons_zero, List.set_cons_succ]
        refine wpL_pure (.int .i64 (n : Int)) rfl (by kernel_rfl) ?_
        simp only [Act.put, List.setIfInBounds_toArray, List.set_cons_zero, List.set_cons_succ]
        refine wpL_pure (.bool true) rfl (run_lti Try.underlying3 rfl rfl rfl (by have := IB.out; rw [decide_eq_true_eq]; omega)) ?_
        simp only [Act.put, List.setIfInBounds_toArray, List.set_cons_zero, List.set_cons_succ]
        go_upto_region 7 with (fail)
        refine wp_region_lit ?_
        refine wpL_pure (.slice (some ⟨gb, ob, none⟩) n c) rfl (by kernel_rfl) ?_
        simp only [Act.put, List.setIfInBounds_toArray, List.set_cons_zero, List.set_cons_succ]
        refine wpL_pure (.int .i64 (k : Int)) rfl (by kernel_rfl) ?_
        simp only [Act.put, List.setIfInBounds_toArray, List.set_cons_zero, List.set_cons_succ]
        refine wpL_pure (.pointer (some ⟨gb, ob + k, none⟩)) rfl (run_idx _ _ _ _ _ gb ob n c k rfl rfl rfl IB.out HM.out) ?_
        simp only [Act.put, List.setIfInBounds_toArray, List.set_cons_zero, List.set_cons_succ]
        refine wpL_pure (.int .u8 (bs.getD k 0)) rfl (run_load_one _ _ _ 5 _ (.int .u8 (bs.getD k 0)) rfl gb (ob + k) rfl KC.out (by kernel_rfl)) ?_
        simp only [Act.put, List.setIfInBounds_toArray, List.set_cons_zero, List.set_cons_succ]
        refine wpL_pure (.int .u8 (bs.getD k 0)) rfl (by kernel_rfl) ?_
        simp only [Act.put, List.setIfInBounds_toArray, List.set_cons_zero, List.set_cons_succ]
        go_upto_region 8 with (fail)
        refine wp_region_lit ?_
        refine wpL_pure (.slice a5 k c5) rfl (by kernel_rfl) ?_
        simp only [Act.put, List.setIfInBounds_toArray, List.set_cons_zero, List.set_cons_succ]
        refine wpL_pure (.int .u8 (bs.getD k 0)) rfl (by kernel_rfl) ?_
        simp only [Act.put, List.setIfInBounds_toArray, List.set_cons_zero, List.set_cons_succ]
        refine wpL_value (.slice (some ⟨wr.heap.size, 0, none⟩) 1 1) (wr.alloc (.cells #[.int .u8 (bs.getD k 0)] 5)) rfl (by kernel_rfl) ?_
        simp only [Act.put, List.setIfInBounds_toArray, List.set_cons_zero, List.set_cons_succ]
        rw [← hW1]
        refine wpL_value (.slice a2 (k + 1) c2) (W2) rfl (run_app _ _ _ _ _ _ _ _ _ rfl rfl rfl rfl R1.out) ?_
        simp only [Act.put, List.setIfInBounds_toArray, List.set_cons_zero, List.set_cons_succ]
        refine wpL_pure (.slice a2 (k + 1) c2) rfl (by kernel_rfl) ?_
        simp only [Act.put, List.setIfInBounds_toArray, List.set_cons_zero, List.set_cons_succ]
        go_upto_region 4 with (fail)
        refine wp_region_lit ?_
        refine wpL_pure (.int .i64 (k : Int)) rfl (by kernel_rfl) ?_
        simp only [Act.put, List.setIfInBounds_toArray, List.set_cons_zero, List.set_cons_succ]
        refine wpL_pure (.int .i64 ((k + 1 : Nat) : Int)) rfl (run_addi Try.underlying3 rfl rfl rfl _ (by have := HK.out; rw [wrap_in _ (by omega) (by omega)]; omega)) ?_
        simp only [Act.put, List.setIfInBounds_toArray, List.set_cons_zero, List.set_cons_succ]
        refine wpL_pure (.int .i64 ((k + 1 : Nat) : Int)) rfl (by kernel_rfl) ?_
        simp only [Act.put, List.setIfInBounds_toArray, List.set_cons_zero, List.set_cons_succ]
        go_roundw
        case rel => first | exact ⟨k + 1, a2, c2, rfl, rfl, NX.out⟩ | ((repeat apply Exists.intro); exact ⟨⟨k + 1, a2, c2, rfl, rfl, NX.out⟩, rfl⟩)
        case measure => simp [intOf]; have := HK.out; omega
      · have IB := Lib.hid hin
        have hkb : ¬ k < bs.length := by rw [HR.out.1]; exact hin
        have BV := HX
        obtain ⟨W1, hW1⟩ : ∃ V, V = wr.alloc (.cells #[.int .u8 x] 5) := ⟨_, rfl⟩
        have R0 : Row W1 (some ⟨wr.heap.size, 0, none⟩) 1 [x] := by rw [hW1]; exact row_one wr _ BV.out.1 BV.out.2
        have b0 : Below w.heap.size w W1 := by rw [hW1]; exact RI.out.2.2.alloc RI.out.2.2.size _
        obtain ⟨v2, W2, r1, r2, r3, r4, _⟩ := append_own W1 w.heap.size (.slice a5 k c5) (fullL x bs k) [x] _ 1 1 (by rw [hW1]; exact RI.out.2.1.alloc _) R0 (by rw [fullL_len]; have := HK.out; omega) b0.size
        obtain ⟨a2, c2, e2⟩ := r2.slice
        have e3 : v2 = .slice a2 (k + 1) c2 := by rw [e2, List.length_append, fullL_len]; rfl
        subst e3
        have R1 := Lib.hid r1
        have NX : Hid (k + 1 ≤ 64 ∧ Own W2 w.heap.size (.slice a2 (k + 1) c2) (fullL x bs (k + 1)) ∧ Below w.heap.size w W2) := Lib.hid ⟨by have := HK.out.1; omega, by rw [fullL_next, if_neg hkb]; exact r2, b0.grown r3 b0.size (fun j hj => (RI.out.2.1.lt j hj).1)⟩
        clear r1 r2 r3 r4 R0 b0 BV e2
        clear hin hkb
        go_upto_region 3 with (fail)
        refine wp_region_lit ?_
        refine wpL_pure (.int .i64 (k : Int)) rfl (by kernel_rfl) ?_
        simp only [Act.put, List.setIfInBounds_toArray, List.set_cons_zero, List.set_cons_succ]
        refine wpL_pure (.bool true) rfl (run_lti Try.underlying3 rfl rfl rfl (by have := HK.out.1; rw [decide_eq_true_eq]; omega)) ?_
        simp only [Act.put, List.setIfInBounds_toArray, List.set_cons_zero, List.set_cons_succ]
        go_upto_region 5 with (fail)
        refine wp_region_lit ?_
        refine wpL_pure (.int .u8 x) rfl (by kernel_rfl) ?_
        simp only [Act.put, List.setIfInBounds_toArray, List.set_cons_zero, List.set_cons_succ]
        refine wpL_pure (.int .u8 x) rfl (by kernel_rfl) ?_
        simp only [Act.put, List.setIfInBounds_toArray, List.set_cons_zero, List.set_cons_succ]
        go_upto_region 6 with (fail)
        refine wp_region_lit ?_
        refine wpL_pure (.int .i64 (k : Int)) rfl (by kernel_rfl) ?_
        simp only [Act.put, List.setIfInBounds_toArray, List.set_cons_zero, List.set_cons_succ]
        refine wpL_pure (.slice a n c) rfl (by kernel_rfl) ?_
        simp only [Act.put, List.setIfInBounds_toArray, List.set_cons_zero, List.set_cons_succ]
        refine wpL_pure (.int .i64 (n : Int)) rfl (by kernel_rfl) ?_
        simp only [Act.put, List.setIfInBounds_toArray, List.set_cons_zero, List.set_cons_succ]
        refine wpL_pure (.bool false) rfl (run_lti Try.underlying3 rfl rfl rfl (by have := IB.out; rw [decide_eq_false_iff_not]; omega)) ?_
        simp only [Act.put, List.setIfInBounds_toArray, List.set_cons_zero, List.set_cons_succ]
        go_upto_region 8 with (fail)
        refine wp_region_lit ?_
        refine wpL_pure (.slice a5 k c5) rfl (by kernel_rfl) ?_
        simp only [Act.put, List.setIfInBounds_toArray, List.set_cons_zero, List.set_cons_succ]
        refine wpL_pure (.int .u8 x) rfl (by kernel_rfl) ?_
        simp only [Act.put, List.setIfInBounds_toArray, List.set_cons_zero, List.set_cons_succ]
        refine wpL_value (.slice (some ⟨wr.heap.size, 0, none⟩) 1 1) (wr.alloc (.cells #[.int .u8 x] 5)) rfl (by kernel_rfl) ?_
        simp only [Act.put, List.setIfInBounds_toArray, List.set_cons_zero, List.set_cons_succ]
        rw [← hW1]
        refine wpL_value (.slice a2 (k + 1) c2) (W2) rfl (run_app _ _ _ _ _ _ _ _ _ rfl rfl rfl rfl R1.out) ?_
        simp only [Act.put, List.setIfInBounds_toArray, List.set_cons_zero, List.set_cons_succ]
        refine wpL_pure (.slice a2 (k + 1) c2) rfl (by kernel_rfl) ?_
        simp only [Act.put, List.setIfInBounds_toArray, List.set_cons_zero, List.set_cons_succ]
        go_upto_region 4 with (fail)
        refine wp_region_lit ?_
        refine wpL_pure (.int .i64 (k : Int)) rfl (by kernel_rfl) ?_
        simp only [Act.put, List.setIfInBounds_toArray, List.set_cons_zero, List.set_cons_succ]
        refine wpL_pure (.int .i64 ((k + 1 : Nat) : Int)) rfl (run_addi Try.underlying3 rfl rfl rfl _ (by have := HK.out; rw [wrap_in _ (by omega) (by omega)]; omega)) ?_
        simp only [Act.put, List.setIfInBounds_toArray, List.set_cons_zero, List.set_cons_succ]
        refine wpL_pure (.int .i64 ((k + 1 : Nat) : Int)) rfl (by kernel_rfl) ?_
        simp only [Act.put, List.setIfInBounds_toArray, List.set_cons_zero, List.set_cons_succ]
        go_roundw
        case rel => first | exact ⟨k + 1, a2, c2, rfl, rfl, NX.out⟩ | ((repeat apply Exists.intro); exact ⟨⟨k + 1, a2, c2, rfl, rfl, NX.out⟩, rfl⟩)
        case measure => simp [intOf]; have := HK.out; omega
    · have hk : k = 64 := by have := RI.out.1; omega
      subst hk
      go_upto_region 3 with (fail)
      refine wp_region_lit ?_
      refine wpL_pure (.int .i64 ((64 : Nat) : Int)) rfl (by kernel_rfl) ?_
      simp only [Act.put, List.setIfInBounds_toArray, List.set_cons_zero, List.set_cons_succ]
      refine wpL_pure (.bool false) rfl (run_lti Try.underlying3 rfl rfl rfl (by decide)) ?_
      simp only [Act.put, List.setIfInBounds_toArray, List.set_cons_zero, List.set_cons_succ]
      go_wp2_with fail
      go_ret
      exact ⟨_, rfl, RI.out.2⟩
end Go.Proofs.Yteabblmhcjpboaa.D
