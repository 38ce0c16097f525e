import Derived.Test.YtfhjfpgfbeiacaaDoorHaH14
import Derived.Test.YtfhjfpgfbeiacaaDoorHaTab
namespace Go.Proofs.YtfhjfpgfbeiacaaDoor.Ha
open Go Go.RowKit
set_option maxRecDepth 100000

/-- the reference's state while it joins: the text, the block of its answer. -/
def RSt (w W : World) (g2 : Nat) (v : Value) (xs : List Int) : Prop := Own W (g2 + 1) v xs ∧ Below g2 w W ∧ Blk W g2 22 (u8l (List.replicate 32 0)).toArray
theorem RSt.start (w : World) : RSt w (w.alloc (.cells (u8l (List.replicate 32 0)).toArray 22)) w.heap.size (.slice none 0 0) [] := ⟨Own.nil _ _, (Below.refl _ _).alloc (Nat.le_refl _) _, Blk.new _ _ _⟩
theorem RSt.grow {w W W' : World} {g2 : Nat} {v : Value} {xs : List Int} (h : RSt w W g2 v xs) (hg : W.grownBy W' v.ownBlock) : Below g2 w W' ∧ Blk W' g2 22 (u8l (List.replicate 32 0)).toArray := by
  refine ⟨h.2.1.trans ⟨hg.os, hg.tape, hg.output, hg.size, fun k hk => hg.block k (by have := h.2.2.lt; omega) (fun e => ?_)⟩, h.2.2.grown hg (fun e => ?_)⟩
  · have := h.1.lt k e.symm; omega
  · have := h.1.lt g2 e.symm; omega
theorem RSt.text {w W : World} {g2 : Nat} (h : RSt w W g2 (.slice none 0 0) []) (a : Option Addr) (n c : Nat) (t : List Int) (hr : Row W a n t) (hn : n ≤ 2000000) :
    ∃ v W', (Builtin.append_ #[32, 32] 32 #[.slice none 0 0, .slice a n c]).run Tryd.prog W = .ok v W' ∧ RSt w W' g2 v t := by
  obtain ⟨v, W', r1, r2, r3, r4, r5⟩ := append_own W (g2 + 1) (.slice none 0 0) [] t a n c h.1 hr (by simp; omega) (by have := h.2.2.lt; omega)
  exact ⟨v, W', r1, by simpa using r2, h.grow r3⟩
theorem RSt.push {w W : World} {g2 : Nat} {v : Value} {xs : List Int} (h : RSt w W g2 v xs) (x : Int) (hx : 0 ≤ x ∧ x ≤ 255) (hn : xs.length ≤ 2000000) (W1 : World) (hW : W1 = W.alloc (.cells #[.int .u8 x] 5)) :
    ∃ g cap W', (Builtin.append_ #[32, 32] 32 #[v, .slice (some ⟨W.heap.size, 0, none⟩) 1 1]).run Tryd.prog W1 = .ok (.slice (some ⟨g, 0, none⟩) (xs.length + 1) cap) W' ∧ RSt w W' g2 (.slice (some ⟨g, 0, none⟩) (xs.length + 1) cap) (xs ++ [x]) := by
  subst hW
  have hS : RSt w (W.alloc (.cells #[.int .u8 x] 5)) g2 v xs := ⟨h.1.alloc _, h.2.1.alloc (by have := h.2.2.lt; omega) _, h.2.2.alloc _⟩
  obtain ⟨v2, W', r1, r2, r3, r4, r5⟩ := append_own _ (g2 + 1) v xs [x] (some ⟨W.heap.size, 0, none⟩) 1 1 hS.1 (sl_one W hx).1 (by omega) (by have := hS.2.2.lt; omega)
  obtain ⟨g, cap, e⟩ := own_some r2 (fun e => by have := (r5.1 e).2; omega)
  rw [List.length_append] at e
  subst e
  exact ⟨g, cap, W', r1, r2, hS.grow r3⟩
theorem own_row {w : World} {b g n c : Nat} {xs : List Int} (h : Own w b (.slice (some ⟨g, 0, none⟩) n c) xs) : Row w (some ⟨g, 0, none⟩) n xs ∧ c ≤ maxLen ∧ n ≤ c := by
  refine ⟨h.row.1, ?_, h.row.2⟩
  rcases h.form with ⟨h1, _⟩ | ⟨g, cap, cur, h1, h2, h3, h4, h5, h6, h7⟩
  · cases h1
  · cases h1
    exact h5
theorem own_lt {w : World} {b g n c : Nat} {xs : List Int} (h : Own w b (.slice (some ⟨g, 0, none⟩) n c) xs) : g < w.heap.size := (h.lt g rfl).2
theorem row_keepB {w w' : World} {B g n : Nat} {xs : List Int} (h : Row w (some ⟨g, 0, none⟩) n xs) (hb : Below B w w') (hg : g < B) : Row w' (some ⟨g, 0, none⟩) n xs := by
  refine ⟨h.1, h.2.1, h.2.2.1, fun j hj => ?_⟩
  obtain ⟨g', o, e, hc⟩ := h.2.2.2 j hj
  cases e
  refine ⟨g, 0, rfl, ?_⟩
  unfold World.cell? at hc ⊢
  rw [hb.block g hg]
  exact hc
theorem row_cell {w : World} {g n j : Nat} {xs : List Int} (h : Row w (some ⟨g, 0, none⟩) n xs) (hj : j < n) : w.cell? ⟨g, j, none⟩ = some (.int .u8 (byte xs j : Nat)) := by
  obtain ⟨g', o, e, hc⟩ := h.2.2.2 j hj
  cases e
  rw [Nat.zero_add] at hc
  rw [hc]
  have hx : j < xs.length := by have := h.1; omega
  have := h.2.2.1 _ (List.getElem_mem hx)
  unfold byte
  rw [List.getD, List.getElem?_eq_getElem hx]
  simp
  omega
theorem u32_cell {w : World} {g j : Nat} {H : List Nat} (h : Blk w g 95 (u32l H).toArray) (hH : HOk H) (hj : j < 8) : w.cell? ⟨g, j, none⟩ = some (.int .u32 (H.getD j 0 : Nat)) := by
  have hx : j < H.length := by rw [hH.1]; omega
  rw [h.cell, List.getElem?_toArray]
  unfold u32l
  rw [List.getElem?_map, List.getElem?_eq_getElem hx, List.getD, List.getElem?_eq_getElem hx]
  rfl
theorem u32l_one (l : List Nat) : (u32l l).toArray.all (·.oneCell') = true := by
  simp only [List.all_toArray, List.all_eq_true, u32l, List.mem_map]
  rintro v ⟨x, _, rfl⟩
  rfl
def wK (m : Nat → Nat) (k : Nat) : List Nat := if k ≤ 16 then (w16 m).take k else wN m (k - 16)
theorem wK_ge (m : Nat → Nat) (k : Nat) : wK m (k + 16) = wN m k := by
  unfold wK
  by_cases h : k = 0
  · subst h
    rw [if_pos (by omega)]
    exact List.take_of_length_le (by simp [w16])
  · rw [if_neg (by omega), Nat.add_sub_cancel]
theorem run_idxa49 (a : Act) (o : Oper) (w : World) (x i : Operand) (g k : Nat) (ho : o.op = .indexAddr 95 x i) (hx : a.eval x = .pointer (some ⟨g, 0, none⟩)) (hi : a.eval i = .int .i64 (k : Int)) (hk : k < 8) : (execOp a.eval o).run Tryd.prog w = .ok (.value (.pointer (some ⟨g, k, none⟩))) w := by
  have j0 : (0 : Int) ≤ (k : Int) := by omega
  have j6 : (k : Int) < 8 := by omega
  unfold execOp
  simp only [ho, hx, hi]
  go_simp
theorem run_idxa24 (a : Act) (o : Oper) (w : World) (x i : Operand) (g k : Nat) (ho : o.op = .indexAddr 22 x i) (hx : a.eval x = .pointer (some ⟨g, 0, none⟩)) (hi : a.eval i = .int .i64 (k : Int)) (hk : k < 32) : (execOp a.eval o).run Tryd.prog w = .ok (.value (.pointer (some ⟨g, k, none⟩))) w := by
  have j0 : (0 : Int) ≤ (k : Int) := by omega
  have j6 : (k : Int) < 32 := by omega
  unfold execOp
  simp only [ho, hx, hi]
  go_simp
theorem run_quo4 (a : Act) (o : Oper) (w : World) (x : Operand) (y : Nat) (ho : o.op = .binOp .quo 3 x (.const (.int .i64 4)) 3) (hx : a.eval x = .int .i64 (y : Int)) (hy : y < 1000) : (execOp a.eval o).run Tryd.prog w = .ok (.value (.int .i64 ((y / 4 : Nat) : Int))) w := by
  have u := run_underlying Tryd.underlying3 w
  have hc : ∀ v, a.eval (.const v) = v := fun _ => rfl
  unfold execOp
  simp only [ho, hx, hc]
  go_simp
  all_goals rw [wrap_in _ (by omega) (by omega)]
theorem run_rem4 (a : Act) (o : Oper) (w : World) (x : Operand) (y : Nat) (ho : o.op = .binOp .rem 3 x (.const (.int .i64 4)) 3) (hx : a.eval x = .int .i64 (y : Int)) (hy : y < 1000) : (execOp a.eval o).run Tryd.prog w = .ok (.value (.int .i64 ((y % 4 : Nat) : Int))) w := by
  have u := run_underlying Tryd.underlying3 w
  have hc : ∀ v, a.eval (.const v) = v := fun _ => rfl
  unfold execOp
  simp only [ho, hx, hc]
  go_simp
  all_goals first | omega | (simp [Int.tmod_eq_emod_of_nonneg]; done) | (simp [Int.tmod_eq_emod_of_nonneg]; omega)
theorem out_some {H : List Nat} {k : Nat} (hk : k < 32) : ((u8l ((outS H).take k ++ List.replicate (32 - k) 0)).toArray[k]?).isSome = true := by
  simp [u8l, outS_len]
  omega
theorem out_set {w : World} {g k : Nat} {H : List Nat} (hk : k < 32) (h : Blk w g 22 (u8l ((outS H).take k ++ List.replicate (32 - k) 0)).toArray) : Blk (w.setCell ⟨g, k, none⟩ (.int .u8 ((H.getD (k / 4) 0 / 2 ^ (24 - 8 * (k % 4)) % 256 : Nat) : Int))) g 22 (u8l ((outS H).take (k + 1) ++ List.replicate (32 - (k + 1)) 0)).toArray := by
  have hl : ((outS H).take k).length = k := by rw [List.length_take, outS_len]; omega
  have e : (u8l ((outS H).take k ++ List.replicate (32 - k) 0)).set k (.int .u8 ((H.getD (k / 4) 0 / 2 ^ (24 - 8 * (k % 4)) % 256 : Nat) : Int)) = u8l ((outS H).take (k + 1) ++ List.replicate (32 - (k + 1)) 0) := by
    have e1 : (outS H).take (k + 1) = (outS H).take k ++ [((H.getD (k / 4) 0 / 2 ^ (24 - 8 * (k % 4)) % 256 : Nat) : Int)] := by
      rw [List.take_add_one]
      congr 1
      unfold outS
      rw [List.getElem?_map, List.getElem?_range hk]
      rfl
    rw [e1, show 32 - k = (32 - (k + 1)) + 1 by omega, List.replicate_succ]
    unfold u8l
    rw [List.map_append, List.set_append_right _ _ (by simp [outS_len]; omega), List.length_map, hl, Nat.sub_self, List.map_cons, List.set_cons_zero, List.map_append, List.map_append, List.append_assoc]
    rfl
  rw [← e]
  exact Blk.set h k _
attribute [local irreducible] wpList
set_option maxHeartbeats 16000000 in
set_option maxRecDepth 100000 in
/-- the reference's Sum. -/
theorem refsum_any (w : World) (a : Option Addr) (n c : Nat) (t : List Int) (h : Sl w a n c t) (hn : n ≤ 1000000) (hTW : TabW w) :
    Calls Tryd.prog 58 #[.slice a n c] w fun e w' => e = .returned (.agg (u8l (shaS t)).toArray) ∧ Below w.heap.size w w' := by
  have HS := Lib.hid h
  have HN := Lib.hid hn
  have HTW := Lib.hid hTW
  have PD : Hid (pad0 n < 64 ∧ (n + pad0 n + 9) % 64 = 0) := Lib.hid ⟨by unfold pad0; omega, pad0_len n⟩
  clear h hn hTW
  go_enter Tryd.func58, Tryd.ntmps58
  obtain ⟨w1, hw1⟩ : ∃ V, V = w.alloc (.cells (u8l (List.replicate 32 0)).toArray 22) := ⟨_, rfl⟩
  have B1 : Hid (RSt w w1 w.heap.size (.slice none 0 0) []) := Lib.hid (by rw [hw1]; exact RSt.start w)
  go_upto_region 0 with (fail)
  refine wp_region_lit ?_
  refine wpL_value (.pointer (some ⟨w.heap.size, 0, none⟩)) (w1) rfl (by rw [hw1]; kernel_rfl) ?_
  simp only [Act.put, List.setIfInBounds_toArray, List.set_cons_zero, List.set_cons_succ]
  clear hw1
  obtain ⟨g2, h2⟩ : ∃ q, w.heap.size = q := ⟨_, rfl⟩
  have G2 : Hid (w.heap.size = g2) := Lib.hid h2
  rw [h2] at B1
  try rw [h2]
  clear h2
  go_upto_region 1 with (fail)
  refine wp_region_lit ?_
  refine wpL_pure (.slice none 0 0) rfl (by kernel_rfl) ?_
  simp only [Act.put, List.setIfInBounds_toArray, List.set_cons_zero, List.set_cons_succ]
  obtain ⟨v1, w2, r1, r2⟩ := B1.out.text a n c t (HS.out.1.keep (by rw [G2.out]; exact B1.out.2.1)) (by have := HN.out; omega)
  have AP := Lib.hid r1
  have B2 := Lib.hid r2
  clear r1 r2
  go_upto_region 2 with (fail)
  refine wp_region_lit ?_
  refine wpL_pure (.slice none 0 0) rfl (by kernel_rfl) ?_
  simp only [Act.put, List.setIfInBounds_toArray, List.set_cons_zero, List.set_cons_succ]
  refine wpL_pure (.slice a n c) rfl (by kernel_rfl) ?_
  simp only [Act.put, List.setIfInBounds_toArray, List.set_cons_zero, List.set_cons_succ]
  refine wpL_value (v1) (w2) rfl (run_app _ _ _ _ _ _ _ _ _ rfl rfl rfl rfl AP.out) ?_
  simp only [Act.put, List.setIfInBounds_toArray, List.set_cons_zero, List.set_cons_succ]
  refine wpL_pure (v1) rfl (by kernel_rfl) ?_
  simp only [Act.put, List.setIfInBounds_toArray, List.set_cons_zero, List.set_cons_succ]
  clear AP B1
  have EL0 : t.length + 1 = n + 1 := by rw [HS.out.1.1]
  obtain ⟨w2b, hw2b⟩ : ∃ V, V = w2.alloc (.cells #[.int .u8 (128)] 5) := ⟨_, rfl⟩
  obtain ⟨g3, c3, w3, r1, r2⟩ := B2.out.push (128) (by omega) (by have := HS.out.1.1; have := HN.out; omega) w2b hw2b
  rw [EL0] at r1 r2
  have AP := Lib.hid r1
  have B3 := Lib.hid r2
  clear r1 r2
  go_upto_region 3 with (fail)
  refine wp_region_lit ?_
  refine wpL_pure (v1) rfl (by kernel_rfl) ?_
  simp only [Act.put, List.setIfInBounds_toArray, List.set_cons_zero, List.set_cons_succ]
  refine wpL_value (.slice (some ⟨w2.heap.size, 0, none⟩) 1 1) (w2b) rfl (by rw [hw2b]; kernel_rfl) ?_
  simp only [Act.put, List.setIfInBounds_toArray, List.set_cons_zero, List.set_cons_succ]
  refine wpL_value (.slice (some ⟨g3, 0, none⟩) (n + 1) c3) (w3) rfl (run_app _ _ _ _ _ _ _ _ _ rfl rfl rfl rfl AP.out) ?_
  simp only [Act.put, List.setIfInBounds_toArray, List.set_cons_zero, List.set_cons_succ]
  refine wpL_pure (.slice (some ⟨g3, 0, none⟩) (n + 1) c3) rfl (by kernel_rfl) ?_
  simp only [Act.put, List.setIfInBounds_toArray, List.set_cons_zero, List.set_cons_succ]
  clear AP B2 EL0 hw2b
  go_wp2_with fail
  go_loopw [3] (fun s3 wr => ∃ (k g len cp : Nat), s3 = .slice (some ⟨g, 0, none⟩) len cp ∧ Hid (k ≤ pad0 n ∧ len = n + 1 + k ∧ RSt w wr g2 (.slice (some ⟨g, 0, none⟩) len cp) (t ++ 128 :: List.replicate k 0))) (fun s3 _ => n + 1 + pad0 n - lenOf s3)
  case atStart => exact ⟨0, g3, n + 1, c3, rfl, Lib.hid ⟨by omega, rfl, by simpa using B3.out⟩⟩
  case round =>
    obtain ⟨k, g, len, cp, rfl, RI⟩ := hrel
    by_cases hlt : k < pad0 n
    · have HK := Lib.hid hlt
      clear hlt
      go_upto_region 4 with (fail)
      refine wp_region_lit ?_
      refine wpL_pure (.slice (some ⟨g, 0, none⟩) len cp) rfl (by kernel_rfl) ?_
      simp only [Act.put, List.setIfInBounds_toArray, List.set_cons_zero, List.set_cons_succ]
      refine wpL_pure (.int .i64 (len : Int)) rfl (by kernel_rfl) ?_
      simp only [Act.put, List.setIfInBounds_toArray, List.set_cons_zero, List.set_cons_succ]
      refine wpL_pure (.int .i64 ((len % 64 : Nat) : Int)) rfl (run_rem64 _ _ _ _ len rfl rfl) ?_
      simp only [Act.put, List.setIfInBounds_toArray, List.set_cons_zero, List.set_cons_succ]
      refine wpL_pure (.bool true) rfl (run_nei Tryd.underlying3 rfl rfl rfl (by have := HK.out; have := RI.out.2.1; have := RI.out.1; have := PD.out; rw [decide_eq_true_eq]; omega)) ?_
      simp only [Act.put, List.setIfInBounds_toArray, List.set_cons_zero, List.set_cons_succ]
      have EL : (t ++ 128 :: List.replicate k 0).length + 1 = len + 1 := by have := RI.out.2.1; have := HS.out.1.1; simp; omega
      obtain ⟨wrb, hwrb⟩ : ∃ V, V = wr.alloc (.cells #[.int .u8 (0)] 5) := ⟨_, rfl⟩
      obtain ⟨g4, c4, w4, r1, r2⟩ := RI.out.2.2.push (0) (by omega) (by have := RI.out.2.1; have := RI.out.1; have := PD.out; have := HN.out; have := HS.out.1.1; simp; omega) wrb hwrb
      rw [EL] at r1 r2
      have AP := Lib.hid r1
      have B4 := Lib.hid r2
      clear r1 r2
      go_upto_region 5 with (fail)
      refine wp_region_lit ?_
      refine wpL_pure (.slice (some ⟨g, 0, none⟩) len cp) rfl (by kernel_rfl) ?_
      simp only [Act.put, List.setIfInBounds_toArray, List.set_cons_zero, List.set_cons_succ]
      refine wpL_value (.slice (some ⟨wr.heap.size, 0, none⟩) 1 1) (wrb) rfl (by rw [hwrb]; kernel_rfl) ?_
      simp only [Act.put, List.setIfInBounds_toArray, List.set_cons_zero, List.set_cons_succ]
      refine wpL_value (.slice (some ⟨g4, 0, none⟩) (len + 1) c4) (w4) rfl (run_app _ _ _ _ _ _ _ _ _ rfl rfl rfl rfl AP.out) ?_
      simp only [Act.put, List.setIfInBounds_toArray, List.set_cons_zero, List.set_cons_succ]
      refine wpL_pure (.slice (some ⟨g4, 0, none⟩) (len + 1) c4) rfl (by kernel_rfl) ?_
      simp only [Act.put, List.setIfInBounds_toArray, List.set_cons_zero, List.set_cons_succ]
      have NX : Hid (k + 1 ≤ pad0 n ∧ len + 1 = n + 1 + (k + 1) ∧ RSt w w4 g2 (.slice (some ⟨g4, 0, none⟩) (len + 1) c4) (t ++ 128 :: List.replicate (k + 1) 0)) := Lib.hid ⟨HK.out, by have := RI.out.2.1; omega, by have h := B4.out; rw [List.replicate_succ', ← List.cons_append, ← List.append_assoc]; exact h⟩
      unfold wpList
      go_roundw
      case rel => first | exact ⟨k + 1, _, _, _, rfl, NX⟩ | ((repeat apply Exists.intro); exact ⟨⟨k + 1, _, _, _, rfl, NX⟩, rfl⟩)
      case measure => simp [lenOf]; have := HK.out; have := RI.out.2.1; omega
    · have HK := Lib.hid hlt
      have EK : Hid (k = pad0 n) := Lib.hid (by have := RI.out.1; omega)
      clear hlt
      go_upto_region 4 with (fail)
      refine wp_region_lit ?_
      refine wpL_pure (.slice (some ⟨g, 0, none⟩) len cp) rfl (by kernel_rfl) ?_
      simp only [Act.put, List.setIfInBounds_toArray, List.set_cons_zero, List.set_cons_succ]
      refine wpL_pure (.int .i64 (len : Int)) rfl (by kernel_rfl) ?_
      simp only [Act.put, List.setIfInBounds_toArray, List.set_cons_zero, List.set_cons_succ]
      refine wpL_pure (.int .i64 ((len % 64 : Nat) : Int)) rfl (run_rem64 _ _ _ _ len rfl rfl) ?_
      simp only [Act.put, List.setIfInBounds_toArray, List.set_cons_zero, List.set_cons_succ]
      refine wpL_pure (.bool false) rfl (run_nei Tryd.underlying3 rfl rfl rfl (by have := HK.out; have := RI.out.2.1; have := RI.out.1; have := PD.out; rw [decide_eq_false_iff_not]; omega)) ?_
      simp only [Act.put, List.setIfInBounds_toArray, List.set_cons_zero, List.set_cons_succ]
      obtain ⟨P, hP⟩ : ∃ q, t ++ 128 :: List.replicate (pad0 n) 0 = q := ⟨_, rfl⟩
      have HP := Lib.hid hP
      have B5 : Hid (RSt w wr g2 (.slice (some ⟨g, 0, none⟩) len cp) P ∧ P.length = len ∧ len = n + 1 + pad0 n) := Lib.hid ⟨by rw [← hP, ← EK.out]; exact RI.out.2.2, by rw [← hP]; have := RI.out.2.1; have := EK.out; have := HS.out.1.1; simp; omega, by have := RI.out.2.1; have := EK.out; omega⟩
      clear hP RI B3
      go_upto_region 6 with (fail)
      refine wp_region_lit ?_
      refine wpL_pure (.slice a n c) rfl (by kernel_rfl) ?_
      simp only [Act.put, List.setIfInBounds_toArray, List.set_cons_zero, List.set_cons_succ]
      refine wpL_pure (.int .i64 (n : Int)) rfl (by kernel_rfl) ?_
      simp only [Act.put, List.setIfInBounds_toArray, List.set_cons_zero, List.set_cons_succ]
      refine wpL_pure (.int .u64 (n : Int)) rfl (run_convi Tryd.underlying3 Tryd.underlying31 rfl rfl _ (by have := HN.out; rw [IntKind.wrap_u64]; omega)) ?_
      simp only [Act.put, List.setIfInBounds_toArray, List.set_cons_zero, List.set_cons_succ]
      refine wpL_pure (.int .u64 ((n * 8 : Nat) : Int)) rfl (run_muli Tryd.underlying31 rfl rfl rfl _ (by have := HN.out; rw [IntKind.wrap_u64]; omega)) ?_
      simp only [Act.put, List.setIfInBounds_toArray, List.set_cons_zero, List.set_cons_succ]
      refine wpL_pure (.int .u64 ((n * 8 : Nat) : Int)) rfl (by kernel_rfl) ?_
      simp only [Act.put, List.setIfInBounds_toArray, List.set_cons_zero, List.set_cons_succ]
      go_upto_region 7 with (fail)
      refine wp_region_lit ?_
      refine wpL_pure (.int .i64 7) rfl (by kernel_rfl) ?_
      simp only [Act.put, List.setIfInBounds_toArray, List.set_cons_zero, List.set_cons_succ]
      go_wp2_with fail
      go_loopw [3, 5] (fun s3 s5 wr => ∃ (k gm l2 cq : Nat), s3 = .slice (some ⟨gm, 0, none⟩) l2 cq ∧ s5 = .int .i64 (7 - (k : Int)) ∧ Hid (k ≤ 8 ∧ l2 = len + k ∧ RSt w wr g2 (.slice (some ⟨gm, 0, none⟩) l2 cq) (P ++ (List.range k).map fun i => ((n * 8 % 18446744073709551616 / 2 ^ (56 - 8 * i) % 256 : Nat) : Int)))) (fun s3 _ _ => len + 8 - lenOf s3)
      case atStart => exact ⟨0, g, len, cp, rfl, rfl, Lib.hid ⟨by omega, rfl, by simpa using B5.out.1⟩⟩
      case round =>
        obtain ⟨k, gm, l2, cq, rfl, rfl, RI⟩ := hrel
        by_cases hlt : k < 8
        · have HK := Lib.hid hlt
          clear hlt
          go_upto_region 8 with (fail)
          refine wp_region_lit ?_
          refine wpL_pure (.int .i64 (7 - (k : Int))) rfl (by kernel_rfl) ?_
          simp only [Act.put, List.setIfInBounds_toArray, List.set_cons_zero, List.set_cons_succ]
          refine wpL_pure (.bool true) rfl (run_gei Tryd.underlying3 rfl rfl rfl (by have := HK.out; rw [decide_eq_true_eq]; omega)) ?_
          simp only [Act.put, List.setIfInBounds_toArray, List.set_cons_zero, List.set_cons_succ]
          obtain ⟨z, hz⟩ : ∃ z, n * 8 / 2 ^ (56 - 8 * k) = z := ⟨_, rfl⟩
          have HZ := Lib.hid hz
          clear hz
          have EL : (P ++ (List.range k).map fun i => ((n * 8 % 18446744073709551616 / 2 ^ (56 - 8 * i) % 256 : Nat) : Int)).length + 1 = l2 + 1 := by have := RI.out.2.1; have := B5.out.2.1; simp; omega
          obtain ⟨wrb, hwrb⟩ : ∃ V, V = wr.alloc (.cells #[.int .u8 (((z % 256 : Nat) : Int))] 5) := ⟨_, rfl⟩
          obtain ⟨g4, c4, w4, r1, r2⟩ := RI.out.2.2.push (((z % 256 : Nat) : Int)) (by omega) (by have := RI.out.2.1; have := B5.out.2; have := RI.out.1; have := PD.out; have := HN.out; simp; omega) wrb hwrb
          rw [EL] at r1 r2
          have AP := Lib.hid r1
          have B4 := Lib.hid r2
          clear r1 r2
          go_upto_region 10 with (fail)
          refine wp_region_lit ?_
          refine wpL_pure (.slice (some ⟨gm, 0, none⟩) l2 cq) rfl (by kernel_rfl) ?_
          simp only [Act.put, List.setIfInBounds_toArray, List.set_cons_zero, List.set_cons_succ]
          refine wpL_pure (.int .u64 ((n * 8 : Nat) : Int)) rfl (by kernel_rfl) ?_
          simp only [Act.put, List.setIfInBounds_toArray, List.set_cons_zero, List.set_cons_succ]
          refine wpL_pure (.int .i64 (7 - (k : Int))) rfl (by kernel_rfl) ?_
          simp only [Act.put, List.setIfInBounds_toArray, List.set_cons_zero, List.set_cons_succ]
          refine wpL_pure (.int .i64 ((56 - 8 * k : Nat) : Int)) rfl (run_muli Tryd.underlying3 rfl rfl rfl _ (by have := HK.out; rw [wrap_in _ (by omega) (by omega)]; omega)) ?_
          simp only [Act.put, List.setIfInBounds_toArray, List.set_cons_zero, List.set_cons_succ]
          refine wpL_pure (.int .u64 ((56 - 8 * k : Nat) : Int)) rfl (run_convi Tryd.underlying3 Tryd.underlying31 rfl rfl _ (by have := HK.out; rw [IntKind.wrap_u64]; omega)) ?_
          simp only [Act.put, List.setIfInBounds_toArray, List.set_cons_zero, List.set_cons_succ]
          refine wpL_pure (.int .u64 ((z : Nat) : Int)) rfl (by rw [← HZ.out]; exact run_shr64s _ _ _ _ _ (n * 8) (56 - 8 * k) rfl rfl rfl (by have := HN.out; omega) (by omega)) ?_
          simp only [Act.put, List.setIfInBounds_toArray, List.set_cons_zero, List.set_cons_succ]
          refine wpL_pure (.int .u8 ((z % 256 : Nat) : Int)) rfl (run_convi Tryd.underlying31 Tryd.underlying5 rfl rfl _ (by rw [IntKind.wrap_u8]; omega)) ?_
          simp only [Act.put, List.setIfInBounds_toArray, List.set_cons_zero, List.set_cons_succ]
          refine wpL_value (.slice (some ⟨wr.heap.size, 0, none⟩) 1 1) (wrb) rfl (by rw [hwrb]; kernel_rfl) ?_
          simp only [Act.put, List.setIfInBounds_toArray, List.set_cons_zero, List.set_cons_succ]
          refine wpL_value (.slice (some ⟨g4, 0, none⟩) (l2 + 1) c4) (w4) rfl (run_app _ _ _ _ _ _ _ _ _ rfl rfl rfl rfl AP.out) ?_
          simp only [Act.put, List.setIfInBounds_toArray, List.set_cons_zero, List.set_cons_succ]
          refine wpL_pure (.slice (some ⟨g4, 0, none⟩) (l2 + 1) c4) rfl (by kernel_rfl) ?_
          simp only [Act.put, List.setIfInBounds_toArray, List.set_cons_zero, List.set_cons_succ]
          go_upto_region 9 with (fail)
          refine wp_region_lit ?_
          refine wpL_pure (.int .i64 (7 - (k : Int))) rfl (by kernel_rfl) ?_
          simp only [Act.put, List.setIfInBounds_toArray, List.set_cons_zero, List.set_cons_succ]
          refine wpL_pure (.int .i64 (7 - ((k + 1 : Nat) : Int))) rfl (run_subi Tryd.underlying3 rfl rfl rfl _ (by have := HK.out; rw [wrap_in _ (by omega) (by omega)]; omega)) ?_
          simp only [Act.put, List.setIfInBounds_toArray, List.set_cons_zero, List.set_cons_succ]
          refine wpL_pure (.int .i64 (7 - ((k + 1 : Nat) : Int))) rfl (by kernel_rfl) ?_
          simp only [Act.put, List.setIfInBounds_toArray, List.set_cons_zero, List.set_cons_succ]
          have NX : Hid (k + 1 ≤ 8 ∧ l2 + 1 = len + (k + 1) ∧ RSt w w4 g2 (.slice (some ⟨g4, 0, none⟩) (l2 + 1) c4) (P ++ (List.range (k + 1)).map fun i => ((n * 8 % 18446744073709551616 / 2 ^ (56 - 8 * i) % 256 : Nat) : Int))) := Lib.hid ⟨HK.out, by have := RI.out.2.1; omega, by have h := B4.out; rw [List.range_succ, List.map_append, ← List.append_assoc]; rw [← HZ.out] at h; rw [Nat.mod_eq_of_lt (show n * 8 < 18446744073709551616 by have := HN.out; omega)] at h ⊢; exact h⟩
          unfold wpList
          go_roundw
          case rel => first | exact ⟨k + 1, _, _, _, rfl, rfl, NX⟩ | ((repeat apply Exists.intro); exact ⟨⟨k + 1, _, _, _, rfl, rfl, NX⟩, rfl⟩)
          case measure => simp [lenOf]; have := HK.out; have := RI.out.2.1; omega
        · have HK := Lib.hid hlt
          have EK : Hid (k = 8) := Lib.hid (by have := RI.out.1; omega)
          clear hlt
          go_upto_region 8 with (fail)
          refine wp_region_lit ?_
          refine wpL_pure (.int .i64 (7 - (k : Int))) rfl (by kernel_rfl) ?_
          simp only [Act.put, List.setIfInBounds_toArray, List.set_cons_zero, List.set_cons_succ]
          refine wpL_pure (.bool false) rfl (run_gei Tryd.underlying3 rfl rfl rfl (by have := HK.out; rw [decide_eq_false_iff_not]; omega)) ?_
          simp only [Act.put, List.setIfInBounds_toArray, List.set_cons_zero, List.set_cons_succ]
          obtain ⟨T, hT⟩ : ∃ q, t ++ padS t.length = q := ⟨_, rfl⟩
          have HTT := Lib.hid hT
          obtain ⟨NB, hNB⟩ : ∃ q, (n + pad0 n + 9) / 64 = q := ⟨_, rfl⟩
          have HNB := Lib.hid hNB
          have B6 : Hid (RSt w wr g2 (.slice (some ⟨gm, 0, none⟩) l2 cq) T ∧ l2 = 64 * NB ∧ T.length = l2 ∧ NB ≤ 20000) := Lib.hid (by
            have e1 := RI.out.2.1; have e2 := EK.out; have e3 := B5.out.2; have e4 := HS.out.1.1; have e5 := pad0_len n
            have eT : P ++ (List.range 8).map (fun i => ((n * 8 % 18446744073709551616 / 2 ^ (56 - 8 * i) % 256 : Nat) : Int)) = T := by rw [← hT, ← HP.out, e4, padS]; simp
            refine ⟨by have hr := RI.out.2.2; rw [e2] at hr; rw [← eT]; exact hr, by omega, by rw [← eT, List.length_append]; simp; omega, by have := HN.out; have := PD.out; omega⟩)
          clear hT hNB RI B5
          obtain ⟨x1, hx1⟩ : ∃ V, V = (wr.alloc (.cells (u32l (List.replicate 8 0)).toArray 95)).setRow wr.heap.size (u32l hh0).toArray := ⟨_, rfl⟩
          have B7 : Hid (Blk x1 wr.heap.size 95 (u32l hh0).toArray ∧ Row x1 (some ⟨gm, 0, none⟩) l2 T ∧ Below g2 w x1 ∧ Blk x1 g2 22 (u8l (List.replicate 32 0)).toArray ∧ g2 < wr.heap.size ∧ gm < wr.heap.size ∧ cq ≤ maxLen ∧ l2 ≤ cq) := Lib.hid (qq (show Below wr.heap.size wr x1 by rw [hx1]; exact below_setRow ((Below.refl _ _).alloc (Nat.le_refl _) _) (Nat.le_refl _) _) fun q => ⟨by rw [hx1]; exact setRow_heap _ _ _ _ _ _ (Blk.new wr 95 _), (own_row B6.out.1.1).1.keep q, B6.out.1.2.1.trans (q.mono (by have := B6.out.1.2.2.lt; omega)), B6.out.1.2.2.below q, B6.out.1.2.2.lt, (own_lt B6.out.1.1), (own_row B6.out.1.1).2⟩)
          go_upto_region 11 with (fail)
          refine wp_region_lit ?_
          refine wpL_pure (.agg (u32l hh0).toArray) rfl (by kernel_rfl) ?_
          simp only [Act.put, List.setIfInBounds_toArray, List.set_cons_zero, List.set_cons_succ]
          refine wpL_value (.pointer (some ⟨wr.heap.size, 0, none⟩)) (wr.alloc (.cells (u32l (List.replicate 8 0)).toArray 95)) rfl (by kernel_rfl) ?_
          simp only [Act.put, List.setIfInBounds_toArray, List.set_cons_zero, List.set_cons_succ]
          refine wpList_store_rowTo rfl 95 _ _ rfl rfl wr.heap.size (u32l hh0).toArray rfl rfl 95 _ (Blk.new wr 95 _) (by kernel_rfl) (by kernel_rfl) (by kernel_rfl) ?_
          rw [← hx1]
          clear hx1
          generalize wr.heap.size = gh at B7 ⊢
          go_upto_region 12 with (fail)
          refine wp_region_lit ?_
          refine wpL_pure (.int .i64 0) rfl (by kernel_rfl) ?_
          simp only [Act.put, List.setIfInBounds_toArray, List.set_cons_zero, List.set_cons_succ]
          go_wp2_with fail
          go_loopw [7] (fun s7 wr => ∃ q : Nat, s7 = .int .i64 ((64 * q : Nat) : Int) ∧ Hid (q ≤ NB ∧ Blk wr gh 95 (u32l (stN T q)).toArray ∧ Row wr (some ⟨gm, 0, none⟩) l2 T ∧ Below g2 w wr ∧ Blk wr g2 22 (u8l (List.replicate 32 0)).toArray)) (fun s7 _ => 64 * NB - (intOf s7).toNat)
          case atStart => exact ⟨0, rfl, Lib.hid ⟨by omega, B7.out.1, B7.out.2.1, B7.out.2.2.1, B7.out.2.2.2.1⟩⟩
          case round =>
            obtain ⟨q, rfl, RI⟩ := hrel
            obtain ⟨W3, rfl⟩ : ∃ V, V = wr := ⟨_, rfl⟩
            by_cases hlt : q < NB
            · have HQ := Lib.hid hlt
              clear hlt
              go_upto_region 13 with (fail)
              refine wp_region_lit ?_
              refine wpL_pure (.int .i64 ((64 * q : Nat) : Int)) rfl (by kernel_rfl) ?_
              simp only [Act.put, List.setIfInBounds_toArray, List.set_cons_zero, List.set_cons_succ]
              refine wpL_pure (.slice (some ⟨gm, 0, none⟩) l2 cq) rfl (by kernel_rfl) ?_
              simp only [Act.put, List.setIfInBounds_toArray, List.set_cons_zero, List.set_cons_succ]
              refine wpL_pure (.int .i64 (l2 : Int)) rfl (by kernel_rfl) ?_
              simp only [Act.put, List.setIfInBounds_toArray, List.set_cons_zero, List.set_cons_succ]
              refine wpL_pure (.bool true) rfl (run_lti Tryd.underlying3 rfl rfl rfl (by have := HQ.out; have := B6.out.2.1; rw [decide_eq_true_eq]; omega)) ?_
              simp only [Act.put, List.setIfInBounds_toArray, List.set_cons_zero, List.set_cons_succ]
              obtain ⟨x2, hx2⟩ : ∃ V, V = W3.alloc (.cells (wcells []).toArray 126) := ⟨_, rfl⟩
              have C1 : Hid (Blk x2 W3.heap.size 126 (wcells []).toArray ∧ Below W3.heap.size W3 x2) := Lib.hid (by rw [hx2]; exact ⟨Blk.new _ _ _, (Below.refl _ _).alloc (Nat.le_refl _) _⟩)
              go_upto_region 15 with (fail)
              refine wp_region_lit ?_
              refine wpL_value (.pointer (some ⟨W3.heap.size, 0, none⟩)) (x2) rfl (by rw [hx2]; kernel_rfl) ?_
              simp only [Act.put, List.setIfInBounds_toArray, List.set_cons_zero, List.set_cons_succ]
              clear hx2
              obtain ⟨H, hH⟩ : ∃ H, stN T q = H := ⟨_, rfl⟩
              obtain ⟨m, hm⟩ : ∃ m : Nat → Nat, m = fun j => byte T (64 * q + j) := ⟨_, rfl⟩
              have HMM := Lib.hid hm
              have HHH := Lib.hid hH
              have HOKH : Hid (HOk H) := Lib.hid (by rw [← hH]; exact stN_ok _ _)
              have HM : Hid (∀ j, m j < 256) := Lib.hid (fun j => by rw [hm]; exact byte_lt RI.out.2.2.1.2.2.1 _)
              have LT : Hid (gh < W3.heap.size ∧ 0 < W3.heap.size) := Lib.hid ⟨RI.out.2.1.lt, by have := RI.out.2.1.lt; omega⟩
              have PT : Hid (∀ wr, Below W3.heap.size W3 wr → ∀ j, j < 64 → wr.cell? ⟨gm, 64 * q + j, none⟩ = some (.int .u8 (m j : Nat))) := Lib.hid (fun wr hX j hj => by rw [hm]; exact row_cell (RI.out.2.2.1.keep hX) (by have := HQ.out; have := B6.out.2.1; omega))
              have HW : Hid (∀ wr, Below W3.heap.size W3 wr → Blk wr gh 95 (u32l H).toArray) := Lib.hid (fun wr hX => by rw [← hH]; exact RI.out.2.1.below hX)
              have WW : Hid (∀ wr, Below W3.heap.size W3 wr → ∀ i, i < 64 → wr.cell? ⟨1, i, none⟩ = some (.int .u32 (kk.getD i 0 : Nat))) := Lib.hid (fun wr hX i hi => (HTW.out.below (by rw [G2.out]; exact RI.out.2.2.2.1.trans (hX.mono (by have := RI.out.2.2.2.2.lt; omega)))) i hi)
              clear hm hH
              obtain ⟨gB, hB⟩ : ∃ q, W3.heap.size = q := ⟨_, rfl⟩
              have GB := Lib.hid hB
              rw [hB] at C1 PT HW WW LT
              try rw [hB]
              clear hB
              go_upto_region 16 with (fail)
              refine wp_region_lit ?_
              refine wpL_pure (.int .i64 0) rfl (by kernel_rfl) ?_
              simp only [Act.put, List.setIfInBounds_toArray, List.set_cons_zero, List.set_cons_succ]
              go_wp2_with fail
              go_loopw [9] (fun s9 wr => ∃ k : Nat, s9 = .int .i64 (k : Int) ∧ Hid (k ≤ 64 ∧ Blk wr gB 126 (wcells (wK m k)).toArray ∧ Below gB W3 wr)) (fun s9 _ => 64 - (intOf s9).toNat)
              case atStart => exact ⟨0, rfl, Lib.hid ⟨by omega, C1.out.1, C1.out.2⟩⟩
              case round =>
                obtain ⟨k, rfl, RJ⟩ := hrel
                by_cases hlt : k < 64
                · have HK := Lib.hid hlt
                  clear hlt
                  by_cases h16 : k < 16
                  · have HL := Lib.hid h16
                    have RW : Hid (Blk wr gB 126 (wcells ((w16 m).take k)).toArray) := Lib.hid (by have h := RJ.out.2.1; rw [wK, if_pos (by have := HL.out; omega)] at h; exact h)
                    clear h16
                    go_upto_region 17 with (fail)
                    refine wp_region_lit ?_
                    refine wpL_pure (.int .i64 (k : Int)) rfl (by kernel_rfl) ?_
                    simp only [Act.put, List.setIfInBounds_toArray, List.set_cons_zero, List.set_cons_succ]
                    refine wpL_pure (.bool true) rfl (run_lti Tryd.underlying3 rfl rfl rfl (by have := HK.out; rw [decide_eq_true_eq]; omega)) ?_
                    simp only [Act.put, List.setIfInBounds_toArray, List.set_cons_zero, List.set_cons_succ]
                    go_upto_region 19 with (fail)
                    refine wp_region_lit ?_
                    refine wpL_pure (.int .i64 (k : Int)) rfl (by kernel_rfl) ?_
                    simp only [Act.put, List.setIfInBounds_toArray, List.set_cons_zero, List.set_cons_succ]
                    refine wpL_pure (.bool true) rfl (run_lti Tryd.underlying3 rfl rfl rfl (by have := HL.out; rw [decide_eq_true_eq]; omega)) ?_
                    simp only [Act.put, List.setIfInBounds_toArray, List.set_cons_zero, List.set_cons_succ]
                    go_upto_region 20 with (fail)
                    refine wp_region_lit ?_
                    refine wpL_pure (.int .i64 ((64 * q : Nat) : Int)) rfl (by kernel_rfl) ?_
                    simp only [Act.put, List.setIfInBounds_toArray, List.set_cons_zero, List.set_cons_succ]
                    refine wpL_pure (.int .i64 (k : Int)) rfl (by kernel_rfl) ?_
                    simp only [Act.put, List.setIfInBounds_toArray, List.set_cons_zero, List.set_cons_succ]
                    refine wpL_pure (.int .i64 ((4 * k : Nat) : Int)) rfl (run_muli Tryd.underlying3 rfl rfl rfl _ (by have := HK.out; rw [wrap_in _ (by omega) (by omega)]; omega)) ?_
                    simp only [Act.put, List.setIfInBounds_toArray, List.set_cons_zero, List.set_cons_succ]
                    refine wpL_pure (.int .i64 ((64 * q + 4 * k : Nat) : Int)) rfl (run_addi Tryd.underlying3 rfl rfl rfl _ (by have := HK.out; have := HQ.out; have := B6.out.2; rw [wrap_in _ (by omega) (by omega)]; omega)) ?_
                    simp only [Act.put, List.setIfInBounds_toArray, List.set_cons_zero, List.set_cons_succ]
                    refine wpL_pure (.int .i64 ((64 * q + 4 * k : Nat) : Int)) rfl (by kernel_rfl) ?_
                    simp only [Act.put, List.setIfInBounds_toArray, List.set_cons_zero, List.set_cons_succ]
                    go_upto_region 21 with (fail)
                    refine region_held (fun wr => Blk wr gB 126 (wcells ((w16 m).take k)).toArray ∧ Below gB W3 wr) 31 (by kernel_rfl) (by kernel_rfl) (by exact ⟨RW.out, RJ.out.2.2.drew⟩) ?_
                    simp only [List.take_succ_cons, List.take_zero, List.drop_succ_cons, List.drop_zero]
                    refine wpHeld_cons (.int .i64 (k : Int)) rfl (fun w h => heldRun_value (by kernel_rfl) h) ?_
                    simp only [Act.put, List.setIfInBounds_toArray, List.set_cons_zero, List.set_cons_succ]
                    refine wpHeld_cons (.slice (some ⟨gm, 0, none⟩) l2 cq) rfl (fun w h => heldRun_value (by kernel_rfl) h) ?_
                    simp only [Act.put, List.setIfInBounds_toArray, List.set_cons_zero, List.set_cons_succ]
                    refine wpHeld_cons (.int .i64 ((64 * q + 4 * k : Nat) : Int)) rfl (fun w h => heldRun_value (by kernel_rfl) h) ?_
                    simp only [Act.put, List.setIfInBounds_toArray, List.set_cons_zero, List.set_cons_succ]
                    refine wpHeld_cons (.pointer (some ⟨gm, 64 * q + 4 * k, none⟩)) rfl (fun w h => heldRun_value (run_idxr _ _ _ _ _ gm 0 l2 cq (64 * q + 4 * k) rfl rfl rfl (by have := HL.out; have := HQ.out; have := B6.out.2.1; omega) (by have := B7.out.2.2.2.2.2.2; omega) (Nat.zero_add _)) h) ?_
                    simp only [Act.put, List.setIfInBounds_toArray, List.set_cons_zero, List.set_cons_succ]
                    refine wpHeld_cons (.int .u8 (m (4 * k) : Nat)) rfl (fun w h => heldRun_value (run_load_one _ _ _ 5 _ _ rfl (gm) (64 * q + 4 * k) rfl (PT.out _ h.2 (4 * k) (by have := HL.out; omega)) (by kernel_rfl)) h) ?_
                    simp only [Act.put, List.setIfInBounds_toArray, List.set_cons_zero, List.set_cons_succ]
                    refine wpHeld_cons (.int .u32 (m (4 * k) : Nat)) rfl (fun w h => heldRun_value (run_convi Tryd.underlying5 Tryd.underlying94 rfl rfl _ (by have := HM.out ((4 * k)); rw [IntKind.wrap_u32]; omega)) h) ?_
                    simp only [Act.put, List.setIfInBounds_toArray, List.set_cons_zero, List.set_cons_succ]
                    refine wpHeld_cons (.int .u32 ((m (4 * k) * 16777216 : Nat) : Int)) rfl (fun w h => heldRun_value (run_muli Tryd.underlying94 rfl rfl rfl _ (by have h0 := HM.out (4 * k); have h1 := HM.out (4 * k + 1); have h2 := HM.out (4 * k + 2); have h3 := HM.out (4 * k + 3); rw [IntKind.wrap_u32]; omega)) h) ?_
                    simp only [Act.put, List.setIfInBounds_toArray, List.set_cons_zero, List.set_cons_succ]
                    refine wpHeld_cons (.slice (some ⟨gm, 0, none⟩) l2 cq) rfl (fun w h => heldRun_value (by kernel_rfl) h) ?_
                    simp only [Act.put, List.setIfInBounds_toArray, List.set_cons_zero, List.set_cons_succ]
                    refine wpHeld_cons (.int .i64 ((64 * q + 4 * k : Nat) : Int)) rfl (fun w h => heldRun_value (by kernel_rfl) h) ?_
                    simp only [Act.put, List.setIfInBounds_toArray, List.set_cons_zero, List.set_cons_succ]
                    refine wpHeld_cons (.int .i64 ((64 * q + (4 * k + 1) : Nat) : Int)) rfl (fun w h => heldRun_value (run_addi Tryd.underlying3 rfl rfl rfl _ (by have := HK.out; have := HQ.out; have := B6.out.2; rw [wrap_in _ (by omega) (by omega)]; omega)) h) ?_
                    simp only [Act.put, List.setIfInBounds_toArray, List.set_cons_zero, List.set_cons_succ]
                    refine wpHeld_cons (.pointer (some ⟨gm, 64 * q + (4 * k + 1), none⟩)) rfl (fun w h => heldRun_value (run_idxr _ _ _ _ _ gm 0 l2 cq (64 * q + (4 * k + 1)) rfl rfl rfl (by have := HL.out; have := HQ.out; have := B6.out.2.1; omega) (by have := B7.out.2.2.2.2.2.2; omega) (Nat.zero_add _)) h) ?_
                    simp only [Act.put, List.setIfInBounds_toArray, List.set_cons_zero, List.set_cons_succ]
                    refine wpHeld_cons (.int .u8 (m (4 * k + 1) : Nat)) rfl (fun w h => heldRun_value (run_load_one _ _ _ 5 _ _ rfl (gm) (64 * q + (4 * k + 1)) rfl (PT.out _ h.2 (4 * k + 1) (by have := HL.out; omega)) (by kernel_rfl)) h) ?_
                    simp only [Act.put, List.setIfInBounds_toArray, List.set_cons_zero, List.set_cons_succ]
                    refine wpHeld_cons (.int .u32 (m (4 * k + 1) : Nat)) rfl (fun w h => heldRun_value (run_convi Tryd.underlying5 Tryd.underlying94 rfl rfl _ (by have := HM.out ((4 * k + 1)); rw [IntKind.wrap_u32]; omega)) h) ?_
                    simp only [Act.put, List.setIfInBounds_toArray, List.set_cons_zero, List.set_cons_succ]
                    refine wpHeld_cons (.int .u32 ((m (4 * k + 1) * 65536 : Nat) : Int)) rfl (fun w h => heldRun_value (run_muli Tryd.underlying94 rfl rfl rfl _ (by have h0 := HM.out (4 * k); have h1 := HM.out (4 * k + 1); have h2 := HM.out (4 * k + 2); have h3 := HM.out (4 * k + 3); rw [IntKind.wrap_u32]; omega)) h) ?_
                    simp only [Act.put, List.setIfInBounds_toArray, List.set_cons_zero, List.set_cons_succ]
                    refine wpHeld_cons (.int .u32 ((m (4 * k) * 16777216 + m (4 * k + 1) * 65536 : Nat) : Int)) rfl (fun w h => heldRun_value (run_addi Tryd.underlying94 rfl rfl rfl _ (by have h0 := HM.out (4 * k); have h1 := HM.out (4 * k + 1); have h2 := HM.out (4 * k + 2); have h3 := HM.out (4 * k + 3); rw [IntKind.wrap_u32]; omega)) h) ?_
                    simp only [Act.put, List.setIfInBounds_toArray, List.set_cons_zero, List.set_cons_succ]
                    refine wpHeld_cons (.slice (some ⟨gm, 0, none⟩) l2 cq) rfl (fun w h => heldRun_value (by kernel_rfl) h) ?_
                    simp only [Act.put, List.setIfInBounds_toArray, List.set_cons_zero, List.set_cons_succ]
                    refine wpHeld_cons (.int .i64 ((64 * q + 4 * k : Nat) : Int)) rfl (fun w h => heldRun_value (by kernel_rfl) h) ?_
                    simp only [Act.put, List.setIfInBounds_toArray, List.set_cons_zero, List.set_cons_succ]
                    refine wpHeld_cons (.int .i64 ((64 * q + (4 * k + 2) : Nat) : Int)) rfl (fun w h => heldRun_value (run_addi Tryd.underlying3 rfl rfl rfl _ (by have := HK.out; have := HQ.out; have := B6.out.2; rw [wrap_in _ (by omega) (by omega)]; omega)) h) ?_
                    simp only [Act.put, List.setIfInBounds_toArray, List.set_cons_zero, List.set_cons_succ]
                    refine wpHeld_cons (.pointer (some ⟨gm, 64 * q + (4 * k + 2), none⟩)) rfl (fun w h => heldRun_value (run_idxr _ _ _ _ _ gm 0 l2 cq (64 * q + (4 * k + 2)) rfl rfl rfl (by have := HL.out; have := HQ.out; have := B6.out.2.1; omega) (by have := B7.out.2.2.2.2.2.2; omega) (Nat.zero_add _)) h) ?_
                    simp only [Act.put, List.setIfInBounds_toArray, List.set_cons_zero, List.set_cons_succ]
                    refine wpHeld_cons (.int .u8 (m (4 * k + 2) : Nat)) rfl (fun w h => heldRun_value (run_load_one _ _ _ 5 _ _ rfl (gm) (64 * q + (4 * k + 2)) rfl (PT.out _ h.2 (4 * k + 2) (by have := HL.out; omega)) (by kernel_rfl)) h) ?_
                    simp only [Act.put, List.setIfInBounds_toArray, List.set_cons_zero, List.set_cons_succ]
                    refine wpHeld_cons (.int .u32 (m (4 * k + 2) : Nat)) rfl (fun w h => heldRun_value (run_convi Tryd.underlying5 Tryd.underlying94 rfl rfl _ (by have := HM.out ((4 * k + 2)); rw [IntKind.wrap_u32]; omega)) h) ?_
                    simp only [Act.put, List.setIfInBounds_toArray, List.set_cons_zero, List.set_cons_succ]
                    refine wpHeld_cons (.int .u32 ((m (4 * k + 2) * 256 : Nat) : Int)) rfl (fun w h => heldRun_value (run_muli Tryd.underlying94 rfl rfl rfl _ (by have h0 := HM.out (4 * k); have h1 := HM.out (4 * k + 1); have h2 := HM.out (4 * k + 2); have h3 := HM.out (4 * k + 3); rw [IntKind.wrap_u32]; omega)) h) ?_
                    simp only [Act.put, List.setIfInBounds_toArray, List.set_cons_zero, List.set_cons_succ]
                    refine wpHeld_cons (.int .u32 ((m (4 * k) * 16777216 + m (4 * k + 1) * 65536 + m (4 * k + 2) * 256 : Nat) : Int)) rfl (fun w h => heldRun_value (run_addi Tryd.underlying94 rfl rfl rfl _ (by have h0 := HM.out (4 * k); have h1 := HM.out (4 * k + 1); have h2 := HM.out (4 * k + 2); have h3 := HM.out (4 * k + 3); rw [IntKind.wrap_u32]; omega)) h) ?_
                    simp only [Act.put, List.setIfInBounds_toArray, List.set_cons_zero, List.set_cons_succ]
                    refine wpHeld_cons (.slice (some ⟨gm, 0, none⟩) l2 cq) rfl (fun w h => heldRun_value (by kernel_rfl) h) ?_
                    simp only [Act.put, List.setIfInBounds_toArray, List.set_cons_zero, List.set_cons_succ]
                    refine wpHeld_cons (.int .i64 ((64 * q + 4 * k : Nat) : Int)) rfl (fun w h => heldRun_value (by kernel_rfl) h) ?_
                    simp only [Act.put, List.setIfInBounds_toArray, List.set_cons_zero, List.set_cons_succ]
                    refine wpHeld_cons (.int .i64 ((64 * q + (4 * k + 3) : Nat) : Int)) rfl (fun w h => heldRun_value (run_addi Tryd.underlying3 rfl rfl rfl _ (by have := HK.out; have := HQ.out; have := B6.out.2; rw [wrap_in _ (by omega) (by omega)]; omega)) h) ?_
                    simp only [Act.put, List.setIfInBounds_toArray, List.set_cons_zero, List.set_cons_succ]
                    refine wpHeld_cons (.pointer (some ⟨gm, 64 * q + (4 * k + 3), none⟩)) rfl (fun w h => heldRun_value (run_idxr _ _ _ _ _ gm 0 l2 cq (64 * q + (4 * k + 3)) rfl rfl rfl (by have := HL.out; have := HQ.out; have := B6.out.2.1; omega) (by have := B7.out.2.2.2.2.2.2; omega) (Nat.zero_add _)) h) ?_
                    simp only [Act.put, List.setIfInBounds_toArray, List.set_cons_zero, List.set_cons_succ]
                    refine wpHeld_cons (.int .u8 (m (4 * k + 3) : Nat)) rfl (fun w h => heldRun_value (run_load_one _ _ _ 5 _ _ rfl (gm) (64 * q + (4 * k + 3)) rfl (PT.out _ h.2 (4 * k + 3) (by have := HL.out; omega)) (by kernel_rfl)) h) ?_
                    simp only [Act.put, List.setIfInBounds_toArray, List.set_cons_zero, List.set_cons_succ]
                    refine wpHeld_cons (.int .u32 (m (4 * k + 3) : Nat)) rfl (fun w h => heldRun_value (run_convi Tryd.underlying5 Tryd.underlying94 rfl rfl _ (by have := HM.out ((4 * k + 3)); rw [IntKind.wrap_u32]; omega)) h) ?_
                    simp only [Act.put, List.setIfInBounds_toArray, List.set_cons_zero, List.set_cons_succ]
                    refine wpHeld_cons (.int .u32 (be4 (m (4 * k)) (m (4 * k + 1)) (m (4 * k + 2)) (m (4 * k + 3)) : Nat)) rfl (fun w h => heldRun_value (run_addi Tryd.underlying94 rfl rfl rfl _ (by have h0 := HM.out (4 * k); have h1 := HM.out (4 * k + 1); have h2 := HM.out (4 * k + 2); have h3 := HM.out (4 * k + 3); rw [IntKind.wrap_u32]; unfold be4; omega)) h) ?_
                    simp only [Act.put, List.setIfInBounds_toArray, List.set_cons_zero, List.set_cons_succ]
                    refine wpHeld_cons (.pointer (some ⟨gB, k, none⟩)) rfl (fun w h => heldRun_value (run_idxa50 _ _ _ _ _ gB 0 k rfl rfl rfl HK.out (Nat.zero_add _)) h) ?_
                    simp only [Act.put, List.setIfInBounds_toArray, List.set_cons_zero, List.set_cons_succ]
                    refine wpHeld_nil ?_
                    intro X1 h
                    have A1 := Lib.hid h
                    clear h RJ RW
                    refine wpL_store_one rfl rfl (gB) (k) rfl (.int .u32 (be4 (m (4 * k)) (m (4 * k + 1)) (m (4 * k + 2)) (m (4 * k + 3)) : Nat)) rfl rfl size48 (by rw [A1.out.1.cell]; exact wcells_some HK.out (by rw [List.length_take]; have := HK.out; omega)) (A1.out.1.free _) ?_
                    simp only [Act.put, List.setIfInBounds_toArray, List.set_cons_zero, List.set_cons_succ]
                    have NX : Hid (k + 1 ≤ 64 ∧ Blk (X1.setCell ⟨gB, k, none⟩ (.int .u32 (be4 (m (4 * k)) (m (4 * k + 1)) (m (4 * k + 2)) (m (4 * k + 3)) : Nat))) gB 126 (wcells (wK m (k + 1))).toArray ∧ Below gB W3 (X1.setCell ⟨gB, k, none⟩ (.int .u32 (be4 (m (4 * k)) (m (4 * k + 1)) (m (4 * k + 2)) (m (4 * k + 3)) : Nat)))) := Lib.hid ⟨HK.out, by rw [wK, if_pos (by have := HL.out; omega)]; exact w16_set HL.out A1.out.1, A1.out.2.setCell (p := ⟨gB, k, none⟩) (Nat.le_refl _) _⟩
                    generalize X1.setCell ⟨gB, k, none⟩ (.int .u32 (be4 (m (4 * k)) (m (4 * k + 1)) (m (4 * k + 2)) (m (4 * k + 3)) : Nat)) = X2 at NX ⊢
                    go_upto_region 18 with (fail)
                    refine wp_region_lit ?_
                    refine wpL_pure (.int .i64 (k : Int)) rfl (by kernel_rfl) ?_
                    simp only [Act.put, List.setIfInBounds_toArray, List.set_cons_zero, List.set_cons_succ]
                    refine wpL_pure (.int .i64 ((k + 1 : Nat) : Int)) rfl (run_addi Tryd.underlying3 rfl rfl rfl _ (by have := HK.out; rw [wrap_in _ (by omega) (by omega)]; omega)) ?_
                    simp only [Act.put, List.setIfInBounds_toArray, List.set_cons_zero, List.set_cons_succ]
                    refine wpL_pure (.int .i64 ((k + 1 : Nat) : Int)) rfl (by kernel_rfl) ?_
                    simp only [Act.put, List.setIfInBounds_toArray, List.set_cons_zero, List.set_cons_succ]
                    unfold wpList
                    go_roundw
                    case rel => first | exact ⟨_, rfl, NX⟩ | ((repeat apply Exists.intro); exact ⟨⟨_, rfl, NX⟩, rfl⟩)
                    case measure => simp [intOf]; have := HK.out; omega
                  · have HL := Lib.hid h16
                    obtain ⟨k, rfl⟩ : ∃ j, k = j + 16 := ⟨k - 16, by omega⟩
                    have H48 : Hid (k < 48) := Lib.hid (by have := HK.out; omega)
                    have RW : Hid (Blk wr gB 126 (wcells (wN m k)).toArray) := Lib.hid (by have h := RJ.out.2.1; rw [wK_ge] at h; exact h)
                    clear h16
                    go_upto_region 17 with (fail)
                    refine wp_region_lit ?_
                    refine wpL_pure (.int .i64 ((k + 16 : Nat) : Int)) rfl (by kernel_rfl) ?_
                    simp only [Act.put, List.setIfInBounds_toArray, List.set_cons_zero, List.set_cons_succ]
                    refine wpL_pure (.bool true) rfl (run_lti Tryd.underlying3 rfl rfl rfl (by have := HK.out; rw [decide_eq_true_eq]; omega)) ?_
                    simp only [Act.put, List.setIfInBounds_toArray, List.set_cons_zero, List.set_cons_succ]
                    go_upto_region 19 with (fail)
                    refine wp_region_lit ?_
                    refine wpL_pure (.int .i64 ((k + 16 : Nat) : Int)) rfl (by kernel_rfl) ?_
                    simp only [Act.put, List.setIfInBounds_toArray, List.set_cons_zero, List.set_cons_succ]
                    refine wpL_pure (.bool false) rfl (run_lti Tryd.underlying3 rfl rfl rfl (by have := HL.out; rw [decide_eq_false_iff_not]; omega)) ?_
                    simp only [Act.put, List.setIfInBounds_toArray, List.set_cons_zero, List.set_cons_succ]
                    obtain ⟨y1, hy1⟩ : ∃ y, ((wN m k).getD (k + 1) 0) = y := ⟨_, rfl⟩
                    obtain ⟨y2, hy2⟩ : ∃ y, ((wN m k).getD (k + 14) 0) = y := ⟨_, rfl⟩
                    have Y1 : Hid (y1 < 4294967296) := Lib.hid (by rw [← hy1]; exact (getD_lt (wN_lt HM.out k) (k + 1)))
                    have Y2 : Hid (y2 < 4294967296) := Lib.hid (by rw [← hy2]; exact (getD_lt (wN_lt HM.out k) (k + 14)))
                    have E1 := Lib.hid hy1
                    have E2 := Lib.hid hy2
                    clear hy1 hy2
                    have T7 : Hid (∀ W, (fun wr => Blk wr gB 126 (wcells (wN m k)).toArray ∧ Below gB W3 wr) W → Calls Tryd.prog 65 #[.int .u32 (y1 : Nat), .int .i64 7] W fun e W' => e = .returned (.int .u32 (rotr y1 7 : Nat)) ∧ (fun wr => Blk wr gB 126 (wcells (wN m k)).toArray ∧ Below gB W3 wr) W') := Lib.hid (fun W hS => (turn_any y1 7 Y1.out (by omega) W).mono fun e W' ⟨he, hw⟩ => ⟨he, by rw [hw]; exact hS⟩)
                    have T18 : Hid (∀ W, (fun wr => Blk wr gB 126 (wcells (wN m k)).toArray ∧ Below gB W3 wr) W → Calls Tryd.prog 65 #[.int .u32 (y1 : Nat), .int .i64 18] W fun e W' => e = .returned (.int .u32 (rotr y1 18 : Nat)) ∧ (fun wr => Blk wr gB 126 (wcells (wN m k)).toArray ∧ Below gB W3 wr) W') := Lib.hid (fun W hS => (turn_any y1 18 Y1.out (by omega) W).mono fun e W' ⟨he, hw⟩ => ⟨he, by rw [hw]; exact hS⟩)
                    go_upto_region 22 with (fail)
                    refine region_held_all (fun wr => Blk wr gB 126 (wcells (wN m k)).toArray ∧ Below gB W3 wr) (by kernel_rfl) (by kernel_rfl) (by exact ⟨RW.out, RJ.out.2.2.drew⟩) ?_
                    refine wpHeld_cons (.int .i64 ((k + 16 : Nat) : Int)) rfl (fun w h => heldRun_value (by kernel_rfl) h) ?_
                    simp only [Act.put, List.setIfInBounds_toArray, List.set_cons_zero, List.set_cons_succ]
                    refine wpHeld_cons (.int .i64 ((k + 1 : Nat) : Int)) rfl (fun w h => heldRun_value (run_subi Tryd.underlying3 rfl rfl rfl _ (by have := H48.out; rw [wrap_in _ (by omega) (by omega)]; omega)) h) ?_
                    simp only [Act.put, List.setIfInBounds_toArray, List.set_cons_zero, List.set_cons_succ]
                    refine wpHeld_cons (.pointer (some ⟨gB, k + 1, none⟩)) rfl (fun w h => heldRun_value (run_idxa50 _ _ _ _ _ gB 0 (k + 1) rfl rfl rfl (by have := H48.out; omega) (Nat.zero_add _)) h) ?_
                    simp only [Act.put, List.setIfInBounds_toArray, List.set_cons_zero, List.set_cons_succ]
                    refine wpHeld_cons (.int .u32 (y1 : Nat)) rfl (fun w h => heldRun_value (run_load_one _ _ _ 94 _ _ rfl (gB) (k + 1) rfl ((by rw [← E1.out, h.1.cell]; exact wcells_get (by rw [wN_len]; omega))) (by kernel_rfl)) h) ?_
                    simp only [Act.put, List.setIfInBounds_toArray, List.set_cons_zero, List.set_cons_succ]
                    refine wpHeld_call (.int .u32 (rotr y1 7 : Nat)) 65 #[.int .u32 (y1 : Nat), .int .i64 7] rfl (fun w => by kernel_rfl) ((by exact T7.out)) ?_
                    simp only [Act.put, List.setIfInBounds_toArray, List.set_cons_zero, List.set_cons_succ]
                    refine wpHeld_cons (.int .i64 ((k + 16 : Nat) : Int)) rfl (fun w h => heldRun_value (by kernel_rfl) h) ?_
                    simp only [Act.put, List.setIfInBounds_toArray, List.set_cons_zero, List.set_cons_succ]
                    refine wpHeld_cons (.int .i64 ((k + 1 : Nat) : Int)) rfl (fun w h => heldRun_value (run_subi Tryd.underlying3 rfl rfl rfl _ (by have := H48.out; rw [wrap_in _ (by omega) (by omega)]; omega)) h) ?_
                    simp only [Act.put, List.setIfInBounds_toArray, List.set_cons_zero, List.set_cons_succ]
                    refine wpHeld_cons (.pointer (some ⟨gB, k + 1, none⟩)) rfl (fun w h => heldRun_value (run_idxa50 _ _ _ _ _ gB 0 (k + 1) rfl rfl rfl (by have := H48.out; omega) (Nat.zero_add _)) h) ?_
                    simp only [Act.put, List.setIfInBounds_toArray, List.set_cons_zero, List.set_cons_succ]
                    refine wpHeld_cons (.int .u32 (y1 : Nat)) rfl (fun w h => heldRun_value (run_load_one _ _ _ 94 _ _ rfl (gB) (k + 1) rfl ((by rw [← E1.out, h.1.cell]; exact wcells_get (by rw [wN_len]; omega))) (by kernel_rfl)) h) ?_
                    simp only [Act.put, List.setIfInBounds_toArray, List.set_cons_zero, List.set_cons_succ]
                    refine wpHeld_call (.int .u32 (rotr y1 18 : Nat)) 65 #[.int .u32 (y1 : Nat), .int .i64 18] rfl (fun w => by kernel_rfl) ((by exact T18.out)) ?_
                    simp only [Act.put, List.setIfInBounds_toArray, List.set_cons_zero, List.set_cons_succ]
                    refine wpHeld_cons (.int .u32 ((rotr y1 7 ^^^ rotr y1 18 : Nat) : Int)) rfl (fun w h => heldRun_value (run_biti (.inr (.inr rfl)) Tryd.underlying94 rfl rfl rfl _ (u32_xor_nat _ _ (rotr_lt _ 7 Y1.out (by omega)) (rotr_lt _ 18 Y1.out (by omega)))) h) ?_
                    simp only [Act.put, List.setIfInBounds_toArray, List.set_cons_zero, List.set_cons_succ]
                    refine wpHeld_cons (.int .i64 ((k + 16 : Nat) : Int)) rfl (fun w h => heldRun_value (by kernel_rfl) h) ?_
                    simp only [Act.put, List.setIfInBounds_toArray, List.set_cons_zero, List.set_cons_succ]
                    refine wpHeld_cons (.int .i64 ((k + 1 : Nat) : Int)) rfl (fun w h => heldRun_value (run_subi Tryd.underlying3 rfl rfl rfl _ (by have := H48.out; rw [wrap_in _ (by omega) (by omega)]; omega)) h) ?_
                    simp only [Act.put, List.setIfInBounds_toArray, List.set_cons_zero, List.set_cons_succ]
                    refine wpHeld_cons (.pointer (some ⟨gB, k + 1, none⟩)) rfl (fun w h => heldRun_value (run_idxa50 _ _ _ _ _ gB 0 (k + 1) rfl rfl rfl (by have := H48.out; omega) (Nat.zero_add _)) h) ?_
                    simp only [Act.put, List.setIfInBounds_toArray, List.set_cons_zero, List.set_cons_succ]
                    refine wpHeld_cons (.int .u32 (y1 : Nat)) rfl (fun w h => heldRun_value (run_load_one _ _ _ 94 _ _ rfl (gB) (k + 1) rfl ((by rw [← E1.out, h.1.cell]; exact wcells_get (by rw [wN_len]; omega))) (by kernel_rfl)) h) ?_
                    simp only [Act.put, List.setIfInBounds_toArray, List.set_cons_zero, List.set_cons_succ]
                    refine wpHeld_cons (.int .u32 ((y1 / 8 : Nat) : Nat)) rfl (fun w h => heldRun_value (run_quo32 8 (by simp) _ _ _ _ y1 rfl rfl Y1.out) h) ?_
                    simp only [Act.put, List.setIfInBounds_toArray, List.set_cons_zero, List.set_cons_succ]
                    refine wpHeld_cons (.int .u32 (sig0 y1 : Nat)) rfl (fun w h => heldRun_value (run_biti (.inr (.inr rfl)) Tryd.underlying94 rfl rfl rfl _ (u32_xor_nat _ _ (xor_lt (rotr_lt _ 7 Y1.out (by omega)) (rotr_lt _ 18 Y1.out (by omega))) (by have := Y1.out; omega))) h) ?_
                    simp only [Act.put, List.setIfInBounds_toArray, List.set_cons_zero, List.set_cons_succ]
                    refine wpHeld_cons (.int .u32 (sig0 y1 : Nat)) rfl (fun w h => heldRun_value (by kernel_rfl) h) ?_
                    simp only [Act.put, List.setIfInBounds_toArray, List.set_cons_zero, List.set_cons_succ]
                    refine wpHeld_nil ?_
                    intro X1 h
                    have A1 := Lib.hid h
                    clear h RJ RW T7 T18
                    have T17 : Hid (∀ W, (fun wr => Blk wr gB 126 (wcells (wN m k)).toArray ∧ Below gB W3 wr) W → Calls Tryd.prog 65 #[.int .u32 (y2 : Nat), .int .i64 17] W fun e W' => e = .returned (.int .u32 (rotr y2 17 : Nat)) ∧ (fun wr => Blk wr gB 126 (wcells (wN m k)).toArray ∧ Below gB W3 wr) W') := Lib.hid (fun W hS => (turn_any y2 17 Y2.out (by omega) W).mono fun e W' ⟨he, hw⟩ => ⟨he, by rw [hw]; exact hS⟩)
                    have T19 : Hid (∀ W, (fun wr => Blk wr gB 126 (wcells (wN m k)).toArray ∧ Below gB W3 wr) W → Calls Tryd.prog 65 #[.int .u32 (y2 : Nat), .int .i64 19] W fun e W' => e = .returned (.int .u32 (rotr y2 19 : Nat)) ∧ (fun wr => Blk wr gB 126 (wcells (wN m k)).toArray ∧ Below gB W3 wr) W') := Lib.hid (fun W hS => (turn_any y2 19 Y2.out (by omega) W).mono fun e W' ⟨he, hw⟩ => ⟨he, by rw [hw]; exact hS⟩)
                    go_upto_region 23 with (fail)
                    refine region_held_all (fun wr => Blk wr gB 126 (wcells (wN m k)).toArray ∧ Below gB W3 wr) (by kernel_rfl) (by kernel_rfl) (by exact ⟨A1.out.1, A1.out.2.drew⟩) ?_
                    refine wpHeld_cons (.int .i64 ((k + 16 : Nat) : Int)) rfl (fun w h => heldRun_value (by kernel_rfl) h) ?_
                    simp only [Act.put, List.setIfInBounds_toArray, List.set_cons_zero, List.set_cons_succ]
                    refine wpHeld_cons (.int .i64 ((k + 14 : Nat) : Int)) rfl (fun w h => heldRun_value (run_subi Tryd.underlying3 rfl rfl rfl _ (by have := H48.out; rw [wrap_in _ (by omega) (by omega)]; omega)) h) ?_
                    simp only [Act.put, List.setIfInBounds_toArray, List.set_cons_zero, List.set_cons_succ]
                    refine wpHeld_cons (.pointer (some ⟨gB, k + 14, none⟩)) rfl (fun w h => heldRun_value (run_idxa50 _ _ _ _ _ gB 0 (k + 14) rfl rfl rfl (by have := H48.out; omega) (Nat.zero_add _)) h) ?_
                    simp only [Act.put, List.setIfInBounds_toArray, List.set_cons_zero, List.set_cons_succ]
                    refine wpHeld_cons (.int .u32 (y2 : Nat)) rfl (fun w h => heldRun_value (run_load_one _ _ _ 94 _ _ rfl (gB) (k + 14) rfl ((by rw [← E2.out, h.1.cell]; exact wcells_get (by rw [wN_len]; omega))) (by kernel_rfl)) h) ?_
                    simp only [Act.put, List.setIfInBounds_toArray, List.set_cons_zero, List.set_cons_succ]
                    refine wpHeld_call (.int .u32 (rotr y2 17 : Nat)) 65 #[.int .u32 (y2 : Nat), .int .i64 17] rfl (fun w => by kernel_rfl) ((by exact T17.out)) ?_
                    simp only [Act.put, List.setIfInBounds_toArray, List.set_cons_zero, List.set_cons_succ]
                    refine wpHeld_cons (.int .i64 ((k + 16 : Nat) : Int)) rfl (fun w h => heldRun_value (by kernel_rfl) h) ?_
                    simp only [Act.put, List.setIfInBounds_toArray, List.set_cons_zero, List.set_cons_succ]
                    refine wpHeld_cons (.int .i64 ((k + 14 : Nat) : Int)) rfl (fun w h => heldRun_value (run_subi Tryd.underlying3 rfl rfl rfl _ (by have := H48.out; rw [wrap_in _ (by omega) (by omega)]; omega)) h) ?_
                    simp only [Act.put, List.setIfInBounds_toArray, List.set_cons_zero, List.set_cons_succ]
                    refine wpHeld_cons (.pointer (some ⟨gB, k + 14, none⟩)) rfl (fun w h => heldRun_value (run_idxa50 _ _ _ _ _ gB 0 (k + 14) rfl rfl rfl (by have := H48.out; omega) (Nat.zero_add _)) h) ?_
                    simp only [Act.put, List.setIfInBounds_toArray, List.set_cons_zero, List.set_cons_succ]
                    refine wpHeld_cons (.int .u32 (y2 : Nat)) rfl (fun w h => heldRun_value (run_load_one _ _ _ 94 _ _ rfl (gB) (k + 14) rfl ((by rw [← E2.out, h.1.cell]; exact wcells_get (by rw [wN_len]; omega))) (by kernel_rfl)) h) ?_
                    simp only [Act.put, List.setIfInBounds_toArray, List.set_cons_zero, List.set_cons_succ]
                    refine wpHeld_call (.int .u32 (rotr y2 19 : Nat)) 65 #[.int .u32 (y2 : Nat), .int .i64 19] rfl (fun w => by kernel_rfl) ((by exact T19.out)) ?_
                    simp only [Act.put, List.setIfInBounds_toArray, List.set_cons_zero, List.set_cons_succ]
                    refine wpHeld_cons (.int .u32 ((rotr y2 17 ^^^ rotr y2 19 : Nat) : Int)) rfl (fun w h => heldRun_value (run_biti (.inr (.inr rfl)) Tryd.underlying94 rfl rfl rfl _ (u32_xor_nat _ _ (rotr_lt _ 17 Y2.out (by omega)) (rotr_lt _ 19 Y2.out (by omega)))) h) ?_
                    simp only [Act.put, List.setIfInBounds_toArray, List.set_cons_zero, List.set_cons_succ]
                    refine wpHeld_cons (.int .i64 ((k + 16 : Nat) : Int)) rfl (fun w h => heldRun_value (by kernel_rfl) h) ?_
                    simp only [Act.put, List.setIfInBounds_toArray, List.set_cons_zero, List.set_cons_succ]
                    refine wpHeld_cons (.int .i64 ((k + 14 : Nat) : Int)) rfl (fun w h => heldRun_value (run_subi Tryd.underlying3 rfl rfl rfl _ (by have := H48.out; rw [wrap_in _ (by omega) (by omega)]; omega)) h) ?_
                    simp only [Act.put, List.setIfInBounds_toArray, List.set_cons_zero, List.set_cons_succ]
                    refine wpHeld_cons (.pointer (some ⟨gB, k + 14, none⟩)) rfl (fun w h => heldRun_value (run_idxa50 _ _ _ _ _ gB 0 (k + 14) rfl rfl rfl (by have := H48.out; omega) (Nat.zero_add _)) h) ?_
                    simp only [Act.put, List.setIfInBounds_toArray, List.set_cons_zero, List.set_cons_succ]
                    refine wpHeld_cons (.int .u32 (y2 : Nat)) rfl (fun w h => heldRun_value (run_load_one _ _ _ 94 _ _ rfl (gB) (k + 14) rfl ((by rw [← E2.out, h.1.cell]; exact wcells_get (by rw [wN_len]; omega))) (by kernel_rfl)) h) ?_
                    simp only [Act.put, List.setIfInBounds_toArray, List.set_cons_zero, List.set_cons_succ]
                    refine wpHeld_cons (.int .u32 ((y2 / 1024 : Nat) : Nat)) rfl (fun w h => heldRun_value (run_quo32 1024 (by simp) _ _ _ _ y2 rfl rfl Y2.out) h) ?_
                    simp only [Act.put, List.setIfInBounds_toArray, List.set_cons_zero, List.set_cons_succ]
                    refine wpHeld_cons (.int .u32 (sig1 y2 : Nat)) rfl (fun w h => heldRun_value (run_biti (.inr (.inr rfl)) Tryd.underlying94 rfl rfl rfl _ (u32_xor_nat _ _ (xor_lt (rotr_lt _ 17 Y2.out (by omega)) (rotr_lt _ 19 Y2.out (by omega))) (by have := Y2.out; omega))) h) ?_
                    simp only [Act.put, List.setIfInBounds_toArray, List.set_cons_zero, List.set_cons_succ]
                    refine wpHeld_cons (.int .u32 (sig1 y2 : Nat)) rfl (fun w h => heldRun_value (by kernel_rfl) h) ?_
                    simp only [Act.put, List.setIfInBounds_toArray, List.set_cons_zero, List.set_cons_succ]
                    refine wpHeld_nil ?_
                    intro X2 h
                    have A2 := Lib.hid h
                    clear h A1 T17 T19
                    go_upto_region 24 with (fail)
                    refine region_held (fun wr => Blk wr gB 126 (wcells (wN m k)).toArray ∧ Below gB W3 wr) 15 (by kernel_rfl) (by kernel_rfl) (by exact ⟨A2.out.1, A2.out.2.drew⟩) ?_
                    simp only [List.take_succ_cons, List.take_zero, List.drop_succ_cons, List.drop_zero]
                    refine wpHeld_cons (.int .i64 ((k + 16 : Nat) : Int)) rfl (fun w h => heldRun_value (by kernel_rfl) h) ?_
                    simp only [Act.put, List.setIfInBounds_toArray, List.set_cons_zero, List.set_cons_succ]
                    refine wpHeld_cons (.int .i64 ((k + 16 : Nat) : Int)) rfl (fun w h => heldRun_value (by kernel_rfl) h) ?_
                    simp only [Act.put, List.setIfInBounds_toArray, List.set_cons_zero, List.set_cons_succ]
                    refine wpHeld_cons (.int .i64 ((k : Nat) : Int)) rfl (fun w h => heldRun_value (run_subi Tryd.underlying3 rfl rfl rfl _ (by have := H48.out; rw [wrap_in _ (by omega) (by omega)]; omega)) h) ?_
                    simp only [Act.put, List.setIfInBounds_toArray, List.set_cons_zero, List.set_cons_succ]
                    refine wpHeld_cons (.pointer (some ⟨gB, k, none⟩)) rfl (fun w h => heldRun_value (run_idxa50 _ _ _ _ _ gB 0 (k) rfl rfl rfl (by have := H48.out; omega) (Nat.zero_add _)) h) ?_
                    simp only [Act.put, List.setIfInBounds_toArray, List.set_cons_zero, List.set_cons_succ]
                    refine wpHeld_cons (.int .u32 (((wN m k).getD k 0) : Nat)) rfl (fun w h => heldRun_value (run_load_one _ _ _ 94 _ _ rfl (gB) (k) rfl ((by rw [h.1.cell]; exact wcells_get (by rw [wN_len]; omega))) (by kernel_rfl)) h) ?_
                    simp only [Act.put, List.setIfInBounds_toArray, List.set_cons_zero, List.set_cons_succ]
                    refine wpHeld_cons (.int .u32 (sig0 y1 : Nat)) rfl (fun w h => heldRun_value (by kernel_rfl) h) ?_
                    simp only [Act.put, List.setIfInBounds_toArray, List.set_cons_zero, List.set_cons_succ]
                    refine wpHeld_cons (.int .u32 ((((wN m k).getD k 0) + sig0 y1) % 4294967296 : Nat)) rfl (fun w h => heldRun_value (run_addi Tryd.underlying94 rfl rfl rfl _ (by rw [IntKind.wrap_u32]; omega)) h) ?_
                    simp only [Act.put, List.setIfInBounds_toArray, List.set_cons_zero, List.set_cons_succ]
                    refine wpHeld_cons (.int .i64 ((k + 16 : Nat) : Int)) rfl (fun w h => heldRun_value (by kernel_rfl) h) ?_
                    simp only [Act.put, List.setIfInBounds_toArray, List.set_cons_zero, List.set_cons_succ]
                    refine wpHeld_cons (.int .i64 ((k + 9 : Nat) : Int)) rfl (fun w h => heldRun_value (run_subi Tryd.underlying3 rfl rfl rfl _ (by have := H48.out; rw [wrap_in _ (by omega) (by omega)]; omega)) h) ?_
                    simp only [Act.put, List.setIfInBounds_toArray, List.set_cons_zero, List.set_cons_succ]
                    refine wpHeld_cons (.pointer (some ⟨gB, k + 9, none⟩)) rfl (fun w h => heldRun_value (run_idxa50 _ _ _ _ _ gB 0 (k + 9) rfl rfl rfl (by have := H48.out; omega) (Nat.zero_add _)) h) ?_
                    simp only [Act.put, List.setIfInBounds_toArray, List.set_cons_zero, List.set_cons_succ]
                    refine wpHeld_cons (.int .u32 (((wN m k).getD (k + 9) 0) : Nat)) rfl (fun w h => heldRun_value (run_load_one _ _ _ 94 _ _ rfl (gB) (k + 9) rfl ((by rw [h.1.cell]; exact wcells_get (by rw [wN_len]; omega))) (by kernel_rfl)) h) ?_
                    simp only [Act.put, List.setIfInBounds_toArray, List.set_cons_zero, List.set_cons_succ]
                    refine wpHeld_cons (.int .u32 ((((wN m k).getD k 0) + sig0 y1 + ((wN m k).getD (k + 9) 0)) % 4294967296 : Nat)) rfl (fun w h => heldRun_value (run_addi Tryd.underlying94 rfl rfl rfl _ (by rw [IntKind.wrap_u32]; omega)) h) ?_
                    simp only [Act.put, List.setIfInBounds_toArray, List.set_cons_zero, List.set_cons_succ]
                    refine wpHeld_cons (.int .u32 (sig1 y2 : Nat)) rfl (fun w h => heldRun_value (by kernel_rfl) h) ?_
                    simp only [Act.put, List.setIfInBounds_toArray, List.set_cons_zero, List.set_cons_succ]
                    refine wpHeld_cons (.int .u32 ((((wN m k).getD k 0) + sig0 y1 + ((wN m k).getD (k + 9) 0) + sig1 y2) % 4294967296 : Nat)) rfl (fun w h => heldRun_value (run_addi Tryd.underlying94 rfl rfl rfl _ (by rw [IntKind.wrap_u32]; omega)) h) ?_
                    simp only [Act.put, List.setIfInBounds_toArray, List.set_cons_zero, List.set_cons_succ]
                    refine wpHeld_cons (.pointer (some ⟨gB, k + 16, none⟩)) rfl (fun w h => heldRun_value (run_idxa50 _ _ _ _ _ gB 0 (k + 16) rfl rfl rfl HK.out (Nat.zero_add _)) h) ?_
                    simp only [Act.put, List.setIfInBounds_toArray, List.set_cons_zero, List.set_cons_succ]
                    refine wpHeld_nil ?_
                    intro X3 h
                    have A3 := Lib.hid h
                    clear h A2
                    refine wpL_store_one rfl rfl (gB) (k + 16) rfl (.int .u32 ((((wN m k).getD k 0) + sig0 y1 + ((wN m k).getD (k + 9) 0) + sig1 y2) % 4294967296 : Nat)) rfl rfl size48 (by rw [A3.out.1.cell]; exact wcells_some HK.out (by rw [wN_len]; have := HK.out; omega)) (A3.out.1.free _) ?_
                    simp only [Act.put, List.setIfInBounds_toArray, List.set_cons_zero, List.set_cons_succ]
                    obtain ⟨X4, hX4⟩ : ∃ V, V = X3.setCell ⟨gB, k + 16, none⟩ (.int .u32 ((((wN m k).getD k 0) + sig0 y1 + ((wN m k).getD (k + 9) 0) + sig1 y2) % 4294967296 : Nat)) := ⟨_, rfl⟩
                    rw [← hX4]
                    have NX : Hid (k + 16 + 1 ≤ 64 ∧ Blk X4 gB 126 (wcells (wK m (k + 16 + 1))).toArray ∧ Below gB W3 X4) := Lib.hid (by rw [hX4, ← E1.out, ← E2.out, show k + 16 + 1 = (k + 1) + 16 by omega, wK_ge]; exact ⟨by have := HK.out; omega, wN_set H48.out A3.out.1, A3.out.2.setCell (p := ⟨gB, k + 16, none⟩) (Nat.le_refl _) _⟩)
                    clear hX4
                    go_upto_region 18 with (fail)
                    refine wp_region_lit ?_
                    refine wpL_pure (.int .i64 ((k + 16 : Nat) : Int)) rfl (by kernel_rfl) ?_
                    simp only [Act.put, List.setIfInBounds_toArray, List.set_cons_zero, List.set_cons_succ]
                    refine wpL_pure (.int .i64 ((k + 16 + 1 : Nat) : Int)) rfl (run_addi Tryd.underlying3 rfl rfl rfl _ (by have := HK.out; rw [wrap_in _ (by omega) (by omega)]; omega)) ?_
                    simp only [Act.put, List.setIfInBounds_toArray, List.set_cons_zero, List.set_cons_succ]
                    refine wpL_pure (.int .i64 ((k + 16 + 1 : Nat) : Int)) rfl (by kernel_rfl) ?_
                    simp only [Act.put, List.setIfInBounds_toArray, List.set_cons_zero, List.set_cons_succ]
                    unfold wpList
                    go_roundw
                    case rel => first | exact ⟨_, rfl, NX⟩ | ((repeat apply Exists.intro); exact ⟨⟨_, rfl, NX⟩, rfl⟩)
                    case measure => simp [intOf]; have := HK.out; omega
                · have HK := Lib.hid hlt
                  have EK : Hid (k = 64) := Lib.hid (by have := RJ.out.1; omega)
                  clear hlt
                  go_upto_region 17 with (fail)
                  refine wp_region_lit ?_
                  refine wpL_pure (.int .i64 (k : Int)) rfl (by kernel_rfl) ?_
                  simp only [Act.put, List.setIfInBounds_toArray, List.set_cons_zero, List.set_cons_succ]
                  refine wpL_pure (.bool false) rfl (run_lti Tryd.underlying3 rfl rfl rfl (by have := HK.out; rw [decide_eq_false_iff_not]; omega)) ?_
                  simp only [Act.put, List.setIfInBounds_toArray, List.set_cons_zero, List.set_cons_succ]
                  have A4 : Hid (Blk wr gB 126 (wcells (wN m 48)).toArray ∧ Below gB W3 wr) := Lib.hid ⟨by have h := RJ.out.2.1; rw [EK.out] at h; exact h, RJ.out.2.2⟩
                  clear RJ C1
                  go_upto_region 25 with (fail)
                  refine region_held_all (fun wr => Blk wr gB 126 (wcells (wN m 48)).toArray ∧ Below gB W3 wr) (by kernel_rfl) (by kernel_rfl) (by exact ⟨A4.out.1, A4.out.2.drew⟩) ?_
                  refine wpHeld_cons (.pointer (some ⟨gh, 0, none⟩)) rfl (fun w h => heldRun_value (by kernel_rfl) h) ?_
                  simp only [Act.put, List.setIfInBounds_toArray, List.set_cons_zero, List.set_cons_succ]
                  refine wpHeld_cons (.int .u32 (H.getD 0 0 : Nat)) rfl (fun w h => heldRun_value (run_load_one _ _ _ 94 _ _ rfl (gh) (0) rfl (u32_cell (HW.out _ h.2) HOKH.out (by omega)) (by kernel_rfl)) h) ?_
                  simp only [Act.put, List.setIfInBounds_toArray, List.set_cons_zero, List.set_cons_succ]
                  refine wpHeld_cons (.pointer (some ⟨gh, 1, none⟩)) rfl (fun w h => heldRun_value (by kernel_rfl) h) ?_
                  simp only [Act.put, List.setIfInBounds_toArray, List.set_cons_zero, List.set_cons_succ]
                  refine wpHeld_cons (.int .u32 (H.getD 1 0 : Nat)) rfl (fun w h => heldRun_value (run_load_one _ _ _ 94 _ _ rfl (gh) (1) rfl (u32_cell (HW.out _ h.2) HOKH.out (by omega)) (by kernel_rfl)) h) ?_
                  simp only [Act.put, List.setIfInBounds_toArray, List.set_cons_zero, List.set_cons_succ]
                  refine wpHeld_cons (.pointer (some ⟨gh, 2, none⟩)) rfl (fun w h => heldRun_value (by kernel_rfl) h) ?_
                  simp only [Act.put, List.setIfInBounds_toArray, List.set_cons_zero, List.set_cons_succ]
                  refine wpHeld_cons (.int .u32 (H.getD 2 0 : Nat)) rfl (fun w h => heldRun_value (run_load_one _ _ _ 94 _ _ rfl (gh) (2) rfl (u32_cell (HW.out _ h.2) HOKH.out (by omega)) (by kernel_rfl)) h) ?_
                  simp only [Act.put, List.setIfInBounds_toArray, List.set_cons_zero, List.set_cons_succ]
                  refine wpHeld_cons (.pointer (some ⟨gh, 3, none⟩)) rfl (fun w h => heldRun_value (by kernel_rfl) h) ?_
                  simp only [Act.put, List.setIfInBounds_toArray, List.set_cons_zero, List.set_cons_succ]
                  refine wpHeld_cons (.int .u32 (H.getD 3 0 : Nat)) rfl (fun w h => heldRun_value (run_load_one _ _ _ 94 _ _ rfl (gh) (3) rfl (u32_cell (HW.out _ h.2) HOKH.out (by omega)) (by kernel_rfl)) h) ?_
                  simp only [Act.put, List.setIfInBounds_toArray, List.set_cons_zero, List.set_cons_succ]
                  refine wpHeld_cons (.pointer (some ⟨gh, 4, none⟩)) rfl (fun w h => heldRun_value (by kernel_rfl) h) ?_
                  simp only [Act.put, List.setIfInBounds_toArray, List.set_cons_zero, List.set_cons_succ]
                  refine wpHeld_cons (.int .u32 (H.getD 4 0 : Nat)) rfl (fun w h => heldRun_value (run_load_one _ _ _ 94 _ _ rfl (gh) (4) rfl (u32_cell (HW.out _ h.2) HOKH.out (by omega)) (by kernel_rfl)) h) ?_
                  simp only [Act.put, List.setIfInBounds_toArray, List.set_cons_zero, List.set_cons_succ]
                  refine wpHeld_cons (.pointer (some ⟨gh, 5, none⟩)) rfl (fun w h => heldRun_value (by kernel_rfl) h) ?_
                  simp only [Act.put, List.setIfInBounds_toArray, List.set_cons_zero, List.set_cons_succ]
                  refine wpHeld_cons (.int .u32 (H.getD 5 0 : Nat)) rfl (fun w h => heldRun_value (run_load_one _ _ _ 94 _ _ rfl (gh) (5) rfl (u32_cell (HW.out _ h.2) HOKH.out (by omega)) (by kernel_rfl)) h) ?_
                  simp only [Act.put, List.setIfInBounds_toArray, List.set_cons_zero, List.set_cons_succ]
                  refine wpHeld_cons (.pointer (some ⟨gh, 6, none⟩)) rfl (fun w h => heldRun_value (by kernel_rfl) h) ?_
                  simp only [Act.put, List.setIfInBounds_toArray, List.set_cons_zero, List.set_cons_succ]
                  refine wpHeld_cons (.int .u32 (H.getD 6 0 : Nat)) rfl (fun w h => heldRun_value (run_load_one _ _ _ 94 _ _ rfl (gh) (6) rfl (u32_cell (HW.out _ h.2) HOKH.out (by omega)) (by kernel_rfl)) h) ?_
                  simp only [Act.put, List.setIfInBounds_toArray, List.set_cons_zero, List.set_cons_succ]
                  refine wpHeld_cons (.pointer (some ⟨gh, 7, none⟩)) rfl (fun w h => heldRun_value (by kernel_rfl) h) ?_
                  simp only [Act.put, List.setIfInBounds_toArray, List.set_cons_zero, List.set_cons_succ]
                  refine wpHeld_cons (.int .u32 (H.getD 7 0 : Nat)) rfl (fun w h => heldRun_value (run_load_one _ _ _ 94 _ _ rfl (gh) (7) rfl (u32_cell (HW.out _ h.2) HOKH.out (by omega)) (by kernel_rfl)) h) ?_
                  simp only [Act.put, List.setIfInBounds_toArray, List.set_cons_zero, List.set_cons_succ]
                  refine wpHeld_cons (.int .u32 (H.getD 0 0 : Nat)) rfl (fun w h => heldRun_value (by kernel_rfl) h) ?_
                  simp only [Act.put, List.setIfInBounds_toArray, List.set_cons_zero, List.set_cons_succ]
                  refine wpHeld_cons (.int .u32 (H.getD 1 0 : Nat)) rfl (fun w h => heldRun_value (by kernel_rfl) h) ?_
                  simp only [Act.put, List.setIfInBounds_toArray, List.set_cons_zero, List.set_cons_succ]
                  refine wpHeld_cons (.int .u32 (H.getD 2 0 : Nat)) rfl (fun w h => heldRun_value (by kernel_rfl) h) ?_
                  simp only [Act.put, List.setIfInBounds_toArray, List.set_cons_zero, List.set_cons_succ]
                  refine wpHeld_cons (.int .u32 (H.getD 3 0 : Nat)) rfl (fun w h => heldRun_value (by kernel_rfl) h) ?_
                  simp only [Act.put, List.setIfInBounds_toArray, List.set_cons_zero, List.set_cons_succ]
                  refine wpHeld_cons (.int .u32 (H.getD 4 0 : Nat)) rfl (fun w h => heldRun_value (by kernel_rfl) h) ?_
                  simp only [Act.put, List.setIfInBounds_toArray, List.set_cons_zero, List.set_cons_succ]
                  refine wpHeld_cons (.int .u32 (H.getD 5 0 : Nat)) rfl (fun w h => heldRun_value (by kernel_rfl) h) ?_
                  simp only [Act.put, List.setIfInBounds_toArray, List.set_cons_zero, List.set_cons_succ]
                  refine wpHeld_cons (.int .u32 (H.getD 6 0 : Nat)) rfl (fun w h => heldRun_value (by kernel_rfl) h) ?_
                  simp only [Act.put, List.setIfInBounds_toArray, List.set_cons_zero, List.set_cons_succ]
                  refine wpHeld_cons (.int .u32 (H.getD 7 0 : Nat)) rfl (fun w h => heldRun_value (by kernel_rfl) h) ?_
                  simp only [Act.put, List.setIfInBounds_toArray, List.set_cons_zero, List.set_cons_succ]
                  refine wpHeld_nil ?_
                  intro X1 h
                  have A5 := Lib.hid h
                  clear h A4
                  go_upto_region 26 with (fail)
                  refine wp_region_lit ?_
                  refine wpL_pure (.int .i64 0) rfl (by kernel_rfl) ?_
                  simp only [Act.put, List.setIfInBounds_toArray, List.set_cons_zero, List.set_cons_succ]
                  obtain ⟨s0, hs0⟩ : ∃ s : St, s = St.of H := ⟨_, rfl⟩
                  have OK0 : Hid s0.ok := Lib.hid (by rw [hs0]; exact HOKH.out.st)
                  have HS0 := Lib.hid hs0
                  clear hs0
                  go_wp2_with fail
                  go_loopw [13, 14, 15, 16, 17, 18, 19, 20, 21] (fun s13 s14 s15 s16 s17 s18 s19 s20 s21 wr => ∃ k : Nat, s21 = .int .i64 (k : Int) ∧ s13 = .int .u32 ((rnds (wN m 48) s0 k).a : Nat) ∧ s14 = .int .u32 ((rnds (wN m 48) s0 k).b : Nat) ∧ s15 = .int .u32 ((rnds (wN m 48) s0 k).c : Nat) ∧ s16 = .int .u32 ((rnds (wN m 48) s0 k).d : Nat) ∧ s17 = .int .u32 ((rnds (wN m 48) s0 k).e : Nat) ∧ s18 = .int .u32 ((rnds (wN m 48) s0 k).f : Nat) ∧ s19 = .int .u32 ((rnds (wN m 48) s0 k).g : Nat) ∧ s20 = .int .u32 ((rnds (wN m 48) s0 k).h : Nat) ∧ Hid (k ≤ 64 ∧ Blk wr gB 126 (wcells (wN m 48)).toArray ∧ Below gB W3 wr)) (fun _ _ _ _ _ _ _ _ s21 _ => 64 - (intOf s21).toNat)
                  case atStart => exact ⟨0, rfl, by rw [HS0.out]; rfl, by rw [HS0.out]; rfl, by rw [HS0.out]; rfl, by rw [HS0.out]; rfl, by rw [HS0.out]; rfl, by rw [HS0.out]; rfl, by rw [HS0.out]; rfl, by rw [HS0.out]; rfl, Lib.hid ⟨by omega, A5.out.1, A5.out.2⟩⟩
                  case round =>
                    obtain ⟨k, rfl, rfl, rfl, rfl, rfl, rfl, rfl, rfl, rfl, RJ⟩ := hrel
                    obtain ⟨s, hs⟩ : ∃ s, (rnds (wN m 48) s0 k) = s := ⟨_, rfl⟩
                    have OK : Hid s.ok := Lib.hid (by rw [← hs]; exact rnds_ok OK0.out k)
                    rw [hs]
                    have HSS := Lib.hid hs
                    clear hs
                    by_cases hlt : k < 64
                    · have HK := Lib.hid hlt
                      clear hlt
                      go_upto_region 27 with (fail)
                      refine wp_region_lit ?_
                      refine wpL_pure (.int .i64 (k : Int)) rfl (by kernel_rfl) ?_
                      simp only [Act.put, List.setIfInBounds_toArray, List.set_cons_zero, List.set_cons_succ]
                      refine wpL_pure (.bool true) rfl (run_lti Tryd.underlying3 rfl rfl rfl (by have := HK.out; rw [decide_eq_true_eq]; omega)) ?_
                      simp only [Act.put, List.setIfInBounds_toArray, List.set_cons_zero, List.set_cons_succ]
                      have T6 : Hid (∀ W, (fun wr => Blk wr gB 126 (wcells (wN m 48)).toArray ∧ Below gB W3 wr) W → Calls Tryd.prog 65 #[.int .u32 (s.e : Nat), .int .i64 6] W fun e W' => e = .returned (.int .u32 (rotr s.e 6 : Nat)) ∧ (fun wr => Blk wr gB 126 (wcells (wN m 48)).toArray ∧ Below gB W3 wr) W') := Lib.hid (fun W hS => (turn_any s.e 6 OK.out.2.2.2.2.1 (by omega) W).mono fun e W' ⟨he, hw⟩ => ⟨he, by rw [hw]; exact hS⟩)
                      have T11 : Hid (∀ W, (fun wr => Blk wr gB 126 (wcells (wN m 48)).toArray ∧ Below gB W3 wr) W → Calls Tryd.prog 65 #[.int .u32 (s.e : Nat), .int .i64 11] W fun e W' => e = .returned (.int .u32 (rotr s.e 11 : Nat)) ∧ (fun wr => Blk wr gB 126 (wcells (wN m 48)).toArray ∧ Below gB W3 wr) W') := Lib.hid (fun W hS => (turn_any s.e 11 OK.out.2.2.2.2.1 (by omega) W).mono fun e W' ⟨he, hw⟩ => ⟨he, by rw [hw]; exact hS⟩)
                      have T25 : Hid (∀ W, (fun wr => Blk wr gB 126 (wcells (wN m 48)).toArray ∧ Below gB W3 wr) W → Calls Tryd.prog 65 #[.int .u32 (s.e : Nat), .int .i64 25] W fun e W' => e = .returned (.int .u32 (rotr s.e 25 : Nat)) ∧ (fun wr => Blk wr gB 126 (wcells (wN m 48)).toArray ∧ Below gB W3 wr) W') := Lib.hid (fun W hS => (turn_any s.e 25 OK.out.2.2.2.2.1 (by omega) W).mono fun e W' ⟨he, hw⟩ => ⟨he, by rw [hw]; exact hS⟩)
                      go_upto_region 29 with (fail)
                      refine region_held_all (fun wr => Blk wr gB 126 (wcells (wN m 48)).toArray ∧ Below gB W3 wr) (by kernel_rfl) (by kernel_rfl) (by exact ⟨RJ.out.2.1, RJ.out.2.2.drew⟩) ?_
                      refine wpHeld_cons (.int .u32 (s.h : Nat)) rfl (fun w h => heldRun_value (by kernel_rfl) h) ?_
                      simp only [Act.put, List.setIfInBounds_toArray, List.set_cons_zero, List.set_cons_succ]
                      refine wpHeld_cons (.int .u32 (s.e : Nat)) rfl (fun w h => heldRun_value (by kernel_rfl) h) ?_
                      simp only [Act.put, List.setIfInBounds_toArray, List.set_cons_zero, List.set_cons_succ]
                      refine wpHeld_call (.int .u32 (rotr s.e 6 : Nat)) 65 #[.int .u32 (s.e : Nat), .int .i64 6] rfl (fun w => by kernel_rfl) ((by exact T6.out)) ?_
                      simp only [Act.put, List.setIfInBounds_toArray, List.set_cons_zero, List.set_cons_succ]
                      refine wpHeld_cons (.int .u32 (s.e : Nat)) rfl (fun w h => heldRun_value (by kernel_rfl) h) ?_
                      simp only [Act.put, List.setIfInBounds_toArray, List.set_cons_zero, List.set_cons_succ]
                      refine wpHeld_call (.int .u32 (rotr s.e 11 : Nat)) 65 #[.int .u32 (s.e : Nat), .int .i64 11] rfl (fun w => by kernel_rfl) ((by exact T11.out)) ?_
                      simp only [Act.put, List.setIfInBounds_toArray, List.set_cons_zero, List.set_cons_succ]
                      refine wpHeld_cons (.int .u32 ((rotr s.e 6 ^^^ rotr s.e 11 : Nat) : Int)) rfl (fun w h => heldRun_value (run_biti (.inr (.inr rfl)) Tryd.underlying94 rfl rfl rfl _ (u32_xor_nat _ _ (rotr_lt _ 6 OK.out.2.2.2.2.1 (by omega)) (rotr_lt _ 11 OK.out.2.2.2.2.1 (by omega)))) h) ?_
                      simp only [Act.put, List.setIfInBounds_toArray, List.set_cons_zero, List.set_cons_succ]
                      refine wpHeld_cons (.int .u32 (s.e : Nat)) rfl (fun w h => heldRun_value (by kernel_rfl) h) ?_
                      simp only [Act.put, List.setIfInBounds_toArray, List.set_cons_zero, List.set_cons_succ]
                      refine wpHeld_call (.int .u32 (rotr s.e 25 : Nat)) 65 #[.int .u32 (s.e : Nat), .int .i64 25] rfl (fun w => by kernel_rfl) ((by exact T25.out)) ?_
                      simp only [Act.put, List.setIfInBounds_toArray, List.set_cons_zero, List.set_cons_succ]
                      refine wpHeld_cons (.int .u32 (Sig1 s.e : Nat)) rfl (fun w h => heldRun_value (run_biti (.inr (.inr rfl)) Tryd.underlying94 rfl rfl rfl _ (u32_xor_nat _ _ (xor_lt (rotr_lt _ 6 OK.out.2.2.2.2.1 (by omega)) (rotr_lt _ 11 OK.out.2.2.2.2.1 (by omega))) (rotr_lt _ 25 OK.out.2.2.2.2.1 (by omega)))) h) ?_
                      simp only [Act.put, List.setIfInBounds_toArray, List.set_cons_zero, List.set_cons_succ]
                      refine wpHeld_cons (.int .u32 ((s.h + Sig1 s.e) % 4294967296 : Nat)) rfl (fun w h => heldRun_value (run_addi Tryd.underlying94 rfl rfl rfl _ (by rw [IntKind.wrap_u32]; omega)) h) ?_
                      simp only [Act.put, List.setIfInBounds_toArray, List.set_cons_zero, List.set_cons_succ]
                      refine wpHeld_cons (.int .u32 (s.e : Nat)) rfl (fun w h => heldRun_value (by kernel_rfl) h) ?_
                      simp only [Act.put, List.setIfInBounds_toArray, List.set_cons_zero, List.set_cons_succ]
                      refine wpHeld_cons (.int .u32 (s.f : Nat)) rfl (fun w h => heldRun_value (by kernel_rfl) h) ?_
                      simp only [Act.put, List.setIfInBounds_toArray, List.set_cons_zero, List.set_cons_succ]
                      refine wpHeld_cons (.int .u32 ((s.e &&& s.f : Nat) : Int)) rfl (fun w h => heldRun_value (run_biti (.inr (.inl rfl)) Tryd.underlying94 rfl rfl rfl _ (u32_and_nat _ _ OK.out.2.2.2.2.1 OK.out.2.2.2.2.2.1)) h) ?_
                      simp only [Act.put, List.setIfInBounds_toArray, List.set_cons_zero, List.set_cons_succ]
                      refine wpHeld_cons (.int .u32 (s.e : Nat)) rfl (fun w h => heldRun_value (by kernel_rfl) h) ?_
                      simp only [Act.put, List.setIfInBounds_toArray, List.set_cons_zero, List.set_cons_succ]
                      refine wpHeld_cons (.int .u32 (4294967295 - s.e : Nat)) rfl (fun w h => heldRun_value (run_subi Tryd.underlying94 rfl rfl rfl _ (by have := OK.out.2.2.2.2.1; rw [IntKind.wrap_u32]; omega)) h) ?_
                      simp only [Act.put, List.setIfInBounds_toArray, List.set_cons_zero, List.set_cons_succ]
                      refine wpHeld_cons (.int .u32 (s.g : Nat)) rfl (fun w h => heldRun_value (by kernel_rfl) h) ?_
                      simp only [Act.put, List.setIfInBounds_toArray, List.set_cons_zero, List.set_cons_succ]
                      refine wpHeld_cons (.int .u32 (((4294967295 - s.e) &&& s.g : Nat) : Int)) rfl (fun w h => heldRun_value (run_biti (.inr (.inl rfl)) Tryd.underlying94 rfl rfl rfl _ (u32_and_nat _ _ (by omega) OK.out.2.2.2.2.2.2.1)) h) ?_
                      simp only [Act.put, List.setIfInBounds_toArray, List.set_cons_zero, List.set_cons_succ]
                      refine wpHeld_cons (.int .u32 (chs s.e s.f s.g : Nat)) rfl (fun w h => heldRun_value (run_biti (.inr (.inr rfl)) Tryd.underlying94 rfl rfl rfl _ (u32_xor_nat _ _ (and_lt OK.out.2.2.2.2.1) (and_lt (by omega)))) h) ?_
                      simp only [Act.put, List.setIfInBounds_toArray, List.set_cons_zero, List.set_cons_succ]
                      refine wpHeld_cons (.int .u32 ((s.h + Sig1 s.e + chs s.e s.f s.g) % 4294967296 : Nat)) rfl (fun w h => heldRun_value (run_addi Tryd.underlying94 rfl rfl rfl _ (by rw [IntKind.wrap_u32]; omega)) h) ?_
                      simp only [Act.put, List.setIfInBounds_toArray, List.set_cons_zero, List.set_cons_succ]
                      refine wpHeld_cons (.int .i64 (k : Int)) rfl (fun w h => heldRun_value (by kernel_rfl) h) ?_
                      simp only [Act.put, List.setIfInBounds_toArray, List.set_cons_zero, List.set_cons_succ]
                      refine wpHeld_cons (.pointer (some ⟨1, k, none⟩)) rfl (fun w h => heldRun_value (run_idxa50 _ _ _ _ _ 1 0 k rfl rfl rfl HK.out (Nat.zero_add _)) h) ?_
                      simp only [Act.put, List.setIfInBounds_toArray, List.set_cons_zero, List.set_cons_succ]
                      refine wpHeld_cons (.int .u32 (kk.getD k 0 : Nat)) rfl (fun w h => heldRun_value (run_load_one _ _ _ 94 _ _ rfl (1) (k) rfl (WW.out _ h.2 k HK.out) (by kernel_rfl)) h) ?_
                      simp only [Act.put, List.setIfInBounds_toArray, List.set_cons_zero, List.set_cons_succ]
                      refine wpHeld_cons (.int .u32 ((s.h + Sig1 s.e + chs s.e s.f s.g + kk.getD k 0) % 4294967296 : Nat)) rfl (fun w h => heldRun_value (run_addi Tryd.underlying94 rfl rfl rfl _ (by rw [IntKind.wrap_u32]; omega)) h) ?_
                      simp only [Act.put, List.setIfInBounds_toArray, List.set_cons_zero, List.set_cons_succ]
                      refine wpHeld_cons (.int .i64 (k : Int)) rfl (fun w h => heldRun_value (by kernel_rfl) h) ?_
                      simp only [Act.put, List.setIfInBounds_toArray, List.set_cons_zero, List.set_cons_succ]
                      refine wpHeld_cons (.pointer (some ⟨gB, k, none⟩)) rfl (fun w h => heldRun_value (run_idxa50 _ _ _ _ _ gB 0 k rfl rfl rfl HK.out (Nat.zero_add _)) h) ?_
                      simp only [Act.put, List.setIfInBounds_toArray, List.set_cons_zero, List.set_cons_succ]
                      refine wpHeld_cons (.int .u32 ((wN m 48).getD k 0 : Nat)) rfl (fun w h => heldRun_value (run_load_one _ _ _ 94 _ _ rfl (gB) (k) rfl (by rw [h.1.cell]; exact wcells_get (by rw [wN_len]; have := HK.out; omega)) (by kernel_rfl)) h) ?_
                      simp only [Act.put, List.setIfInBounds_toArray, List.set_cons_zero, List.set_cons_succ]
                      refine wpHeld_cons (.int .u32 ((s.h + Sig1 s.e + chs s.e s.f s.g + kk.getD k 0 + (wN m 48).getD k 0) % 4294967296 : Nat)) rfl (fun w h => heldRun_value (run_addi Tryd.underlying94 rfl rfl rfl _ (by rw [IntKind.wrap_u32]; omega)) h) ?_
                      simp only [Act.put, List.setIfInBounds_toArray, List.set_cons_zero, List.set_cons_succ]
                      refine wpHeld_cons (.int .u32 ((s.h + Sig1 s.e + chs s.e s.f s.g + kk.getD k 0 + (wN m 48).getD k 0) % 4294967296 : Nat)) rfl (fun w h => heldRun_value (by kernel_rfl) h) ?_
                      simp only [Act.put, List.setIfInBounds_toArray, List.set_cons_zero, List.set_cons_succ]
                      refine wpHeld_nil ?_
                      intro X1 h
                      have A6 := Lib.hid h
                      clear h RJ T6 T11 T25
                      go_upto_region 30 with (fail)
                      refine wp_region_lit ?_
                      refine wpL_pure (.int .u32 (s.a : Nat)) rfl (by kernel_rfl) ?_
                      simp only [Act.put, List.setIfInBounds_toArray, List.set_cons_zero, List.set_cons_succ]
                      refine wpL_call 65 #[.int .u32 (s.a : Nat), .int .i64 2] rfl (by kernel_rfl) (((turn_any s.a 2 OK.out.1 (by omega) X1)).mono fun e w5 ⟨he, hw⟩ => ⟨.int .u32 (rotr s.a 2 : Nat), he, ?_⟩)
                      simp only [Act.put, List.setIfInBounds_toArray, List.set_cons_zero, List.set_cons_succ]
                      rw [hw]
                      clear hw
                      refine wpL_pure (.int .u32 (s.a : Nat)) rfl (by kernel_rfl) ?_
                      simp only [Act.put, List.setIfInBounds_toArray, List.set_cons_zero, List.set_cons_succ]
                      refine wpL_call 65 #[.int .u32 (s.a : Nat), .int .i64 13] rfl (by kernel_rfl) (((turn_any s.a 13 OK.out.1 (by omega) X1)).mono fun e w5 ⟨he, hw⟩ => ⟨.int .u32 (rotr s.a 13 : Nat), he, ?_⟩)
                      simp only [Act.put, List.setIfInBounds_toArray, List.set_cons_zero, List.set_cons_succ]
                      rw [hw]
                      clear hw
                      refine wpL_pure (.int .u32 ((rotr s.a 2 ^^^ rotr s.a 13 : Nat) : Int)) rfl (run_biti (.inr (.inr rfl)) Tryd.underlying94 rfl rfl rfl _ (u32_xor_nat _ _ (rotr_lt _ 2 OK.out.1 (by omega)) (rotr_lt _ 13 OK.out.1 (by omega)))) ?_
                      simp only [Act.put, List.setIfInBounds_toArray, List.set_cons_zero, List.set_cons_succ]
                      refine wpL_pure (.int .u32 (s.a : Nat)) rfl (by kernel_rfl) ?_
                      simp only [Act.put, List.setIfInBounds_toArray, List.set_cons_zero, List.set_cons_succ]
                      refine wpL_call 65 #[.int .u32 (s.a : Nat), .int .i64 22] rfl (by kernel_rfl) (((turn_any s.a 22 OK.out.1 (by omega) X1)).mono fun e w5 ⟨he, hw⟩ => ⟨.int .u32 (rotr s.a 22 : Nat), he, ?_⟩)
                      simp only [Act.put, List.setIfInBounds_toArray, List.set_cons_zero, List.set_cons_succ]
                      rw [hw]
                      clear hw
                      refine wpL_pure (.int .u32 (Sig0 s.a : Nat)) rfl (run_biti (.inr (.inr rfl)) Tryd.underlying94 rfl rfl rfl _ (u32_xor_nat _ _ (xor_lt (rotr_lt _ 2 OK.out.1 (by omega)) (rotr_lt _ 13 OK.out.1 (by omega))) (rotr_lt _ 22 OK.out.1 (by omega)))) ?_
                      simp only [Act.put, List.setIfInBounds_toArray, List.set_cons_zero, List.set_cons_succ]
                      refine wpL_pure (.int .u32 (s.a : Nat)) rfl (by kernel_rfl) ?_
                      simp only [Act.put, List.setIfInBounds_toArray, List.set_cons_zero, List.set_cons_succ]
                      refine wpL_pure (.int .u32 (s.b : Nat)) rfl (by kernel_rfl) ?_
                      simp only [Act.put, List.setIfInBounds_toArray, List.set_cons_zero, List.set_cons_succ]
                      refine wpL_pure (.int .u32 ((s.a &&& s.b : Nat) : Int)) rfl (run_biti (.inr (.inl rfl)) Tryd.underlying94 rfl rfl rfl _ (u32_and_nat _ _ OK.out.1 OK.out.2.1)) ?_
                      simp only [Act.put, List.setIfInBounds_toArray, List.set_cons_zero, List.set_cons_succ]
                      refine wpL_pure (.int .u32 (s.a : Nat)) rfl (by kernel_rfl) ?_
                      simp only [Act.put, List.setIfInBounds_toArray, List.set_cons_zero, List.set_cons_succ]
                      refine wpL_pure (.int .u32 (s.c : Nat)) rfl (by kernel_rfl) ?_
                      simp only [Act.put, List.setIfInBounds_toArray, List.set_cons_zero, List.set_cons_succ]
                      refine wpL_pure (.int .u32 ((s.a &&& s.c : Nat) : Int)) rfl (run_biti (.inr (.inl rfl)) Tryd.underlying94 rfl rfl rfl _ (u32_and_nat _ _ OK.out.1 OK.out.2.2.1)) ?_
                      simp only [Act.put, List.setIfInBounds_toArray, List.set_cons_zero, List.set_cons_succ]
                      refine wpL_pure (.int .u32 (((s.a &&& s.b) ^^^ (s.a &&& s.c) : Nat) : Int)) rfl (run_biti (.inr (.inr rfl)) Tryd.underlying94 rfl rfl rfl _ (u32_xor_nat _ _ (and_lt OK.out.1) (and_lt OK.out.1))) ?_
                      simp only [Act.put, List.setIfInBounds_toArray, List.set_cons_zero, List.set_cons_succ]
                      refine wpL_pure (.int .u32 (s.b : Nat)) rfl (by kernel_rfl) ?_
                      simp only [Act.put, List.setIfInBounds_toArray, List.set_cons_zero, List.set_cons_succ]
                      refine wpL_pure (.int .u32 (s.c : Nat)) rfl (by kernel_rfl) ?_
                      simp only [Act.put, List.setIfInBounds_toArray, List.set_cons_zero, List.set_cons_succ]
                      refine wpL_pure (.int .u32 ((s.b &&& s.c : Nat) : Int)) rfl (run_biti (.inr (.inl rfl)) Tryd.underlying94 rfl rfl rfl _ (u32_and_nat _ _ OK.out.2.1 OK.out.2.2.1)) ?_
                      simp only [Act.put, List.setIfInBounds_toArray, List.set_cons_zero, List.set_cons_succ]
                      refine wpL_pure (.int .u32 (mjs s.a s.b s.c : Nat)) rfl (run_biti (.inr (.inr rfl)) Tryd.underlying94 rfl rfl rfl _ (u32_xor_nat _ _ (xor_lt (and_lt OK.out.1) (and_lt OK.out.1)) (and_lt OK.out.2.1))) ?_
                      simp only [Act.put, List.setIfInBounds_toArray, List.set_cons_zero, List.set_cons_succ]
                      refine wpL_pure (.int .u32 (t2s s : Nat)) rfl (run_addi Tryd.underlying94 rfl rfl rfl _ (by rw [IntKind.wrap_u32]; unfold t2s; omega)) ?_
                      simp only [Act.put, List.setIfInBounds_toArray, List.set_cons_zero, List.set_cons_succ]
                      refine wpL_pure (.int .u32 (t2s s : Nat)) rfl (by kernel_rfl) ?_
                      simp only [Act.put, List.setIfInBounds_toArray, List.set_cons_zero, List.set_cons_succ]
                      go_upto_region 31 with (fail)
                      refine wp_region_lit ?_
                      refine wpL_pure (.int .u32 (s.g : Nat)) rfl (by kernel_rfl) ?_
                      simp only [Act.put, List.setIfInBounds_toArray, List.set_cons_zero, List.set_cons_succ]
                      refine wpL_pure (.int .u32 (s.g : Nat)) rfl (by kernel_rfl) ?_
                      simp only [Act.put, List.setIfInBounds_toArray, List.set_cons_zero, List.set_cons_succ]
                      go_upto_region 32 with (fail)
                      refine wp_region_lit ?_
                      refine wpL_pure (.int .u32 (s.f : Nat)) rfl (by kernel_rfl) ?_
                      simp only [Act.put, List.setIfInBounds_toArray, List.set_cons_zero, List.set_cons_succ]
                      refine wpL_pure (.int .u32 (s.f : Nat)) rfl (by kernel_rfl) ?_
                      simp only [Act.put, List.setIfInBounds_toArray, List.set_cons_zero, List.set_cons_succ]
                      go_upto_region 33 with (fail)
                      refine wp_region_lit ?_
                      refine wpL_pure (.int .u32 (s.e : Nat)) rfl (by kernel_rfl) ?_
                      simp only [Act.put, List.setIfInBounds_toArray, List.set_cons_zero, List.set_cons_succ]
                      refine wpL_pure (.int .u32 (s.e : Nat)) rfl (by kernel_rfl) ?_
                      simp only [Act.put, List.setIfInBounds_toArray, List.set_cons_zero, List.set_cons_succ]
                      go_upto_region 34 with (fail)
                      refine wp_region_lit ?_
                      refine wpL_pure (.int .u32 (s.d : Nat)) rfl (by kernel_rfl) ?_
                      simp only [Act.put, List.setIfInBounds_toArray, List.set_cons_zero, List.set_cons_succ]
                      refine wpL_pure (.int .u32 (t1s s (kk.getD k 0) ((wN m 48).getD k 0) : Nat)) rfl (by kernel_rfl) ?_
                      simp only [Act.put, List.setIfInBounds_toArray, List.set_cons_zero, List.set_cons_succ]
                      refine wpL_pure (.int .u32 ((s.d + t1s s (kk.getD k 0) ((wN m 48).getD k 0)) % 4294967296 : Nat)) rfl (run_addi Tryd.underlying94 rfl rfl rfl _ (by rw [IntKind.wrap_u32]; omega)) ?_
                      simp only [Act.put, List.setIfInBounds_toArray, List.set_cons_zero, List.set_cons_succ]
                      refine wpL_pure (.int .u32 ((s.d + t1s s (kk.getD k 0) ((wN m 48).getD k 0)) % 4294967296 : Nat)) rfl (by kernel_rfl) ?_
                      simp only [Act.put, List.setIfInBounds_toArray, List.set_cons_zero, List.set_cons_succ]
                      go_upto_region 35 with (fail)
                      refine wp_region_lit ?_
                      refine wpL_pure (.int .u32 (s.c : Nat)) rfl (by kernel_rfl) ?_
                      simp only [Act.put, List.setIfInBounds_toArray, List.set_cons_zero, List.set_cons_succ]
                      refine wpL_pure (.int .u32 (s.c : Nat)) rfl (by kernel_rfl) ?_
                      simp only [Act.put, List.setIfInBounds_toArray, List.set_cons_zero, List.set_cons_succ]
                      go_upto_region 36 with (fail)
                      refine wp_region_lit ?_
                      refine wpL_pure (.int .u32 (s.b : Nat)) rfl (by kernel_rfl) ?_
                      simp only [Act.put, List.setIfInBounds_toArray, List.set_cons_zero, List.set_cons_succ]
                      refine wpL_pure (.int .u32 (s.b : Nat)) rfl (by kernel_rfl) ?_
                      simp only [Act.put, List.setIfInBounds_toArray, List.set_cons_zero, List.set_cons_succ]
                      go_upto_region 37 with (fail)
                      refine wp_region_lit ?_
                      refine wpL_pure (.int .u32 (s.a : Nat)) rfl (by kernel_rfl) ?_
                      simp only [Act.put, List.setIfInBounds_toArray, List.set_cons_zero, List.set_cons_succ]
                      refine wpL_pure (.int .u32 (s.a : Nat)) rfl (by kernel_rfl) ?_
                      simp only [Act.put, List.setIfInBounds_toArray, List.set_cons_zero, List.set_cons_succ]
                      go_upto_region 38 with (fail)
                      refine wp_region_lit ?_
                      refine wpL_pure (.int .u32 (t1s s (kk.getD k 0) ((wN m 48).getD k 0) : Nat)) rfl (by kernel_rfl) ?_
                      simp only [Act.put, List.setIfInBounds_toArray, List.set_cons_zero, List.set_cons_succ]
                      refine wpL_pure (.int .u32 (t2s s : Nat)) rfl (by kernel_rfl) ?_
                      simp only [Act.put, List.setIfInBounds_toArray, List.set_cons_zero, List.set_cons_succ]
                      refine wpL_pure (.int .u32 ((t1s s (kk.getD k 0) ((wN m 48).getD k 0) + t2s s) % 4294967296 : Nat)) rfl (run_addi Tryd.underlying94 rfl rfl rfl _ (by rw [IntKind.wrap_u32]; omega)) ?_
                      simp only [Act.put, List.setIfInBounds_toArray, List.set_cons_zero, List.set_cons_succ]
                      refine wpL_pure (.int .u32 ((t1s s (kk.getD k 0) ((wN m 48).getD k 0) + t2s s) % 4294967296 : Nat)) rfl (by kernel_rfl) ?_
                      simp only [Act.put, List.setIfInBounds_toArray, List.set_cons_zero, List.set_cons_succ]
                      go_upto_region 28 with (fail)
                      refine wp_region_lit ?_
                      refine wpL_pure (.int .i64 (k : Int)) rfl (by kernel_rfl) ?_
                      simp only [Act.put, List.setIfInBounds_toArray, List.set_cons_zero, List.set_cons_succ]
                      refine wpL_pure (.int .i64 ((k + 1 : Nat) : Int)) rfl (run_addi Tryd.underlying3 rfl rfl rfl _ (by have := HK.out; rw [wrap_in _ (by omega) (by omega)]; omega)) ?_
                      simp only [Act.put, List.setIfInBounds_toArray, List.set_cons_zero, List.set_cons_succ]
                      refine wpL_pure (.int .i64 ((k + 1 : Nat) : Int)) rfl (by kernel_rfl) ?_
                      simp only [Act.put, List.setIfInBounds_toArray, List.set_cons_zero, List.set_cons_succ]
                      have NX : Hid (k + 1 ≤ 64 ∧ Blk X1 gB 126 (wcells (wN m 48)).toArray ∧ Below gB W3 X1) := Lib.hid ⟨HK.out, A6.out⟩
                      have NS : rnds (wN m 48) s0 (k + 1) = rnd s (kk.getD k 0) ((wN m 48).getD k 0) := by show rnd (rnds (wN m 48) s0 k) _ _ = _; rw [HSS.out]
                      unfold wpList
                      go_roundw
                      case rel => first | exact ⟨k + 1, rfl, by rw [NS]; rfl, by rw [NS]; rfl, by rw [NS]; rfl, by rw [NS]; rfl, by rw [NS]; rfl, by rw [NS]; rfl, by rw [NS]; rfl, by rw [NS]; rfl, NX⟩ | ((repeat apply Exists.intro); exact ⟨⟨k + 1, rfl, by rw [NS]; rfl, by rw [NS]; rfl, by rw [NS]; rfl, by rw [NS]; rfl, by rw [NS]; rfl, by rw [NS]; rfl, by rw [NS]; rfl, by rw [NS]; rfl, NX⟩, rfl⟩)
                      case measure => simp [intOf]; have := HK.out; omega
                    · have HK := Lib.hid hlt
                      have EK : Hid (k = 64) := Lib.hid (by have := RJ.out.1; omega)
                      clear hlt
                      go_upto_region 27 with (fail)
                      refine wp_region_lit ?_
                      refine wpL_pure (.int .i64 (k : Int)) rfl (by kernel_rfl) ?_
                      simp only [Act.put, List.setIfInBounds_toArray, List.set_cons_zero, List.set_cons_succ]
                      refine wpL_pure (.bool false) rfl (run_lti Tryd.underlying3 rfl rfl rfl (by have := HK.out; rw [decide_eq_false_iff_not]; omega)) ?_
                      simp only [Act.put, List.setIfInBounds_toArray, List.set_cons_zero, List.set_cons_succ]
                      go_upto_region 39 with (fail)
                      refine wp_region_lit ?_
                      refine wpL_pure (.pointer (some ⟨gh, 0, none⟩)) rfl (by kernel_rfl) ?_
                      simp only [Act.put, List.setIfInBounds_toArray, List.set_cons_zero, List.set_cons_succ]
                      refine wpL_pure (.int .u32 (H.getD 0 0 : Nat)) rfl (run_load_one _ _ _ 94 _ _ rfl (gh) (0) rfl (u32_cell (HW.out _ RJ.out.2.2) HOKH.out (by omega)) (by kernel_rfl)) ?_
                      simp only [Act.put, List.setIfInBounds_toArray, List.set_cons_zero, List.set_cons_succ]
                      refine wpL_pure (.int .u32 (s.a : Nat)) rfl (by kernel_rfl) ?_
                      simp only [Act.put, List.setIfInBounds_toArray, List.set_cons_zero, List.set_cons_succ]
                      refine wpL_pure (.int .u32 ((H.getD 0 0 + s.a) % 4294967296 : Nat)) rfl (run_addi Tryd.underlying94 rfl rfl rfl _ (by rw [IntKind.wrap_u32]; omega)) ?_
                      simp only [Act.put, List.setIfInBounds_toArray, List.set_cons_zero, List.set_cons_succ]
                      refine wpL_pure (.pointer (some ⟨gh, 1, none⟩)) rfl (by kernel_rfl) ?_
                      simp only [Act.put, List.setIfInBounds_toArray, List.set_cons_zero, List.set_cons_succ]
                      refine wpL_pure (.int .u32 (H.getD 1 0 : Nat)) rfl (run_load_one _ _ _ 94 _ _ rfl (gh) (1) rfl (u32_cell (HW.out _ RJ.out.2.2) HOKH.out (by omega)) (by kernel_rfl)) ?_
                      simp only [Act.put, List.setIfInBounds_toArray, List.set_cons_zero, List.set_cons_succ]
                      refine wpL_pure (.int .u32 (s.b : Nat)) rfl (by kernel_rfl) ?_
                      simp only [Act.put, List.setIfInBounds_toArray, List.set_cons_zero, List.set_cons_succ]
                      refine wpL_pure (.int .u32 ((H.getD 1 0 + s.b) % 4294967296 : Nat)) rfl (run_addi Tryd.underlying94 rfl rfl rfl _ (by rw [IntKind.wrap_u32]; omega)) ?_
                      simp only [Act.put, List.setIfInBounds_toArray, List.set_cons_zero, List.set_cons_succ]
                      refine wpL_pure (.pointer (some ⟨gh, 2, none⟩)) rfl (by kernel_rfl) ?_
                      simp only [Act.put, List.setIfInBounds_toArray, List.set_cons_zero, List.set_cons_succ]
                      refine wpL_pure (.int .u32 (H.getD 2 0 : Nat)) rfl (run_load_one _ _ _ 94 _ _ rfl (gh) (2) rfl (u32_cell (HW.out _ RJ.out.2.2) HOKH.out (by omega)) (by kernel_rfl)) ?_
                      simp only [Act.put, List.setIfInBounds_toArray, List.set_cons_zero, List.set_cons_succ]
                      refine wpL_pure (.int .u32 (s.c : Nat)) rfl (by kernel_rfl) ?_
                      simp only [Act.put, List.setIfInBounds_toArray, List.set_cons_zero, List.set_cons_succ]
                      refine wpL_pure (.int .u32 ((H.getD 2 0 + s.c) % 4294967296 : Nat)) rfl (run_addi Tryd.underlying94 rfl rfl rfl _ (by rw [IntKind.wrap_u32]; omega)) ?_
                      simp only [Act.put, List.setIfInBounds_toArray, List.set_cons_zero, List.set_cons_succ]
                      refine wpL_pure (.pointer (some ⟨gh, 3, none⟩)) rfl (by kernel_rfl) ?_
                      simp only [Act.put, List.setIfInBounds_toArray, List.set_cons_zero, List.set_cons_succ]
                      refine wpL_pure (.int .u32 (H.getD 3 0 : Nat)) rfl (run_load_one _ _ _ 94 _ _ rfl (gh) (3) rfl (u32_cell (HW.out _ RJ.out.2.2) HOKH.out (by omega)) (by kernel_rfl)) ?_
                      simp only [Act.put, List.setIfInBounds_toArray, List.set_cons_zero, List.set_cons_succ]
                      refine wpL_pure (.int .u32 (s.d : Nat)) rfl (by kernel_rfl) ?_
                      simp only [Act.put, List.setIfInBounds_toArray, List.set_cons_zero, List.set_cons_succ]
                      refine wpL_pure (.int .u32 ((H.getD 3 0 + s.d) % 4294967296 : Nat)) rfl (run_addi Tryd.underlying94 rfl rfl rfl _ (by rw [IntKind.wrap_u32]; omega)) ?_
                      simp only [Act.put, List.setIfInBounds_toArray, List.set_cons_zero, List.set_cons_succ]
                      refine wpL_pure (.pointer (some ⟨gh, 4, none⟩)) rfl (by kernel_rfl) ?_
                      simp only [Act.put, List.setIfInBounds_toArray, List.set_cons_zero, List.set_cons_succ]
                      refine wpL_pure (.int .u32 (H.getD 4 0 : Nat)) rfl (run_load_one _ _ _ 94 _ _ rfl (gh) (4) rfl (u32_cell (HW.out _ RJ.out.2.2) HOKH.out (by omega)) (by kernel_rfl)) ?_
                      simp only [Act.put, List.setIfInBounds_toArray, List.set_cons_zero, List.set_cons_succ]
                      refine wpL_pure (.int .u32 (s.e : Nat)) rfl (by kernel_rfl) ?_
                      simp only [Act.put, List.setIfInBounds_toArray, List.set_cons_zero, List.set_cons_succ]
                      refine wpL_pure (.int .u32 ((H.getD 4 0 + s.e) % 4294967296 : Nat)) rfl (run_addi Tryd.underlying94 rfl rfl rfl _ (by rw [IntKind.wrap_u32]; omega)) ?_
                      simp only [Act.put, List.setIfInBounds_toArray, List.set_cons_zero, List.set_cons_succ]
                      refine wpL_pure (.pointer (some ⟨gh, 5, none⟩)) rfl (by kernel_rfl) ?_
                      simp only [Act.put, List.setIfInBounds_toArray, List.set_cons_zero, List.set_cons_succ]
                      refine wpL_pure (.int .u32 (H.getD 5 0 : Nat)) rfl (run_load_one _ _ _ 94 _ _ rfl (gh) (5) rfl (u32_cell (HW.out _ RJ.out.2.2) HOKH.out (by omega)) (by kernel_rfl)) ?_
                      simp only [Act.put, List.setIfInBounds_toArray, List.set_cons_zero, List.set_cons_succ]
                      refine wpL_pure (.int .u32 (s.f : Nat)) rfl (by kernel_rfl) ?_
                      simp only [Act.put, List.setIfInBounds_toArray, List.set_cons_zero, List.set_cons_succ]
                      refine wpL_pure (.int .u32 ((H.getD 5 0 + s.f) % 4294967296 : Nat)) rfl (run_addi Tryd.underlying94 rfl rfl rfl _ (by rw [IntKind.wrap_u32]; omega)) ?_
                      simp only [Act.put, List.setIfInBounds_toArray, List.set_cons_zero, List.set_cons_succ]
                      refine wpL_pure (.pointer (some ⟨gh, 6, none⟩)) rfl (by kernel_rfl) ?_
                      simp only [Act.put, List.setIfInBounds_toArray, List.set_cons_zero, List.set_cons_succ]
                      refine wpL_pure (.int .u32 (H.getD 6 0 : Nat)) rfl (run_load_one _ _ _ 94 _ _ rfl (gh) (6) rfl (u32_cell (HW.out _ RJ.out.2.2) HOKH.out (by omega)) (by kernel_rfl)) ?_
                      simp only [Act.put, List.setIfInBounds_toArray, List.set_cons_zero, List.set_cons_succ]
                      refine wpL_pure (.int .u32 (s.g : Nat)) rfl (by kernel_rfl) ?_
                      simp only [Act.put, List.setIfInBounds_toArray, List.set_cons_zero, List.set_cons_succ]
                      refine wpL_pure (.int .u32 ((H.getD 6 0 + s.g) % 4294967296 : Nat)) rfl (run_addi Tryd.underlying94 rfl rfl rfl _ (by rw [IntKind.wrap_u32]; omega)) ?_
                      simp only [Act.put, List.setIfInBounds_toArray, List.set_cons_zero, List.set_cons_succ]
                      refine wpL_pure (.pointer (some ⟨gh, 7, none⟩)) rfl (by kernel_rfl) ?_
                      simp only [Act.put, List.setIfInBounds_toArray, List.set_cons_zero, List.set_cons_succ]
                      refine wpL_pure (.int .u32 (H.getD 7 0 : Nat)) rfl (run_load_one _ _ _ 94 _ _ rfl (gh) (7) rfl (u32_cell (HW.out _ RJ.out.2.2) HOKH.out (by omega)) (by kernel_rfl)) ?_
                      simp only [Act.put, List.setIfInBounds_toArray, List.set_cons_zero, List.set_cons_succ]
                      refine wpL_pure (.int .u32 (s.h : Nat)) rfl (by kernel_rfl) ?_
                      simp only [Act.put, List.setIfInBounds_toArray, List.set_cons_zero, List.set_cons_succ]
                      refine wpL_pure (.int .u32 ((H.getD 7 0 + s.h) % 4294967296 : Nat)) rfl (run_addi Tryd.underlying94 rfl rfl rfl _ (by rw [IntKind.wrap_u32]; omega)) ?_
                      simp only [Act.put, List.setIfInBounds_toArray, List.set_cons_zero, List.set_cons_succ]
                      refine wpL_pure (.agg (u32l (addS H s)).toArray) rfl (by kernel_rfl) ?_
                      simp only [Act.put, List.setIfInBounds_toArray, List.set_cons_zero, List.set_cons_succ]
                      refine wpList_store_rowTo rfl 95 _ _ rfl rfl gh (u32l (addS H s)).toArray rfl rfl 95 _ (HW.out _ RJ.out.2.2) (by simp only [List.size_toArray, u32l_len, (addS_ok H s).1]; kernel_rfl) (by simp [u32l_len, (addS_ok H s).1, HOKH.out.1]) (u32l_one _) ?_
                      obtain ⟨X9, hX9⟩ : ∃ V, V = wr.setRow gh (u32l (addS H s)).toArray := ⟨_, rfl⟩
                      rw [← hX9]
                      have NX : Hid (q + 1 ≤ NB ∧ Blk X9 gh 95 (u32l (stN T (q + 1))).toArray ∧ Row X9 (some ⟨gm, 0, none⟩) l2 T ∧ Below g2 w X9 ∧ Blk X9 g2 22 (u8l (List.replicate 32 0)).toArray) := Lib.hid (by
                        have bw : Below gh W3 X9 := by rw [hX9]; exact below_setRow (RJ.out.2.2.mono (by have := LT.out; omega)) (Nat.le_refl _) _
                        have es : stN T (q + 1) = addS H s := by show cmp (stN T q) (fun j => byte T (64 * q + j)) = _; rw [← HMM.out, HHH.out]; unfold cmp; rw [← HS0.out, ← EK.out, HSS.out]
                        exact ⟨HQ.out, by rw [es, hX9]; exact setRow_heap _ _ _ _ _ _ (HW.out _ RJ.out.2.2), row_keepB RI.out.2.2.1 bw B7.out.2.2.2.2.2.1, RI.out.2.2.2.1.trans (bw.mono (by have := B7.out.2.2.2.2.1; omega)), RI.out.2.2.2.2.keep bw B7.out.2.2.2.2.1⟩)
                      clear hX9
                      go_upto_region 14 with (fail)
                      refine wp_region_lit ?_
                      refine wpL_pure (.int .i64 ((64 * q : Nat) : Int)) rfl (by kernel_rfl) ?_
                      simp only [Act.put, List.setIfInBounds_toArray, List.set_cons_zero, List.set_cons_succ]
                      refine wpL_pure (.int .i64 ((64 * (q + 1) : Nat) : Int)) rfl (run_addi Tryd.underlying3 rfl rfl rfl _ (by have := HQ.out; have := B6.out.2; rw [wrap_in _ (by omega) (by omega)]; omega)) ?_
                      simp only [Act.put, List.setIfInBounds_toArray, List.set_cons_zero, List.set_cons_succ]
                      refine wpL_pure (.int .i64 ((64 * (q + 1) : Nat) : Int)) rfl (by kernel_rfl) ?_
                      simp only [Act.put, List.setIfInBounds_toArray, List.set_cons_zero, List.set_cons_succ]
                      unfold wpList
                      go_roundw
                      case rel => first | exact ⟨_, rfl, NX⟩ | ((repeat apply Exists.intro); exact ⟨⟨_, rfl, NX⟩, rfl⟩)
                      case measure => simp [intOf]; have := HQ.out; omega
            · have HQ := Lib.hid hlt
              have EQ : Hid (q = NB) := Lib.hid (by have := RI.out.1; omega)
              clear hlt
              go_upto_region 13 with (fail)
              refine wp_region_lit ?_
              refine wpL_pure (.int .i64 ((64 * q : Nat) : Int)) rfl (by kernel_rfl) ?_
              simp only [Act.put, List.setIfInBounds_toArray, List.set_cons_zero, List.set_cons_succ]
              refine wpL_pure (.slice (some ⟨gm, 0, none⟩) l2 cq) rfl (by kernel_rfl) ?_
              simp only [Act.put, List.setIfInBounds_toArray, List.set_cons_zero, List.set_cons_succ]
              refine wpL_pure (.int .i64 (l2 : Int)) rfl (by kernel_rfl) ?_
              simp only [Act.put, List.setIfInBounds_toArray, List.set_cons_zero, List.set_cons_succ]
              refine wpL_pure (.bool false) rfl (run_lti Tryd.underlying3 rfl rfl rfl (by have := HQ.out; have := B6.out.2.1; rw [decide_eq_false_iff_not]; omega)) ?_
              simp only [Act.put, List.setIfInBounds_toArray, List.set_cons_zero, List.set_cons_succ]
              obtain ⟨H, hH⟩ : ∃ H, stN T q = H := ⟨_, rfl⟩
              have HE : Hid (outS H = shaS t) := Lib.hid (by rw [← hH, EQ.out, ← HTT.out, ← HNB.out]; unfold shaS; rw [HS.out.1.1])
              have HOKH : Hid (HOk H) := Lib.hid (by rw [← hH]; exact stN_ok _ _)
              obtain ⟨x2, hx2⟩ : ∃ V, V = W3.alloc (.cells (u8l (List.replicate 32 0)).toArray 22) := ⟨_, rfl⟩
              have D1 : Hid (Blk W3 gh 95 (u32l H).toArray ∧ Blk W3 g2 22 (u8l (List.replicate 32 0)).toArray ∧ Below g2 w W3 ∧ Blk x2 W3.heap.size 22 (u8l (List.replicate 32 0)).toArray ∧ Below W3.heap.size W3 x2 ∧ gh < W3.heap.size ∧ g2 < W3.heap.size) := Lib.hid (by rw [← hH, hx2]; exact ⟨RI.out.2.1, RI.out.2.2.2.2, RI.out.2.2.2.1, Blk.new _ _ _, (Below.refl _ _).alloc (Nat.le_refl _) _, RI.out.2.1.lt, RI.out.2.2.2.2.lt⟩)
              go_upto_region 40 with (fail)
              refine wp_region_lit ?_
              refine wpL_value (.pointer (some ⟨W3.heap.size, 0, none⟩)) (x2) rfl (by rw [hx2]; kernel_rfl) ?_
              simp only [Act.put, List.setIfInBounds_toArray, List.set_cons_zero, List.set_cons_succ]
              clear hx2 hH RI
              obtain ⟨gO, hO⟩ : ∃ q, W3.heap.size = q := ⟨_, rfl⟩
              have GO := Lib.hid hO
              rw [hO] at D1
              try rw [hO]
              clear hO
              go_upto_region 41 with (fail)
              refine wp_region_lit ?_
              refine wpL_pure (.int .i64 0) rfl (by kernel_rfl) ?_
              simp only [Act.put, List.setIfInBounds_toArray, List.set_cons_zero, List.set_cons_succ]
              go_wp2_with fail
              go_loopw [25] (fun s25 wr => ∃ k : Nat, s25 = .int .i64 (k : Int) ∧ Hid (k ≤ 32 ∧ Blk wr gO 22 (u8l ((outS H).take k ++ List.replicate (32 - k) 0)).toArray ∧ Below gO W3 wr)) (fun s25 _ => 32 - (intOf s25).toNat)
              case atStart => exact ⟨0, rfl, Lib.hid ⟨by omega, by simpa using D1.out.2.2.2.1, D1.out.2.2.2.2.1⟩⟩
              case round =>
                obtain ⟨k, rfl, RJ⟩ := hrel
                by_cases hlt : k < 32
                · have HK := Lib.hid hlt
                  clear hlt
                  go_upto_region 42 with (fail)
                  refine wp_region_lit ?_
                  refine wpL_pure (.int .i64 (k : Int)) rfl (by kernel_rfl) ?_
                  simp only [Act.put, List.setIfInBounds_toArray, List.set_cons_zero, List.set_cons_succ]
                  refine wpL_pure (.bool true) rfl (run_lti Tryd.underlying3 rfl rfl rfl (by have := HK.out; rw [decide_eq_true_eq]; omega)) ?_
                  simp only [Act.put, List.setIfInBounds_toArray, List.set_cons_zero, List.set_cons_succ]
                  obtain ⟨z, hz⟩ : ∃ z, H.getD (k / 4) 0 / 2 ^ (24 - 8 * (k % 4)) = z := ⟨_, rfl⟩
                  have HZ := Lib.hid hz
                  clear hz
                  go_upto_region 44 with (fail)
                  refine wp_region_lit ?_
                  refine wpL_pure (.int .i64 (k : Int)) rfl (by kernel_rfl) ?_
                  simp only [Act.put, List.setIfInBounds_toArray, List.set_cons_zero, List.set_cons_succ]
                  refine wpL_pure (.int .i64 (k : Int)) rfl (by kernel_rfl) ?_
                  simp only [Act.put, List.setIfInBounds_toArray, List.set_cons_zero, List.set_cons_succ]
                  refine wpL_pure (.int .i64 ((k / 4 : Nat) : Int)) rfl (run_quo4 _ _ _ _ k rfl rfl (by have := HK.out; omega)) ?_
                  simp only [Act.put, List.setIfInBounds_toArray, List.set_cons_zero, List.set_cons_succ]
                  refine wpL_pure (.pointer (some ⟨gh, k / 4, none⟩)) rfl (run_idxa49 _ _ _ _ _ gh (k / 4) rfl rfl rfl (by have := HK.out; omega)) ?_
                  simp only [Act.put, List.setIfInBounds_toArray, List.set_cons_zero, List.set_cons_succ]
                  refine wpL_pure (.int .u32 (H.getD (k / 4) 0 : Nat)) rfl (run_load_one _ _ _ 94 _ _ rfl (gh) (k / 4) rfl (u32_cell (D1.out.1.keep RJ.out.2.2 D1.out.2.2.2.2.2.1) HOKH.out (by have := HK.out; omega)) (by kernel_rfl)) ?_
                  simp only [Act.put, List.setIfInBounds_toArray, List.set_cons_zero, List.set_cons_succ]
                  refine wpL_pure (.int .i64 (k : Int)) rfl (by kernel_rfl) ?_
                  simp only [Act.put, List.setIfInBounds_toArray, List.set_cons_zero, List.set_cons_succ]
                  refine wpL_pure (.int .i64 ((k % 4 : Nat) : Int)) rfl (run_rem4 _ _ _ _ k rfl rfl (by have := HK.out; omega)) ?_
                  simp only [Act.put, List.setIfInBounds_toArray, List.set_cons_zero, List.set_cons_succ]
                  refine wpL_pure (.int .i64 ((8 * (k % 4) : Nat) : Int)) rfl (run_muli Tryd.underlying3 rfl rfl rfl _ (by rw [wrap_in _ (by omega) (by omega)]; omega)) ?_
                  simp only [Act.put, List.setIfInBounds_toArray, List.set_cons_zero, List.set_cons_succ]
                  refine wpL_pure (.int .i64 ((24 - 8 * (k % 4) : Nat) : Int)) rfl (run_subi Tryd.underlying3 rfl rfl rfl _ (by rw [wrap_in _ (by omega) (by omega)]; omega)) ?_
                  simp only [Act.put, List.setIfInBounds_toArray, List.set_cons_zero, List.set_cons_succ]
                  refine wpL_pure (.int .u32 ((24 - 8 * (k % 4) : Nat) : Int)) rfl (run_convi Tryd.underlying3 Tryd.underlying94 rfl rfl _ (by rw [IntKind.wrap_u32]; omega)) ?_
                  simp only [Act.put, List.setIfInBounds_toArray, List.set_cons_zero, List.set_cons_succ]
                  refine wpL_pure (.int .u32 (z : Nat)) rfl (by rw [← HZ.out]; exact run_shr32s _ _ _ _ _ _ (24 - 8 * (k % 4)) rfl rfl rfl (getD_lt HOKH.out.2 _) (by omega)) ?_
                  simp only [Act.put, List.setIfInBounds_toArray, List.set_cons_zero, List.set_cons_succ]
                  refine wpL_pure (.int .u8 ((z % 256 : Nat) : Int)) rfl (run_convi Tryd.underlying94 Tryd.underlying5 rfl rfl _ (by rw [IntKind.wrap_u8]; omega)) ?_
                  simp only [Act.put, List.setIfInBounds_toArray, List.set_cons_zero, List.set_cons_succ]
                  refine wpL_pure (.pointer (some ⟨gO, k, none⟩)) rfl (run_idxa24 _ _ _ _ _ gO k rfl rfl rfl HK.out) ?_
                  simp only [Act.put, List.setIfInBounds_toArray, List.set_cons_zero, List.set_cons_succ]
                  refine wpL_store_one rfl rfl (gO) (k) rfl (.int .u8 ((z % 256 : Nat) : Int)) rfl rfl size5 (by rw [RJ.out.2.1.cell]; exact out_some HK.out) (RJ.out.2.1.free _) ?_
                  simp only [Act.put, List.setIfInBounds_toArray, List.set_cons_zero, List.set_cons_succ]
                  obtain ⟨X1, hX1⟩ : ∃ V, V = wr.setCell ⟨gO, k, none⟩ (.int .u8 ((z % 256 : Nat) : Int)) := ⟨_, rfl⟩
                  rw [← hX1]
                  have NX : Hid (k + 1 ≤ 32 ∧ Blk X1 gO 22 (u8l ((outS H).take (k + 1) ++ List.replicate (32 - (k + 1)) 0)).toArray ∧ Below gO W3 X1) := Lib.hid (by rw [hX1, ← HZ.out]; exact ⟨HK.out, out_set HK.out RJ.out.2.1, RJ.out.2.2.setCell (p := ⟨gO, k, none⟩) (Nat.le_refl _) _⟩)
                  clear hX1
                  go_upto_region 43 with (fail)
                  refine wp_region_lit ?_
                  refine wpL_pure (.int .i64 (k : Int)) rfl (by kernel_rfl) ?_
                  simp only [Act.put, List.setIfInBounds_toArray, List.set_cons_zero, List.set_cons_succ]
                  refine wpL_pure (.int .i64 ((k + 1 : Nat) : Int)) rfl (run_addi Tryd.underlying3 rfl rfl rfl _ (by have := HK.out; rw [wrap_in _ (by omega) (by omega)]; omega)) ?_
                  simp only [Act.put, List.setIfInBounds_toArray, List.set_cons_zero, List.set_cons_succ]
                  refine wpL_pure (.int .i64 ((k + 1 : Nat) : Int)) rfl (by kernel_rfl) ?_
                  simp only [Act.put, List.setIfInBounds_toArray, List.set_cons_zero, List.set_cons_succ]
                  unfold wpList
                  go_roundw
                  case rel => first | exact ⟨_, rfl, NX⟩ | ((repeat apply Exists.intro); exact ⟨⟨_, rfl, NX⟩, rfl⟩)
                  case measure => simp [intOf]; have := HK.out; omega
                · have HK := Lib.hid hlt
                  have EK : Hid (k = 32) := Lib.hid (by have := RJ.out.1; omega)
                  clear hlt
                  go_upto_region 42 with (fail)
                  refine wp_region_lit ?_
                  refine wpL_pure (.int .i64 (k : Int)) rfl (by kernel_rfl) ?_
                  simp only [Act.put, List.setIfInBounds_toArray, List.set_cons_zero, List.set_cons_succ]
                  refine wpL_pure (.bool false) rfl (run_lti Tryd.underlying3 rfl rfl rfl (by have := HK.out; rw [decide_eq_false_iff_not]; omega)) ?_
                  simp only [Act.put, List.setIfInBounds_toArray, List.set_cons_zero, List.set_cons_succ]
                  have D2 : Hid (Blk wr gO 22 (u8l (shaS t)).toArray ∧ Below g2 w wr ∧ Blk wr g2 22 (u8l (List.replicate 32 0)).toArray) := Lib.hid ⟨by rw [← HE.out]; have h := RJ.out.2.1; rw [EK.out, List.take_of_length_le (by rw [outS_len]; omega)] at h; simpa using h, D1.out.2.2.1.trans (RJ.out.2.2.mono (by have := D1.out.2.2.2.2.2; omega)), D1.out.2.1.keep RJ.out.2.2 D1.out.2.2.2.2.2.2⟩
                  go_upto_region 45 with (fail)
                  refine wp_region_lit ?_
                  refine wpL_load 22 _ rfl rfl gO 0 rfl (u8l (shaS t)) _ (blk_range D2.out.1) Tryd.underlying22 rfl (by rw [u8l_len, shaS_len]; kernel_rfl) ?_
                  simp only [Act.put, List.setIfInBounds_toArray, List.set_cons_zero, List.set_cons_succ]
                  refine wpList_store_rowTo rfl 22 _ _ rfl rfl g2 (u8l (shaS t)).toArray rfl rfl 22 _ D2.out.2.2 (by simp only [List.size_toArray, u8l_len, shaS_len]; kernel_rfl) (by simp [u8l_len, shaS_len]) (u8l_one _) ?_
                  go_wp2_with fail
                  refine bodyPost_ret (results_cell_row rfl _ _ g2 22 _ (0, 0) _ rfl (setRow_heap _ _ _ _ _ _ D2.out.2.2) Tryd.underlying22 rfl (by simp only [List.size_toArray, u8l_len, shaS_len]; kernel_rfl)) rfl ?_
                  exact ⟨rfl, by rw [G2.out]; exact below_setRow D2.out.2.1 (Nat.le_refl _) _⟩
end Go.Proofs.YtfhjfpgfbeiacaaDoor.Ha
