import Derived.Test.YtfhjfpgfbeiacaaDoorHaH2
import Derived.Test.YtfhjfpgfbeiacaaDoorHaHeldAll
namespace Go.Proofs.YtfhjfpgfbeiacaaDoor.Ha
open Go Go.RowKit
set_option maxRecDepth 100000

def u32l (l : List Nat) : List Value := l.map fun x => .int .u32 (x : Nat)
/-- words, and noughts behind them: 64 cells. -/
def wcells (ws : List Nat) : List Value := u32l ws ++ List.replicate (64 - ws.length) (.int .u32 0)
theorem wcells_len {ws : List Nat} (h : ws.length ≤ 64) : (wcells ws).length = 64 := by simp [wcells, u32l]; omega
theorem wcells_some {ws : List Nat} {k : Nat} (hk : k < 64) (h : ws.length ≤ 64) : ((wcells ws).toArray[k]?).isSome = true := by
  have := wcells_len h
  simp; omega
theorem wcells_get {ws : List Nat} {k : Nat} (h : k < ws.length) : (wcells ws).toArray[k]? = some (.int .u32 (ws.getD k 0 : Nat)) := by
  rw [List.getElem?_toArray]
  unfold wcells u32l
  rw [List.getElem?_append_left (by simpa using h), List.getElem?_map, List.getElem?_eq_getElem h, List.getD, List.getElem?_eq_getElem h]
  rfl
theorem wcells_set {ws : List Nat} (x : Nat) (h : ws.length < 64) : (wcells ws).set ws.length (.int .u32 (x : Nat)) = wcells (ws ++ [x]) := by
  unfold wcells u32l
  rw [List.set_append_right _ _ (by simp)]
  simp only [List.length_map, Nat.sub_self, List.map_append, List.map_cons, List.map_nil, List.append_assoc, List.length_append, List.length_cons, List.length_nil]
  rw [show 64 - ws.length = (64 - (ws.length + (0 + 1))) + 1 by omega, List.replicate_succ, List.set_cons_zero]
  rfl
theorem wcells_put {w : World} {B : Nat} {ws : List Nat} {k : Nat} (x : Nat) (hk : ws.length = k) (h : k < 64) (hB : Blk w B 126 (wcells ws).toArray) : Blk (w.setCell ⟨B, k, none⟩ (.int .u32 (x : Nat))) B 126 (wcells (ws ++ [x])).toArray := by
  subst hk
  rw [← wcells_set x h]
  exact Blk.set hB _ _
theorem w16_set {w : World} {B k : Nat} {m : Nat → Nat} (hk : k < 16) (hB : Blk w B 126 (wcells ((w16 m).take k)).toArray) : Blk (w.setCell ⟨B, k, none⟩ (.int .u32 (be4 (m (4 * k)) (m (4 * k + 1)) (m (4 * k + 2)) (m (4 * k + 3)) : Nat))) B 126 (wcells ((w16 m).take (k + 1))).toArray := by
  have e : (w16 m).take (k + 1) = (w16 m).take k ++ [be4 (m (4 * k)) (m (4 * k + 1)) (m (4 * k + 2)) (m (4 * k + 3))] := by
    rw [List.take_add_one]
    congr 1
    unfold w16
    rw [List.getElem?_map, List.getElem?_range hk]
    rfl
  rw [e]
  exact wcells_put _ (by simp [w16]; omega) (by omega) hB
theorem wN_set {w : World} {B k : Nat} {m : Nat → Nat} (hk : k < 48) (hB : Blk w B 126 (wcells (wN m k)).toArray) : Blk (w.setCell ⟨B, k + 16, none⟩ (.int .u32 ((((wN m k).getD k 0) + sig0 ((wN m k).getD (k + 1) 0) + ((wN m k).getD (k + 9) 0) + sig1 ((wN m k).getD (k + 14) 0)) % 4294967296 : Nat))) B 126 (wcells (wN m (k + 1))).toArray := by
  have hl := wN_len m k
  have e : nxw (wN m k) = (((wN m k).getD k 0) + sig0 ((wN m k).getD (k + 1) 0) + ((wN m k).getD (k + 9) 0) + sig1 ((wN m k).getD (k + 14) 0)) % 4294967296 := by
    unfold nxw
    rw [hl, show 16 + k - 16 = k by omega, show 16 + k - 15 = k + 1 by omega, show 16 + k - 7 = k + 9 by omega, show 16 + k - 2 = k + 14 by omega]
  simp only [wN]
  rw [e]
  exact wcells_put _ (by omega) (by omega) hB
theorem run_idxa50 (a : Act) (o : Oper) (w : World) (x i : Operand) (g off k : Nat) (ho : o.op = .indexAddr 126 x i) (hx : a.eval x = .pointer (some ⟨g, off, none⟩)) (hi : a.eval i = .int .i64 (k : Int)) (hk : k < 64) {r : Nat} (hr : off + k = r) : (execOp a.eval o).run Tryd.prog w = .ok (.value (.pointer (some ⟨g, r, none⟩))) w := by
  subst hr
  have j0 : (0 : Int) ≤ (k : Int) := by omega
  have j6 : (k : Int) < 64 := by omega
  unfold execOp
  simp only [ho, hx, hi]
  go_simp
theorem run_sl22 (a : Act) (o : Oper) (w : World) (x i : Operand) (g off len cap m : Nat) (ho : o.op = .slice 32 x (some i) none none) (hx : a.eval x = .slice (some ⟨g, off, none⟩) len cap) (hi : a.eval i = .int .i64 (m : Int)) (hm : m < len ∧ len ≤ cap ∧ cap ≤ maxLen) :
    (execOp a.eval o).run Tryd.prog w = .ok (.value (.slice (some ⟨g, off + m, none⟩) (len - m) (cap - m))) w := by
  obtain ⟨hm, hc, hw⟩ := hm
  unfold maxLen at hw
  have h1 : (0 : Int) ≤ (m : Int) := by omega
  have h2 : (m : Int) ≤ (len : Int) := by omega
  have h3 : (len : Int) ≤ (cap : Int) := by omega
  have h4 : (m : Int) ≤ (cap : Int) := by omega
  have hq : ¬ cap = m := by omega
  unfold execOp
  simp only [ho, hx, Option.map_some, Option.map_none, hi]
  go_simp
theorem run_shr32n (n m : Nat) (hm : (n, (m : Int)) ∈ [(2, (4 : Int)), (3, 8), (6, 64), (7, 128), (8, 256), (10, 1024), (11, 2048), (13, 8192), (14, 16384), (15, 32768), (16, 65536), (17, 131072), (18, 262144), (19, 524288), (22, 4194304), (24, 16777216), (25, 33554432)]) (a : Act) (o : Oper) (w : World) (x y : Operand) (q : Nat) (ho : o.op = .binOp .shr 94 x y 82) (hx : a.eval x = .int .u32 (q : Int)) (hy : a.eval y = .int .u64 (n : Int)) (h0 : q < 4294967296) :
    (execOp a.eval o).run Tryd.prog w = .ok (.value (.int .u32 ((q / m : Nat) : Int))) w :=
  run_shr32 n m hm a o w x y (q : Int) ho hx hy (by omega)
theorem xor_ones (p : Nat) (h : p < 4294967296) : 4294967295 ^^^ p = 4294967295 - p := by
  have e := congrArg BitVec.toNat (BitVec.allOnes_xor (x := BitVec.ofNat 32 p))
  rw [BitVec.toNat_xor, BitVec.toNat_not, BitVec.toNat_allOnes, BitVec.toNat_ofNat, Nat.mod_eq_of_lt (show p < 2 ^ 32 by omega)] at e
  simpa using e
theorem run_not32 (a : Act) (o : Oper) (w : World) (x : Operand) (p : Nat) (ho : o.op = .unOp .xor 94 x) (hx : a.eval x = .int .u32 (p : Nat)) (hp : p < 4294967296) : (execOp a.eval o).run Tryd.prog w = .ok (.value (.int .u32 (4294967295 - p : Nat))) w := by
  have u := run_underlying Tryd.underlying94 w
  unfold execOp
  simp only [ho, hx]
  go_simp
  have e : (if IntKind.u32.signed = true then (-1 : Int) else IntKind.u32.max) = ((4294967295 : Nat) : Int) := by kernel_rfl
  rw [e, u32_xor_nat _ _ (by omega) hp, xor_ones p hp]
attribute [local irreducible] wpList
set_option maxRecDepth 100000 in
set_option maxHeartbeats 8000000 in
theorem block_any (w : World) (b g o n c h0 h1 h2 h3 h4 h5 h6 h7 : Nat) (m : Nat → Nat) (tl : List Value) (hB : Blk w b 97 (([.int .u32 (h0 : Nat), .int .u32 (h1 : Nat), .int .u32 (h2 : Nat), .int .u32 (h3 : Nat), .int .u32 (h4 : Nat), .int .u32 (h5 : Nat), .int .u32 (h6 : Nat), .int .u32 (h7 : Nat)] : List Value) ++ tl).toArray)
    (hT : ∀ i, i < 64 → w.cell? ⟨3, i, none⟩ = some (.int .u32 (kk.getD i 0 : Nat))) (hT2 : 3 < w.heap.size) (hP : ∀ j, j < 64 → w.cell? ⟨g, o + j, none⟩ = some (.int .u8 (m j : Nat))) (hM : ∀ j, m j < 256) (hn : 64 ≤ n ∧ n ≤ c ∧ c ≤ maxLen) (hh : St.ok ⟨h0, h1, h2, h3, h4, h5, h6, h7⟩) :
    Calls Tryd.prog 64 #[.pointer (some ⟨b, 0, none⟩), .slice (some ⟨g, o, none⟩) n c] w fun e w' => e = .returned (.tuple #[]) ∧ Blk w' b 97 (u32l (cmp [h0, h1, h2, h3, h4, h5, h6, h7] m) ++ tl).toArray ∧ w.grownBy w' (some b) := by
  have HB := Lib.hid hB
  have HT := Lib.hid hT
  have HT2 := Lib.hid hT2
  have HP := Lib.hid hP
  have HM := Lib.hid hM
  have HN := Lib.hid hn
  have HH := Lib.hid hh
  clear hB hT hT2 hP hM hn hh
  go_enter Tryd.func64, Tryd.ntmps64
  obtain ⟨w1, hw1⟩ : ∃ V, V = w.alloc (.cells (wcells []).toArray 126) := ⟨_, rfl⟩
  have A1 : Hid (Blk w1 w.heap.size 126 (wcells []).toArray ∧ Below w.heap.size w w1) := Lib.hid (by rw [hw1]; exact ⟨Blk.new _ _ _, (Below.refl _ _).alloc (Nat.le_refl _) _⟩)
  go_upto_region 0 with (fail)
  refine wp_region_lit ?_
  refine wpL_value (.pointer (some ⟨w.heap.size, 0, none⟩)) (w1) rfl (by rw [hw1]; kernel_rfl) ?_
  simp only [Act.put, List.setIfInBounds_toArray, List.set_cons_zero, List.set_cons_succ]
  clear hw1
  have LT : Hid (b < w.heap.size ∧ 3 < w.heap.size) := Lib.hid ⟨HB.out.lt, HT2.out⟩
  have BW : Hid (∀ X, Below w.heap.size w X → Blk X b 97 (([.int .u32 (h0 : Nat), .int .u32 (h1 : Nat), .int .u32 (h2 : Nat), .int .u32 (h3 : Nat), .int .u32 (h4 : Nat), .int .u32 (h5 : Nat), .int .u32 (h6 : Nat), .int .u32 (h7 : Nat)] : List Value) ++ tl).toArray ∧ ∀ i, i < 64 → X.cell? ⟨3, i, none⟩ = some (.int .u32 (kk.getD i 0 : Nat))) := Lib.hid (fun X hX => ⟨HB.out.below hX, fun i hi => by rw [hX.cell (p := ⟨3, i, none⟩) HT2.out]; exact HT.out i hi⟩)
  have BP : Hid (∀ X, Below w.heap.size w X → ∀ j, j < 64 → X.cell? ⟨g, o + j, none⟩ = some (.int .u8 (m j : Nat))) := Lib.hid (fun X hX j hj => by have h := HP.out j hj; rw [hX.cell (p := ⟨g, o + j, none⟩) (World.block_lt_of_cell? w _ h)]; exact h)
  have GB : Hid (∀ X, Below w.heap.size w X → w.grownBy X (some b)) := Lib.hid (fun X hX => gb_of hX _)
  generalize hB : w.heap.size = B at *
  have HBB := Lib.hid hB
  clear hB
  go_wp2_with fail
  go_loopw [24] (fun s24 wr => ∃ k : Nat, s24 = .int .i64 (k : Int) ∧ Hid (k ≤ 16 ∧ Blk wr B 126 (wcells ((w16 m).take k)).toArray ∧ Below B w wr)) (fun s24 _ => 16 - (intOf s24).toNat)
  case atStart => exact ⟨0, rfl, Lib.hid ⟨by omega, A1.out.1, A1.out.2⟩⟩
  case round =>
    obtain ⟨k, rfl, RI⟩ := hrel
    by_cases hlt : k < 16
    · have HK := Lib.hid hlt
      clear hlt
      go_upto_region 2 with (fail)
      refine wp_region_lit ?_
      refine wpL_pure (.bool true) rfl (run_lti Tryd.underlying3 rfl rfl rfl (by have := HK.out; rw [decide_eq_true_eq]; omega)) ?_
      simp only [Act.put, List.setIfInBounds_toArray, List.set_cons_zero, List.set_cons_succ]
      go_upto_region 3 with (fail)
      refine wp_region_lit ?_
      refine wpL_pure (.int .i64 (k : Int)) rfl (by kernel_rfl) ?_
      simp only [Act.put, List.setIfInBounds_toArray, List.set_cons_zero, List.set_cons_succ]
      refine wpL_pure (.int .i64 (k : Int)) rfl (by kernel_rfl) ?_
      simp only [Act.put, List.setIfInBounds_toArray, List.set_cons_zero, List.set_cons_succ]
      go_upto_region 4 with (fail)
      refine wp_region_lit ?_
      refine wpL_pure (.int .i64 (k : Int)) rfl (by kernel_rfl) ?_
      simp only [Act.put, List.setIfInBounds_toArray, List.set_cons_zero, List.set_cons_succ]
      refine wpL_pure (.slice (some ⟨g, o, none⟩) n c) rfl (by kernel_rfl) ?_
      simp only [Act.put, List.setIfInBounds_toArray, List.set_cons_zero, List.set_cons_succ]
      refine wpL_pure (.int .i64 (k : Int)) rfl (by kernel_rfl) ?_
      simp only [Act.put, List.setIfInBounds_toArray, List.set_cons_zero, List.set_cons_succ]
      refine wpL_pure (.int .i64 ((4 * k : Nat) : Int)) rfl (run_muli Tryd.underlying3 rfl rfl rfl _ (by have := HK.out; rw [wrap_in _ (by omega) (by omega)]; omega)) ?_
      simp only [Act.put, List.setIfInBounds_toArray, List.set_cons_zero, List.set_cons_succ]
      refine wpL_pure (.slice (some ⟨g, o + 4 * k, none⟩) (n - 4 * k) (c - 4 * k)) rfl (run_sl22 _ _ _ _ _ g o n c (4 * k) rfl rfl rfl (by have := HK.out; have := HN.out; omega)) ?_
      simp only [Act.put, List.setIfInBounds_toArray, List.set_cons_zero, List.set_cons_succ]
      refine wpL_call 76 #[.slice (some ⟨g, o + 4 * k, none⟩) (n - 4 * k) (c - 4 * k)] rfl (by kernel_rfl) (((word_any wr g (o + 4 * k) (n - 4 * k) (c - 4 * k) (m (4 * k)) (m (4 * k + 1)) (m (4 * k + 2)) (m (4 * k + 3)) ⟨BP.out wr RI.out.2.2 (4 * k) (by have := HK.out; omega), BP.out wr RI.out.2.2 (4 * k + 1) (by have := HK.out; omega), BP.out wr RI.out.2.2 (4 * k + 2) (by have := HK.out; omega), BP.out wr RI.out.2.2 (4 * k + 3) (by have := HK.out; omega)⟩ (by have := HK.out; have := HN.out; omega) ⟨HM.out _, HM.out _, HM.out _, HM.out _⟩)).mono fun e w3 ⟨he, hb⟩ => ⟨.int .u32 (be4 (m (4 * k)) (m (4 * k + 1)) (m (4 * k + 2)) (m (4 * k + 3)) : Nat), he, ?_⟩)
      simp only [Act.put, List.setIfInBounds_toArray, List.set_cons_zero, List.set_cons_succ]
      have A3 : Hid (Blk w3 B 126 (wcells ((w16 m).take k)).toArray ∧ Below B w w3) := Lib.hid ⟨RI.out.2.1.below hb, RI.out.2.2.trans (hb.mono (by have := RI.out.2.2.size; have := HBB.out; omega))⟩
      clear hb
      refine wpL_pure (.pointer (some ⟨B, k, none⟩)) rfl (run_idxa50 _ _ _ _ _ B 0 k rfl rfl rfl (by have := HK.out; omega) (Nat.zero_add _)) ?_
      simp only [Act.put, List.setIfInBounds_toArray, List.set_cons_zero, List.set_cons_succ]
      refine wpL_store_one rfl rfl (B) (k) rfl (.int .u32 (be4 (m (4 * k)) (m (4 * k + 1)) (m (4 * k + 2)) (m (4 * k + 3)) : Nat)) rfl rfl size48 (by rw [A3.out.1.cell]; exact wcells_some (by have := HK.out; omega) (by rw [List.length_take]; have := HK.out; omega)) (A3.out.1.free _) ?_
      simp only [Act.put, List.setIfInBounds_toArray, List.set_cons_zero, List.set_cons_succ]
      have NX : Hid (k + 1 ≤ 16 ∧ Blk (w3.setCell ⟨B, k, none⟩ (.int .u32 (be4 (m (4 * k)) (m (4 * k + 1)) (m (4 * k + 2)) (m (4 * k + 3)) : Nat))) B 126 (wcells ((w16 m).take (k + 1))).toArray ∧ Below B w (w3.setCell ⟨B, k, none⟩ (.int .u32 (be4 (m (4 * k)) (m (4 * k + 1)) (m (4 * k + 2)) (m (4 * k + 3)) : Nat)))) := Lib.hid ⟨by have := HK.out; omega, w16_set HK.out A3.out.1, A3.out.2.setCell (p := ⟨B, k, none⟩) (Nat.le_refl _) _⟩
      generalize w3.setCell ⟨B, k, none⟩ (.int .u32 (be4 (m (4 * k)) (m (4 * k + 1)) (m (4 * k + 2)) (m (4 * k + 3)) : Nat)) = w4 at NX ⊢
      go_upto_region 5 with (fail)
      refine wp_region_lit ?_
      refine wpL_pure (.int .i64 ((k + 1 : Nat) : Int)) rfl (run_addi Tryd.underlying3 rfl rfl rfl _ (by have := HK.out; rw [wrap_in _ (by omega) (by omega)]; omega)) ?_
      simp only [Act.put, List.setIfInBounds_toArray, List.set_cons_zero, List.set_cons_succ]
      refine wpL_pure (.int .i64 ((k + 1 : Nat) : Int)) rfl (by kernel_rfl) ?_
      simp only [Act.put, List.setIfInBounds_toArray, List.set_cons_zero, List.set_cons_succ]
      unfold wpList
      go_roundw
      case rel => first | exact ⟨_, rfl, NX⟩ | ((repeat apply Exists.intro); exact ⟨⟨_, rfl, NX⟩, rfl⟩)
      case measure => simp [intOf]; have := HK.out; omega
    · have HK := Lib.hid hlt
      have EK : Hid (k = 16) := Lib.hid (by have := RI.out.1; omega)
      clear hlt
      go_upto_region 2 with (fail)
      refine wp_region_lit ?_
      refine wpL_pure (.bool false) rfl (run_lti Tryd.underlying3 rfl rfl rfl (by have := HK.out; rw [decide_eq_false_iff_not]; omega)) ?_
      simp only [Act.put, List.setIfInBounds_toArray, List.set_cons_zero, List.set_cons_succ]
      have A4 : Hid (Blk wr B 126 (wcells (wN m 0)).toArray ∧ Below B w wr) := Lib.hid ⟨by have h := RI.out.2.1; rw [EK.out] at h; exact h, RI.out.2.2⟩
      clear RI A1
      go_wp2_with fail
      go_loopw [6] (fun s6 wr => ∃ k : Nat, s6 = .int .i64 ((k + 16 : Nat) : Int) ∧ Hid (k ≤ 48 ∧ Blk wr B 126 (wcells (wN m k)).toArray ∧ Below B w wr)) (fun s6 _ => 64 - (intOf s6).toNat)
      case atStart => exact ⟨0, rfl, Lib.hid ⟨by omega, A4.out.1, A4.out.2⟩⟩
      case round =>
        obtain ⟨k, rfl, RI⟩ := hrel
        by_cases hlt : k < 48
        · have HK := Lib.hid hlt
          clear hlt
          go_upto_region 7 with (fail)
          refine wp_region_lit ?_
          refine wpL_pure (.int .i64 ((k + 16 : Nat) : Int)) rfl (by kernel_rfl) ?_
          simp only [Act.put, List.setIfInBounds_toArray, List.set_cons_zero, List.set_cons_succ]
          refine wpL_pure (.bool true) rfl (run_lti Tryd.underlying3 rfl rfl rfl (by have := HK.out; rw [decide_eq_true_eq]; omega)) ?_
          simp only [Act.put, List.setIfInBounds_toArray, List.set_cons_zero, List.set_cons_succ]
          go_upto_region 9 with (fail)
          refine region_held_all (fun X => Blk X B 126 (wcells (wN m k)).toArray ∧ Below B w X) (by kernel_rfl) (by kernel_rfl) (by exact ⟨RI.out.2.1, RI.out.2.2.drew⟩) ?_
          refine wpHeld_cons (.int .i64 ((k + 16 : Nat) : Int)) rfl (fun w h => heldRun_value (by kernel_rfl) h) ?_
          simp only [Act.put, List.setIfInBounds_toArray, List.set_cons_zero, List.set_cons_succ]
          refine wpHeld_cons (.int .i64 ((k + 1 : Nat) : Int)) rfl (fun w h => heldRun_value (run_subi Tryd.underlying3 rfl rfl rfl _ (by have := HK.out; rw [wrap_in _ (by omega) (by omega)]; omega)) h) ?_
          simp only [Act.put, List.setIfInBounds_toArray, List.set_cons_zero, List.set_cons_succ]
          refine wpHeld_cons (.pointer (some ⟨B, k + 1, none⟩)) rfl (fun w h => heldRun_value (run_idxa50 _ _ _ _ _ B 0 (k + 1) rfl rfl (by first | rfl | exact congrArg _ (by omega)) (by have := HK.out; omega) (Nat.zero_add _)) h) ?_
          simp only [Act.put, List.setIfInBounds_toArray, List.set_cons_zero, List.set_cons_succ]
          refine wpHeld_cons (.int .u32 (((wN m k).getD (k + 1) 0) : Nat)) rfl (fun w h => heldRun_value (run_load_one _ _ _ 94 _ _ rfl (B) (k + 1) rfl ((by rw [h.1.cell]; exact wcells_get (by rw [wN_len]; omega))) (by kernel_rfl)) h) ?_
          simp only [Act.put, List.setIfInBounds_toArray, List.set_cons_zero, List.set_cons_succ]
          refine wpHeld_cons (.int .i64 ((k + 16 : Nat) : Int)) rfl (fun w h => heldRun_value (by kernel_rfl) h) ?_
          simp only [Act.put, List.setIfInBounds_toArray, List.set_cons_zero, List.set_cons_succ]
          refine wpHeld_cons (.int .i64 ((k + 14 : Nat) : Int)) rfl (fun w h => heldRun_value (run_subi Tryd.underlying3 rfl rfl rfl _ (by have := HK.out; rw [wrap_in _ (by omega) (by omega)]; omega)) h) ?_
          simp only [Act.put, List.setIfInBounds_toArray, List.set_cons_zero, List.set_cons_succ]
          refine wpHeld_cons (.pointer (some ⟨B, k + 14, none⟩)) rfl (fun w h => heldRun_value (run_idxa50 _ _ _ _ _ B 0 (k + 14) rfl rfl (by first | rfl | exact congrArg _ (by omega)) (by have := HK.out; omega) (Nat.zero_add _)) h) ?_
          simp only [Act.put, List.setIfInBounds_toArray, List.set_cons_zero, List.set_cons_succ]
          refine wpHeld_cons (.int .u32 (((wN m k).getD (k + 14) 0) : Nat)) rfl (fun w h => heldRun_value (run_load_one _ _ _ 94 _ _ rfl (B) (k + 14) rfl ((by rw [h.1.cell]; exact wcells_get (by rw [wN_len]; omega))) (by kernel_rfl)) h) ?_
          simp only [Act.put, List.setIfInBounds_toArray, List.set_cons_zero, List.set_cons_succ]
          refine wpHeld_cons (.int .u32 (((wN m k).getD (k + 1) 0) : Nat)) rfl (fun w h => heldRun_value (by kernel_rfl) h) ?_
          simp only [Act.put, List.setIfInBounds_toArray, List.set_cons_zero, List.set_cons_succ]
          refine wpHeld_cons (.int .u32 (((wN m k).getD (k + 14) 0) : Nat)) rfl (fun w h => heldRun_value (by kernel_rfl) h) ?_
          simp only [Act.put, List.setIfInBounds_toArray, List.set_cons_zero, List.set_cons_succ]
          refine wpHeld_nil ?_
          intro w4 h
          have A5 := Lib.hid h
          clear h RI
          go_upto_region 10 with (fail)
          refine wp_region_lit ?_
          refine wpL_pure (.int .u32 (((wN m k).getD (k + 1) 0) : Nat)) rfl (by kernel_rfl) ?_
          simp only [Act.put, List.setIfInBounds_toArray, List.set_cons_zero, List.set_cons_succ]
          refine wpL_call 77 #[.int .u32 (((wN m k).getD (k + 1) 0) : Nat), .int IntKind.i64 (-7)] rfl (by kernel_rfl) (((rot7 ((wN m k).getD (k + 1) 0) (getD_lt (wN_lt HM.out k) (k + 1)) w4)).mono fun e w5 ⟨he, hw⟩ => ⟨.int .u32 (rotr ((wN m k).getD (k + 1) 0) 7 : Nat), he, ?_⟩)
          simp only [Act.put, List.setIfInBounds_toArray, List.set_cons_zero, List.set_cons_succ]
          subst hw
          refine wpL_pure (.int .u32 (((wN m k).getD (k + 1) 0) : Nat)) rfl (by kernel_rfl) ?_
          simp only [Act.put, List.setIfInBounds_toArray, List.set_cons_zero, List.set_cons_succ]
          refine wpL_call 77 #[.int .u32 (((wN m k).getD (k + 1) 0) : Nat), .int IntKind.i64 (-18)] rfl (by kernel_rfl) (((rot18 ((wN m k).getD (k + 1) 0) (getD_lt (wN_lt HM.out k) (k + 1)) w4)).mono fun e w5 ⟨he, hw⟩ => ⟨.int .u32 (rotr ((wN m k).getD (k + 1) 0) 18 : Nat), he, ?_⟩)
          simp only [Act.put, List.setIfInBounds_toArray, List.set_cons_zero, List.set_cons_succ]
          subst hw
          refine wpL_pure (.int .u32 ((rotr ((wN m k).getD (k + 1) 0) 7 ^^^ rotr ((wN m k).getD (k + 1) 0) 18 : Nat) : Int)) rfl (run_biti (.inr (.inr rfl)) Tryd.underlying94 rfl rfl rfl _ (u32_xor_nat _ _ (rotr_lt _ 7 (getD_lt (wN_lt HM.out k) (k + 1)) (by omega)) (rotr_lt _ 18 (getD_lt (wN_lt HM.out k) (k + 1)) (by omega)))) ?_
          simp only [Act.put, List.setIfInBounds_toArray, List.set_cons_zero, List.set_cons_succ]
          refine wpL_pure (.int .u32 (((wN m k).getD (k + 1) 0) : Nat)) rfl (by kernel_rfl) ?_
          simp only [Act.put, List.setIfInBounds_toArray, List.set_cons_zero, List.set_cons_succ]
          refine wpL_pure (.int .u32 ((((wN m k).getD (k + 1) 0) / 8 : Nat) : Int)) rfl (run_shr32n 3 8 (by simp) _ _ _ _ _ _ rfl rfl rfl (by have := (getD_lt (wN_lt HM.out k) (k + 1)); omega)) ?_
          simp only [Act.put, List.setIfInBounds_toArray, List.set_cons_zero, List.set_cons_succ]
          refine wpL_pure (.int .u32 (sig0 ((wN m k).getD (k + 1) 0) : Nat)) rfl (run_biti (.inr (.inr rfl)) Tryd.underlying94 rfl rfl rfl _ (u32_xor_nat _ _ (xor_lt (rotr_lt _ 7 (getD_lt (wN_lt HM.out k) (k + 1)) (by omega)) (rotr_lt _ 18 (getD_lt (wN_lt HM.out k) (k + 1)) (by omega))) (by have := (getD_lt (wN_lt HM.out k) (k + 1)); omega))) ?_
          simp only [Act.put, List.setIfInBounds_toArray, List.set_cons_zero, List.set_cons_succ]
          refine wpL_pure (.int .u32 (sig0 ((wN m k).getD (k + 1) 0) : Nat)) rfl (by kernel_rfl) ?_
          simp only [Act.put, List.setIfInBounds_toArray, List.set_cons_zero, List.set_cons_succ]
          go_upto_region 11 with (fail)
          refine wp_region_lit ?_
          refine wpL_pure (.int .u32 (((wN m k).getD (k + 14) 0) : Nat)) rfl (by kernel_rfl) ?_
          simp only [Act.put, List.setIfInBounds_toArray, List.set_cons_zero, List.set_cons_succ]
          refine wpL_call 77 #[.int .u32 (((wN m k).getD (k + 14) 0) : Nat), .int IntKind.i64 (-17)] rfl (by kernel_rfl) (((rot17 ((wN m k).getD (k + 14) 0) (getD_lt (wN_lt HM.out k) (k + 14)) w4)).mono fun e w5 ⟨he, hw⟩ => ⟨.int .u32 (rotr ((wN m k).getD (k + 14) 0) 17 : Nat), he, ?_⟩)
          simp only [Act.put, List.setIfInBounds_toArray, List.set_cons_zero, List.set_cons_succ]
          subst hw
          refine wpL_pure (.int .u32 (((wN m k).getD (k + 14) 0) : Nat)) rfl (by kernel_rfl) ?_
          simp only [Act.put, List.setIfInBounds_toArray, List.set_cons_zero, List.set_cons_succ]
          refine wpL_call 77 #[.int .u32 (((wN m k).getD (k + 14) 0) : Nat), .int IntKind.i64 (-19)] rfl (by kernel_rfl) (((rot19 ((wN m k).getD (k + 14) 0) (getD_lt (wN_lt HM.out k) (k + 14)) w4)).mono fun e w5 ⟨he, hw⟩ => ⟨.int .u32 (rotr ((wN m k).getD (k + 14) 0) 19 : Nat), he, ?_⟩)
          simp only [Act.put, List.setIfInBounds_toArray, List.set_cons_zero, List.set_cons_succ]
          subst hw
          refine wpL_pure (.int .u32 ((rotr ((wN m k).getD (k + 14) 0) 17 ^^^ rotr ((wN m k).getD (k + 14) 0) 19 : Nat) : Int)) rfl (run_biti (.inr (.inr rfl)) Tryd.underlying94 rfl rfl rfl _ (u32_xor_nat _ _ (rotr_lt _ 17 (getD_lt (wN_lt HM.out k) (k + 14)) (by omega)) (rotr_lt _ 19 (getD_lt (wN_lt HM.out k) (k + 14)) (by omega)))) ?_
          simp only [Act.put, List.setIfInBounds_toArray, List.set_cons_zero, List.set_cons_succ]
          refine wpL_pure (.int .u32 (((wN m k).getD (k + 14) 0) : Nat)) rfl (by kernel_rfl) ?_
          simp only [Act.put, List.setIfInBounds_toArray, List.set_cons_zero, List.set_cons_succ]
          refine wpL_pure (.int .u32 ((((wN m k).getD (k + 14) 0) / 1024 : Nat) : Int)) rfl (run_shr32n 10 1024 (by simp) _ _ _ _ _ _ rfl rfl rfl (by have := (getD_lt (wN_lt HM.out k) (k + 14)); omega)) ?_
          simp only [Act.put, List.setIfInBounds_toArray, List.set_cons_zero, List.set_cons_succ]
          refine wpL_pure (.int .u32 (sig1 ((wN m k).getD (k + 14) 0) : Nat)) rfl (run_biti (.inr (.inr rfl)) Tryd.underlying94 rfl rfl rfl _ (u32_xor_nat _ _ (xor_lt (rotr_lt _ 17 (getD_lt (wN_lt HM.out k) (k + 14)) (by omega)) (rotr_lt _ 19 (getD_lt (wN_lt HM.out k) (k + 14)) (by omega))) (by have := (getD_lt (wN_lt HM.out k) (k + 14)); omega))) ?_
          simp only [Act.put, List.setIfInBounds_toArray, List.set_cons_zero, List.set_cons_succ]
          refine wpL_pure (.int .u32 (sig1 ((wN m k).getD (k + 14) 0) : Nat)) rfl (by kernel_rfl) ?_
          simp only [Act.put, List.setIfInBounds_toArray, List.set_cons_zero, List.set_cons_succ]
          go_upto_region 12 with (fail)
          refine region_held (fun X => Blk X B 126 (wcells (wN m k)).toArray ∧ Below B w X) 15 (by kernel_rfl) (by kernel_rfl) (by exact ⟨A5.out.1, A5.out.2.drew⟩) ?_
          simp only [List.take_succ_cons, List.take_zero, List.drop_succ_cons, List.drop_zero]
          refine wpHeld_cons (.int .i64 ((k + 16 : Nat) : Int)) rfl (fun w h => heldRun_value (by kernel_rfl) h) ?_
          simp only [Act.put, List.setIfInBounds_toArray, List.set_cons_zero, List.set_cons_succ]
          refine wpHeld_cons (.int .i64 ((k + 16 : Nat) : Int)) rfl (fun w h => heldRun_value (by kernel_rfl) h) ?_
          simp only [Act.put, List.setIfInBounds_toArray, List.set_cons_zero, List.set_cons_succ]
          refine wpHeld_cons (.int .i64 ((k : Nat) : Int)) rfl (fun w h => heldRun_value (run_subi Tryd.underlying3 rfl rfl rfl _ (by have := HK.out; rw [wrap_in _ (by omega) (by omega)]; omega)) h) ?_
          simp only [Act.put, List.setIfInBounds_toArray, List.set_cons_zero, List.set_cons_succ]
          refine wpHeld_cons (.pointer (some ⟨B, k, none⟩)) rfl (fun w h => heldRun_value (run_idxa50 _ _ _ _ _ B 0 (k) rfl rfl (by first | rfl | exact congrArg _ (by omega)) (by have := HK.out; omega) (Nat.zero_add _)) h) ?_
          simp only [Act.put, List.setIfInBounds_toArray, List.set_cons_zero, List.set_cons_succ]
          refine wpHeld_cons (.int .u32 (((wN m k).getD k 0) : Nat)) rfl (fun w h => heldRun_value (run_load_one _ _ _ 94 _ _ rfl (B) (k) rfl ((by rw [h.1.cell]; exact wcells_get (by rw [wN_len]; omega))) (by kernel_rfl)) h) ?_
          simp only [Act.put, List.setIfInBounds_toArray, List.set_cons_zero, List.set_cons_succ]
          refine wpHeld_cons (.int .u32 (sig0 ((wN m k).getD (k + 1) 0) : Nat)) rfl (fun w h => heldRun_value (by kernel_rfl) h) ?_
          simp only [Act.put, List.setIfInBounds_toArray, List.set_cons_zero, List.set_cons_succ]
          refine wpHeld_cons (.int .u32 ((((wN m k).getD k 0) + sig0 ((wN m k).getD (k + 1) 0)) % 4294967296 : Nat)) rfl (fun w h => heldRun_value (run_addi Tryd.underlying94 rfl rfl rfl _ (by rw [IntKind.wrap_u32]; omega)) h) ?_
          simp only [Act.put, List.setIfInBounds_toArray, List.set_cons_zero, List.set_cons_succ]
          refine wpHeld_cons (.int .i64 ((k + 16 : Nat) : Int)) rfl (fun w h => heldRun_value (by kernel_rfl) h) ?_
          simp only [Act.put, List.setIfInBounds_toArray, List.set_cons_zero, List.set_cons_succ]
          refine wpHeld_cons (.int .i64 ((k + 9 : Nat) : Int)) rfl (fun w h => heldRun_value (run_subi Tryd.underlying3 rfl rfl rfl _ (by have := HK.out; rw [wrap_in _ (by omega) (by omega)]; omega)) h) ?_
          simp only [Act.put, List.setIfInBounds_toArray, List.set_cons_zero, List.set_cons_succ]
          refine wpHeld_cons (.pointer (some ⟨B, k + 9, none⟩)) rfl (fun w h => heldRun_value (run_idxa50 _ _ _ _ _ B 0 (k + 9) rfl rfl (by first | rfl | exact congrArg _ (by omega)) (by have := HK.out; omega) (Nat.zero_add _)) h) ?_
          simp only [Act.put, List.setIfInBounds_toArray, List.set_cons_zero, List.set_cons_succ]
          refine wpHeld_cons (.int .u32 (((wN m k).getD (k + 9) 0) : Nat)) rfl (fun w h => heldRun_value (run_load_one _ _ _ 94 _ _ rfl (B) (k + 9) rfl ((by rw [h.1.cell]; exact wcells_get (by rw [wN_len]; omega))) (by kernel_rfl)) h) ?_
          simp only [Act.put, List.setIfInBounds_toArray, List.set_cons_zero, List.set_cons_succ]
          refine wpHeld_cons (.int .u32 ((((wN m k).getD k 0) + sig0 ((wN m k).getD (k + 1) 0) + ((wN m k).getD (k + 9) 0)) % 4294967296 : Nat)) rfl (fun w h => heldRun_value (run_addi Tryd.underlying94 rfl rfl rfl _ (by rw [IntKind.wrap_u32]; omega)) h) ?_
          simp only [Act.put, List.setIfInBounds_toArray, List.set_cons_zero, List.set_cons_succ]
          refine wpHeld_cons (.int .u32 (sig1 ((wN m k).getD (k + 14) 0) : Nat)) rfl (fun w h => heldRun_value (by kernel_rfl) h) ?_
          simp only [Act.put, List.setIfInBounds_toArray, List.set_cons_zero, List.set_cons_succ]
          refine wpHeld_cons (.int .u32 ((((wN m k).getD k 0) + sig0 ((wN m k).getD (k + 1) 0) + ((wN m k).getD (k + 9) 0) + sig1 ((wN m k).getD (k + 14) 0)) % 4294967296 : Nat)) rfl (fun w h => heldRun_value (run_addi Tryd.underlying94 rfl rfl rfl _ (by rw [IntKind.wrap_u32]; omega)) h) ?_
          simp only [Act.put, List.setIfInBounds_toArray, List.set_cons_zero, List.set_cons_succ]
          refine wpHeld_cons (.pointer (some ⟨B, k + 16, none⟩)) rfl (fun w h => heldRun_value (run_idxa50 _ _ _ _ _ B 0 (k + 16) rfl rfl rfl (by have := HK.out; omega) (Nat.zero_add _)) h) ?_
          simp only [Act.put, List.setIfInBounds_toArray, List.set_cons_zero, List.set_cons_succ]
          refine wpHeld_nil ?_
          intro w6 h
          have A6 := Lib.hid h
          clear h A5
          refine wpL_store_one rfl rfl (B) (k + 16) rfl (.int .u32 ((((wN m k).getD k 0) + sig0 ((wN m k).getD (k + 1) 0) + ((wN m k).getD (k + 9) 0) + sig1 ((wN m k).getD (k + 14) 0)) % 4294967296 : Nat)) rfl rfl size48 (by rw [A6.out.1.cell]; exact wcells_some (by have := HK.out; omega) (by rw [wN_len]; have := HK.out; omega)) (A6.out.1.free _) ?_
          simp only [Act.put, List.setIfInBounds_toArray, List.set_cons_zero, List.set_cons_succ]
          have NX : Hid (k + 1 ≤ 48 ∧ Blk (w6.setCell ⟨B, k + 16, none⟩ (.int .u32 ((((wN m k).getD k 0) + sig0 ((wN m k).getD (k + 1) 0) + ((wN m k).getD (k + 9) 0) + sig1 ((wN m k).getD (k + 14) 0)) % 4294967296 : Nat))) B 126 (wcells (wN m (k + 1))).toArray ∧ Below B w (w6.setCell ⟨B, k + 16, none⟩ (.int .u32 ((((wN m k).getD k 0) + sig0 ((wN m k).getD (k + 1) 0) + ((wN m k).getD (k + 9) 0) + sig1 ((wN m k).getD (k + 14) 0)) % 4294967296 : Nat)))) := Lib.hid ⟨by have := HK.out; omega, wN_set HK.out A6.out.1, A6.out.2.setCell (p := ⟨B, k + 16, none⟩) (Nat.le_refl _) _⟩
          generalize w6.setCell ⟨B, k + 16, none⟩ (.int .u32 ((((wN m k).getD k 0) + sig0 ((wN m k).getD (k + 1) 0) + ((wN m k).getD (k + 9) 0) + sig1 ((wN m k).getD (k + 14) 0)) % 4294967296 : Nat)) = w7 at NX ⊢
          go_upto_region 8 with (fail)
          refine wp_region_lit ?_
          refine wpL_pure (.int .i64 ((k + 16 : Nat) : Int)) rfl (by kernel_rfl) ?_
          simp only [Act.put, List.setIfInBounds_toArray, List.set_cons_zero, List.set_cons_succ]
          refine wpL_pure (.int .i64 ((k + 1 + 16 : Nat) : Int)) rfl (run_addi Tryd.underlying3 rfl rfl rfl _ (by have := HK.out; rw [wrap_in _ (by omega) (by omega)]; omega)) ?_
          simp only [Act.put, List.setIfInBounds_toArray, List.set_cons_zero, List.set_cons_succ]
          refine wpL_pure (.int .i64 ((k + 1 + 16 : Nat) : Int)) rfl (by kernel_rfl) ?_
          simp only [Act.put, List.setIfInBounds_toArray, List.set_cons_zero, List.set_cons_succ]
          unfold wpList
          go_roundw
          case rel => first | exact ⟨_, rfl, NX⟩ | ((repeat apply Exists.intro); exact ⟨⟨_, rfl, NX⟩, rfl⟩)
          case measure => simp [intOf]; have := HK.out; omega
        · have HK := Lib.hid hlt
          have EK : Hid (k = 48) := Lib.hid (by have := RI.out.1; omega)
          clear hlt
          go_upto_region 7 with (fail)
          refine wp_region_lit ?_
          refine wpL_pure (.int .i64 ((k + 16 : Nat) : Int)) rfl (by kernel_rfl) ?_
          simp only [Act.put, List.setIfInBounds_toArray, List.set_cons_zero, List.set_cons_succ]
          refine wpL_pure (.bool false) rfl (run_lti Tryd.underlying3 rfl rfl rfl (by have := HK.out; rw [decide_eq_false_iff_not]; omega)) ?_
          simp only [Act.put, List.setIfInBounds_toArray, List.set_cons_zero, List.set_cons_succ]
          have A7 : Hid (Blk wr B 126 (wcells (wN m 48)).toArray ∧ Below B w wr) := Lib.hid ⟨by have h := RI.out.2.1; rw [EK.out] at h; exact h, RI.out.2.2⟩
          clear RI A4
          go_upto_region 13 with (fail)
          refine region_held_all (fun X => Blk X B 126 (wcells (wN m 48)).toArray ∧ Below B w X) (by kernel_rfl) (by kernel_rfl) (by exact ⟨A7.out.1, A7.out.2.drew⟩) ?_
          refine wpHeld_cons (.pointer (some ⟨b, 0, none⟩)) rfl (fun w h => heldRun_value (by kernel_rfl) h) ?_
          simp only [Act.put, List.setIfInBounds_toArray, List.set_cons_zero, List.set_cons_succ]
          refine wpHeld_cons (.pointer (some ⟨b, 0, none⟩)) rfl (fun w h => heldRun_value (by kernel_rfl) h) ?_
          simp only [Act.put, List.setIfInBounds_toArray, List.set_cons_zero, List.set_cons_succ]
          refine wpHeld_cons (.pointer (some ⟨b, 0, none⟩)) rfl (fun w h => heldRun_value (by kernel_rfl) h) ?_
          simp only [Act.put, List.setIfInBounds_toArray, List.set_cons_zero, List.set_cons_succ]
          refine wpHeld_cons (.pointer (some ⟨b, 0, none⟩)) rfl (fun w h => heldRun_value (by kernel_rfl) h) ?_
          simp only [Act.put, List.setIfInBounds_toArray, List.set_cons_zero, List.set_cons_succ]
          refine wpHeld_cons (.int .u32 (h0 : Nat)) rfl (fun w h => heldRun_value (run_load_one _ _ _ 94 _ _ rfl (b) (0) rfl (by rw [(BW.out _ h.2).1.cell]; rfl) (by kernel_rfl)) h) ?_
          simp only [Act.put, List.setIfInBounds_toArray, List.set_cons_zero, List.set_cons_succ]
          refine wpHeld_cons (.pointer (some ⟨b, 0, none⟩)) rfl (fun w h => heldRun_value (by kernel_rfl) h) ?_
          simp only [Act.put, List.setIfInBounds_toArray, List.set_cons_zero, List.set_cons_succ]
          refine wpHeld_cons (.pointer (some ⟨b, 0, none⟩)) rfl (fun w h => heldRun_value (by kernel_rfl) h) ?_
          simp only [Act.put, List.setIfInBounds_toArray, List.set_cons_zero, List.set_cons_succ]
          refine wpHeld_cons (.pointer (some ⟨b, 0, none⟩)) rfl (fun w h => heldRun_value (by kernel_rfl) h) ?_
          simp only [Act.put, List.setIfInBounds_toArray, List.set_cons_zero, List.set_cons_succ]
          refine wpHeld_cons (.pointer (some ⟨b, 1, none⟩)) rfl (fun w h => heldRun_value (by kernel_rfl) h) ?_
          simp only [Act.put, List.setIfInBounds_toArray, List.set_cons_zero, List.set_cons_succ]
          refine wpHeld_cons (.int .u32 (h1 : Nat)) rfl (fun w h => heldRun_value (run_load_one _ _ _ 94 _ _ rfl (b) (1) rfl (by rw [(BW.out _ h.2).1.cell]; rfl) (by kernel_rfl)) h) ?_
          simp only [Act.put, List.setIfInBounds_toArray, List.set_cons_zero, List.set_cons_succ]
          refine wpHeld_cons (.pointer (some ⟨b, 0, none⟩)) rfl (fun w h => heldRun_value (by kernel_rfl) h) ?_
          simp only [Act.put, List.setIfInBounds_toArray, List.set_cons_zero, List.set_cons_succ]
          refine wpHeld_cons (.pointer (some ⟨b, 0, none⟩)) rfl (fun w h => heldRun_value (by kernel_rfl) h) ?_
          simp only [Act.put, List.setIfInBounds_toArray, List.set_cons_zero, List.set_cons_succ]
          refine wpHeld_cons (.pointer (some ⟨b, 0, none⟩)) rfl (fun w h => heldRun_value (by kernel_rfl) h) ?_
          simp only [Act.put, List.setIfInBounds_toArray, List.set_cons_zero, List.set_cons_succ]
          refine wpHeld_cons (.pointer (some ⟨b, 2, none⟩)) rfl (fun w h => heldRun_value (by kernel_rfl) h) ?_
          simp only [Act.put, List.setIfInBounds_toArray, List.set_cons_zero, List.set_cons_succ]
          refine wpHeld_cons (.int .u32 (h2 : Nat)) rfl (fun w h => heldRun_value (run_load_one _ _ _ 94 _ _ rfl (b) (2) rfl (by rw [(BW.out _ h.2).1.cell]; rfl) (by kernel_rfl)) h) ?_
          simp only [Act.put, List.setIfInBounds_toArray, List.set_cons_zero, List.set_cons_succ]
          refine wpHeld_cons (.pointer (some ⟨b, 0, none⟩)) rfl (fun w h => heldRun_value (by kernel_rfl) h) ?_
          simp only [Act.put, List.setIfInBounds_toArray, List.set_cons_zero, List.set_cons_succ]
          refine wpHeld_cons (.pointer (some ⟨b, 0, none⟩)) rfl (fun w h => heldRun_value (by kernel_rfl) h) ?_
          simp only [Act.put, List.setIfInBounds_toArray, List.set_cons_zero, List.set_cons_succ]
          refine wpHeld_cons (.pointer (some ⟨b, 0, none⟩)) rfl (fun w h => heldRun_value (by kernel_rfl) h) ?_
          simp only [Act.put, List.setIfInBounds_toArray, List.set_cons_zero, List.set_cons_succ]
          refine wpHeld_cons (.pointer (some ⟨b, 4, none⟩)) rfl (fun w h => heldRun_value (by kernel_rfl) h) ?_
          simp only [Act.put, List.setIfInBounds_toArray, List.set_cons_zero, List.set_cons_succ]
          refine wpHeld_cons (.int .u32 (h4 : Nat)) rfl (fun w h => heldRun_value (run_load_one _ _ _ 94 _ _ rfl (b) (4) rfl (by rw [(BW.out _ h.2).1.cell]; rfl) (by kernel_rfl)) h) ?_
          simp only [Act.put, List.setIfInBounds_toArray, List.set_cons_zero, List.set_cons_succ]
          refine wpHeld_cons (.int .u32 (h0 : Nat)) rfl (fun w h => heldRun_value (by kernel_rfl) h) ?_
          simp only [Act.put, List.setIfInBounds_toArray, List.set_cons_zero, List.set_cons_succ]
          refine wpHeld_cons (.int .u32 (h1 : Nat)) rfl (fun w h => heldRun_value (by kernel_rfl) h) ?_
          simp only [Act.put, List.setIfInBounds_toArray, List.set_cons_zero, List.set_cons_succ]
          refine wpHeld_cons (.int .u32 (h2 : Nat)) rfl (fun w h => heldRun_value (by kernel_rfl) h) ?_
          simp only [Act.put, List.setIfInBounds_toArray, List.set_cons_zero, List.set_cons_succ]
          refine wpHeld_cons (.int .u32 (h4 : Nat)) rfl (fun w h => heldRun_value (by kernel_rfl) h) ?_
          simp only [Act.put, List.setIfInBounds_toArray, List.set_cons_zero, List.set_cons_succ]
          refine wpHeld_nil ?_
          intro w8 h
          have A8 := Lib.hid h
          clear h A7
          go_upto_region 14 with (fail)
          refine region_held_all (fun X => Blk X B 126 (wcells (wN m 48)).toArray ∧ Below B w X) (by kernel_rfl) (by kernel_rfl) (by exact ⟨A8.out.1, A8.out.2.drew⟩) ?_
          refine wpHeld_cons (.pointer (some ⟨b, 0, none⟩)) rfl (fun w h => heldRun_value (by kernel_rfl) h) ?_
          simp only [Act.put, List.setIfInBounds_toArray, List.set_cons_zero, List.set_cons_succ]
          refine wpHeld_cons (.pointer (some ⟨b, 0, none⟩)) rfl (fun w h => heldRun_value (by kernel_rfl) h) ?_
          simp only [Act.put, List.setIfInBounds_toArray, List.set_cons_zero, List.set_cons_succ]
          refine wpHeld_cons (.pointer (some ⟨b, 0, none⟩)) rfl (fun w h => heldRun_value (by kernel_rfl) h) ?_
          simp only [Act.put, List.setIfInBounds_toArray, List.set_cons_zero, List.set_cons_succ]
          refine wpHeld_cons (.pointer (some ⟨b, 3, none⟩)) rfl (fun w h => heldRun_value (by kernel_rfl) h) ?_
          simp only [Act.put, List.setIfInBounds_toArray, List.set_cons_zero, List.set_cons_succ]
          refine wpHeld_cons (.int .u32 (h3 : Nat)) rfl (fun w h => heldRun_value (run_load_one _ _ _ 94 _ _ rfl (b) (3) rfl (by rw [(BW.out _ h.2).1.cell]; rfl) (by kernel_rfl)) h) ?_
          simp only [Act.put, List.setIfInBounds_toArray, List.set_cons_zero, List.set_cons_succ]
          refine wpHeld_cons (.pointer (some ⟨b, 0, none⟩)) rfl (fun w h => heldRun_value (by kernel_rfl) h) ?_
          simp only [Act.put, List.setIfInBounds_toArray, List.set_cons_zero, List.set_cons_succ]
          refine wpHeld_cons (.pointer (some ⟨b, 0, none⟩)) rfl (fun w h => heldRun_value (by kernel_rfl) h) ?_
          simp only [Act.put, List.setIfInBounds_toArray, List.set_cons_zero, List.set_cons_succ]
          refine wpHeld_cons (.pointer (some ⟨b, 0, none⟩)) rfl (fun w h => heldRun_value (by kernel_rfl) h) ?_
          simp only [Act.put, List.setIfInBounds_toArray, List.set_cons_zero, List.set_cons_succ]
          refine wpHeld_cons (.pointer (some ⟨b, 5, none⟩)) rfl (fun w h => heldRun_value (by kernel_rfl) h) ?_
          simp only [Act.put, List.setIfInBounds_toArray, List.set_cons_zero, List.set_cons_succ]
          refine wpHeld_cons (.int .u32 (h5 : Nat)) rfl (fun w h => heldRun_value (run_load_one _ _ _ 94 _ _ rfl (b) (5) rfl (by rw [(BW.out _ h.2).1.cell]; rfl) (by kernel_rfl)) h) ?_
          simp only [Act.put, List.setIfInBounds_toArray, List.set_cons_zero, List.set_cons_succ]
          refine wpHeld_cons (.pointer (some ⟨b, 0, none⟩)) rfl (fun w h => heldRun_value (by kernel_rfl) h) ?_
          simp only [Act.put, List.setIfInBounds_toArray, List.set_cons_zero, List.set_cons_succ]
          refine wpHeld_cons (.pointer (some ⟨b, 0, none⟩)) rfl (fun w h => heldRun_value (by kernel_rfl) h) ?_
          simp only [Act.put, List.setIfInBounds_toArray, List.set_cons_zero, List.set_cons_succ]
          refine wpHeld_cons (.pointer (some ⟨b, 0, none⟩)) rfl (fun w h => heldRun_value (by kernel_rfl) h) ?_
          simp only [Act.put, List.setIfInBounds_toArray, List.set_cons_zero, List.set_cons_succ]
          refine wpHeld_cons (.pointer (some ⟨b, 6, none⟩)) rfl (fun w h => heldRun_value (by kernel_rfl) h) ?_
          simp only [Act.put, List.setIfInBounds_toArray, List.set_cons_zero, List.set_cons_succ]
          refine wpHeld_cons (.int .u32 (h6 : Nat)) rfl (fun w h => heldRun_value (run_load_one _ _ _ 94 _ _ rfl (b) (6) rfl (by rw [(BW.out _ h.2).1.cell]; rfl) (by kernel_rfl)) h) ?_
          simp only [Act.put, List.setIfInBounds_toArray, List.set_cons_zero, List.set_cons_succ]
          refine wpHeld_cons (.pointer (some ⟨b, 0, none⟩)) rfl (fun w h => heldRun_value (by kernel_rfl) h) ?_
          simp only [Act.put, List.setIfInBounds_toArray, List.set_cons_zero, List.set_cons_succ]
          refine wpHeld_cons (.pointer (some ⟨b, 0, none⟩)) rfl (fun w h => heldRun_value (by kernel_rfl) h) ?_
          simp only [Act.put, List.setIfInBounds_toArray, List.set_cons_zero, List.set_cons_succ]
          refine wpHeld_cons (.pointer (some ⟨b, 0, none⟩)) rfl (fun w h => heldRun_value (by kernel_rfl) h) ?_
          simp only [Act.put, List.setIfInBounds_toArray, List.set_cons_zero, List.set_cons_succ]
          refine wpHeld_cons (.pointer (some ⟨b, 7, none⟩)) rfl (fun w h => heldRun_value (by kernel_rfl) h) ?_
          simp only [Act.put, List.setIfInBounds_toArray, List.set_cons_zero, List.set_cons_succ]
          refine wpHeld_cons (.int .u32 (h7 : Nat)) rfl (fun w h => heldRun_value (run_load_one _ _ _ 94 _ _ rfl (b) (7) rfl (by rw [(BW.out _ h.2).1.cell]; rfl) (by kernel_rfl)) h) ?_
          simp only [Act.put, List.setIfInBounds_toArray, List.set_cons_zero, List.set_cons_succ]
          refine wpHeld_cons (.int .u32 (h3 : Nat)) rfl (fun w h => heldRun_value (by kernel_rfl) h) ?_
          simp only [Act.put, List.setIfInBounds_toArray, List.set_cons_zero, List.set_cons_succ]
          refine wpHeld_cons (.int .u32 (h5 : Nat)) rfl (fun w h => heldRun_value (by kernel_rfl) h) ?_
          simp only [Act.put, List.setIfInBounds_toArray, List.set_cons_zero, List.set_cons_succ]
          refine wpHeld_cons (.int .u32 (h6 : Nat)) rfl (fun w h => heldRun_value (by kernel_rfl) h) ?_
          simp only [Act.put, List.setIfInBounds_toArray, List.set_cons_zero, List.set_cons_succ]
          refine wpHeld_cons (.int .u32 (h7 : Nat)) rfl (fun w h => heldRun_value (by kernel_rfl) h) ?_
          simp only [Act.put, List.setIfInBounds_toArray, List.set_cons_zero, List.set_cons_succ]
          refine wpHeld_nil ?_
          intro w9 h
          have A9 := Lib.hid h
          clear h A8
          obtain ⟨s0, hs0⟩ : ∃ s : St, s = ⟨h0, h1, h2, h3, h4, h5, h6, h7⟩ := ⟨_, rfl⟩
          have OK0 : Hid s0.ok := Lib.hid (by rw [hs0]; exact HH.out)
          have HS0 := Lib.hid hs0
          go_wp2_with fail
          go_loopw [11, 12, 13, 14, 15, 16, 17, 18, 118] (fun s11 s12 s13 s14 s15 s16 s17 s18 s118 wr => ∃ k : Nat, s118 = .int .i64 (k : Int) ∧ s11 = .int .u32 ((rnds (wN m 48) s0 k).a : Nat) ∧ s12 = .int .u32 ((rnds (wN m 48) s0 k).b : Nat) ∧ s13 = .int .u32 ((rnds (wN m 48) s0 k).c : Nat) ∧ s14 = .int .u32 ((rnds (wN m 48) s0 k).e : Nat) ∧ s15 = .int .u32 ((rnds (wN m 48) s0 k).d : Nat) ∧ s16 = .int .u32 ((rnds (wN m 48) s0 k).f : Nat) ∧ s17 = .int .u32 ((rnds (wN m 48) s0 k).g : Nat) ∧ s18 = .int .u32 ((rnds (wN m 48) s0 k).h : Nat) ∧ Hid (k ≤ 64 ∧ Blk wr B 126 (wcells (wN m 48)).toArray ∧ Below B w wr)) (fun _ _ _ _ _ _ _ _ s118 _ => 64 - (intOf s118).toNat)
          case atStart => exact ⟨0, rfl, by rw [hs0]; rfl, by rw [hs0]; rfl, by rw [hs0]; rfl, by rw [hs0]; rfl, by rw [hs0]; rfl, by rw [hs0]; rfl, by rw [hs0]; rfl, by rw [hs0]; rfl, Lib.hid ⟨by omega, A9.out.1, A9.out.2⟩⟩
          case round =>
            obtain ⟨k, rfl, rfl, rfl, rfl, rfl, rfl, rfl, rfl, rfl, RI⟩ := hrel
            obtain ⟨s, hs⟩ : ∃ s, rnds (wN m 48) s0 k = s := ⟨_, rfl⟩
            have OK : Hid s.ok := Lib.hid (by rw [← hs]; exact rnds_ok OK0.out k)
            rw [hs]
            have HS := Lib.hid hs
            clear hs
            by_cases hlt : k < 64
            · have HK := Lib.hid hlt
              clear hlt
              go_upto_region 16 with (fail)
              refine wp_region_lit ?_
              refine wpL_pure (.bool true) rfl (run_lti Tryd.underlying3 rfl rfl rfl (by have := HK.out; rw [decide_eq_true_eq]; omega)) ?_
              simp only [Act.put, List.setIfInBounds_toArray, List.set_cons_zero, List.set_cons_succ]
              go_upto_region 17 with (fail)
              refine wp_region_lit ?_
              refine wpL_pure (.int .i64 (k : Int)) rfl (by kernel_rfl) ?_
              simp only [Act.put, List.setIfInBounds_toArray, List.set_cons_zero, List.set_cons_succ]
              refine wpL_pure (.int .i64 (k : Int)) rfl (by kernel_rfl) ?_
              simp only [Act.put, List.setIfInBounds_toArray, List.set_cons_zero, List.set_cons_succ]
              go_upto_region 18 with (fail)
              refine wp_region_lit ?_
              refine wpL_pure (.int .u32 (s.e : Nat)) rfl (by kernel_rfl) ?_
              simp only [Act.put, List.setIfInBounds_toArray, List.set_cons_zero, List.set_cons_succ]
              refine wpL_call 77 #[.int .u32 (s.e : Nat), .int IntKind.i64 (-6)] rfl (by kernel_rfl) (((rot6 s.e OK.out.2.2.2.2.1 wr)).mono fun e w5 ⟨he, hw⟩ => ⟨.int .u32 (rotr s.e 6 : Nat), he, ?_⟩)
              simp only [Act.put, List.setIfInBounds_toArray, List.set_cons_zero, List.set_cons_succ]
              subst hw
              refine wpL_pure (.int .u32 (s.e : Nat)) rfl (by kernel_rfl) ?_
              simp only [Act.put, List.setIfInBounds_toArray, List.set_cons_zero, List.set_cons_succ]
              refine wpL_call 77 #[.int .u32 (s.e : Nat), .int IntKind.i64 (-11)] rfl (by kernel_rfl) (((rot11 s.e OK.out.2.2.2.2.1 wr)).mono fun e w5 ⟨he, hw⟩ => ⟨.int .u32 (rotr s.e 11 : Nat), he, ?_⟩)
              simp only [Act.put, List.setIfInBounds_toArray, List.set_cons_zero, List.set_cons_succ]
              subst hw
              refine wpL_pure (.int .u32 ((rotr s.e 6 ^^^ rotr s.e 11 : Nat) : Int)) rfl (run_biti (.inr (.inr rfl)) Tryd.underlying94 rfl rfl rfl _ (u32_xor_nat _ _ (rotr_lt _ 6 OK.out.2.2.2.2.1 (by omega)) (rotr_lt _ 11 OK.out.2.2.2.2.1 (by omega)))) ?_
              simp only [Act.put, List.setIfInBounds_toArray, List.set_cons_zero, List.set_cons_succ]
              refine wpL_pure (.int .u32 (s.e : Nat)) rfl (by kernel_rfl) ?_
              simp only [Act.put, List.setIfInBounds_toArray, List.set_cons_zero, List.set_cons_succ]
              refine wpL_call 77 #[.int .u32 (s.e : Nat), .int IntKind.i64 (-25)] rfl (by kernel_rfl) (((rot25 s.e OK.out.2.2.2.2.1 wr)).mono fun e w5 ⟨he, hw⟩ => ⟨.int .u32 (rotr s.e 25 : Nat), he, ?_⟩)
              simp only [Act.put, List.setIfInBounds_toArray, List.set_cons_zero, List.set_cons_succ]
              subst hw
              refine wpL_pure (.int .u32 (Sig1 s.e : Nat)) rfl (run_biti (.inr (.inr rfl)) Tryd.underlying94 rfl rfl rfl _ (u32_xor_nat _ _ (xor_lt (rotr_lt _ 6 OK.out.2.2.2.2.1 (by omega)) (rotr_lt _ 11 OK.out.2.2.2.2.1 (by omega))) (rotr_lt _ 25 OK.out.2.2.2.2.1 (by omega)))) ?_
              simp only [Act.put, List.setIfInBounds_toArray, List.set_cons_zero, List.set_cons_succ]
              refine wpL_pure (.int .u32 (Sig1 s.e : Nat)) rfl (by kernel_rfl) ?_
              simp only [Act.put, List.setIfInBounds_toArray, List.set_cons_zero, List.set_cons_succ]
              go_upto_region 19 with (fail)
              refine region_held_all (fun X => Blk X B 126 (wcells (wN m 48)).toArray ∧ Below B w X) (by kernel_rfl) (by kernel_rfl) (by exact ⟨RI.out.2.1, RI.out.2.2.drew⟩) ?_
              refine wpHeld_cons (.int .u32 (s.h : Nat)) rfl (fun w h => heldRun_value (by kernel_rfl) h) ?_
              simp only [Act.put, List.setIfInBounds_toArray, List.set_cons_zero, List.set_cons_succ]
              refine wpHeld_cons (.int .u32 (Sig1 s.e : Nat)) rfl (fun w h => heldRun_value (by kernel_rfl) h) ?_
              simp only [Act.put, List.setIfInBounds_toArray, List.set_cons_zero, List.set_cons_succ]
              refine wpHeld_cons (.int .u32 ((s.h + Sig1 s.e) % 4294967296 : Nat)) rfl (fun w h => heldRun_value (run_addi Tryd.underlying94 rfl rfl rfl _ (by rw [IntKind.wrap_u32]; omega)) h) ?_
              simp only [Act.put, List.setIfInBounds_toArray, List.set_cons_zero, List.set_cons_succ]
              refine wpHeld_cons (.int .u32 (s.e : Nat)) rfl (fun w h => heldRun_value (by kernel_rfl) h) ?_
              simp only [Act.put, List.setIfInBounds_toArray, List.set_cons_zero, List.set_cons_succ]
              refine wpHeld_cons (.int .u32 (s.f : Nat)) rfl (fun w h => heldRun_value (by kernel_rfl) h) ?_
              simp only [Act.put, List.setIfInBounds_toArray, List.set_cons_zero, List.set_cons_succ]
              refine wpHeld_cons (.int .u32 ((s.e &&& s.f : Nat) : Int)) rfl (fun w h => heldRun_value (run_biti (.inr (.inl rfl)) Tryd.underlying94 rfl rfl rfl _ (u32_and_nat _ _ OK.out.2.2.2.2.1 OK.out.2.2.2.2.2.1)) h) ?_
              simp only [Act.put, List.setIfInBounds_toArray, List.set_cons_zero, List.set_cons_succ]
              refine wpHeld_cons (.int .u32 (s.e : Nat)) rfl (fun w h => heldRun_value (by kernel_rfl) h) ?_
              simp only [Act.put, List.setIfInBounds_toArray, List.set_cons_zero, List.set_cons_succ]
              refine wpHeld_cons (.int .u32 (4294967295 - s.e : Nat)) rfl (fun w h => heldRun_value (run_not32 _ _ _ _ s.e rfl rfl OK.out.2.2.2.2.1) h) ?_
              simp only [Act.put, List.setIfInBounds_toArray, List.set_cons_zero, List.set_cons_succ]
              refine wpHeld_cons (.int .u32 (s.g : Nat)) rfl (fun w h => heldRun_value (by kernel_rfl) h) ?_
              simp only [Act.put, List.setIfInBounds_toArray, List.set_cons_zero, List.set_cons_succ]
              refine wpHeld_cons (.int .u32 (((4294967295 - s.e) &&& s.g : Nat) : Int)) rfl (fun w h => heldRun_value (run_biti (.inr (.inl rfl)) Tryd.underlying94 rfl rfl rfl _ (u32_and_nat _ _ (by omega) OK.out.2.2.2.2.2.2.1)) h) ?_
              simp only [Act.put, List.setIfInBounds_toArray, List.set_cons_zero, List.set_cons_succ]
              refine wpHeld_cons (.int .u32 (chs s.e s.f s.g : Nat)) rfl (fun w h => heldRun_value (run_biti (.inr (.inr rfl)) Tryd.underlying94 rfl rfl rfl _ (u32_xor_nat _ _ (and_lt OK.out.2.2.2.2.1) (and_lt (by omega)))) h) ?_
              simp only [Act.put, List.setIfInBounds_toArray, List.set_cons_zero, List.set_cons_succ]
              refine wpHeld_cons (.int .u32 ((s.h + Sig1 s.e + chs s.e s.f s.g) % 4294967296 : Nat)) rfl (fun w h => heldRun_value (run_addi Tryd.underlying94 rfl rfl rfl _ (by rw [IntKind.wrap_u32]; omega)) h) ?_
              simp only [Act.put, List.setIfInBounds_toArray, List.set_cons_zero, List.set_cons_succ]
              refine wpHeld_cons (.int .i64 (k : Int)) rfl (fun w h => heldRun_value (by kernel_rfl) h) ?_
              simp only [Act.put, List.setIfInBounds_toArray, List.set_cons_zero, List.set_cons_succ]
              refine wpHeld_cons (.pointer (some ⟨3, k, none⟩)) rfl (fun w h => heldRun_value (run_idxa50 _ _ _ _ _ 3 0 k rfl rfl rfl HK.out (Nat.zero_add _)) h) ?_
              simp only [Act.put, List.setIfInBounds_toArray, List.set_cons_zero, List.set_cons_succ]
              refine wpHeld_cons (.int .u32 (kk.getD k 0 : Nat)) rfl (fun w h => heldRun_value (run_load_one _ _ _ 94 _ _ rfl (3) (k) rfl ((BW.out _ h.2).2 k HK.out) (by kernel_rfl)) h) ?_
              simp only [Act.put, List.setIfInBounds_toArray, List.set_cons_zero, List.set_cons_succ]
              refine wpHeld_cons (.int .u32 ((s.h + Sig1 s.e + chs s.e s.f s.g + kk.getD k 0) % 4294967296 : Nat)) rfl (fun w h => heldRun_value (run_addi Tryd.underlying94 rfl rfl rfl _ (by rw [IntKind.wrap_u32]; omega)) h) ?_
              simp only [Act.put, List.setIfInBounds_toArray, List.set_cons_zero, List.set_cons_succ]
              refine wpHeld_cons (.int .i64 (k : Int)) rfl (fun w h => heldRun_value (by kernel_rfl) h) ?_
              simp only [Act.put, List.setIfInBounds_toArray, List.set_cons_zero, List.set_cons_succ]
              refine wpHeld_cons (.pointer (some ⟨B, k, none⟩)) rfl (fun w h => heldRun_value (run_idxa50 _ _ _ _ _ B 0 k rfl rfl rfl HK.out (Nat.zero_add _)) h) ?_
              simp only [Act.put, List.setIfInBounds_toArray, List.set_cons_zero, List.set_cons_succ]
              refine wpHeld_cons (.int .u32 ((wN m 48).getD k 0 : Nat)) rfl (fun w h => heldRun_value (run_load_one _ _ _ 94 _ _ rfl (B) (k) rfl (by rw [h.1.cell]; exact wcells_get (by rw [wN_len]; have := HK.out; omega)) (by kernel_rfl)) h) ?_
              simp only [Act.put, List.setIfInBounds_toArray, List.set_cons_zero, List.set_cons_succ]
              refine wpHeld_cons (.int .u32 ((s.h + Sig1 s.e + chs s.e s.f s.g + kk.getD k 0 + (wN m 48).getD k 0) % 4294967296 : Nat)) rfl (fun w h => heldRun_value (run_addi Tryd.underlying94 rfl rfl rfl _ (by rw [IntKind.wrap_u32]; omega)) h) ?_
              simp only [Act.put, List.setIfInBounds_toArray, List.set_cons_zero, List.set_cons_succ]
              refine wpHeld_cons (.int .u32 ((s.h + Sig1 s.e + chs s.e s.f s.g + kk.getD k 0 + (wN m 48).getD k 0) % 4294967296 : Nat)) rfl (fun w h => heldRun_value (by kernel_rfl) h) ?_
              simp only [Act.put, List.setIfInBounds_toArray, List.set_cons_zero, List.set_cons_succ]
              refine wpHeld_nil ?_
              intro w10 h
              have A10 := Lib.hid h
              clear h RI
              go_upto_region 20 with (fail)
              refine wp_region_lit ?_
              refine wpL_pure (.int .u32 (s.a : Nat)) rfl (by kernel_rfl) ?_
              simp only [Act.put, List.setIfInBounds_toArray, List.set_cons_zero, List.set_cons_succ]
              refine wpL_call 77 #[.int .u32 (s.a : Nat), .int IntKind.i64 (-2)] rfl (by kernel_rfl) (((rot2 s.a OK.out.1 w10)).mono fun e w5 ⟨he, hw⟩ => ⟨.int .u32 (rotr s.a 2 : Nat), he, ?_⟩)
              simp only [Act.put, List.setIfInBounds_toArray, List.set_cons_zero, List.set_cons_succ]
              subst hw
              refine wpL_pure (.int .u32 (s.a : Nat)) rfl (by kernel_rfl) ?_
              simp only [Act.put, List.setIfInBounds_toArray, List.set_cons_zero, List.set_cons_succ]
              refine wpL_call 77 #[.int .u32 (s.a : Nat), .int IntKind.i64 (-13)] rfl (by kernel_rfl) (((rot13 s.a OK.out.1 w10)).mono fun e w5 ⟨he, hw⟩ => ⟨.int .u32 (rotr s.a 13 : Nat), he, ?_⟩)
              simp only [Act.put, List.setIfInBounds_toArray, List.set_cons_zero, List.set_cons_succ]
              subst hw
              refine wpL_pure (.int .u32 ((rotr s.a 2 ^^^ rotr s.a 13 : Nat) : Int)) rfl (run_biti (.inr (.inr rfl)) Tryd.underlying94 rfl rfl rfl _ (u32_xor_nat _ _ (rotr_lt _ 2 OK.out.1 (by omega)) (rotr_lt _ 13 OK.out.1 (by omega)))) ?_
              simp only [Act.put, List.setIfInBounds_toArray, List.set_cons_zero, List.set_cons_succ]
              refine wpL_pure (.int .u32 (s.a : Nat)) rfl (by kernel_rfl) ?_
              simp only [Act.put, List.setIfInBounds_toArray, List.set_cons_zero, List.set_cons_succ]
              refine wpL_call 77 #[.int .u32 (s.a : Nat), .int IntKind.i64 (-22)] rfl (by kernel_rfl) (((rot22 s.a OK.out.1 w10)).mono fun e w5 ⟨he, hw⟩ => ⟨.int .u32 (rotr s.a 22 : Nat), he, ?_⟩)
              simp only [Act.put, List.setIfInBounds_toArray, List.set_cons_zero, List.set_cons_succ]
              subst hw
              refine wpL_pure (.int .u32 (Sig0 s.a : Nat)) rfl (run_biti (.inr (.inr rfl)) Tryd.underlying94 rfl rfl rfl _ (u32_xor_nat _ _ (xor_lt (rotr_lt _ 2 OK.out.1 (by omega)) (rotr_lt _ 13 OK.out.1 (by omega))) (rotr_lt _ 22 OK.out.1 (by omega)))) ?_
              simp only [Act.put, List.setIfInBounds_toArray, List.set_cons_zero, List.set_cons_succ]
              refine wpL_pure (.int .u32 (Sig0 s.a : Nat)) rfl (by kernel_rfl) ?_
              simp only [Act.put, List.setIfInBounds_toArray, List.set_cons_zero, List.set_cons_succ]
              go_upto_region 21 with (fail)
              refine wp_region_lit ?_
              refine wpL_pure (.int .u32 (Sig0 s.a : Nat)) rfl (by kernel_rfl) ?_
              simp only [Act.put, List.setIfInBounds_toArray, List.set_cons_zero, List.set_cons_succ]
              refine wpL_pure (.int .u32 (s.a : Nat)) rfl (by kernel_rfl) ?_
              simp only [Act.put, List.setIfInBounds_toArray, List.set_cons_zero, List.set_cons_succ]
              refine wpL_pure (.int .u32 (s.b : Nat)) rfl (by kernel_rfl) ?_
              simp only [Act.put, List.setIfInBounds_toArray, List.set_cons_zero, List.set_cons_succ]
              refine wpL_pure (.int .u32 ((s.a &&& s.b : Nat) : Int)) rfl (run_biti (.inr (.inl rfl)) Tryd.underlying94 rfl rfl rfl _ (u32_and_nat _ _ OK.out.1 OK.out.2.1)) ?_
              simp only [Act.put, List.setIfInBounds_toArray, List.set_cons_zero, List.set_cons_succ]
              refine wpL_pure (.int .u32 (s.a : Nat)) rfl (by kernel_rfl) ?_
              simp only [Act.put, List.setIfInBounds_toArray, List.set_cons_zero, List.set_cons_succ]
              refine wpL_pure (.int .u32 (s.c : Nat)) rfl (by kernel_rfl) ?_
              simp only [Act.put, List.setIfInBounds_toArray, List.set_cons_zero, List.set_cons_succ]
              refine wpL_pure (.int .u32 ((s.a &&& s.c : Nat) : Int)) rfl (run_biti (.inr (.inl rfl)) Tryd.underlying94 rfl rfl rfl _ (u32_and_nat _ _ OK.out.1 OK.out.2.2.1)) ?_
              simp only [Act.put, List.setIfInBounds_toArray, List.set_cons_zero, List.set_cons_succ]
              refine wpL_pure (.int .u32 (((s.a &&& s.b) ^^^ (s.a &&& s.c) : Nat) : Int)) rfl (run_biti (.inr (.inr rfl)) Tryd.underlying94 rfl rfl rfl _ (u32_xor_nat _ _ (and_lt OK.out.1) (and_lt OK.out.1))) ?_
              simp only [Act.put, List.setIfInBounds_toArray, List.set_cons_zero, List.set_cons_succ]
              refine wpL_pure (.int .u32 (s.b : Nat)) rfl (by kernel_rfl) ?_
              simp only [Act.put, List.setIfInBounds_toArray, List.set_cons_zero, List.set_cons_succ]
              refine wpL_pure (.int .u32 (s.c : Nat)) rfl (by kernel_rfl) ?_
              simp only [Act.put, List.setIfInBounds_toArray, List.set_cons_zero, List.set_cons_succ]
              refine wpL_pure (.int .u32 ((s.b &&& s.c : Nat) : Int)) rfl (run_biti (.inr (.inl rfl)) Tryd.underlying94 rfl rfl rfl _ (u32_and_nat _ _ OK.out.2.1 OK.out.2.2.1)) ?_
              simp only [Act.put, List.setIfInBounds_toArray, List.set_cons_zero, List.set_cons_succ]
              refine wpL_pure (.int .u32 (mjs s.a s.b s.c : Nat)) rfl (run_biti (.inr (.inr rfl)) Tryd.underlying94 rfl rfl rfl _ (u32_xor_nat _ _ (xor_lt (and_lt OK.out.1) (and_lt OK.out.1)) (and_lt OK.out.2.1))) ?_
              simp only [Act.put, List.setIfInBounds_toArray, List.set_cons_zero, List.set_cons_succ]
              refine wpL_pure (.int .u32 (t2s s : Nat)) rfl (run_addi Tryd.underlying94 rfl rfl rfl _ (by rw [IntKind.wrap_u32]; unfold t2s; omega)) ?_
              simp only [Act.put, List.setIfInBounds_toArray, List.set_cons_zero, List.set_cons_succ]
              refine wpL_pure (.int .u32 (t2s s : Nat)) rfl (by kernel_rfl) ?_
              simp only [Act.put, List.setIfInBounds_toArray, List.set_cons_zero, List.set_cons_succ]
              go_upto_region 22 with (fail)
              refine wp_region_lit ?_
              refine wpL_pure (.int .u32 (s.g : Nat)) rfl (by kernel_rfl) ?_
              simp only [Act.put, List.setIfInBounds_toArray, List.set_cons_zero, List.set_cons_succ]
              refine wpL_pure (.int .u32 (s.f : Nat)) rfl (by kernel_rfl) ?_
              simp only [Act.put, List.setIfInBounds_toArray, List.set_cons_zero, List.set_cons_succ]
              refine wpL_pure (.int .u32 (s.e : Nat)) rfl (by kernel_rfl) ?_
              simp only [Act.put, List.setIfInBounds_toArray, List.set_cons_zero, List.set_cons_succ]
              refine wpL_pure (.int .u32 (s.d : Nat)) rfl (by kernel_rfl) ?_
              simp only [Act.put, List.setIfInBounds_toArray, List.set_cons_zero, List.set_cons_succ]
              refine wpL_pure (.int .u32 (t1s s (kk.getD k 0) ((wN m 48).getD k 0) : Nat)) rfl (by kernel_rfl) ?_
              simp only [Act.put, List.setIfInBounds_toArray, List.set_cons_zero, List.set_cons_succ]
              refine wpL_pure (.int .u32 ((s.d + t1s s (kk.getD k 0) ((wN m 48).getD k 0)) % 4294967296 : Nat)) rfl (run_addi Tryd.underlying94 rfl rfl rfl _ (by rw [IntKind.wrap_u32]; omega)) ?_
              simp only [Act.put, List.setIfInBounds_toArray, List.set_cons_zero, List.set_cons_succ]
              refine wpL_pure (.int .u32 (s.c : Nat)) rfl (by kernel_rfl) ?_
              simp only [Act.put, List.setIfInBounds_toArray, List.set_cons_zero, List.set_cons_succ]
              refine wpL_pure (.int .u32 (s.b : Nat)) rfl (by kernel_rfl) ?_
              simp only [Act.put, List.setIfInBounds_toArray, List.set_cons_zero, List.set_cons_succ]
              refine wpL_pure (.int .u32 (s.a : Nat)) rfl (by kernel_rfl) ?_
              simp only [Act.put, List.setIfInBounds_toArray, List.set_cons_zero, List.set_cons_succ]
              refine wpL_pure (.int .u32 (t1s s (kk.getD k 0) ((wN m 48).getD k 0) : Nat)) rfl (by kernel_rfl) ?_
              simp only [Act.put, List.setIfInBounds_toArray, List.set_cons_zero, List.set_cons_succ]
              refine wpL_pure (.int .u32 (t2s s : Nat)) rfl (by kernel_rfl) ?_
              simp only [Act.put, List.setIfInBounds_toArray, List.set_cons_zero, List.set_cons_succ]
              refine wpL_pure (.int .u32 ((t1s s (kk.getD k 0) ((wN m 48).getD k 0) + t2s s) % 4294967296 : Nat)) rfl (run_addi Tryd.underlying94 rfl rfl rfl _ (by rw [IntKind.wrap_u32]; omega)) ?_
              simp only [Act.put, List.setIfInBounds_toArray, List.set_cons_zero, List.set_cons_succ]
              refine wpL_pure (.int .u32 (s.g : Nat)) rfl (by kernel_rfl) ?_
              simp only [Act.put, List.setIfInBounds_toArray, List.set_cons_zero, List.set_cons_succ]
              refine wpL_pure (.int .u32 (s.f : Nat)) rfl (by kernel_rfl) ?_
              simp only [Act.put, List.setIfInBounds_toArray, List.set_cons_zero, List.set_cons_succ]
              refine wpL_pure (.int .u32 (s.e : Nat)) rfl (by kernel_rfl) ?_
              simp only [Act.put, List.setIfInBounds_toArray, List.set_cons_zero, List.set_cons_succ]
              refine wpL_pure (.int .u32 ((s.d + t1s s (kk.getD k 0) ((wN m 48).getD k 0)) % 4294967296 : Nat)) rfl (by kernel_rfl) ?_
              simp only [Act.put, List.setIfInBounds_toArray, List.set_cons_zero, List.set_cons_succ]
              refine wpL_pure (.int .u32 (s.c : Nat)) rfl (by kernel_rfl) ?_
              simp only [Act.put, List.setIfInBounds_toArray, List.set_cons_zero, List.set_cons_succ]
              refine wpL_pure (.int .u32 (s.b : Nat)) rfl (by kernel_rfl) ?_
              simp only [Act.put, List.setIfInBounds_toArray, List.set_cons_zero, List.set_cons_succ]
              refine wpL_pure (.int .u32 (s.a : Nat)) rfl (by kernel_rfl) ?_
              simp only [Act.put, List.setIfInBounds_toArray, List.set_cons_zero, List.set_cons_succ]
              refine wpL_pure (.int .u32 ((t1s s (kk.getD k 0) ((wN m 48).getD k 0) + t2s s) % 4294967296 : Nat)) rfl (by kernel_rfl) ?_
              simp only [Act.put, List.setIfInBounds_toArray, List.set_cons_zero, List.set_cons_succ]
              go_upto_region 23 with (fail)
              refine wp_region_lit ?_
              refine wpL_pure (.int .i64 ((k + 1 : Nat) : Int)) rfl (run_addi Tryd.underlying3 rfl rfl rfl _ (by have := HK.out; rw [wrap_in _ (by omega) (by omega)]; omega)) ?_
              simp only [Act.put, List.setIfInBounds_toArray, List.set_cons_zero, List.set_cons_succ]
              refine wpL_pure (.int .i64 ((k + 1 : Nat) : Int)) rfl (by kernel_rfl) ?_
              simp only [Act.put, List.setIfInBounds_toArray, List.set_cons_zero, List.set_cons_succ]
              have NX : Hid (k + 1 ≤ 64 ∧ Blk w10 B 126 (wcells (wN m 48)).toArray ∧ Below B w w10) := Lib.hid ⟨by have := HK.out; omega, A10.out⟩
              have NS : rnds (wN m 48) s0 (k + 1) = rnd s (kk.getD k 0) ((wN m 48).getD k 0) := by show rnd (rnds (wN m 48) s0 k) _ _ = _; rw [HS.out]
              unfold wpList
              go_roundw
              case rel => first | exact ⟨k + 1, rfl, by rw [NS]; rfl, by rw [NS]; rfl, by rw [NS]; rfl, by rw [NS]; rfl, by rw [NS]; rfl, by rw [NS]; rfl, by rw [NS]; rfl, by rw [NS]; rfl, NX⟩ | ((repeat apply Exists.intro); exact ⟨⟨k + 1, rfl, by rw [NS]; rfl, by rw [NS]; rfl, by rw [NS]; rfl, by rw [NS]; rfl, by rw [NS]; rfl, by rw [NS]; rfl, by rw [NS]; rfl, by rw [NS]; rfl, NX⟩, rfl⟩)
              case measure => simp [intOf]; have := HK.out; omega
            · have HK := Lib.hid hlt
              have EK : Hid (k = 64) := Lib.hid (by have := RI.out.1; omega)
              clear hlt
              go_upto_region 16 with (fail)
              refine wp_region_lit ?_
              refine wpL_pure (.bool false) rfl (run_lti Tryd.underlying3 rfl rfl rfl (by have := HK.out; rw [decide_eq_false_iff_not]; omega)) ?_
              simp only [Act.put, List.setIfInBounds_toArray, List.set_cons_zero, List.set_cons_succ]
              have C0 : Hid (Blk wr b 97 (([.int .u32 (h0 : Nat), .int .u32 (h1 : Nat), .int .u32 (h2 : Nat), .int .u32 (h3 : Nat), .int .u32 (h4 : Nat), .int .u32 (h5 : Nat), .int .u32 (h6 : Nat), .int .u32 (h7 : Nat)] : List Value) ++ tl).toArray ∧ w.grownBy wr (some b)) := Lib.hid ⟨(BW.out wr RI.out.2.2).1, GB.out wr RI.out.2.2⟩
              have GST := Lib.hid EK.out
              clear RI A9
              go_upto_region 24 with (fail)
              refine region_held (fun X => Blk X b 97 (([.int .u32 (h0 : Nat), .int .u32 (h1 : Nat), .int .u32 (h2 : Nat), .int .u32 (h3 : Nat), .int .u32 (h4 : Nat), .int .u32 (h5 : Nat), .int .u32 (h6 : Nat), .int .u32 (h7 : Nat)] : List Value) ++ tl).toArray ∧ w.grownBy X (some b)) 10 (by kernel_rfl) (by kernel_rfl) (by exact ⟨C0.out.1, gb_drew C0.out.2⟩) ?_
              simp only [List.take_succ_cons, List.take_zero, List.drop_succ_cons, List.drop_zero]
              refine wpHeld_cons (.pointer (some ⟨b, 0, none⟩)) rfl (fun w h => heldRun_value (by kernel_rfl) h) ?_
              simp only [Act.put, List.setIfInBounds_toArray, List.set_cons_zero, List.set_cons_succ]
              refine wpHeld_cons (.pointer (some ⟨b, 0, none⟩)) rfl (fun w h => heldRun_value (by kernel_rfl) h) ?_
              simp only [Act.put, List.setIfInBounds_toArray, List.set_cons_zero, List.set_cons_succ]
              refine wpHeld_cons (.pointer (some ⟨b, 0, none⟩)) rfl (fun w h => heldRun_value (by kernel_rfl) h) ?_
              simp only [Act.put, List.setIfInBounds_toArray, List.set_cons_zero, List.set_cons_succ]
              refine wpHeld_cons (.pointer (some ⟨b, 0, none⟩)) rfl (fun w h => heldRun_value (by kernel_rfl) h) ?_
              simp only [Act.put, List.setIfInBounds_toArray, List.set_cons_zero, List.set_cons_succ]
              refine wpHeld_cons (.int .u32 (h0 : Nat)) rfl (fun w h => heldRun_value (run_load_one _ _ _ 94 _ _ rfl (b) (0) rfl (by rw [h.1.cell]; rfl) (by kernel_rfl)) h) ?_
              simp only [Act.put, List.setIfInBounds_toArray, List.set_cons_zero, List.set_cons_succ]
              refine wpHeld_cons (.int .u32 (s.a : Nat)) rfl (fun w h => heldRun_value (by kernel_rfl) h) ?_
              simp only [Act.put, List.setIfInBounds_toArray, List.set_cons_zero, List.set_cons_succ]
              refine wpHeld_cons (.int .u32 ((h0 + s.a) % 4294967296 : Nat)) rfl (fun w h => heldRun_value (run_addi Tryd.underlying94 rfl rfl rfl _ (by rw [IntKind.wrap_u32]; omega)) h) ?_
              simp only [Act.put, List.setIfInBounds_toArray, List.set_cons_zero, List.set_cons_succ]
              refine wpHeld_cons (.pointer (some ⟨b, 0, none⟩)) rfl (fun w h => heldRun_value (by kernel_rfl) h) ?_
              simp only [Act.put, List.setIfInBounds_toArray, List.set_cons_zero, List.set_cons_succ]
              refine wpHeld_cons (.pointer (some ⟨b, 0, none⟩)) rfl (fun w h => heldRun_value (by kernel_rfl) h) ?_
              simp only [Act.put, List.setIfInBounds_toArray, List.set_cons_zero, List.set_cons_succ]
              refine wpHeld_cons (.pointer (some ⟨b, 0, none⟩)) rfl (fun w h => heldRun_value (by kernel_rfl) h) ?_
              simp only [Act.put, List.setIfInBounds_toArray, List.set_cons_zero, List.set_cons_succ]
              refine wpHeld_nil ?_
              intro x0 h
              have D0 := Lib.hid h
              clear h C0
              refine wpL_store_one rfl rfl (b) (0) rfl (.int .u32 ((h0 + s.a) % 4294967296 : Nat)) rfl rfl size48 (by rw [D0.out.1.cell]; rfl) (D0.out.1.free _) ?_
              simp only [Act.put, List.setIfInBounds_toArray, List.set_cons_zero, List.set_cons_succ]
              obtain ⟨y0, hy0⟩ : ∃ V, V = x0.setCell ⟨b, 0, none⟩ (.int .u32 ((h0 + s.a) % 4294967296 : Nat)) := ⟨_, rfl⟩
              rw [← hy0]
              have C1 : Hid (Blk y0 b 97 (([.int .u32 ((h0 + s.a) % 4294967296 : Nat), .int .u32 (h1 : Nat), .int .u32 (h2 : Nat), .int .u32 (h3 : Nat), .int .u32 (h4 : Nat), .int .u32 (h5 : Nat), .int .u32 (h6 : Nat), .int .u32 (h7 : Nat)] : List Value) ++ tl).toArray ∧ w.grownBy y0 (some b)) := Lib.hid (by rw [hy0]; exact ⟨Blk.set (l := (([.int .u32 (h0 : Nat), .int .u32 (h1 : Nat), .int .u32 (h2 : Nat), .int .u32 (h3 : Nat), .int .u32 (h4 : Nat), .int .u32 (h5 : Nat), .int .u32 (h6 : Nat), .int .u32 (h7 : Nat)] : List Value) ++ tl)) D0.out.1 0 _, gb_set D0.out.2 _ _⟩)
              clear hy0 D0
              go_upto_region 25 with (fail)
              refine region_held (fun X => Blk X b 97 (([.int .u32 ((h0 + s.a) % 4294967296 : Nat), .int .u32 (h1 : Nat), .int .u32 (h2 : Nat), .int .u32 (h3 : Nat), .int .u32 (h4 : Nat), .int .u32 (h5 : Nat), .int .u32 (h6 : Nat), .int .u32 (h7 : Nat)] : List Value) ++ tl).toArray ∧ w.grownBy X (some b)) 10 (by kernel_rfl) (by kernel_rfl) (by exact ⟨C1.out.1, gb_drew C1.out.2⟩) ?_
              simp only [List.take_succ_cons, List.take_zero, List.drop_succ_cons, List.drop_zero]
              refine wpHeld_cons (.pointer (some ⟨b, 0, none⟩)) rfl (fun w h => heldRun_value (by kernel_rfl) h) ?_
              simp only [Act.put, List.setIfInBounds_toArray, List.set_cons_zero, List.set_cons_succ]
              refine wpHeld_cons (.pointer (some ⟨b, 0, none⟩)) rfl (fun w h => heldRun_value (by kernel_rfl) h) ?_
              simp only [Act.put, List.setIfInBounds_toArray, List.set_cons_zero, List.set_cons_succ]
              refine wpHeld_cons (.pointer (some ⟨b, 0, none⟩)) rfl (fun w h => heldRun_value (by kernel_rfl) h) ?_
              simp only [Act.put, List.setIfInBounds_toArray, List.set_cons_zero, List.set_cons_succ]
              refine wpHeld_cons (.pointer (some ⟨b, 1, none⟩)) rfl (fun w h => heldRun_value (by kernel_rfl) h) ?_
              simp only [Act.put, List.setIfInBounds_toArray, List.set_cons_zero, List.set_cons_succ]
              refine wpHeld_cons (.int .u32 (h1 : Nat)) rfl (fun w h => heldRun_value (run_load_one _ _ _ 94 _ _ rfl (b) (1) rfl (by rw [h.1.cell]; rfl) (by kernel_rfl)) h) ?_
              simp only [Act.put, List.setIfInBounds_toArray, List.set_cons_zero, List.set_cons_succ]
              refine wpHeld_cons (.int .u32 (s.b : Nat)) rfl (fun w h => heldRun_value (by kernel_rfl) h) ?_
              simp only [Act.put, List.setIfInBounds_toArray, List.set_cons_zero, List.set_cons_succ]
              refine wpHeld_cons (.int .u32 ((h1 + s.b) % 4294967296 : Nat)) rfl (fun w h => heldRun_value (run_addi Tryd.underlying94 rfl rfl rfl _ (by rw [IntKind.wrap_u32]; omega)) h) ?_
              simp only [Act.put, List.setIfInBounds_toArray, List.set_cons_zero, List.set_cons_succ]
              refine wpHeld_cons (.pointer (some ⟨b, 0, none⟩)) rfl (fun w h => heldRun_value (by kernel_rfl) h) ?_
              simp only [Act.put, List.setIfInBounds_toArray, List.set_cons_zero, List.set_cons_succ]
              refine wpHeld_cons (.pointer (some ⟨b, 0, none⟩)) rfl (fun w h => heldRun_value (by kernel_rfl) h) ?_
              simp only [Act.put, List.setIfInBounds_toArray, List.set_cons_zero, List.set_cons_succ]
              refine wpHeld_cons (.pointer (some ⟨b, 1, none⟩)) rfl (fun w h => heldRun_value (by kernel_rfl) h) ?_
              simp only [Act.put, List.setIfInBounds_toArray, List.set_cons_zero, List.set_cons_succ]
              refine wpHeld_nil ?_
              intro x1 h
              have D1 := Lib.hid h
              clear h C1
              refine wpL_store_one rfl rfl (b) (1) rfl (.int .u32 ((h1 + s.b) % 4294967296 : Nat)) rfl rfl size48 (by rw [D1.out.1.cell]; rfl) (D1.out.1.free _) ?_
              simp only [Act.put, List.setIfInBounds_toArray, List.set_cons_zero, List.set_cons_succ]
              obtain ⟨y1, hy1⟩ : ∃ V, V = x1.setCell ⟨b, 1, none⟩ (.int .u32 ((h1 + s.b) % 4294967296 : Nat)) := ⟨_, rfl⟩
              rw [← hy1]
              have C2 : Hid (Blk y1 b 97 (([.int .u32 ((h0 + s.a) % 4294967296 : Nat), .int .u32 ((h1 + s.b) % 4294967296 : Nat), .int .u32 (h2 : Nat), .int .u32 (h3 : Nat), .int .u32 (h4 : Nat), .int .u32 (h5 : Nat), .int .u32 (h6 : Nat), .int .u32 (h7 : Nat)] : List Value) ++ tl).toArray ∧ w.grownBy y1 (some b)) := Lib.hid (by rw [hy1]; exact ⟨Blk.set (l := (([.int .u32 ((h0 + s.a) % 4294967296 : Nat), .int .u32 (h1 : Nat), .int .u32 (h2 : Nat), .int .u32 (h3 : Nat), .int .u32 (h4 : Nat), .int .u32 (h5 : Nat), .int .u32 (h6 : Nat), .int .u32 (h7 : Nat)] : List Value) ++ tl)) D1.out.1 1 _, gb_set D1.out.2 _ _⟩)
              clear hy1 D1
              go_upto_region 26 with (fail)
              refine region_held (fun X => Blk X b 97 (([.int .u32 ((h0 + s.a) % 4294967296 : Nat), .int .u32 ((h1 + s.b) % 4294967296 : Nat), .int .u32 (h2 : Nat), .int .u32 (h3 : Nat), .int .u32 (h4 : Nat), .int .u32 (h5 : Nat), .int .u32 (h6 : Nat), .int .u32 (h7 : Nat)] : List Value) ++ tl).toArray ∧ w.grownBy X (some b)) 10 (by kernel_rfl) (by kernel_rfl) (by exact ⟨C2.out.1, gb_drew C2.out.2⟩) ?_
              simp only [List.take_succ_cons, List.take_zero, List.drop_succ_cons, List.drop_zero]
              refine wpHeld_cons (.pointer (some ⟨b, 0, none⟩)) rfl (fun w h => heldRun_value (by kernel_rfl) h) ?_
              simp only [Act.put, List.setIfInBounds_toArray, List.set_cons_zero, List.set_cons_succ]
              refine wpHeld_cons (.pointer (some ⟨b, 0, none⟩)) rfl (fun w h => heldRun_value (by kernel_rfl) h) ?_
              simp only [Act.put, List.setIfInBounds_toArray, List.set_cons_zero, List.set_cons_succ]
              refine wpHeld_cons (.pointer (some ⟨b, 0, none⟩)) rfl (fun w h => heldRun_value (by kernel_rfl) h) ?_
              simp only [Act.put, List.setIfInBounds_toArray, List.set_cons_zero, List.set_cons_succ]
              refine wpHeld_cons (.pointer (some ⟨b, 2, none⟩)) rfl (fun w h => heldRun_value (by kernel_rfl) h) ?_
              simp only [Act.put, List.setIfInBounds_toArray, List.set_cons_zero, List.set_cons_succ]
              refine wpHeld_cons (.int .u32 (h2 : Nat)) rfl (fun w h => heldRun_value (run_load_one _ _ _ 94 _ _ rfl (b) (2) rfl (by rw [h.1.cell]; rfl) (by kernel_rfl)) h) ?_
              simp only [Act.put, List.setIfInBounds_toArray, List.set_cons_zero, List.set_cons_succ]
              refine wpHeld_cons (.int .u32 (s.c : Nat)) rfl (fun w h => heldRun_value (by kernel_rfl) h) ?_
              simp only [Act.put, List.setIfInBounds_toArray, List.set_cons_zero, List.set_cons_succ]
              refine wpHeld_cons (.int .u32 ((h2 + s.c) % 4294967296 : Nat)) rfl (fun w h => heldRun_value (run_addi Tryd.underlying94 rfl rfl rfl _ (by rw [IntKind.wrap_u32]; omega)) h) ?_
              simp only [Act.put, List.setIfInBounds_toArray, List.set_cons_zero, List.set_cons_succ]
              refine wpHeld_cons (.pointer (some ⟨b, 0, none⟩)) rfl (fun w h => heldRun_value (by kernel_rfl) h) ?_
              simp only [Act.put, List.setIfInBounds_toArray, List.set_cons_zero, List.set_cons_succ]
              refine wpHeld_cons (.pointer (some ⟨b, 0, none⟩)) rfl (fun w h => heldRun_value (by kernel_rfl) h) ?_
              simp only [Act.put, List.setIfInBounds_toArray, List.set_cons_zero, List.set_cons_succ]
              refine wpHeld_cons (.pointer (some ⟨b, 2, none⟩)) rfl (fun w h => heldRun_value (by kernel_rfl) h) ?_
              simp only [Act.put, List.setIfInBounds_toArray, List.set_cons_zero, List.set_cons_succ]
              refine wpHeld_nil ?_
              intro x2 h
              have D2 := Lib.hid h
              clear h C2
              refine wpL_store_one rfl rfl (b) (2) rfl (.int .u32 ((h2 + s.c) % 4294967296 : Nat)) rfl rfl size48 (by rw [D2.out.1.cell]; rfl) (D2.out.1.free _) ?_
              simp only [Act.put, List.setIfInBounds_toArray, List.set_cons_zero, List.set_cons_succ]
              obtain ⟨y2, hy2⟩ : ∃ V, V = x2.setCell ⟨b, 2, none⟩ (.int .u32 ((h2 + s.c) % 4294967296 : Nat)) := ⟨_, rfl⟩
              rw [← hy2]
              have C3 : Hid (Blk y2 b 97 (([.int .u32 ((h0 + s.a) % 4294967296 : Nat), .int .u32 ((h1 + s.b) % 4294967296 : Nat), .int .u32 ((h2 + s.c) % 4294967296 : Nat), .int .u32 (h3 : Nat), .int .u32 (h4 : Nat), .int .u32 (h5 : Nat), .int .u32 (h6 : Nat), .int .u32 (h7 : Nat)] : List Value) ++ tl).toArray ∧ w.grownBy y2 (some b)) := Lib.hid (by rw [hy2]; exact ⟨Blk.set (l := (([.int .u32 ((h0 + s.a) % 4294967296 : Nat), .int .u32 ((h1 + s.b) % 4294967296 : Nat), .int .u32 (h2 : Nat), .int .u32 (h3 : Nat), .int .u32 (h4 : Nat), .int .u32 (h5 : Nat), .int .u32 (h6 : Nat), .int .u32 (h7 : Nat)] : List Value) ++ tl)) D2.out.1 2 _, gb_set D2.out.2 _ _⟩)
              clear hy2 D2
              go_upto_region 27 with (fail)
              refine region_held (fun X => Blk X b 97 (([.int .u32 ((h0 + s.a) % 4294967296 : Nat), .int .u32 ((h1 + s.b) % 4294967296 : Nat), .int .u32 ((h2 + s.c) % 4294967296 : Nat), .int .u32 (h3 : Nat), .int .u32 (h4 : Nat), .int .u32 (h5 : Nat), .int .u32 (h6 : Nat), .int .u32 (h7 : Nat)] : List Value) ++ tl).toArray ∧ w.grownBy X (some b)) 10 (by kernel_rfl) (by kernel_rfl) (by exact ⟨C3.out.1, gb_drew C3.out.2⟩) ?_
              simp only [List.take_succ_cons, List.take_zero, List.drop_succ_cons, List.drop_zero]
              refine wpHeld_cons (.pointer (some ⟨b, 0, none⟩)) rfl (fun w h => heldRun_value (by kernel_rfl) h) ?_
              simp only [Act.put, List.setIfInBounds_toArray, List.set_cons_zero, List.set_cons_succ]
              refine wpHeld_cons (.pointer (some ⟨b, 0, none⟩)) rfl (fun w h => heldRun_value (by kernel_rfl) h) ?_
              simp only [Act.put, List.setIfInBounds_toArray, List.set_cons_zero, List.set_cons_succ]
              refine wpHeld_cons (.pointer (some ⟨b, 0, none⟩)) rfl (fun w h => heldRun_value (by kernel_rfl) h) ?_
              simp only [Act.put, List.setIfInBounds_toArray, List.set_cons_zero, List.set_cons_succ]
              refine wpHeld_cons (.pointer (some ⟨b, 3, none⟩)) rfl (fun w h => heldRun_value (by kernel_rfl) h) ?_
              simp only [Act.put, List.setIfInBounds_toArray, List.set_cons_zero, List.set_cons_succ]
              refine wpHeld_cons (.int .u32 (h3 : Nat)) rfl (fun w h => heldRun_value (run_load_one _ _ _ 94 _ _ rfl (b) (3) rfl (by rw [h.1.cell]; rfl) (by kernel_rfl)) h) ?_
              simp only [Act.put, List.setIfInBounds_toArray, List.set_cons_zero, List.set_cons_succ]
              refine wpHeld_cons (.int .u32 (s.d : Nat)) rfl (fun w h => heldRun_value (by kernel_rfl) h) ?_
              simp only [Act.put, List.setIfInBounds_toArray, List.set_cons_zero, List.set_cons_succ]
              refine wpHeld_cons (.int .u32 ((h3 + s.d) % 4294967296 : Nat)) rfl (fun w h => heldRun_value (run_addi Tryd.underlying94 rfl rfl rfl _ (by rw [IntKind.wrap_u32]; omega)) h) ?_
              simp only [Act.put, List.setIfInBounds_toArray, List.set_cons_zero, List.set_cons_succ]
              refine wpHeld_cons (.pointer (some ⟨b, 0, none⟩)) rfl (fun w h => heldRun_value (by kernel_rfl) h) ?_
              simp only [Act.put, List.setIfInBounds_toArray, List.set_cons_zero, List.set_cons_succ]
              refine wpHeld_cons (.pointer (some ⟨b, 0, none⟩)) rfl (fun w h => heldRun_value (by kernel_rfl) h) ?_
              simp only [Act.put, List.setIfInBounds_toArray, List.set_cons_zero, List.set_cons_succ]
              refine wpHeld_cons (.pointer (some ⟨b, 3, none⟩)) rfl (fun w h => heldRun_value (by kernel_rfl) h) ?_
              simp only [Act.put, List.setIfInBounds_toArray, List.set_cons_zero, List.set_cons_succ]
              refine wpHeld_nil ?_
              intro x3 h
              have D3 := Lib.hid h
              clear h C3
              refine wpL_store_one rfl rfl (b) (3) rfl (.int .u32 ((h3 + s.d) % 4294967296 : Nat)) rfl rfl size48 (by rw [D3.out.1.cell]; rfl) (D3.out.1.free _) ?_
              simp only [Act.put, List.setIfInBounds_toArray, List.set_cons_zero, List.set_cons_succ]
              obtain ⟨y3, hy3⟩ : ∃ V, V = x3.setCell ⟨b, 3, none⟩ (.int .u32 ((h3 + s.d) % 4294967296 : Nat)) := ⟨_, rfl⟩
              rw [← hy3]
              have C4 : Hid (Blk y3 b 97 (([.int .u32 ((h0 + s.a) % 4294967296 : Nat), .int .u32 ((h1 + s.b) % 4294967296 : Nat), .int .u32 ((h2 + s.c) % 4294967296 : Nat), .int .u32 ((h3 + s.d) % 4294967296 : Nat), .int .u32 (h4 : Nat), .int .u32 (h5 : Nat), .int .u32 (h6 : Nat), .int .u32 (h7 : Nat)] : List Value) ++ tl).toArray ∧ w.grownBy y3 (some b)) := Lib.hid (by rw [hy3]; exact ⟨Blk.set (l := (([.int .u32 ((h0 + s.a) % 4294967296 : Nat), .int .u32 ((h1 + s.b) % 4294967296 : Nat), .int .u32 ((h2 + s.c) % 4294967296 : Nat), .int .u32 (h3 : Nat), .int .u32 (h4 : Nat), .int .u32 (h5 : Nat), .int .u32 (h6 : Nat), .int .u32 (h7 : Nat)] : List Value) ++ tl)) D3.out.1 3 _, gb_set D3.out.2 _ _⟩)
              clear hy3 D3
              go_upto_region 28 with (fail)
              refine region_held (fun X => Blk X b 97 (([.int .u32 ((h0 + s.a) % 4294967296 : Nat), .int .u32 ((h1 + s.b) % 4294967296 : Nat), .int .u32 ((h2 + s.c) % 4294967296 : Nat), .int .u32 ((h3 + s.d) % 4294967296 : Nat), .int .u32 (h4 : Nat), .int .u32 (h5 : Nat), .int .u32 (h6 : Nat), .int .u32 (h7 : Nat)] : List Value) ++ tl).toArray ∧ w.grownBy X (some b)) 10 (by kernel_rfl) (by kernel_rfl) (by exact ⟨C4.out.1, gb_drew C4.out.2⟩) ?_
              simp only [List.take_succ_cons, List.take_zero, List.drop_succ_cons, List.drop_zero]
              refine wpHeld_cons (.pointer (some ⟨b, 0, none⟩)) rfl (fun w h => heldRun_value (by kernel_rfl) h) ?_
              simp only [Act.put, List.setIfInBounds_toArray, List.set_cons_zero, List.set_cons_succ]
              refine wpHeld_cons (.pointer (some ⟨b, 0, none⟩)) rfl (fun w h => heldRun_value (by kernel_rfl) h) ?_
              simp only [Act.put, List.setIfInBounds_toArray, List.set_cons_zero, List.set_cons_succ]
              refine wpHeld_cons (.pointer (some ⟨b, 0, none⟩)) rfl (fun w h => heldRun_value (by kernel_rfl) h) ?_
              simp only [Act.put, List.setIfInBounds_toArray, List.set_cons_zero, List.set_cons_succ]
              refine wpHeld_cons (.pointer (some ⟨b, 4, none⟩)) rfl (fun w h => heldRun_value (by kernel_rfl) h) ?_
              simp only [Act.put, List.setIfInBounds_toArray, List.set_cons_zero, List.set_cons_succ]
              refine wpHeld_cons (.int .u32 (h4 : Nat)) rfl (fun w h => heldRun_value (run_load_one _ _ _ 94 _ _ rfl (b) (4) rfl (by rw [h.1.cell]; rfl) (by kernel_rfl)) h) ?_
              simp only [Act.put, List.setIfInBounds_toArray, List.set_cons_zero, List.set_cons_succ]
              refine wpHeld_cons (.int .u32 (s.e : Nat)) rfl (fun w h => heldRun_value (by kernel_rfl) h) ?_
              simp only [Act.put, List.setIfInBounds_toArray, List.set_cons_zero, List.set_cons_succ]
              refine wpHeld_cons (.int .u32 ((h4 + s.e) % 4294967296 : Nat)) rfl (fun w h => heldRun_value (run_addi Tryd.underlying94 rfl rfl rfl _ (by rw [IntKind.wrap_u32]; omega)) h) ?_
              simp only [Act.put, List.setIfInBounds_toArray, List.set_cons_zero, List.set_cons_succ]
              refine wpHeld_cons (.pointer (some ⟨b, 0, none⟩)) rfl (fun w h => heldRun_value (by kernel_rfl) h) ?_
              simp only [Act.put, List.setIfInBounds_toArray, List.set_cons_zero, List.set_cons_succ]
              refine wpHeld_cons (.pointer (some ⟨b, 0, none⟩)) rfl (fun w h => heldRun_value (by kernel_rfl) h) ?_
              simp only [Act.put, List.setIfInBounds_toArray, List.set_cons_zero, List.set_cons_succ]
              refine wpHeld_cons (.pointer (some ⟨b, 4, none⟩)) rfl (fun w h => heldRun_value (by kernel_rfl) h) ?_
              simp only [Act.put, List.setIfInBounds_toArray, List.set_cons_zero, List.set_cons_succ]
              refine wpHeld_nil ?_
              intro x4 h
              have D4 := Lib.hid h
              clear h C4
              refine wpL_store_one rfl rfl (b) (4) rfl (.int .u32 ((h4 + s.e) % 4294967296 : Nat)) rfl rfl size48 (by rw [D4.out.1.cell]; rfl) (D4.out.1.free _) ?_
              simp only [Act.put, List.setIfInBounds_toArray, List.set_cons_zero, List.set_cons_succ]
              obtain ⟨y4, hy4⟩ : ∃ V, V = x4.setCell ⟨b, 4, none⟩ (.int .u32 ((h4 + s.e) % 4294967296 : Nat)) := ⟨_, rfl⟩
              rw [← hy4]
              have C5 : Hid (Blk y4 b 97 (([.int .u32 ((h0 + s.a) % 4294967296 : Nat), .int .u32 ((h1 + s.b) % 4294967296 : Nat), .int .u32 ((h2 + s.c) % 4294967296 : Nat), .int .u32 ((h3 + s.d) % 4294967296 : Nat), .int .u32 ((h4 + s.e) % 4294967296 : Nat), .int .u32 (h5 : Nat), .int .u32 (h6 : Nat), .int .u32 (h7 : Nat)] : List Value) ++ tl).toArray ∧ w.grownBy y4 (some b)) := Lib.hid (by rw [hy4]; exact ⟨Blk.set (l := (([.int .u32 ((h0 + s.a) % 4294967296 : Nat), .int .u32 ((h1 + s.b) % 4294967296 : Nat), .int .u32 ((h2 + s.c) % 4294967296 : Nat), .int .u32 ((h3 + s.d) % 4294967296 : Nat), .int .u32 (h4 : Nat), .int .u32 (h5 : Nat), .int .u32 (h6 : Nat), .int .u32 (h7 : Nat)] : List Value) ++ tl)) D4.out.1 4 _, gb_set D4.out.2 _ _⟩)
              clear hy4 D4
              go_upto_region 29 with (fail)
              refine region_held (fun X => Blk X b 97 (([.int .u32 ((h0 + s.a) % 4294967296 : Nat), .int .u32 ((h1 + s.b) % 4294967296 : Nat), .int .u32 ((h2 + s.c) % 4294967296 : Nat), .int .u32 ((h3 + s.d) % 4294967296 : Nat), .int .u32 ((h4 + s.e) % 4294967296 : Nat), .int .u32 (h5 : Nat), .int .u32 (h6 : Nat), .int .u32 (h7 : Nat)] : List Value) ++ tl).toArray ∧ w.grownBy X (some b)) 10 (by kernel_rfl) (by kernel_rfl) (by exact ⟨C5.out.1, gb_drew C5.out.2⟩) ?_
              simp only [List.take_succ_cons, List.take_zero, List.drop_succ_cons, List.drop_zero]
              refine wpHeld_cons (.pointer (some ⟨b, 0, none⟩)) rfl (fun w h => heldRun_value (by kernel_rfl) h) ?_
              simp only [Act.put, List.setIfInBounds_toArray, List.set_cons_zero, List.set_cons_succ]
              refine wpHeld_cons (.pointer (some ⟨b, 0, none⟩)) rfl (fun w h => heldRun_value (by kernel_rfl) h) ?_
              simp only [Act.put, List.setIfInBounds_toArray, List.set_cons_zero, List.set_cons_succ]
              refine wpHeld_cons (.pointer (some ⟨b, 0, none⟩)) rfl (fun w h => heldRun_value (by kernel_rfl) h) ?_
              simp only [Act.put, List.setIfInBounds_toArray, List.set_cons_zero, List.set_cons_succ]
              refine wpHeld_cons (.pointer (some ⟨b, 5, none⟩)) rfl (fun w h => heldRun_value (by kernel_rfl) h) ?_
              simp only [Act.put, List.setIfInBounds_toArray, List.set_cons_zero, List.set_cons_succ]
              refine wpHeld_cons (.int .u32 (h5 : Nat)) rfl (fun w h => heldRun_value (run_load_one _ _ _ 94 _ _ rfl (b) (5) rfl (by rw [h.1.cell]; rfl) (by kernel_rfl)) h) ?_
              simp only [Act.put, List.setIfInBounds_toArray, List.set_cons_zero, List.set_cons_succ]
              refine wpHeld_cons (.int .u32 (s.f : Nat)) rfl (fun w h => heldRun_value (by kernel_rfl) h) ?_
              simp only [Act.put, List.setIfInBounds_toArray, List.set_cons_zero, List.set_cons_succ]
              refine wpHeld_cons (.int .u32 ((h5 + s.f) % 4294967296 : Nat)) rfl (fun w h => heldRun_value (run_addi Tryd.underlying94 rfl rfl rfl _ (by rw [IntKind.wrap_u32]; omega)) h) ?_
              simp only [Act.put, List.setIfInBounds_toArray, List.set_cons_zero, List.set_cons_succ]
              refine wpHeld_cons (.pointer (some ⟨b, 0, none⟩)) rfl (fun w h => heldRun_value (by kernel_rfl) h) ?_
              simp only [Act.put, List.setIfInBounds_toArray, List.set_cons_zero, List.set_cons_succ]
              refine wpHeld_cons (.pointer (some ⟨b, 0, none⟩)) rfl (fun w h => heldRun_value (by kernel_rfl) h) ?_
              simp only [Act.put, List.setIfInBounds_toArray, List.set_cons_zero, List.set_cons_succ]
              refine wpHeld_cons (.pointer (some ⟨b, 5, none⟩)) rfl (fun w h => heldRun_value (by kernel_rfl) h) ?_
              simp only [Act.put, List.setIfInBounds_toArray, List.set_cons_zero, List.set_cons_succ]
              refine wpHeld_nil ?_
              intro x5 h
              have D5 := Lib.hid h
              clear h C5
              refine wpL_store_one rfl rfl (b) (5) rfl (.int .u32 ((h5 + s.f) % 4294967296 : Nat)) rfl rfl size48 (by rw [D5.out.1.cell]; rfl) (D5.out.1.free _) ?_
              simp only [Act.put, List.setIfInBounds_toArray, List.set_cons_zero, List.set_cons_succ]
              obtain ⟨y5, hy5⟩ : ∃ V, V = x5.setCell ⟨b, 5, none⟩ (.int .u32 ((h5 + s.f) % 4294967296 : Nat)) := ⟨_, rfl⟩
              rw [← hy5]
              have C6 : Hid (Blk y5 b 97 (([.int .u32 ((h0 + s.a) % 4294967296 : Nat), .int .u32 ((h1 + s.b) % 4294967296 : Nat), .int .u32 ((h2 + s.c) % 4294967296 : Nat), .int .u32 ((h3 + s.d) % 4294967296 : Nat), .int .u32 ((h4 + s.e) % 4294967296 : Nat), .int .u32 ((h5 + s.f) % 4294967296 : Nat), .int .u32 (h6 : Nat), .int .u32 (h7 : Nat)] : List Value) ++ tl).toArray ∧ w.grownBy y5 (some b)) := Lib.hid (by rw [hy5]; exact ⟨Blk.set (l := (([.int .u32 ((h0 + s.a) % 4294967296 : Nat), .int .u32 ((h1 + s.b) % 4294967296 : Nat), .int .u32 ((h2 + s.c) % 4294967296 : Nat), .int .u32 ((h3 + s.d) % 4294967296 : Nat), .int .u32 ((h4 + s.e) % 4294967296 : Nat), .int .u32 (h5 : Nat), .int .u32 (h6 : Nat), .int .u32 (h7 : Nat)] : List Value) ++ tl)) D5.out.1 5 _, gb_set D5.out.2 _ _⟩)
              clear hy5 D5
              go_upto_region 30 with (fail)
              refine region_held (fun X => Blk X b 97 (([.int .u32 ((h0 + s.a) % 4294967296 : Nat), .int .u32 ((h1 + s.b) % 4294967296 : Nat), .int .u32 ((h2 + s.c) % 4294967296 : Nat), .int .u32 ((h3 + s.d) % 4294967296 : Nat), .int .u32 ((h4 + s.e) % 4294967296 : Nat), .int .u32 ((h5 + s.f) % 4294967296 : Nat), .int .u32 (h6 : Nat), .int .u32 (h7 : Nat)] : List Value) ++ tl).toArray ∧ w.grownBy X (some b)) 10 (by kernel_rfl) (by kernel_rfl) (by exact ⟨C6.out.1, gb_drew C6.out.2⟩) ?_
              simp only [List.take_succ_cons, List.take_zero, List.drop_succ_cons, List.drop_zero]
              refine wpHeld_cons (.pointer (some ⟨b, 0, none⟩)) rfl (fun w h => heldRun_value (by kernel_rfl) h) ?_
              simp only [Act.put, List.setIfInBounds_toArray, List.set_cons_zero, List.set_cons_succ]
              refine wpHeld_cons (.pointer (some ⟨b, 0, none⟩)) rfl (fun w h => heldRun_value (by kernel_rfl) h) ?_
              simp only [Act.put, List.setIfInBounds_toArray, List.set_cons_zero, List.set_cons_succ]
              refine wpHeld_cons (.pointer (some ⟨b, 0, none⟩)) rfl (fun w h => heldRun_value (by kernel_rfl) h) ?_
              simp only [Act.put, List.setIfInBounds_toArray, List.set_cons_zero, List.set_cons_succ]
              refine wpHeld_cons (.pointer (some ⟨b, 6, none⟩)) rfl (fun w h => heldRun_value (by kernel_rfl) h) ?_
              simp only [Act.put, List.setIfInBounds_toArray, List.set_cons_zero, List.set_cons_succ]
              refine wpHeld_cons (.int .u32 (h6 : Nat)) rfl (fun w h => heldRun_value (run_load_one _ _ _ 94 _ _ rfl (b) (6) rfl (by rw [h.1.cell]; rfl) (by kernel_rfl)) h) ?_
              simp only [Act.put, List.setIfInBounds_toArray, List.set_cons_zero, List.set_cons_succ]
              refine wpHeld_cons (.int .u32 (s.g : Nat)) rfl (fun w h => heldRun_value (by kernel_rfl) h) ?_
              simp only [Act.put, List.setIfInBounds_toArray, List.set_cons_zero, List.set_cons_succ]
              refine wpHeld_cons (.int .u32 ((h6 + s.g) % 4294967296 : Nat)) rfl (fun w h => heldRun_value (run_addi Tryd.underlying94 rfl rfl rfl _ (by rw [IntKind.wrap_u32]; omega)) h) ?_
              simp only [Act.put, List.setIfInBounds_toArray, List.set_cons_zero, List.set_cons_succ]
              refine wpHeld_cons (.pointer (some ⟨b, 0, none⟩)) rfl (fun w h => heldRun_value (by kernel_rfl) h) ?_
              simp only [Act.put, List.setIfInBounds_toArray, List.set_cons_zero, List.set_cons_succ]
              refine wpHeld_cons (.pointer (some ⟨b, 0, none⟩)) rfl (fun w h => heldRun_value (by kernel_rfl) h) ?_
              simp only [Act.put, List.setIfInBounds_toArray, List.set_cons_zero, List.set_cons_succ]
              refine wpHeld_cons (.pointer (some ⟨b, 6, none⟩)) rfl (fun w h => heldRun_value (by kernel_rfl) h) ?_
              simp only [Act.put, List.setIfInBounds_toArray, List.set_cons_zero, List.set_cons_succ]
              refine wpHeld_nil ?_
              intro x6 h
              have D6 := Lib.hid h
              clear h C6
              refine wpL_store_one rfl rfl (b) (6) rfl (.int .u32 ((h6 + s.g) % 4294967296 : Nat)) rfl rfl size48 (by rw [D6.out.1.cell]; rfl) (D6.out.1.free _) ?_
              simp only [Act.put, List.setIfInBounds_toArray, List.set_cons_zero, List.set_cons_succ]
              obtain ⟨y6, hy6⟩ : ∃ V, V = x6.setCell ⟨b, 6, none⟩ (.int .u32 ((h6 + s.g) % 4294967296 : Nat)) := ⟨_, rfl⟩
              rw [← hy6]
              have C7 : Hid (Blk y6 b 97 (([.int .u32 ((h0 + s.a) % 4294967296 : Nat), .int .u32 ((h1 + s.b) % 4294967296 : Nat), .int .u32 ((h2 + s.c) % 4294967296 : Nat), .int .u32 ((h3 + s.d) % 4294967296 : Nat), .int .u32 ((h4 + s.e) % 4294967296 : Nat), .int .u32 ((h5 + s.f) % 4294967296 : Nat), .int .u32 ((h6 + s.g) % 4294967296 : Nat), .int .u32 (h7 : Nat)] : List Value) ++ tl).toArray ∧ w.grownBy y6 (some b)) := Lib.hid (by rw [hy6]; exact ⟨Blk.set (l := (([.int .u32 ((h0 + s.a) % 4294967296 : Nat), .int .u32 ((h1 + s.b) % 4294967296 : Nat), .int .u32 ((h2 + s.c) % 4294967296 : Nat), .int .u32 ((h3 + s.d) % 4294967296 : Nat), .int .u32 ((h4 + s.e) % 4294967296 : Nat), .int .u32 ((h5 + s.f) % 4294967296 : Nat), .int .u32 (h6 : Nat), .int .u32 (h7 : Nat)] : List Value) ++ tl)) D6.out.1 6 _, gb_set D6.out.2 _ _⟩)
              clear hy6 D6
              go_upto_region 31 with (fail)
              refine region_held (fun X => Blk X b 97 (([.int .u32 ((h0 + s.a) % 4294967296 : Nat), .int .u32 ((h1 + s.b) % 4294967296 : Nat), .int .u32 ((h2 + s.c) % 4294967296 : Nat), .int .u32 ((h3 + s.d) % 4294967296 : Nat), .int .u32 ((h4 + s.e) % 4294967296 : Nat), .int .u32 ((h5 + s.f) % 4294967296 : Nat), .int .u32 ((h6 + s.g) % 4294967296 : Nat), .int .u32 (h7 : Nat)] : List Value) ++ tl).toArray ∧ w.grownBy X (some b)) 10 (by kernel_rfl) (by kernel_rfl) (by exact ⟨C7.out.1, gb_drew C7.out.2⟩) ?_
              simp only [List.take_succ_cons, List.take_zero, List.drop_succ_cons, List.drop_zero]
              refine wpHeld_cons (.pointer (some ⟨b, 0, none⟩)) rfl (fun w h => heldRun_value (by kernel_rfl) h) ?_
              simp only [Act.put, List.setIfInBounds_toArray, List.set_cons_zero, List.set_cons_succ]
              refine wpHeld_cons (.pointer (some ⟨b, 0, none⟩)) rfl (fun w h => heldRun_value (by kernel_rfl) h) ?_
              simp only [Act.put, List.setIfInBounds_toArray, List.set_cons_zero, List.set_cons_succ]
              refine wpHeld_cons (.pointer (some ⟨b, 0, none⟩)) rfl (fun w h => heldRun_value (by kernel_rfl) h) ?_
              simp only [Act.put, List.setIfInBounds_toArray, List.set_cons_zero, List.set_cons_succ]
              refine wpHeld_cons (.pointer (some ⟨b, 7, none⟩)) rfl (fun w h => heldRun_value (by kernel_rfl) h) ?_
              simp only [Act.put, List.setIfInBounds_toArray, List.set_cons_zero, List.set_cons_succ]
              refine wpHeld_cons (.int .u32 (h7 : Nat)) rfl (fun w h => heldRun_value (run_load_one _ _ _ 94 _ _ rfl (b) (7) rfl (by rw [h.1.cell]; rfl) (by kernel_rfl)) h) ?_
              simp only [Act.put, List.setIfInBounds_toArray, List.set_cons_zero, List.set_cons_succ]
              refine wpHeld_cons (.int .u32 (s.h : Nat)) rfl (fun w h => heldRun_value (by kernel_rfl) h) ?_
              simp only [Act.put, List.setIfInBounds_toArray, List.set_cons_zero, List.set_cons_succ]
              refine wpHeld_cons (.int .u32 ((h7 + s.h) % 4294967296 : Nat)) rfl (fun w h => heldRun_value (run_addi Tryd.underlying94 rfl rfl rfl _ (by rw [IntKind.wrap_u32]; omega)) h) ?_
              simp only [Act.put, List.setIfInBounds_toArray, List.set_cons_zero, List.set_cons_succ]
              refine wpHeld_cons (.pointer (some ⟨b, 0, none⟩)) rfl (fun w h => heldRun_value (by kernel_rfl) h) ?_
              simp only [Act.put, List.setIfInBounds_toArray, List.set_cons_zero, List.set_cons_succ]
              refine wpHeld_cons (.pointer (some ⟨b, 0, none⟩)) rfl (fun w h => heldRun_value (by kernel_rfl) h) ?_
              simp only [Act.put, List.setIfInBounds_toArray, List.set_cons_zero, List.set_cons_succ]
              refine wpHeld_cons (.pointer (some ⟨b, 7, none⟩)) rfl (fun w h => heldRun_value (by kernel_rfl) h) ?_
              simp only [Act.put, List.setIfInBounds_toArray, List.set_cons_zero, List.set_cons_succ]
              refine wpHeld_nil ?_
              intro x7 h
              have D7 := Lib.hid h
              clear h C7
              refine wpL_store_one rfl rfl (b) (7) rfl (.int .u32 ((h7 + s.h) % 4294967296 : Nat)) rfl rfl size48 (by rw [D7.out.1.cell]; rfl) (D7.out.1.free _) ?_
              simp only [Act.put, List.setIfInBounds_toArray, List.set_cons_zero, List.set_cons_succ]
              obtain ⟨y7, hy7⟩ : ∃ V, V = x7.setCell ⟨b, 7, none⟩ (.int .u32 ((h7 + s.h) % 4294967296 : Nat)) := ⟨_, rfl⟩
              rw [← hy7]
              have C8 : Hid (Blk y7 b 97 (([.int .u32 ((h0 + s.a) % 4294967296 : Nat), .int .u32 ((h1 + s.b) % 4294967296 : Nat), .int .u32 ((h2 + s.c) % 4294967296 : Nat), .int .u32 ((h3 + s.d) % 4294967296 : Nat), .int .u32 ((h4 + s.e) % 4294967296 : Nat), .int .u32 ((h5 + s.f) % 4294967296 : Nat), .int .u32 ((h6 + s.g) % 4294967296 : Nat), .int .u32 ((h7 + s.h) % 4294967296 : Nat)] : List Value) ++ tl).toArray ∧ w.grownBy y7 (some b)) := Lib.hid (by rw [hy7]; exact ⟨Blk.set (l := (([.int .u32 ((h0 + s.a) % 4294967296 : Nat), .int .u32 ((h1 + s.b) % 4294967296 : Nat), .int .u32 ((h2 + s.c) % 4294967296 : Nat), .int .u32 ((h3 + s.d) % 4294967296 : Nat), .int .u32 ((h4 + s.e) % 4294967296 : Nat), .int .u32 ((h5 + s.f) % 4294967296 : Nat), .int .u32 ((h6 + s.g) % 4294967296 : Nat), .int .u32 (h7 : Nat)] : List Value) ++ tl)) D7.out.1 7 _, gb_set D7.out.2 _ _⟩)
              clear hy7 D7
              go_wp2_with fail
              go_end0
              refine ⟨rfl, ?_, C8.out.2⟩
              have h := C8.out.1
              have e1 : rnds (wN m 48) ⟨h0, h1, h2, h3, h4, h5, h6, h7⟩ 64 = s := by rw [← HS0.out, ← GST.out]; exact HS.out
              unfold cmp
              rw [show St.of [h0, h1, h2, h3, h4, h5, h6, h7] = ⟨h0, h1, h2, h3, h4, h5, h6, h7⟩ from rfl, e1]
              exact h
end Go.Proofs.YtfhjfpgfbeiacaaDoor.Ha
