/- 'SealOpens'. -/
import Derived.Test.YtlbfohpkngmaoaaDoorSO
import Derived.Test.YtlbfohpkngmaoaaDoorS5
import Derived.Test.YtlbfohpkngmaoaaDoorChHeld
namespace Go.Proofs.YtlbfohpkngmaoaaDoor.Ch.B.Se
open Go Go.RowKit
theorem own_pos {w : World} {base : Nat} {a : Option Addr} {n c : Nat} {xs : List Int} (h : Own w base (.slice a n c) xs) (hx : 0 < xs.length) : ∃ g, a = some ⟨g, 0, none⟩ ∧ base ≤ g ∧ g < w.heap.size := by
 rcases h.form with ⟨_, h2⟩ | ⟨g, cap, cur, h1, h2, h3, _⟩
 ·rw [h2] at hx; simp at hx
 ·simp only [Value.slice.injEq] at h1
  exact ⟨g, h1.1, h2, h3.lt⟩
theorem own_free {w : World} {base g n c : Nat} {xs : List Int} (h : Own w base (.slice (some ⟨g, 0, none⟩) n c) xs) : ∀ i, i < n → w.frozen? ⟨g, 0 + i, none⟩ = false := by
 intro i _
 rcases h.form with ⟨h1, _⟩ | ⟨g', cap, cur, h1, h2, h3, _⟩
 ·simp at h1
 ·simp only [Value.slice.injEq, Option.some.injEq, Addr.mk.injEq] at h1
  rw [h1.1.1]
  exact h3.free _
theorem row_cell {w : World} {g n : Nat} {xs : List Int} (h : Row w (some ⟨g, 0, none⟩) n xs) (i : Nat) (hi : i < n) : w.cell? ⟨g, 0 + i, none⟩ = some (.int .u8 (xs.getD i 0)) := by
 obtain ⟨g', o, e, c⟩ := h.2.2.2 i hi
 cases e
 exact c
theorem row_set {w : World} {g n : Nat} {xs : List Int} (h : Row w (some ⟨g, 0, none⟩) n xs) (i : Nat) (hi : i < n) (v : Int) (hv : 0 ≤ v ∧ v ≤ 255) : Row (w.setCell ⟨g, i, none⟩ (.int .u8 v)) (some ⟨g, 0, none⟩) n (xs.set i v) := by
 refine ⟨by simp [h.1], h.2.1, fun x hx => (List.mem_or_eq_of_mem_set hx).elim (h.2.2.1 x) (fun e => e ▸ hv), fun j hj => ⟨g, 0, rfl, ?_⟩⟩
 have c := row_cell h j hj
 rw [Nat.zero_add] at c ⊢
 by_cases e : i = j
 ·subst e
  rw [World.cell?_setCell_same' _ _ _ (by rw [c]; rfl)]
  simp [List.getD, List.getElem?_set, h.1, hi]
 ·rw [World.cell?_setCell_other _ _ _ _ (by simp [e]), c]
  simp [List.getD, List.getElem?_set, e]
theorem opens_seal {KV NV : List Value} {ks : Nat → List Int} (hT : Two KV NV ks) {xs zs : List Int} {n an : Nat} {w w' : World} {e : Ending} (hl : xs.length = n) (hx : ∀ x ∈ xs, 0 ≤ x ∧ x ≤ 255) (h : openTo ks (sealV ks xs zs n an) zs (n + 16) an w e w') :
  ∃ go, e = .returned (.tuple #[.slice (some ⟨go, 0, none⟩) n n, .int .i64 0]) ∧ w.heap.size ≤ go ∧ Blk w' go 5 (ub xs).toArray := by
 have t1 : (sealV ks xs zs n an).take n = xorV ks 1 xs n := by
  rw [sealV, List.take_append_of_le_length (by rw [xorV_len]; exact Nat.le_refl _), List.take_of_length_le (by rw [xorV_len]; exact Nat.le_refl _)]
 have t2 : (sealV ks xs zs n an).drop n = codeV ks zs (xorV ks 1 xs n) an n := by
  rw [sealV, List.drop_append_of_le_length (by rw [xorV_len]; exact Nat.le_refl _), List.drop_of_length_le (by rw [xorV_len]; exact Nat.le_refl _), List.nil_append]
 rcases h with ⟨h1, _⟩ | ⟨m, hm, hc, _⟩ | ⟨m, hm, hc, g, he, hg, hb⟩
 ·omega
 ·obtain rfl : m = n := by omega
  exact absurd (by rw [t1, t2]) hc
 ·obtain rfl : m = n := by omega
  rw [t1, xorV_twice hT 1 m xs hl hx] at hb
  exact ⟨g, he, hg, hb⟩
theorem run_str_same (a : Act) (o : Oper) (w : World) (x y : Operand) (s : ByteArray) (ho : o.op = .binOp .neq 9 x y 9) (hx : a.eval x = .string s) (hy : a.eval y = .string s) : (execOp a.eval o).run Tryd.prog w = .ok (.value (.bool false)) w := by
 unfold execOp
 simp only [ho, hx, hy]
 go_simp
theorem run_quo8 (a : Act) (o : Oper) (w : World) (x : Operand) (p : Nat) (ho : o.op = .binOp .quo 3 x (.const (.int .i64 8)) 3) (hx : a.eval x = .int .i64 (p : Int)) (hp : p < 1000000) : (execOp a.eval o).run Tryd.prog w = .ok (.value (.int .i64 ((p / 8 : Nat) : Int))) w := by
 have u := run_underlying Tryd.underlying3 w
 have hc : ∀ v, a.eval (.const v) = v := fun _ => rfl
 unfold execOp
 simp only [ho, hx, hc]
 go_simp
 simp [Int.tdiv_eq_ediv_of_nonneg, IntKind.wrap, IntKind.bits, IntKind.signed]
 try omega
theorem run_rem16u (a : Act) (o : Oper) (w : World) (x : Operand) (p k : Nat) (ho : o.op = .binOp .rem 33 x (.const (.int .u16 8)) 33) (hx : a.eval x = .int .u16 (p : Int)) (hp : p < 65536) (hk : p % 8 = k) : (execOp a.eval o).run Tryd.prog w = .ok (.value (.int .u16 ((k : Nat) : Int))) w := by
 subst hk
 have u := run_underlying Tryd.underlying33 w
 have hc : ∀ v, a.eval (.const v) = v := fun _ => rfl
 have h2 : ((p : Int)).tmod 8 = ((p % 8 : Nat) : Int) := by rw [Int.tmod_eq_emod_of_nonneg (by omega)]; rfl
 unfold execOp
 simp only [ho, hx, hc]
 go_simp
 try omega
theorem run_shl16 (a : Act) (o : Oper) (w : World) (x y : Operand) (k : Nat) (q : Int) (ho : o.op = .binOp .shl 5 x y 33) (hx : a.eval x = .int .u8 1) (hy : a.eval y = .int .u16 ((k : Nat) : Int)) (hk : k < 8) (hq : ((2 ^ k : Nat) : Int) = q) : (execOp a.eval o).run Tryd.prog w = .ok (.value (.int .u8 q)) w := by
 subst hq
 unfold execOp
 simp only [ho, hx, hy]
 rcases (show k = 0 ∨ k = 1 ∨ k = 2 ∨ k = 3 ∨ k = 4 ∨ k = 5 ∨ k = 6 ∨ k = 7 by omega) with rfl | rfl | rfl | rfl | rfl | rfl | rfl | rfl
 all_goals go_simp
 all_goals (first | done | rfl | decide | (simp [IntKind.wrap, IntKind.bits, IntKind.signed]))
attribute [local irreducible] wpList wpAny wpAnyT
set_option maxHeartbeats 1500000 in
set_option maxRecDepth 100000 in
theorem opens_any (kx : List Int) (lx : kx.length = 32) (wx : ∀ x ∈ kx, 0 ≤ x ∧ x ≤ 255) (a0 a1 : Option Addr) (n0 c0 n1 c1 x : Nat) (xs zs : List Int) (hFA : Fit a1 n1 c1) (hx : x < 65536) (w : World) (hX : Row w a0 n0 xs) (hZ : Row w a1 n1 zs) (hG : w.cell? ⟨0, 0, none⟩ = some (.iface 92 (.agg #[.pointer (some ⟨1, 42, none⟩)]))) :
  Calls Tryd.prog 4 #[.agg (ub kx).toArray, .agg #[.slice a0 n0 c0, .slice a1 n1 c1], .int .u16 ((x : Nat) : Int)] w fun e w' => e = .returned (.bool true) ∧ Below w.heap.size w w' := by
 obtain ⟨ks, hT⟩ := two_of kx N1 lx wx rfl (by decide)
 obtain ⟨i, hi⟩ : ∃ i, x / 8 % (n0 + 16) = i := ⟨_, rfl⟩
 obtain ⟨k, hk⟩ : ∃ k, x % 8 = k := ⟨_, rfl⟩
 obtain ⟨q, hq⟩ : ∃ q, ((2 ^ k : Nat) : Int) = q := ⟨_, rfl⟩
 have k8 : k < 8 := by omega
 have q8 : 0 ≤ q ∧ q ≤ 255 := by
  subst hq
  rcases (show k = 0 ∨ k = 1 ∨ k = 2 ∨ k = 3 ∨ k = 4 ∨ k = 5 ∨ k = 6 ∨ k = 7 by omega) with h | h | h | h | h | h | h | h <;> subst h <;> decide
 obtain ⟨bv, hb⟩ : ∃ b, (sealV ks xs zs n0 n1).getD i 0 = b := ⟨_, rfl⟩
 have HI : Hid (x / 8 % (n0 + 16) = i ∧ i < n0 + 16 ∧ x < 65536 ∧ x % 8 = k) := Lib.hid ⟨hi, hi ▸ Nat.mod_lt _ (by omega), hx, hk⟩
 have HB : Hid ((sealV ks xs zs n0 n1).getD i 0 = bv ∧ k < 8 ∧ ((2 ^ k : Nat) : Int) = q ∧ (0 ≤ bv ∧ bv ≤ 255) ∧ (0 ≤ q ∧ q ≤ 255)) := Lib.hid ⟨hb, k8, hq, hb ▸ getD_byte (sealV_byte hT xs zs n0 n1 hX.2.2.1) i, q8⟩
 have HT := Lib.hid hT
 have HFA := Lib.hid hFA
 have HX := Lib.hid hX
 have HZ := Lib.hid hZ
 have HG := Lib.hid hG
 clear hT hFA hX hZ hG hi hk hq hb k8 q8 hx
 go_enter Tryd.func4, Tryd.ntmps4
 go_upto_region 1 with (fail)
 obtain ⟨W1, hW1⟩ : ∃ V, V = ((w.alloc (.cells (ub kx).toArray 23)).alloc (.cells #[.slice a0 n0 c0, .slice a1 n1 c1] 32)) := ⟨_, rfl⟩
 rw [← hW1]
 have b1 : Below w.heap.size w W1 := by rw [hW1]; exact ((Below.refl _ _).alloc (Nat.le_refl _) _).alloc (by simp) _
 have F1 : Hid (Below w.heap.size w W1 ∧ Blk W1 w.heap.size 23 (ub kx).toArray ∧ Blk W1 (w.heap.size + 1) 32 #[.slice a0 n0 c0, .slice a1 n1 c1] ∧ Row W1 a0 n0 xs ∧ Row W1 a1 n1 zs ∧ W1.cell? ⟨0, 0, none⟩ = some (.iface 92 (.agg #[.pointer (some ⟨1, 42, none⟩)]))) := Lib.hid ⟨b1, (by rw [hW1]; exact (Blk.new _ _ _).alloc _), (by rw [hW1]; exact Blk.new' _ _ _ _ (by simp)), HX.out.keep b1, HZ.out.keep b1, (by rw [b1.cell (by have := pos_of HG.out; simp; omega)]; exact HG.out)⟩
 generalize w.heap.size + 1 = g4 at *
 clear hW1 b1
 obtain ⟨g3, hg3⟩ : ∃ q, w.heap.size = q := ⟨_, rfl⟩
 have G3 : Hid (w.heap.size = g3) := Lib.hid hg3
 rw [hg3] at F1
 rw [hg3]
 clear hg3
 refine wp_region_lit ?_
 refine wpL_call 7 #[] rfl (by kernel_rfl) (((awake_any W1)).mono fun e W2 ⟨he, ba⟩ => ⟨.bool true, he, ?_⟩)
 simp only [Act.put, List.setIfInBounds_toArray, List.set_cons_zero, List.set_cons_succ]
 have F2 : Hid (Below g3 w W2 ∧ Blk W2 g3 23 (ub kx).toArray ∧ Blk W2 g4 32 #[.slice a0 n0 c0, .slice a1 n1 c1] ∧ Row W2 a0 n0 xs ∧ Row W2 a1 n1 zs ∧ W2.cell? ⟨0, 0, none⟩ = some (.iface 92 (.agg #[.pointer (some ⟨1, 42, none⟩)]))) := Lib.hid ⟨F1.out.1.trans (ba.mono (by have := F1.out.1.size; have := G3.out; omega)), F1.out.2.1.below ba, F1.out.2.2.1.below ba, F1.out.2.2.2.1.keep ba, F1.out.2.2.2.2.1.keep ba, (by rw [ba.cell (by have := pos_of F1.out.2.2.2.2.2; simp; omega)]; exact F1.out.2.2.2.2.2)⟩
 clear ba
 refine zP (.bool false) ?_
 refine zP (.bool false) ?_
 refine zP (.pointer (some ⟨g4, 0, none⟩)) ?_
 refine zQ (.slice a0 n0 c0) (run_load_one _ _ _ 24 _ _ rfl (g4) (0) rfl (by rw [F2.out.2.2.1.cell]; rfl) (by kernel_rfl)) ?_
 refine zP (.int .i64 (n0 : Int)) ?_
 by_cases h6 : 300 < n0
 ·have H6 := Lib.hid h6
  clear h6
  refine zQ (.bool true) (run_gti Tryd.underlying3 rfl rfl rfl (by have := H6.out; rw [decide_eq_true_eq]; omega)) ?_
  refine zP (.bool true) ?_
  refine zP (.bool true) ?_
  refine wpL_skip (by kernel_rfl) ?_
  simp only [Act.put, List.setIfInBounds_toArray, List.set_cons_zero, List.set_cons_succ]
  refine wpL_skip (by kernel_rfl) ?_
  simp only [Act.put, List.setIfInBounds_toArray, List.set_cons_zero, List.set_cons_succ]
  refine wpL_skip (by kernel_rfl) ?_
  simp only [Act.put, List.setIfInBounds_toArray, List.set_cons_zero, List.set_cons_succ]
  refine wpL_skip (by kernel_rfl) ?_
  simp only [Act.put, List.setIfInBounds_toArray, List.set_cons_zero, List.set_cons_succ]
  refine zP (.bool true) ?_
  unfold wpList
  go_upto_region 2 with (fail)
  refine wp_region_lit ?_
  refine wpL_call 7 #[] rfl (by kernel_rfl) (((awake_any W2)).mono fun e W3 ⟨he, ba⟩ => ⟨.bool true, he, ?_⟩)
  simp only [Act.put, List.setIfInBounds_toArray, List.set_cons_zero, List.set_cons_succ]
  have F3 : Hid (Below g3 w W3 ∧ Blk W3 g3 23 (ub kx).toArray ∧ Blk W3 g4 32 #[.slice a0 n0 c0, .slice a1 n1 c1] ∧ Row W3 a0 n0 xs ∧ Row W3 a1 n1 zs ∧ W3.cell? ⟨0, 0, none⟩ = some (.iface 92 (.agg #[.pointer (some ⟨1, 42, none⟩)]))) := Lib.hid ⟨F2.out.1.trans (ba.mono (by have := F2.out.1.size; have := G3.out; omega)), F2.out.2.1.below ba, F2.out.2.2.1.below ba, F2.out.2.2.2.1.keep ba, F2.out.2.2.2.2.1.keep ba, (by rw [ba.cell (by have := pos_of F2.out.2.2.2.2.2; simp; omega)]; exact F2.out.2.2.2.2.2)⟩
  clear ba
  refine zP (.bool true) ?_
  go_wp2_with fail
  go_ret
  exact ⟨rfl, by rw [G3.out]; exact F3.out.1⟩
 ·have H6 : Hid (n0 ≤ 300) := Lib.hid (by omega)
  clear h6
  refine zQ (.bool false) (run_gti Tryd.underlying3 rfl rfl rfl (by have := H6.out; rw [decide_eq_false_iff_not]; omega)) ?_
  refine zP (.bool false) ?_
  refine zP (.bool false) ?_
  refine zP (.pointer (some ⟨g4, 1, none⟩)) ?_
  refine zQ (.slice a1 n1 c1) (run_load_one _ _ _ 24 _ _ rfl (g4) (1) rfl (by rw [F2.out.2.2.1.cell]; rfl) (by kernel_rfl)) ?_
  refine zP (.int .i64 (n1 : Int)) ?_
  by_cases h2 : 200 < n1
  ·have H2 := Lib.hid h2
   clear h2
   refine zQ (.bool true) (run_gti Tryd.underlying3 rfl rfl rfl (by have := H2.out; rw [decide_eq_true_eq]; omega)) ?_
   refine zP (.bool true) ?_
   unfold wpList
   go_upto_region 2 with (fail)
   refine wp_region_lit ?_
   refine wpL_call 7 #[] rfl (by kernel_rfl) (((awake_any W2)).mono fun e W3 ⟨he, ba⟩ => ⟨.bool true, he, ?_⟩)
   simp only [Act.put, List.setIfInBounds_toArray, List.set_cons_zero, List.set_cons_succ]
   have F3 : Hid (Below g3 w W3 ∧ Blk W3 g3 23 (ub kx).toArray ∧ Blk W3 g4 32 #[.slice a0 n0 c0, .slice a1 n1 c1] ∧ Row W3 a0 n0 xs ∧ Row W3 a1 n1 zs ∧ W3.cell? ⟨0, 0, none⟩ = some (.iface 92 (.agg #[.pointer (some ⟨1, 42, none⟩)]))) := Lib.hid ⟨F2.out.1.trans (ba.mono (by have := F2.out.1.size; have := G3.out; omega)), F2.out.2.1.below ba, F2.out.2.2.1.below ba, F2.out.2.2.2.1.keep ba, F2.out.2.2.2.2.1.keep ba, (by rw [ba.cell (by have := pos_of F2.out.2.2.2.2.2; simp; omega)]; exact F2.out.2.2.2.2.2)⟩
   clear ba
   refine zP (.bool true) ?_
   go_wp2_with fail
   go_ret
   exact ⟨rfl, by rw [G3.out]; exact F3.out.1⟩
  ·have H2 : Hid (n1 ≤ 200) := Lib.hid (by omega)
   clear h2
   refine zQ (.bool false) (run_gti Tryd.underlying3 rfl rfl rfl (by have := H2.out; rw [decide_eq_false_iff_not]; omega)) ?_
   refine zP (.bool false) ?_
   unfold wpList
   go_upto_region 3 with (fail)
   refine wp_region_lit ?_
   refine wpL_load 23 _ rfl rfl g3 0 rfl (ub kx) _ (blk_rangeC (F2.out.2.1)) Tryd.underlying23 rfl (by rw [HT.out.2.2.2.1]; kernel_rfl) ?_
   simp only [Act.put, List.setIfInBounds_toArray, List.set_cons_zero, List.set_cons_succ]
   refine zP (.agg (ub N1).toArray) ?_
   refine zP (.pointer (some ⟨g4, 0, none⟩)) ?_
   refine zQ (.slice a0 n0 c0) (run_load_one _ _ _ 24 _ _ rfl (g4) (0) rfl (by rw [F2.out.2.2.1.cell]; rfl) (by kernel_rfl)) ?_
   refine zP (.pointer (some ⟨g4, 1, none⟩)) ?_
   refine zQ (.slice a1 n1 c1) (run_load_one _ _ _ 24 _ _ rfl (g4) (1) rfl (by rw [F2.out.2.2.1.cell]; rfl) (by kernel_rfl)) ?_
   refine wpL_call 8 #[.agg (ub kx).toArray, .agg (ub N1).toArray, .slice a0 n0 c0, .slice a1 n1 c1] rfl (by kernel_rfl) (((seal_two HT.out a0 a1 n0 c0 n1 c1 xs zs (by have := H6.out; omega) (by have := H2.out; omega) HFA.out W2 F2.out.2.2.2.1 F2.out.2.2.2.2.1)).mono fun e W3 ⟨aS, cS, he, b3, o3⟩ => ⟨.slice aS (n0 + 16) cS, he, ?_⟩)
   simp only [Act.put, List.setIfInBounds_toArray, List.set_cons_zero, List.set_cons_succ]
   have FO := Lib.hid (fit_own o3)
   obtain ⟨gs, rfl, lgs⟩ := own_pos o3 (by simp [sealV, xorV_len, codeV_len])
   have F3 : Hid ((Below g3 w W3 ∧ Blk W3 g3 23 (ub kx).toArray ∧ Blk W3 g4 32 #[.slice a0 n0 c0, .slice a1 n1 c1] ∧ Row W3 a0 n0 xs ∧ Row W3 a1 n1 zs ∧ W3.cell? ⟨0, 0, none⟩ = some (.iface 92 (.agg #[.pointer (some ⟨1, 42, none⟩)]))) ∧ Row W3 (some ⟨gs, 0, none⟩) (n0 + 16) (sealV ks xs zs n0 n1) ∧ W2.heap.size ≤ gs ∧ gs < W3.heap.size ∧ Below W2.heap.size W2 W3) := Lib.hid ⟨⟨F2.out.1.trans (b3.mono (by have := F2.out.1.size; have := G3.out; omega)), F2.out.2.1.below b3, F2.out.2.2.1.below b3, F2.out.2.2.2.1.keep b3, F2.out.2.2.2.2.1.keep b3, (by rw [b3.cell (by have := pos_of F2.out.2.2.2.2.2; simp; omega)]; exact F2.out.2.2.2.2.2)⟩, (Own.row o3).1, lgs.1, lgs.2, b3⟩
   have FZ : Hid (∀ i, i < n0 + 16 → W3.frozen? ⟨gs, 0 + i, none⟩ = false) := Lib.hid (own_free o3)
   clear b3 o3 lgs
   refine zP (.slice (some ⟨gs, 0, none⟩) (n0 + 16) cS) ?_
   go_upto_region 4 with (fail)
   refine wp_region_lit ?_
   refine wpL_load 23 _ rfl rfl g3 0 rfl (ub kx) _ (blk_rangeC (F3.out.1.2.1)) Tryd.underlying23 rfl (by rw [HT.out.2.2.2.1]; kernel_rfl) ?_
   simp only [Act.put, List.setIfInBounds_toArray, List.set_cons_zero, List.set_cons_succ]
   refine zP (.agg (ub N1).toArray) ?_
   refine zP (.slice (some ⟨gs, 0, none⟩) (n0 + 16) cS) ?_
   refine zP (.pointer (some ⟨g4, 1, none⟩)) ?_
   refine zQ (.slice a1 n1 c1) (run_load_one _ _ _ 24 _ _ rfl (g4) (1) rfl (by rw [F3.out.1.2.2.1.cell]; rfl) (by kernel_rfl)) ?_
   refine wpL_call 9 #[.agg (ub kx).toArray, .agg (ub N1).toArray, .slice (some ⟨gs, 0, none⟩) (n0 + 16) cS, .slice a1 n1 c1] rfl (by kernel_rfl) ((Open_any HT.out (some ⟨gs, 0, none⟩) a1 (n0 + 16) cS n1 c1 (sealV ks xs zs n0 n1) zs (by have := H6.out; omega) (by have := H2.out; omega) FO.out HFA.out W3 F3.out.2.1 F3.out.1.2.2.2.2.1 F3.out.1.2.2.2.2.2).mono ?_)
   rintro e W4 ⟨b4, h4⟩
   obtain ⟨go, rfl, lgo, rgo⟩ := opens_seal HT.out F3.out.1.2.2.2.1.1 F3.out.1.2.2.2.1.2.2.1 h4
   have F4 : Hid ((Below g3 w W4 ∧ Blk W4 g3 23 (ub kx).toArray ∧ Blk W4 g4 32 #[.slice a0 n0 c0, .slice a1 n1 c1] ∧ Row W4 a0 n0 xs ∧ Row W4 a1 n1 zs ∧ W4.cell? ⟨0, 0, none⟩ = some (.iface 92 (.agg #[.pointer (some ⟨1, 42, none⟩)]))) ∧ Row W4 (some ⟨gs, 0, none⟩) (n0 + 16) (sealV ks xs zs n0 n1) ∧ W2.heap.size ≤ gs ∧ Below W2.heap.size W2 W4 ∧ Row W4 (some ⟨go, 0, none⟩) n0 xs) := Lib.hid ⟨⟨F3.out.1.1.trans (b4.mono (by have := F3.out.1.1.size; have := G3.out; omega)), F3.out.1.2.1.below b4, F3.out.1.2.2.1.below b4, F3.out.1.2.2.2.1.keep b4, F3.out.1.2.2.2.2.1.keep b4, (by rw [b4.cell (by have := pos_of F3.out.1.2.2.2.2.2; simp; omega)]; exact F3.out.1.2.2.2.2.2)⟩, F3.out.2.1.keep b4, F3.out.2.2.1, F3.out.2.2.2.2.trans (b4.mono F3.out.2.2.2.2.size), row_of_blk2 rgo F3.out.1.2.2.2.1.1 (by have := H6.out; omega) F3.out.1.2.2.2.1.2.2.1⟩
   have C4 : Hid (∀ i, i < n0 + 16 → W4.cell? ⟨gs, 0 + i, none⟩ = some (.int .u8 ((sealV ks xs zs n0 n1).getD i 0)) ∧ W4.frozen? ⟨gs, 0 + i, none⟩ = false) := Lib.hid (fun i hi => ⟨row_cell F4.out.2.1 i hi, by rw [b4.frozen (by simp; exact F3.out.2.2.2.1)]; exact FZ.out i hi⟩)
   clear h4 b4 rgo lgo
   refine ⟨_, rfl, ?_⟩
   simp only [Act.put, List.setIfInBounds_toArray, List.set_cons_zero, List.set_cons_succ]
   refine zP (.tuple #[.slice (some ⟨go, 0, none⟩) n0 n0, .int .i64 0]) ?_
   refine zP (.slice (some ⟨go, 0, none⟩) n0 n0) ?_
   refine zP (.int .i64 0) ?_
   refine zP (.slice (some ⟨go, 0, none⟩) n0 n0) ?_
   refine zP (.int .i64 0) ?_
   go_upto_region 5 with (fail)
   refine wp_region_lit ?_
   refine zP (.int .i64 0) ?_
   refine zP (.bool false) ?_
   refine zP (.bool false) ?_
   refine zP (.slice (some ⟨go, 0, none⟩) n0 n0) ?_
   refine zQ (.string (strOfNums xs)) (run_conv_str _ _ _ _ (some ⟨go, 0, none⟩) n0 n0 xs rfl rfl F4.out.2.2.2.2) ?_
   refine zP (.pointer (some ⟨g4, 0, none⟩)) ?_
   refine zQ (.slice a0 n0 c0) (run_load_one _ _ _ 24 _ _ rfl (g4) (0) rfl (by rw [F4.out.1.2.2.1.cell]; rfl) (by kernel_rfl)) ?_
   refine zQ (.string (strOfNums xs)) (run_conv_str _ _ _ _ a0 n0 c0 xs rfl rfl F4.out.1.2.2.2.1) ?_
   refine zQ (.bool false) (run_str_same _ _ _ _ _ _ rfl rfl rfl) ?_
   refine zP (.bool false) ?_
   refine zP (.bool false) ?_
   refine zP (.slice (some ⟨gs, 0, none⟩) (n0 + 16) cS) ?_
   refine zP (.int .i64 ((n0 + 16 : Nat) : Int)) ?_
   refine zP (.pointer (some ⟨g4, 0, none⟩)) ?_
   refine zQ (.slice a0 n0 c0) (run_load_one _ _ _ 24 _ _ rfl (g4) (0) rfl (by rw [F4.out.1.2.2.1.cell]; rfl) (by kernel_rfl)) ?_
   refine zP (.int .i64 ((n0 : Nat) : Int)) ?_
   refine zQ (.int .i64 ((n0 + 16 : Nat) : Int)) (run_addi Tryd.underlying3 rfl rfl rfl _ (by have := H6.out; rw [wrap_in _ (by omega) (by omega)]; omega)) ?_
   refine zQ (.bool false) (run_nei Tryd.underlying3 rfl rfl rfl (by simp)) ?_
   refine zP (.bool false) ?_
   go_upto_region 7 with (fail)
   refine wp_region_lit ?_
   refine zP (.slice (some ⟨gs, 0, none⟩) (n0 + 16) cS) ?_
   refine zP (.int .u16 ((x : Nat) : Int)) ?_
   refine zQ (.int .i64 ((x : Nat) : Int)) (run_convi Tryd.underlying33 Tryd.underlying3 rfl rfl _ (by have := HI.out.2.2.1; rw [wrap_in _ (by omega) (by omega)])) ?_
   refine zQ (.int .i64 ((x / 8 : Nat) : Int)) (run_quo8 _ _ _ _ x rfl rfl (by have := HI.out.2.2.1; omega)) ?_
   refine zP (.slice (some ⟨gs, 0, none⟩) (n0 + 16) cS) ?_
   refine zP (.int .i64 ((n0 + 16 : Nat) : Int)) ?_
   refine zQ (.int .i64 ((i : Nat) : Int)) (run_remn _ _ _ _ _ (x / 8) (n0 + 16) i rfl rfl rfl (by omega) HI.out.1) ?_
   refine zQ (.pointer (some ⟨gs, 0 + i, none⟩)) (run_idx _ _ _ _ _ gs 0 (n0 + 16) cS i rfl rfl rfl HI.out.2.1 (by unfold maxLen; have := H6.out; omega)) ?_
   refine zQ (.int .u8 bv) (run_load_one _ _ _ 5 _ _ rfl gs (0 + i) rfl (by rw [(C4.out i HI.out.2.1).1, HB.out.1]) (by kernel_rfl)) ?_
   refine zP (.int .u16 ((x : Nat) : Int)) ?_
   refine zQ (.int .u16 ((k : Nat) : Int)) (run_rem16u _ _ _ _ x k rfl rfl (by have := HI.out.2.2.1; omega) HI.out.2.2.2) ?_
   refine zQ (.int .u8 q) (run_shl16 _ _ _ _ _ k q rfl rfl rfl HB.out.2.1 HB.out.2.2.1) ?_
   refine zP (.int .u8 (bits .xor .u8 bv q)) ?_
   refine zQ (.pointer (some ⟨gs, 0 + i, none⟩)) (run_idx _ _ _ _ _ gs 0 (n0 + 16) cS i rfl rfl rfl HI.out.2.1 (by unfold maxLen; have := H6.out; omega)) ?_
   refine wpL_store_one rfl rfl (gs) (0 + i) rfl (.int .u8 (bits .xor .u8 bv q)) rfl rfl (fun _ => by kernel_rfl) (by rw [(C4.out i HI.out.2.1).1]; rfl) ((C4.out i HI.out.2.1).2) ?_
   obtain ⟨W5, hW5⟩ : ∃ V, V = W4.setCell ⟨gs, 0 + i, none⟩ (.int .u8 (bits .xor .u8 bv q)) := ⟨_, rfl⟩
   try rw [← hW5]
   have b5 : Below W2.heap.size W4 W5 := by rw [hW5]; exact (Below.refl _ _).setCell F4.out.2.2.1 _
   have r5 : Row W5 (some ⟨gs, 0, none⟩) (n0 + 16) ((sealV ks xs zs n0 n1).set i (bits .xor .u8 bv q)) := by rw [hW5, Nat.zero_add]; exact row_set F4.out.2.1 i HI.out.2.1 _ (xor_byte _ _ HB.out.2.2.2.1 HB.out.2.2.2.2)
   have b6 := F4.out.2.2.2.1.trans b5
   have F5 : Hid ((Below g3 w W5 ∧ Blk W5 g3 23 (ub kx).toArray ∧ Blk W5 g4 32 #[.slice a0 n0 c0, .slice a1 n1 c1] ∧ Row W5 a0 n0 xs ∧ Row W5 a1 n1 zs ∧ W5.cell? ⟨0, 0, none⟩ = some (.iface 92 (.agg #[.pointer (some ⟨1, 42, none⟩)]))) ∧ Row W5 (some ⟨gs, 0, none⟩) (n0 + 16) ((sealV ks xs zs n0 n1).set i (bits .xor .u8 bv q))) := Lib.hid ⟨⟨F2.out.1.trans (b6.mono (by have := F2.out.1.size; have := G3.out; omega)), F2.out.2.1.below b6, F2.out.2.2.1.below b6, F2.out.2.2.2.1.keep b6, F2.out.2.2.2.2.1.keep b6, (by rw [b6.cell (by have := pos_of F2.out.2.2.2.2.2; simp; omega)]; exact F2.out.2.2.2.2.2)⟩, r5⟩
   clear b5 r5 b6 hW5
   go_upto_region 8 with (fail)
   refine wp_region_lit ?_
   refine wpL_load 23 _ rfl rfl g3 0 rfl (ub kx) _ (blk_rangeC (F5.out.1.2.1)) Tryd.underlying23 rfl (by rw [HT.out.2.2.2.1]; kernel_rfl) ?_
   simp only [Act.put, List.setIfInBounds_toArray, List.set_cons_zero, List.set_cons_succ]
   refine zP (.slice (some ⟨gs, 0, none⟩) (n0 + 16) cS) ?_
   refine zP (.pointer (some ⟨g4, 1, none⟩)) ?_
   refine zQ (.slice a1 n1 c1) (run_load_one _ _ _ 24 _ _ rfl (g4) (1) rfl (by rw [F5.out.1.2.2.1.cell]; rfl) (by kernel_rfl)) ?_
   refine wpL_call 10 #[.agg (ub kx).toArray, .slice (some ⟨gs, 0, none⟩) (n0 + 16) cS, .slice a1 n1 c1] rfl (by kernel_rfl) (((opened_any kx HT.out (some ⟨gs, 0, none⟩) a1 (n0 + 16) cS n1 c1 ((sealV ks xs zs n0 n1).set i (bits .xor .u8 bv q)) zs (by have := H6.out; omega) (by have := H2.out; omega) FO.out HFA.out W5 F5.out.2 F5.out.1.2.2.2.2.1 F5.out.1.2.2.2.2.2)).mono fun e W6 ⟨he, b6⟩ => ⟨.bool true, he, ?_⟩)
   simp only [Act.put, List.setIfInBounds_toArray, List.set_cons_zero, List.set_cons_succ]
   have F6 : Hid (Below g3 w W6 ∧ Blk W6 g3 23 (ub kx).toArray ∧ Blk W6 g4 32 #[.slice a0 n0 c0, .slice a1 n1 c1] ∧ Row W6 a0 n0 xs ∧ Row W6 a1 n1 zs ∧ W6.cell? ⟨0, 0, none⟩ = some (.iface 92 (.agg #[.pointer (some ⟨1, 42, none⟩)]))) := Lib.hid ⟨F5.out.1.1.trans (b6.mono (by have := F5.out.1.1.size; have := G3.out; omega)), F5.out.1.2.1.below b6, F5.out.1.2.2.1.below b6, F5.out.1.2.2.2.1.keep b6, F5.out.1.2.2.2.2.1.keep b6, (by rw [b6.cell (by have := pos_of F5.out.1.2.2.2.2.2; simp; omega)]; exact F5.out.1.2.2.2.2.2)⟩
   clear b6
   refine zP (.bool true) ?_
   go_wp2_with fail
   go_ret
   exact ⟨rfl, by rw [G3.out]; exact F6.out.1⟩
end Go.Proofs.YtlbfohpkngmaoaaDoor.Ch.B.Se
