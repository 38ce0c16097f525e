/- Xor: what is handed in, each byte of it with the stream's. -/
import Derived.Test.YtlbfohpkngmaoaaDoorChX1
import Derived.LoopIn
import Derived.Sort.CutIn
import Derived.TacticsInMore
import Derived.OwnWalkIn
namespace Go.Proofs.YtlbfohpkngmaoaaDoor.Ch.B
open Go Go.RowKit
attribute [local go_sem] Oper.semAt_some
attribute [local irreducible] wpList wpAny
set_option maxHeartbeats 4000000 in
set_option maxRecDepth 100000 in
theorem xor_any (KV NV : List Value) (c : Nat) (hc : c < 4294967296) (hKL : KV.length = 32 ∧ NV.length = 12) (bl : Nat → List Int) (hbl : ∀ k, (bl k).length = 64)
  (hB : ∀ k W, Calls Tryd.prog 17 #[.agg KV.toArray, .agg NV.toArray, .int .u32 (((c + k) % 4294967296 : Nat) : Int)] W fun e w' => e = .returned (.agg (ub (bl k)).toArray) ∧ Below W.heap.size W w')
  (n cp : Nat) (sp : Option Addr) (xs : List Int) (X : Nat → Int) (hn : n ≤ 65536) (hX : ∀ k i, i < 64 → 64 * k + i < n → bits .xor .u8 (xs.getD (64 * k + i) 0) ((bl k).getD i 0) = X (64 * k + i)) (w : World) (hR : Row w sp n xs) :
  Calls Tryd.prog 11 #[.agg KV.toArray, .agg NV.toArray, .int .u32 (c : Int), .slice sp n cp] w fun e w' => ∃ g, e = .returned (.slice (some ⟨g, 0, none⟩) n n) ∧ Below w.heap.size w w' ∧ w.heap.size ≤ g ∧ Blk w' g 5 (ub ((List.range n).map X)).toArray := by
 have HC := Lib.hid hc
 have HKL := Lib.hid hKL
 have HBL := Lib.hid hbl
 have HB := Lib.hid hB
 have HN := Lib.hid hn
 have HX := Lib.hid hX
 have HR := Lib.hid hR
 have CX : Hid (∀ (V : World) (B j sg so : Nat), j < n → sp = some ⟨sg, so, none⟩ → B = w.heap.size → Below B w V → V.cell? ⟨sg, so + j, none⟩ = some (.int .u8 (xs.getD j 0))) := Lib.hid (fun V B j sg so hj hsp hB h => by
  obtain ⟨g, o, e, hc⟩ := (hR.below _ h (Nat.le_of_eq hB.symm)).2.2.2 j hj
  rw [hsp] at e
  cases e
  exact hc)
 clear hc hKL hbl hB hn hX hR
 refine (callsIn_wide (n := 4)).1 ?_
 refine callsIn_of_wp_marks Tryd.func11 rfl trivial ?_ rfl
 simp only [Tryd.ntmps11, List.size_toArray, List.length_cons, List.length_nil, Nat.reduceAdd, Nat.reduceSub, Array.replicate_succ, Array.replicate_zero, List.push_toArray, List.append_toArray, List.nil_append, List.cons_append]
 refine wpIn_wide.2 ?_
 go_upto_region 1 with (fail)
 obtain ⟨W1, hW1⟩ : ∃ V, V = ((w.alloc (.cells KV.toArray 23)).alloc (.cells NV.toArray 27)).alloc (.cells #[.slice sp n cp] 24) := ⟨_, rfl⟩
 rw [← hW1]
 have F1 : Hid (Below w.heap.size w W1 ∧ Blk W1 w.heap.size 23 KV.toArray ∧ Blk W1 (w.heap.size + 1) 27 NV.toArray ∧ Blk W1 (w.heap.size + 1 + 1) 24 #[.slice sp n cp] ∧ w.heap.size + 1 + 1 < W1.heap.size) := Lib.hid (by
  rw [hW1]
  exact ⟨(((Below.refl _ _).alloc (Nat.le_refl _) _).alloc (by simp) _).alloc (by simp; omega) _, ((Blk.new _ _ _).alloc _).alloc _, (Blk.new' _ _ _ _ (by simp)).alloc _, Blk.new' _ _ _ _ (by simp), by simp⟩)
 have L1 : Hid (w.heap.size < w.heap.size + 1 ∧ w.heap.size + 1 < w.heap.size + 1 + 1) := Lib.hid ⟨by omega, by omega⟩
 clear hW1
 generalize w.heap.size + 1 + 1 = g2 at *
 generalize w.heap.size + 1 = g1 at *
 obtain ⟨g0, hg0⟩ : ∃ q, w.heap.size = q := ⟨_, rfl⟩
 have G0 : Hid (w.heap.size = g0) := Lib.hid hg0
 rw [hg0] at F1 L1
 rw [hg0]
 clear hg0
 refine wp_region_lit ?_
 refine zQ (.slice sp n cp) (run_load_one _ _ _ 24 _ _ rfl (g2) (0) rfl (by rw [F1.out.2.2.2.1.cell]; rfl) (by kernel_rfl)) ?_
 refine zP (.int .i64 (n : Int)) ?_
 obtain ⟨W2, hW2⟩ : ∃ V, V = W1.alloc (.cells (ub (List.replicate n 0)).toArray 5) := ⟨_, rfl⟩
 refine zV (.slice (some ⟨W1.heap.size, 0, none⟩) n n) W2 (run_mk24 _ _ _ _ _ n rfl rfl (by have := HN.out; omega) hW2) ?_
 have F2 : Hid (Below g0 w W2 ∧ Blk W2 g0 23 KV.toArray ∧ Blk W2 g1 27 NV.toArray ∧ Blk W2 g2 24 #[.slice sp n cp] ∧ Blk W2 W1.heap.size 5 (ub (outV X n 0)).toArray ∧ g2 < W1.heap.size ∧ W1.heap.size < W2.heap.size) := Lib.hid (by
  rw [hW2, outV_zero]
  exact ⟨F1.out.1.alloc (by have := F1.out.1.size; have := G0.out; omega) _, F1.out.2.1.alloc _, F1.out.2.2.1.alloc _, F1.out.2.2.2.1.alloc _, Blk.new _ _ _, F1.out.2.2.2.2, by simp⟩)
 clear hW2 F1
 generalize W1.heap.size = g3 at *
 obtain ⟨W3, hW3⟩ : ∃ V, V = W2.alloc (.cells #[.slice none 0 0] 24) := ⟨_, rfl⟩
 refine zV (.pointer (some ⟨W2.heap.size, 0, none⟩)) W3 (by rw [hW3]; kernel_rfl) ?_
 have F3 : Hid (Below g0 w W3 ∧ Blk W3 g0 23 KV.toArray ∧ Blk W3 g1 27 NV.toArray ∧ Blk W3 g2 24 #[.slice sp n cp] ∧ Blk W3 g3 5 (ub (outV X n 0)).toArray ∧ Blk W3 W2.heap.size 24 #[.slice none 0 0] ∧ g2 < g3 ∧ g3 < W2.heap.size ∧ W2.heap.size < W3.heap.size) := Lib.hid (by
  rw [hW3]
  exact ⟨F2.out.1.alloc (by have := F2.out.1.size; have := G0.out; omega) _, F2.out.2.1.alloc _, F2.out.2.2.1.alloc _, F2.out.2.2.2.1.alloc _, F2.out.2.2.2.2.1.alloc _, Blk.new _ _ _, F2.out.2.2.2.2.2.1, F2.out.2.2.2.2.2.2, by simp⟩)
 clear hW3 F2
 generalize W2.heap.size = g4 at *
 refine wpL_store_one rfl rfl (g4) (0) rfl (.slice (some ⟨g3, 0, none⟩) n n) rfl rfl size24 (by rw [F3.out.2.2.2.2.2.1.cell]; rfl) (F3.out.2.2.2.2.2.1.free _) ?_
 simp only [Act.put, List.setIfInBounds_toArray, List.set_cons_zero, List.set_cons_succ]
 obtain ⟨W4, hW4⟩ : ∃ V, V = W3.setCell ⟨g4, 0, none⟩ (.slice (some ⟨g3, 0, none⟩) n n) := ⟨_, rfl⟩
 rw [← hW4]
 have F4 : Hid (Below g0 w W4 ∧ Blk W4 g0 23 KV.toArray ∧ Blk W4 g1 27 NV.toArray ∧ Blk W4 g2 24 #[.slice sp n cp] ∧ Blk W4 g3 5 (ub (outV X n 0)).toArray ∧ Blk W4 g4 24 #[.slice (some ⟨g3, 0, none⟩) n n] ∧ g2 < g3 ∧ g3 < g4 ∧ g4 < W4.heap.size) := Lib.hid (by
  have l1 := L1.out
  have l3 := F3.out.2.2.2.2.2.2
  rw [hW4]
  exact ⟨F3.out.1.setCell (p := ⟨g4, 0, none⟩) (show g0 ≤ g4 by omega) _, F3.out.2.1.other _ _ (show g0 ≠ g4 by omega), F3.out.2.2.1.other _ _ (show g1 ≠ g4 by omega), F3.out.2.2.2.1.other _ _ (show g2 ≠ g4 by omega), F3.out.2.2.2.2.1.other _ _ (show g3 ≠ g4 by omega), Blk.set F3.out.2.2.2.2.2.1 0 _, l3.1, l3.2.1, by rw [size_setCell]; exact l3.2.2⟩)
 clear hW4 F3
 go_upto_region 2 with (fail)
 refine wp_region_lit ?_
 obtain ⟨W5, hW5⟩ : ∃ V, V = W4.alloc (.cells #[.int .i64 0] 3) := ⟨_, rfl⟩
 refine zV (.pointer (some ⟨W4.heap.size, 0, none⟩)) W5 (by rw [hW5]; kernel_rfl) ?_
 have F5 : Hid (XS g0 g2 g3 g4 W4.heap.size n 0 0 sp cp X w W5 ∧ Blk W5 g0 23 KV.toArray ∧ Blk W5 g1 27 NV.toArray ∧ g2 < g3 ∧ g3 < g4 ∧ g4 < W4.heap.size ∧ W4.heap.size < W5.heap.size) := Lib.hid (by
  rw [hW5]
  exact ⟨⟨F4.out.1.alloc (by have := F4.out.1.size; have := G0.out; omega) _, F4.out.2.2.2.1.alloc _, F4.out.2.2.2.2.2.1.alloc _, Blk.new _ _ _, F4.out.2.2.2.2.1.alloc _⟩, F4.out.2.1.alloc _, F4.out.2.2.1.alloc _, F4.out.2.2.2.2.2.2.1, F4.out.2.2.2.2.2.2.2.1, F4.out.2.2.2.2.2.2.2.2, by simp⟩)
 clear hW5 F4
 generalize W4.heap.size = g5 at *
 refine wpL_store_one rfl rfl (g5) (0) rfl (.int .i64 0) rfl rfl size3 (by rw [F5.out.1.2.2.2.1.cell]; rfl) (F5.out.1.2.2.2.1.free _) ?_
 simp only [Act.put, List.setIfInBounds_toArray, List.set_cons_zero, List.set_cons_succ]
 obtain ⟨W6, hW6⟩ : ∃ V, V = W5.setCell ⟨g5, 0, none⟩ (.int .i64 0) := ⟨_, rfl⟩
 rw [← hW6]
 have L6 : Hid (g0 < g1 ∧ g1 < g2 ∧ g2 < g3 ∧ g3 < g4 ∧ g4 < g5) := Lib.hid ⟨L1.out.1, L1.out.2, F5.out.2.2.2.1, F5.out.2.2.2.2.1, F5.out.2.2.2.2.2.1⟩
 have F6 : Hid (XS g0 g2 g3 g4 g5 n 0 0 sp cp X w W6 ∧ Blk W6 g0 23 KV.toArray ∧ Blk W6 g1 27 NV.toArray ∧ g5 < W6.heap.size) := Lib.hid (by
  have l6 := L6.out
  rw [hW6]
  exact ⟨F5.out.1.done (show g0 ≤ g5 by omega) (by omega) (by omega) (by omega) 0, F5.out.2.1.other _ _ (show g0 ≠ g5 by omega), F5.out.2.2.1.other _ _ (show g1 ≠ g5 by omega), by rw [size_setCell]; exact F5.out.2.2.2.2.2.2⟩)
 clear hW6 F5 L1
 go_upto_region 3 with (fail)
 refine wp_region_lit ?_
 refine wpL_load 23 _ rfl rfl g0 0 rfl KV _ (blk_rangeC (F6.out.2.1)) Tryd.underlying23 rfl (by rw [HKL.out.1]; kernel_rfl) ?_
 simp only [Act.put, List.setIfInBounds_toArray, List.set_cons_zero, List.set_cons_succ]
 refine wpL_load 27 _ rfl rfl g1 0 rfl NV _ (blk_rangeC (F6.out.2.2.1)) Tryd.underlying27 rfl (by rw [HKL.out.2]; kernel_rfl) ?_
 simp only [Act.put, List.setIfInBounds_toArray, List.set_cons_zero, List.set_cons_succ]
 refine zP (.int .u32 ((c : Nat) : Int)) ?_
 refine wpL_call 16 #[.agg KV.toArray, .agg NV.toArray, .int .u32 (c : Int)] rfl (by kernel_rfl) ((blocks_fn KV NV (by rw [HKL.out.1]; kernel_rfl) (by rw [HKL.out.2]; kernel_rfl) c W6).mono fun e W7 ⟨p5, p3, p4, he, b7, r5, r3, r4⟩ => ⟨.func (.func 31) #[] #[.pointer (some ⟨p5, 0, none⟩), .pointer (some ⟨p3, 0, none⟩), .pointer (some ⟨p4, 0, none⟩)], he, ?_⟩)
 simp only [Act.put, List.setIfInBounds_toArray, List.set_cons_zero, List.set_cons_succ]
 have F7 : Hid (XS g0 g2 g3 g4 g5 n 0 0 sp cp X w W7 ∧ g5 < W7.heap.size) := Lib.hid ⟨F6.out.1.below b7 (by have := G0.out; omega), Nat.lt_of_lt_of_le F6.out.2.2.2 b7.size⟩
 have R7 : Hid (Blk W7 p5 38 #[.int .u32 (c : Int)] ∧ Blk W7 p3 23 KV.toArray ∧ Blk W7 p4 27 NV.toArray) := Lib.hid ⟨r5, r3, r4⟩
 clear he b7 r5 r3 r4 F6
 unfold wpList
 go_wp2_with fail
 have LP : Hid (p5 < W7.heap.size ∧ p3 < W7.heap.size ∧ p4 < W7.heap.size) := Lib.hid ⟨Blk.lt R7.out.1, Blk.lt R7.out.2.1, Blk.lt R7.out.2.2⟩
 have NE : Hid ((p5 ≠ g3 ∧ p3 ≠ g3 ∧ p4 ≠ g3) ∧ (p5 ≠ g5 ∧ p3 ≠ g5 ∧ p4 ≠ g5)) := Lib.hid ⟨⟨R7.out.1.ne F7.out.1.2.2.2.2 (by decide), R7.out.2.1.ne F7.out.1.2.2.2.2 (by decide), R7.out.2.2.ne F7.out.1.2.2.2.2 (by decide)⟩, R7.out.1.ne F7.out.1.2.2.2.1 (by decide), R7.out.2.1.ne F7.out.1.2.2.2.1 (by decide), R7.out.2.2.ne F7.out.1.2.2.2.1 (by decide)⟩
 have HH : Hid (Hands Fence.wide 3 Tryd.prog 31 #[.pointer (some ⟨p5, 0, none⟩), .pointer (some ⟨p3, 0, none⟩), .pointer (some ⟨p4, 0, none⟩)] (fun k => .agg (ub (bl k)).toArray) (K3 p5 p3 p4) (n / 64 + 2) W7) := Lib.hid (blocks_hands KV NV c HC.out _ HKL.out HB.out p5 p3 p4 (n / 64 + 2) W7 (by have := HN.out; omega) R7.out.1 R7.out.2.1 R7.out.2.2)
 obtain ⟨S7, hS7⟩ : ∃ q, W7.heap.size = q := ⟨_, rfl⟩
 have HS7 : Hid (W7.heap.size = S7 ∧ g5 < S7) := Lib.hid ⟨hS7, hS7 ▸ F7.out.2⟩
 refine (wpIn_wide (n := 4)).1 (range_handsH (F := Fence.wide) (out := 0) rfl (by decide) (gf := 31) (lb := #[.pointer (some ⟨p5, 0, none⟩), .pointer (some ⟨p3, 0, none⟩), .pointer (some ⟨p4, 0, none⟩)]) rfl trivial (fun args w => by kernel_rfl) HH.out K3.trans (fun W l o o' hl h1 h2 => K3.putObj LP.out.1 LP.out.2.1 LP.out.2.2 W l o o' hl h1 h2) (Below.refl _ _)
  (fun k W => k < n / 64 + 2 ∧ XS g0 g2 g3 g4 g5 n (min (64 * k) n) (min (64 * k) n) sp cp X w W ∧ S7 ≤ W.heap.size) (fun W => XS g0 g2 g3 g4 g5 n n n sp cp X w W)
  ?hI ?hO (fun k W h => h.1) ⟨by omega, by rw [Nat.mul_zero, Nat.zero_min]; exact F7.out.1, Nat.le_of_eq hS7.symm⟩
  (fun s W => s.1 < n / 64 + 2 ∧ XS g0 g2 g3 g4 g5 n (min (64 * s.1) n) (min (64 * s.1) n) sp cp X w W ∧ S7 ≤ W.heap.size ∧ ∃ ga, S7 ≤ ga ∧ Blk W ga 53 (ub (bl s.1)).toArray ∧ s.2 = { tmps := List.toArray ((.agg KV.toArray) :: (.agg NV.toArray) :: (.int .u32 ((c : Nat) : Int)) :: (.slice sp n cp) :: (.pointer (some ⟨g0, 0, none⟩)) :: (.pointer (some ⟨g1, 0, none⟩)) :: (undef) :: (.pointer (some ⟨g2, 0, none⟩)) :: (.slice none 0 0) :: (.pointer (some ⟨g4, 0, none⟩)) :: (.pointer (some ⟨g5, 0, none⟩)) :: (.pointer (some ⟨ga, 0, none⟩)) :: (undef) :: (undef) :: (.slice sp n cp) :: (.int .i64 (n : Int)) :: (.slice (some ⟨g3, 0, none⟩) n n) :: (.agg KV.toArray) :: (.agg NV.toArray) :: (.int .u32 ((c : Nat) : Int)) :: (.func (.func 31) #[] #[.pointer (some ⟨p5, 0, none⟩), .pointer (some ⟨p3, 0, none⟩), .pointer (some ⟨p4, 0, none⟩)]) :: (.agg (ub (bl s.1)).toArray) :: (undef) :: (undef) :: (undef) :: (undef) :: (undef) :: (undef) :: (undef) :: (undef) :: (undef) :: (undef) :: (undef) :: (undef) :: (undef) :: (undef) :: (undef) :: (undef) :: (undef) :: (undef) :: (undef) :: (undef) :: (undef) :: (undef) :: (undef) :: (undef) :: (undef) :: (undef) :: (undef) :: (undef) :: (undef) :: (undef) :: (undef) :: (undef) :: (undef) :: []), defers := [] }) ?hAx ?hassign ?hbody ?hstop)
 case hI =>
  rintro k A B row ⟨h1, h2, h3⟩ hg hr
  have l6 := L6.out
  have s7 := HS7.out
  exact ⟨h1, h2.grown hg (L := S7) (fun r e => hS7 ▸ (hr r e).1) (by omega) (by rw [G0.out]; exact Nat.le_refl _) (by omega) (by omega) (by omega) (by omega), Nat.le_trans h3 hg.size⟩
 case hO =>
  rintro k A B row h2 hg hr
  have l6 := L6.out
  have s7 := HS7.out
  exact h2.grown hg (L := S7) (fun r e => hS7 ▸ (hr r e).1) (by omega) (by rw [G0.out]; exact Nat.le_refl _) (by omega) (by omega) (by omega) (by omega)
 case hAx =>
  rintro s A B row ⟨h1, h2, h3, ga, h4, h5, h6⟩ hg hr
  have l6 := L6.out
  have s7 := HS7.out
  exact ⟨h1, h2.grown hg (L := S7) (fun r e => hS7 ▸ (hr r e).1) (by omega) (by rw [G0.out]; exact Nat.le_refl _) (by omega) (by omega) (by omega) (by omega), Nat.le_trans h3 hg.size, ga, h4, h5.grown hg (notcells h5 (fun r e => (hr r e).2)), h6⟩
 case hassign =>
  rintro l k W K ⟨hk, hx, hs⟩ hK
  simp only [List.zip_toArray, List.zip_cons_cons, List.zip_nil_right, List.foldl_toArray', List.size_toArray, List.length_cons, List.length_nil, List.foldl_cons, List.foldl_nil, List.setIfInBounds_toArray, List.set_cons_zero, List.set_cons_succ, Nat.reduceAdd]
  obtain ⟨V, hV⟩ : ∃ V, V = (W.alloc (.cells (ub (List.replicate 64 0)).toArray 53)).setRow W.heap.size (ub (bl k)).toArray := ⟨_, rfl⟩
  have bV : Below W.heap.size W V := by rw [hV]; exact below_setRow ((Below.refl _ _).alloc (Nat.le_refl _) _) (Nat.le_refl _) _
  have BV : Blk V W.heap.size 53 (ub (bl k)).toArray := by rw [hV]; exact setRow_heap _ _ _ _ _ _ (Blk.new _ _ _)
  have ZK : K3 p5 p3 p4 W V := K3.of bV (by have := LP.out; have := HS7.out; omega) (by have := LP.out; have := HS7.out; omega) (by have := LP.out; have := HS7.out; omega)
  have hxV := hx.below bV (by rw [G0.out]; exact Nat.le_refl _)
  have HBV := Lib.hid (And.intro bV (And.intro BV (And.intro ZK (And.intro hxV hk))))
  clear bV BV ZK hxV hx
  refine region_round rfl ?_
  refine zV (.pointer (some ⟨W.heap.size, 0, none⟩)) (W.alloc (.cells (ub (List.replicate 64 0)).toArray 53)) (by kernel_rfl) ?_
  refine wpList_store_rowTo rfl 53 _ _ rfl rfl W.heap.size (ub (bl k)).toArray rfl rfl 53 _ (Blk.new _ _ _) (by simp only [List.size_toArray, ub_len, HBL.out k]; kernel_rfl) (by simp only [List.size_toArray, ub_len, HBL.out k, List.length_replicate]) (ub_one _) ?_
  rw [← hV]
  refine thenN_end ?_
  exact hK _ V (keeps_below HBV.out.1) HBV.out.2.2.1 ⟨HBV.out.2.2.2.2, HBV.out.2.2.2.1, Nat.le_trans hs HBV.out.1.size, W.heap.size, hs, HBV.out.2.1, rfl⟩
 case hbody =>
  rintro l k a' W ⟨hk, hx, hs, ga, hga, hb, ha⟩
  dsimp only at hk hx hb ha
  subst ha
  by_cases hlt : 64 * k < n
  ·rw [Nat.min_eq_left (Nat.le_of_lt hlt)] at hx
   obtain ⟨sg, so, hsp, _⟩ := HR.out.2.2.2 0 (by omega)
   subst hsp
   obtain ⟨d, hd⟩ : ∃ d, 64 * k = d := ⟨_, rfl⟩
   obtain ⟨m, hm⟩ : ∃ m, min 64 (n - d) = m := ⟨_, rfl⟩
   rw [hd] at hx
   have HD : Hid (64 * k = d ∧ d < n ∧ min 64 (n - d) = m ∧ k < n / 64 + 2) := Lib.hid ⟨hd, hd ▸ hlt, hm, hk⟩
   have R0 : Hid (XR g0 g2 g3 g4 g5 n d d (some ⟨sg, so, none⟩) cp X w W p5 p3 p4 S7 ga (bl k) W) := Lib.hid ⟨hx, hb, KeepsOthers.refl _, ⟨Nat.le_refl _, rfl, rfl, rfl⟩, hs⟩
   have NA : Hid (ga ≠ g3) := Lib.hid (by have := L6.out; have := HS7.out; omega)
   clear hx hs hga hb hlt hd hm hk
   gi_upto_region 5 with (fail)
   refine region_round rfl ?_
   refine zQ (.int .i64 ((d : Nat) : Int)) (run_load_one _ _ _ 3 _ _ rfl (g5) (0) rfl (by rw [R0.out.1.2.2.2.1.cell]; rfl) (by kernel_rfl)) ?_
   refine zQ (.slice (some ⟨sg, so, none⟩) n cp) (run_load_one _ _ _ 24 _ _ rfl (g2) (0) rfl (by rw [R0.out.1.2.1.cell]; rfl) (by kernel_rfl)) ?_
   refine zP (.int .i64 (n : Int)) ?_
   refine zQ (.bool false) (run_gei Tryd.underlying3 rfl rfl rfl (by have := HD.out; rw [decide_eq_false_iff_not]; omega)) ?_
   refine thenN_end ?_
   gi_upto_region 6 with (fail)
   refine region_round rfl ?_
   refine zQ (.slice (some ⟨sg, so, none⟩) n cp) (run_load_one _ _ _ 24 _ _ rfl (g2) (0) rfl (by rw [R0.out.1.2.1.cell]; rfl) (by kernel_rfl)) ?_
   refine zP (.int .i64 (n : Int)) ?_
   refine zQ (.int .i64 ((d : Nat) : Int)) (run_load_one _ _ _ 3 _ _ rfl (g5) (0) rfl (by rw [R0.out.1.2.2.2.1.cell]; rfl) (by kernel_rfl)) ?_
   refine zQ (.int .i64 ((n - d : Nat) : Int)) (run_subi Tryd.underlying3 rfl rfl rfl _ (by have := HD.out; have := HN.out; rw [wrap_in _ (by omega) (by omega)]; omega)) ?_
   refine zQ (.int .i64 ((m : Nat) : Int)) (by rw [← HD.out.2.2.1]; exact run_min _ _ _ _ _ (n - d) rfl rfl rfl rfl) ?_
   refine zP (.int .i64 ((m : Nat) : Int)) ?_
   refine thenN_end ?_
   gi_upto_region 7 with (fail)
   refine region_round rfl ?_
   refine zP (.int .i64 ((m : Nat) : Int)) ?_
   refine zP (.int .i64 0) ?_
   refine thenN_end ?_
   gi_wp2_with fail
   gi_loopw [32] (fun s32 wr => ∃ i : Nat, s32 = .int .i64 ((i : Nat) : Int) ∧ Hid (i ≤ m ∧ XR g0 g2 g3 g4 g5 n d (d + i) (some ⟨sg, so, none⟩) cp X w W p5 p3 p4 S7 ga (bl k) wr)) (fun s32 _ => m - (intOf s32).toNat)
   case atStart => exact ⟨0, rfl, Lib.hid ⟨Nat.zero_le _, R0.out⟩⟩
   case round =>
    obtain ⟨i, rfl, RI⟩ := hrel
    by_cases hlt : i < m
    ·have HK := Lib.hid hlt
     clear hlt
     gi_upto_region 8 with (fail)
     refine region_round rfl ?_
     refine zQ (.bool true) (run_lti Tryd.underlying3 rfl rfl rfl (by have := HK.out; rw [decide_eq_true_eq]; omega)) ?_
     refine thenN_end ?_
     gi_upto_region 9 with (fail)
     refine region_round rfl ?_
     refine zP (.int .i64 ((i : Nat) : Int)) ?_
     refine zP (.int .i64 ((i : Nat) : Int)) ?_
     refine thenN_end ?_
     gi_upto_region 10 with (fail)
     refine region_heldR (XR g0 g2 g3 g4 g5 n d (d + i) (some ⟨sg, so, none⟩) cp X w W p5 p3 p4 S7 ga (bl k)) 15 (by kernel_rfl) (by kernel_rfl) rfl RI.out.2.drew ?_
     simp only [List.take_succ_cons, List.take_zero, List.drop_succ_cons, List.drop_zero]
     refine zH (.slice (some ⟨g3, 0, none⟩) n n) (fun w h => heldRun_value (run_load_one _ _ _ 24 _ _ rfl (g4) (0) rfl (by rw [h.1.2.2.1.cell]; rfl) (by kernel_rfl)) h) ?_
     refine zH (.int .i64 ((d : Nat) : Int)) (fun w h => heldRun_value (run_load_one _ _ _ 3 _ _ rfl (g5) (0) rfl (by rw [h.1.2.2.2.1.cell]; rfl) (by kernel_rfl)) h) ?_
     refine zH (.int .i64 ((i : Nat) : Int)) (fun w h => heldRun_value (by kernel_rfl) h) ?_
     refine zH (.int .i64 ((d + i : Nat) : Int)) (fun w h => heldRun_value (run_addi Tryd.underlying3 rfl rfl rfl _ (by have := HD.out; have := HK.out; have := HN.out; rw [wrap_in _ (by omega) (by omega)]; omega)) h) ?_
     refine zH (.slice (some ⟨sg, so, none⟩) n cp) (fun w h => heldRun_value (run_load_one _ _ _ 24 _ _ rfl (g2) (0) rfl (by rw [h.1.2.1.cell]; rfl) (by kernel_rfl)) h) ?_
     refine zH (.int .i64 ((d : Nat) : Int)) (fun w h => heldRun_value (run_load_one _ _ _ 3 _ _ rfl (g5) (0) rfl (by rw [h.1.2.2.2.1.cell]; rfl) (by kernel_rfl)) h) ?_
     refine zH (.int .i64 ((i : Nat) : Int)) (fun w h => heldRun_value (by kernel_rfl) h) ?_
     refine zH (.int .i64 ((d + i : Nat) : Int)) (fun w h => heldRun_value (run_addi Tryd.underlying3 rfl rfl rfl _ (by have := HD.out; have := HK.out; have := HN.out; rw [wrap_in _ (by omega) (by omega)]; omega)) h) ?_
     refine zH (.pointer (some ⟨sg, so + (d + i), none⟩)) (fun w h => heldRun_value (run_idx _ _ _ _ _ sg so n cp (d + i) rfl rfl rfl (by have := HD.out; have := HK.out; omega) HR.out.2.1) h) ?_
     refine zH (.int .u8 (xs.getD (d + i) 0)) (fun w h => heldRun_value (run_load_one _ _ _ 5 _ _ rfl sg (so + (d + i)) rfl (CX.out w _ _ _ _ (by have := HD.out; have := HK.out; omega) rfl G0.out.symm h.1.1) (by kernel_rfl)) h) ?_
     refine zH (.int .i64 ((i : Nat) : Int)) (fun w h => heldRun_value (by kernel_rfl) h) ?_
     refine zH (.pointer (some ⟨ga, 0 + i, none⟩)) (fun w h => heldRun_value (run_idxa35 _ _ _ _ _ ga 0 i rfl rfl rfl (by have := HD.out; have := HK.out; omega)) h) ?_
     refine zH (.int .u8 ((bl k).getD i 0)) (fun w h => heldRun_value (run_load_one _ _ _ 5 _ _ rfl ga (0 + i) rfl (ub_cell h.2.1 (by have := HBL.out k; have := HD.out; have := HK.out; omega)) (by kernel_rfl)) h) ?_
     refine zH (.int .u8 (X (d + i))) (fun w h => heldRun_value (run_biti (.inr (.inr rfl)) Tryd.underlying5 rfl rfl rfl _ (by have h1 := HD.out; have h2 := HK.out; have h3 := HX.out k i (by omega) (by omega); rw [h1.1] at h3; exact h3)) h) ?_
     refine zH (.pointer (some ⟨g3, 0 + (d + i), none⟩)) (fun w h => heldRun_value (run_idx _ _ _ _ _ g3 0 n n (d + i) rfl rfl rfl (by have := HD.out; have := HK.out; omega) (by have := HN.out; unfold maxLen; omega)) h) ?_
     refine wpHeld_nil ?_
     intro w1 h1
     have H1 := Lib.hid h1
     clear h1
     refine wpL_store_one rfl rfl (g3) (0 + (d + i)) rfl (.int .u8 (X (d + i))) rfl rfl size5 (ub_some H1.out.1.2.2.2.2 (by rw [outV_len]; have := HD.out; have := HK.out; omega)) (H1.out.1.2.2.2.2.free _) ?_
     simp only [Act.put, List.setIfInBounds_toArray, List.set_cons_zero, List.set_cons_succ]
     obtain ⟨w2, hw2⟩ : ∃ V, V = w1.setCell ⟨g3, 0 + (d + i), none⟩ (.int .u8 (X (d + i))) := ⟨_, rfl⟩
     rw [← hw2]
     have NX : Hid (i + 1 ≤ m ∧ XR g0 g2 g3 g4 g5 n d (d + (i + 1)) (some ⟨sg, so, none⟩) cp X w W p5 p3 p4 S7 ga (bl k) w2) := Lib.hid ⟨HK.out, by rw [hw2]; exact H1.out.put (by have := L6.out; omega) (by have := L6.out; omega) (by have := L6.out; omega) (by have := L6.out; omega) NA.out NE.out.1⟩
     clear hw2 H1
     refine thenN_end ?_
     gi_upto_region 11 with (fail)
     refine region_round rfl ?_
     refine zQ (.int .i64 ((i + 1 : Nat) : Int)) (run_addi Tryd.underlying3 rfl rfl rfl _ (by have := HD.out; have := HK.out; rw [wrap_in _ (by omega) (by omega)]; omega)) ?_
     refine zP (.int .i64 ((i + 1 : Nat) : Int)) ?_
     refine thenN_end ?_
     go_roundw
     case rel => first | exact ⟨_, rfl, NX⟩ | ((repeat apply Exists.intro); exact ⟨⟨_, rfl, NX⟩, rfl⟩)
     case measure => simp [intOf]; have := HK.out; omega
    ·have EK : Hid (i = m) := Lib.hid (by have := RI.out.1; omega)
     clear hlt
     have RM : Hid (XR g0 g2 g3 g4 g5 n d (d + m) (some ⟨sg, so, none⟩) cp X w W p5 p3 p4 S7 ga (bl k) wr) := Lib.hid (by have h := RI.out.2; rw [EK.out] at h; exact h)
     gi_upto_region 8 with (fail)
     refine region_round rfl ?_
     refine zQ (.bool false) (run_lti Tryd.underlying3 rfl rfl rfl (by have := EK.out; rw [decide_eq_false_iff_not]; omega)) ?_
     refine thenN_end ?_
     gi_upto_region 12 with (fail)
     refine region_round rfl ?_
     refine zQ (.int .i64 ((d : Nat) : Int)) (run_load_one _ _ _ 3 _ _ rfl (g5) (0) rfl (by rw [RM.out.1.2.2.2.1.cell]; rfl) (by kernel_rfl)) ?_
     refine zP (.int .i64 ((m : Nat) : Int)) ?_
     refine zQ (.int .i64 ((d + m : Nat) : Int)) (run_addi Tryd.underlying3 rfl rfl rfl _ (by have := HD.out; have := HN.out; rw [wrap_in _ (by omega) (by omega)]; omega)) ?_
     refine wpL_store_one rfl rfl (g5) (0) rfl (.int .i64 ((d + m : Nat) : Int)) rfl rfl size3 (by rw [RM.out.1.2.2.2.1.cell]; rfl) (RM.out.1.2.2.2.1.free _) ?_
     simp only [Act.put, List.setIfInBounds_toArray, List.set_cons_zero, List.set_cons_succ]
     obtain ⟨w2, hw2⟩ : ∃ V, V = wr.setCell ⟨g5, 0, none⟩ (.int .i64 ((d + m : Nat) : Int)) := ⟨_, rfl⟩
     rw [← hw2]
     have FX := RM.out.fin (by have := L6.out; omega) (by have := L6.out; omega) (by have := L6.out; omega) (by have := L6.out; omega) NE.out.2 (d + m)
     rw [← hw2] at FX
     have E2 : d + m = min (64 * (k + 1)) n := by have := HD.out; omega
     refine thenN_end ?_
     gi_wp2_with fail
     rw [E2] at FX
     exact ⟨FX.2.1, FX.2.2.1, by have := HD.out; omega, FX.1, FX.2.2.2⟩
  ·rw [Nat.min_eq_right (by omega)] at hx
   have HX0 := Lib.hid hx
   have HGE : Hid (n ≤ 64 * k) := Lib.hid (by omega)
   clear hx hlt
   gi_upto_region 5 with (fail)
   refine region_round rfl ?_
   refine zQ (.int .i64 ((n : Nat) : Int)) (run_load_one _ _ _ 3 _ _ rfl (g5) (0) rfl (by rw [HX0.out.2.2.2.1.cell]; rfl) (by kernel_rfl)) ?_
   refine zQ (.slice sp n cp) (run_load_one _ _ _ 24 _ _ rfl (g2) (0) rfl (by rw [HX0.out.2.1.cell]; rfl) (by kernel_rfl)) ?_
   refine zP (.int .i64 (n : Int)) ?_
   refine zQ (.bool true) (run_gei Tryd.underlying3 rfl rfl rfl (by have := HGE.out; rw [decide_eq_true_eq]; omega)) ?_
   refine thenN_end ?_
   gi_wp2_with fail
   exact ⟨rfl, KeepsOthers.refl _, HX0.out⟩
 case hstop =>
  intro D W hD hO hdd
  have HO := Lib.hid hO
  have HDD := Lib.hid (And.intro hD hdd)
  clear hO hD hdd
  refine wpIn_wide.2 ?_
  go_upto_region 13 with (fail)
  refine wp_region_lit ?_
  refine zQ (.slice (some ⟨g3, 0, none⟩) n n) (run_load_one _ _ _ 24 _ _ rfl (g4) (0) rfl (by rw [HO.out.2.2.1.cell]; rfl) (by kernel_rfl)) ?_
  refine zP (.slice (some ⟨g3, 0, none⟩) n n) ?_
  go_wp2_with fail
  refine ⟨by simp, .inl ⟨_, _, rfl, run_takeDeferred HDD.out.2, ?_⟩⟩
  refine ⟨_, results_tmp rfl _ _ _, g3, rfl, ?_, by have := L6.out; rw [G0.out]; omega, ?_⟩
  ·rw [G0.out]; exact HO.out.1.trans (belowK_b (w := W7) (by have := L6.out; have := HS7.out; omega) W D _ _ HDD.out.1 HDD.out.2 rfl rfl)
  ·rw [← outV_full]; exact (World.putObj_heap_other (by have := L6.out; have := HS7.out; have := HDD.out.1; omega)).trans HO.out.2.2.2.2
end Go.Proofs.YtlbfohpkngmaoaaDoor.Ch.B
