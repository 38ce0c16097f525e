/- Seal: the program's and the reference's. -/
import Derived.Test.YtlbfohpkngmaoaaDoorS3
import Derived.Test.YtlbfohpkngmaoaaDoorChX
import Derived.Test.YtlbfohpkngmaoaaDoorPoR5
namespace Go.Proofs.YtlbfohpkngmaoaaDoor.Ch.B.Se
open Go Go.RowKit
def sealV (ks : Nat → List Int) (xs zs : List Int) (n an : Nat) : List Int := (xorV ks 1 xs n) ++ (codeV ks zs (xorV ks 1 xs n) an n)
theorem xor1 {KV NV : List Value} {ks : Nat → List Int} (h : Two KV NV ks) (n cp : Nat) (sp : Option Addr) (xs : List Int) (hn : n ≤ 65536) (w : World) (hR : Row w sp n xs) :
  Calls Tryd.prog 11 #[.agg KV.toArray, .agg NV.toArray, .int .u32 1, .slice sp n cp] w fun e w' => ∃ g, e = .returned (.slice (some ⟨g, 0, none⟩) n n) ∧ Below w.heap.size w w' ∧ w.heap.size ≤ g ∧ Blk w' g 5 (ub (xorV ks 1 xs n)).toArray := xor_two h 1 (by decide) n cp sp xs hn w hR
theorem refxor1 {KV NV : List Value} {ks : Nat → List Int} (h : Two KV NV ks) (n cp : Nat) (sp : Option Addr) (xs : List Int) (hn : n ≤ 65536) (w : World) (hR : Row w sp n xs) :
  Calls Tryd.prog 26 #[.agg KV.toArray, .agg NV.toArray, .int .u32 1, .slice sp n cp] w fun e w' => givesO w e w' n (xorV ks 1 xs n) := refxor_two h 1 (by decide) n cp sp xs hn w hR
theorem refblock0 {KV NV : List Value} {ks : Nat → List Int} (hT : Two KV NV ks) (W : World) : Calls Tryd.prog 27 #[.agg KV.toArray, .agg NV.toArray, .int .u32 0] W fun e w' => e = .returned (.agg (ub (ks 0)).toArray) ∧ Below W.heap.size W w' := hT.2.1 0 (by decide) W
def kb (ks : Nat → List Int) (i : Nat) : Int := (ks 0).getD i 0
theorem kb_all {KV NV : List Value} {ks : Nat → List Int} (hT : Two KV NV ks) : outV (kb ks) 32 32 = (ks 0).take 32 := by
 rw [outV_full]
 have hl := (hT.2.2.1 0).1
 apply List.ext_getElem?
 intro i
 rw [List.getElem?_take]
 by_cases hi : i < 32
 ·rw [if_pos hi, List.getElem?_map, List.getElem?_range hi, List.getElem?_eq_getElem (show i < (ks 0).length by omega)]
  simp only [Option.map_some, Option.some.injEq]
  unfold kb
  rw [List.getD, List.getElem?_eq_getElem (show i < (ks 0).length by omega)]
  rfl
 ·rw [if_neg hi, List.getElem?_eq_none (by simp; omega)]
theorem code_same {ks : Nat → List Int} (zs ys : List Int) (an tn : Nat) {M1 M2 M3 M4 : List Int} (h1 : M1 = [] ++ (zs ++ List.replicate (pd an) 0)) (h2 : M2 = M1 ++ (ys ++ List.replicate (pd tn) 0)) (h3 : M3 = M2 ++ (len8 an)) (h4 : M4 = M3 ++ (len8 tn)) : Po.codeS ((ks 0).take 32) M4 = codeV ks zs ys an tn := by
 subst h1 h2 h3 h4
 unfold codeV codeT
 congr 1
 simp [List.append_assoc]
theorem row_of_blk2 {w : World} {g t n : Nat} {l : List Int} (h : Blk w g t (ub l).toArray) (hl : l.length = n) (hn : n ≤ 100000) (hb : ∀ x ∈ l, 0 ≤ x ∧ x ≤ 255) : Row w (some ⟨g, 0, none⟩) n l :=
 ⟨hl, by unfold maxLen; omega, hb, fun j hj => ⟨g, 0, rfl, ub_cell h (by omega)⟩⟩
theorem run_idxa64 (a : Act) (o : Oper) (w : World) (x i : Operand) (g off k : Nat) (ho : o.op = .indexAddr 53 x i) (hx : a.eval x = .pointer (some ⟨g, off, none⟩)) (hi : a.eval i = .int .i64 (k : Int)) (hk : k < 64) : (execOp a.eval o).run Tryd.prog w = .ok (.value (.pointer (some ⟨g, off + k, none⟩))) w := run_idxa35 a o w x i g off k ho hx hi hk
theorem run_idxa32 (a : Act) (o : Oper) (w : World) (x i : Operand) (g off k : Nat) (ho : o.op = .indexAddr 22 x i) (hx : a.eval x = .pointer (some ⟨g, off, none⟩)) (hi : a.eval i = .int .i64 (k : Int)) (hk : k < 32) : (execOp a.eval o).run Tryd.prog w = .ok (.value (.pointer (some ⟨g, off + k, none⟩))) w := by
 have j0 : (0 : Int) ≤ (k : Int) := by omega
 have j6 : (k : Int) < 32 := by omega
 unfold execOp
 simp only [ho, hx, hi]
 go_simp
attribute [local irreducible] wpList wpAny
set_option maxHeartbeats 1500000 in
set_option maxRecDepth 100000 in
theorem seal_two {KV NV : List Value} {ks : Nat → List Int} (hT : Two KV NV ks) (sp aa : Option Addr) (n cp an ac : Nat) (xs zs : List Int) (hn : n ≤ 5000) (han : an ≤ 5000) (hFA : Fit aa an ac) (w : World) (hR : Row w sp n xs) (hZ : Row w aa an zs) :
  Calls Tryd.prog 8 #[.agg KV.toArray, .agg NV.toArray, .slice sp n cp, .slice aa an ac] w fun e w' => givesO w e w' (n + 16) (sealV ks xs zs n an) := by
 have HT := Lib.hid hT
 have HN := Lib.hid hn
 have HAN := Lib.hid han
 have HFA := Lib.hid hFA
 have HR := Lib.hid hR
 have HZ := Lib.hid hZ
 clear hT hn han hFA hR hZ
 go_enter Tryd.func8, Tryd.ntmps8
 go_upto_region 1 with (fail)
 obtain ⟨W1, hW1⟩ : ∃ V, V = (w.alloc (.cells KV.toArray 23)).alloc (.cells NV.toArray 27) := ⟨_, rfl⟩
 rw [← hW1]
 have b1 : Below w.heap.size w W1 := by rw [hW1]; exact ((Below.refl _ _).alloc (Nat.le_refl _) _).alloc (by simp) _
 have F1 : Hid (Below w.heap.size w W1 ∧ Blk W1 w.heap.size 23 KV.toArray ∧ Blk W1 (w.heap.size + 1) 27 NV.toArray ∧ Row W1 sp n xs ∧ Row W1 aa an zs) := Lib.hid (by
  refine ⟨b1, ?_, ?_, HR.out.keep b1, HZ.out.keep b1⟩
  ·rw [hW1]; exact (Blk.new _ _ _).alloc _
  ·rw [hW1]; exact Blk.new' _ _ _ _ (by simp))
 clear hW1 b1
 generalize w.heap.size + 1 = g5 at *
 obtain ⟨g4, hg4⟩ : ∃ q, w.heap.size = q := ⟨_, rfl⟩
 have G4 : Hid (w.heap.size = g4) := Lib.hid hg4
 rw [hg4] at F1
 rw [hg4]
 clear hg4
 refine wp_region_lit ?_
 refine wpL_load 23 _ rfl rfl g4 0 rfl KV _ (blk_rangeC (F1.out.2.1)) Tryd.underlying23 rfl (by rw [HT.out.2.2.2.1]; kernel_rfl) ?_
 simp only [Act.put, List.setIfInBounds_toArray, List.set_cons_zero, List.set_cons_succ]
 refine wpL_load 27 _ rfl rfl g5 0 rfl NV _ (blk_rangeC (F1.out.2.2.1)) Tryd.underlying27 rfl (by rw [HT.out.2.2.2.2]; kernel_rfl) ?_
 simp only [Act.put, List.setIfInBounds_toArray, List.set_cons_zero, List.set_cons_succ]
 refine zP (.slice sp n cp) ?_
 refine wpL_call 11 #[.agg KV.toArray, .agg NV.toArray, .int .u32 1, .slice sp n cp] rfl (by kernel_rfl) (((xor1 HT.out n cp sp xs (by have := HN.out; omega) W1 F1.out.2.2.2.1)).mono fun e W2 ⟨go, he, b2, l2, r2⟩ => ⟨.slice (some ⟨go, 0, none⟩) n n, he, ?_⟩)
 simp only [Act.put, List.setIfInBounds_toArray, List.set_cons_zero, List.set_cons_succ]
 have F2 : Hid (Below g4 w W2 ∧ Blk W2 g4 23 KV.toArray ∧ Blk W2 g5 27 NV.toArray ∧ Row W2 aa an zs ∧ Blk W2 go 5 (ub (xorV ks 1 xs n)).toArray ∧ g4 ≤ go) := Lib.hid ⟨F1.out.1.trans (b2.mono (by have := F1.out.1.size; have := G4.out; omega)), F1.out.2.1.below b2, F1.out.2.2.1.below b2, F1.out.2.2.2.2.keep b2, r2, Nat.le_trans (by have := F1.out.1.size; have := G4.out; omega) l2⟩
 clear b2 l2 r2 F1
 refine zP (.slice (some ⟨go, 0, none⟩) n n) ?_
 go_upto_region 2 with (fail)
 refine wp_region_lit ?_
 refine wpL_load 23 _ rfl rfl g4 0 rfl KV _ (blk_rangeC (F2.out.2.1)) Tryd.underlying23 rfl (by rw [HT.out.2.2.2.1]; kernel_rfl) ?_
 simp only [Act.put, List.setIfInBounds_toArray, List.set_cons_zero, List.set_cons_succ]
 refine wpL_load 27 _ rfl rfl g5 0 rfl NV _ (blk_rangeC (F2.out.2.2.1)) Tryd.underlying27 rfl (by rw [HT.out.2.2.2.2]; kernel_rfl) ?_
 simp only [Act.put, List.setIfInBounds_toArray, List.set_cons_zero, List.set_cons_succ]
 refine zP (.slice (some ⟨go, 0, none⟩) n n) ?_
 refine zP (.slice aa an ac) ?_
 refine wpL_call 12 #[.agg KV.toArray, .agg NV.toArray, .slice (some ⟨go, 0, none⟩) n n, .slice aa an ac] rfl (by kernel_rfl) (((code_two HT.out (some ⟨go, 0, none⟩) aa n n an ac (xorV ks 1 xs n) zs (by have := HN.out; omega) (by have := HAN.out; omega) (fit_some (by have := HN.out; omega)) HFA.out W2 (row_of_blk F2.out.2.2.2.2.1 (xorV_len _ _ _ _) (by have := HN.out; omega) (xorV_byte HT.out _ _ _ HR.out.2.2.1)) F2.out.2.2.2.1)).mono fun e W3 ⟨he, b3⟩ => ⟨.agg (ub (codeV ks zs (xorV ks 1 xs n) an n)).toArray, he, ?_⟩)
 simp only [Act.put, List.setIfInBounds_toArray, List.set_cons_zero, List.set_cons_succ]
 have F3 : Hid (Below g4 w W3 ∧ Blk W3 go 5 (ub (xorV ks 1 xs n)).toArray ∧ g4 ≤ go) := Lib.hid ⟨F2.out.1.trans (b3.mono (by have := F2.out.1.size; have := G4.out; omega)), F2.out.2.2.2.2.1.below b3, F2.out.2.2.2.2.2⟩
 clear b3 F2
 obtain ⟨W4, hW4⟩ : ∃ V, V = (W3.alloc (.cells (ub (List.replicate 16 0)).toArray 39)).setRow W3.heap.size (ub (codeV ks zs (xorV ks 1 xs n) an n)).toArray := ⟨_, rfl⟩
 refine zV (.pointer (some ⟨W3.heap.size, 0, none⟩)) (W3.alloc (.cells (ub (List.replicate 16 0)).toArray 39)) (by kernel_rfl) ?_
 refine wpList_store_rowTo rfl 39 _ _ rfl rfl W3.heap.size (ub (codeV ks zs (xorV ks 1 xs n) an n)).toArray rfl rfl 39 _ (Blk.new _ _ _) (by simp only [List.size_toArray, ub_len, codeV_len]; kernel_rfl) (by simp only [List.size_toArray, ub_len, codeV_len, ub_len, List.length_replicate]) (ub_one _) ?_
 rw [← hW4]
 have b9 : Below W3.heap.size W3 W4 := by rw [hW4]; exact below_setRow ((Below.refl _ _).alloc (Nat.le_refl _) _) (Nat.le_refl _) _
 have n9 : Blk W4 W3.heap.size 39 (ub (codeV ks zs (xorV ks 1 xs n) an n)).toArray := by rw [hW4]; exact setRow_heap _ _ _ _ _ _ (Blk.new _ _ _)
 have F4 : Hid (Below g4 w W4 ∧ Own W4 g4 (.slice (some ⟨go, 0, none⟩) n n) (xorV ks 1 xs n) ∧ Blk W4 W3.heap.size 39 (ub (codeV ks zs (xorV ks 1 xs n) an n)).toArray) := Lib.hid ⟨F3.out.1.trans (b9.mono (by have := F3.out.1.size; have := G4.out; omega)), own_of_blk (F3.out.2.1.below b9) (xorV_len _ _ _ _) (by have := HN.out; omega) (xorV_byte HT.out _ _ _ HR.out.2.2.1) F3.out.2.2, n9⟩
 clear b9 n9 hW4 F3
 generalize W3.heap.size = g10 at *
 go_upto_region 3 with (fail)
 refine wp_region_lit ?_
 refine zP (.slice (some ⟨go, 0, none⟩) n n) ?_
 refine zP (.slice (some ⟨g10, 0, none⟩) 16 16) ?_
 obtain ⟨v5, w5, q1, q2, q3, q4, _⟩ := append_own W4 g4 (.slice (some ⟨go, 0, none⟩) n n) (xorV ks 1 xs n) (codeV ks zs (xorV ks 1 xs n) an n) (some ⟨g10, 0, none⟩) 16 16 F4.out.2.1 (row_of_blk2 F4.out.2.2 (codeV_len _ _ _ _ _) (by decide) (codeV_byte _ _ _ _ _)) (by rw [xorV_len]; have := HN.out; omega) (by have := F4.out.1.size; have := G4.out; omega)
 have Q1 := Lib.hid q1
 obtain ⟨a5, c5, hv⟩ := Own.slice q2
 rw [List.length_append, xorV_len, codeV_len] at hv
 subst hv
 have F9 : Hid (Below g4 w w5 ∧ Own w5 g4 (.slice a5 (n + 16) c5) ((xorV ks 1 xs n) ++ (codeV ks zs (xorV ks 1 xs n) an n))) := Lib.hid (by
  have ol := F4.out.2.1.lt
  exact ⟨F4.out.1.grown q3 (by have := F4.out.1.size; have := G4.out; omega) (fun k e => (ol k e).1), q2⟩)
 clear q2 q3 q4
 refine zV (.slice a5 (n + 16) c5) w5 (run_app _ _ _ _ _ _ _ _ _ rfl rfl rfl rfl Q1.out) ?_
 clear Q1
 refine zP (.slice a5 (n + 16) c5) ?_
 go_wp2_with fail
 go_ret
 exact ⟨a5, c5, rfl, by rw [G4.out]; exact F9.out.1, by rw [G4.out]; exact F9.out.2⟩
set_option maxHeartbeats 1500000 in
set_option maxRecDepth 100000 in
theorem refseal_two {KV NV : List Value} {ks : Nat → List Int} (hT : Two KV NV ks) (sp aa : Option Addr) (n cp an ac : Nat) (xs zs : List Int) (hn : n ≤ 5000) (han : an ≤ 5000) (hFA : Fit aa an ac) (w : World) (hR : Row w sp n xs) (hZ : Row w aa an zs) :
  Calls Tryd.prog 15 #[.agg KV.toArray, .agg NV.toArray, .slice sp n cp, .slice aa an ac] w fun e w' => givesO w e w' (n + 16) (sealV ks xs zs n an) := by
 have HT := Lib.hid hT
 have HN := Lib.hid hn
 have HAN := Lib.hid han
 have HFA := Lib.hid hFA
 have HR := Lib.hid hR
 have HZ := Lib.hid hZ
 clear hT hn han hFA hR hZ
 go_enter Tryd.func15, Tryd.ntmps15
 go_upto_region 1 with (fail)
 obtain ⟨W1, hW1⟩ : ∃ V, V = (w.alloc (.cells KV.toArray 22)).alloc (.cells NV.toArray 27) := ⟨_, rfl⟩
 rw [← hW1]
 have b1 : Below w.heap.size w W1 := by rw [hW1]; exact ((Below.refl _ _).alloc (Nat.le_refl _) _).alloc (by simp) _
 have F1 : Hid (Below w.heap.size w W1 ∧ Blk W1 w.heap.size 22 KV.toArray ∧ Blk W1 (w.heap.size + 1) 27 NV.toArray ∧ Row W1 sp n xs ∧ Row W1 aa an zs) := Lib.hid (by
  refine ⟨b1, ?_, ?_, HR.out.keep b1, HZ.out.keep b1⟩
  ·rw [hW1]; exact (Blk.new _ _ _).alloc _
  ·rw [hW1]; exact Blk.new' _ _ _ _ (by simp))
 clear hW1 b1
 generalize w.heap.size + 1 = g5 at *
 obtain ⟨g4, hg4⟩ : ∃ q, w.heap.size = q := ⟨_, rfl⟩
 have G4 : Hid (w.heap.size = g4) := Lib.hid hg4
 rw [hg4] at F1
 rw [hg4]
 clear hg4
 refine wp_region_lit ?_
 refine wpL_load 22 _ rfl rfl g4 0 rfl KV _ (blk_rangeC (F1.out.2.1)) Tryd.underlying22 rfl (by rw [HT.out.2.2.2.1]; kernel_rfl) ?_
 simp only [Act.put, List.setIfInBounds_toArray, List.set_cons_zero, List.set_cons_succ]
 refine wpL_load 27 _ rfl rfl g5 0 rfl NV _ (blk_rangeC (F1.out.2.2.1)) Tryd.underlying27 rfl (by rw [HT.out.2.2.2.2]; kernel_rfl) ?_
 simp only [Act.put, List.setIfInBounds_toArray, List.set_cons_zero, List.set_cons_succ]
 refine zP (.slice sp n cp) ?_
 refine wpL_call 26 #[.agg KV.toArray, .agg NV.toArray, .int .u32 1, .slice sp n cp] rfl (by kernel_rfl) (((refxor1 HT.out n cp sp xs (by have := HN.out; omega) W1 F1.out.2.2.2.1)).mono fun e W2 ⟨a9, c9, he, b2, o2⟩ => ⟨.slice a9 n c9, he, ?_⟩)
 simp only [Act.put, List.setIfInBounds_toArray, List.set_cons_zero, List.set_cons_succ]
 have F2 : Hid (Below g4 w W2 ∧ Blk W2 g4 22 KV.toArray ∧ Blk W2 g5 27 NV.toArray ∧ Own W2 g4 (.slice a9 n c9) (xorV ks 1 xs n)) := Lib.hid ⟨F1.out.1.trans (b2.mono (by have := F1.out.1.size; have := G4.out; omega)), F1.out.2.1.below b2, F1.out.2.2.1.below b2, o2.mono (by have := F1.out.1.size; have := G4.out; omega)⟩
 clear b2 o2 F1
 refine zP (.slice a9 n c9) ?_
 go_upto_region 2 with (fail)
 refine wp_region_lit ?_
 refine wpL_load 22 _ rfl rfl g4 0 rfl KV _ (blk_rangeC (F2.out.2.1)) Tryd.underlying22 rfl (by rw [HT.out.2.2.2.1]; kernel_rfl) ?_
 simp only [Act.put, List.setIfInBounds_toArray, List.set_cons_zero, List.set_cons_succ]
 refine wpL_load 27 _ rfl rfl g5 0 rfl NV _ (blk_rangeC (F2.out.2.2.1)) Tryd.underlying27 rfl (by rw [HT.out.2.2.2.2]; kernel_rfl) ?_
 simp only [Act.put, List.setIfInBounds_toArray, List.set_cons_zero, List.set_cons_succ]
 refine wpL_call 27 #[.agg KV.toArray, .agg NV.toArray, .int .u32 0] rfl (by kernel_rfl) (((refblock0 HT.out W2)).mono fun e W3 ⟨he, b3⟩ => ⟨.agg (ub (ks 0)).toArray, he, ?_⟩)
 simp only [Act.put, List.setIfInBounds_toArray, List.set_cons_zero, List.set_cons_succ]
 have F3 : Hid (Below g4 w W3 ∧ Own W3 g4 (.slice a9 n c9) (xorV ks 1 xs n)) := Lib.hid ⟨F2.out.1.trans (b3.mono (by have := F2.out.1.size; have := G4.out; omega)), F2.out.2.2.2.below b3⟩
 clear b3 F2
 obtain ⟨W4, hW4⟩ : ∃ V, V = (W3.alloc (.cells (ub (List.replicate 64 0)).toArray 53)).setRow W3.heap.size (ub (ks 0)).toArray := ⟨_, rfl⟩
 refine zV (.pointer (some ⟨W3.heap.size, 0, none⟩)) (W3.alloc (.cells (ub (List.replicate 64 0)).toArray 53)) (by kernel_rfl) ?_
 refine wpList_store_rowTo rfl 53 _ _ rfl rfl W3.heap.size (ub (ks 0)).toArray rfl rfl 53 _ (Blk.new _ _ _) (by simp only [List.size_toArray, ub_len, (HT.out.2.2.1 0).1]; kernel_rfl) (by simp only [List.size_toArray, ub_len, (HT.out.2.2.1 0).1, ub_len, List.length_replicate]) (ub_one _) ?_
 rw [← hW4]
 have b9 : Below W3.heap.size W3 W4 := by rw [hW4]; exact below_setRow ((Below.refl _ _).alloc (Nat.le_refl _) _) (Nat.le_refl _) _
 have n9 : Blk W4 W3.heap.size 53 (ub (ks 0)).toArray := by rw [hW4]; exact setRow_heap _ _ _ _ _ _ (Blk.new _ _ _)
 have F4 : Hid (Below g4 w W4 ∧ Own W4 g4 (.slice a9 n c9) (xorV ks 1 xs n) ∧ Blk W4 W3.heap.size 53 (ub (ks 0)).toArray) := Lib.hid ⟨F3.out.1.trans (b9.mono (by have := F3.out.1.size; have := G4.out; omega)), F3.out.2.below b9, n9⟩
 clear b9 n9 hW4 F3
 generalize W3.heap.size = gb at *
 go_upto_region 3 with (fail)
 refine wp_region_lit ?_
 obtain ⟨W5, hW5⟩ : ∃ V, V = W4.alloc (.cells (ub (List.replicate 32 0)).toArray 22) := ⟨_, rfl⟩
 refine zV (.pointer (some ⟨W4.heap.size, 0, none⟩)) W5 (by rw [hW5]; kernel_rfl) ?_
 have F5 : Hid (Below g4 w W5 ∧ Own W5 g4 (.slice a9 n c9) (xorV ks 1 xs n) ∧ Blk W5 gb 53 (ub (ks 0)).toArray ∧ Blk W5 W4.heap.size 22 (ub (outV (kb ks) 32 0)).toArray) := Lib.hid (by
  rw [hW5, outV_zero]
  exact ⟨F4.out.1.alloc (by have := F4.out.1.size; have := G4.out; omega) _, F4.out.2.1.alloc _, F4.out.2.2.alloc _, Blk.new _ _ _⟩)
 have L5 : Hid (gb < W4.heap.size ∧ (∀ k, (Value.slice a9 n c9).ownBlock = some k → k < W4.heap.size) ∧ g4 ≤ W4.heap.size) := Lib.hid ⟨F4.out.2.2.lt, fun k e => (F4.out.2.1.lt k e).2, by have := F4.out.1.size; have := G4.out; omega⟩
 clear hW5 F4
 generalize W4.heap.size = gk at *
 go_upto_region 4 with (fail)
 refine wp_region_lit ?_
 refine zP (.int .i64 0) ?_
 unfold wpList
 go_wp2_with fail
 go_loopw [12] (fun s12 wr => ∃ i : Nat, s12 = .int .i64 ((i : Nat) : Int) ∧ Hid (i ≤ 32 ∧ Below g4 w wr ∧ Own wr g4 (.slice a9 n c9) (xorV ks 1 xs n) ∧ Blk wr gb 53 (ub (ks 0)).toArray ∧ Blk wr gk 22 (ub (outV (kb ks) 32 (i))).toArray)) (fun s12 _ => 32 - (intOf s12).toNat)
 case atStart => exact ⟨0, rfl, Lib.hid ⟨by omega, F5.out⟩⟩
 case round =>
  obtain ⟨i, rfl, RI⟩ := hrel
  by_cases hlt : i < 32
  ·have HK := Lib.hid hlt
   clear hlt
   go_upto_region 5 with (fail)
   refine wp_region_lit ?_
   refine zP (.int .i64 ((i : Nat) : Int)) ?_
   refine zQ (.bool true) (run_lti Tryd.underlying3 rfl rfl rfl (by have := HK.out; rw [decide_eq_true_eq]; omega)) ?_
   go_upto_region 7 with (fail)
   refine wp_region_lit ?_
   refine zP (.int .i64 ((i : Nat) : Int)) ?_
   refine zP (.int .i64 ((i : Nat) : Int)) ?_
   refine zQ (.pointer (some ⟨gb, 0 + i, none⟩)) (run_idxa64 _ _ _ _ _ gb 0 i rfl rfl rfl (by have := HK.out; omega)) ?_
   refine zQ (.int .u8 (kb ks i)) (run_load_one _ _ _ 5 _ _ rfl gb (0 + i) rfl (ub_cell RI.out.2.2.2.1 (by rw [(HT.out.2.2.1 0).1]; have := HK.out; omega)) (by kernel_rfl)) ?_
   refine zQ (.pointer (some ⟨gk, 0 + i, none⟩)) (run_idxa32 _ _ _ _ _ gk 0 i rfl rfl rfl HK.out) ?_
   refine wpL_store_one rfl rfl (gk) (0 + i) rfl (.int .u8 (kb ks i)) rfl rfl size5 ((ub_some RI.out.2.2.2.2 (by rw [outV_len]; exact HK.out))) (RI.out.2.2.2.2.free _) ?_
   simp only [Act.put, List.setIfInBounds_toArray, List.set_cons_zero, List.set_cons_succ]
   obtain ⟨w2, hw2⟩ : ∃ V, V = wr.setCell ⟨gk, 0 + i, none⟩ (.int .u8 (kb ks i)) := ⟨_, rfl⟩
   rw [← hw2]
   have NX : Hid (i + 1 ≤ 32 ∧ Below g4 w w2 ∧ Own w2 g4 (.slice a9 n c9) (xorV ks 1 xs n) ∧ Blk w2 gb 53 (ub (ks 0)).toArray ∧ Blk w2 gk 22 (ub (outV (kb ks) 32 (i + 1))).toArray) := Lib.hid (by
    have hl := L5.out
    refine ⟨HK.out, ?_, ?_, ?_, ?_⟩
    ·rw [hw2]; exact RI.out.2.1.setCell (p := ⟨gk, 0 + i, none⟩) hl.2.2 _
    ·rw [hw2]; exact RI.out.2.2.1.other _ _ (fun e => by have := hl.2.1 _ e; exact absurd this (Nat.lt_irrefl _))
    ·rw [hw2]; exact RI.out.2.2.2.1.other _ _ (Nat.ne_of_lt hl.1)
    ·have h := Blk.set RI.out.2.2.2.2 (0 + i) (.int .u8 (kb ks i))
     rw [← hw2, Nat.zero_add, ub_set, outV_set] at h
     exact h)
   clear hw2
   go_upto_region 6 with (fail)
   refine wp_region_lit ?_
   refine zP (.int .i64 ((i : Nat) : Int)) ?_
   refine zQ (.int .i64 ((i + 1 : Nat) : Int)) (run_addi Tryd.underlying3 rfl rfl rfl _ (by have := HK.out; rw [wrap_in _ (by omega) (by omega)]; omega)) ?_
   refine zP (.int .i64 ((i + 1 : Nat) : Int)) ?_
   unfold wpList
   go_roundw
   case rel => first | exact ⟨_, rfl, NX⟩ | ((repeat apply Exists.intro); exact ⟨⟨_, rfl, NX⟩, rfl⟩)
   case measure => simp [intOf]; have := HK.out; omega
  ·have EK : Hid (i = 32) := Lib.hid (by have := RI.out.1; omega)
   clear hlt
   have F6 : Hid (Below g4 w wr ∧ Own wr g4 (.slice a9 n c9) (xorV ks 1 xs n) ∧ Blk wr gk 22 (ub ((ks 0).take 32)).toArray ∧ Row wr aa an zs ∧ g4 ≤ wr.heap.size) := Lib.hid (by have h := RI.out.2; rw [EK.out, kb_all HT.out] at h; exact ⟨h.1, h.2.1, h.2.2.2, Row.below (w := w) HZ.out g4 h.1 (Nat.le_of_eq G4.out), by have := h.1.size; have := G4.out; omega⟩)
   go_upto_region 5 with (fail)
   refine wp_region_lit ?_
   refine zP (.int .i64 ((i : Nat) : Int)) ?_
   refine zQ (.bool false) (run_lti Tryd.underlying3 rfl rfl rfl (by have := EK.out; rw [decide_eq_false_iff_not]; omega)) ?_
   have EM0 : Hid (True ∧ ([] : List Int).length = 0 ∧ (0 : Nat) ≤ 0) := Lib.hid ⟨trivial, rfl, Nat.le_refl _⟩
   have FA : Hid (Below wr.heap.size wr wr ∧ Own wr wr.heap.size (.slice none 0 0) []) := Lib.hid ⟨Below.refl _ _, Own.nil _ _⟩
   clear RI F5
   go_upto_region 8 with (fail)
   refine wp_region_lit ?_
   refine zP (.slice none 0 0) ?_
   go_upto_region 9 with (fail)
   refine wp_region_lit ?_
   refine zP (.slice none 0 0) ?_
   refine zP (.slice aa an ac) ?_
   refine wpL_call 28 #[.slice aa an ac] rfl (by kernel_rfl) ((fill_any aa an ac zs (by have := HAN.out; omega) wr (F6.out.2.2.2.1.keep FA.out.1)).mono fun e X1 ⟨p1, d1, he, b7, o7⟩ => ⟨.slice p1 (an + pd an) d1, he, ?_⟩)
   simp only [Act.put, List.setIfInBounds_toArray, List.set_cons_zero, List.set_cons_succ]
   have P1 : Hid (Below wr.heap.size wr X1 ∧ Own X1 wr.heap.size (.slice none 0 0) [] ∧ Row X1 p1 (an + pd an) (zs ++ List.replicate (pd an) 0)) := Lib.hid ⟨FA.out.1.trans (b7.mono FA.out.1.size), FA.out.2.below b7, o7.row.1⟩
   clear b7 o7
   obtain ⟨v5, Y1, q1, q2, q3, q4, _⟩ := append_own X1 wr.heap.size (.slice none 0 0) [] (zs ++ List.replicate (pd an) 0) p1 (an + pd an) d1 P1.out.2.1 P1.out.2.2 (by have h1 := HN.out; have h2 := HAN.out; have h3 : pd an < 16 := Nat.mod_lt _ (by decide); have h4 : pd n < 16 := Nat.mod_lt _ (by decide); have h5 := EM0.out.2.1; have h6 := EM0.out.2.2; rw [h5]; omega) P1.out.1.size
   obtain ⟨M1, hM⟩ : ∃ l, l = [] ++ (zs ++ List.replicate (pd an) 0) := ⟨_, rfl⟩
   rw [← hM] at q2
   obtain ⟨e1, f1, hv⟩ := Own.slice q2
   obtain ⟨m1, hm⟩ : ∃ q, M1.length = q := ⟨_, rfl⟩
   rw [hm] at hv
   subst hv
   have EM1 : Hid (M1 = [] ++ (zs ++ List.replicate (pd an) 0) ∧ M1.length = m1 ∧ m1 ≤ 1 * 6000) := Lib.hid ⟨hM, hm, by have h1 := HN.out; have h2 := HAN.out; have h3 : pd an < 16 := Nat.mod_lt _ (by decide); have h4 : pd n < 16 := Nat.mod_lt _ (by decide); have h5 := EM0.out.2.1; have h6 := EM0.out.2.2; rw [← hm, hM, List.length_append, h5, P1.out.2.2.1]; omega⟩
   have Q1 := Lib.hid q1
   have FA1 : Hid (Below wr.heap.size wr Y1 ∧ Own Y1 wr.heap.size (.slice e1 m1 f1) M1) := Lib.hid (by
    have ol := P1.out.2.1.lt
    exact ⟨P1.out.1.grown q3 P1.out.1.size (fun k e => (ol k e).1), q2⟩)
   clear q1 q2 q3 q4 hM hm
   refine zV (.slice e1 m1 f1) Y1 (run_app _ _ _ _ _ _ (.slice none 0 0) (.slice p1 (an + pd an) d1) _ rfl rfl rfl rfl Q1.out) ?_
   clear Q1
   refine zP (.slice e1 m1 f1) ?_
   go_upto_region 10 with (fail)
   refine wp_region_lit ?_
   refine zP (.slice e1 m1 f1) ?_
   refine zP (.slice a9 n c9) ?_
   refine wpL_call 28 #[.slice a9 n c9] rfl (by kernel_rfl) ((fill_any a9 n c9 (xorV ks 1 xs n) (by have := HN.out; omega) Y1 (F6.out.2.1.row.1.keep FA1.out.1)).mono fun e X2 ⟨p2, d2, he, b7, o7⟩ => ⟨.slice p2 (n + pd n) d2, he, ?_⟩)
   simp only [Act.put, List.setIfInBounds_toArray, List.set_cons_zero, List.set_cons_succ]
   have P2 : Hid (Below wr.heap.size wr X2 ∧ Own X2 wr.heap.size (.slice e1 m1 f1) M1 ∧ Row X2 p2 (n + pd n) ((xorV ks 1 xs n) ++ List.replicate (pd n) 0)) := Lib.hid ⟨FA1.out.1.trans (b7.mono FA1.out.1.size), FA1.out.2.below b7, o7.row.1⟩
   clear b7 o7
   obtain ⟨v5, Y2, q1, q2, q3, q4, _⟩ := append_own X2 wr.heap.size (.slice e1 m1 f1) M1 ((xorV ks 1 xs n) ++ List.replicate (pd n) 0) p2 (n + pd n) d2 P2.out.2.1 P2.out.2.2 (by have h1 := HN.out; have h2 := HAN.out; have h3 : pd an < 16 := Nat.mod_lt _ (by decide); have h4 : pd n < 16 := Nat.mod_lt _ (by decide); have h5 := EM1.out.2.1; have h6 := EM1.out.2.2; rw [h5]; omega) P2.out.1.size
   obtain ⟨M2, hM⟩ : ∃ l, l = M1 ++ ((xorV ks 1 xs n) ++ List.replicate (pd n) 0) := ⟨_, rfl⟩
   rw [← hM] at q2
   obtain ⟨e2, f2, hv⟩ := Own.slice q2
   obtain ⟨m2, hm⟩ : ∃ q, M2.length = q := ⟨_, rfl⟩
   rw [hm] at hv
   subst hv
   have EM2 : Hid (M2 = M1 ++ ((xorV ks 1 xs n) ++ List.replicate (pd n) 0) ∧ M2.length = m2 ∧ m2 ≤ 2 * 6000) := Lib.hid ⟨hM, hm, by have h1 := HN.out; have h2 := HAN.out; have h3 : pd an < 16 := Nat.mod_lt _ (by decide); have h4 : pd n < 16 := Nat.mod_lt _ (by decide); have h5 := EM1.out.2.1; have h6 := EM1.out.2.2; rw [← hm, hM, List.length_append, h5, P2.out.2.2.1]; omega⟩
   have Q1 := Lib.hid q1
   have FA2 : Hid (Below wr.heap.size wr Y2 ∧ Own Y2 wr.heap.size (.slice e2 m2 f2) M2) := Lib.hid (by
    have ol := P2.out.2.1.lt
    exact ⟨P2.out.1.grown q3 P2.out.1.size (fun k e => (ol k e).1), q2⟩)
   clear q1 q2 q3 q4 hM hm
   refine zV (.slice e2 m2 f2) Y2 (run_app _ _ _ _ _ _ (.slice e1 m1 f1) (.slice p2 (n + pd n) d2) _ rfl rfl rfl rfl Q1.out) ?_
   clear Q1
   refine zP (.slice e2 m2 f2) ?_
   go_upto_region 11 with (fail)
   refine wp_region_lit ?_
   refine zP (.slice e2 m2 f2) ?_
   refine zP (.slice aa an ac) ?_
   refine zP (.int .i64 (an : Int)) ?_
   refine wpL_call 29 #[.int .i64 (an : Int)] rfl (by kernel_rfl) ((little_any an (by have := HAN.out; omega) Y2).mono fun e X3 ⟨p3, d3, he, b7, o7⟩ => ⟨.slice p3 (8) d3, he, ?_⟩)
   simp only [Act.put, List.setIfInBounds_toArray, List.set_cons_zero, List.set_cons_succ]
   have P3 : Hid (Below wr.heap.size wr X3 ∧ Own X3 wr.heap.size (.slice e2 m2 f2) M2 ∧ Row X3 p3 (8) (len8 an)) := Lib.hid ⟨FA2.out.1.trans (b7.mono FA2.out.1.size), FA2.out.2.below b7, o7.row.1⟩
   clear b7 o7
   obtain ⟨v5, Y3, q1, q2, q3, q4, _⟩ := append_own X3 wr.heap.size (.slice e2 m2 f2) M2 (len8 an) p3 (8) d3 P3.out.2.1 P3.out.2.2 (by have h1 := HN.out; have h2 := HAN.out; have h3 : pd an < 16 := Nat.mod_lt _ (by decide); have h4 : pd n < 16 := Nat.mod_lt _ (by decide); have h5 := EM2.out.2.1; have h6 := EM2.out.2.2; rw [h5]; omega) P3.out.1.size
   obtain ⟨M3, hM⟩ : ∃ l, l = M2 ++ (len8 an) := ⟨_, rfl⟩
   rw [← hM] at q2
   obtain ⟨e3, f3, hv⟩ := Own.slice q2
   obtain ⟨m3, hm⟩ : ∃ q, M3.length = q := ⟨_, rfl⟩
   rw [hm] at hv
   subst hv
   have EM3 : Hid (M3 = M2 ++ (len8 an) ∧ M3.length = m3 ∧ m3 ≤ 3 * 6000) := Lib.hid ⟨hM, hm, by have h1 := HN.out; have h2 := HAN.out; have h3 : pd an < 16 := Nat.mod_lt _ (by decide); have h4 : pd n < 16 := Nat.mod_lt _ (by decide); have h5 := EM2.out.2.1; have h6 := EM2.out.2.2; rw [← hm, hM, List.length_append, h5, P3.out.2.2.1]; omega⟩
   have Q1 := Lib.hid q1
   have FA3 : Hid (Below wr.heap.size wr Y3 ∧ Own Y3 wr.heap.size (.slice e3 m3 f3) M3) := Lib.hid (by
    have ol := P3.out.2.1.lt
    exact ⟨P3.out.1.grown q3 P3.out.1.size (fun k e => (ol k e).1), q2⟩)
   clear q1 q2 q3 q4 hM hm
   refine zV (.slice e3 m3 f3) Y3 (run_app _ _ _ _ _ _ (.slice e2 m2 f2) (.slice p3 (8) d3) _ rfl rfl rfl rfl Q1.out) ?_
   clear Q1
   refine zP (.slice e3 m3 f3) ?_
   go_upto_region 12 with (fail)
   refine wp_region_lit ?_
   refine zP (.slice e3 m3 f3) ?_
   refine zP (.slice a9 n c9) ?_
   refine zP (.int .i64 (n : Int)) ?_
   refine wpL_call 29 #[.int .i64 (n : Int)] rfl (by kernel_rfl) ((little_any n (by have := HN.out; omega) Y3).mono fun e X4 ⟨p4, d4, he, b7, o7⟩ => ⟨.slice p4 (8) d4, he, ?_⟩)
   simp only [Act.put, List.setIfInBounds_toArray, List.set_cons_zero, List.set_cons_succ]
   have P4 : Hid (Below wr.heap.size wr X4 ∧ Own X4 wr.heap.size (.slice e3 m3 f3) M3 ∧ Row X4 p4 (8) (len8 n)) := Lib.hid ⟨FA3.out.1.trans (b7.mono FA3.out.1.size), FA3.out.2.below b7, o7.row.1⟩
   clear b7 o7
   obtain ⟨v5, Y4, q1, q2, q3, q4, _⟩ := append_own X4 wr.heap.size (.slice e3 m3 f3) M3 (len8 n) p4 (8) d4 P4.out.2.1 P4.out.2.2 (by have h1 := HN.out; have h2 := HAN.out; have h3 : pd an < 16 := Nat.mod_lt _ (by decide); have h4 : pd n < 16 := Nat.mod_lt _ (by decide); have h5 := EM3.out.2.1; have h6 := EM3.out.2.2; rw [h5]; omega) P4.out.1.size
   obtain ⟨M4, hM⟩ : ∃ l, l = M3 ++ (len8 n) := ⟨_, rfl⟩
   rw [← hM] at q2
   obtain ⟨e4, f4, hv⟩ := Own.slice q2
   obtain ⟨m4, hm⟩ : ∃ q, M4.length = q := ⟨_, rfl⟩
   rw [hm] at hv
   subst hv
   have EM4 : Hid (M4 = M3 ++ (len8 n) ∧ M4.length = m4 ∧ m4 ≤ 4 * 6000) := Lib.hid ⟨hM, hm, by have h1 := HN.out; have h2 := HAN.out; have h3 : pd an < 16 := Nat.mod_lt _ (by decide); have h4 : pd n < 16 := Nat.mod_lt _ (by decide); have h5 := EM3.out.2.1; have h6 := EM3.out.2.2; rw [← hm, hM, List.length_append, h5, P4.out.2.2.1]; omega⟩
   have Q1 := Lib.hid q1
   have FA4 : Hid (Below wr.heap.size wr Y4 ∧ Own Y4 wr.heap.size (.slice e4 m4 f4) M4) := Lib.hid (by
    have ol := P4.out.2.1.lt
    exact ⟨P4.out.1.grown q3 P4.out.1.size (fun k e => (ol k e).1), q2⟩)
   clear q1 q2 q3 q4 hM hm
   refine zV (.slice e4 m4 f4) Y4 (run_app _ _ _ _ _ _ (.slice e3 m3 f3) (.slice p4 (8) d4) _ rfl rfl rfl rfl Q1.out) ?_
   clear Q1
   refine zP (.slice e4 m4 f4) ?_
   go_upto_region 13 with (fail)
   refine wp_region_lit ?_
   refine wpL_load 22 _ rfl rfl gk 0 rfl (ub ((ks 0).take 32)) _ (blk_rangeC (F6.out.2.2.1.below FA4.out.1)) Tryd.underlying22 rfl (by rw [ub_len, (key_ok HT.out).1]; kernel_rfl) ?_
   simp only [Act.put, List.setIfInBounds_toArray, List.set_cons_zero, List.set_cons_succ]
   refine zP (.slice e4 m4 f4) ?_
   refine wpL_call 30 #[.agg (ub ((ks 0).take 32)).toArray, .slice e4 m4 f4] rfl (by kernel_rfl) ((Po.refcode_any Y4 ((ks 0).take 32) e4 (m4) f4 M4 (key_ok HT.out) (And.intro FA4.out.2.row.1 (fit_own FA4.out.2)) (by have h5 := EM4.out.2.2; omega)).mono fun e Z1 ⟨he, b7⟩ => ⟨.agg (ub (codeV ks zs (xorV ks 1 xs n) an n)).toArray, by rw [he, code_same zs (xorV ks 1 xs n) an n EM1.out.1 EM2.out.1 EM3.out.1 EM4.out.1]; rfl, ?_⟩)
   simp only [Act.put, List.setIfInBounds_toArray, List.set_cons_zero, List.set_cons_succ]
   have E1 : Hid (Below g4 w Z1 ∧ Own Z1 g4 (.slice a9 n c9) (xorV ks 1 xs n)) := Lib.hid (by
    have b8 : Below wr.heap.size wr Z1 := FA4.out.1.trans (b7.mono FA4.out.1.size)
    exact ⟨F6.out.1.trans (b8.mono F6.out.2.2.2.2), F6.out.2.1.below b8⟩)
   clear b7
   obtain ⟨Z2, hZ2⟩ : ∃ V, V = (Z1.alloc (.cells (ub (List.replicate 16 0)).toArray 39)).setRow Z1.heap.size (ub (codeV ks zs (xorV ks 1 xs n) an n)).toArray := ⟨_, rfl⟩
   refine zV (.pointer (some ⟨Z1.heap.size, 0, none⟩)) (Z1.alloc (.cells (ub (List.replicate 16 0)).toArray 39)) (by kernel_rfl) ?_
   refine wpList_store_rowTo rfl 39 _ _ rfl rfl Z1.heap.size (ub (codeV ks zs (xorV ks 1 xs n) an n)).toArray rfl rfl 39 _ (Blk.new _ _ _) (by simp only [List.size_toArray, ub_len, codeV_len]; kernel_rfl) (by simp only [List.size_toArray, ub_len, codeV_len, ub_len, List.length_replicate]) (ub_one _) ?_
   rw [← hZ2]
   have b9 : Below Z1.heap.size Z1 Z2 := by rw [hZ2]; exact below_setRow ((Below.refl _ _).alloc (Nat.le_refl _) _) (Nat.le_refl _) _
   have n9 : Blk Z2 Z1.heap.size 39 (ub (codeV ks zs (xorV ks 1 xs n) an n)).toArray := by rw [hZ2]; exact setRow_heap _ _ _ _ _ _ (Blk.new _ _ _)
   have E2 : Hid (Below g4 w Z2 ∧ Own Z2 g4 (.slice a9 n c9) (xorV ks 1 xs n) ∧ Blk Z2 Z1.heap.size 39 (ub (codeV ks zs (xorV ks 1 xs n) an n)).toArray) := Lib.hid ⟨E1.out.1.trans (b9.mono (by have := E1.out.1.size; have := G4.out; omega)), E1.out.2.below b9, n9⟩
   clear b9 n9 hZ2 E1
   generalize Z1.heap.size = g10 at *
   go_upto_region 14 with (fail)
   refine wp_region_lit ?_
   refine zP (.slice a9 n c9) ?_
   refine zP (.slice (some ⟨g10, 0, none⟩) 16 16) ?_
   obtain ⟨v5, w5, q1, q2, q3, q4, _⟩ := append_own Z2 g4 (.slice a9 n c9) (xorV ks 1 xs n) (codeV ks zs (xorV ks 1 xs n) an n) (some ⟨g10, 0, none⟩) 16 16 E2.out.2.1 (row_of_blk2 E2.out.2.2 (codeV_len _ _ _ _ _) (by decide) (codeV_byte _ _ _ _ _)) (by rw [xorV_len]; have := HN.out; omega) (by have := E2.out.1.size; have := G4.out; omega)
   have Q1 := Lib.hid q1
   obtain ⟨a5, c5, hv⟩ := Own.slice q2
   rw [List.length_append, xorV_len, codeV_len] at hv
   subst hv
   have F9 : Hid (Below g4 w w5 ∧ Own w5 g4 (.slice a5 (n + 16) c5) ((xorV ks 1 xs n) ++ (codeV ks zs (xorV ks 1 xs n) an n))) := Lib.hid (by
    have ol := E2.out.2.1.lt
    exact ⟨E2.out.1.grown q3 (by have := E2.out.1.size; have := G4.out; omega) (fun k e => (ol k e).1), q2⟩)
   clear q2 q3 q4
   refine zV (.slice a5 (n + 16) c5) w5 (run_app _ _ _ _ _ _ _ _ _ rfl rfl rfl rfl Q1.out) ?_
   clear Q1
   refine zP (.slice a5 (n + 16) c5) ?_
   go_wp2_with fail
   go_ret
   exact ⟨a5, c5, rfl, by rw [G4.out]; exact F9.out.1, by rw [G4.out]; exact F9.out.2⟩
end Go.Proofs.YtlbfohpkngmaoaaDoor.Ch.B.Se
