/- Seal: the program's and the reference's. -/
import Derived.Test.YtlbfohpkngmaoaaS3n
namespace Go.Proofs.Ytlbfohpkngmaoaa.Ch.B.Se
open Go Go.RowKit

def sealV (ks : Nat → List Int) (xs zs : List Int) (n an : Nat) : List Int := (xorV ks 1 xs n) ++ (codeV ks zs (xorV ks 1 xs n) an n)
theorem xor1 {KV NV : List Value} {ks : Nat → List Int} (h : Two KV NV ks) (n cp : Nat) (sp : Option Addr) (xs : List Int) (hn : n ≤ 65536) (w : World) (hR : Row w sp n xs) :
    Calls Try.prog 10 #[.agg KV.toArray, .agg NV.toArray, .int .u32 1, .slice sp n cp] w fun e w' => ∃ g, e = .returned (.slice (some ⟨g, 0, none⟩) n n) ∧ Below w.heap.size w w' ∧ w.heap.size ≤ g ∧ Blk w' g 5 (ub (xorV ks 1 xs n)).toArray := xor_two h 1 (by decide) n cp sp xs hn w hR
def kb (ks : Nat → List Int) (i : Nat) : Int := (ks 0).getD i 0
theorem kb_all {KV NV : List Value} {ks : Nat → List Int} (hT : Two KV NV ks) : outV (kb ks) 32 32 = (ks 0).take 32 := by
  rw [outV_full]
  have hl := (hT.2.2.1 0).1
  apply List.ext_getElem?
  intro i
  rw [List.getElem?_take]
  by_cases hi : i < 32
  · rw [if_pos hi, List.getElem?_map, List.getElem?_range hi, List.getElem?_eq_getElem (show i < (ks 0).length by omega)]
    simp only [Option.map_some, Option.some.injEq]
    unfold kb
    rw [List.getD, List.getElem?_eq_getElem (show i < (ks 0).length by omega)]
    rfl
  · rw [if_neg hi, List.getElem?_eq_none (by simp; omega)]
theorem row_of_blk2 {w : World} {g t n : Nat} {l : List Int} (h : Blk w g t (ub l).toArray) (hl : l.length = n) (hn : n ≤ 100000) (hb : ∀ x ∈ l, 0 ≤ x ∧ x ≤ 255) : Row w (some ⟨g, 0, none⟩) n l :=
  ⟨hl, by unfold maxLen; omega, hb, fun j hj => ⟨g, 0, rfl, ub_cell h (by omega)⟩⟩
theorem run_idxa64 (a : Act) (o : Oper) (w : World) (x i : Operand) (g off k : Nat) (ho : o.op = .indexAddr 42 x i) (hx : a.eval x = .pointer (some ⟨g, off, none⟩)) (hi : a.eval i = .int .i64 (k : Int)) (hk : k < 64) : (execOp a.eval o).run Try.prog w = .ok (.value (.pointer (some ⟨g, off + k, none⟩))) w := run_idxa35 a o w x i g off k ho hx hi hk
theorem run_idxa32 (a : Act) (o : Oper) (w : World) (x i : Operand) (g off k : Nat) (ho : o.op = .indexAddr 31 x i) (hx : a.eval x = .pointer (some ⟨g, off, none⟩)) (hi : a.eval i = .int .i64 (k : Int)) (hk : k < 32) : (execOp a.eval o).run Try.prog w = .ok (.value (.pointer (some ⟨g, off + k, none⟩))) w := by
  have j0 : (0 : Int) ≤ (k : Int) := by omega
  have j6 : (k : Int) < 32 := by omega
  unfold execOp
  simp only [ho, hx, hi]
  go_simp
attribute [local irreducible] wpList wpAny
set_option maxHeartbeats 1500000 in
set_option maxRecDepth 100000 in
theorem seal_two {KV NV : List Value} {ks : Nat → List Int} (hT : Two KV NV ks) (sp aa : Option Addr) (n cp an ac : Nat) (xs zs : List Int) (hn : n ≤ 5000) (han : an ≤ 5000) (hFA : Fit aa an ac) (w : World) (hR : Row w sp n xs) (hZ : Row w aa an zs) :
    Calls Try.prog 8 #[.agg KV.toArray, .agg NV.toArray, .slice sp n cp, .slice aa an ac] w fun e w' => givesO w e w' (n + 16) (sealV ks xs zs n an) := by
  have HT := Lib.hid hT
  have HN := Lib.hid hn
  have HAN := Lib.hid han
  have HFA := Lib.hid hFA
  have HR := Lib.hid hR
  have HZ := Lib.hid hZ
  clear hT hn han hFA hR hZ
  go_enter Try.func8, Try.ntmps8
  go_upto_region 1 with (fail)
  obtain ⟨W1, hW1⟩ : ∃ V, V = (w.alloc (.cells KV.toArray 32)).alloc (.cells NV.toArray 26) := ⟨_, rfl⟩
  rw [← hW1]
  have b1 : Below w.heap.size w W1 := by rw [hW1]; exact ((Below.refl _ _).alloc (Nat.le_refl _) _).alloc (by simp) _
  have F1 : Hid (Below w.heap.size w W1 ∧ Blk W1 w.heap.size 32 KV.toArray ∧ Blk W1 (w.heap.size + 1) 26 NV.toArray ∧ Row W1 sp n xs ∧ Row W1 aa an zs) := Lib.hid (by
    refine ⟨b1, ?_, ?_, HR.out.keep b1, HZ.out.keep b1⟩
    · rw [hW1]; exact (Blk.new _ _ _).alloc _
    · rw [hW1]; exact Blk.new' _ _ _ _ (by simp))
  clear hW1 b1
  generalize w.heap.size + 1 = g5 at *
  obtain ⟨g4, hg4⟩ : ∃ q, w.heap.size = q := ⟨_, rfl⟩
  have G4 : Hid (w.heap.size = g4) := Lib.hid hg4
  rw [hg4] at F1
  rw [hg4]
  clear hg4
  refine wp_region_lit ?_
  refine wpL_load 32 _ rfl rfl g4 0 rfl KV _ (blk_rangeC (F1.out.2.1)) Try.underlying32 rfl (by rw [HT.out.2.2.2.1]; kernel_rfl) ?_
  simp only [Act.put, List.setIfInBounds_toArray, List.set_cons_zero, List.set_cons_succ]
  refine wpL_load 26 _ rfl rfl g5 0 rfl NV _ (blk_rangeC (F1.out.2.2.1)) Try.underlying26 rfl (by rw [HT.out.2.2.2.2]; kernel_rfl) ?_
  simp only [Act.put, List.setIfInBounds_toArray, List.set_cons_zero, List.set_cons_succ]
  refine wpL_pure (.slice sp n cp) rfl (by kernel_rfl) ?_
  simp only [Act.put, List.setIfInBounds_toArray, List.set_cons_zero, List.set_cons_succ]
  refine wpL_call 10 #[.agg KV.toArray, .agg NV.toArray, .int .u32 1, .slice sp n cp] rfl (by kernel_rfl) (((xor1 HT.out n cp sp xs (by have := HN.out; omega) W1 F1.out.2.2.2.1)).mono fun e W2 ⟨go, he, b2, l2, r2⟩ => ⟨.slice (some ⟨go, 0, none⟩) n n, he, ?_⟩)
  simp only [Act.put, List.setIfInBounds_toArray, List.set_cons_zero, List.set_cons_succ]
  have F2 : Hid (Below g4 w W2 ∧ Blk W2 g4 32 KV.toArray ∧ Blk W2 g5 26 NV.toArray ∧ Row W2 aa an zs ∧ Blk W2 go 5 (ub (xorV ks 1 xs n)).toArray ∧ g4 ≤ go) := Lib.hid ⟨F1.out.1.trans (b2.mono (by have := F1.out.1.size; have := G4.out; omega)), F1.out.2.1.below b2, F1.out.2.2.1.below b2, F1.out.2.2.2.2.keep b2, r2, Nat.le_trans (by have := F1.out.1.size; have := G4.out; omega) l2⟩
  clear b2 l2 r2 F1
  refine wpL_pure (.slice (some ⟨go, 0, none⟩) n n) rfl (by kernel_rfl) ?_
  simp only [Act.put, List.setIfInBounds_toArray, List.set_cons_zero, List.set_cons_succ]
  go_upto_region 2 with (fail)
  refine wp_region_lit ?_
  refine wpL_load 32 _ rfl rfl g4 0 rfl KV _ (blk_rangeC (F2.out.2.1)) Try.underlying32 rfl (by rw [HT.out.2.2.2.1]; kernel_rfl) ?_
  simp only [Act.put, List.setIfInBounds_toArray, List.set_cons_zero, List.set_cons_succ]
  refine wpL_load 26 _ rfl rfl g5 0 rfl NV _ (blk_rangeC (F2.out.2.2.1)) Try.underlying26 rfl (by rw [HT.out.2.2.2.2]; kernel_rfl) ?_
  simp only [Act.put, List.setIfInBounds_toArray, List.set_cons_zero, List.set_cons_succ]
  refine wpL_pure (.slice (some ⟨go, 0, none⟩) n n) rfl (by kernel_rfl) ?_
  simp only [Act.put, List.setIfInBounds_toArray, List.set_cons_zero, List.set_cons_succ]
  refine wpL_pure (.slice aa an ac) rfl (by kernel_rfl) ?_
  simp only [Act.put, List.setIfInBounds_toArray, List.set_cons_zero, List.set_cons_succ]
  refine wpL_call 11 #[.agg KV.toArray, .agg NV.toArray, .slice (some ⟨go, 0, none⟩) n n, .slice aa an ac] rfl (by kernel_rfl) (((code_two HT.out (some ⟨go, 0, none⟩) aa n n an ac (xorV ks 1 xs n) zs (by have := HN.out; omega) (by have := HAN.out; omega) (fit_some (by have := HN.out; omega)) HFA.out W2 (row_of_blk F2.out.2.2.2.2.1 (xorV_len _ _ _ _) (by have := HN.out; omega) (xorV_byte HT.out _ _ _ HR.out.2.2.1)) F2.out.2.2.2.1)).mono fun e W3 ⟨he, b3⟩ => ⟨.agg (ub (codeV ks zs (xorV ks 1 xs n) an n)).toArray, he, ?_⟩)
  simp only [Act.put, List.setIfInBounds_toArray, List.set_cons_zero, List.set_cons_succ]
  have F3 : Hid (Below g4 w W3 ∧ Blk W3 go 5 (ub (xorV ks 1 xs n)).toArray ∧ g4 ≤ go) := Lib.hid ⟨F2.out.1.trans (b3.mono (by have := F2.out.1.size; have := G4.out; omega)), F2.out.2.2.2.2.1.below b3, F2.out.2.2.2.2.2⟩
  clear b3 F2
  obtain ⟨W4, hW4⟩ : ∃ V, V = (W3.alloc (.cells (ub (List.replicate 16 0)).toArray 39)).setRow W3.heap.size (ub (codeV ks zs (xorV ks 1 xs n) an n)).toArray := ⟨_, rfl⟩
  refine wpL_value (.pointer (some ⟨W3.heap.size, 0, none⟩)) (W3.alloc (.cells (ub (List.replicate 16 0)).toArray 39)) rfl (by kernel_rfl) ?_
  simp only [Act.put, List.setIfInBounds_toArray, List.set_cons_zero, List.set_cons_succ]
  refine wpList_store_rowTo rfl 39 _ _ rfl rfl W3.heap.size (ub (codeV ks zs (xorV ks 1 xs n) an n)).toArray rfl rfl 39 _ (Blk.new _ _ _) (by simp only [List.size_toArray, ub_len, codeV_len]; kernel_rfl) (by simp only [List.size_toArray, ub_len, codeV_len, ub_len, List.length_replicate]) (ub_one _) ?_
  rw [← hW4]
  have b9 : Below W3.heap.size W3 W4 := by rw [hW4]; exact below_setRow ((Below.refl _ _).alloc (Nat.le_refl _) _) (Nat.le_refl _) _
  have n9 : Blk W4 W3.heap.size 39 (ub (codeV ks zs (xorV ks 1 xs n) an n)).toArray := by rw [hW4]; exact setRow_heap _ _ _ _ _ _ (Blk.new _ _ _)
  have F4 : Hid (Below g4 w W4 ∧ Own W4 g4 (.slice (some ⟨go, 0, none⟩) n n) (xorV ks 1 xs n) ∧ Blk W4 W3.heap.size 39 (ub (codeV ks zs (xorV ks 1 xs n) an n)).toArray) := Lib.hid ⟨F3.out.1.trans (b9.mono (by have := F3.out.1.size; have := G4.out; omega)), own_of_blk (F3.out.2.1.below b9) (xorV_len _ _ _ _) (by have := HN.out; omega) (xorV_byte HT.out _ _ _ HR.out.2.2.1) F3.out.2.2, n9⟩
  clear b9 n9 hW4 F3
  generalize W3.heap.size = g10 at *
  go_upto_region 3 with (fail)
  refine wp_region_lit ?_
  refine wpL_pure (.slice (some ⟨go, 0, none⟩) n n) rfl (by kernel_rfl) ?_
  simp only [Act.put, List.setIfInBounds_toArray, List.set_cons_zero, List.set_cons_succ]
  refine wpL_pure (.slice (some ⟨g10, 0, none⟩) 16 16) rfl (by kernel_rfl) ?_
  simp only [Act.put, List.setIfInBounds_toArray, List.set_cons_zero, List.set_cons_succ]
  obtain ⟨v5, w5, q1, q2, q3, q4, _⟩ := append_own W4 g4 (.slice (some ⟨go, 0, none⟩) n n) (xorV ks 1 xs n) (codeV ks zs (xorV ks 1 xs n) an n) (some ⟨g10, 0, none⟩) 16 16 F4.out.2.1 (row_of_blk2 F4.out.2.2 (codeV_len _ _ _ _ _) (by decide) (codeV_byte _ _ _ _ _)) (by rw [xorV_len]; have := HN.out; omega) (by have := F4.out.1.size; have := G4.out; omega)
  have Q1 := Lib.hid q1
  obtain ⟨a5, c5, hv⟩ := Own.slice q2
  rw [List.length_append, xorV_len, codeV_len] at hv
  subst hv
  have F9 : Hid (Below g4 w w5 ∧ Own w5 g4 (.slice a5 (n + 16) c5) ((xorV ks 1 xs n) ++ (codeV ks zs (xorV ks 1 xs n) an n))) := Lib.hid (by
    have ol := F4.out.2.1.lt
    exact ⟨F4.out.1.grown q3 (by have := F4.out.1.size; have := G4.out; omega) (fun k e => (ol k e).1), q2⟩)
  clear q2 q3 q4
  refine wpL_value (.slice a5 (n + 16) c5) w5 rfl (run_app _ _ _ _ _ _ _ _ _ rfl rfl rfl rfl Q1.out) ?_
  simp only [Act.put, List.setIfInBounds_toArray, List.set_cons_zero, List.set_cons_succ]
  clear Q1
  refine wpL_pure (.slice a5 (n + 16) c5) rfl (by kernel_rfl) ?_
  simp only [Act.put, List.setIfInBounds_toArray, List.set_cons_zero, List.set_cons_succ]
  go_wp2_with fail
  go_ret
  exact ⟨a5, c5, rfl, by rw [G4.out]; exact F9.out.1, by rw [G4.out]; exact F9.out.2⟩
end Go.Proofs.Ytlbfohpkngmaoaa.Ch.B.Se
