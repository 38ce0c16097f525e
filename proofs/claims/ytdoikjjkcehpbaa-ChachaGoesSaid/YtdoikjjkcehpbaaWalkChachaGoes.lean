/- 'ChachaGoes'. -/
import Derived.Test.YtdoikjjkcehpbaaX8
import Derived.Test.YtdoikjjkcehpbaaHeld
import Derived.Test.YtdoikjjkcehpbaaOpen
import Derived.OpenShut
namespace Go.Proofs.Ytdoikjjkcehpbaa.B
open Go Go.RowKit
theorem run_rem8 (a : Act) (o : Oper) (w : World) (x : Operand) (p q : Nat) (ho : o.op = .binOp .rem 5 x (.const (.int .u8 8)) 5) (hx : a.eval x = .int .u8 (p : Int)) (hp : p < 256) (hq : p % 8 = q) : (execOp a.eval o).run Try.prog w = .ok (.value (.int .u8 ((q : Nat) : Int))) w := by
  have hy : a.eval (.const (.int .u8 8)) = .int .u8 8 := rfl
  have h0 : (0 : Int) ≤ (p : Int) := by omega
  have e : ((p : Int)).tmod 8 = ((q : Nat) : Int) := by rw [Int.tmod_eq_emod_of_nonneg h0]; omega
  have hq2 : q < 8 := by omega
  unfold execOp
  simp only [ho, hx, hy]
  go_simp
theorem strm_sub (ks : Nat → List Int) (c q n m k : Nat) (hk : k = m) (h : 64 * q + m ≤ n) : ((strm ks c n).drop (64 * q)).take k = strm ks ((c + q) % 4294967296) m := by
  subst hk
  apply List.ext_getElem?
  intro i
  rw [List.getElem?_take]
  by_cases hi : i < k
  · rw [if_pos hi, List.getElem?_drop]
    unfold strm
    rw [List.getElem?_map, List.getElem?_map, List.getElem?_range (by omega), List.getElem?_range hi]
    simp only [Option.map_some, Option.some.injEq]
    unfold sb
    rw [show (64 * q + i) % 64 = i % 64 by omega, show (c + (64 * q + i) / 64) % 4294967296 = ((c + q) % 4294967296 + i / 64) % 4294967296 by omega]
  · rw [if_neg hi, List.getElem?_eq_none (by rw [strm_len]; omega)]
attribute [local irreducible] wpList wpAny
set_option maxHeartbeats 4000000 in
set_option maxRecDepth 100000 in
theorem goes_any (kx : List Int) (c j : Nat) (lx : kx.length = 32) (wx : ∀ x ∈ kx, 0 ≤ x ∧ x ≤ 255) (hc : c < 4294967296) (hj : j < 256) (w : World) :
    Calls Try.prog 7 #[.agg (ub kx).toArray, .int .u32 (c : Int), .int .u8 (j : Int)] w fun e w' => e = .returned (.bool true) ∧ Below w.heap.size w w' := by
  obtain ⟨ks, hT⟩ := two_of kx (List.replicate 12 0) lx wx (by simp) (by
    intro x hx
    have := List.eq_of_mem_replicate hx
    omega)
  have HT := Lib.hid hT
  have HC := Lib.hid hc
  have HJ := Lib.hid hj
  clear hT hc lx hj
  go_enter Try.func7, Try.ntmps7
  go_upto_region 1 with (fail)
  obtain ⟨W1, hW1⟩ : ∃ V, V = w.alloc (.cells (ub kx).toArray 23) := ⟨_, rfl⟩
  rw [← hW1]
  have F1 : Hid (Below w.heap.size w W1 ∧ Blk W1 w.heap.size 23 (ub kx).toArray) := Lib.hid (by
    rw [hW1]
    exact ⟨(Below.refl _ _).alloc (Nat.le_refl _) _, Blk.new _ _ _⟩)
  clear hW1
  obtain ⟨g0, hg0⟩ : ∃ q, w.heap.size = q := ⟨_, rfl⟩
  have G0 : Hid (w.heap.size = g0) := Lib.hid hg0
  rw [hg0] at F1
  rw [hg0]
  clear hg0
  obtain ⟨q, hq⟩ : ∃ q, j % 8 = q := ⟨_, rfl⟩
  have HQ : Hid (j % 8 = q ∧ q < 8) := Lib.hid ⟨hq, by omega⟩
  clear hq
  refine wp_region_lit ?_
  refine wpL_pure (.int .u8 ((j : Nat) : Int)) rfl (by kernel_rfl) ?_
  simp only [Act.put, List.setIfInBounds_toArray, List.set_cons_zero, List.set_cons_succ]
  refine wpL_pure (.int .u8 ((q : Nat) : Int)) rfl (run_rem8 _ _ _ _ j q rfl rfl HJ.out HQ.out.1) ?_
  simp only [Act.put, List.setIfInBounds_toArray, List.set_cons_zero, List.set_cons_succ]
  refine wpL_pure (.int .i64 ((q : Nat) : Int)) rfl (run_convi Try.underlying5 Try.underlying3 rfl rfl _ (by have := HQ.out.2; rw [wrap_in _ (by omega) (by omega)])) ?_
  simp only [Act.put, List.setIfInBounds_toArray, List.set_cons_zero, List.set_cons_succ]
  refine wpL_pure (.int .i64 ((q : Nat) : Int)) rfl (by kernel_rfl) ?_
  simp only [Act.put, List.setIfInBounds_toArray, List.set_cons_zero, List.set_cons_succ]
  go_upto_region 2 with (fail)
  refine wp_region_lit ?_
  refine wpL_load 23 _ rfl rfl g0 0 rfl (ub kx) _ (blk_rangeC (F1.out.2)) Try.underlying23 rfl (by rw [HT.out.2.2.2.1]; kernel_rfl) ?_
  simp only [Act.put, List.setIfInBounds_toArray, List.set_cons_zero, List.set_cons_succ]
  refine wpL_pure (.agg (ub (List.replicate 12 0)).toArray) rfl (by kernel_rfl) ?_
  simp only [Act.put, List.setIfInBounds_toArray, List.set_cons_zero, List.set_cons_succ]
  refine wpL_pure (.int .u32 ((c : Nat) : Int)) rfl (by kernel_rfl) ?_
  simp only [Act.put, List.setIfInBounds_toArray, List.set_cons_zero, List.set_cons_succ]
  refine wpL_call 10 #[.agg (ub kx).toArray, .agg (ub (List.replicate 12 0)).toArray, .int .u32 ((c : Nat) : Int), .int .i64 640] rfl (by kernel_rfl) (((stream_two HT.out c HC.out 640 (by decide) W1)).mono fun e W2 ⟨go, he, b2, l2, r2⟩ => ⟨.tuple #[.slice (some ⟨go, 0, none⟩) 640 640, .int .i64 0], he, ?_⟩)
  simp only [Act.put, List.setIfInBounds_toArray, List.set_cons_zero, List.set_cons_succ]
  have F2 : Hid ((Below g0 w W2 ∧ Blk W2 g0 23 (ub kx).toArray) ∧ Row W2 (some ⟨go, 0, none⟩) 640 (strm ks c 640)) := Lib.hid ⟨⟨F1.out.1.trans (b2.mono (by have := F1.out.1.size; have := G0.out; omega)), F1.out.2.below b2⟩, row_of_blk r2 (strm_len _ _ _) (by decide) (strm_byte HT.out _ _)⟩
  clear b2 l2 r2 F1
  refine wpL_pure (.tuple #[.slice (some ⟨go, 0, none⟩) 640 640, .int .i64 0]) rfl (by kernel_rfl) ?_
  simp only [Act.put, List.setIfInBounds_toArray, List.set_cons_zero, List.set_cons_succ]
  refine wpL_pure (.slice (some ⟨go, 0, none⟩) 640 640) rfl (by kernel_rfl) ?_
  simp only [Act.put, List.setIfInBounds_toArray, List.set_cons_zero, List.set_cons_succ]
  refine wpL_pure (.int .i64 0) rfl (by kernel_rfl) ?_
  simp only [Act.put, List.setIfInBounds_toArray, List.set_cons_zero, List.set_cons_succ]
  refine wpL_pure (.slice (some ⟨go, 0, none⟩) 640 640) rfl (by kernel_rfl) ?_
  simp only [Act.put, List.setIfInBounds_toArray, List.set_cons_zero, List.set_cons_succ]
  refine wpL_pure (.int .i64 0) rfl (by kernel_rfl) ?_
  simp only [Act.put, List.setIfInBounds_toArray, List.set_cons_zero, List.set_cons_succ]
  go_upto_region 3 with (fail)
  refine wp_region_lit ?_
  refine wpL_load 23 _ rfl rfl g0 0 rfl (ub kx) _ (blk_rangeC (F2.out.1.2)) Try.underlying23 rfl (by rw [HT.out.2.2.2.1]; kernel_rfl) ?_
  simp only [Act.put, List.setIfInBounds_toArray, List.set_cons_zero, List.set_cons_succ]
  refine wpL_pure (.agg (ub (List.replicate 12 0)).toArray) rfl (by kernel_rfl) ?_
  simp only [Act.put, List.setIfInBounds_toArray, List.set_cons_zero, List.set_cons_succ]
  refine wpL_pure (.int .u32 ((c : Nat) : Int)) rfl (by kernel_rfl) ?_
  simp only [Act.put, List.setIfInBounds_toArray, List.set_cons_zero, List.set_cons_succ]
  refine wpL_pure (.int .i64 ((q : Nat) : Int)) rfl (by kernel_rfl) ?_
  simp only [Act.put, List.setIfInBounds_toArray, List.set_cons_zero, List.set_cons_succ]
  refine wpL_pure (.int .u32 ((q : Nat) : Int)) rfl (run_convi Try.underlying3 Try.underlying29 rfl rfl _ (by have := HQ.out.2; rw [IntKind.wrap_u32]; omega)) ?_
  simp only [Act.put, List.setIfInBounds_toArray, List.set_cons_zero, List.set_cons_succ]
  refine wpL_pure (.int .u32 ((((c + q) % 4294967296) : Nat) : Int)) rfl (run_addi Try.underlying29 rfl rfl rfl _ (by rw [IntKind.wrap_u32]; omega)) ?_
  simp only [Act.put, List.setIfInBounds_toArray, List.set_cons_zero, List.set_cons_succ]
  refine wpL_call 10 #[.agg (ub kx).toArray, .agg (ub (List.replicate 12 0)).toArray, .int .u32 ((((c + q) % 4294967296) : Nat) : Int), .int .i64 100] rfl (by kernel_rfl) (((stream_two HT.out ((c + q) % 4294967296) (Nat.mod_lt _ (by decide)) 100 (by decide) W2)).mono fun e W3 ⟨g2, he, b3, l3, r3⟩ => ⟨.tuple #[.slice (some ⟨g2, 0, none⟩) 100 100, .int .i64 0], he, ?_⟩)
  simp only [Act.put, List.setIfInBounds_toArray, List.set_cons_zero, List.set_cons_succ]
  have F3 : Hid (Below g0 w W3.drew ∧ Row W3.drew (some ⟨go, 64 * q, none⟩) (64 * q + 100 - 64 * q) (strm ks ((c + q) % 4294967296) 100) ∧ Row W3.drew (some ⟨g2, 0, none⟩) 100 (strm ks ((c + q) % 4294967296) 100)) := Lib.hid (by
    have h := Row.sub (F2.out.2.keep b3.drew) (64 * q) (64 * q + 100 - 64 * q) (by have := HQ.out.2; omega)
    rw [Nat.zero_add, strm_sub ks c q 640 100 _ (by omega) (by have := HQ.out.2; omega)] at h
    exact ⟨(F2.out.1.1.trans (b3.mono (by have := F2.out.1.1.size; have := G0.out; omega))).drew, h, row_of_blk r3 (strm_len _ _ _) (by decide) (strm_byte HT.out _ _)⟩)
  clear b3 l3 r3 F2
  refine wpL_pure (.tuple #[.slice (some ⟨g2, 0, none⟩) 100 100, .int .i64 0]) rfl (by kernel_rfl) ?_
  simp only [Act.put, List.setIfInBounds_toArray, List.set_cons_zero, List.set_cons_succ]
  refine wpL_pure (.slice (some ⟨g2, 0, none⟩) 100 100) rfl (by kernel_rfl) ?_
  simp only [Act.put, List.setIfInBounds_toArray, List.set_cons_zero, List.set_cons_succ]
  refine wpL_pure (.int .i64 0) rfl (by kernel_rfl) ?_
  simp only [Act.put, List.setIfInBounds_toArray, List.set_cons_zero, List.set_cons_succ]
  refine wpL_pure (.slice (some ⟨g2, 0, none⟩) 100 100) rfl (by kernel_rfl) ?_
  simp only [Act.put, List.setIfInBounds_toArray, List.set_cons_zero, List.set_cons_succ]
  refine wpL_pure (.int .i64 0) rfl (by kernel_rfl) ?_
  simp only [Act.put, List.setIfInBounds_toArray, List.set_cons_zero, List.set_cons_succ]
  go_upto_region 4 with (fail)
  refine region_any (by kernel_rfl) 28 rfl ?_
  refine wpAny_all (rs := [0]) (by kernel_rfl) (by simp) ?_
  intro i hi
  simp only [List.mem_cons, List.not_mem_nil, or_false] at hi
  subst hi
  refine op_call (o := ⟨some 32, _, _, _, _, _⟩) 8 #[] rfl rfl (by kernel_rfl) (((awake_any W3.drew)).mono fun e z1 ⟨he, qz1⟩ => ⟨.bool true, he, ?_⟩)
  simp only [Act.put, List.setIfInBounds_toArray, List.set_cons_zero, List.set_cons_succ]
  have Fz1 := Lib.hid (show Below g0 w z1 ∧ Row z1 (some ⟨go, 64 * q, none⟩) (64 * q + 100 - 64 * q) (strm ks ((c + q) % 4294967296) 100) ∧ Row z1 (some ⟨g2, 0, none⟩) 100 (strm ks ((c + q) % 4294967296) 100) from ⟨F3.out.1.trans (qz1.mono (by have h1 := F3.out.1.size; have h2 := G0.out; omega)), F3.out.2.1.keep qz1, F3.out.2.2.keep qz1⟩)
  clear qz1
  refine wpAny_take (i := 1) (oi := ⟨some 33, _, _, _, _, _⟩) (v := (.bool true)) rfl (by kernel_rfl) (by kernel_rfl) (by kernel_rfl) (fun _ _ _ h => h) (Or.inl ⟨rfl, fun w => by kernel_rfl⟩) ?_
  simp only [Act.put, List.setIfInBounds_toArray, List.set_cons_zero, List.set_cons_succ]
  refine wpAny_take (i := 2) (oi := ⟨some 34, _, _, _, _, _⟩) (v := (.int .i64 0)) rfl (by kernel_rfl) (by kernel_rfl) (by kernel_rfl) (fun _ _ _ h => h) (Or.inl ⟨rfl, fun w => by kernel_rfl⟩) ?_
  simp only [Act.put, List.setIfInBounds_toArray, List.set_cons_zero, List.set_cons_succ]
  refine wpAny_take (i := 3) (oi := ⟨some 35, _, _, _, _, _⟩) (v := (.bool true)) rfl (by kernel_rfl) (by kernel_rfl) (by kernel_rfl) (fun _ _ _ h => h) (Or.inl ⟨rfl, fun w => by kernel_rfl⟩) ?_
  simp only [Act.put, List.setIfInBounds_toArray, List.set_cons_zero, List.set_cons_succ]
  refine wpAny_take (i := 4) (oi := ⟨some 36, _, _, _, _, _⟩) (v := (.bool true)) rfl (by kernel_rfl) (by kernel_rfl) (by kernel_rfl) (fun _ _ _ h => h) (Or.inl ⟨rfl, fun w => by kernel_rfl⟩) ?_
  simp only [Act.put, List.setIfInBounds_toArray, List.set_cons_zero, List.set_cons_succ]
  refine wpAny_take (i := 5) (oi := ⟨some 37, _, _, _, _, _⟩) (v := (.bool true)) rfl (by kernel_rfl) (by kernel_rfl) (by kernel_rfl) (fun _ _ _ h => h) (Or.inl ⟨rfl, fun w => by kernel_rfl⟩) ?_
  simp only [Act.put, List.setIfInBounds_toArray, List.set_cons_zero, List.set_cons_succ]
  refine wpAny_take (i := 6) (oi := ⟨some 38, _, _, _, _, _⟩) (v := (.int .i64 0)) rfl (by kernel_rfl) (by kernel_rfl) (by kernel_rfl) (fun _ _ _ h => h) (Or.inl ⟨rfl, fun w => by kernel_rfl⟩) ?_
  simp only [Act.put, List.setIfInBounds_toArray, List.set_cons_zero, List.set_cons_succ]
  refine wpAny_take (i := 7) (oi := ⟨some 39, _, _, _, _, _⟩) (v := (.bool true)) rfl (by kernel_rfl) (by kernel_rfl) (by kernel_rfl) (fun _ _ _ h => h) (Or.inl ⟨rfl, fun w => by kernel_rfl⟩) ?_
  simp only [Act.put, List.setIfInBounds_toArray, List.set_cons_zero, List.set_cons_succ]
  refine wpAny_take (i := 8) (oi := ⟨some 40, _, _, _, _, _⟩) (v := (.bool true)) rfl (by kernel_rfl) (by kernel_rfl) (by kernel_rfl) (fun _ _ _ h => h) (Or.inl ⟨rfl, fun w => by kernel_rfl⟩) ?_
  simp only [Act.put, List.setIfInBounds_toArray, List.set_cons_zero, List.set_cons_succ]
  refine wpAny_take (i := 9) (oi := ⟨some 41, _, _, _, _, _⟩) (v := (.bool true)) rfl (by kernel_rfl) (by kernel_rfl) (by kernel_rfl) (fun _ _ _ h => h) (Or.inl ⟨rfl, fun w => by kernel_rfl⟩) ?_
  simp only [Act.put, List.setIfInBounds_toArray, List.set_cons_zero, List.set_cons_succ]
  refine wpAny_take (i := 10) (oi := ⟨some 42, _, _, _, _, _⟩) (v := (.slice (some ⟨go, 0, none⟩) 640 640)) rfl (by kernel_rfl) (by kernel_rfl) (by kernel_rfl) (fun _ _ _ h => h) (Or.inl ⟨rfl, fun w => by kernel_rfl⟩) ?_
  simp only [Act.put, List.setIfInBounds_toArray, List.set_cons_zero, List.set_cons_succ]
  refine wpAny_take (i := 11) (oi := ⟨some 43, _, _, _, _, _⟩) (v := (.int .i64 (640 : Int))) rfl (by kernel_rfl) (by kernel_rfl) (by kernel_rfl) (fun _ _ _ h => h) (Or.inl ⟨rfl, fun w => by kernel_rfl⟩) ?_
  simp only [Act.put, List.setIfInBounds_toArray, List.set_cons_zero, List.set_cons_succ]
  refine wpAny_take (i := 12) (oi := ⟨some 44, _, _, _, _, _⟩) (v := (.bool true)) rfl (by kernel_rfl) (by kernel_rfl) (by kernel_rfl) (fun _ _ _ h => h) (Or.inl ⟨rfl, fun w => run_eqi Try.underlying3 rfl rfl rfl (by decide)⟩) ?_
  simp only [Act.put, List.setIfInBounds_toArray, List.set_cons_zero, List.set_cons_succ]
  refine wpAny_take (i := 13) (oi := ⟨some 45, _, _, _, _, _⟩) (v := (.bool true)) rfl (by kernel_rfl) (by kernel_rfl) (by kernel_rfl) (fun _ _ _ h => h) (Or.inl ⟨rfl, fun w => by kernel_rfl⟩) ?_
  simp only [Act.put, List.setIfInBounds_toArray, List.set_cons_zero, List.set_cons_succ]
  refine wpAny_take (i := 14) (oi := ⟨some 46, _, _, _, _, _⟩) (v := (.bool true)) rfl (by kernel_rfl) (by kernel_rfl) (by kernel_rfl) (fun _ _ _ h => h) (Or.inl ⟨rfl, fun w => by kernel_rfl⟩) ?_
  simp only [Act.put, List.setIfInBounds_toArray, List.set_cons_zero, List.set_cons_succ]
  refine wpAny_take (i := 15) (oi := ⟨some 47, _, _, _, _, _⟩) (v := (.slice (some ⟨go, 0, none⟩) 640 640)) rfl (by kernel_rfl) (by kernel_rfl) (by kernel_rfl) (fun _ _ _ h => h) (Or.inl ⟨rfl, fun w => by kernel_rfl⟩) ?_
  simp only [Act.put, List.setIfInBounds_toArray, List.set_cons_zero, List.set_cons_succ]
  refine wpAny_take (i := 16) (oi := ⟨some 48, _, _, _, _, _⟩) (v := (.int .i64 ((q : Nat) : Int))) rfl (by kernel_rfl) (by kernel_rfl) (by kernel_rfl) (fun _ _ _ h => h) (Or.inl ⟨rfl, fun w => by kernel_rfl⟩) ?_
  simp only [Act.put, List.setIfInBounds_toArray, List.set_cons_zero, List.set_cons_succ]
  refine wpAny_take (i := 17) (oi := ⟨some 49, _, _, _, _, _⟩) (v := (.int .i64 ((64 * q : Nat) : Int))) rfl (by kernel_rfl) (by kernel_rfl) (by kernel_rfl) (fun _ _ _ h => h) (Or.inl ⟨rfl, fun w => run_muli Try.underlying3 rfl rfl rfl _ (by have := HQ.out.2; rw [wrap_in _ (by omega) (by omega)]; omega)⟩) ?_
  simp only [Act.put, List.setIfInBounds_toArray, List.set_cons_zero, List.set_cons_succ]
  refine wpAny_take (i := 18) (oi := ⟨some 50, _, _, _, _, _⟩) (v := (.int .i64 ((q : Nat) : Int))) rfl (by kernel_rfl) (by kernel_rfl) (by kernel_rfl) (fun _ _ _ h => h) (Or.inl ⟨rfl, fun w => by kernel_rfl⟩) ?_
  simp only [Act.put, List.setIfInBounds_toArray, List.set_cons_zero, List.set_cons_succ]
  refine wpAny_take (i := 19) (oi := ⟨some 51, _, _, _, _, _⟩) (v := (.int .i64 ((64 * q : Nat) : Int))) rfl (by kernel_rfl) (by kernel_rfl) (by kernel_rfl) (fun _ _ _ h => h) (Or.inl ⟨rfl, fun w => run_muli Try.underlying3 rfl rfl rfl _ (by have := HQ.out.2; rw [wrap_in _ (by omega) (by omega)]; omega)⟩) ?_
  simp only [Act.put, List.setIfInBounds_toArray, List.set_cons_zero, List.set_cons_succ]
  refine wpAny_take (i := 20) (oi := ⟨some 52, _, _, _, _, _⟩) (v := (.int .i64 ((64 * q + 100 : Nat) : Int))) rfl (by kernel_rfl) (by kernel_rfl) (by kernel_rfl) (fun _ _ _ h => h) (Or.inl ⟨rfl, fun w => run_addi Try.underlying3 rfl rfl rfl _ (by have := HQ.out.2; rw [wrap_in _ (by omega) (by omega)]; omega)⟩) ?_
  simp only [Act.put, List.setIfInBounds_toArray, List.set_cons_zero, List.set_cons_succ]
  refine wpAny_take (i := 21) (oi := ⟨some 53, _, _, _, _, _⟩) (v := (.slice (some ⟨go, 64 * q, none⟩) (64 * q + 100 - 64 * q) (640 - 64 * q))) rfl (by kernel_rfl) (by kernel_rfl) (by kernel_rfl) (fun _ _ _ h => h) (Or.inl ⟨rfl, fun w => run_slicelh _ _ _ _ _ _ go 640 640 (64 * q) (64 * q + 100) rfl rfl rfl rfl (by omega) (by have := HQ.out.2; omega) (by decide) (by decide)⟩) ?_
  simp only [Act.put, List.setIfInBounds_toArray, List.set_cons_zero, List.set_cons_succ]
  refine wpAny_take (i := 23) (oi := ⟨some 55, _, _, _, _, _⟩) (v := (.slice (some ⟨g2, 0, none⟩) 100 100)) rfl (by kernel_rfl) (by kernel_rfl) (by kernel_rfl) (fun _ _ _ h => h) (Or.inl ⟨rfl, fun w => by kernel_rfl⟩) ?_
  simp only [Act.put, List.setIfInBounds_toArray, List.set_cons_zero, List.set_cons_succ]
  refine wpAny_all (rs := [22, 24]) (by kernel_rfl) (by simp) ?_
  intro i hi
  simp only [List.mem_cons, List.not_mem_nil, or_false] at hi
  rcases hi with rfl | rfl
  · refine op_val (o := ⟨some 54, _, _, _, _, _⟩) (.string (strOfNums (strm ks ((c + q) % 4294967296) 100))) rfl rfl (run_conv_str _ _ _ _ (some ⟨go, 64 * q, none⟩) (64 * q + 100 - 64 * q) (640 - 64 * q) (strm ks ((c + q) % 4294967296) 100) rfl rfl (Fz1.out.2.1)) ?_
    simp only [Act.put, List.setIfInBounds_toArray, List.set_cons_zero, List.set_cons_succ]
    refine wpAny_all (rs := [24]) (by kernel_rfl) (by simp) ?_
    intro i hi
    simp only [List.mem_cons, List.not_mem_nil, or_false] at hi
    subst hi
    refine op_val (o := ⟨some 56, _, _, _, _, _⟩) (.string (strOfNums (strm ks ((c + q) % 4294967296) 100))) rfl rfl (run_conv_str _ _ _ _ (some ⟨g2, 0, none⟩) 100 100 (strm ks ((c + q) % 4294967296) 100) rfl rfl (Fz1.out.2.2)) ?_
    simp only [Act.put, List.setIfInBounds_toArray, List.set_cons_zero, List.set_cons_succ]
    refine wpAny_take (i := 25) (oi := ⟨some 57, _, _, _, _, _⟩) (v := (.bool true)) rfl (by kernel_rfl) (by kernel_rfl) (by kernel_rfl) (fun _ _ _ h => h) (Or.inl ⟨rfl, fun w => run_str_eql _ _ _ _ _ (strm ks ((c + q) % 4294967296) 100) (strm ks ((c + q) % 4294967296) 100) true rfl rfl rfl (by simp) (strm_byte HT.out _ _) (strm_byte HT.out _ _)⟩) ?_
    simp only [Act.put, List.setIfInBounds_toArray, List.set_cons_zero, List.set_cons_succ]
    refine wpAny_take (i := 26) (oi := ⟨some 58, _, _, _, _, _⟩) (v := (.bool true)) rfl (by kernel_rfl) (by kernel_rfl) (by kernel_rfl) (fun _ _ _ h => h) (Or.inl ⟨rfl, fun w => by kernel_rfl⟩) ?_
    simp only [Act.put, List.setIfInBounds_toArray, List.set_cons_zero, List.set_cons_succ]
    refine wpAny_take (i := 27) (oi := ⟨some 6, _, _, _, _, _⟩) (v := (.bool true)) rfl (by kernel_rfl) (by kernel_rfl) (by kernel_rfl) (fun _ _ _ h => h) (Or.inl ⟨rfl, fun w => by kernel_rfl⟩) ?_
    simp only [Act.put, List.setIfInBounds_toArray, List.set_cons_zero, List.set_cons_succ]
    refine wpAny_done (by kernel_rfl) ?_ _
    go_wp2_with fail
    go_ret
    exact ⟨rfl, by rw [G0.out]; exact Fz1.out.1⟩
  · refine op_val (o := ⟨some 56, _, _, _, _, _⟩) (.string (strOfNums (strm ks ((c + q) % 4294967296) 100))) rfl rfl (run_conv_str _ _ _ _ (some ⟨g2, 0, none⟩) 100 100 (strm ks ((c + q) % 4294967296) 100) rfl rfl (Fz1.out.2.2)) ?_
    simp only [Act.put, List.setIfInBounds_toArray, List.set_cons_zero, List.set_cons_succ]
    refine wpAny_all (rs := [22]) (by kernel_rfl) (by simp) ?_
    intro i hi
    simp only [List.mem_cons, List.not_mem_nil, or_false] at hi
    subst hi
    refine op_val (o := ⟨some 54, _, _, _, _, _⟩) (.string (strOfNums (strm ks ((c + q) % 4294967296) 100))) rfl rfl (run_conv_str _ _ _ _ (some ⟨go, 64 * q, none⟩) (64 * q + 100 - 64 * q) (640 - 64 * q) (strm ks ((c + q) % 4294967296) 100) rfl rfl (Fz1.out.2.1)) ?_
    simp only [Act.put, List.setIfInBounds_toArray, List.set_cons_zero, List.set_cons_succ]
    refine wpAny_take (i := 25) (oi := ⟨some 57, _, _, _, _, _⟩) (v := (.bool true)) rfl (by kernel_rfl) (by kernel_rfl) (by kernel_rfl) (fun _ _ _ h => h) (Or.inl ⟨rfl, fun w => run_str_eql _ _ _ _ _ (strm ks ((c + q) % 4294967296) 100) (strm ks ((c + q) % 4294967296) 100) true rfl rfl rfl (by simp) (strm_byte HT.out _ _) (strm_byte HT.out _ _)⟩) ?_
    simp only [Act.put, List.setIfInBounds_toArray, List.set_cons_zero, List.set_cons_succ]
    refine wpAny_take (i := 26) (oi := ⟨some 58, _, _, _, _, _⟩) (v := (.bool true)) rfl (by kernel_rfl) (by kernel_rfl) (by kernel_rfl) (fun _ _ _ h => h) (Or.inl ⟨rfl, fun w => by kernel_rfl⟩) ?_
    simp only [Act.put, List.setIfInBounds_toArray, List.set_cons_zero, List.set_cons_succ]
    refine wpAny_take (i := 27) (oi := ⟨some 6, _, _, _, _, _⟩) (v := (.bool true)) rfl (by kernel_rfl) (by kernel_rfl) (by kernel_rfl) (fun _ _ _ h => h) (Or.inl ⟨rfl, fun w => by kernel_rfl⟩) ?_
    simp only [Act.put, List.setIfInBounds_toArray, List.set_cons_zero, List.set_cons_succ]
    refine wpAny_done (by kernel_rfl) ?_ _
    go_wp2_with fail
    go_ret
    exact ⟨rfl, by rw [G0.out]; exact Fz1.out.1⟩
end Go.Proofs.Ytdoikjjkcehpbaa.B
namespace Go.Proofs.Ytdoikjjkcehpbaa
open Go Go.RowKit
theorem walkChachaGoes (xs : List Int) (c j : Int) (lx : xs.length = 32) (wx : ∀ x ∈ xs, (Lit.int .u8 x).wf = true) (hc : (Lit.int .u32 c).wf = true) (hj : (Lit.int .u8 j).wf = true) (w : World) :
    Calls Try.prog 7 #[.agg (xs.map (Value.int .u8)).toArray, .int .u32 c, .int .u8 j] w fun e w' => e = .returned (.bool true) ∧ Below w.heap.size w w' := by
  have hb := bounds_u32 hc
  have hb2 := bounds_u8 hj
  obtain ⟨m, rfl⟩ : ∃ m : Nat, c = (m : Int) := ⟨c.toNat, by omega⟩
  obtain ⟨i, rfl⟩ : ∃ i : Nat, j = (i : Int) := ⟨j.toNat, by omega⟩
  exact B.goes_any xs m i lx (fun x hx => by have := bounds_u8 (wx x hx); omega) (by omega) (by omega) w
end Go.Proofs.Ytdoikjjkcehpbaa
