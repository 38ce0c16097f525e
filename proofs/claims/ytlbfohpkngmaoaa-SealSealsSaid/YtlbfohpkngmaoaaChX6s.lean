/- The reference's Stream. -/
import Derived.Test.YtlbfohpkngmaoaaChX5
namespace Go.Proofs.Ytlbfohpkngmaoaa.Ch.B
open Go Go.RowKit
theorem Own.take {w : World} {base : Nat} {a : Option Addr} {k c : Nat} {xs : List Int} (h : Own w base (.slice a k c) xs) (n : Nat) (hn : n ≤ xs.length) : Own w base (.slice a n c) (xs.take n) := by
 refine ⟨⟨by simp, ?_⟩, fun x hx => h.2 x (List.mem_of_mem_take hx)⟩
 have hl : (xs.take n).length = n := by rw [List.length_take]; omega
 rcases h.1.2 with ⟨h1, h2⟩ | ⟨g, cap, cur, h1, h2, h3, h4, h5, h6, h7⟩
 ·simp only [Value.slice.injEq] at h1
  obtain ⟨rfl, rfl, rfl⟩ := h1
  have : n = 0 := by omega
  subst this
  exact .inl ⟨rfl, by simp⟩
 ·simp only [Value.slice.injEq] at h1
  obtain ⟨rfl, rfl, rfl⟩ := h1
  refine .inr ⟨g, c, cur, by rw [hl], h2, h3, by omega, h5, h6, ?_⟩
  have e := congrArg (List.take n) h7
  rw [Nat.mul_one, List.take_take, Nat.min_eq_left hn, ← List.map_take] at e
  rw [hl, Nat.mul_one]
  exact e
def givesO (w : World) (e : Ending) (w' : World) (n : Nat) (l : List Int) : Prop :=
 ∃ a cap, e = .returned (.slice a n cap) ∧ Below w.heap.size w w' ∧ Own w' w.heap.size (.slice a n cap) l
theorem row_blk {w : World} {g t n : Nat} {l : List Int} (h : Blk w g t (ub l).toArray) (hl : l.length = n) (hn : n ≤ 100000) (hb : ∀ x ∈ l, 0 ≤ x ∧ x ≤ 255) : Row w (some ⟨g, 0, none⟩) n l :=
 ⟨hl, by unfold maxLen; omega, hb, fun j hj => ⟨g, 0, rfl, ub_cell h (by omega)⟩⟩
attribute [local irreducible] wpList wpAny
set_option maxHeartbeats 4000000 in
set_option maxRecDepth 100000 in
theorem refstream_two {KV NV : List Value} {ks : Nat → List Int} (hT : Two KV NV ks) (c : Nat) (hc : c < 4294967296) (n : Nat) (hn : n ≤ 65536) (w : World) :
  Calls Try.prog 22 #[.agg KV.toArray, .agg NV.toArray, .int .u32 (c : Int), .int .i64 (n : Int)] w fun e w' => givesO w e w' n (strm ks c n) := by
 have HT := Lib.hid hT
 have HC := Lib.hid hc
 have HN := Lib.hid hn
 clear hT hc hn
 go_enter Try.func22, Try.ntmps22
 go_upto_region 1 with (fail)
 obtain ⟨W1, hW1⟩ : ∃ V, V = (w.alloc (.cells KV.toArray 31)).alloc (.cells NV.toArray 26) := ⟨_, rfl⟩
 rw [← hW1]
 have F1 : Hid (Below w.heap.size w W1 ∧ Blk W1 w.heap.size 31 KV.toArray ∧ Blk W1 (w.heap.size + 1) 26 NV.toArray ∧ w.heap.size + 1 < W1.heap.size) := Lib.hid (by
  rw [hW1]
  exact ⟨((Below.refl _ _).alloc (Nat.le_refl _) _).alloc (by simp) _, (Blk.new _ _ _).alloc _, Blk.new' _ _ _ _ (by simp), by simp⟩)
 clear hW1
 have L0 : Hid (w.heap.size < w.heap.size + 1) := Lib.hid (by omega)
 generalize w.heap.size + 1 = g1 at *
 obtain ⟨g0, hg0⟩ : ∃ q, w.heap.size = q := ⟨_, rfl⟩
 have G0 : Hid (w.heap.size = g0) := Lib.hid hg0
 rw [hg0] at F1 L0
 rw [hg0]
 clear hg0
 obtain ⟨B, hB⟩ : ∃ q, W1.heap.size = q := ⟨_, rfl⟩
 have F2 : Hid (Below g0 w W1 ∧ Blk W1 g0 31 KV.toArray ∧ Blk W1 g1 26 NV.toArray ∧ B ≤ W1.heap.size) := Lib.hid ⟨F1.out.1, F1.out.2.1, F1.out.2.2.1, Nat.le_of_eq hB.symm⟩
 have LB : Hid (g0 < g1 ∧ g1 < B) := Lib.hid ⟨L0.out, by rw [← hB]; exact F1.out.2.2.2⟩
 clear hB F1 L0
 refine wp_region_lit ?_
 refine zP (.slice none 0 0) ?_
 go_upto_region 2 with (fail)
 refine wp_region_lit ?_
 refine zP (.int .i64 0) ?_
 unfold wpList
 go_wp2_with fail
 go_loopw [9, 10] (fun s9 s10 wr => ∃ i : Nat, s10 = .int .i64 ((i : Nat) : Int) ∧ Hid (64 * i < n + 64 ∧ (Below g0 w wr ∧ Blk wr g0 31 KV.toArray ∧ Blk wr g1 26 NV.toArray ∧ B ≤ wr.heap.size) ∧ Own wr B s9 (strm ks c (64 * i)))) (fun _ s10 _ => n + 64 - 64 * (intOf s10).toNat)
 case atStart => exact ⟨0, rfl, Lib.hid ⟨by omega, F2.out, Own.nil _ _⟩⟩
 case round =>
  obtain ⟨i, rfl, RI⟩ := hrel
  by_cases hlt : 64 * i < n
  ·have HK := Lib.hid hlt
   clear hlt
   go_upto_region 3 with (fail)
   refine wp_region_lit ?_
   refine zP (.int .i64 ((i : Nat) : Int)) ?_
   refine zQ (.int .i64 ((64 * i : Nat) : Int)) (run_muli Try.underlying3 rfl rfl rfl _ (by have := RI.out.1; have := HN.out; rw [wrap_in _ (by omega) (by omega)]; omega)) ?_
   refine zP (.int .i64 ((n : Nat) : Int)) ?_
   refine zQ (.bool true) (run_lti Try.underlying3 rfl rfl rfl (by have := HK.out; rw [decide_eq_true_eq]; omega)) ?_
   go_upto_region 5 with (fail)
   refine wp_region_lit ?_
   refine wpL_load 31 _ rfl rfl g0 0 rfl KV _ (blk_rangeC (RI.out.2.1.2.1)) Try.underlying31 rfl (by rw [HT.out.2.2.2.1]; kernel_rfl) ?_
   simp only [Act.put, List.setIfInBounds_toArray, List.set_cons_zero, List.set_cons_succ]
   refine wpL_load 26 _ rfl rfl g1 0 rfl NV _ (blk_rangeC (RI.out.2.1.2.2.1)) Try.underlying26 rfl (by rw [HT.out.2.2.2.2]; kernel_rfl) ?_
   simp only [Act.put, List.setIfInBounds_toArray, List.set_cons_zero, List.set_cons_succ]
   refine zP (.int .u32 ((c : Nat) : Int)) ?_
   refine zP (.int .i64 ((i : Nat) : Int)) ?_
   refine zQ (.int .u32 ((i : Nat) : Int)) (run_convi Try.underlying3 Try.underlying22 rfl rfl _ (by have := RI.out.1; have := HN.out; rw [IntKind.wrap_u32]; omega)) ?_
   refine zQ (.int .u32 (((c + i) % 4294967296 : Nat) : Int)) (run_addi Try.underlying22 rfl rfl rfl _ (by rw [IntKind.wrap_u32]; omega)) ?_
   refine wpL_call 13 #[.agg KV.toArray, .agg NV.toArray, .int .u32 (((c + i) % 4294967296 : Nat) : Int)] rfl (by kernel_rfl) (((HT.out.2.1 ((c + i) % 4294967296) (Nat.mod_lt _ (by decide)) wr)).mono fun e w2 ⟨he, b2⟩ => ⟨.agg (ub (ks ((c + i) % 4294967296))).toArray, he, ?_⟩)
   simp only [Act.put, List.setIfInBounds_toArray, List.set_cons_zero, List.set_cons_succ]
   have F2' : Hid ((Below g0 w w2 ∧ Blk w2 g0 31 KV.toArray ∧ Blk w2 g1 26 NV.toArray ∧ B ≤ w2.heap.size) ∧ Own w2 B u9 (strm ks c (64 * i))) := Lib.hid ⟨⟨RI.out.2.1.1.trans (b2.mono (by have := RI.out.2.1.1.size; have := G0.out; omega)), RI.out.2.1.2.1.below b2, RI.out.2.1.2.2.1.below b2, Nat.le_trans RI.out.2.1.2.2.2 b2.size⟩, RI.out.2.2.below b2⟩
   clear b2
   obtain ⟨W3, hW3⟩ : ∃ V, V = (w2.alloc (.cells (ub (List.replicate 64 0)).toArray 42)).setRow w2.heap.size (ub (ks ((c + i) % 4294967296))).toArray := ⟨_, rfl⟩
   refine zV (.pointer (some ⟨w2.heap.size, 0, none⟩)) (w2.alloc (.cells (ub (List.replicate 64 0)).toArray 42)) (by kernel_rfl) ?_
   refine wpList_store_rowTo rfl 42 _ _ rfl rfl w2.heap.size (ub (ks ((c + i) % 4294967296))).toArray rfl rfl 42 _ (Blk.new _ _ _) (by simp only [List.size_toArray, ub_len, (HT.out.2.2.1 _).1]; kernel_rfl) (by simp only [List.size_toArray, ub_len, (HT.out.2.2.1 _).1, List.length_replicate]) (ub_one _) ?_
   rw [← hW3]
   have b3 : Below w2.heap.size w2 W3 := by rw [hW3]; exact below_setRow ((Below.refl _ _).alloc (Nat.le_refl _) _) (Nat.le_refl _) _
   have F3 : Hid ((Below g0 w W3 ∧ Blk W3 g0 31 KV.toArray ∧ Blk W3 g1 26 NV.toArray ∧ B ≤ W3.heap.size) ∧ Own W3 B u9 (strm ks c (64 * i)) ∧ Blk W3 w2.heap.size 42 (ub (ks ((c + i) % 4294967296))).toArray) := Lib.hid ⟨⟨F2'.out.1.1.trans (b3.mono (by have := F2'.out.1.1.size; have := G0.out; omega)), F2'.out.1.2.1.below b3, F2'.out.1.2.2.1.below b3, Nat.le_trans F2'.out.1.2.2.2 b3.size⟩, F2'.out.2.below b3, by rw [hW3]; exact setRow_heap _ _ _ _ _ _ (Blk.new _ _ _)⟩
   clear b3 hW3 F2'
   generalize w2.heap.size = ga at *
   go_upto_region 6 with (fail)
   refine wp_region_lit ?_
   refine zP (u9) ?_
   refine zP (.slice (some ⟨ga, 0, none⟩) 64 64) ?_
   obtain ⟨v5, w5, q1, q2, q3, q4, _⟩ := append_own W3 B u9 (strm ks c (64 * i)) (ks ((c + i) % 4294967296)) (some ⟨ga, 0, none⟩) 64 64 F3.out.2.1 (row_blk F3.out.2.2 (HT.out.2.2.1 _).1 (by decide) (HT.out.2.2.1 _).2) (by rw [strm_len]; have := RI.out.1; have := HN.out; omega) F3.out.1.2.2.2
   rw [strm_next HT.out] at q2
   have Q1 := Lib.hid q1
   have F5 : Hid (64 * (i + 1) < n + 64 ∧ (Below g0 w w5 ∧ Blk w5 g0 31 KV.toArray ∧ Blk w5 g1 26 NV.toArray ∧ B ≤ w5.heap.size) ∧ Own w5 B v5 (strm ks c (64 * (i + 1)))) := Lib.hid (by
    have ol := F3.out.2.1.lt
    have lb := LB.out
    have g00 := G0.out
    have hk := HK.out
    refine ⟨by omega, ⟨F3.out.1.1.grown q3 (by have := F3.out.1.1.size; omega) (fun k e => by have := (ol k e).1; omega), F3.out.1.2.1.grown q3 (fun e => by have := (ol _ e.symm).1; omega), F3.out.1.2.2.1.grown q3 (fun e => by have := (ol _ e.symm).1; omega), Nat.le_trans F3.out.1.2.2.2 q3.size⟩, q2⟩)
   clear q1 q2 q3 q4
   refine zV v5 w5 (run_app _ _ _ _ _ _ _ _ _ rfl rfl rfl rfl Q1.out) ?_
   clear Q1 F3
   refine zP (v5) ?_
   go_upto_region 4 with (fail)
   refine wp_region_lit ?_
   refine zP (.int .i64 ((i : Nat) : Int)) ?_
   refine zQ (.int .i64 ((i + 1 : Nat) : Int)) (run_addi Try.underlying3 rfl rfl rfl _ (by have := RI.out.1; have := HN.out; rw [wrap_in _ (by omega) (by omega)]; omega)) ?_
   refine zP (.int .i64 ((i + 1 : Nat) : Int)) ?_
   unfold wpList
   go_roundw
   case rel => first | exact ⟨_, rfl, F5⟩ | ((repeat apply Exists.intro); exact ⟨⟨_, rfl, F5⟩, rfl⟩)
   case measure => simp [intOf]; have := HK.out; omega
  ·have HK := Lib.hid hlt
   clear hlt
   go_upto_region 3 with (fail)
   refine wp_region_lit ?_
   refine zP (.int .i64 ((i : Nat) : Int)) ?_
   refine zQ (.int .i64 ((64 * i : Nat) : Int)) (run_muli Try.underlying3 rfl rfl rfl _ (by have := RI.out.1; have := HN.out; rw [wrap_in _ (by omega) (by omega)]; omega)) ?_
   refine zP (.int .i64 ((n : Nat) : Int)) ?_
   refine zQ (.bool false) (run_lti Try.underlying3 rfl rfl rfl (by have := HK.out; rw [decide_eq_false_iff_not]; omega)) ?_
   obtain ⟨a, cp, hv⟩ := Own.slice RI.out.2.2
   rw [strm_len] at hv
   subst hv
   go_upto_region 7 with (fail)
   refine wp_region_lit ?_
   refine zP (.slice a (64 * i) cp) ?_
   refine zP (.int .i64 ((n : Nat) : Int)) ?_
   refine zQ (.slice a n cp) (run_sliceto _ _ _ _ _ a (64 * i) cp n rfl rfl rfl (by have := HK.out; omega) (fit_own RI.out.2.2)) ?_
   refine zP (.slice a n cp) ?_
   go_wp2_with fail
   go_ret
   refine ⟨a, cp, rfl, by rw [G0.out]; exact RI.out.2.1.1, ?_⟩
   have h := RI.out.2.2.take n (by rw [strm_len]; have := HK.out; omega)
   rw [strm_take _ _ _ _ (by have := HK.out; omega)] at h
   exact h.mono (by have := LB.out; have := G0.out; omega)
end Go.Proofs.Ytlbfohpkngmaoaa.Ch.B
