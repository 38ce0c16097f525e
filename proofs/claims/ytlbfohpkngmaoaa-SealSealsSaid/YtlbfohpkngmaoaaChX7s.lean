/- The reference's Xor. -/
import Derived.Test.YtlbfohpkngmaoaaChX6s
namespace Go.Proofs.Ytlbfohpkngmaoaa.Ch.B
open Go Go.RowKit
theorem own_at {w : World} {B n cq : Nat} {a : Option Addr} {xs : List Int} (h : Own w B (.slice a n cq) xs) (hl : xs.length = n) (h0 : 0 < n) : ∃ g cur, a = some ⟨g, 0, none⟩ ∧ B ≤ g ∧ Blk w g 5 cur ∧ cur.size = cq ∧ cq ≤ maxLen := by
 rcases h.form with ⟨_, h2⟩ | ⟨g, cap, cur, h1, h2, h3, h4, h5, h6, h7⟩
 ·rw [h2] at hl; simp at hl; omega
 ·simp only [Value.slice.injEq] at h1
  exact ⟨g, cur, h1.1, h2, h3, by rw [h6, h1.2.2], by rw [h1.2.2]; exact h5⟩
def MX (ks : Nat → List Int) (c : Nat) (xs : List Int) (n cq g i : Nat) (W : World) : Prop :=
 ∃ l : List Value, Blk W g 5 l.toArray ∧ (l.length = cq ∧ n ≤ cq) ∧ ∀ j, j < n → l[j]? = some (.int .u8 (if j < i then bits .xor .u8 (sb ks c j) (xs.getD j 0) else sb ks c j))
section
variable {ks : Nat → List Int} {c n cq g i : Nat} {xs : List Int} {W : World}
theorem mx_zero {cur : Array Value} {w : World} (h : Blk w g 5 cur) (hs : cur.size = cq) (hr : Row w (some ⟨g, 0, none⟩) n (strm ks c n) ∧ n ≤ cq) : MX ks c xs n cq g 0 w := by
 refine ⟨cur.toList, by simpa using h, ⟨by simpa using hs, hr.2⟩, fun j hj => ?_⟩
 obtain ⟨g', o', e, hc⟩ := hr.1.2.2.2 j hj
 cases e
 rw [h.cell, Nat.zero_add] at hc
 rw [if_neg (Nat.not_lt_zero _), Array.getElem?_toList, hc]
 unfold strm
 rw [range_getD _ _ _ hj]
theorem MX.cell (h : MX ks c xs n cq g i W) (hi : i < n) : W.cell? ⟨g, 0 + i, none⟩ = some (.int .u8 (sb ks c i)) := by
 obtain ⟨l, h1, h2, h3⟩ := h
 rw [h1.cell, Nat.zero_add, List.getElem?_toArray, h3 i hi, if_neg (Nat.lt_irrefl _)]
theorem MX.isThere (h : MX ks c xs n cq g i W) (hi : i < n) : (W.cell? ⟨g, 0 + i, none⟩).isSome = true := by rw [h.cell hi]; rfl
theorem MX.free (h : MX ks c xs n cq g i W) (j : Nat) : W.frozen? ⟨g, j, none⟩ = false := by
 obtain ⟨l, h1, _⟩ := h
 exact h1.free _
theorem MX.put (h : MX ks c xs n cq g i W) (hi : i < n) : MX ks c xs n cq g (i + 1) (W.setCell ⟨g, 0 + i, none⟩ (.int .u8 (bits .xor .u8 (sb ks c i) (xs.getD i 0)))) := by
 obtain ⟨l, h1, h2, h3⟩ := h
 rw [Nat.zero_add]
 refine ⟨_, Blk.set h1 i _, by simpa using h2, fun j hj => ?_⟩
 rw [List.getElem?_set]
 by_cases e : i = j
 ·subst e
  rw [if_pos rfl, if_pos (by omega), if_pos (by omega)]
 ·rw [if_neg e, h3 j hj]
  by_cases h4 : j < i
  ·rw [if_pos h4, if_pos (by omega)]
  ·rw [if_neg h4, if_neg (by omega)]
theorem MX.own {KV NV : List Value} {B : Nat} (h : MX ks c xs n cq g n W) (hT : Two KV NV ks) (hB : B ≤ g) (hm : cq ≤ maxLen) (hx : ∀ x ∈ xs, 0 ≤ x ∧ x ≤ 255) : Own W B (.slice (some ⟨g, 0, none⟩) n cq) (xorV ks c xs n) := by
 obtain ⟨l, h1, h2, h3⟩ := h
 refine ⟨⟨by simp, .inr ⟨g, cq, l.toArray, by rw [xorV_len], hB, h1, by rw [xorV_len]; exact h2.2, hm, by simpa using h2.1, ?_⟩⟩, xorV_byte hT c n xs hx⟩
 rw [xorV_len, Nat.mul_one]
 apply List.ext_getElem?
 intro j
 rw [List.getElem?_take]
 by_cases hj : j < n
 ·rw [if_pos hj, List.toList_toArray, h3 j hj, if_pos hj]
  unfold xorV
  rw [List.getElem?_map, List.getElem?_map, List.getElem?_range hj]
  simp only [Option.map_some]
  rw [xor_comm _ _ (sb_byte hT c j) (getD_byte hx j)]
 ·rw [if_neg hj, List.getElem?_eq_none (by rw [List.length_map, xorV_len]; omega)]
end
attribute [local irreducible] wpList wpAny
set_option maxHeartbeats 4000000 in
set_option maxRecDepth 100000 in
theorem refxor_two {KV NV : List Value} {ks : Nat → List Int} (hT : Two KV NV ks) (c : Nat) (hc : c < 4294967296) (n cp : Nat) (sp : Option Addr) (xs : List Int) (hn : n ≤ 65536) (w : World) (hR : Row w sp n xs) :
  Calls Try.prog 12 #[.agg KV.toArray, .agg NV.toArray, .int .u32 (c : Int), .slice sp n cp] w fun e w' => givesO w e w' n (xorV ks c xs n) := by
 have HT := Lib.hid hT
 have HC := Lib.hid hc
 have HN := Lib.hid hn
 have HR := Lib.hid hR
 have CX : Hid (∀ (V : World) (B j sg so : Nat), j < n → sp = some ⟨sg, so, none⟩ → B = w.heap.size → Below B w V → V.cell? ⟨sg, so + j, none⟩ = some (.int .u8 (xs.getD j 0))) := Lib.hid (fun V B j sg so hj hsp hB h => by
  obtain ⟨g, o, e, hc⟩ := (hR.below _ h (Nat.le_of_eq hB.symm)).2.2.2 j hj
  rw [hsp] at e
  cases e
  exact hc)
 clear hT hc hn hR
 go_enter Try.func12, Try.ntmps12
 go_upto_region 1 with (fail)
 obtain ⟨W1, hW1⟩ : ∃ V, V = (w.alloc (.cells KV.toArray 31)).alloc (.cells NV.toArray 26) := ⟨_, rfl⟩
 rw [← hW1]
 have F1 : Hid (Below w.heap.size w W1 ∧ Blk W1 w.heap.size 31 KV.toArray ∧ Blk W1 (w.heap.size + 1) 26 NV.toArray) := Lib.hid (by
  rw [hW1]
  exact ⟨((Below.refl _ _).alloc (Nat.le_refl _) _).alloc (by simp) _, (Blk.new _ _ _).alloc _, Blk.new' _ _ _ _ (by simp)⟩)
 clear hW1
 generalize w.heap.size + 1 = g1 at *
 obtain ⟨g0, hg0⟩ : ∃ q, w.heap.size = q := ⟨_, rfl⟩
 have G0 : Hid (w.heap.size = g0) := Lib.hid hg0
 rw [hg0] at F1
 rw [hg0]
 clear hg0
 refine wp_region_lit ?_
 refine wpL_load 31 _ rfl rfl g0 0 rfl KV _ (blk_rangeC (F1.out.2.1)) Try.underlying31 rfl (by rw [HT.out.2.2.2.1]; kernel_rfl) ?_
 simp only [Act.put, List.setIfInBounds_toArray, List.set_cons_zero, List.set_cons_succ]
 refine wpL_load 26 _ rfl rfl g1 0 rfl NV _ (blk_rangeC (F1.out.2.2)) Try.underlying26 rfl (by rw [HT.out.2.2.2.2]; kernel_rfl) ?_
 simp only [Act.put, List.setIfInBounds_toArray, List.set_cons_zero, List.set_cons_succ]
 refine zP (.int .u32 ((c : Nat) : Int)) ?_
 refine zP (.slice sp n cp) ?_
 refine zP (.int .i64 (n : Int)) ?_
 refine wpL_call 22 #[.agg KV.toArray, .agg NV.toArray, .int .u32 ((c : Nat) : Int), .int .i64 (n : Int)] rfl (by kernel_rfl) (((refstream_two HT.out c HC.out n HN.out W1)).mono fun e w2 ⟨a, cq, he, b2, o2⟩ => ⟨.slice a n cq, he, ?_⟩)
 simp only [Act.put, List.setIfInBounds_toArray, List.set_cons_zero, List.set_cons_succ]
 have F2 : Hid (Below g0 w w2) := Lib.hid (F1.out.1.trans (b2.mono (by have := F1.out.1.size; have := G0.out; omega)))
 have LW : Hid (g0 ≤ W1.heap.size) := Lib.hid (by have := F1.out.1.size; have := G0.out; omega)
 have O2 := Lib.hid (o2.mono (by have := F1.out.1.size; have := G0.out; omega : g0 ≤ W1.heap.size))
 clear b2 o2 F1 LW
 refine zP (.slice a n cq) ?_
 go_upto_region 2 with (fail)
 refine wp_region_lit ?_
 refine zP (.int .i64 0) ?_
 unfold wpList
 go_wp2_with fail
 by_cases h0 : 0 < n
 ·have H0 := Lib.hid h0
  obtain ⟨g, cur, ha, hg, hb, hs, hm⟩ := own_at O2.out (strm_len _ _ _) h0
  subst ha
  obtain ⟨sg, so, hsp, _⟩ := HR.out.2.2.2 0 h0
  subst hsp
  have MX0 : Hid (MX ks c xs n cq g 0 w2 ∧ g0 ≤ g ∧ cq ≤ maxLen) := Lib.hid ⟨mx_zero hb hs O2.out.row, hg, hm⟩
  clear h0 hg hb hs hm O2
  go_loopw [10] (fun s10 wr => ∃ i : Nat, s10 = .int .i64 ((i : Nat) : Int) ∧ Hid (i ≤ n ∧ Below g0 w wr ∧ MX ks c xs n cq g i wr)) (fun s10 _ => n - (intOf s10).toNat)
  case atStart => exact ⟨0, rfl, Lib.hid ⟨Nat.zero_le _, F2.out, MX0.out.1⟩⟩
  case round =>
   obtain ⟨i, rfl, RI⟩ := hrel
   by_cases hlt : i < n
   ·have HK := Lib.hid hlt
    clear hlt
    go_upto_region 3 with (fail)
    refine wp_region_lit ?_
    refine zP (.int .i64 ((i : Nat) : Int)) ?_
    refine zP (.slice (some ⟨g, 0, none⟩) n cq) ?_
    refine zP (.int .i64 (n : Int)) ?_
    refine zQ (.bool true) (run_lti Try.underlying3 rfl rfl rfl (by have := HK.out; rw [decide_eq_true_eq]; omega)) ?_
    go_upto_region 5 with (fail)
    refine region_held (fun X => Below g0 w X ∧ MX ks c xs n cq g i X) 12 (by kernel_rfl) (by kernel_rfl) (⟨RI.out.2.1.drew, RI.out.2.2⟩) ?_
    simp only [List.take_succ_cons, List.take_zero, List.drop_succ_cons, List.drop_zero]
    refine zH (.slice (some ⟨g, 0, none⟩) n cq) (fun w h => heldRun_value (by kernel_rfl) h) ?_
    refine zH (.int .i64 ((i : Nat) : Int)) (fun w h => heldRun_value (by kernel_rfl) h) ?_
    refine zH (.slice (some ⟨g, 0, none⟩) n cq) (fun w h => heldRun_value (by kernel_rfl) h) ?_
    refine zH (.int .i64 ((i : Nat) : Int)) (fun w h => heldRun_value (by kernel_rfl) h) ?_
    refine zH (.pointer (some ⟨g, 0 + i, none⟩)) (fun w h => heldRun_value (run_idx _ _ _ _ _ g 0 n cq i rfl rfl rfl HK.out HR.out.2.1) h) ?_
    refine zH (.int .u8 (sb ks c i)) (fun w h => heldRun_value (run_load_one _ _ _ 5 _ _ rfl g (0 + i) rfl (h.2.cell HK.out) (by kernel_rfl)) h) ?_
    refine zH (.slice (some ⟨sg, so, none⟩) n cp) (fun w h => heldRun_value (by kernel_rfl) h) ?_
    refine zH (.int .i64 ((i : Nat) : Int)) (fun w h => heldRun_value (by kernel_rfl) h) ?_
    refine zH (.pointer (some ⟨sg, so + i, none⟩)) (fun w h => heldRun_value (run_idx _ _ _ _ _ sg so n cp i rfl rfl rfl HK.out HR.out.2.1) h) ?_
    refine zH (.int .u8 (xs.getD i 0)) (fun w h => heldRun_value (run_load_one _ _ _ 5 _ _ rfl sg (so + i) rfl (CX.out w _ _ _ _ HK.out rfl G0.out.symm h.1) (by kernel_rfl)) h) ?_
    refine zH (.int .u8 (bits .xor .u8 (sb ks c i) (xs.getD i 0))) (fun w h => heldRun_value (run_biti (.inr (.inr rfl)) Try.underlying5 rfl rfl rfl _ rfl) h) ?_
    refine zH (.pointer (some ⟨g, 0 + i, none⟩)) (fun w h => heldRun_value (run_idx _ _ _ _ _ g 0 n cq i rfl rfl rfl HK.out HR.out.2.1) h) ?_
    refine wpHeld_nil ?_
    intro w1 h1
    have H1 := Lib.hid h1
    clear h1
    refine wpL_store_one rfl rfl (g) (0 + i) rfl (.int .u8 (bits .xor .u8 (sb ks c i) (xs.getD i 0))) rfl rfl size5 (H1.out.2.isThere HK.out) (H1.out.2.free _) ?_
    simp only [Act.put, List.setIfInBounds_toArray, List.set_cons_zero, List.set_cons_succ]
    obtain ⟨w3, hw3⟩ : ∃ V, V = w1.setCell ⟨g, 0 + i, none⟩ (.int .u8 (bits .xor .u8 (sb ks c i) (xs.getD i 0))) := ⟨_, rfl⟩
    rw [← hw3]
    have NX : Hid (i + 1 ≤ n ∧ Below g0 w w3 ∧ MX ks c xs n cq g (i + 1) w3) := Lib.hid ⟨HK.out, by rw [hw3]; exact H1.out.1.setCell (p := ⟨g, 0 + i, none⟩) MX0.out.2.1 _, by rw [hw3]; exact H1.out.2.put HK.out⟩
    clear hw3 H1
    go_upto_region 4 with (fail)
    refine wp_region_lit ?_
    refine zP (.int .i64 ((i : Nat) : Int)) ?_
    refine zQ (.int .i64 ((i + 1 : Nat) : Int)) (run_addi Try.underlying3 rfl rfl rfl _ (by have := HK.out; have := HN.out; rw [wrap_in _ (by omega) (by omega)]; omega)) ?_
    refine zP (.int .i64 ((i + 1 : Nat) : Int)) ?_
    unfold wpList
    go_roundw
    case rel => first | exact ⟨_, rfl, NX⟩ | ((repeat apply Exists.intro); exact ⟨⟨_, rfl, NX⟩, rfl⟩)
    case measure => simp [intOf]; have := HK.out; omega
   ·have EK : Hid (i = n) := Lib.hid (by have := RI.out.1; omega)
    clear hlt
    go_upto_region 3 with (fail)
    refine wp_region_lit ?_
    refine zP (.int .i64 ((i : Nat) : Int)) ?_
    refine zP (.slice (some ⟨g, 0, none⟩) n cq) ?_
    refine zP (.int .i64 (n : Int)) ?_
    refine zQ (.bool false) (run_lti Try.underlying3 rfl rfl rfl (by have := EK.out; rw [decide_eq_false_iff_not]; omega)) ?_
    go_upto_region 6 with (fail)
    refine wp_region_lit ?_
    refine zP (.slice (some ⟨g, 0, none⟩) n cq) ?_
    refine zP (.slice (some ⟨g, 0, none⟩) n cq) ?_
    go_wp2_with fail
    go_ret
    have M := RI.out.2.2
    rw [EK.out] at M
    exact ⟨_, cq, rfl, by rw [G0.out]; exact RI.out.2.1, by rw [G0.out]; exact M.own HT.out MX0.out.2.1 MX0.out.2.2 HR.out.2.2.1⟩
 ·obtain rfl : n = 0 := by omega
  go_loopw [10] (fun s10 wr => s10 = .int .i64 0 ∧ Hid (wr = w2)) (fun _ _ => 0)
  case atStart => exact ⟨rfl, Lib.hid rfl⟩
  case round =>
   obtain ⟨rfl, E⟩ := hrel
   obtain rfl : wr = w2 := E.out
   go_upto_region 3 with (fail)
   refine wp_region_lit ?_
   refine zP (.int .i64 0) ?_
   refine zP (.slice a 0 cq) ?_
   refine zP (.int .i64 0) ?_
   refine zP (.bool false) ?_
   go_upto_region 6 with (fail)
   refine wp_region_lit ?_
   refine zP (.slice a 0 cq) ?_
   refine zP (.slice a 0 cq) ?_
   go_wp2_with fail
   go_ret
   exact ⟨a, cq, rfl, by rw [G0.out]; exact F2.out, by rw [G0.out]; exact O2.out⟩
end Go.Proofs.Ytlbfohpkngmaoaa.Ch.B
