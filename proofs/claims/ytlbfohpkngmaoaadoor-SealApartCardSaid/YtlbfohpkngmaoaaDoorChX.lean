/- Texts of use, in one. -/
import Derived.Test.YtlbfohpkngmaoaaDoorChX3
namespace Go.Proofs.YtlbfohpkngmaoaaDoor.Ch.B
open Go Go.RowKit
def Fit (ad : Option Addr) (len cap : Nat) : Prop := len ≤ cap ∧ cap < 9223372036854775808 ∧ (0 < cap → ∀ p, ad = some p → p.spot = none)
theorem run_sliceto (a : Act) (o : Oper) (w : World) (x i : Operand) (ad : Option Addr) (len cap m : Nat) (ho : o.op = .slice 24 x none (some i) none) (hx : a.eval x = .slice ad len cap) (hi : a.eval i = .int .i64 (m : Int)) (hm : m ≤ len) (hw : Fit ad len cap) :
  (execOp a.eval o).run Tryd.prog w = .ok (.value (.slice ad m cap)) w := by
 obtain ⟨hc, hw, hsp⟩ := hw
 have h1 : (0 : Int) ≤ (m : Int) := by omega
 have h4 : (m : Int) ≤ (cap : Int) := by omega
 have h5 : (0 : Int) ≤ (cap : Int) := by omega
 unfold execOp
 cases ad with
 | none =>
  simp only [ho, hx, Option.map_some, Option.map_none, hi]
  go_simp
  try rfl
 | some p =>
  obtain ⟨g, off, spot⟩ := p
  simp only [ho, hx, Option.map_some, Option.map_none, hi]
  by_cases hz : cap = 0
  ·subst hz
   obtain rfl : m = 0 := by omega
   go_simp
   try simp
  ·obtain rfl : spot = none := hsp (by omega) _ rfl
   go_simp
   try simp
theorem fit_own {w : World} {base : Nat} {a : Option Addr} {n c : Nat} {xs : List Int} (h : Own w base (.slice a n c) xs) : Fit a n c := by
 have hm := h.len
 rcases h.form with ⟨h1, h2⟩ | ⟨g, cap, cur, h1, h2, h3, h4, h5, h6, h7⟩
 ·simp only [Value.slice.injEq] at h1
  obtain ⟨rfl, rfl, rfl⟩ := h1
  exact ⟨Nat.le_refl _, by omega, fun h => by omega⟩
 ·simp only [Value.slice.injEq] at h1
  obtain ⟨rfl, rfl, rfl⟩ := h1
  unfold maxLen at h5
  exact ⟨h4, by omega, fun _ p hp => by cases hp; rfl⟩
theorem Row.take {w : World} {a : Option Addr} {n : Nat} {xs : List Int} (h : Row w a n xs) (m : Nat) (hm : m ≤ n) : Row w a m (xs.take m) := by
 obtain ⟨h1, h2, h3, h4⟩ := h
 refine ⟨by rw [List.length_take]; omega, by omega, fun x hx => h3 x (List.mem_of_mem_take hx), fun j hj => ?_⟩
 obtain ⟨g, o, e, hc⟩ := h4 j (by omega)
 refine ⟨g, o, e, ?_⟩
 rw [hc]
 simp [List.getD, List.getElem?_take, hj]
theorem strm_take (ks : Nat → List Int) (c n m : Nat) (hm : m ≤ n) : (strm ks c n).take m = strm ks c m := by
 unfold strm
 rw [← List.map_take, List.take_range, Nat.min_eq_left hm]
theorem strm_next {KV NV : List Value} {ks : Nat → List Int} (h : Two KV NV ks) (c i : Nat) : strm ks c (64 * i) ++ ks ((c + i) % 4294967296) = strm ks c (64 * (i + 1)) := by
 apply List.ext_getElem?
 intro j
 have hl := (h.2.2.1 ((c + i) % 4294967296)).1
 by_cases h1 : j < 64 * i
 ·rw [List.getElem?_append_left (by rw [strm_len]; exact h1)]
  unfold strm
  rw [List.getElem?_map, List.getElem?_map, List.getElem?_range h1, List.getElem?_range (by omega)]
 ·rw [List.getElem?_append_right (by rw [strm_len]; omega), strm_len]
  by_cases h2 : j < 64 * (i + 1)
  ·unfold strm
   rw [List.getElem?_map, List.getElem?_range h2, List.getElem?_eq_getElem (by omega)]
   simp only [Option.map_some, Option.some.injEq]
   unfold sb
   rw [show j / 64 = i by omega, show j % 64 = j - 64 * i by omega, List.getD, List.getElem?_eq_getElem (by omega)]
   rfl
  ·rw [List.getElem?_eq_none (by omega), List.getElem?_eq_none (by rw [strm_len]; omega)]
def gives (w : World) (e : Ending) (w' : World) (n : Nat) (l : List Int) : Prop :=
 ∃ a cap, e = .returned (.slice a n cap) ∧ Below w.heap.size w w' ∧ Row w' a n l ∧ Fit a n cap ∧ (0 < n → ∃ g cur, a = some ⟨g, 0, none⟩ ∧ w.heap.size ≤ g ∧ Blk w' g 5 cur ∧ n ≤ cur.size)
end Go.Proofs.YtlbfohpkngmaoaaDoor.Ch.B

namespace Go.Proofs.YtlbfohpkngmaoaaDoor.Ch.B
open Go Go.RowKit
theorem Own.take {w : World} {base : Nat} {a : Option Addr} {k c : Nat} {xs : List Int} (h : Own w base (.slice a k c) xs) (n : Nat) (hn : n ≤ xs.length) : Own w base (.slice a n c) (xs.take n) := by
 refine ⟨⟨by simp, ?_⟩, fun x hx => h.2 x (List.mem_of_mem_take hx)⟩
 have hl : (xs.take n).length = n := by rw [List.length_take]; omega
 rcases h.1.2 with ⟨h1, h2⟩ | ⟨g, cap, cur, h1, h2, h3, h4, h5, h6, h7⟩
 ·simp only [Value.slice.injEq] at h1
  obtain ⟨rfl, rfl, rfl⟩ := h1
  have : n = 0 := by omega
  subst this
  exact .inl ⟨rfl, by simp⟩
 ·simp only [Value.slice.injEq] at h1
  obtain ⟨rfl, rfl, rfl⟩ := h1
  refine .inr ⟨g, c, cur, by rw [hl], h2, h3, by omega, h5, h6, ?_⟩
  have e := congrArg (List.take n) h7
  rw [Nat.mul_one, List.take_take, Nat.min_eq_left hn, ← List.map_take] at e
  rw [hl, Nat.mul_one]
  exact e
def givesO (w : World) (e : Ending) (w' : World) (n : Nat) (l : List Int) : Prop :=
 ∃ a cap, e = .returned (.slice a n cap) ∧ Below w.heap.size w w' ∧ Own w' w.heap.size (.slice a n cap) l
theorem row_blk {w : World} {g t n : Nat} {l : List Int} (h : Blk w g t (ub l).toArray) (hl : l.length = n) (hn : n ≤ 100000) (hb : ∀ x ∈ l, 0 ≤ x ∧ x ≤ 255) : Row w (some ⟨g, 0, none⟩) n l :=
 ⟨hl, by unfold maxLen; omega, hb, fun j hj => ⟨g, 0, rfl, ub_cell h (by omega)⟩⟩
attribute [local irreducible] wpList wpAny
set_option maxHeartbeats 4000000 in
set_option maxRecDepth 100000 in
theorem refstream_two {KV NV : List Value} {ks : Nat → List Int} (hT : Two KV NV ks) (c : Nat) (hc : c < 4294967296) (n : Nat) (hn : n ≤ 65536) (w : World) :
  Calls Tryd.prog 41 #[.agg KV.toArray, .agg NV.toArray, .int .u32 (c : Int), .int .i64 (n : Int)] w fun e w' => givesO w e w' n (strm ks c n) := by
 have HT := Lib.hid hT
 have HC := Lib.hid hc
 have HN := Lib.hid hn
 clear hT hc hn
 go_enter Tryd.func41, Tryd.ntmps41
 go_upto_region 1 with (fail)
 obtain ⟨W1, hW1⟩ : ∃ V, V = (w.alloc (.cells KV.toArray 22)).alloc (.cells NV.toArray 27) := ⟨_, rfl⟩
 rw [← hW1]
 have F1 : Hid (Below w.heap.size w W1 ∧ Blk W1 w.heap.size 22 KV.toArray ∧ Blk W1 (w.heap.size + 1) 27 NV.toArray ∧ w.heap.size + 1 < W1.heap.size) := Lib.hid (by
  rw [hW1]
  exact ⟨((Below.refl _ _).alloc (Nat.le_refl _) _).alloc (by simp) _, (Blk.new _ _ _).alloc _, Blk.new' _ _ _ _ (by simp), by simp⟩)
 clear hW1
 have L0 : Hid (w.heap.size < w.heap.size + 1) := Lib.hid (by omega)
 generalize w.heap.size + 1 = g1 at *
 obtain ⟨g0, hg0⟩ : ∃ q, w.heap.size = q := ⟨_, rfl⟩
 have G0 : Hid (w.heap.size = g0) := Lib.hid hg0
 rw [hg0] at F1 L0
 rw [hg0]
 clear hg0
 obtain ⟨B, hB⟩ : ∃ q, W1.heap.size = q := ⟨_, rfl⟩
 have F2 : Hid (Below g0 w W1 ∧ Blk W1 g0 22 KV.toArray ∧ Blk W1 g1 27 NV.toArray ∧ B ≤ W1.heap.size) := Lib.hid ⟨F1.out.1, F1.out.2.1, F1.out.2.2.1, Nat.le_of_eq hB.symm⟩
 have LB : Hid (g0 < g1 ∧ g1 < B) := Lib.hid ⟨L0.out, by rw [← hB]; exact F1.out.2.2.2⟩
 clear hB F1 L0
 refine wp_region_lit ?_
 refine zP (.slice none 0 0) ?_
 go_upto_region 2 with (fail)
 refine wp_region_lit ?_
 refine zP (.int .i64 0) ?_
 unfold wpList
 go_wp2_with fail
 go_loopw [9, 10] (fun s9 s10 wr => ∃ i : Nat, s10 = .int .i64 ((i : Nat) : Int) ∧ Hid (64 * i < n + 64 ∧ (Below g0 w wr ∧ Blk wr g0 22 KV.toArray ∧ Blk wr g1 27 NV.toArray ∧ B ≤ wr.heap.size) ∧ Own wr B s9 (strm ks c (64 * i)))) (fun _ s10 _ => n + 64 - 64 * (intOf s10).toNat)
 case atStart => exact ⟨0, rfl, Lib.hid ⟨by omega, F2.out, Own.nil _ _⟩⟩
 case round =>
  obtain ⟨i, rfl, RI⟩ := hrel
  by_cases hlt : 64 * i < n
  ·have HK := Lib.hid hlt
   clear hlt
   go_upto_region 3 with (fail)
   refine wp_region_lit ?_
   refine zP (.int .i64 ((i : Nat) : Int)) ?_
   refine zQ (.int .i64 ((64 * i : Nat) : Int)) (run_muli Tryd.underlying3 rfl rfl rfl _ (by have := RI.out.1; have := HN.out; rw [wrap_in _ (by omega) (by omega)]; omega)) ?_
   refine zP (.int .i64 ((n : Nat) : Int)) ?_
   refine zQ (.bool true) (run_lti Tryd.underlying3 rfl rfl rfl (by have := HK.out; rw [decide_eq_true_eq]; omega)) ?_
   go_upto_region 5 with (fail)
   refine wp_region_lit ?_
   refine wpL_load 22 _ rfl rfl g0 0 rfl KV _ (blk_rangeC (RI.out.2.1.2.1)) Tryd.underlying22 rfl (by rw [HT.out.2.2.2.1]; kernel_rfl) ?_
   simp only [Act.put, List.setIfInBounds_toArray, List.set_cons_zero, List.set_cons_succ]
   refine wpL_load 27 _ rfl rfl g1 0 rfl NV _ (blk_rangeC (RI.out.2.1.2.2.1)) Tryd.underlying27 rfl (by rw [HT.out.2.2.2.2]; kernel_rfl) ?_
   simp only [Act.put, List.setIfInBounds_toArray, List.set_cons_zero, List.set_cons_succ]
   refine zP (.int .u32 ((c : Nat) : Int)) ?_
   refine zP (.int .i64 ((i : Nat) : Int)) ?_
   refine zQ (.int .u32 ((i : Nat) : Int)) (run_convi Tryd.underlying3 Tryd.underlying38 rfl rfl _ (by have := RI.out.1; have := HN.out; rw [IntKind.wrap_u32]; omega)) ?_
   refine zQ (.int .u32 (((c + i) % 4294967296 : Nat) : Int)) (run_addi Tryd.underlying38 rfl rfl rfl _ (by rw [IntKind.wrap_u32]; omega)) ?_
   refine wpL_call 27 #[.agg KV.toArray, .agg NV.toArray, .int .u32 (((c + i) % 4294967296 : Nat) : Int)] rfl (by kernel_rfl) (((HT.out.2.1 ((c + i) % 4294967296) (Nat.mod_lt _ (by decide)) wr)).mono fun e w2 ⟨he, b2⟩ => ⟨.agg (ub (ks ((c + i) % 4294967296))).toArray, he, ?_⟩)
   simp only [Act.put, List.setIfInBounds_toArray, List.set_cons_zero, List.set_cons_succ]
   have F2' : Hid ((Below g0 w w2 ∧ Blk w2 g0 22 KV.toArray ∧ Blk w2 g1 27 NV.toArray ∧ B ≤ w2.heap.size) ∧ Own w2 B u9 (strm ks c (64 * i))) := Lib.hid ⟨⟨RI.out.2.1.1.trans (b2.mono (by have := RI.out.2.1.1.size; have := G0.out; omega)), RI.out.2.1.2.1.below b2, RI.out.2.1.2.2.1.below b2, Nat.le_trans RI.out.2.1.2.2.2 b2.size⟩, RI.out.2.2.below b2⟩
   clear b2
   obtain ⟨W3, hW3⟩ : ∃ V, V = (w2.alloc (.cells (ub (List.replicate 64 0)).toArray 53)).setRow w2.heap.size (ub (ks ((c + i) % 4294967296))).toArray := ⟨_, rfl⟩
   refine zV (.pointer (some ⟨w2.heap.size, 0, none⟩)) (w2.alloc (.cells (ub (List.replicate 64 0)).toArray 53)) (by kernel_rfl) ?_
   refine wpList_store_rowTo rfl 53 _ _ rfl rfl w2.heap.size (ub (ks ((c + i) % 4294967296))).toArray rfl rfl 53 _ (Blk.new _ _ _) (by simp only [List.size_toArray, ub_len, (HT.out.2.2.1 _).1]; kernel_rfl) (by simp only [List.size_toArray, ub_len, (HT.out.2.2.1 _).1, List.length_replicate]) (ub_one _) ?_
   rw [← hW3]
   have b3 : Below w2.heap.size w2 W3 := by rw [hW3]; exact below_setRow ((Below.refl _ _).alloc (Nat.le_refl _) _) (Nat.le_refl _) _
   have F3 : Hid ((Below g0 w W3 ∧ Blk W3 g0 22 KV.toArray ∧ Blk W3 g1 27 NV.toArray ∧ B ≤ W3.heap.size) ∧ Own W3 B u9 (strm ks c (64 * i)) ∧ Blk W3 w2.heap.size 53 (ub (ks ((c + i) % 4294967296))).toArray) := Lib.hid ⟨⟨F2'.out.1.1.trans (b3.mono (by have := F2'.out.1.1.size; have := G0.out; omega)), F2'.out.1.2.1.below b3, F2'.out.1.2.2.1.below b3, Nat.le_trans F2'.out.1.2.2.2 b3.size⟩, F2'.out.2.below b3, by rw [hW3]; exact setRow_heap _ _ _ _ _ _ (Blk.new _ _ _)⟩
   clear b3 hW3 F2'
   generalize w2.heap.size = ga at *
   go_upto_region 6 with (fail)
   refine wp_region_lit ?_
   refine zP (u9) ?_
   refine zP (.slice (some ⟨ga, 0, none⟩) 64 64) ?_
   obtain ⟨v5, w5, q1, q2, q3, q4, _⟩ := append_own W3 B u9 (strm ks c (64 * i)) (ks ((c + i) % 4294967296)) (some ⟨ga, 0, none⟩) 64 64 F3.out.2.1 (row_blk F3.out.2.2 (HT.out.2.2.1 _).1 (by decide) (HT.out.2.2.1 _).2) (by rw [strm_len]; have := RI.out.1; have := HN.out; omega) F3.out.1.2.2.2
   rw [strm_next HT.out] at q2
   have Q1 := Lib.hid q1
   have F5 : Hid (64 * (i + 1) < n + 64 ∧ (Below g0 w w5 ∧ Blk w5 g0 22 KV.toArray ∧ Blk w5 g1 27 NV.toArray ∧ B ≤ w5.heap.size) ∧ Own w5 B v5 (strm ks c (64 * (i + 1)))) := Lib.hid (by
    have ol := F3.out.2.1.lt
    have lb := LB.out
    have g00 := G0.out
    have hk := HK.out
    refine ⟨by omega, ⟨F3.out.1.1.grown q3 (by have := F3.out.1.1.size; omega) (fun k e => by have := (ol k e).1; omega), F3.out.1.2.1.grown q3 (fun e => by have := (ol _ e.symm).1; omega), F3.out.1.2.2.1.grown q3 (fun e => by have := (ol _ e.symm).1; omega), Nat.le_trans F3.out.1.2.2.2 q3.size⟩, q2⟩)
   clear q1 q2 q3 q4
   refine zV v5 w5 (run_app _ _ _ _ _ _ _ _ _ rfl rfl rfl rfl Q1.out) ?_
   clear Q1 F3
   refine zP (v5) ?_
   go_upto_region 4 with (fail)
   refine wp_region_lit ?_
   refine zP (.int .i64 ((i : Nat) : Int)) ?_
   refine zQ (.int .i64 ((i + 1 : Nat) : Int)) (run_addi Tryd.underlying3 rfl rfl rfl _ (by have := RI.out.1; have := HN.out; rw [wrap_in _ (by omega) (by omega)]; omega)) ?_
   refine zP (.int .i64 ((i + 1 : Nat) : Int)) ?_
   unfold wpList
   go_roundw
   case rel => first | exact ⟨_, rfl, F5⟩ | ((repeat apply Exists.intro); exact ⟨⟨_, rfl, F5⟩, rfl⟩)
   case measure => simp [intOf]; have := HK.out; omega
  ·have HK := Lib.hid hlt
   clear hlt
   go_upto_region 3 with (fail)
   refine wp_region_lit ?_
   refine zP (.int .i64 ((i : Nat) : Int)) ?_
   refine zQ (.int .i64 ((64 * i : Nat) : Int)) (run_muli Tryd.underlying3 rfl rfl rfl _ (by have := RI.out.1; have := HN.out; rw [wrap_in _ (by omega) (by omega)]; omega)) ?_
   refine zP (.int .i64 ((n : Nat) : Int)) ?_
   refine zQ (.bool false) (run_lti Tryd.underlying3 rfl rfl rfl (by have := HK.out; rw [decide_eq_false_iff_not]; omega)) ?_
   obtain ⟨a, cp, hv⟩ := Own.slice RI.out.2.2
   rw [strm_len] at hv
   subst hv
   go_upto_region 7 with (fail)
   refine wp_region_lit ?_
   refine zP (.slice a (64 * i) cp) ?_
   refine zP (.int .i64 ((n : Nat) : Int)) ?_
   refine zQ (.slice a n cp) (run_sliceto _ _ _ _ _ a (64 * i) cp n rfl rfl rfl (by have := HK.out; omega) (fit_own RI.out.2.2)) ?_
   refine zP (.slice a n cp) ?_
   go_wp2_with fail
   go_ret
   refine ⟨a, cp, rfl, by rw [G0.out]; exact RI.out.2.1.1, ?_⟩
   have h := RI.out.2.2.take n (by rw [strm_len]; have := HK.out; omega)
   rw [strm_take _ _ _ _ (by have := HK.out; omega)] at h
   exact h.mono (by have := LB.out; have := G0.out; omega)
end Go.Proofs.YtlbfohpkngmaoaaDoor.Ch.B

namespace Go.Proofs.YtlbfohpkngmaoaaDoor.Ch.B
open Go Go.RowKit
theorem own_at {w : World} {B n cq : Nat} {a : Option Addr} {xs : List Int} (h : Own w B (.slice a n cq) xs) (hl : xs.length = n) (h0 : 0 < n) : ∃ g cur, a = some ⟨g, 0, none⟩ ∧ B ≤ g ∧ Blk w g 5 cur ∧ cur.size = cq ∧ cq ≤ maxLen := by
 rcases h.form with ⟨_, h2⟩ | ⟨g, cap, cur, h1, h2, h3, h4, h5, h6, h7⟩
 ·rw [h2] at hl; simp at hl; omega
 ·simp only [Value.slice.injEq] at h1
  exact ⟨g, cur, h1.1, h2, h3, by rw [h6, h1.2.2], by rw [h1.2.2]; exact h5⟩
def MX (ks : Nat → List Int) (c : Nat) (xs : List Int) (n cq g i : Nat) (W : World) : Prop :=
 ∃ l : List Value, Blk W g 5 l.toArray ∧ (l.length = cq ∧ n ≤ cq) ∧ ∀ j, j < n → l[j]? = some (.int .u8 (if j < i then bits .xor .u8 (sb ks c j) (xs.getD j 0) else sb ks c j))
section
variable {ks : Nat → List Int} {c n cq g i : Nat} {xs : List Int} {W : World}
theorem mx_zero {cur : Array Value} {w : World} (h : Blk w g 5 cur) (hs : cur.size = cq) (hr : Row w (some ⟨g, 0, none⟩) n (strm ks c n) ∧ n ≤ cq) : MX ks c xs n cq g 0 w := by
 refine ⟨cur.toList, by simpa using h, ⟨by simpa using hs, hr.2⟩, fun j hj => ?_⟩
 obtain ⟨g', o', e, hc⟩ := hr.1.2.2.2 j hj
 cases e
 rw [h.cell, Nat.zero_add] at hc
 rw [if_neg (Nat.not_lt_zero _), Array.getElem?_toList, hc]
 unfold strm
 rw [range_getD _ _ _ hj]
theorem MX.cell (h : MX ks c xs n cq g i W) (hi : i < n) : W.cell? ⟨g, 0 + i, none⟩ = some (.int .u8 (sb ks c i)) := by
 obtain ⟨l, h1, h2, h3⟩ := h
 rw [h1.cell, Nat.zero_add, List.getElem?_toArray, h3 i hi, if_neg (Nat.lt_irrefl _)]
theorem MX.isThere (h : MX ks c xs n cq g i W) (hi : i < n) : (W.cell? ⟨g, 0 + i, none⟩).isSome = true := by rw [h.cell hi]; rfl
theorem MX.free (h : MX ks c xs n cq g i W) (j : Nat) : W.frozen? ⟨g, j, none⟩ = false := by
 obtain ⟨l, h1, _⟩ := h
 exact h1.free _
theorem MX.put (h : MX ks c xs n cq g i W) (hi : i < n) : MX ks c xs n cq g (i + 1) (W.setCell ⟨g, 0 + i, none⟩ (.int .u8 (bits .xor .u8 (sb ks c i) (xs.getD i 0)))) := by
 obtain ⟨l, h1, h2, h3⟩ := h
 rw [Nat.zero_add]
 refine ⟨_, Blk.set h1 i _, by simpa using h2, fun j hj => ?_⟩
 rw [List.getElem?_set]
 by_cases e : i = j
 ·subst e
  rw [if_pos rfl, if_pos (by omega), if_pos (by omega)]
 ·rw [if_neg e, h3 j hj]
  by_cases h4 : j < i
  ·rw [if_pos h4, if_pos (by omega)]
  ·rw [if_neg h4, if_neg (by omega)]
theorem MX.own {KV NV : List Value} {B : Nat} (h : MX ks c xs n cq g n W) (hT : Two KV NV ks) (hB : B ≤ g) (hm : cq ≤ maxLen) (hx : ∀ x ∈ xs, 0 ≤ x ∧ x ≤ 255) : Own W B (.slice (some ⟨g, 0, none⟩) n cq) (xorV ks c xs n) := by
 obtain ⟨l, h1, h2, h3⟩ := h
 refine ⟨⟨by simp, .inr ⟨g, cq, l.toArray, by rw [xorV_len], hB, h1, by rw [xorV_len]; exact h2.2, hm, by simpa using h2.1, ?_⟩⟩, xorV_byte hT c n xs hx⟩
 rw [xorV_len, Nat.mul_one]
 apply List.ext_getElem?
 intro j
 rw [List.getElem?_take]
 by_cases hj : j < n
 ·rw [if_pos hj, List.toList_toArray, h3 j hj, if_pos hj]
  unfold xorV
  rw [List.getElem?_map, List.getElem?_map, List.getElem?_range hj]
  simp only [Option.map_some]
  rw [xor_comm _ _ (sb_byte hT c j) (getD_byte hx j)]
 ·rw [if_neg hj, List.getElem?_eq_none (by rw [List.length_map, xorV_len]; omega)]
end
attribute [local irreducible] wpList wpAny
set_option maxHeartbeats 4000000 in
set_option maxRecDepth 100000 in
theorem refxor_two {KV NV : List Value} {ks : Nat → List Int} (hT : Two KV NV ks) (c : Nat) (hc : c < 4294967296) (n cp : Nat) (sp : Option Addr) (xs : List Int) (hn : n ≤ 65536) (w : World) (hR : Row w sp n xs) :
  Calls Tryd.prog 26 #[.agg KV.toArray, .agg NV.toArray, .int .u32 (c : Int), .slice sp n cp] w fun e w' => givesO w e w' n (xorV ks c xs n) := by
 have HT := Lib.hid hT
 have HC := Lib.hid hc
 have HN := Lib.hid hn
 have HR := Lib.hid hR
 have CX : Hid (∀ (V : World) (B j sg so : Nat), j < n → sp = some ⟨sg, so, none⟩ → B = w.heap.size → Below B w V → V.cell? ⟨sg, so + j, none⟩ = some (.int .u8 (xs.getD j 0))) := Lib.hid (fun V B j sg so hj hsp hB h => by
  obtain ⟨g, o, e, hc⟩ := (hR.below _ h (Nat.le_of_eq hB.symm)).2.2.2 j hj
  rw [hsp] at e
  cases e
  exact hc)
 clear hT hc hn hR
 go_enter Tryd.func26, Tryd.ntmps26
 go_upto_region 1 with (fail)
 obtain ⟨W1, hW1⟩ : ∃ V, V = (w.alloc (.cells KV.toArray 22)).alloc (.cells NV.toArray 27) := ⟨_, rfl⟩
 rw [← hW1]
 have F1 : Hid (Below w.heap.size w W1 ∧ Blk W1 w.heap.size 22 KV.toArray ∧ Blk W1 (w.heap.size + 1) 27 NV.toArray) := Lib.hid (by
  rw [hW1]
  exact ⟨((Below.refl _ _).alloc (Nat.le_refl _) _).alloc (by simp) _, (Blk.new _ _ _).alloc _, Blk.new' _ _ _ _ (by simp)⟩)
 clear hW1
 generalize w.heap.size + 1 = g1 at *
 obtain ⟨g0, hg0⟩ : ∃ q, w.heap.size = q := ⟨_, rfl⟩
 have G0 : Hid (w.heap.size = g0) := Lib.hid hg0
 rw [hg0] at F1
 rw [hg0]
 clear hg0
 refine wp_region_lit ?_
 refine wpL_load 22 _ rfl rfl g0 0 rfl KV _ (blk_rangeC (F1.out.2.1)) Tryd.underlying22 rfl (by rw [HT.out.2.2.2.1]; kernel_rfl) ?_
 simp only [Act.put, List.setIfInBounds_toArray, List.set_cons_zero, List.set_cons_succ]
 refine wpL_load 27 _ rfl rfl g1 0 rfl NV _ (blk_rangeC (F1.out.2.2)) Tryd.underlying27 rfl (by rw [HT.out.2.2.2.2]; kernel_rfl) ?_
 simp only [Act.put, List.setIfInBounds_toArray, List.set_cons_zero, List.set_cons_succ]
 refine zP (.int .u32 ((c : Nat) : Int)) ?_
 refine zP (.slice sp n cp) ?_
 refine zP (.int .i64 (n : Int)) ?_
 refine wpL_call 41 #[.agg KV.toArray, .agg NV.toArray, .int .u32 ((c : Nat) : Int), .int .i64 (n : Int)] rfl (by kernel_rfl) (((refstream_two HT.out c HC.out n HN.out W1)).mono fun e w2 ⟨a, cq, he, b2, o2⟩ => ⟨.slice a n cq, he, ?_⟩)
 simp only [Act.put, List.setIfInBounds_toArray, List.set_cons_zero, List.set_cons_succ]
 have F2 : Hid (Below g0 w w2) := Lib.hid (F1.out.1.trans (b2.mono (by have := F1.out.1.size; have := G0.out; omega)))
 have LW : Hid (g0 ≤ W1.heap.size) := Lib.hid (by have := F1.out.1.size; have := G0.out; omega)
 have O2 := Lib.hid (o2.mono (by have := F1.out.1.size; have := G0.out; omega : g0 ≤ W1.heap.size))
 clear b2 o2 F1 LW
 refine zP (.slice a n cq) ?_
 go_upto_region 2 with (fail)
 refine wp_region_lit ?_
 refine zP (.int .i64 0) ?_
 unfold wpList
 go_wp2_with fail
 by_cases h0 : 0 < n
 ·have H0 := Lib.hid h0
  obtain ⟨g, cur, ha, hg, hb, hs, hm⟩ := own_at O2.out (strm_len _ _ _) h0
  subst ha
  obtain ⟨sg, so, hsp, _⟩ := HR.out.2.2.2 0 h0
  subst hsp
  have MX0 : Hid (MX ks c xs n cq g 0 w2 ∧ g0 ≤ g ∧ cq ≤ maxLen) := Lib.hid ⟨mx_zero hb hs O2.out.row, hg, hm⟩
  clear h0 hg hb hs hm O2
  go_loopw [10] (fun s10 wr => ∃ i : Nat, s10 = .int .i64 ((i : Nat) : Int) ∧ Hid (i ≤ n ∧ Below g0 w wr ∧ MX ks c xs n cq g i wr)) (fun s10 _ => n - (intOf s10).toNat)
  case atStart => exact ⟨0, rfl, Lib.hid ⟨Nat.zero_le _, F2.out, MX0.out.1⟩⟩
  case round =>
   obtain ⟨i, rfl, RI⟩ := hrel
   by_cases hlt : i < n
   ·have HK := Lib.hid hlt
    clear hlt
    go_upto_region 3 with (fail)
    refine wp_region_lit ?_
    refine zP (.int .i64 ((i : Nat) : Int)) ?_
    refine zP (.slice (some ⟨g, 0, none⟩) n cq) ?_
    refine zP (.int .i64 (n : Int)) ?_
    refine zQ (.bool true) (run_lti Tryd.underlying3 rfl rfl rfl (by have := HK.out; rw [decide_eq_true_eq]; omega)) ?_
    go_upto_region 5 with (fail)
    refine region_held (fun X => Below g0 w X ∧ MX ks c xs n cq g i X) 12 (by kernel_rfl) (by kernel_rfl) (⟨RI.out.2.1.drew, RI.out.2.2⟩) ?_
    simp only [List.take_succ_cons, List.take_zero, List.drop_succ_cons, List.drop_zero]
    refine zH (.slice (some ⟨g, 0, none⟩) n cq) (fun w h => heldRun_value (by kernel_rfl) h) ?_
    refine zH (.int .i64 ((i : Nat) : Int)) (fun w h => heldRun_value (by kernel_rfl) h) ?_
    refine zH (.slice (some ⟨g, 0, none⟩) n cq) (fun w h => heldRun_value (by kernel_rfl) h) ?_
    refine zH (.int .i64 ((i : Nat) : Int)) (fun w h => heldRun_value (by kernel_rfl) h) ?_
    refine zH (.pointer (some ⟨g, 0 + i, none⟩)) (fun w h => heldRun_value (run_idx _ _ _ _ _ g 0 n cq i rfl rfl rfl HK.out HR.out.2.1) h) ?_
    refine zH (.int .u8 (sb ks c i)) (fun w h => heldRun_value (run_load_one _ _ _ 5 _ _ rfl g (0 + i) rfl (h.2.cell HK.out) (by kernel_rfl)) h) ?_
    refine zH (.slice (some ⟨sg, so, none⟩) n cp) (fun w h => heldRun_value (by kernel_rfl) h) ?_
    refine zH (.int .i64 ((i : Nat) : Int)) (fun w h => heldRun_value (by kernel_rfl) h) ?_
    refine zH (.pointer (some ⟨sg, so + i, none⟩)) (fun w h => heldRun_value (run_idx _ _ _ _ _ sg so n cp i rfl rfl rfl HK.out HR.out.2.1) h) ?_
    refine zH (.int .u8 (xs.getD i 0)) (fun w h => heldRun_value (run_load_one _ _ _ 5 _ _ rfl sg (so + i) rfl (CX.out w _ _ _ _ HK.out rfl G0.out.symm h.1) (by kernel_rfl)) h) ?_
    refine zH (.int .u8 (bits .xor .u8 (sb ks c i) (xs.getD i 0))) (fun w h => heldRun_value (run_biti (.inr (.inr rfl)) Tryd.underlying5 rfl rfl rfl _ rfl) h) ?_
    refine zH (.pointer (some ⟨g, 0 + i, none⟩)) (fun w h => heldRun_value (run_idx _ _ _ _ _ g 0 n cq i rfl rfl rfl HK.out HR.out.2.1) h) ?_
    refine wpHeld_nil ?_
    intro w1 h1
    have H1 := Lib.hid h1
    clear h1
    refine wpL_store_one rfl rfl (g) (0 + i) rfl (.int .u8 (bits .xor .u8 (sb ks c i) (xs.getD i 0))) rfl rfl size5 (H1.out.2.isThere HK.out) (H1.out.2.free _) ?_
    simp only [Act.put, List.setIfInBounds_toArray, List.set_cons_zero, List.set_cons_succ]
    obtain ⟨w3, hw3⟩ : ∃ V, V = w1.setCell ⟨g, 0 + i, none⟩ (.int .u8 (bits .xor .u8 (sb ks c i) (xs.getD i 0))) := ⟨_, rfl⟩
    rw [← hw3]
    have NX : Hid (i + 1 ≤ n ∧ Below g0 w w3 ∧ MX ks c xs n cq g (i + 1) w3) := Lib.hid ⟨HK.out, by rw [hw3]; exact H1.out.1.setCell (p := ⟨g, 0 + i, none⟩) MX0.out.2.1 _, by rw [hw3]; exact H1.out.2.put HK.out⟩
    clear hw3 H1
    go_upto_region 4 with (fail)
    refine wp_region_lit ?_
    refine zP (.int .i64 ((i : Nat) : Int)) ?_
    refine zQ (.int .i64 ((i + 1 : Nat) : Int)) (run_addi Tryd.underlying3 rfl rfl rfl _ (by have := HK.out; have := HN.out; rw [wrap_in _ (by omega) (by omega)]; omega)) ?_
    refine zP (.int .i64 ((i + 1 : Nat) : Int)) ?_
    unfold wpList
    go_roundw
    case rel => first | exact ⟨_, rfl, NX⟩ | ((repeat apply Exists.intro); exact ⟨⟨_, rfl, NX⟩, rfl⟩)
    case measure => simp [intOf]; have := HK.out; omega
   ·have EK : Hid (i = n) := Lib.hid (by have := RI.out.1; omega)
    clear hlt
    go_upto_region 3 with (fail)
    refine wp_region_lit ?_
    refine zP (.int .i64 ((i : Nat) : Int)) ?_
    refine zP (.slice (some ⟨g, 0, none⟩) n cq) ?_
    refine zP (.int .i64 (n : Int)) ?_
    refine zQ (.bool false) (run_lti Tryd.underlying3 rfl rfl rfl (by have := EK.out; rw [decide_eq_false_iff_not]; omega)) ?_
    go_upto_region 6 with (fail)
    refine wp_region_lit ?_
    refine zP (.slice (some ⟨g, 0, none⟩) n cq) ?_
    refine zP (.slice (some ⟨g, 0, none⟩) n cq) ?_
    go_wp2_with fail
    go_ret
    have M := RI.out.2.2
    rw [EK.out] at M
    exact ⟨_, cq, rfl, by rw [G0.out]; exact RI.out.2.1, by rw [G0.out]; exact M.own HT.out MX0.out.2.1 MX0.out.2.2 HR.out.2.2.1⟩
 ·obtain rfl : n = 0 := by omega
  go_loopw [10] (fun s10 wr => s10 = .int .i64 0 ∧ Hid (wr = w2)) (fun _ _ => 0)
  case atStart => exact ⟨rfl, Lib.hid rfl⟩
  case round =>
   obtain ⟨rfl, E⟩ := hrel
   obtain rfl : wr = w2 := E.out
   go_upto_region 3 with (fail)
   refine wp_region_lit ?_
   refine zP (.int .i64 0) ?_
   refine zP (.slice a 0 cq) ?_
   refine zP (.int .i64 0) ?_
   refine zP (.bool false) ?_
   go_upto_region 6 with (fail)
   refine wp_region_lit ?_
   refine zP (.slice a 0 cq) ?_
   refine zP (.slice a 0 cq) ?_
   go_wp2_with fail
   go_ret
   exact ⟨a, cq, rfl, by rw [G0.out]; exact F2.out, by rw [G0.out]; exact O2.out⟩
end Go.Proofs.YtlbfohpkngmaoaaDoor.Ch.B

