/- The reference: Take. -/
import Derived.Test.YtoeojgdolanggaaP4
namespace Go.Proofs.Ytoeojgdolanggaa
open Go Go.RowKit
set_option maxRecDepth 100000
theorem row_range {w : World} {B gs sc k : Nat} {ls : List Ltr} {l : Ltr} (h : LRow w B (.slice (some ⟨gs, 0, none⟩) ls.length sc) ls.length (flat ls)) (hl : ls[k]? = some l) : w.rangeAt gs (k * 3) [.int .i64 l.f, .int .i64 l.t, l.v] := by
  intro j v hj
  have hj3 : j < 3 := by
    rcases Nat.lt_or_ge j 3 with q | q
    · exact q
    · rw [List.getElem?_eq_none (by simp; omega)] at hj; cases hj
  have hk : k < ls.length := (List.getElem?_eq_some_iff.1 hl).1
  rw [h.cell (k * 3 + j) (by omega), flat_get ls k j l hl hj3]
  exact hj
theorem row_take {w : World} {B gs n c k : Nat} {cs : List Value} (h : LRow w B (.slice (some ⟨gs, 0, none⟩) n c) n cs) (hk : k ≤ n) : ∀ j u, (cs.take (k * 3))[j]? = some u → w.cell? ((⟨gs, 0, none⟩ : Addr).add j) = some u := by
  intro j u hu
  have hj : j < k * 3 := by have := (List.getElem?_eq_some_iff.1 hu).1; rw [List.length_take] at this; omega
  rw [Addr.add_lit, Nat.zero_add, h.cell j (by omega)]
  rw [List.getElem?_take, if_pos hj] at hu
  exact hu
theorem row_drop {w : World} {B gs n c k : Nat} {cs : List Value} (h : LRow w B (.slice (some ⟨gs, 0, none⟩) n c) n cs) (hl : cs.length = n * 3) (hk : k + 1 ≤ n) (hc : n ≤ c) : ∀ j u, (cs.drop ((k + 1) * 3))[j]? = some u → w.cell? ((⟨gs, if c = k + 1 then 0 else (k + 1) * 3, none⟩ : Addr).add j) = some u := by
  intro j u hu
  rw [List.getElem?_drop] at hu
  have hj : (k + 1) * 3 + j < n * 3 := by have := (List.getElem?_eq_some_iff.1 hu).1; omega
  have q : c ≠ k + 1 := by omega
  rw [if_neg q, Addr.add_lit, h.cell _ hj]
  exact hu
theorem FrN.new {w w' : World} {b : Nat} {s s' : Value} (h : Below w.heap.size w w') (hs : ∀ g, s'.ownBlock = some g → w.heap.size ≤ g) : FrN w w' b s s' := ⟨h.os, h.tape, h.output, h.size, fun k hk _ _ => h.block k hk, fun g hg => .inr (hs g hg)⟩
theorem FrN.setRow {w w' : World} {b g : Nat} {s s' : Value} (h : FrN w w' b s s') (hg : w.heap.size ≤ g) (cs : Array Value) : FrN w (w'.setRow g cs) b s s' :=
  ⟨h.os, h.tape, h.output, Nat.le_trans h.size (by simp), fun k hk hb hs => (setRow_other _ _ _ _ (by omega)).trans (h.block k hk hb hs), h.row⟩
theorem rt_store {W0 w w3 W5 : World} {r g4 g7 : Nat} {ts v5 : Value} {rs : List Ltr} {z4 z7 : Array Value} (h : RefSt W0 w3 r ts rs ∧ Below w.heap.size w w3 ∧ Blk w3 g4 43 z4 ∧ Blk w3 g7 43 z7 ∧ w.heap.size ≤ g4) (hb : Below w3.heap.size w3 W5) {n : Nat} {cs : List Value} (q : LRow W5 w3.heap.size v5 n cs) (k : Nat) (e : (n, cs) = ((rs.eraseIdx k).length, flat (rs.eraseIdx k))) :
    RefSt W0 (W5.setCell ⟨r, 0, none⟩ v5) r v5 (rs.eraseIdx k) ∧ FrN w (W5.setCell ⟨r, 0, none⟩ v5) r ts v5 ∧ Blk (W5.setCell ⟨r, 0, none⟩ v5) g4 43 z4 ∧ Blk (W5.setCell ⟨r, 0, none⟩ v5) g7 43 z7 ∧ v5.ownBlock ≠ some g4 := by
  cases e
  obtain ⟨h1, h2, h3, h4, h5⟩ := h
  have c1 := h1.1.below hb
  have n4 : g4 ≠ r := blk_ne h3 h1.1 (by decide)
  have n7 : g7 ≠ r := blk_ne h4 h1.1 (by decide)
  refine ⟨⟨Blk.set (l := [ts]) c1 0 v5, h1.2.1, (q.mono (Nat.le_trans h1.2.1 (Nat.le_of_lt h1.1.lt))).other _ _ (row_ne q c1 (by decide)), fun l hl => h1.2.2.2 l (List.mem_of_mem_eraseIdx hl)⟩, (FrN.pre h2 (FrN.new hb (fun g hg => (q.lt g hg).1))).set (o := 0) _, (h3.below hb).other _ _ n4, (h4.below hb).other _ _ n7, fun e => ?_⟩
  have := (q.lt g4 e).1
  have := h3.lt
  omega
theorem rt_res {W0 w W6 : World} {r g4 : Nat} {ts v5 : Value} {rs : List Ltr} {z4 : Array Value} {X : Prop} (h : RefSt W0 W6 r v5 rs ∧ FrN w W6 r ts v5 ∧ Blk W6 g4 43 z4 ∧ X ∧ v5.ownBlock ≠ some g4) (f t : Int) (v : Value) (hg : w.heap.size ≤ g4) :
    RefSt W0 (W6.setRow g4 #[.int .i64 f, .int .i64 t, v]) r v5 rs ∧ FrN w (W6.setRow g4 #[.int .i64 f, .int .i64 t, v]) r ts v5 ∧ Blk (W6.setRow g4 #[.int .i64 f, .int .i64 t, v]) g4 43 #[.int .i64 f, .int .i64 t, v] := by
  obtain ⟨h1, h2, h3, _, h5⟩ := h
  have gb : W6.grownBy (W6.setRow g4 #[.int .i64 f, .int .i64 t, v]) (some g4) := ⟨rfl, rfl, rfl, by simp, fun k _ hr => setRow_other _ _ _ _ (fun e => hr (congrArg some e))⟩
  have n4 : r ≠ g4 := blk_ne h1.1 h3 (by decide)
  exact ⟨⟨h1.1.grown gb (by simpa using n4), h1.2.1, h1.2.2.1.grown gb (.inr h5), h1.2.2.2⟩, h2.setRow hg _, setRow_heap _ _ _ _ _ _ h3⟩
attribute [local irreducible] wpList
def RTake (W0 w : World) (r : Nat) (ts : Value) (rs : List Ltr) (i : Int) (e : Ending) (w' : World) : Prop :=
  (rs.length = 0 ∧ e = .returned (.tuple #[.agg #[.int .i64 0, .int .i64 0, .slice none 0 0], .bool false]) ∧ RefSt W0 w' r ts rs ∧ Below w.heap.size w w') ∨
  ∃ l t', rs[plc i rs.length]? = some l ∧ e = .returned (.tuple #[.agg #[.int .i64 l.f, .int .i64 l.t, l.v], .bool true]) ∧ RefSt W0 w' r t' (rs.eraseIdx (plc i rs.length)) ∧ FrN w w' r ts t'
set_option maxHeartbeats 2000000 in
theorem take_ref0 (W0 w : World) (r : Nat) (i : Int) (ts : Value) (rs : List Ltr) (h : RefSt W0 w r ts rs) (h0 : rs.length = 0) : Calls Try.prog 23 #[.pointer (some ⟨r, 0, none⟩), .int .i64 i] w fun e w' => RTake W0 w r ts rs i e w' := by
  have H := Lib.hid h
  have H0 := Lib.hid h0
  have HP : Hid (plcR i rs.length = -1) := Lib.hid (by rw [plcR, if_pos h0])
  clear h h0
  obtain ⟨w1, hw1⟩ : ∃ V, V = w.alloc (.cells #[.int .i64 0, .int .i64 0, .slice none 0 0] 43) := ⟨_, rfl⟩
  obtain ⟨g4, hg4⟩ : ∃ q, w.heap.size = q := ⟨_, rfl⟩
  have F1 : Hid (RefSt W0 w1 r (ts) rs ∧ Below w.heap.size w w1 ∧ Blk w1 g4 43 #[.int .i64 0, .int .i64 0, .slice none 0 0] ∧ w.heap.size ≤ g4) := Lib.hid (by
    have hb : Below w.heap.size w w1 := by rw [hw1]; exact (Below.refl _ _).alloc (Nat.le_refl _) _
    exact ⟨H.out.below hb, hb, by rw [hw1, ← hg4]; exact Blk.new _ _ _, Nat.le_of_eq hg4⟩)
  go_enter Try.func23, Try.ntmps23
  go_upto_region 0 with (fail)
  refine wp_region_lit ?_
  refine wpL_value (.pointer (some ⟨g4, 0, none⟩)) (w1) rfl (by rw [hw1, ← hg4]; kernel_rfl) ?_
  simp only [Act.put, List.setIfInBounds_toArray, List.set_cons_zero, List.set_cons_succ]
  refine wpL_pure (.bool false) rfl (by kernel_rfl) ?_
  simp only [Act.put, List.setIfInBounds_toArray, List.set_cons_zero, List.set_cons_succ]
  clear hw1 hg4
  go_upto_region 1 with (fail)
  refine wp_region_lit ?_
  refine wpL_pure (.pointer (some ⟨r, 0, none⟩)) rfl (by kernel_rfl) ?_
  simp only [Act.put, List.setIfInBounds_toArray, List.set_cons_zero, List.set_cons_succ]
  refine wpL_pure (.int .i64 i) rfl (by kernel_rfl) ?_
  simp only [Act.put, List.setIfInBounds_toArray, List.set_cons_zero, List.set_cons_succ]
  refine wpL_call 19 #[.pointer (some ⟨r, 0, none⟩), .int .i64 i] rfl (by kernel_rfl) ((place_ref W0 w1 r i _ rs F1.out.1).mono fun e w2 ⟨he, hx⟩ => ⟨.int .i64 (-1), by rw [he, HP.out], ?_⟩)
  simp only [Act.put, List.setIfInBounds_toArray, List.set_cons_zero, List.set_cons_succ]
  subst hx
  refine wpL_pure (.int .i64 (-1)) rfl (by kernel_rfl) ?_
  simp only [Act.put, List.setIfInBounds_toArray, List.set_cons_zero, List.set_cons_succ]
  go_upto_region 2 with (fail)
  refine wp_region_lit ?_
  refine wpL_pure (.int .i64 (-1)) rfl (by kernel_rfl) ?_
  simp only [Act.put, List.setIfInBounds_toArray, List.set_cons_zero, List.set_cons_succ]
  refine wpL_pure (.bool true) rfl (by kernel_rfl) ?_
  simp only [Act.put, List.setIfInBounds_toArray, List.set_cons_zero, List.set_cons_succ]
  go_upto_region 3 with (fail)
  refine wp_region_lit ?_
  refine wpL_pure (.agg #[.int .i64 0, .int .i64 0, .slice none 0 0]) rfl (by kernel_rfl) ?_
  simp only [Act.put, List.setIfInBounds_toArray, List.set_cons_zero, List.set_cons_succ]
  refine wpList_store_row rfl 43 _ _ rfl (g4) (#[.int .i64 0, .int .i64 0, .slice none 0 0]) rfl rfl _ _ (F1.out.2.2.1) (by kernel_rfl) rfl (all3 _ _ _ rfl) ?_
  simp only [Act.put, List.setIfInBounds_toArray, List.set_cons_zero, List.set_cons_succ]
  obtain ⟨W3, hW⟩ : ∃ V, V = w1.setRow g4 #[.int .i64 0, .int .i64 0, .slice none 0 0] := ⟨_, rfl⟩
  rw [← hW]
  have F3 : Hid (RefSt W0 W3 r ts rs ∧ Below w.heap.size w W3 ∧ Blk W3 g4 43 #[.int .i64 0, .int .i64 0, .slice none 0 0]) := Lib.hid (by
    have hb : Below w.heap.size w W3 := by rw [hW]; exact below_setRow F1.out.2.1 F1.out.2.2.2 _
    exact ⟨H.out.below hb, hb, by rw [hW]; exact setRow_heap _ _ _ _ _ _ F1.out.2.2.1⟩)
  clear hW F1
  refine wpL_pure (.bool false) rfl (by kernel_rfl) ?_
  simp only [Act.put, List.setIfInBounds_toArray, List.set_cons_zero, List.set_cons_succ]
  go_wp2_with fail
  exact bodyPost_ret (results_ct rfl _ _ g4 43 _ (0, 0) _ rfl F3.out.2.2 Try.underlying43 rfl (by kernel_rfl)) rfl (.inl ⟨H0.out, rfl, F3.out.1, F3.out.2.1⟩)

set_option maxHeartbeats 4000000 in
theorem take_ref (W0 w : World) (r : Nat) (i : Int) (ts : Value) (rs : List Ltr) (h : RefSt W0 w r ts rs) (h3 : rs.length ≤ 300) : Calls Try.prog 23 #[.pointer (some ⟨r, 0, none⟩), .int .i64 i] w fun e w' => RTake W0 w r ts rs i e w' := by
  by_cases h0 : rs.length = 0
  · exact take_ref0 W0 w r i ts rs h h0
  obtain ⟨k, hk⟩ : ∃ k, plc i rs.length = k := ⟨_, rfl⟩
  have hlt : k < rs.length := by rw [← hk]; exact plc_lt i _ (by omega)
  obtain ⟨l, hl⟩ : ∃ l, rs[k]? = some l := ⟨_, List.getElem?_eq_getElem hlt⟩
  rcases h.2.2.1.forms with ⟨_, e, _⟩ | ⟨gs, tc, cur, rfl, _, _, q4, q5, _⟩
  · omega
  have ONE : Hid (l.v.oneCell' = true) := Lib.hid (by obtain ⟨⟨a, n, c, e, _⟩, _⟩ := h.2.2.2 l (List.mem_of_getElem? hl); rw [e]; rfl)
  have H := Lib.hid h
  have HE := Lib.hid hk
  have HL := Lib.hid hl
  have HN : Hid (k < rs.length ∧ rs.length ≤ 300 ∧ rs.length ≤ tc ∧ tc ≤ maxLen ∧ rs.length ≤ maxLen) := Lib.hid ⟨hlt, h3, q4, q5, by unfold maxLen; omega⟩
  have HK : Hid ((0 : Int) ≤ (k : Int)) := Lib.hid (by omega)
  have HP : Hid (plcR i rs.length = (k : Int)) := Lib.hid (by rw [plcR, if_neg h0, hk])
  clear h h0 hlt hl q4 q5 h3 hk
  obtain ⟨w1, hw1⟩ : ∃ V, V = w.alloc (.cells #[.int .i64 0, .int .i64 0, .slice none 0 0] 43) := ⟨_, rfl⟩
  obtain ⟨g4, hg4⟩ : ∃ q, w.heap.size = q := ⟨_, rfl⟩
  have F1 : Hid (RefSt W0 w1 r (.slice (some ⟨gs, 0, none⟩) rs.length tc) rs ∧ Below w.heap.size w w1 ∧ Blk w1 g4 43 #[.int .i64 0, .int .i64 0, .slice none 0 0] ∧ w.heap.size ≤ g4) := Lib.hid (by
    have hb : Below w.heap.size w w1 := by rw [hw1]; exact (Below.refl _ _).alloc (Nat.le_refl _) _
    exact ⟨H.out.below hb, hb, by rw [hw1, ← hg4]; exact Blk.new _ _ _, Nat.le_of_eq hg4⟩)
  go_enter Try.func23, Try.ntmps23
  go_upto_region 0 with (fail)
  refine wp_region_lit ?_
  refine wpL_value (.pointer (some ⟨g4, 0, none⟩)) (w1) rfl (by rw [hw1, ← hg4]; kernel_rfl) ?_
  simp only [Act.put, List.setIfInBounds_toArray, List.set_cons_zero, List.set_cons_succ]
  refine wpL_pure (.bool false) rfl (by kernel_rfl) ?_
  simp only [Act.put, List.setIfInBounds_toArray, List.set_cons_zero, List.set_cons_succ]
  clear hw1 hg4
  go_upto_region 1 with (fail)
  refine wp_region_lit ?_
  refine wpL_pure (.pointer (some ⟨r, 0, none⟩)) rfl (by kernel_rfl) ?_
  simp only [Act.put, List.setIfInBounds_toArray, List.set_cons_zero, List.set_cons_succ]
  refine wpL_pure (.int .i64 i) rfl (by kernel_rfl) ?_
  simp only [Act.put, List.setIfInBounds_toArray, List.set_cons_zero, List.set_cons_succ]
  refine wpL_call 19 #[.pointer (some ⟨r, 0, none⟩), .int .i64 i] rfl (by kernel_rfl) ((place_ref W0 w1 r i _ rs F1.out.1).mono fun e w2 ⟨he, hx⟩ => ⟨.int .i64 (k : Int), by rw [he, HP.out], ?_⟩)
  simp only [Act.put, List.setIfInBounds_toArray, List.set_cons_zero, List.set_cons_succ]
  subst hx
  refine wpL_pure (.int .i64 (k : Int)) rfl (by kernel_rfl) ?_
  simp only [Act.put, List.setIfInBounds_toArray, List.set_cons_zero, List.set_cons_succ]
  go_upto_region 2 with (fail)
  refine wp_region_lit ?_
  refine wpL_pure (.int .i64 (k : Int)) rfl (by kernel_rfl) ?_
  simp only [Act.put, List.setIfInBounds_toArray, List.set_cons_zero, List.set_cons_succ]
  refine wpL_pure (.bool false) rfl (run_lti Try.underlying3 rfl rfl rfl (by have := HK.out; rw [decide_eq_false_iff_not]; omega)) ?_
  simp only [Act.put, List.setIfInBounds_toArray, List.set_cons_zero, List.set_cons_succ]
  go_upto_region 4 with (fail)
  refine wp_region_lit ?_
  refine wpL_pure (.pointer (some ⟨r, 0, none⟩)) rfl (by kernel_rfl) ?_
  simp only [Act.put, List.setIfInBounds_toArray, List.set_cons_zero, List.set_cons_succ]
  refine wpL_pure (.pointer (some ⟨r, 0, none⟩)) rfl (by kernel_rfl) ?_
  simp only [Act.put, List.setIfInBounds_toArray, List.set_cons_zero, List.set_cons_succ]
  refine wpL_pure (.pointer (some ⟨r, 0, none⟩)) rfl (by kernel_rfl) ?_
  simp only [Act.put, List.setIfInBounds_toArray, List.set_cons_zero, List.set_cons_succ]
  refine wpL_pure (.slice (some ⟨gs, 0, none⟩) rs.length tc) rfl (run_load_one _ _ _ 39 _ _ rfl (r) (0) rfl (by rw [F1.out.1.1.cell]; rfl) (by kernel_rfl)) ?_
  simp only [Act.put, List.setIfInBounds_toArray, List.set_cons_zero, List.set_cons_succ]
  refine wpL_pure (.int .i64 (k : Int)) rfl (by kernel_rfl) ?_
  simp only [Act.put, List.setIfInBounds_toArray, List.set_cons_zero, List.set_cons_succ]
  refine wpL_pure (.pointer (some ⟨gs, k * 3, none⟩)) rfl (run_idxl _ _ _ _ _ gs rs.length tc k rfl rfl rfl HN.out.1 (by have := HN.out; omega)) ?_
  simp only [Act.put, List.setIfInBounds_toArray, List.set_cons_zero, List.set_cons_succ]
  refine wpL_pure (.agg #[.int .i64 l.f, .int .i64 l.t, l.v]) rfl (run_load_mid _ _ _ 43 _ rfl gs (k * 3) rfl [.int .i64 l.f, .int .i64 l.t, l.v] _ (row_range F1.out.1.2.2.1 HL.out) Try.underlying43 rfl (by kernel_rfl)) ?_
  simp only [Act.put, List.setIfInBounds_toArray, List.set_cons_zero, List.set_cons_succ]
  have BX := Lib.hid (box_frame w1 l.f l.t l.v)
  obtain ⟨w3, hw3⟩ : ∃ V, V = (w1.alloc (.cells #[.int .i64 0, .int .i64 0, .slice none 0 0] 43)).setRow w1.heap.size #[.int .i64 l.f, .int .i64 l.t, l.v] := ⟨_, rfl⟩
  rw [← hw3] at BX
  refine wpL_value (.pointer (some ⟨w1.heap.size, 0, none⟩)) (w1.alloc (.cells #[.int .i64 0, .int .i64 0, .slice none 0 0] 43)) rfl (by kernel_rfl) ?_
  simp only [Act.put, List.setIfInBounds_toArray, List.set_cons_zero, List.set_cons_succ]
  refine wpList_store_row rfl 43 _ _ rfl (w1.heap.size) (#[.int .i64 l.f, .int .i64 l.t, l.v]) rfl rfl _ _ (Blk.new w1 43 _) (by kernel_rfl) rfl (all3 _ _ _ ONE.out) ?_
  simp only [Act.put, List.setIfInBounds_toArray, List.set_cons_zero, List.set_cons_succ]
  rw [← hw3]
  have HG := Lib.hid F1.out.2.2.2
  have F3 : Hid (RefSt W0 w3 r (.slice (some ⟨gs, 0, none⟩) rs.length tc) rs ∧ Below w.heap.size w w3 ∧ Blk w3 g4 43 #[.int .i64 0, .int .i64 0, .slice none 0 0] ∧ Blk w3 w1.heap.size 43 #[.int .i64 l.f, .int .i64 l.t, l.v] ∧ w.heap.size ≤ g4) := Lib.hid ⟨F1.out.1.below BX.out.2, F1.out.2.1.trans (BX.out.2.mono F1.out.2.1.size), F1.out.2.2.1.below BX.out.2, BX.out.1, F1.out.2.2.2⟩
  clear BX F1 hw3
  generalize w1.heap.size = g7 at F3 ⊢
  go_upto_region 5 with (fail)
  refine wp_region_lit ?_
  refine wpL_pure (.slice none 0 0) rfl (by kernel_rfl) ?_
  simp only [Act.put, List.setIfInBounds_toArray, List.set_cons_zero, List.set_cons_succ]
  obtain ⟨v4, W4, r1, r2, r3, r4, r5⟩ := append_ltr w3 w3.heap.size (.slice none 0 0) 0 [] ⟨gs, 0, none⟩ k tc ((flat rs).take (k * 3)) (LRow.nil _ _) (by rw [List.length_take, flat_len]; have := HN.out.1; omega) (row_take F3.out.1.2.2.1 (by have := HN.out.1; omega)) (fun u hu => F3.out.1.2.2.1.2 u (List.mem_of_mem_take hu)) (by have := HN.out; omega) (Nat.le_refl _)
  have R1 := Lib.hid r1
  have F4 : Hid (Below w3.heap.size w3 W4 ∧ LRow W4 w3.heap.size v4 (0 + k) ([] ++ (flat rs).take (k * 3))) := Lib.hid ⟨⟨r3.os, r3.tape, r3.output, r3.size, fun j hj => r3.block j hj (by simp [Value.ownBlock])⟩, r2⟩
  clear r1 r2 r3 r4 r5
  go_upto_region 6 with (fail)
  refine wp_region_lit ?_
  refine wpL_pure (.slice none 0 0) rfl (by kernel_rfl) ?_
  simp only [Act.put, List.setIfInBounds_toArray, List.set_cons_zero, List.set_cons_succ]
  refine wpL_pure (.pointer (some ⟨r, 0, none⟩)) rfl (by kernel_rfl) ?_
  simp only [Act.put, List.setIfInBounds_toArray, List.set_cons_zero, List.set_cons_succ]
  refine wpL_pure (.pointer (some ⟨r, 0, none⟩)) rfl (by kernel_rfl) ?_
  simp only [Act.put, List.setIfInBounds_toArray, List.set_cons_zero, List.set_cons_succ]
  refine wpL_pure (.pointer (some ⟨r, 0, none⟩)) rfl (by kernel_rfl) ?_
  simp only [Act.put, List.setIfInBounds_toArray, List.set_cons_zero, List.set_cons_succ]
  refine wpL_pure (.slice (some ⟨gs, 0, none⟩) rs.length tc) rfl (run_load_one _ _ _ 39 _ _ rfl (r) (0) rfl (by rw [F3.out.1.1.cell]; rfl) (by kernel_rfl)) ?_
  simp only [Act.put, List.setIfInBounds_toArray, List.set_cons_zero, List.set_cons_succ]
  refine wpL_pure (.int .i64 (k : Int)) rfl (by kernel_rfl) ?_
  simp only [Act.put, List.setIfInBounds_toArray, List.set_cons_zero, List.set_cons_succ]
  refine wpL_pure (.slice (some ⟨gs, 0, none⟩) k tc) rfl (run_sliceto _ _ _ _ _ gs rs.length tc k rfl rfl rfl HN.out.1 (by have := HN.out; omega)) ?_
  simp only [Act.put, List.setIfInBounds_toArray, List.set_cons_zero, List.set_cons_succ]
  refine wpL_value (v4) (W4) rfl (run_appl _ _ w3 W4 _ _ _ _ v4 rfl rfl rfl rfl R1.out) ?_
  simp only [Act.put, List.setIfInBounds_toArray, List.set_cons_zero, List.set_cons_succ]
  refine wpL_pure (v4) rfl (by kernel_rfl) ?_
  simp only [Act.put, List.setIfInBounds_toArray, List.set_cons_zero, List.set_cons_succ]
  have G4 : Hid (RefSt W0 W4 r (.slice (some ⟨gs, 0, none⟩) rs.length tc) rs) := Lib.hid (F3.out.1.below F4.out.1)
  obtain ⟨of, hof⟩ : ∃ q, (if tc = k + 1 then 0 else (k + 1) * 3) = q := ⟨_, rfl⟩
  have HOF := Lib.hid hof
  obtain ⟨v5, W5, r1, r2, r3, r4, r5⟩ := append_ltr W4 w3.heap.size v4 (0 + k) _ ⟨gs, of, none⟩ (rs.length - (k + 1)) (tc - (k + 1)) ((flat rs).drop ((k + 1) * 3)) F4.out.2 (by rw [List.length_drop, flat_len]; have := HN.out.1; omega) (by rw [← hof]; exact row_drop G4.out.2.2.1 (flat_len rs) (by have := HN.out.1; omega) HN.out.2.2.1) (fun u hu => F3.out.1.2.2.1.2 u (List.mem_of_mem_drop hu)) (by have := HN.out; omega) F4.out.1.size
  have R2 := Lib.hid r1
  have ONE5 : v5.oneCell' = true := by obtain ⟨a, c, e, _⟩ := r2.slice; rw [e]; rfl
  have F5 : Hid (RefSt W0 W5 r (.slice (some ⟨gs, 0, none⟩) rs.length tc) rs ∧ Below w3.heap.size w3 W5 ∧ LRow W5 w3.heap.size v5 (rs.eraseIdx k).length (flat (rs.eraseIdx k))) := Lib.hid (by
    have hb : Below w3.heap.size w3 W5 := F4.out.1.grown r3 F4.out.1.size (fun j hj => (F4.out.2.lt j hj).1)
    have e1 : (rs.eraseIdx k).length = 0 + k + (rs.length - (k + 1)) := by rw [List.length_eraseIdx, if_pos HN.out.1]; have := HN.out.1; omega
    have e2 : flat (rs.eraseIdx k) = [] ++ (flat rs).take (k * 3) ++ (flat rs).drop ((k + 1) * 3) := by rw [List.eraseIdx_eq_take_drop_succ, flat_append, flat_take, flat_drop, List.nil_append]
    exact ⟨F3.out.1.below hb, hb, by rw [e1, e2]; exact r2⟩)
  clear r1 r2 r3 r4 r5 hof
  go_upto_region 7 with (fail)
  refine wp_region_lit ?_
  refine wpL_pure (v4) rfl (by kernel_rfl) ?_
  simp only [Act.put, List.setIfInBounds_toArray, List.set_cons_zero, List.set_cons_succ]
  refine wpL_pure (.pointer (some ⟨r, 0, none⟩)) rfl (by kernel_rfl) ?_
  simp only [Act.put, List.setIfInBounds_toArray, List.set_cons_zero, List.set_cons_succ]
  refine wpL_pure (.pointer (some ⟨r, 0, none⟩)) rfl (by kernel_rfl) ?_
  simp only [Act.put, List.setIfInBounds_toArray, List.set_cons_zero, List.set_cons_succ]
  refine wpL_pure (.pointer (some ⟨r, 0, none⟩)) rfl (by kernel_rfl) ?_
  simp only [Act.put, List.setIfInBounds_toArray, List.set_cons_zero, List.set_cons_succ]
  refine wpL_pure (.slice (some ⟨gs, 0, none⟩) rs.length tc) rfl (run_load_one _ _ _ 39 _ _ rfl (r) (0) rfl (by rw [G4.out.1.cell]; rfl) (by kernel_rfl)) ?_
  simp only [Act.put, List.setIfInBounds_toArray, List.set_cons_zero, List.set_cons_succ]
  refine wpL_pure (.int .i64 (k : Int)) rfl (by kernel_rfl) ?_
  simp only [Act.put, List.setIfInBounds_toArray, List.set_cons_zero, List.set_cons_succ]
  refine wpL_pure (.int .i64 ((k + 1 : Nat) : Int)) rfl (run_addi Try.underlying3 rfl rfl rfl _ (by have := HN.out; rw [wrap_in _ (by omega) (by omega)]; omega)) ?_
  simp only [Act.put, List.setIfInBounds_toArray, List.set_cons_zero, List.set_cons_succ]
  refine wpL_pure (.slice (some ⟨gs, of, none⟩) (rs.length - (k + 1)) (tc - (k + 1))) rfl (by rw [← HOF.out]; exact run_slicefrom _ _ _ _ _ gs rs.length tc (k + 1) rfl rfl rfl (by have := HN.out; omega) (by have := HN.out; omega)) ?_
  simp only [Act.put, List.setIfInBounds_toArray, List.set_cons_zero, List.set_cons_succ]
  refine wpL_value (v5) (W5) rfl (run_appl _ _ W4 W5 _ _ _ _ v5 rfl rfl rfl rfl R2.out) ?_
  simp only [Act.put, List.setIfInBounds_toArray, List.set_cons_zero, List.set_cons_succ]
  refine wpL_pure (v5) rfl (by kernel_rfl) ?_
  simp only [Act.put, List.setIfInBounds_toArray, List.set_cons_zero, List.set_cons_succ]
  have F6 := Lib.hid (rt_store F3.out F5.out.2.1 F5.out.2.2 k rfl)
  clear R1 R2 F4 G4
  go_upto_region 8 with (fail)
  refine wp_region_lit ?_
  refine wpL_pure (.pointer (some ⟨r, 0, none⟩)) rfl (by kernel_rfl) ?_
  simp only [Act.put, List.setIfInBounds_toArray, List.set_cons_zero, List.set_cons_succ]
  refine wpL_pure (v5) rfl (by kernel_rfl) ?_
  simp only [Act.put, List.setIfInBounds_toArray, List.set_cons_zero, List.set_cons_succ]
  refine wpL_pure (.pointer (some ⟨r, 0, none⟩)) rfl (by kernel_rfl) ?_
  simp only [Act.put, List.setIfInBounds_toArray, List.set_cons_zero, List.set_cons_succ]
  refine wpL_pure (.pointer (some ⟨r, 0, none⟩)) rfl (by kernel_rfl) ?_
  simp only [Act.put, List.setIfInBounds_toArray, List.set_cons_zero, List.set_cons_succ]
  refine wpL_store_one rfl rfl (r) (0) rfl (v5) rfl ONE5 size39 (by rw [F5.out.1.1.cell]; rfl) (F5.out.1.1.free _) ?_
  simp only [Act.put, List.setIfInBounds_toArray, List.set_cons_zero, List.set_cons_succ]
  obtain ⟨W6, hW⟩ : ∃ V, V = W5.setCell ⟨r, 0, none⟩ v5 := ⟨_, rfl⟩
  rw [← hW] at F6 ⊢
  clear hW F5 F3
  go_upto_region 9 with (fail)
  refine wp_region_lit ?_
  refine wpL_load 43 _ rfl rfl g7 0 rfl [.int .i64 l.f, .int .i64 l.t, l.v] _ (range_blk (t := 43) F6.out.2.2.2.1) Try.underlying43 rfl (by kernel_rfl) ?_
  simp only [Act.put, List.setIfInBounds_toArray, List.set_cons_zero, List.set_cons_succ]
  refine wpList_store_row rfl 43 _ _ rfl (g4) (#[.int .i64 l.f, .int .i64 l.t, l.v]) rfl rfl _ _ (F6.out.2.2.1) (by kernel_rfl) rfl (all3 _ _ _ ONE.out) ?_
  simp only [Act.put, List.setIfInBounds_toArray, List.set_cons_zero, List.set_cons_succ]
  obtain ⟨W7, hW⟩ : ∃ V, V = W6.setRow g4 #[.int .i64 l.f, .int .i64 l.t, l.v] := ⟨_, rfl⟩
  rw [← hW]
  have F7 := Lib.hid (rt_res F6.out l.f l.t l.v HG.out)
  rw [← hW] at F7
  clear hW F6
  refine wpL_pure (.bool true) rfl (by kernel_rfl) ?_
  simp only [Act.put, List.setIfInBounds_toArray, List.set_cons_zero, List.set_cons_succ]
  go_wp2_with fail
  exact bodyPost_ret (results_ct rfl _ _ g4 43 _ (0, 0) _ rfl F7.out.2.2 Try.underlying43 rfl (by kernel_rfl)) rfl (.inr ⟨l, v5, by rw [HE.out]; exact HL.out, rfl, by rw [HE.out]; exact F7.out.1, F7.out.2.1⟩)

end Go.Proofs.Ytoeojgdolanggaa
