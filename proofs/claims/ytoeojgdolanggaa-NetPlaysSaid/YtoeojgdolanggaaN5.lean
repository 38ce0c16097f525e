import Derived.Test.YtoeojgdolanggaaN4
namespace Go.Proofs.Ytoeojgdolanggaa
open Go Go.RowKit

theorem results_ct {P : Program} {fn : Func} {p u : Tmp} {ty : TypeId} (h : fn.results = #[.cell p ty, .tmp u]) (tmps : Array Value) (w : World) (g : Nat) (t : TypeId) (cs : Array Value) (fr : Nat × Nat) (d : TypeDesc)
    (hp : tmps.getD p undef = .pointer (some ⟨g, 0, none⟩)) (hg : w.heap[g]? = some (.cells cs t fr)) (hu : P.underlying ty = some d) (hd : (match d with | .struct _ | .array _ _ => true | _ => false) = true) (hi : (P.info? ty).map (·.size) = some cs.size) :
    (results fn tmps).run P w = .ok (.tuple #[.agg cs, tmps.getD u undef]) w := by
  rw [results_cell_tmp h, hp]
  simp [asAddr, run_loadVar_row w g t ty cs fr d hg hu hd hi]
theorem run_idxl (a : Act) (o : Oper) (w : World) (x i : Operand) (gs n c k : Nat) (ho : o.op = .indexAddr 39 x i) (hx : a.eval x = .slice (some ⟨gs, 0, none⟩) n c) (hi : a.eval i = .int .i64 (k : Int)) (hk : k < n) (hn : n ≤ maxLen) : (execOp a.eval o).run Try.prog w = .ok (.value (.pointer (some ⟨gs, k * 3, none⟩))) w := by
  unfold maxLen at hn
  have j0 : (0 : Int) ≤ (k : Int) := by omega
  have j6 : (k : Int) < (n : Int) := by omega
  unfold execOp
  simp only [ho, hx, hi]
  go_simp
theorem ltr_range {w : World} {b gs sc k : Nat} {ls : List Ltr} {l : Ltr} {v : Value} (h : NetSt w b (.slice (some ⟨gs, 0, none⟩) ls.length sc) ls) (hl : ls[k]? = some l ∧ l.v = v) : w.rangeAt gs (k * 3) [.int .i64 l.f, .int .i64 l.t, v] := by
  obtain ⟨hl, rfl⟩ := hl
  intro j v hj
  have hj3 : j < 3 := by
    rcases Nat.lt_or_ge j 3 with q | q
    · exact q
    · rw [List.getElem?_eq_none (by simp; omega)] at hj; cases hj
  have hk : k < ls.length := (List.getElem?_eq_some_iff.1 hl).1
  rw [h.2.1.cell (k * 3 + j) (by omega), flat_get ls k j l hl hj3]
  exact hj
theorem at_frame {w W1 : World} {b g4 : Nat} {s u : Value} {ls : List Ltr} {f t : Int} {xs : List Int} (h : Blk W1 g4 43 #[.int .i64 0, .int .i64 0, .slice none 0 0] ∧ NetSt W1 b s ls ∧ Below w.heap.size w W1 ∧ Own W1 w.heap.size u xs) (hg : w.heap.size ≤ g4 ∧ ∀ B n cs, LRow W1 B s n cs → s.ownBlock ≠ some g4) :
    Blk (W1.setRow g4 #[.int .i64 f, .int .i64 t, u]) g4 43 #[.int .i64 f, .int .i64 t, u] ∧ NetSt (W1.setRow g4 #[.int .i64 f, .int .i64 t, u]) b s ls ∧ Below w.heap.size w (W1.setRow g4 #[.int .i64 f, .int .i64 t, u]) ∧ Own (W1.setRow g4 #[.int .i64 f, .int .i64 t, u]) w.heap.size u xs := by
  obtain ⟨h1, h2, h3, h4⟩ := h
  have ne : ∀ {B : Nat} {v : Value} {ys : List Int}, Own W1 B v ys → v.ownBlock ≠ some g4 := by
    intro B v ys ho e
    rcases ho.form with ⟨e', _⟩ | ⟨g, cap, cur, e', _, hg', _⟩
    · rw [e'] at e; cases e
    · rw [e'] at e
      simp [Value.ownBlock] at e
      subst e
      unfold Blk at h1 hg'
      rw [h1] at hg'
      simp at hg'
  have gb : W1.grownBy (W1.setRow g4 #[.int .i64 f, .int .i64 t, u]) (some g4) := ⟨rfl, rfl, rfl, by simp, fun k _ hr => setRow_other _ _ _ _ (fun e => hr (congrArg some e))⟩
  have nb : b ≠ g4 := by
    intro e
    subst e
    have := h2.1
    unfold Blk at this h1
    rw [h1] at this
    simp at this
  exact ⟨setRow_heap _ _ _ _ _ _ h1, ⟨h2.1.grown gb (by simpa using nb), h2.2.1.grown gb (.inr (hg.2 _ _ _ h2.2.1)), fun l hl => ⟨(h2.2.2 l hl).1.grown gb (.inr (ne (h2.2.2 l hl).1)), (h2.2.2 l hl).2⟩⟩, below_setRow h3 hg.1 _, h4.grown gb (.inr (ne h4))⟩
def AtOk (w : World) (b : Nat) (i : Int) (s : Value) (ls : List Ltr) (e : Ending) (w' : World) : Prop :=
  ∃ l v, ls[plc i ls.length]? = some l ∧ e = .returned (.tuple #[.agg #[.int .i64 l.f, .int .i64 l.t, v], .bool true]) ∧ Own w' w.heap.size v l.xs ∧ NetSt w' b s ls ∧ Below w.heap.size w w'
set_option maxHeartbeats 1000000 in
theorem at_any (w : World) (b : Nat) (i : Int) (s : Value) (ls : List Ltr) (h : NetSt w b s ls) (hn : 0 < ls.length) (h3 : ls.length ≤ 300) : Calls Try.prog 27 #[.pointer (some ⟨b, 0, none⟩), .int .i64 i] w (AtOk w b i s ls) := by
  rcases h.2.1.forms with ⟨_, e, _⟩ | ⟨gs, sc, cur, rfl, q1, q2, q3, q4, q5, q6⟩
  · omega
  obtain ⟨l, hl⟩ : ∃ l, ls[plc i ls.length]? = some l := ⟨_, List.getElem?_eq_getElem (plc_lt i _ hn)⟩
  have hml : l ∈ ls := List.mem_of_getElem? hl
  have hol := h.2.2 l hml
  obtain ⟨la, lc, lv⟩ := hol.1.slice
  obtain ⟨ln, hln⟩ : ∃ n, l.xs.length = n := ⟨_, rfl⟩
  rw [hln] at lv
  obtain ⟨w1, hw1⟩ : ∃ V, V = w.alloc (.cells #[.int .i64 0, .int .i64 0, .slice none 0 0] 43) := ⟨_, rfl⟩
  obtain ⟨g4, hg4⟩ : ∃ q, w.heap.size = q := ⟨_, rfl⟩
  have F1 : Hid (NetSt w1 b (.slice (some ⟨gs, 0, none⟩) ls.length sc) ls ∧ Blk w1 g4 43 #[.int .i64 0, .int .i64 0, .slice none 0 0] ∧ Below w.heap.size w w1) := Lib.hid (by
    rw [hw1, ← hg4]
    have hb : Below w.heap.size w (w.alloc (.cells #[.int .i64 0, .int .i64 0, .slice none 0 0] 43)) := (Below.refl _ _).alloc (Nat.le_refl _) _
    exact ⟨h.below hb, Blk.new _ _ _, hb⟩)
  have LR : Hid (∀ X, Ext w1.drew X → Row X la ln l.xs ∧ ln ≤ 140737488355328 ∧ (la = none → lc = 0)) := Lib.hid (fun X hX => by
    have o1 : Own X (b + 1) (.slice la ln lc) l.xs := by rw [← lv]; exact ((F1.out.1.2.2 l hml).1.drew).below hX
    refine ⟨o1.row.1, by rw [← hln]; have := hol.2; omega, fun e => ?_⟩
    subst e
    rcases o1.form with ⟨e, _⟩ | ⟨_, _, _, e, _⟩
    · simp only [Value.slice.injEq] at e; exact e.2.2
    · simp at e)
  have HL := Lib.hid (And.intro hl lv)
  have HG : Hid (w.heap.size ≤ g4 ∧ ∀ (X : World) (B n : Nat) (cs : List Value), LRow X B (.slice (some ⟨gs, 0, none⟩) ls.length sc) n cs → (Value.slice (some ⟨gs, 0, none⟩) ls.length sc).ownBlock ≠ some g4) := Lib.hid ⟨by omega, fun X B n cs _ e => by
    have := (h.2.1.lt g4 e).2
    omega⟩
  have HN := Lib.hid hn
  have HM : Hid (ls.length ≤ maxLen) := Lib.hid (by unfold maxLen; omega)
  clear h q1 q2 q3 q4 q5 q6 hl hol lv hln hml hn h3
  go_enter Try.func27, Try.ntmps27
  go_upto_region 1 with (fail)
  try rw [← hw1]
  try rw [hg4]
  have HG4 := Lib.hid hg4
  clear hw1 hg4
  go_upto_region 1 with (fail)
  refine wp_region_lit ?_
  refine wpL_pure (.pointer (some ⟨b, 0, none⟩)) rfl (by kernel_rfl) ?_
  simp only [Act.put, List.setIfInBounds_toArray, List.set_cons_zero, List.set_cons_succ]
  refine wpL_pure (.pointer (some ⟨b, 0, none⟩)) rfl (by kernel_rfl) ?_
  simp only [Act.put, List.setIfInBounds_toArray, List.set_cons_zero, List.set_cons_succ]
  refine wpL_pure (.pointer (some ⟨b, 0, none⟩)) rfl (by kernel_rfl) ?_
  simp only [Act.put, List.setIfInBounds_toArray, List.set_cons_zero, List.set_cons_succ]
  refine wpL_pure (.slice (some ⟨gs, 0, none⟩) ls.length sc) rfl (run_load_one _ _ _ 39 _ _ rfl b 0 rfl (by rw [F1.out.1.1.cell]; rfl) (by kernel_rfl)) ?_
  simp only [Act.put, List.setIfInBounds_toArray, List.set_cons_zero, List.set_cons_succ]
  refine wpL_pure (.int .i64 (ls.length : Int)) rfl (by kernel_rfl) ?_
  simp only [Act.put, List.setIfInBounds_toArray, List.set_cons_zero, List.set_cons_succ]
  refine wpL_pure (.bool false) rfl (run_eqi Try.underlying3 rfl rfl rfl (by have := HN.out; rw [decide_eq_false_iff_not]; omega)) ?_
  simp only [Act.put, List.setIfInBounds_toArray, List.set_cons_zero, List.set_cons_succ]
  go_upto_region 3 with (fail)
  refine region_any (by kernel_rfl) 12 rfl ?_
  refine any_gen (E := Ext) preo_ext (kindsG [fun _ => isV (.pointer (some ⟨b, 0, none⟩)), fun _ => isV (.pointer (some ⟨b, 0, none⟩)), fun _ => isV (.pointer (some ⟨b, 0, none⟩)), fun _ => isV (.slice (some ⟨gs, 0, none⟩) ls.length sc), fun _ => isV (.pointer (some ⟨b, 0, none⟩)), fun _ => isV (.int .i64 i), fun _ => isV (.int .i64 ((plc i ls.length : Nat) : Int)), fun _ => isV (.pointer (some ⟨gs, plc i ls.length * 3, none⟩)), fun _ => isV (.agg #[.int .i64 l.f, .int .i64 l.t, .slice la ln lc]), fun _ => isCopy w.heap.size l.f l.t l.xs]) (kindsG_stays _ (by
    intro R hR z v
    simp only [List.mem_cons, List.not_mem_nil, or_false] at hR
    rcases hR with rfl | rfl | rfl | rfl | rfl | rfl | rfl | rfl | rfl | rfl
    all_goals first | exact staysG_isV _ _ | exact stays_isCopy _ _ _ _ _)) 0 10 12 rfl (by kernel_rfl) ?_
  simp only [List.take_succ_cons, List.take_zero, List.drop_succ_cons, List.drop_zero]
  refine wpG_val preo_ext (.pointer (some ⟨b, 0, none⟩)) rfl rfl (fun w hw => by kernel_rfl) ?_
  simp only [Act.put, List.setIfInBounds_toArray, List.set_cons_zero, List.set_cons_succ]
  refine wpG_val preo_ext (.pointer (some ⟨b, 0, none⟩)) rfl rfl (fun w hw => by kernel_rfl) ?_
  simp only [Act.put, List.setIfInBounds_toArray, List.set_cons_zero, List.set_cons_succ]
  refine wpG_val preo_ext (.pointer (some ⟨b, 0, none⟩)) rfl rfl (fun w hw => by kernel_rfl) ?_
  simp only [Act.put, List.setIfInBounds_toArray, List.set_cons_zero, List.set_cons_succ]
  refine wpG_val preo_ext (.slice (some ⟨gs, 0, none⟩) ls.length sc) rfl rfl (fun w hw => run_load_one _ _ _ 39 _ _ rfl b 0 rfl (by rw [((F1.out.1.1.drew).below hw).cell]; rfl) (by kernel_rfl)) ?_
  simp only [Act.put, List.setIfInBounds_toArray, List.set_cons_zero, List.set_cons_succ]
  refine wpG_val preo_ext (.pointer (some ⟨b, 0, none⟩)) rfl rfl (fun w hw => by kernel_rfl) ?_
  simp only [Act.put, List.setIfInBounds_toArray, List.set_cons_zero, List.set_cons_succ]
  refine wpG_val preo_ext (.int .i64 i) rfl rfl (fun w hw => by kernel_rfl) ?_
  simp only [Act.put, List.setIfInBounds_toArray, List.set_cons_zero, List.set_cons_succ]
  refine wpG_call 31 #[.pointer (some ⟨b, 0, none⟩), .int .i64 i] rfl (fun w => by kernel_rfl) (fun w hw => (place_any w b i (.slice (some ⟨gs, 0, none⟩) ls.length sc) ls (NetSt.below (w := w1.drew) F1.out.1 hw) HN.out).mono (fun e w' ⟨he, hx⟩ => ⟨_, he, by subst hx; exact Ext.refl _, rfl⟩)) ?_
  rintro _ ⟨_, rfl⟩
  simp only [Act.put, List.setIfInBounds_toArray, List.set_cons_zero, List.set_cons_succ]
  refine wpG_val preo_ext (.pointer (some ⟨gs, plc i ls.length * 3, none⟩)) rfl rfl (fun w hw => run_idxl _ _ _ _ _ gs ls.length sc (plc i ls.length) rfl rfl rfl (plc_lt _ _ HN.out) HM.out) ?_
  simp only [Act.put, List.setIfInBounds_toArray, List.set_cons_zero, List.set_cons_succ]
  refine wpG_val preo_ext (.agg #[.int .i64 l.f, .int .i64 l.t, .slice la ln lc]) rfl rfl (fun w hw => run_load_mid _ _ _ 43 _ rfl gs (plc i ls.length * 3) rfl [.int .i64 l.f, .int .i64 l.t, .slice la ln lc] _ (ltr_range (NetSt.below (w := w1.drew) F1.out.1 hw) HL.out) Try.underlying43 rfl (by kernel_rfl)) ?_
  simp only [Act.put, List.setIfInBounds_toArray, List.set_cons_zero, List.set_cons_succ]
  refine wpG_call 30 #[.agg #[.int .i64 l.f, .int .i64 l.t, .slice la ln lc]] rfl (fun w => by kernel_rfl) (fun w hw => (copied_any w l.f l.t la ln lc l.xs (LR.out w hw).1 (LR.out w hw).2.1 (LR.out w hw).2.2).mono (fun e w' ⟨v, he, q1, q2, q3⟩ => ⟨_, he, q2, v, rfl, q1.mono (Nat.le_trans (by have := F1.out.2.2.size; exact this) hw.size)⟩)) ?_
  rintro _ ⟨wq, u, rfl, hu⟩
  simp only [Act.put, List.setIfInBounds_toArray, List.set_cons_zero, List.set_cons_succ]
  have ONEU : u.oneCell' = true := by obtain ⟨a, c, e⟩ := hu.slice; rw [e]; rfl
  clear hu wq
  refine wpG_nil ?_
  intro W1 hW1 hF
  have HU : Own W1 w.heap.size u l.xs := by obtain ⟨u', e, h⟩ := hF.2; simp at e; subst e; exact h
  have F2 : Hid (Blk W1 g4 43 #[.int .i64 0, .int .i64 0, .slice none 0 0] ∧ NetSt W1 b (.slice (some ⟨gs, 0, none⟩) ls.length sc) ls ∧ Below w.heap.size w W1 ∧ Own W1 w.heap.size u l.xs) := Lib.hid ⟨F1.out.2.1.drew.below hW1, NetSt.below (w := w1.drew) F1.out.1 hW1, F1.out.2.2.trans (Below.mono (show Below w1.heap.size w1 W1 from ⟨hW1.os, hW1.tape, hW1.output, hW1.size, hW1.block⟩) F1.out.2.2.size), HU⟩
  obtain ⟨W2, hW2⟩ : ∃ V, V = W1.setRow g4 #[.int .i64 l.f, .int .i64 l.t, u] := ⟨_, rfl⟩
  have F3 : Hid (Blk W2 g4 43 #[.int .i64 l.f, .int .i64 l.t, u] ∧ NetSt W2 b (.slice (some ⟨gs, 0, none⟩) ls.length sc) ls ∧ Below w.heap.size w W2 ∧ Own W2 w.heap.size u l.xs) := Lib.hid (by rw [hW2]; exact at_frame F2.out ⟨HG.out.1, fun B n cs q => HG.out.2 _ B n cs q⟩)
  clear hF hW1 HU F1 LR
  refine wpList_store_row rfl 43 _ _ rfl (g4) (#[.int .i64 l.f, .int .i64 l.t, u]) rfl rfl _ _ (F2.out.1) (by kernel_rfl) rfl (all3 _ _ _ ONEU) ?_
  simp only [Act.put, List.setIfInBounds_toArray, List.set_cons_zero, List.set_cons_succ]
  rw [← hW2]
  refine wpL_pure (.bool true) rfl (by kernel_rfl) ?_
  simp only [Act.put, List.setIfInBounds_toArray, List.set_cons_zero, List.set_cons_succ]
  go_wp2_with fail
  exact bodyPost_ret (results_ct rfl _ _ g4 43 _ (0, 0) _ rfl F3.out.1 Try.underlying43 rfl (by kernel_rfl)) rfl ⟨l, u, HL.out.1, rfl, F3.out.2.2.2, F3.out.2.1, F3.out.2.2.1⟩
set_option maxHeartbeats 1000000 in
theorem at_none (w : World) (b : Nat) (i : Int) (s : Value) (h : NetSt w b s []) : Calls Try.prog 27 #[.pointer (some ⟨b, 0, none⟩), .int .i64 i] w fun e w' => e = .returned (.tuple #[.agg #[.int .i64 0, .int .i64 0, .slice none 0 0], .bool false]) ∧ NetSt w' b s [] ∧ Below w.heap.size w w' := by
  obtain ⟨sa, sc, hs, _⟩ := h.2.1.slice
  subst hs
  obtain ⟨w1, hw1⟩ : ∃ V, V = w.alloc (.cells #[.int .i64 0, .int .i64 0, .slice none 0 0] 43) := ⟨_, rfl⟩
  obtain ⟨g4, hg4⟩ : ∃ q, w.heap.size = q := ⟨_, rfl⟩
  have F1 : Hid (NetSt w1 b (.slice sa 0 sc) [] ∧ Blk w1 g4 43 #[.int .i64 0, .int .i64 0, .slice none 0 0] ∧ Below w.heap.size w w1) := Lib.hid (by
    rw [hw1, ← hg4]
    have hb : Below w.heap.size w (w.alloc (.cells #[.int .i64 0, .int .i64 0, .slice none 0 0] 43)) := (Below.refl _ _).alloc (Nat.le_refl _) _
    exact ⟨h.below hb, Blk.new _ _ _, hb⟩)
  have HG : Hid (w.heap.size ≤ g4 ∧ ∀ (B n : Nat) (cs : List Value), LRow w1 B (.slice sa 0 sc) n cs → (Value.slice sa 0 sc).ownBlock ≠ some g4) := Lib.hid ⟨by omega, fun B n cs _ e => by
    have := (h.2.1.lt g4 e).2
    omega⟩
  clear h
  go_enter Try.func27, Try.ntmps27
  go_upto_region 1 with (fail)
  try rw [← hw1]
  try rw [hg4]
  have HG4 := Lib.hid hg4
  clear hw1 hg4
  go_upto_region 1 with (fail)
  refine wp_region_lit ?_
  refine wpL_pure (.pointer (some ⟨b, 0, none⟩)) rfl (by kernel_rfl) ?_
  simp only [Act.put, List.setIfInBounds_toArray, List.set_cons_zero, List.set_cons_succ]
  refine wpL_pure (.pointer (some ⟨b, 0, none⟩)) rfl (by kernel_rfl) ?_
  simp only [Act.put, List.setIfInBounds_toArray, List.set_cons_zero, List.set_cons_succ]
  refine wpL_pure (.pointer (some ⟨b, 0, none⟩)) rfl (by kernel_rfl) ?_
  simp only [Act.put, List.setIfInBounds_toArray, List.set_cons_zero, List.set_cons_succ]
  refine wpL_pure (.slice sa 0 sc) rfl (run_load_one _ _ _ 39 _ _ rfl b 0 rfl (by rw [F1.out.1.1.cell]; rfl) (by kernel_rfl)) ?_
  simp only [Act.put, List.setIfInBounds_toArray, List.set_cons_zero, List.set_cons_succ]
  refine wpL_pure (.int .i64 0) rfl (by kernel_rfl) ?_
  simp only [Act.put, List.setIfInBounds_toArray, List.set_cons_zero, List.set_cons_succ]
  refine wpL_pure (.bool true) rfl (run_eqi Try.underlying3 rfl rfl rfl (by simp)) ?_
  simp only [Act.put, List.setIfInBounds_toArray, List.set_cons_zero, List.set_cons_succ]
  go_upto_region 2 with (fail)
  refine wp_region_lit ?_
  refine wpL_pure (.agg #[.int .i64 0, .int .i64 0, .slice none 0 0]) rfl (by kernel_rfl) ?_
  simp only [Act.put, List.setIfInBounds_toArray, List.set_cons_zero, List.set_cons_succ]
  refine wpList_store_row rfl 43 _ _ rfl (g4) (#[.int .i64 0, .int .i64 0, .slice none 0 0]) rfl rfl _ _ (F1.out.2.1) (by kernel_rfl) rfl (by kernel_rfl) ?_
  simp only [Act.put, List.setIfInBounds_toArray, List.set_cons_zero, List.set_cons_succ]
  obtain ⟨W2, hW2⟩ : ∃ V, V = w1.setRow g4 #[.int .i64 0, .int .i64 0, .slice none 0 0] := ⟨_, rfl⟩
  rw [← hW2]
  have F3 : Hid (Blk W2 g4 43 #[.int .i64 0, .int .i64 0, .slice none 0 0] ∧ NetSt W2 b (.slice sa 0 sc) [] ∧ Below w.heap.size w W2) := Lib.hid (by rw [hW2]; have q := at_frame ⟨F1.out.2.1, F1.out.1, F1.out.2.2, Own.nil w1 w.heap.size⟩ HG.out (f := 0) (t := 0); exact ⟨q.1, q.2.1, q.2.2.1⟩)
  clear hW2 F1
  refine wpL_pure (.bool false) rfl (by kernel_rfl) ?_
  simp only [Act.put, List.setIfInBounds_toArray, List.set_cons_zero, List.set_cons_succ]
  go_wp2_with fail
  exact bodyPost_ret (results_ct rfl _ _ g4 43 _ (0, 0) _ rfl F3.out.1 Try.underlying43 rfl (by kernel_rfl)) rfl ⟨rfl, F3.out.2.1, F3.out.2.2⟩
end Go.Proofs.Ytoeojgdolanggaa
