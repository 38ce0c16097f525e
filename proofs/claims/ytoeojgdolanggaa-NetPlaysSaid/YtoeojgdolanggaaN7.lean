import Derived.Test.YtoeojgdolanggaaN6
namespace Go.Proofs.Ytoeojgdolanggaa
open Go Go.RowKit
theorem own_nil {w : World} {B : Nat} {a : Option Addr} {n c : Nat} {xs : List Int} (h : Own w B (.slice a n c) xs) : a = none → c = 0 := by
  rintro rfl
  rcases h.form with ⟨e, _⟩ | ⟨_, _, _, e, _⟩
  · simp only [Value.slice.injEq] at e; exact e.2.2
  · simp at e
theorem run_neqnil (a : Act) (o : Oper) (w : World) (x : Operand) (p : Addr) (ho : o.op = .binOp .neq 36 x (.const (.pointer none)) 36) (hx : a.eval x = .pointer (some p)) : (execOp a.eval o).run Try.prog w = .ok (.value (.bool true)) w := by
  have hc : a.eval (.const (.pointer none)) = .pointer none := rfl
  unfold execOp
  simp only [ho, hx, hc]
  go_simp
set_option maxHeartbeats 1000000 in
theorem send_full (w : World) (b : Nat) (f t : Int) (a : Option Addr) (n c : Nat) (s : Value) (ls : List Ltr) (h : NetSt w b s ls) (hl : 200 ≤ ls.length) :
    Calls Try.prog 20 #[.pointer (some ⟨b, 0, none⟩), .agg #[.int .i64 f, .int .i64 t, .slice a n c]] w fun e w' => e = .returned (.bool false) ∧ NetSt w' b s ls ∧ Below w.heap.size w w' := by
  obtain ⟨sa, sc, hs, _⟩ := h.2.1.slice
  subst hs
  obtain ⟨w1, hw1⟩ : ∃ V, V = w.alloc (.cells #[.int .i64 f, .int .i64 t, .slice a n c] 43) := ⟨_, rfl⟩
  have F1 : Hid (NetSt w1 b (.slice sa ls.length sc) ls ∧ Below w.heap.size w w1) := Lib.hid (by
    rw [hw1]
    have hb : Below w.heap.size w (w.alloc (.cells #[.int .i64 f, .int .i64 t, .slice a n c] 43)) := (Below.refl _ _).alloc (Nat.le_refl _) _
    exact ⟨h.below hb, hb⟩)
  have HN := Lib.hid hl
  clear h hl
  go_enter Try.func20, Try.ntmps20
  go_upto_region 1 with (fail)
  try rw [← hw1]
  clear hw1
  go_upto_region 1 with (fail)
  refine wp_region_lit ?_
  refine wpL_pure (.pointer (some ⟨b, 0, none⟩)) rfl (by kernel_rfl) ?_
  simp only [Act.put, List.setIfInBounds_toArray, List.set_cons_zero, List.set_cons_succ]
  refine wpL_pure (.pointer (some ⟨b, 0, none⟩)) rfl (by kernel_rfl) ?_
  simp only [Act.put, List.setIfInBounds_toArray, List.set_cons_zero, List.set_cons_succ]
  refine wpL_pure (.pointer (some ⟨b, 0, none⟩)) rfl (by kernel_rfl) ?_
  simp only [Act.put, List.setIfInBounds_toArray, List.set_cons_zero, List.set_cons_succ]
  refine wpL_pure (.slice sa ls.length sc) rfl (run_load_one _ _ _ 39 _ _ rfl b 0 rfl (by rw [F1.out.1.1.cell]; rfl) (by kernel_rfl)) ?_
  simp only [Act.put, List.setIfInBounds_toArray, List.set_cons_zero, List.set_cons_succ]
  refine wpL_pure (.int .i64 (ls.length : Int)) rfl (by kernel_rfl) ?_
  simp only [Act.put, List.setIfInBounds_toArray, List.set_cons_zero, List.set_cons_succ]
  refine wpL_pure (.bool true) rfl (run_gei Try.underlying3 rfl rfl rfl (by have := HN.out; rw [decide_eq_true_eq]; omega)) ?_
  simp only [Act.put, List.setIfInBounds_toArray, List.set_cons_zero, List.set_cons_succ]
  refine wpL_pure (.bool true) rfl (by kernel_rfl) ?_
  simp only [Act.put, List.setIfInBounds_toArray, List.set_cons_zero, List.set_cons_succ]
  refine wpL_skip rfl ?_
  simp only [Act.put, List.setIfInBounds_toArray, List.set_cons_zero, List.set_cons_succ]
  refine wpL_skip rfl ?_
  simp only [Act.put, List.setIfInBounds_toArray, List.set_cons_zero, List.set_cons_succ]
  refine wpL_skip rfl ?_
  simp only [Act.put, List.setIfInBounds_toArray, List.set_cons_zero, List.set_cons_succ]
  refine wpL_skip rfl ?_
  simp only [Act.put, List.setIfInBounds_toArray, List.set_cons_zero, List.set_cons_succ]
  refine wpL_pure (.bool true) rfl (by kernel_rfl) ?_
  simp only [Act.put, List.setIfInBounds_toArray, List.set_cons_zero, List.set_cons_succ]
  go_wp2_with fail
  go_ret
  exact ⟨rfl, F1.out⟩
def DoubleOk (w : World) (b : Nat) (s : Value) (i : Int) (ls : List Ltr) (e : Ending) (w' : World) : Prop :=
  e = .returned (.bool true) ∧ ∃ l s' v, ls[plc i ls.length]? = some l ∧ NetSt w' b s' (ls ++ [(⟨l.f, l.t, v, l.xs⟩ : Ltr)]) ∧ FrN w w' b s s'
set_option maxHeartbeats 1000000 in
theorem double_any (w : World) (b : Nat) (i : Int) (s : Value) (ls : List Ltr) (h : NetSt w b s ls) (hn : 0 < ls.length) (h2 : ls.length < 200) : Calls Try.prog 25 #[.pointer (some ⟨b, 0, none⟩), .int .i64 i] w (DoubleOk w b s i ls) := by
  have AT := Lib.hid (at_any w b i s ls h hn (by omega))
  have HN := Lib.hid (And.intro hn h2)
  have BW := Lib.hid (Nat.le_of_lt h.lt)
  clear h hn h2
  go_enter Try.func25, Try.ntmps25
  go_upto_region 1 with (fail)
  refine wp_region_lit ?_
  refine wpL_pure (.pointer (some ⟨b, 0, none⟩)) rfl (by kernel_rfl) ?_
  simp only [Act.put, List.setIfInBounds_toArray, List.set_cons_zero, List.set_cons_succ]
  refine wpL_pure (.int .i64 i) rfl (by kernel_rfl) ?_
  simp only [Act.put, List.setIfInBounds_toArray, List.set_cons_zero, List.set_cons_succ]
  refine wpL_call 27 #[.pointer (some ⟨b, 0, none⟩), .int .i64 i] rfl (by kernel_rfl) ((AT.out).mono fun e W1 ⟨l, u, hl, he, hu, hs, hb⟩ => ⟨.tuple #[.agg #[.int .i64 l.f, .int .i64 l.t, u], .bool true], he, ?_⟩)
  simp only [Act.put, List.setIfInBounds_toArray, List.set_cons_zero, List.set_cons_succ]
  have ONEU : u.oneCell' = true := by obtain ⟨a, c, e⟩ := hu.slice; rw [e]; rfl
  have HL := Lib.hid hl
  have A1 : Hid (Own W1 w.heap.size u l.xs ∧ NetSt W1 b s ls ∧ Below w.heap.size w W1) := Lib.hid ⟨hu, hs, hb⟩
  clear hu hs hb hl AT
  refine wpL_pure (.tuple #[.agg #[.int .i64 l.f, .int .i64 l.t, u], .bool true]) rfl (by kernel_rfl) ?_
  simp only [Act.put, List.setIfInBounds_toArray, List.set_cons_zero, List.set_cons_succ]
  refine wpL_pure (.agg #[.int .i64 l.f, .int .i64 l.t, u]) rfl (by kernel_rfl) ?_
  simp only [Act.put, List.setIfInBounds_toArray, List.set_cons_zero, List.set_cons_succ]
  refine wpL_pure (.bool true) rfl (by kernel_rfl) ?_
  simp only [Act.put, List.setIfInBounds_toArray, List.set_cons_zero, List.set_cons_succ]
  have BX := Lib.hid (box_frame W1 l.f l.t u)
  obtain ⟨W2, hW2⟩ : ∃ V, V = (W1.alloc (.cells #[.int .i64 0, .int .i64 0, .slice none 0 0] 43)).setRow W1.heap.size #[.int .i64 l.f, .int .i64 l.t, u] := ⟨_, rfl⟩
  rw [← hW2] at BX
  refine wpL_value (.pointer (some ⟨W1.heap.size, 0, none⟩)) (W1.alloc (.cells #[.int .i64 0, .int .i64 0, .slice none 0 0] 43)) rfl (by kernel_rfl) ?_
  simp only [Act.put, List.setIfInBounds_toArray, List.set_cons_zero, List.set_cons_succ]
  refine wpList_store_row rfl 43 _ _ rfl (W1.heap.size) (#[.int .i64 l.f, .int .i64 l.t, u]) rfl rfl _ _ (Blk.new W1 43 _) (by kernel_rfl) rfl (all3 _ _ _ ONEU) ?_
  simp only [Act.put, List.setIfInBounds_toArray, List.set_cons_zero, List.set_cons_succ]
  rw [← hW2]
  obtain ⟨a2, c2, eu⟩ : ∃ a2 c2, u = .slice a2 l.xs.length c2 := A1.out.1.slice
  have A2 : Hid (Blk W2 W1.heap.size 43 #[.int .i64 l.f, .int .i64 l.t, u] ∧ Own W2 w.heap.size u l.xs ∧ NetSt W2 b s ls ∧ Below w.heap.size w W2) := Lib.hid ⟨BX.out.1, A1.out.1.below BX.out.2, A1.out.2.1.below BX.out.2, A1.out.2.2.trans (BX.out.2.mono A1.out.2.2.size)⟩
  have X16 : Hid (l.xs.length ≤ 16384) := Lib.hid (A1.out.2.1.2.2 l (List.mem_of_getElem? HL.out)).2
  clear BX A1 hW2
  generalize W1.heap.size = g6 at A2 ⊢
  subst eu
  have RW : Hid (Row W2 a2 l.xs.length l.xs ∧ (a2 = none → c2 = 0)) := Lib.hid ⟨A2.out.2.1.row.1, own_nil A2.out.2.1⟩
  refine wpL_pure (.bool true) rfl (by kernel_rfl) ?_
  simp only [Act.put, List.setIfInBounds_toArray, List.set_cons_zero, List.set_cons_succ]
  go_upto_region 2 with (fail)
  refine wp_region_lit ?_
  refine wpL_pure (.bool true) rfl (by kernel_rfl) ?_
  simp only [Act.put, List.setIfInBounds_toArray, List.set_cons_zero, List.set_cons_succ]
  refine wpL_pure (.bool true) rfl (by kernel_rfl) ?_
  simp only [Act.put, List.setIfInBounds_toArray, List.set_cons_zero, List.set_cons_succ]
  refine wpL_pure (.pointer (some ⟨b, 0, none⟩)) rfl (by kernel_rfl) ?_
  simp only [Act.put, List.setIfInBounds_toArray, List.set_cons_zero, List.set_cons_succ]
  refine wpL_load 43 _ rfl rfl g6 0 rfl [.int .i64 l.f, .int .i64 l.t, .slice a2 l.xs.length c2] _ (range_blk (t := 43) A2.out.1) Try.underlying43 rfl (by kernel_rfl) ?_
  simp only [Act.put, List.setIfInBounds_toArray, List.set_cons_zero, List.set_cons_succ]
  refine wpL_call 20 #[.pointer (some ⟨b, 0, none⟩), .agg #[.int .i64 l.f, .int .i64 l.t, .slice a2 l.xs.length c2]] rfl (by kernel_rfl) (((send_any W2 b l.f l.t a2 l.xs.length c2 l.xs s ls A2.out.2.2.1 HN.out.2 RW.out.1 X16.out RW.out.2)).mono fun e W3 ⟨he, s', v', q1, q2⟩ => ⟨.bool true, he, ?_⟩)
  simp only [Act.put, List.setIfInBounds_toArray, List.set_cons_zero, List.set_cons_succ]
  have A3 : Hid (NetSt W3 b s' (ls ++ [(⟨l.f, l.t, v', l.xs⟩ : Ltr)]) ∧ FrN w W3 b s s') := Lib.hid ⟨q1, FrN.pre A2.out.2.2.2 q2⟩
  clear q1 q2 A2
  refine wpL_pure (.bool true) rfl (by kernel_rfl) ?_
  simp only [Act.put, List.setIfInBounds_toArray, List.set_cons_zero, List.set_cons_succ]
  go_wp2_with fail
  go_ret
  exact ⟨rfl, l, s', v', HL.out, A3.out⟩
set_option maxHeartbeats 1000000 in
theorem double_full (w : World) (b : Nat) (i : Int) (s : Value) (ls : List Ltr) (h : NetSt w b s ls) (h2 : 200 ≤ ls.length) (h3 : ls.length ≤ 300) : Calls Try.prog 25 #[.pointer (some ⟨b, 0, none⟩), .int .i64 i] w fun e w' => e = .returned (.bool false) ∧ NetSt w' b s ls ∧ Below w.heap.size w w' := by
  have AT := Lib.hid (at_any w b i s ls h (by omega) h3)
  have HN := Lib.hid (And.intro h3 h2)
  clear h h2 h3
  go_enter Try.func25, Try.ntmps25
  go_upto_region 1 with (fail)
  refine wp_region_lit ?_
  refine wpL_pure (.pointer (some ⟨b, 0, none⟩)) rfl (by kernel_rfl) ?_
  simp only [Act.put, List.setIfInBounds_toArray, List.set_cons_zero, List.set_cons_succ]
  refine wpL_pure (.int .i64 i) rfl (by kernel_rfl) ?_
  simp only [Act.put, List.setIfInBounds_toArray, List.set_cons_zero, List.set_cons_succ]
  refine wpL_call 27 #[.pointer (some ⟨b, 0, none⟩), .int .i64 i] rfl (by kernel_rfl) ((AT.out).mono fun e W1 ⟨l, u, hl, he, hu, hs, hb⟩ => ⟨.tuple #[.agg #[.int .i64 l.f, .int .i64 l.t, u], .bool true], he, ?_⟩)
  simp only [Act.put, List.setIfInBounds_toArray, List.set_cons_zero, List.set_cons_succ]
  have ONEU : u.oneCell' = true := by obtain ⟨a, c, e⟩ := hu.slice; rw [e]; rfl
  have HL := Lib.hid hl
  have A1 : Hid (Own W1 w.heap.size u l.xs ∧ NetSt W1 b s ls ∧ Below w.heap.size w W1) := Lib.hid ⟨hu, hs, hb⟩
  clear hu hs hb hl AT
  refine wpL_pure (.tuple #[.agg #[.int .i64 l.f, .int .i64 l.t, u], .bool true]) rfl (by kernel_rfl) ?_
  simp only [Act.put, List.setIfInBounds_toArray, List.set_cons_zero, List.set_cons_succ]
  refine wpL_pure (.agg #[.int .i64 l.f, .int .i64 l.t, u]) rfl (by kernel_rfl) ?_
  simp only [Act.put, List.setIfInBounds_toArray, List.set_cons_zero, List.set_cons_succ]
  refine wpL_pure (.bool true) rfl (by kernel_rfl) ?_
  simp only [Act.put, List.setIfInBounds_toArray, List.set_cons_zero, List.set_cons_succ]
  have BX := Lib.hid (box_frame W1 l.f l.t u)
  obtain ⟨W2, hW2⟩ : ∃ V, V = (W1.alloc (.cells #[.int .i64 0, .int .i64 0, .slice none 0 0] 43)).setRow W1.heap.size #[.int .i64 l.f, .int .i64 l.t, u] := ⟨_, rfl⟩
  rw [← hW2] at BX
  refine wpL_value (.pointer (some ⟨W1.heap.size, 0, none⟩)) (W1.alloc (.cells #[.int .i64 0, .int .i64 0, .slice none 0 0] 43)) rfl (by kernel_rfl) ?_
  simp only [Act.put, List.setIfInBounds_toArray, List.set_cons_zero, List.set_cons_succ]
  refine wpList_store_row rfl 43 _ _ rfl (W1.heap.size) (#[.int .i64 l.f, .int .i64 l.t, u]) rfl rfl _ _ (Blk.new W1 43 _) (by kernel_rfl) rfl (all3 _ _ _ ONEU) ?_
  simp only [Act.put, List.setIfInBounds_toArray, List.set_cons_zero, List.set_cons_succ]
  rw [← hW2]
  obtain ⟨a2, c2, eu⟩ : ∃ a2 c2, u = .slice a2 l.xs.length c2 := A1.out.1.slice
  have A2 : Hid (Blk W2 W1.heap.size 43 #[.int .i64 l.f, .int .i64 l.t, u] ∧ Own W2 w.heap.size u l.xs ∧ NetSt W2 b s ls ∧ Below w.heap.size w W2) := Lib.hid ⟨BX.out.1, A1.out.1.below BX.out.2, A1.out.2.1.below BX.out.2, A1.out.2.2.trans (BX.out.2.mono A1.out.2.2.size)⟩
  have X16 : Hid (l.xs.length ≤ 16384) := Lib.hid (A1.out.2.1.2.2 l (List.mem_of_getElem? HL.out)).2
  clear BX A1 hW2
  generalize W1.heap.size = g6 at A2 ⊢
  subst eu
  have RW : Hid (Row W2 a2 l.xs.length l.xs ∧ (a2 = none → c2 = 0)) := Lib.hid ⟨A2.out.2.1.row.1, own_nil A2.out.2.1⟩
  refine wpL_pure (.bool true) rfl (by kernel_rfl) ?_
  simp only [Act.put, List.setIfInBounds_toArray, List.set_cons_zero, List.set_cons_succ]
  go_upto_region 2 with (fail)
  refine wp_region_lit ?_
  refine wpL_pure (.bool true) rfl (by kernel_rfl) ?_
  simp only [Act.put, List.setIfInBounds_toArray, List.set_cons_zero, List.set_cons_succ]
  refine wpL_pure (.bool true) rfl (by kernel_rfl) ?_
  simp only [Act.put, List.setIfInBounds_toArray, List.set_cons_zero, List.set_cons_succ]
  refine wpL_pure (.pointer (some ⟨b, 0, none⟩)) rfl (by kernel_rfl) ?_
  simp only [Act.put, List.setIfInBounds_toArray, List.set_cons_zero, List.set_cons_succ]
  refine wpL_load 43 _ rfl rfl g6 0 rfl [.int .i64 l.f, .int .i64 l.t, .slice a2 l.xs.length c2] _ (range_blk (t := 43) A2.out.1) Try.underlying43 rfl (by kernel_rfl) ?_
  simp only [Act.put, List.setIfInBounds_toArray, List.set_cons_zero, List.set_cons_succ]
  refine wpL_call 20 #[.pointer (some ⟨b, 0, none⟩), .agg #[.int .i64 l.f, .int .i64 l.t, .slice a2 l.xs.length c2]] rfl (by kernel_rfl) (((send_full W2 b l.f l.t a2 l.xs.length c2 s ls A2.out.2.2.1 HN.out.2)).mono fun e W3 ⟨he, q1, q2⟩ => ⟨.bool false, he, ?_⟩)
  simp only [Act.put, List.setIfInBounds_toArray, List.set_cons_zero, List.set_cons_succ]
  have A3 : Hid (NetSt W3 b s ls ∧ Below w.heap.size w W3) := Lib.hid ⟨q1, A2.out.2.2.2.trans (q2.mono A2.out.2.2.2.size)⟩
  clear q1 q2 A2
  refine wpL_pure (.bool false) rfl (by kernel_rfl) ?_
  simp only [Act.put, List.setIfInBounds_toArray, List.set_cons_zero, List.set_cons_succ]
  go_wp2_with fail
  go_ret
  exact ⟨rfl, A3.out⟩
set_option maxHeartbeats 1000000 in
theorem awakeN (w : World) : Calls Try.prog 16 #[] w fun e w' => e = .returned (.bool true) ∧ Below w.heap.size w w' := by
  go_enter Try.func16, Try.ntmps16
  go_upto_region 1 with (fail)
  refine wp_region_lit ?_
  refine wpL_call 18 #[] rfl (by kernel_rfl) ((new_any w).mono fun e w1 ⟨he, hs, hb⟩ => ⟨.pointer (some ⟨w.heap.size, 0, none⟩), he, ?_⟩)
  simp only [Act.put, List.setIfInBounds_toArray, List.set_cons_zero, List.set_cons_succ]
  have A1 := Lib.hid (And.intro hs hb)
  clear hs hb
  generalize hg : w.heap.size = b at *
  have HG := Lib.hid hg
  clear hg
  refine wpL_pure (.pointer (some ⟨b, 0, none⟩)) rfl (by kernel_rfl) ?_
  simp only [Act.put, List.setIfInBounds_toArray, List.set_cons_zero, List.set_cons_succ]
  go_upto_region 2 with (fail)
  refine wp_region_lit ?_
  refine wpL_pure (.pointer (some ⟨b, 0, none⟩)) rfl (by kernel_rfl) ?_
  simp only [Act.put, List.setIfInBounds_toArray, List.set_cons_zero, List.set_cons_succ]
  refine wpL_pure (.bool true) rfl (run_neqnil _ _ _ _ _ rfl rfl) ?_
  simp only [Act.put, List.setIfInBounds_toArray, List.set_cons_zero, List.set_cons_succ]
  refine wpL_pure (.bool true) rfl (by kernel_rfl) ?_
  simp only [Act.put, List.setIfInBounds_toArray, List.set_cons_zero, List.set_cons_succ]
  refine wpL_pure (.pointer (some ⟨b, 0, none⟩)) rfl (by kernel_rfl) ?_
  simp only [Act.put, List.setIfInBounds_toArray, List.set_cons_zero, List.set_cons_succ]
  refine wpL_pure (.agg #[.int .i64 1, .int .i64 0, .slice none 0 0]) rfl (by kernel_rfl) ?_
  simp only [Act.put, List.setIfInBounds_toArray, List.set_cons_zero, List.set_cons_succ]
  refine wpL_call 20 #[.pointer (some ⟨b, 0, none⟩), .agg #[.int .i64 1, .int .i64 0, .slice none 0 0]] rfl (by kernel_rfl) (((send_any w1 b 1 0 none 0 0 [] _ [] A1.out.1 (by simp) (Row.nil _ _) (by omega) (fun _ => rfl))).mono fun e w2 ⟨he, s', v', q1, q2⟩ => ⟨.bool true, he, ?_⟩)
  simp only [Act.put, List.setIfInBounds_toArray, List.set_cons_zero, List.set_cons_succ]
  have A2 := Lib.hid (And.intro q1 (A1.out.2.trans (q2.below (Nat.le_refl _) (fun g hg => by simp [Value.ownBlock] at hg) (Nat.le_of_lt A1.out.1.lt))))
  clear q1 q2 A1
  refine wpL_pure (.bool true) rfl (by kernel_rfl) ?_
  simp only [Act.put, List.setIfInBounds_toArray, List.set_cons_zero, List.set_cons_succ]
  refine wpL_pure (.bool true) rfl (by kernel_rfl) ?_
  simp only [Act.put, List.setIfInBounds_toArray, List.set_cons_zero, List.set_cons_succ]
  refine wpL_pure (.pointer (some ⟨b, 0, none⟩)) rfl (by kernel_rfl) ?_
  simp only [Act.put, List.setIfInBounds_toArray, List.set_cons_zero, List.set_cons_succ]
  refine wpL_call 28 #[.pointer (some ⟨b, 0, none⟩)] rfl (by kernel_rfl) ((count_any w2 b _ _ A2.out.1).mono fun e w3 ⟨he, hx⟩ => ⟨.int .i64 1, he, ?_⟩)
  simp only [Act.put, List.setIfInBounds_toArray, List.set_cons_zero, List.set_cons_succ]
  subst hx
  refine wpL_pure (.bool true) rfl (by kernel_rfl) ?_
  simp only [Act.put, List.setIfInBounds_toArray, List.set_cons_zero, List.set_cons_succ]
  refine wpL_pure (.bool true) rfl (by kernel_rfl) ?_
  simp only [Act.put, List.setIfInBounds_toArray, List.set_cons_zero, List.set_cons_succ]
  go_wp2_with fail
  go_ret
  exact ⟨rfl, by rw [HG.out]; exact A2.out.2⟩
end Go.Proofs.Ytoeojgdolanggaa
