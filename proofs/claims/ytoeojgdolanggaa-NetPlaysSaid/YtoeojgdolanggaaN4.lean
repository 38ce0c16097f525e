import Derived.Test.YtoeojgdolanggaaN3
import Derived.Test.YtoeojgdolanggaaGen
namespace Go.Proofs.Ytoeojgdolanggaa
open Go Go.RowKit

def isCopy (B : Nat) (f t : Int) (xs : List Int) : Value → World → Prop := fun v w => ∃ u, v = .agg #[.int .i64 f, .int .i64 t, u] ∧ Own w B u xs
theorem stays_isCopy (B : Nat) (f t : Int) (xs : List Int) (v : Value) : Stays (isCopy B f t xs v) := fun _ _ ⟨u, e, h⟩ hE => ⟨u, e, h.below hE⟩
theorem size39 (w : World) : (sizeOf 39).run Try.prog w = .ok 1 w := by kernel_rfl
theorem stays_built (B : Nat) (t : TypeId) (z : Sem Next) (v : Value) : StaysG Ext (isBuilt Try.prog B t z v) := fun w w' ⟨q, cs, n, h1, h2, h3, h4⟩ hE => ⟨q, cs, n, h1, h2, (Blk.below (w := w) (t := t) h3 hE : _), h4⟩
theorem Row.drewR {w : World} {a : Option Addr} {n : Nat} {xs : List Int} (h : Row w a n xs) : Row w.drew a n xs := h
theorem send_frame {w W2 W3 : World} {b g1 : Nat} {s v' u : Value} {ls : List Ltr} {f t : Int} {xs : List Int} (h : NetSt W2 b s ls) (hu : Own W2 g1 u xs) (hb : b < g1) (hx : xs.length ≤ 16384)
    (r2 : LRow W3 (b + 1) v' (ls.length + 1) (flat ls ++ [.int .i64 f, .int .i64 t, u])) (r3 : W2.grownBy W3 s.ownBlock) (r4 : v'.ownBlock = s.ownBlock ∨ v'.ownBlock = some W2.heap.size) (hB : Below w.heap.size w W2) :
    Blk W3 b 56 #[s] ∧ LRow W3 (b + 1) v' (ls ++ [(⟨f, t, u, xs⟩ : Ltr)]).length (flat (ls ++ [(⟨f, t, u, xs⟩ : Ltr)])) ∧ (∀ l ∈ ls ++ [(⟨f, t, u, xs⟩ : Ltr)], Own W3 (b + 1) l.v l.xs ∧ l.xs.length ≤ 16384) ∧ FrN w W3 b s v' := by
  have lo : ∀ k, s.ownBlock = some k → b + 1 ≤ k := fun k hk => (h.2.1.lt k hk).1
  refine ⟨h.1.grown r3 (fun e => by have := lo b e.symm; omega), ?_, fun l hl => ?_, FrN.grown hB r3 r4⟩
  · rw [flat_append, List.length_append]
    exact r2
  · rcases List.mem_append.1 hl with hl | hl
    · exact ⟨(h.2.2 l hl).1.grown r3 (kinds_ne h.2.1 (h.2.2 l hl).1), (h.2.2 l hl).2⟩
    · obtain rfl : l = (⟨f, t, u, xs⟩ : Ltr) := by simpa using hl
      exact ⟨(hu.mono (by omega)).grown r3 (kinds_ne h.2.1 hu), hx⟩
def SendOk (w : World) (b : Nat) (s : Value) (f t : Int) (xs : List Int) (ls : List Ltr) (e : Ending) (w' : World) : Prop := e = .returned (.bool true) ∧ ∃ s' v, NetSt w' b s' (ls ++ [(⟨f, t, v, xs⟩ : Ltr)]) ∧ FrN w w' b s s'
set_option maxHeartbeats 1000000 in
theorem send_any (w : World) (b : Nat) (f t : Int) (a : Option Addr) (n c : Nat) (xs : List Int) (s : Value) (ls : List Ltr) (h : NetSt w b s ls) (hl : ls.length < 200) (hr : Row w a n xs) (h16 : n ≤ 16384) (hnil : a = none → c = 0) :
    Calls Try.prog 20 #[.pointer (some ⟨b, 0, none⟩), .agg #[.int .i64 f, .int .i64 t, .slice a n c]] w (SendOk w b s f t xs ls) := by
  obtain ⟨sa, sc, hs, hs1, hs2, _⟩ := h.2.1.slice
  subst hs
  obtain ⟨w1, hw1⟩ : ∃ V, V = w.alloc (.cells #[.int .i64 f, .int .i64 t, .slice a n c] 43) := ⟨_, rfl⟩
  obtain ⟨g1, hg1⟩ : ∃ q, w.heap.size = q := ⟨_, rfl⟩
  have F1 : Hid (Blk w1 b 56 #[.slice sa ls.length sc] ∧ Blk w1 g1 43 #[.int .i64 f, .int .i64 t, .slice a n c] ∧ NetSt w1 b (.slice sa ls.length sc) ls ∧ Below g1 w w1 ∧ b < g1) := Lib.hid (by
    rw [hw1, ← hg1]
    have hb : Below w.heap.size w (w.alloc (.cells #[.int .i64 f, .int .i64 t, .slice a n c] 43)) := (Below.refl _ _).alloc (Nat.le_refl _) _
    exact ⟨h.1.below hb, Blk.new _ _ _, h.below hb, hb, h.lt⟩)
  have HN := Lib.hid hl
  have HN16 := Lib.hid h16
  have HNIL := Lib.hid hnil
  have HR : Hid (Row w1 a n xs) := Lib.hid (by rw [hw1]; exact hr.keep ((Below.refl _ _).alloc (Nat.le_refl _) _))
  clear h hl hr h16 hnil
  go_enter Try.func20, Try.ntmps20
  go_upto_region 1 with (fail)
  try rw [← hw1]
  try rw [hg1]
  have HG := Lib.hid hg1
  clear hw1 hg1
  refine wp_region_lit ?_
  refine wpL_pure (.pointer (some ⟨b, 0, none⟩)) rfl (by kernel_rfl) ?_
  simp only [Act.put, List.setIfInBounds_toArray, List.set_cons_zero, List.set_cons_succ]
  refine wpL_pure (.pointer (some ⟨b, 0, none⟩)) rfl (by kernel_rfl) ?_
  simp only [Act.put, List.setIfInBounds_toArray, List.set_cons_zero, List.set_cons_succ]
  refine wpL_pure (.pointer (some ⟨b, 0, none⟩)) rfl (by kernel_rfl) ?_
  simp only [Act.put, List.setIfInBounds_toArray, List.set_cons_zero, List.set_cons_succ]
  refine wpL_pure (.slice sa ls.length sc) rfl (run_load_one _ _ _ 39 _ _ rfl b 0 rfl (by rw [F1.out.1.cell]; rfl) (by kernel_rfl)) ?_
  simp only [Act.put, List.setIfInBounds_toArray, List.set_cons_zero, List.set_cons_succ]
  refine wpL_pure (.int .i64 (ls.length : Int)) rfl (by kernel_rfl) ?_
  simp only [Act.put, List.setIfInBounds_toArray, List.set_cons_zero, List.set_cons_succ]
  refine wpL_pure (.bool false) rfl (run_gei Try.underlying3 rfl rfl rfl (by have := HN.out; rw [decide_eq_false_iff_not]; omega)) ?_
  simp only [Act.put, List.setIfInBounds_toArray, List.set_cons_zero, List.set_cons_succ]
  refine wpL_pure (.bool false) rfl (by kernel_rfl) ?_
  simp only [Act.put, List.setIfInBounds_toArray, List.set_cons_zero, List.set_cons_succ]
  refine wpL_pure (.pointer (some ⟨g1, 2, none⟩)) rfl (by kernel_rfl) ?_
  simp only [Act.put, List.setIfInBounds_toArray, List.set_cons_zero, List.set_cons_succ]
  refine wpL_pure (.slice a n c) rfl (run_load_one _ _ _ 30 _ _ rfl g1 2 rfl (by rw [F1.out.2.1.cell]; rfl) (by kernel_rfl)) ?_
  simp only [Act.put, List.setIfInBounds_toArray, List.set_cons_zero, List.set_cons_succ]
  refine wpL_pure (.int .i64 (n : Int)) rfl (by kernel_rfl) ?_
  simp only [Act.put, List.setIfInBounds_toArray, List.set_cons_zero, List.set_cons_succ]
  refine wpL_pure (.bool false) rfl (run_gti Try.underlying3 rfl rfl rfl (by have := HN16.out; rw [decide_eq_false_iff_not]; omega)) ?_
  simp only [Act.put, List.setIfInBounds_toArray, List.set_cons_zero, List.set_cons_succ]
  refine wpL_pure (.bool false) rfl (by kernel_rfl) ?_
  simp only [Act.put, List.setIfInBounds_toArray, List.set_cons_zero, List.set_cons_succ]
  have NE0 := F1.out.2.2.2.2
  go_upto_region 3 with (fail)
  refine region_any (by kernel_rfl) 12 rfl ?_
  refine wpAny_take (i := 0) (oi := ⟨some 17, _, _, _, _, _⟩) (v := .pointer (some ⟨b, 0, none⟩)) rfl (by kernel_rfl) (by kernel_rfl) (by kernel_rfl) (fun _ _ _ h => h) (Or.inl ⟨rfl, fun w => by kernel_rfl⟩) ?_
  simp only [Act.put, List.setIfInBounds_toArray, List.set_cons_zero, List.set_cons_succ]
  refine any_gen (E := Ext) preo_ext (kindsG [fun _ => isV undef, fun _ => isV (.pointer (some ⟨b, 0, none⟩)), fun _ => isV (.pointer (some ⟨b, 0, none⟩)), fun _ => isV (.pointer (some ⟨b, 0, none⟩)), fun _ => isV (.slice sa ls.length sc), fun _ => isV (.agg #[.int .i64 f, .int .i64 t, .slice a n c]), fun _ => isCopy g1 f t xs, isBuilt Try.prog w1.drew.heap.size 43]) (kindsG_stays _ (by
    intro R hR z v
    simp only [List.mem_cons, List.not_mem_nil, or_false] at hR
    rcases hR with rfl | rfl | rfl | rfl | rfl | rfl | rfl | rfl
    all_goals first | exact staysG_isV _ _ | exact stays_isCopy _ _ _ _ _ | exact stays_built _ _ _ _)) 1 8 11 rfl (by kernel_rfl) ?_
  simp only [List.take_succ_cons, List.take_zero, List.drop_succ_cons, List.drop_zero]
  refine wpG_val preo_ext (.pointer (some ⟨b, 0, none⟩)) rfl rfl (fun w hw => by kernel_rfl) ?_
  simp only [Act.put, List.setIfInBounds_toArray, List.set_cons_zero, List.set_cons_succ]
  refine wpG_val preo_ext (.pointer (some ⟨b, 0, none⟩)) rfl rfl (fun w hw => by kernel_rfl) ?_
  simp only [Act.put, List.setIfInBounds_toArray, List.set_cons_zero, List.set_cons_succ]
  refine wpG_val preo_ext (.pointer (some ⟨b, 0, none⟩)) rfl rfl (fun w hw => by kernel_rfl) ?_
  simp only [Act.put, List.setIfInBounds_toArray, List.set_cons_zero, List.set_cons_succ]
  refine wpG_val preo_ext (.slice sa ls.length sc) rfl rfl (fun w hw => run_load_one _ _ _ 39 _ _ rfl b 0 rfl (by rw [((F1.out.1.drew).below hw).cell]; rfl) (by kernel_rfl)) ?_
  simp only [Act.put, List.setIfInBounds_toArray, List.set_cons_zero, List.set_cons_succ]
  refine wpG_val preo_ext (.agg #[.int .i64 f, .int .i64 t, .slice a n c]) rfl rfl (fun w hw => run_load_mid _ _ _ 43 _ rfl g1 0 rfl [.int .i64 f, .int .i64 t, .slice a n c] _ (range_blk (t := 43) ((F1.out.2.1.drew).below hw)) Try.underlying43 rfl (by kernel_rfl)) ?_
  simp only [Act.put, List.setIfInBounds_toArray, List.set_cons_zero, List.set_cons_succ]
  refine wpG_call 30 #[.agg #[.int .i64 f, .int .i64 t, .slice a n c]] rfl (fun w => by kernel_rfl) (fun w hw => (copied_any w f t a n c xs ((HR.out.drewR).keep hw) (by have := HN16.out; omega) HNIL.out).mono (fun e w' ⟨v, he, q1, q2, q3⟩ => ⟨_, he, q2, v, rfl, q1.mono (Nat.le_trans (Nat.le_of_lt F1.out.2.1.lt) hw.size)⟩)) ?_
  rintro _ ⟨wq, u, rfl, hu⟩
  simp only [Act.put, List.setIfInBounds_toArray, List.set_cons_zero, List.set_cons_succ]
  have ONEU : u.oneCell' = true := by obtain ⟨a, c, e⟩ := hu.slice; rw [e]; rfl
  clear hu wq
  refine wpG_run rfl (fun w hw => ⟨.slice (some ⟨w.heap.size, 0, none⟩) 1 1, w.alloc (.cells #[.int .i64 f, .int .i64 t, u] 43), by kernel_rfl, (Below.refl _ _).alloc (Nat.le_refl _) _, w.heap.size, _, 1, rfl, hw.size, heap_alloc_new w _, w, rfl, by kernel_rfl⟩) ?_
  rintro _ ⟨wqq, hqq⟩
  obtain ⟨q, hvq⟩ : ∃ q, _ = Value.slice (some ⟨q, 0, none⟩) 1 1 := ⟨_, (isBuilt_at (cs0 := #[.int .i64 f, .int .i64 t, u]) hqq 1 (fun w1 => by kernel_rfl)).choose_spec.1⟩
  subst hvq
  clear hqq
  simp only [Act.put, List.setIfInBounds_toArray, List.set_cons_zero, List.set_cons_succ]
  refine wpG_nil ?_
  intro W1 hW1 hF
  have HU : Own W1 g1 u xs := by obtain ⟨u', e, h⟩ := hF.1.2; simp at e; subst e; exact h
  have HQ : Blk W1 q 43 #[.int .i64 f, .int .i64 t, u] := by obtain ⟨q', e, _, h⟩ := isBuilt_at (cs0 := #[.int .i64 f, .int .i64 t, u]) hF.2 1 (fun w1 => by kernel_rfl); simp at e; subst e; exact h
  have F3 : Hid (Blk W1 q 43 #[.int .i64 f, .int .i64 t, u] ∧ NetSt W1 b (.slice sa ls.length sc) ls ∧ Below g1 w W1 ∧ Own W1 g1 u xs ∧ u.oneCell' = true) := Lib.hid ⟨HQ, NetSt.below (w := w1.drew) F1.out.2.2.1 hW1, F1.out.2.2.2.1.trans (Below.mono (show Below w1.heap.size w1 W1 from ⟨hW1.os, hW1.tape, hW1.output, hW1.size, hW1.block⟩) (Nat.le_of_lt F1.out.2.1.lt)), HU, ONEU⟩
  have LB : Hid (b < g1) := Lib.hid F1.out.2.2.2.2
  clear hF hW1 HU HQ F1 ONEU
  obtain ⟨v', W3, r1, r2, r3, r4, r5⟩ := append_ltr W1 (b + 1) (.slice sa ls.length sc) ls.length (flat ls) ⟨q, 0, none⟩ 1 1 [.int .i64 f, .int .i64 t, u] F3.out.2.1.2.1 rfl (fun j u hu => by rw [Addr.add_lit, Nat.zero_add, F3.out.1.cell]; simpa using hu) (by intro v hv; simp at hv; rcases hv with rfl | rfl | rfl; rfl; rfl; exact F3.out.2.2.2.2) (by have := HN.out; omega) (by have := F3.out.2.1.lt; omega)
  have R1 := Lib.hid r1
  have ONE : v'.oneCell' = true := by obtain ⟨a, c, e, _⟩ := r2.slice; rw [e]; rfl
  have F4 : Hid (Blk W3 b 56 #[.slice sa ls.length sc] ∧ LRow W3 (b + 1) v' (ls ++ [(⟨f, t, u, xs⟩ : Ltr)]).length (flat (ls ++ [(⟨f, t, u, xs⟩ : Ltr)])) ∧ (∀ l ∈ ls ++ [(⟨f, t, u, xs⟩ : Ltr)], Own W3 (b + 1) l.v l.xs ∧ l.xs.length ≤ 16384) ∧ FrN w W3 b (.slice sa ls.length sc) v') := Lib.hid (send_frame F3.out.2.1 F3.out.2.2.2.1 LB.out (by rw [HR.out.1]; exact HN16.out) r2 r3 r4 (by rw [HG.out]; exact F3.out.2.2.1))
  clear r1 r2 r3 r4 r5 F3
  refine wpL_value (v') (W3) rfl (run_appl _ _ W1 W3 _ _ (.slice sa ls.length sc) (.slice (some ⟨q, 0, none⟩) 1 1) v' rfl rfl rfl rfl R1.out) ?_
  simp only [Act.put, List.setIfInBounds_toArray, List.set_cons_zero, List.set_cons_succ]
  refine wpL_pure (.pointer (some ⟨b, 0, none⟩)) rfl (by kernel_rfl) ?_
  simp only [Act.put, List.setIfInBounds_toArray, List.set_cons_zero, List.set_cons_succ]
  refine wpL_pure (.pointer (some ⟨b, 0, none⟩)) rfl (by kernel_rfl) ?_
  simp only [Act.put, List.setIfInBounds_toArray, List.set_cons_zero, List.set_cons_succ]
  refine wpL_store_one rfl rfl (b) (0) rfl (v') rfl ONE size39 (by rw [F4.out.1.cell]; rfl) (F4.out.1.free _) ?_
  simp only [Act.put, List.setIfInBounds_toArray, List.set_cons_zero, List.set_cons_succ]
  go_wp2_with fail
  go_ret
  exact ⟨rfl, v', u, ⟨Blk.set (l := [.slice sa ls.length sc]) F4.out.1 0 v', F4.out.2.1.other _ _ (fun e => by have := (F4.out.2.1.lt b e).1; omega), fun l hl => ⟨(F4.out.2.2.1 l hl).1.other _ _ (fun e => by have := ((F4.out.2.2.1 l hl).1.lt b e).1; omega), (F4.out.2.2.1 l hl).2⟩⟩, F4.out.2.2.2.set (o := 0) _⟩
end Go.Proofs.Ytoeojgdolanggaa
