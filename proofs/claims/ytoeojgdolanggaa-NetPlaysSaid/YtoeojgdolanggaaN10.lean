import Derived.Test.YtoeojgdolanggaaN7
namespace Go.Proofs.Ytoeojgdolanggaa
open Go Go.RowKit
def WRest (w : World) (k : Nat) (ls : List Ltr) (v : Value) (wr : World) : Prop := ∃ ms, LRow wr w.heap.size v k (flat ms) ∧ ms.length = k ∧ ms.map Ltr.key = (ls.take k).map Ltr.key ∧ ∀ m ∈ ms, Own wr w.heap.size m.v m.xs
theorem WRest.below {w X Y : World} {k : Nat} {ls : List Ltr} {v : Value} (h : WRest w k ls v X) (hb : Below X.heap.size X Y) : WRest w k ls v Y := by
  obtain ⟨ms, h1, h2, h3, h4⟩ := h
  exact ⟨ms, h1.below hb, h2, h3, fun m hm => (h4 m hm).below hb⟩
def WInv (w : World) (b : Nat) (s : Value) (ls : List Ltr) (v : Value) (k : Nat) (wr : World) : Prop := Below w.heap.size w wr ∧ NetSt wr b s ls ∧ WRest w k ls v wr
theorem way_step {w w4 w5 : World} {b k : Nat} {s v v' u : Value} {ls ms : List Ltr} {l : Ltr} (h1 : Below w.heap.size w w4) (h2 : NetSt w4 b s ls) (hM : LRow w4 w.heap.size v k (flat ms)) (hml : ms.length = k) (hms : ms.map Ltr.key = (ls.take k).map Ltr.key) (hO : ∀ m ∈ ms, Own w4 w.heap.size m.v m.xs)
    (hu : Own w4 w.heap.size u l.xs) (hl : ls[k]? = some l) (r2 : LRow w5 w.heap.size v' (k + 1) (flat ms ++ [.int .i64 l.f, .int .i64 l.t, u])) (r3 : w4.grownBy w5 v.ownBlock) (hsb : ∀ g, s.ownBlock = some g → g < w.heap.size) : WInv w b s ls v' (k + 1) w5 := by
  have lo : ∀ g, v.ownBlock = some g → w.heap.size ≤ g := fun g hg => (hM.lt g hg).1
  have nb : some b ≠ v.ownBlock := by
    intro e
    rcases hM.forms with ⟨e', _⟩ | ⟨g, cap, cur, e', _, hg, _⟩
    · rw [e'] at e; cases e
    · rw [e'] at e
      simp [Value.ownBlock] at e
      exact blk_ne h2.1 hg (by omega) e
  have ns : s.ownBlock = none ∨ s.ownBlock ≠ v.ownBlock := by
    cases hs : s.ownBlock with
    | none => exact .inl rfl
    | some g => right; intro e; have := hsb g hs; have := lo g e.symm; omega
  refine ⟨h1.grown r3 h1.size lo, ⟨h2.1.grown r3 nb, h2.2.1.grown r3 ns, fun m hm => ⟨(h2.2.2 m hm).1.grown r3 (kinds_ne hM (h2.2.2 m hm).1), (h2.2.2 m hm).2⟩⟩, ms ++ [(⟨l.f, l.t, u, l.xs⟩ : Ltr)], ?_, by rw [List.length_append, hml]; rfl, ?_, fun m hm => ?_⟩
  · rw [flat_append]; exact r2
  · rw [List.map_append, hms, List.take_add_one, hl, List.map_append]; rfl
  · rcases List.mem_append.1 hm with hm | hm
    · exact (hO m hm).grown r3 (kinds_ne hM (hO m hm))
    · obtain rfl : m = (⟨l.f, l.t, u, l.xs⟩ : Ltr) := by simpa using hm
      exact hu.grown r3 (kinds_ne hM hu)
def WayOk (w : World) (b : Nat) (s : Value) (ls : List Ltr) (e : Ending) (w' : World) : Prop := ∃ v ms, e = .returned v ∧ NetSt w' b s ls ∧ LRow w' w.heap.size v ms.length (flat ms) ∧ ms.map Ltr.key = ls.map Ltr.key ∧ (∀ m ∈ ms, Own w' w.heap.size m.v m.xs) ∧ Below w.heap.size w w'
set_option maxHeartbeats 2000000 in
theorem way_any (w : World) (b : Nat) (s : Value) (ls : List Ltr) (h : NetSt w b s ls) (hl : ls.length ≤ 300) : Calls Try.prog 29 #[.pointer (some ⟨b, 0, none⟩)] w (WayOk w b s ls) := by
  obtain ⟨sa, sc, hs, _⟩ := h.2.1.slice
  subst hs
  have HN : Hid (NetSt w b (.slice sa ls.length sc) ls) := Lib.hid h
  have HM : Hid (ls.length ≤ maxLen) := Lib.hid (by unfold maxLen; omega)
  have HLS := Lib.hid hl
  have HSB : Hid (∀ g, (Value.slice sa ls.length sc).ownBlock = some g → g < w.heap.size) := Lib.hid (fun g hg => (h.2.1.lt g hg).2)
  clear h hl
  go_enter Try.func29, Try.ntmps29
  go_upto_region 2 with (fail)
  refine wp_region_lit ?_
  refine wpL_pure (.pointer (some ⟨b, 0, none⟩)) rfl (by kernel_rfl) ?_
  simp only [Act.put, List.setIfInBounds_toArray, List.set_cons_zero, List.set_cons_succ]
  refine wpL_pure (.pointer (some ⟨b, 0, none⟩)) rfl (by kernel_rfl) ?_
  simp only [Act.put, List.setIfInBounds_toArray, List.set_cons_zero, List.set_cons_succ]
  refine wpL_pure (.pointer (some ⟨b, 0, none⟩)) rfl (by kernel_rfl) ?_
  simp only [Act.put, List.setIfInBounds_toArray, List.set_cons_zero, List.set_cons_succ]
  refine wpL_pure (.slice sa ls.length sc) rfl (run_load_one _ _ _ 39 _ _ rfl b 0 rfl (by rw [HN.out.1.cell]; rfl) (by kernel_rfl)) ?_
  simp only [Act.put, List.setIfInBounds_toArray, List.set_cons_zero, List.set_cons_succ]
  refine wpL_pure (.int .i64 (ls.length : Int)) rfl (by kernel_rfl) ?_
  simp only [Act.put, List.setIfInBounds_toArray, List.set_cons_zero, List.set_cons_succ]
  refine wpL_pure (.int .i64 0) rfl (by kernel_rfl) ?_
  simp only [Act.put, List.setIfInBounds_toArray, List.set_cons_zero, List.set_cons_succ]
  go_wp2_with fail
  go_loopw [3, 11] (fun s3 s11 wr => ∃ (k : Nat) (a3 : Option Addr) (c3 : Nat), s3 = .slice a3 k c3 ∧ s11 = .int .i64 (k : Int) ∧ Hid (k ≤ ls.length ∧ WInv w b (.slice sa ls.length sc) ls (.slice a3 k c3) k wr)) (fun _ s11 _ => ls.length - (intOf s11).toNat)
  case atStart => exact ⟨0, none, 0, rfl, rfl, Lib.hid ⟨by omega, Below.refl _ _, HN.out, [], LRow.nil _ _, rfl, rfl, by simp⟩⟩
  case round =>
    obtain ⟨k, a3, c3, rfl, rfl, RI⟩ := hrel
    by_cases hlt : k < ls.length
    · have HK := Lib.hid hlt
      obtain ⟨hB, hS, ms, hM, hml, hms, hO⟩ := RI.out.2
      obtain ⟨l, hl⟩ : ∃ l, ls[k]? = some l := ⟨_, List.getElem?_eq_getElem hlt⟩
      obtain ⟨gs, hgs⟩ : ∃ gs, sa = some ⟨gs, 0, none⟩ := by
        rcases hS.2.1.forms with ⟨_, e, _⟩ | ⟨gs, _, _, e, _⟩
        · omega
        · simp only [Value.slice.injEq] at e; exact ⟨gs, e.1⟩
      subst hgs
      have hol := hS.2.2 l (List.mem_of_getElem? hl)
      obtain ⟨la, lc, lv⟩ := hol.1.slice
      have F1 := Lib.hid (And.intro hB (And.intro hS (And.intro hM (And.intro hml (And.intro hms (And.intro hO (And.intro hl (And.intro hol lv))))))))
      have HL : Hid (ls[k]? = some l ∧ l.v = .slice la l.xs.length lc) := Lib.hid ⟨hl, lv⟩
      clear RI hlt hB hS hM hml hms hO hl hol lv
      go_upto_region 3 with (fail)
      refine wp_region_lit ?_
      refine wpL_pure (.bool true) rfl (run_lti Try.underlying3 rfl rfl rfl (by have := HK.out; rw [decide_eq_true_eq]; omega)) ?_
      simp only [Act.put, List.setIfInBounds_toArray, List.set_cons_zero, List.set_cons_succ]
      go_upto_region 4 with (fail)
      refine wp_region_lit ?_
      refine wpL_pure (.pointer (some ⟨gs, k * 3, none⟩)) rfl (run_idxl _ _ _ _ _ gs ls.length sc k rfl rfl rfl HK.out HM.out) ?_
      simp only [Act.put, List.setIfInBounds_toArray, List.set_cons_zero, List.set_cons_succ]
      refine wpL_load 43 _ rfl rfl gs (k * 3) rfl [.int .i64 l.f, .int .i64 l.t, .slice la l.xs.length lc] _ (ltr_range F1.out.2.1 HL.out) Try.underlying43 rfl (by kernel_rfl) ?_
      simp only [Act.put, List.setIfInBounds_toArray, List.set_cons_zero, List.set_cons_succ]
      have BX := Lib.hid (box_frame wr l.f l.t (.slice la l.xs.length lc))
      obtain ⟨w2, hw2⟩ : ∃ V, V = (wr.alloc (.cells #[.int .i64 0, .int .i64 0, .slice none 0 0] 43)).setRow wr.heap.size #[.int .i64 l.f, .int .i64 l.t, .slice la l.xs.length lc] := ⟨_, rfl⟩
      rw [← hw2] at BX
      refine wpL_value (.pointer (some ⟨wr.heap.size, 0, none⟩)) (wr.alloc (.cells #[.int .i64 0, .int .i64 0, .slice none 0 0] 43)) rfl (by kernel_rfl) ?_
      simp only [Act.put, List.setIfInBounds_toArray, List.set_cons_zero, List.set_cons_succ]
      refine wpList_store_row rfl 43 _ _ rfl (wr.heap.size) (#[.int .i64 l.f, .int .i64 l.t, .slice la l.xs.length lc]) rfl rfl _ _ (Blk.new wr 43 _) (by kernel_rfl) rfl (all3 _ _ _ rfl) ?_
      simp only [Act.put, List.setIfInBounds_toArray, List.set_cons_zero, List.set_cons_succ]
      rw [← hw2]
      have F2 : Hid (Blk w2 wr.heap.size 43 #[.int .i64 l.f, .int .i64 l.t, .slice la l.xs.length lc] ∧ Below w.heap.size w w2 ∧ NetSt w2 b (.slice (some ⟨gs, 0, none⟩) ls.length sc) ls ∧ WRest w k ls (.slice a3 k c3) w2 ∧ Own w2 (b + 1) (.slice la l.xs.length lc) l.xs ∧ l.xs.length ≤ 16384) := Lib.hid ⟨BX.out.1, F1.out.1.trans (BX.out.2.mono F1.out.1.size), F1.out.2.1.below BX.out.2, (WRest.below ⟨_, F1.out.2.2.1, F1.out.2.2.2.1, F1.out.2.2.2.2.1, F1.out.2.2.2.2.2.1⟩ BX.out.2), by rw [← HL.out.2]; exact F1.out.2.2.2.2.2.2.2.1.1.below BX.out.2, F1.out.2.2.2.2.2.2.2.1.2⟩
      clear BX F1 hw2
      generalize wr.heap.size = g5 at F2 ⊢
      go_upto_region 5 with (fail)
      refine wp_region_lit ?_
      refine wpL_pure (.slice a3 k c3) rfl (by kernel_rfl) ?_
      simp only [Act.put, List.setIfInBounds_toArray, List.set_cons_zero, List.set_cons_succ]
      refine wpL_load 43 _ rfl rfl g5 0 rfl [.int .i64 l.f, .int .i64 l.t, .slice la l.xs.length lc] _ (range_blk (t := 43) F2.out.1) Try.underlying43 rfl (by kernel_rfl) ?_
      simp only [Act.put, List.setIfInBounds_toArray, List.set_cons_zero, List.set_cons_succ]
      refine wpL_call 30 #[.agg #[.int .i64 l.f, .int .i64 l.t, .slice la l.xs.length lc]] rfl (by kernel_rfl) (((copied_any w2 l.f l.t la l.xs.length lc l.xs F2.out.2.2.2.2.1.row.1 (by have := F2.out.2.2.2.2.2; omega) (own_nil F2.out.2.2.2.2.1))).mono fun e w3 ⟨u, he, q1, q2, _⟩ => ⟨.agg #[.int .i64 l.f, .int .i64 l.t, u], he, ?_⟩)
      simp only [Act.put, List.setIfInBounds_toArray, List.set_cons_zero, List.set_cons_succ]
      have ONEU : u.oneCell' = true := by obtain ⟨a, c, e⟩ := q1.slice; rw [e]; rfl
      have F3 : Hid (Below w.heap.size w w3 ∧ NetSt w3 b (.slice (some ⟨gs, 0, none⟩) ls.length sc) ls ∧ WRest w k ls (.slice a3 k c3) w3 ∧ Own w3 w.heap.size u l.xs) := Lib.hid ⟨F2.out.2.1.trans (q2.mono F2.out.2.1.size), F2.out.2.2.1.below q2, F2.out.2.2.2.1.below q2, q1.mono F2.out.2.1.size⟩
      clear q1 q2 F2
      obtain ⟨w4, hw4⟩ : ∃ V, V = w3.alloc (.cells #[.int .i64 l.f, .int .i64 l.t, u] 43) := ⟨_, rfl⟩
      have F4 : Hid (Blk w4 w3.heap.size 43 #[.int .i64 l.f, .int .i64 l.t, u] ∧ Below w.heap.size w w4 ∧ NetSt w4 b (.slice (some ⟨gs, 0, none⟩) ls.length sc) ls ∧ WRest w k ls (.slice a3 k c3) w4 ∧ Own w4 w.heap.size u l.xs) := Lib.hid (by rw [hw4]; have q : Below w3.heap.size w3 (w3.alloc (.cells #[.int .i64 l.f, .int .i64 l.t, u] 43)) := (Below.refl _ _).alloc (Nat.le_refl _) _; exact ⟨Blk.new _ _ _, F3.out.1.trans (q.mono F3.out.1.size), F3.out.2.1.below q, F3.out.2.2.1.below q, F3.out.2.2.2.below q⟩)
      clear F3
      refine wpL_value (.slice (some ⟨w3.heap.size, 0, none⟩) 1 1) (w3.alloc (.cells #[.int .i64 l.f, .int .i64 l.t, u] 43)) rfl (by kernel_rfl) ?_
      simp only [Act.put, List.setIfInBounds_toArray, List.set_cons_zero, List.set_cons_succ]
      rw [← hw4]
      clear hw4
      generalize w3.heap.size = q5 at F4 ⊢
      obtain ⟨ms, hM, hml, hms, hO⟩ := F4.out.2.2.2.1
      obtain ⟨v', w5, r1, r2, r3, r4, r5⟩ := append_ltr w4 w.heap.size (.slice a3 k c3) k (flat ms) ⟨q5, 0, none⟩ 1 1 [.int .i64 l.f, .int .i64 l.t, u] hM rfl (fun j u hu => by rw [Addr.add_lit, Nat.zero_add, F4.out.1.cell]; simpa using hu) (by intro v hv; simp at hv; rcases hv with rfl | rfl | rfl; rfl; rfl; exact ONEU) (by have := HK.out; have := HLS.out; omega) F4.out.2.1.size
      obtain ⟨a4, c4, e4, _⟩ := r2.slice
      subst e4
      have R1 := Lib.hid r1
      have NX : Hid (k + 1 ≤ ls.length ∧ WInv w b (.slice (some ⟨gs, 0, none⟩) ls.length sc) ls (.slice a4 (k + 1) c4) (k + 1) w5) := Lib.hid ⟨HK.out, way_step F4.out.2.1 F4.out.2.2.1 hM hml hms hO F4.out.2.2.2.2 HL.out.1 r2 r3 HSB.out⟩
      clear r1 r2 r3 r4 r5 hM hml hms hO F4
      refine wpL_value (.slice a4 (k + 1) c4) (w5) rfl (run_appl _ _ _ _ _ _ _ _ _ rfl rfl rfl rfl R1.out) ?_
      simp only [Act.put, List.setIfInBounds_toArray, List.set_cons_zero, List.set_cons_succ]
      refine wpL_pure (.slice a4 (k + 1) c4) rfl (by kernel_rfl) ?_
      simp only [Act.put, List.setIfInBounds_toArray, List.set_cons_zero, List.set_cons_succ]
      go_upto_region 6 with (fail)
      refine wp_region_lit ?_
      refine wpL_pure (.int .i64 ((k + 1 : Nat) : Int)) rfl (run_addi Try.underlying3 rfl rfl rfl _ (by have := HK.out; have := HLS.out; rw [wrap_in _ (by omega) (by omega)]; omega)) ?_
      simp only [Act.put, List.setIfInBounds_toArray, List.set_cons_zero, List.set_cons_succ]
      refine wpL_pure (.int .i64 ((k + 1 : Nat) : Int)) rfl (by kernel_rfl) ?_
      simp only [Act.put, List.setIfInBounds_toArray, List.set_cons_zero, List.set_cons_succ]
      go_roundw
      case rel => first | exact ⟨k + 1, a4, c4, rfl, rfl, NX⟩ | ((repeat apply Exists.intro); exact ⟨⟨k + 1, a4, c4, rfl, rfl, NX⟩, rfl⟩)
      case measure => simp [intOf]; have := HK.out; omega
    · have hk : k = ls.length := by have := RI.out.1; omega
      go_upto_region 3 with (fail)
      refine wp_region_lit ?_
      refine wpL_pure (.bool false) rfl (run_lti Try.underlying3 rfl rfl rfl (by rw [decide_eq_false_iff_not]; omega)) ?_
      simp only [Act.put, List.setIfInBounds_toArray, List.set_cons_zero, List.set_cons_succ]
      obtain ⟨hB, hS, ms, hM, hml, hms, hO⟩ := RI.out.2
      have F9 : Hid (NetSt wr b (.slice sa ls.length sc) ls ∧ LRow wr w.heap.size (.slice a3 k c3) ms.length (flat ms) ∧ ms.map Ltr.key = ls.map Ltr.key ∧ (∀ m ∈ ms, Own wr w.heap.size m.v m.xs) ∧ Below w.heap.size w wr) := Lib.hid ⟨hS, by rw [hml]; exact hM, by rw [hms, hk, List.take_length], hO, hB⟩
      clear RI hB hS hM hms hO
      go_wp2_with fail
      go_ret
      exact ⟨_, ms, rfl, F9.out⟩
end Go.Proofs.Ytoeojgdolanggaa
