import Derived.Test.YteblaknbehfkgaaK8
namespace Go.Proofs.Yteblaknbehfkgaa
open Go Go.RowKit

theorem size5 (w : World) : (sizeOf 5).run Try.prog w = .ok 1 w := by kernel_rfl
theorem wrap_byte (x : Int) : 0 ≤ IntKind.u8.wrap x ∧ IntKind.u8.wrap x ≤ 255 := by rw [IntKind.wrap_u8]; omega
theorem own_some {w : World} {B : Nat} {a : Option Addr} {n c : Nat} {xs : List Int} (h : Own w B (.slice a n c) xs) (hn : 0 < n) : ∃ g, a = some ⟨g, 0, none⟩ := by
  rcases h.form with ⟨e, _⟩ | ⟨g, cap, cur, e, _⟩
  · simp only [Value.slice.injEq] at e; omega
  · simp only [Value.slice.injEq] at e; exact ⟨g, e.1⟩
theorem own_n {w : World} {B : Nat} {a : Option Addr} {n c : Nat} {xs : List Int} (h : Own w B (.slice a n c) xs) : xs.length = n := by
  obtain ⟨a', c', e⟩ := h.slice
  simp only [Value.slice.injEq] at e
  exact e.2.1.symm
theorem own_cell {w : World} {B g n c : Nat} {xs : List Int} (h : Own w B (.slice (some ⟨g, 0, none⟩) n c) xs) (k : Nat) (hk : k < n) : w.cell? ⟨g, k, none⟩ = some (.int .u8 (xs.getD k 0)) := by
  obtain ⟨g', o', e, hc⟩ := h.row.1.2.2.2 k hk
  simp only [Option.some.injEq, Addr.mk.injEq, and_true] at e
  obtain ⟨rfl, rfl⟩ := e
  rw [Nat.zero_add] at hc
  exact hc
theorem _root_.Go.World.ownsRow.frozenAt' {w : World} {base g cap n m : Nat} {e : TypeId} {size : Nat} {xs : List Value} (h : w.ownsRow base e size (.slice (some ⟨g, 0, none⟩) n cap) m xs) (j : Nat) : w.frozen? ⟨g, j, none⟩ = false := by
  rcases h.2 with ⟨h', _⟩ | ⟨g', cap', cur, h', _, hg, _⟩
  · simp at h'
  · simp only [Value.slice.injEq, Option.some.injEq, Addr.mk.injEq, and_true, true_and] at h'
    rw [h'.1]
    exact frozen_of_row w g' j cur e hg
theorem own_set {w : World} {B g n c : Nat} {xs : List Int} (h : Own w B (.slice (some ⟨g, 0, none⟩) n c) xs) (k : Nat) (u : Int) (hu : 0 ≤ u ∧ u ≤ 255) : Own (w.setCell ⟨g, k, none⟩ (.int .u8 u)) B (.slice (some ⟨g, 0, none⟩) n c) (xs.set k u) := by
  obtain rfl := own_n h
  refine ⟨?_, fun x hx => ?_⟩
  · rw [List.length_set, List.map_set]
    exact (h.1.stored k _).1
  · rcases List.mem_or_eq_of_mem_set hx with hx | rfl
    · exact h.2 x hx
    · exact hu
theorem in_nil {w w' : World} {gi : Nat} {a : Option Addr} {n c : Nat} (h1 : Blk w' gi 58 #[.slice a n c, .bool false]) (h2 : Lft w gi [] a n c) : InSt w' gi [] false := by
  obtain rfl : n = 0 := by have := h2.1.1; simpa using this.symm
  exact ⟨a, 0, c, h1, Row.nil _ _, h2.2⟩
def Inv (w : World) (gi : Nat) (xs : List Int) (at_ ac ad : Option Addr) (n ct cc : Nat) (wr : World) : Prop :=
  Below w.heap.size w wr ∧ (∃ ys, Own wr w.heap.size (.slice ac n cc) ys ∧ ys.length = n) ∧ (∃ zs, Own wr w.heap.size (.slice at_ n ct) zs ∧ zs.length = n) ∧ Row wr ad n xs ∧ InSt wr gi [] false
theorem own_oth {w : World} {B g n c : Nat} {xs : List Int} (h : Own w B (.slice (some ⟨g, 0, none⟩) n c) xs) {p : Addr} (hp : g ≠ p.block) (u : Value) : Own (w.setCell p u) B (.slice (some ⟨g, 0, none⟩) n c) xs :=
  h.other p u (fun e => hp (by simpa [Value.ownBlock] using e))
theorem Inv.step {w wr : World} {gi gt gc : Nat} {xs : List Int} {ad : Option Addr} {n ct cc : Nat} (h : Inv w gi xs (some ⟨gt, 0, none⟩) (some ⟨gc, 0, none⟩) ad n ct cc wr) (k : Nat) (y z : Int) (hy : 0 ≤ y ∧ y ≤ 255) (hz : 0 ≤ z ∧ z ≤ 255)
    (ne : gt ≠ gc) (hc : gc ≠ gi ∧ w.heap.size ≤ gc) (ht : gt ≠ gi ∧ w.heap.size ≤ gt) (hd : ∀ p, ad = some p → p.block ≠ gt ∧ p.block ≠ gc) :
    Inv w gi xs (some ⟨gt, 0, none⟩) (some ⟨gc, 0, none⟩) ad n ct cc ((wr.setCell ⟨gc, k, none⟩ (.int .u8 y)).setCell ⟨gt, k, none⟩ (.int .u8 z)) := by
  obtain ⟨J1, ⟨ys, J2, ly⟩, ⟨zs, J3, lz⟩, J4, J5⟩ := h
  have A1 : Below w.heap.size w (wr.setCell ⟨gc, k, none⟩ (.int .u8 y)) := Below.setCell (p := ⟨gc, k, none⟩) J1 hc.2 _
  have A2 : Below w.heap.size w ((wr.setCell ⟨gc, k, none⟩ (.int .u8 y)).setCell ⟨gt, k, none⟩ (.int .u8 z)) := Below.setCell (p := ⟨gt, k, none⟩) A1 ht.2 _
  have B1 := own_oth (own_set J2 k y hy) (p := ⟨gt, k, none⟩) (Ne.symm ne) (.int .u8 z)
  have B2 := own_set (own_oth J3 (p := ⟨gc, k, none⟩) ne (.int .u8 y)) k z hz
  have B3 := (J4.setOther ⟨gc, k, none⟩ (.int .u8 y) (fun p hp => (hd p hp).2)).setOther ⟨gt, k, none⟩ (.int .u8 z) (fun p hp => (hd p hp).1)
  obtain ⟨a, m, c, q1, q2⟩ := J5
  have B4 := (q1.other ⟨gc, k, none⟩ (.int .u8 y) (Ne.symm hc.1)).other ⟨gt, k, none⟩ (.int .u8 z) (Ne.symm ht.1)
  exact ⟨A2, ⟨_, B1, by rw [List.length_set, ly]⟩, ⟨_, B2, by rw [List.length_set, lz]⟩, B3, in_nil B4 q2⟩
set_option maxHeartbeats 2000000 in
theorem walkPackOwn (a1 : Option Addr) (n1 c1 : Nat) (z1 : List Int) (w : World) (h1 : IsRow .u8 w a1 n1 c1 z1) :
    Calls Try.prog 7 #[.slice a1 n1 c1] w fun e w' => e = .returned (.bool true) ∧ Below w.heap.size w w' := by
  have m1 := row_more h1
  have hr := row_of h1
  generalize z1.take n1 = xs at hr
  have HR := Lib.hid hr
  have HNIL := Lib.hid m1.2.1
  clear h1 hr m1
  by_cases i1 : 500 < n1
  · have BIG : Hid (decide ((500 : Int) < (n1 : Int)) = true) := Lib.hid (by rw [decide_eq_true_eq]; omega)
    clear i1
    go_enter Try.func7, Try.ntmps7
    go_upto_region 1 with (fail)
    refine wp_region_lit ?_
    refine wpL_call 8 #[] rfl (by kernel_rfl) ((awake_any w).mono fun e w1 ⟨he, hb⟩ => ⟨.bool true, he, ?_⟩)
    simp only [Act.put, List.setIfInBounds_toArray, List.set_cons_zero, List.set_cons_succ]
    have B1 := Lib.hid hb
    clear hb
    refine wpL_pure (.bool false) rfl (by kernel_rfl) ?_
    simp only [Act.put, List.setIfInBounds_toArray, List.set_cons_zero, List.set_cons_succ]
    refine wpL_pure (.bool false) rfl (by kernel_rfl) ?_
    simp only [Act.put, List.setIfInBounds_toArray, List.set_cons_zero, List.set_cons_succ]
    refine wpL_pure (.slice a1 n1 c1) rfl (by kernel_rfl) ?_
    simp only [Act.put, List.setIfInBounds_toArray, List.set_cons_zero, List.set_cons_succ]
    refine wpL_pure (.int .i64 (n1 : Int)) rfl (by kernel_rfl) ?_
    simp only [Act.put, List.setIfInBounds_toArray, List.set_cons_zero, List.set_cons_succ]
    refine wpL_pure (.bool true) rfl (run_gti Try.underlying3 rfl rfl rfl BIG.out) ?_
    simp only [Act.put, List.setIfInBounds_toArray, List.set_cons_zero, List.set_cons_succ]
    refine wpL_pure (.bool true) rfl (by kernel_rfl) ?_
    simp only [Act.put, List.setIfInBounds_toArray, List.set_cons_zero, List.set_cons_succ]
    go_upto_region 2 with (fail)
    refine wp_region_lit ?_
    refine wpL_call 8 #[] rfl (by kernel_rfl) ((awake_any w1).mono fun e w2 ⟨he, hb⟩ => ⟨.bool true, he, ?_⟩)
    simp only [Act.put, List.setIfInBounds_toArray, List.set_cons_zero, List.set_cons_succ]
    have B2 := Lib.hid (B1.out.trans (hb.mono B1.out.size))
    clear hb
    refine wpL_pure (.bool true) rfl (by kernel_rfl) ?_
    simp only [Act.put, List.setIfInBounds_toArray, List.set_cons_zero, List.set_cons_succ]
    go_wp2_with fail
    go_ret
    exact ⟨rfl, B2.out⟩
  · have BIG : Hid (decide ((500 : Int) < (n1 : Int)) = false) := Lib.hid (by rw [decide_eq_false_iff_not]; omega)
    clear i1
    go_enter Try.func7, Try.ntmps7
    go_upto_region 1 with (fail)
    refine wp_region_lit ?_
    refine wpL_call 8 #[] rfl (by kernel_rfl) ((awake_any w).mono fun e w1 ⟨he, hb⟩ => ⟨.bool true, he, ?_⟩)
    simp only [Act.put, List.setIfInBounds_toArray, List.set_cons_zero, List.set_cons_succ]
    have B1 := Lib.hid hb
    clear hb
    refine wpL_pure (.bool false) rfl (by kernel_rfl) ?_
    simp only [Act.put, List.setIfInBounds_toArray, List.set_cons_zero, List.set_cons_succ]
    refine wpL_pure (.bool false) rfl (by kernel_rfl) ?_
    simp only [Act.put, List.setIfInBounds_toArray, List.set_cons_zero, List.set_cons_succ]
    refine wpL_pure (.slice a1 n1 c1) rfl (by kernel_rfl) ?_
    simp only [Act.put, List.setIfInBounds_toArray, List.set_cons_zero, List.set_cons_succ]
    refine wpL_pure (.int .i64 (n1 : Int)) rfl (by kernel_rfl) ?_
    simp only [Act.put, List.setIfInBounds_toArray, List.set_cons_zero, List.set_cons_succ]
    refine wpL_pure (.bool false) rfl (run_gti Try.underlying3 rfl rfl rfl BIG.out) ?_
    simp only [Act.put, List.setIfInBounds_toArray, List.set_cons_zero, List.set_cons_succ]
    refine wpL_pure (.bool false) rfl (by kernel_rfl) ?_
    simp only [Act.put, List.setIfInBounds_toArray, List.set_cons_zero, List.set_cons_succ]
    have N5 : Hid (n1 ≤ 500) := Lib.hid (by have := BIG.out; rw [decide_eq_false_iff_not] at this; omega)
    go_upto_region 3 with (fail)
    refine wp_region_lit ?_
    refine wpL_pure (.slice a1 n1 c1) rfl (by kernel_rfl) ?_
    simp only [Act.put, List.setIfInBounds_toArray, List.set_cons_zero, List.set_cons_succ]
    refine wpL_pure (.string (strOfNums xs)) rfl (run_conv_str _ _ _ _ a1 n1 c1 xs rfl rfl (HR.out.keep B1.out)) ?_
    simp only [Act.put, List.setIfInBounds_toArray, List.set_cons_zero, List.set_cons_succ]
    refine wpL_pure (.string (strOfNums xs)) rfl (by kernel_rfl) ?_
    simp only [Act.put, List.setIfInBounds_toArray, List.set_cons_zero, List.set_cons_succ]
    have RD := Lib.hid (read_any w1 a1 n1 c1 xs (HR.out.keep B1.out) (by have := N5.out; omega) HNIL.out)
    go_upto_region 4 with (fail)
    refine wp_region_lit ?_
    refine wpL_pure (.slice a1 n1 c1) rfl (by kernel_rfl) ?_
    simp only [Act.put, List.setIfInBounds_toArray, List.set_cons_zero, List.set_cons_succ]
    refine wpL_call 13 #[.slice a1 n1 c1] rfl (by kernel_rfl) ((RD.out).mono fun e w2 ⟨gi, he, q0, q1, q2⟩ => ⟨.pointer (some ⟨gi, 0, none⟩), he, ?_⟩)
    simp only [Act.put, List.setIfInBounds_toArray, List.set_cons_zero, List.set_cons_succ]
    have G0 : Hid (w.heap.size ≤ gi ∧ gi < w2.heap.size) := Lib.hid ⟨Nat.le_trans B1.out.size q0, by obtain ⟨_, _, _, hB, _⟩ := q1; exact hB.lt⟩
    have B2 := Lib.hid (B1.out.trans (q2.mono B1.out.size))
    have RA := Lib.hid (iraw_any w2 gi n1 xs q1 (by rw [HR.out.1]; omega) (by have := N5.out; omega))
    clear q0 q1 q2 RD B1
    refine wpL_pure (.pointer (some ⟨gi, 0, none⟩)) rfl (by kernel_rfl) ?_
    simp only [Act.put, List.setIfInBounds_toArray, List.set_cons_zero, List.set_cons_succ]
    go_upto_region 5 with (fail)
    refine wp_region_lit ?_
    refine wpL_pure (.pointer (some ⟨gi, 0, none⟩)) rfl (by kernel_rfl) ?_
    simp only [Act.put, List.setIfInBounds_toArray, List.set_cons_zero, List.set_cons_succ]
    refine wpL_pure (.slice a1 n1 c1) rfl (by kernel_rfl) ?_
    simp only [Act.put, List.setIfInBounds_toArray, List.set_cons_zero, List.set_cons_succ]
    refine wpL_pure (.int .i64 (n1 : Int)) rfl (by kernel_rfl) ?_
    simp only [Act.put, List.setIfInBounds_toArray, List.set_cons_zero, List.set_cons_succ]
    refine wpL_call 21 #[.pointer (some ⟨gi, 0, none⟩), .int .i64 (n1 : Int)] rfl (by kernel_rfl) ((RA.out).mono fun e w3 ⟨vt, he, q0, q1, q2⟩ => ⟨vt, he, ?_⟩)
    simp only [Act.put, List.setIfInBounds_toArray, List.set_cons_zero, List.set_cons_succ]
    rw [List.take_of_length_le (by rw [HR.out.1]; omega)] at q0
    rw [List.drop_of_length_le (by rw [HR.out.1]; omega)] at q1
    obtain ⟨at_, ct, ev⟩ := q0.slice
    subst ev
    rw [HR.out.1] at q0
    have T3 : Hid (Own w3 w.heap.size (.slice at_ n1 ct) xs ∧ InSt w3 gi [] false ∧ Below w.heap.size w w3 ∧ ∀ p, at_ = some p → w2.heap.size ≤ p.block ∧ p.block < w3.heap.size) := Lib.hid ⟨q0.mono B2.out.size, q1, B2.out.trans (gb_below q2 G0.out.1 B2.out.size), fun p hp => q0.lt p.block (by rw [hp]; rfl)⟩
    clear q0 q1 q2 RA
    rw [HR.out.1]
    refine wpL_pure (.slice at_ n1 ct) rfl (by kernel_rfl) ?_
    simp only [Act.put, List.setIfInBounds_toArray, List.set_cons_zero, List.set_cons_succ]
    go_upto_region 7 with (fail)
    have O0 := OutSt.new w3
    have W0 : Below w3.heap.size w3 (w3.alloc (.cells #[.slice none 0 0, .bool false, .pointer none] 30)) := (Below.refl _ _).alloc (Nat.le_refl _) _
    generalize w3.alloc (.cells #[.slice none 0 0, .bool false, .pointer none] 30) = w4 at O0 W0 ⊢
    have PU := Lib.hid (oraw_any w4 w3.heap.size [] xs at_ n1 ct O0 (fun X hX => (T3.out.1.below W0).row.1.grown hX (fun p hp => by have := T3.out.2.2.2 p hp; intro e; simp at e; omega)) (by have := N5.out; simp; omega))
    have H4 := Lib.hid W0
    clear O0 W0
    generalize hg : w3.heap.size = go at *
    have HG := Lib.hid hg
    clear hg
    refine wp_region_lit ?_
    refine wpL_pure (.slice at_ n1 ct) rfl (by kernel_rfl) ?_
    simp only [Act.put, List.setIfInBounds_toArray, List.set_cons_zero, List.set_cons_succ]
    refine wpL_call 22 #[.pointer (some ⟨go, 0, none⟩), .slice at_ n1 ct] rfl (by kernel_rfl) ((PU.out).mono fun e w5 ⟨he, q1, q2⟩ => ⟨.tuple #[], he, ?_⟩)
    simp only [Act.put, List.setIfInBounds_toArray, List.set_cons_zero, List.set_cons_succ]
    have q1 : OutSt w5 go xs := by simpa using q1
    have EN := Lib.hid (end_any w5 go xs q1 (by rw [HR.out.1]; have := N5.out; omega))
    have H5 : Hid (Below w3.heap.size w3 w5 ∧ go < w5.heap.size ∧ OutSt w5 go xs) := Lib.hid ⟨by rw [HG.out]; exact H4.out.trans q2, q1.lt, q1⟩
    clear q1 q2 PU H4
    go_upto_region 8 with (fail)
    refine wp_region_lit ?_
    refine wpL_call 12 #[.pointer (some ⟨go, 0, none⟩)] rfl (by kernel_rfl) ((EN.out).mono fun e w6 ⟨vc, he, q1, q2⟩ => ⟨.tuple #[vc, .int .i64 0], he, ?_⟩)
    simp only [Act.put, List.setIfInBounds_toArray, List.set_cons_zero, List.set_cons_succ]
    obtain ⟨ac, cc, ev⟩ := q1.slice
    subst ev
    rw [HR.out.1] at q1
    have H6 : Hid (Below w3.heap.size w3 w6 ∧ OutSt w6 go xs ∧ go < w6.heap.size ∧ Own w6 w5.heap.size (.slice ac n1 cc) xs ∧ w5.heap.size ≤ w6.heap.size ∧ go < w5.heap.size ∧ ∀ p, ac = some p → w5.heap.size ≤ p.block ∧ p.block < w6.heap.size) := Lib.hid ⟨H5.out.1.trans (q2.mono (by have := H5.out.2; have := HG.out; omega)), H5.out.2.2.below q2, by have := H5.out.2.1; have := q2.size; omega, q1, q2.size, H5.out.2.1, fun p hp => q1.lt p.block (by rw [hp]; rfl)⟩
    clear q1 q2 EN H5
    rw [HR.out.1]
    refine wpL_pure (.tuple #[.slice ac n1 cc, .int .i64 0]) rfl (by kernel_rfl) ?_
    simp only [Act.put, List.setIfInBounds_toArray, List.set_cons_zero, List.set_cons_succ]
    refine wpL_pure (.slice ac n1 cc) rfl (by kernel_rfl) ?_
    simp only [Act.put, List.setIfInBounds_toArray, List.set_cons_zero, List.set_cons_succ]
    refine wpL_pure (.int .i64 0) rfl (by kernel_rfl) ?_
    simp only [Act.put, List.setIfInBounds_toArray, List.set_cons_zero, List.set_cons_succ]
    refine wpL_pure (.slice ac n1 cc) rfl (by kernel_rfl) ?_
    simp only [Act.put, List.setIfInBounds_toArray, List.set_cons_zero, List.set_cons_succ]
    refine wpL_pure (.int .i64 0) rfl (by kernel_rfl) ?_
    simp only [Act.put, List.setIfInBounds_toArray, List.set_cons_zero, List.set_cons_succ]
    have EN := Lib.hid (end_any w6 go xs H6.out.2.1 (by rw [HR.out.1]; have := N5.out; omega))
    go_upto_region 9 with (fail)
    refine wp_region_lit ?_
    refine wpL_call 12 #[.pointer (some ⟨go, 0, none⟩)] rfl (by kernel_rfl) ((EN.out).mono fun e w7 ⟨vd, he, q1, q2⟩ => ⟨.tuple #[vd, .int .i64 0], he, ?_⟩)
    simp only [Act.put, List.setIfInBounds_toArray, List.set_cons_zero, List.set_cons_succ]
    obtain ⟨ad, cd, ev⟩ := q1.slice
    subst ev
    rw [HR.out.1] at q1
    have H7 : Hid (Below w3.heap.size w3 w7 ∧ Own w7 w.heap.size (.slice ac n1 cc) xs ∧ Row w7 ad n1 xs) := Lib.hid ⟨H6.out.1.trans (q2.mono (by have := H6.out.2.2.1; have := HG.out; omega)), (H6.out.2.2.2.1.below q2).mono (by have := H6.out.2.2.2.2.2.1; have := T3.out.2.2.1.size; have := HG.out; omega), q1.row.1⟩
    have DD : ∀ p, ad = some p → w6.heap.size ≤ p.block := fun p hp => (q1.lt p.block (by rw [hp]; rfl)).1
    have D1 : Hid (∀ p q, at_ = some p → ac = some q → p.block ≠ q.block) := Lib.hid (fun p q hp hq => by have := T3.out.2.2.2 p hp; have := H6.out.2.2.2.2.2.2 q hq; have := H6.out.2.2.2.2.2.1; have := HG.out; omega)
    have D2 : Hid ((∀ p, at_ = some p → p.block ≠ gi ∧ w.heap.size ≤ p.block) ∧ ∀ q, ac = some q → q.block ≠ gi ∧ w.heap.size ≤ q.block) := Lib.hid ⟨fun p hp => by have := T3.out.2.2.2 p hp; have := G0.out; omega, fun q hq => by have := H6.out.2.2.2.2.2.2 q hq; have := H6.out.2.2.2.2.2.1; have := T3.out.2.2.1.size; have := HG.out; have := G0.out; have := T3.out.2.1; obtain ⟨_, _, _, hB, _⟩ := this; have := hB.lt; omega⟩
    have D3 : Hid (∀ p, ad = some p → (∀ q, at_ = some q → p.block ≠ q.block) ∧ ∀ q, ac = some q → p.block ≠ q.block) := Lib.hid (fun p hp => ⟨fun q hq => by have := DD p hp; have := T3.out.2.2.2 q hq; have := H6.out.2.2.2.2; have := HG.out; omega, fun q hq => by have := DD p hp; have := H6.out.2.2.2.2.2.2 q hq; omega⟩)
    have I0 : Hid (Inv w gi xs at_ ac ad n1 ct cc w7) := Lib.hid ⟨T3.out.2.2.1.trans (H7.out.1.mono T3.out.2.2.1.size), ⟨xs, H7.out.2.1, HR.out.1⟩, ⟨xs, T3.out.1.below H7.out.1, HR.out.1⟩, H7.out.2.2, T3.out.2.1.below H7.out.1⟩
    clear q1 q2 EN H6 H7 T3 DD
    rw [HR.out.1]
    refine wpL_pure (.tuple #[.slice ad n1 cd, .int .i64 0]) rfl (by kernel_rfl) ?_
    simp only [Act.put, List.setIfInBounds_toArray, List.set_cons_zero, List.set_cons_succ]
    refine wpL_pure (.slice ad n1 cd) rfl (by kernel_rfl) ?_
    simp only [Act.put, List.setIfInBounds_toArray, List.set_cons_zero, List.set_cons_succ]
    refine wpL_pure (.int .i64 0) rfl (by kernel_rfl) ?_
    simp only [Act.put, List.setIfInBounds_toArray, List.set_cons_zero, List.set_cons_succ]
    refine wpL_pure (.slice ad n1 cd) rfl (by kernel_rfl) ?_
    simp only [Act.put, List.setIfInBounds_toArray, List.set_cons_zero, List.set_cons_succ]
    refine wpL_pure (.int .i64 0) rfl (by kernel_rfl) ?_
    simp only [Act.put, List.setIfInBounds_toArray, List.set_cons_zero, List.set_cons_succ]
    go_upto_region 10 with (fail)
    go_wp2_with fail
    go_loopw [11] (fun s11 wr => ∃ k : Nat, s11 = .int .i64 (k : Int) ∧ Hid (k ≤ n1 ∧ Inv w gi xs at_ ac ad n1 ct cc wr)) (fun s11 _ => n1 - (intOf s11).toNat)
    case atStart => exact ⟨0, rfl, Lib.hid ⟨by omega, I0.out⟩⟩
    case round =>
      obtain ⟨k, rfl, RI⟩ := hrel
      clear I0
      by_cases hlt : k < n1
      · have HK := Lib.hid hlt
        obtain ⟨J1, ⟨ys, J2, ly⟩, ⟨zs, J3, lz⟩, J4, J5⟩ := RI.out.2
        clear RI hlt
        obtain ⟨gc, rfl⟩ := own_some J2 (by have := HK.out; omega)
        obtain ⟨gt, rfl⟩ := own_some J3 (by have := HK.out; omega)
        have KC := Lib.hid (own_cell J2 k (by have := HK.out; omega))
        have KY := Lib.hid (getD_byte J2.2 k)
        have KZ := Lib.hid (getD_byte J3.2 k)
        obtain ⟨W1, hW1⟩ : ∃ V, V = wr.setCell ⟨gc, k, none⟩ (.int .u8 (IntKind.u8.wrap (ys.getD k 0 + 1))) := ⟨_, rfl⟩
        obtain ⟨W2, hW2⟩ : ∃ V, V = W1.setCell ⟨gt, k, none⟩ (.int .u8 (IntKind.u8.wrap (zs.getD k 0 + 1))) := ⟨_, rfl⟩
        have NE1 : gt ≠ gc := D1.out _ _ rfl rfl
        have FC := Lib.hid (J2.1.frozenAt' k)
        have J3' : Own W1 w.heap.size (.slice (some ⟨gt, 0, none⟩) n1 ct) zs := by rw [hW1]; exact own_oth J3 (p := ⟨gc, k, none⟩) NE1 _
        have KT := Lib.hid (own_cell J3' k (by have := HK.out; omega))
        have FT := Lib.hid (J3'.1.frozenAt' k)
        have NX : Hid (Inv w gi xs (some ⟨gt, 0, none⟩) (some ⟨gc, 0, none⟩) ad n1 ct cc W2) := Lib.hid (by rw [hW2, hW1]; exact Inv.step ⟨J1, ⟨ys, J2, ly⟩, ⟨zs, J3, lz⟩, J4, J5⟩ k _ _ (wrap_byte _) (wrap_byte _) NE1 (D2.out.2 _ rfl) (D2.out.1 _ rfl) (fun p hp => ⟨(D3.out p hp).1 _ rfl, (D3.out p hp).2 _ rfl⟩))
        clear J1 J2 J3 J4 J5 J3' NE1 ly lz
        go_upto_region 11 with (fail)
        refine wp_region_lit ?_
        refine wpL_pure (.int .i64 (k : Int)) rfl (by kernel_rfl) ?_
        simp only [Act.put, List.setIfInBounds_toArray, List.set_cons_zero, List.set_cons_succ]
        refine wpL_pure (.slice (some ⟨gc, 0, none⟩) n1 cc) rfl (by kernel_rfl) ?_
        simp only [Act.put, List.setIfInBounds_toArray, List.set_cons_zero, List.set_cons_succ]
        refine wpL_pure (.int .i64 (n1 : Int)) rfl (by kernel_rfl) ?_
        simp only [Act.put, List.setIfInBounds_toArray, List.set_cons_zero, List.set_cons_succ]
        refine wpL_pure (.bool true) rfl (run_lti Try.underlying3 rfl rfl rfl (by have := HK.out; rw [decide_eq_true_eq]; omega)) ?_
        simp only [Act.put, List.setIfInBounds_toArray, List.set_cons_zero, List.set_cons_succ]
        go_upto_region 13 with (fail)
        refine wp_region_lit ?_
        refine wpL_pure (.slice (some ⟨gc, 0, none⟩) n1 cc) rfl (by kernel_rfl) ?_
        simp only [Act.put, List.setIfInBounds_toArray, List.set_cons_zero, List.set_cons_succ]
        refine wpL_pure (.int .i64 (k : Int)) rfl (by kernel_rfl) ?_
        simp only [Act.put, List.setIfInBounds_toArray, List.set_cons_zero, List.set_cons_succ]
        refine wpL_pure (.pointer (some ⟨gc, 0 + k, none⟩)) rfl (run_idx _ _ _ _ _ gc 0 n1 cc k rfl rfl rfl HK.out (by have := N5.out; unfold maxLen; omega)) ?_
        simp only [Act.put, List.setIfInBounds_toArray, List.set_cons_zero, List.set_cons_succ]
        refine wpL_pure (.int .u8 (ys.getD k 0)) rfl (run_load_one _ _ _ 5 _ _ rfl gc (0 + k) rfl (by rw [Nat.zero_add]; exact KC.out) (by kernel_rfl)) ?_
        simp only [Act.put, List.setIfInBounds_toArray, List.set_cons_zero, List.set_cons_succ]
        refine wpL_pure (.int .u8 (IntKind.u8.wrap (ys.getD k 0 + 1))) rfl (run_addi Try.underlying5 rfl rfl rfl _ rfl) ?_
        simp only [Act.put, List.setIfInBounds_toArray, List.set_cons_zero, List.set_cons_succ]
        refine wpL_pure (.pointer (some ⟨gc, 0 + k, none⟩)) rfl (run_idx _ _ _ _ _ gc 0 n1 cc k rfl rfl rfl HK.out (by have := N5.out; unfold maxLen; omega)) ?_
        simp only [Act.put, List.setIfInBounds_toArray, List.set_cons_zero, List.set_cons_succ]
        refine wpL_store_one rfl rfl (gc) (0 + k) rfl (.int .u8 (IntKind.u8.wrap (ys.getD k 0 + 1))) rfl rfl size5 (by rw [Nat.zero_add, KC.out]; rfl) (by rw [Nat.zero_add]; exact FC.out) ?_
        simp only [Act.put, List.setIfInBounds_toArray, List.set_cons_zero, List.set_cons_succ]
        rw [Nat.zero_add, ← hW1]
        clear hW1
        go_upto_region 14 with (fail)
        refine wp_region_lit ?_
        refine wpL_pure (.slice (some ⟨gt, 0, none⟩) n1 ct) rfl (by kernel_rfl) ?_
        simp only [Act.put, List.setIfInBounds_toArray, List.set_cons_zero, List.set_cons_succ]
        refine wpL_pure (.int .i64 (k : Int)) rfl (by kernel_rfl) ?_
        simp only [Act.put, List.setIfInBounds_toArray, List.set_cons_zero, List.set_cons_succ]
        refine wpL_pure (.pointer (some ⟨gt, 0 + k, none⟩)) rfl (run_idx _ _ _ _ _ gt 0 n1 ct k rfl rfl rfl HK.out (by have := N5.out; unfold maxLen; omega)) ?_
        simp only [Act.put, List.setIfInBounds_toArray, List.set_cons_zero, List.set_cons_succ]
        refine wpL_pure (.int .u8 (zs.getD k 0)) rfl (run_load_one _ _ _ 5 _ _ rfl gt (0 + k) rfl (by rw [Nat.zero_add]; exact KT.out) (by kernel_rfl)) ?_
        simp only [Act.put, List.setIfInBounds_toArray, List.set_cons_zero, List.set_cons_succ]
        refine wpL_pure (.int .u8 (IntKind.u8.wrap (zs.getD k 0 + 1))) rfl (run_addi Try.underlying5 rfl rfl rfl _ rfl) ?_
        simp only [Act.put, List.setIfInBounds_toArray, List.set_cons_zero, List.set_cons_succ]
        refine wpL_pure (.pointer (some ⟨gt, 0 + k, none⟩)) rfl (run_idx _ _ _ _ _ gt 0 n1 ct k rfl rfl rfl HK.out (by have := N5.out; unfold maxLen; omega)) ?_
        simp only [Act.put, List.setIfInBounds_toArray, List.set_cons_zero, List.set_cons_succ]
        refine wpL_store_one rfl rfl (gt) (0 + k) rfl (.int .u8 (IntKind.u8.wrap (zs.getD k 0 + 1))) rfl rfl size5 (by rw [Nat.zero_add, KT.out]; rfl) (by rw [Nat.zero_add]; exact FT.out) ?_
        simp only [Act.put, List.setIfInBounds_toArray, List.set_cons_zero, List.set_cons_succ]
        rw [Nat.zero_add, ← hW2]
        clear hW2
        go_upto_region 12 with (fail)
        refine wp_region_lit ?_
        refine wpL_pure (.int .i64 (k : Int)) rfl (by kernel_rfl) ?_
        simp only [Act.put, List.setIfInBounds_toArray, List.set_cons_zero, List.set_cons_succ]
        refine wpL_pure (.int .i64 ((k + 1 : Nat) : Int)) rfl (run_addi Try.underlying3 rfl rfl rfl _ (by have := HK.out; have := N5.out; rw [wrap_in _ (by omega) (by omega)]; omega)) ?_
        simp only [Act.put, List.setIfInBounds_toArray, List.set_cons_zero, List.set_cons_succ]
        refine wpL_pure (.int .i64 ((k + 1 : Nat) : Int)) rfl (by kernel_rfl) ?_
        simp only [Act.put, List.setIfInBounds_toArray, List.set_cons_zero, List.set_cons_succ]
        go_roundw
        case rel => first | exact ⟨k + 1, rfl, Lib.hid ⟨by have := HK.out; omega, NX.out⟩⟩ | ((repeat apply Exists.intro); exact ⟨⟨k + 1, rfl, Lib.hid ⟨by have := HK.out; omega, NX.out⟩⟩, rfl⟩)
        case measure => simp [intOf]; have := HK.out; omega
      · have HK : Hid (¬ k < n1) := Lib.hid hlt
        clear hlt
        go_upto_region 11 with (fail)
        refine wp_region_lit ?_
        refine wpL_pure (.int .i64 (k : Int)) rfl (by kernel_rfl) ?_
        simp only [Act.put, List.setIfInBounds_toArray, List.set_cons_zero, List.set_cons_succ]
        refine wpL_pure (.slice ac n1 cc) rfl (by kernel_rfl) ?_
        simp only [Act.put, List.setIfInBounds_toArray, List.set_cons_zero, List.set_cons_succ]
        refine wpL_pure (.int .i64 (n1 : Int)) rfl (by kernel_rfl) ?_
        simp only [Act.put, List.setIfInBounds_toArray, List.set_cons_zero, List.set_cons_succ]
        refine wpL_pure (.bool false) rfl (run_lti Try.underlying3 rfl rfl rfl (by have := HK.out; rw [decide_eq_false_iff_not]; omega)) ?_
        simp only [Act.put, List.setIfInBounds_toArray, List.set_cons_zero, List.set_cons_succ]
        go_upto_region 15 with (fail)
        refine wp_region_lit ?_
        refine wpL_pure (.slice a1 n1 c1) rfl (by kernel_rfl) ?_
        simp only [Act.put, List.setIfInBounds_toArray, List.set_cons_zero, List.set_cons_succ]
        refine wpL_pure (.string (strOfNums xs)) rfl (run_conv_str _ _ _ _ a1 n1 c1 xs rfl rfl (HR.out.keep RI.out.2.1)) ?_
        simp only [Act.put, List.setIfInBounds_toArray, List.set_cons_zero, List.set_cons_succ]
        refine wpL_pure (.string (strOfNums xs)) rfl (by kernel_rfl) ?_
        simp only [Act.put, List.setIfInBounds_toArray, List.set_cons_zero, List.set_cons_succ]
        refine wpL_pure (.bool true) rfl (run_str_eql _ _ _ _ _ xs xs true rfl rfl rfl (by simp) HR.out.2.2.1 HR.out.2.2.1) ?_
        simp only [Act.put, List.setIfInBounds_toArray, List.set_cons_zero, List.set_cons_succ]
        refine wpL_pure (.bool true) rfl (by kernel_rfl) ?_
        simp only [Act.put, List.setIfInBounds_toArray, List.set_cons_zero, List.set_cons_succ]
        refine wpL_pure (.slice ad n1 cd) rfl (by kernel_rfl) ?_
        simp only [Act.put, List.setIfInBounds_toArray, List.set_cons_zero, List.set_cons_succ]
        refine wpL_pure (.string (strOfNums xs)) rfl (run_conv_str _ _ _ _ ad n1 cd xs rfl rfl RI.out.2.2.2.2.1) ?_
        simp only [Act.put, List.setIfInBounds_toArray, List.set_cons_zero, List.set_cons_succ]
        refine wpL_pure (.string (strOfNums xs)) rfl (by kernel_rfl) ?_
        simp only [Act.put, List.setIfInBounds_toArray, List.set_cons_zero, List.set_cons_succ]
        refine wpL_pure (.bool true) rfl (run_str_eql _ _ _ _ _ xs xs true rfl rfl rfl (by simp) HR.out.2.2.1 HR.out.2.2.1) ?_
        simp only [Act.put, List.setIfInBounds_toArray, List.set_cons_zero, List.set_cons_succ]
        refine wpL_pure (.bool true) rfl (by kernel_rfl) ?_
        simp only [Act.put, List.setIfInBounds_toArray, List.set_cons_zero, List.set_cons_succ]
        refine wpL_pure (.bool true) rfl (by kernel_rfl) ?_
        simp only [Act.put, List.setIfInBounds_toArray, List.set_cons_zero, List.set_cons_succ]
        refine wpL_pure (.pointer (some ⟨gi, 0, none⟩)) rfl (by kernel_rfl) ?_
        simp only [Act.put, List.setIfInBounds_toArray, List.set_cons_zero, List.set_cons_succ]
        refine wpL_call 18 #[.pointer (some ⟨gi, 0, none⟩)] rfl (by kernel_rfl) ((over_any wr gi [] false RI.out.2.2.2.2.2).mono fun e w9 ⟨he, hw⟩ => ⟨.bool true, he, ?_⟩)
        simp only [Act.put, List.setIfInBounds_toArray, List.set_cons_zero, List.set_cons_succ]
        subst hw
        refine wpL_pure (.bool true) rfl (by kernel_rfl) ?_
        simp only [Act.put, List.setIfInBounds_toArray, List.set_cons_zero, List.set_cons_succ]
        go_wp2_with fail
        go_ret
        exact ⟨rfl, RI.out.2.1⟩
end Go.Proofs.Yteblaknbehfkgaa
