import Derived.Test.YtfhjfpgfbeiacaaDoorHaH8
namespace Go.Proofs.YtfhjfpgfbeiacaaDoor.Ha
open Go Go.RowKit
set_option maxRecDepth 100000

def lenOf (v : Value) : Nat := match v with | .slice _ n _ => n | _ => 0
def expS (ks info : List Int) (m : Nat) : List Int := (expN ks info ((m + 31) / 32)).1.take m
theorem sl_one (w : World) {x : Int} (h : 0 ≤ x ∧ x ≤ 255) : Sl (w.alloc (.cells #[.int .u8 x] 5)) (some ⟨w.heap.size, 0, none⟩) 1 1 [x] :=
  sl_blk (t := 5) (xs := [x]) (Blk.new _ _ _) rfl (by simpa using h) (by omega)
theorem run_box26 (a : Act) (o : Oper) (w w1 : World) (x : Operand) (ks : List Int) (ho : o.op = .box 23 x) (hx : a.eval x = .agg (u8l ks).toArray) (hl : ks.length = 32) (h1 : w1 = w.alloc (.cells (u8l ks).toArray 23)) :
    (execOp a.eval o).run Tryd.prog w = .ok (.value (.pointer (some ⟨w.heap.size, 0, none⟩))) w1 := by
  have h : ¬ (u8l ks).length = 0 := by simp [u8l, hl]
  subst h1
  unfold execOp
  simp [ho, hx, Instr.box, newVar, newRow, Value.cells, h]
theorem make_own (w : World) (base c : Nat) (hc : c ≤ 100000) (hb : base ≤ w.heap.size) :
    ∃ w', (Instr.makeSlice 32 (.int .i64 0) (.int .i64 (c : Int))).run Tryd.prog w = .ok (.slice (some ⟨w.heap.size, 0, none⟩) 0 c) w' ∧ Own w' base (.slice (some ⟨w.heap.size, 0, none⟩) 0 c) [] ∧ w.grownBy w' none := by
  obtain ⟨i, hi⟩ : ∃ i, Tryd.prog.info? 5 = some i := Option.isSome_iff_exists.1 (by kernel_rfl)
  have hsz : i.size = 1 := by
    have h : (Tryd.prog.info? 5).map (·.size) = some 1 := by kernel_rfl
    rw [hi] at h; simpa using h
  have hby : i.bytes = 1 := by
    have h : (Tryd.prog.info? 5).map (·.bytes) = some 1 := by kernel_rfl
    rw [hi] at h; simpa using h
  have hz : i.zero = some (.int .u8 0) := by
    have h : (Tryd.prog.info? 5).bind (·.zero) = some (.int .u8 0) := by kernel_rfl
    rw [hi] at h; simpa using h
  obtain ⟨w', r1, r2, r3⟩ := run_make_own (P := Tryd.prog) w base 32 5 i (.int .u8 0) 1 Tryd.underlying32 hi hz hsz .i64 .i64 c (by rw [hby]; omega) (by unfold maxLen; omega) hb
  exact ⟨w', r1, ⟨r2, by simp⟩, r3⟩
theorem run_mk (a : Act) (o : Oper) (w w' : World) (x : Operand) (c : Nat) (r : Value) (ho : o.op = .makeSlice 32 (.const (.int .i64 0)) x) (hx : a.eval x = .int .i64 (c : Int)) (h : (Instr.makeSlice 32 (.int .i64 0) (.int .i64 (c : Int))).run Tryd.prog w = .ok r w') :
    (execOp a.eval o).run Tryd.prog w = .ok (.value r) w' := by
  have e : a.eval (.const (.int .i64 0)) = .int .i64 0 := rfl
  unfold execOp
  simp only [ho, hx, e, Sem.run_bind, h, Result.andThen_ok, Sem.run_pure]
theorem below_of_none {w w' : World} {B : Nat} (h : w.grownBy w' none) (hB : B ≤ w.heap.size) : Below B w w' :=
  ⟨h.os, h.tape, h.output, h.size, fun k hk => h.block k (by omega) (by simp)⟩
theorem own_some {w : World} {b : Nat} {v : Value} {xs : List Int} (h : Own w b v xs) (hn : v ≠ .slice none 0 0) : ∃ g c, v = .slice (some ⟨g, 0, none⟩) xs.length c := by
  rcases h.form with ⟨h1, _⟩ | ⟨g, cap, cur, h1, _⟩
  · exact absurd h1 hn
  · exact ⟨g, cap, h1⟩
theorem own_cells {w : World} {b g n c : Nat} {xs : List Int} (h : Own w b (.slice (some ⟨g, 0, none⟩) n c) xs) : ∃ cur, b ≤ g ∧ Blk w g 5 cur ∧ (n ≤ c ∧ cur.size = c ∧ xs.length = n) ∧ cur.toList.take n = u8l xs := by
  rcases h.form with ⟨h1, _⟩ | ⟨g, cap, cur, h1, h2, h3, h4, h5, h6, h7⟩
  · cases h1
  · cases h1
    exact ⟨cur, h2, h3, ⟨h4, h6, rfl⟩, h7⟩
theorem own_cap {w : World} {b g n c : Nat} {xs : List Int} (h : Own w b (.slice (some ⟨g, 0, none⟩) n c) xs) : c < 9223372036854775808 := by
  rcases h.form with ⟨h1, _⟩ | ⟨g, cap, cur, h1, h2, h3, h4, h5, h6, h7⟩
  · cases h1
  · cases h1
    unfold maxLen at h5
    omega
theorem exp_end {cur : List Value} {ks info : List Int} {k L m : Nat} (h : cur.take L = u8l (expN ks info k).1) (h1 : L = 32 * k) (h2 : L < m + 32) (h3 : m ≤ L) : cur.take m = u8l (expS ks info m) := by
  have e : (m + 31) / 32 = k := by omega
  unfold expS
  rw [e]
  have q : cur.take m = (cur.take L).take m := by rw [List.take_take, Nat.min_eq_left h3]
  rw [q, h]
  unfold u8l
  rw [List.map_take]
theorem run_sl3 (a : Act) (o : Oper) (w : World) (x i j : Operand) (g n c m : Nat) (ho : o.op = .slice 32 x none (some i) (some j)) (hx : a.eval x = .slice (some ⟨g, 0, none⟩) n c) (hi : a.eval i = .int .i64 (m : Int)) (hj : a.eval j = .int .i64 (m : Int)) (hm : m ≤ c) (hc : c < 9223372036854775808) :
    (execOp a.eval o).run Tryd.prog w = .ok (.value (.slice (some ⟨g, 0, none⟩) m m)) w := by
  have h1 : (0 : Int) ≤ (m : Int) := by omega
  have h2 : (m : Int) ≤ (c : Int) := by omega
  unfold execOp
  simp only [ho, hx, Option.map_some, Option.map_none, hi, hj]
  go_simp
attribute [local irreducible] wpList
set_option maxHeartbeats 8000000 in
set_option maxRecDepth 100000 in
/-- hash.Expand, of few enough bytes. -/
theorem expand_any (w : World) (ks : List Int) (hk : ks.length = 32) (hkb : ∀ x ∈ ks, 0 ≤ x ∧ x ≤ 255) (a : Option Addr) (n c : Nat) (info : List Int) (hi : Sl w a n c info) (hn : n ≤ 4611686018427387904) (m : Nat) (hm : m ≤ 8160) (hT : TabK w) (hH : TabH w) :
    Calls Tryd.prog 61 #[.agg (u8l ks).toArray, .slice a n c, .int .i64 (m : Int)] w fun e w' => ∃ g cur, e = .returned (.tuple #[.slice (some ⟨g, 0, none⟩) m m, .int .i64 0]) ∧ w.heap.size ≤ g ∧ Blk w' g 5 cur ∧ m ≤ cur.size ∧ cur.toList.take m = u8l (expS ks info m) ∧ Below w.heap.size w w' := by
  have HKL := Lib.hid hk
  have HKB := Lib.hid hkb
  have HI := Lib.hid hi
  have HN := Lib.hid hn
  have HM := Lib.hid hm
  have HT := Lib.hid hT
  have HH := Lib.hid hH
  clear hk hkb hi hn hm hT hH
  go_enter Tryd.func61, Tryd.ntmps61
  obtain ⟨w1, hw1⟩ : ∃ V, V = w.alloc (.cells (u8l ks).toArray 23) := ⟨_, rfl⟩
  have B1 : Hid (Blk w1 w.heap.size 23 (u8l ks).toArray ∧ Below w.heap.size w w1 ∧ w.heap.size < w1.heap.size) := Lib.hid (by rw [hw1]; exact ⟨Blk.new _ _ _, (Below.refl _ _).alloc (Nat.le_refl _) _, by simp⟩)
  go_upto_region 0 with (fail)
  refine wp_region_lit ?_
  refine wpL_value (.pointer (some ⟨w.heap.size, 0, none⟩)) (w1) rfl (run_box26 _ _ _ _ _ ks rfl rfl HKL.out hw1) ?_
  simp only [Act.put, List.setIfInBounds_toArray, List.set_cons_zero, List.set_cons_succ]
  refine wpL_pure (.slice none 0 0) rfl (by kernel_rfl) ?_
  simp only [Act.put, List.setIfInBounds_toArray, List.set_cons_zero, List.set_cons_succ]
  refine wpL_pure (.int .i64 0) rfl (by kernel_rfl) ?_
  simp only [Act.put, List.setIfInBounds_toArray, List.set_cons_zero, List.set_cons_succ]
  clear hw1
  obtain ⟨g3, h3⟩ : ∃ q, w.heap.size = q := ⟨_, rfl⟩
  have G3 : Hid (w.heap.size = g3) := Lib.hid h3
  rw [h3] at B1
  try rw [h3]
  clear h3
  go_upto_region 1 with (fail)
  refine wp_region_lit ?_
  refine wpL_pure (.int .i64 (m : Int)) rfl (by kernel_rfl) ?_
  simp only [Act.put, List.setIfInBounds_toArray, List.set_cons_zero, List.set_cons_succ]
  refine wpL_pure (.bool false) rfl (run_lti Tryd.underlying3 rfl rfl rfl (by have := HM.out; rw [decide_eq_false_iff_not]; omega)) ?_
  simp only [Act.put, List.setIfInBounds_toArray, List.set_cons_zero, List.set_cons_succ]
  refine wpL_pure (.bool false) rfl (by kernel_rfl) ?_
  simp only [Act.put, List.setIfInBounds_toArray, List.set_cons_zero, List.set_cons_succ]
  refine wpL_pure (.int .i64 (m : Int)) rfl (by kernel_rfl) ?_
  simp only [Act.put, List.setIfInBounds_toArray, List.set_cons_zero, List.set_cons_succ]
  refine wpL_pure (.bool false) rfl (run_gti Tryd.underlying3 rfl rfl rfl (by have := HM.out; rw [decide_eq_false_iff_not]; omega)) ?_
  simp only [Act.put, List.setIfInBounds_toArray, List.set_cons_zero, List.set_cons_succ]
  refine wpL_pure (.bool false) rfl (by kernel_rfl) ?_
  simp only [Act.put, List.setIfInBounds_toArray, List.set_cons_zero, List.set_cons_succ]
  obtain ⟨w2, r1, r2, r3⟩ := make_own w1 (g3 + 1) (m + 32) (by have := HM.out; omega) (by have := B1.out.2.2; omega)
  have MK := Lib.hid r1
  have B2 : Hid (Blk w2 g3 23 (u8l ks).toArray ∧ Below g3 w w2 ∧ Own w2 (g3 + 1) (.slice (some ⟨w1.heap.size, 0, none⟩) 0 (m + 32)) []) := Lib.hid ⟨B1.out.1.grown r3 (by simp), B1.out.2.1.trans (below_of_none r3 (by have := B1.out.2.2; omega)), r2⟩
  clear r1 r2 r3
  go_upto_region 3 with (fail)
  refine wp_region_lit ?_
  refine wpL_pure (.int .i64 (m : Int)) rfl (by kernel_rfl) ?_
  simp only [Act.put, List.setIfInBounds_toArray, List.set_cons_zero, List.set_cons_succ]
  refine wpL_pure (.int .i64 ((m + 32 : Nat) : Int)) rfl (run_addi Tryd.underlying3 rfl rfl rfl _ (by have := HM.out; rw [wrap_in _ (by omega) (by omega)]; omega)) ?_
  simp only [Act.put, List.setIfInBounds_toArray, List.set_cons_zero, List.set_cons_succ]
  refine wpL_value (.slice (some ⟨w1.heap.size, 0, none⟩) 0 (m + 32)) (w2) rfl (run_mk _ _ _ _ _ _ _ rfl rfl MK.out) ?_
  simp only [Act.put, List.setIfInBounds_toArray, List.set_cons_zero, List.set_cons_succ]
  refine wpL_pure (.slice (some ⟨w1.heap.size, 0, none⟩) 0 (m + 32)) rfl (by kernel_rfl) ?_
  simp only [Act.put, List.setIfInBounds_toArray, List.set_cons_zero, List.set_cons_succ]
  clear MK
  generalize w1.heap.size = g8 at B2 ⊢
  go_upto_region 4 with (fail)
  refine wp_region_lit ?_
  refine wpL_pure (.slice none 0 0) rfl (by kernel_rfl) ?_
  simp only [Act.put, List.setIfInBounds_toArray, List.set_cons_zero, List.set_cons_succ]
  go_upto_region 5 with (fail)
  refine wp_region_lit ?_
  refine wpL_pure (.int .u8 1) rfl (by kernel_rfl) ?_
  simp only [Act.put, List.setIfInBounds_toArray, List.set_cons_zero, List.set_cons_succ]
  go_wp2_with fail
  go_loopw [8, 9, 10] (fun s8 s9 s10 wr => ∃ (k L go co : Nat) (la : Option Addr) (ln lc : Nat), s8 = .slice (some ⟨go, 0, none⟩) L co ∧ s9 = .slice la ln lc ∧ s10 = .int .u8 (((k + 1) % 256 : Nat) : Int) ∧ Hid (L = 32 * k ∧ L < m + 32 ∧ Own wr (g3 + 1) (.slice (some ⟨go, 0, none⟩) L co) (expN ks info k).1 ∧ Below g3 w wr ∧ Sl wr la ln lc (expN ks info k).2 ∧ ln ≤ 32 ∧ Blk wr g3 23 (u8l ks).toArray)) (fun s8 _ _ _ => m + 32 - lenOf s8)
  case atStart => exact ⟨0, 0, _, _, none, 0, 0, rfl, rfl, rfl, Lib.hid ⟨rfl, by omega, B2.out.2.2, B2.out.2.1, ⟨Row.nil _ _, by omega, by omega, fun h => absurd h (by omega)⟩, by omega, B2.out.1⟩⟩
  case round =>
    obtain ⟨k, L, go, co, la, ln, lc, rfl, rfl, rfl, RI⟩ := hrel
    by_cases hlt : L < m
    · have HK := Lib.hid hlt
      clear hlt
      go_upto_region 6 with (fail)
      refine wp_region_lit ?_
      refine wpL_pure (.slice (some ⟨go, 0, none⟩) L co) rfl (by kernel_rfl) ?_
      simp only [Act.put, List.setIfInBounds_toArray, List.set_cons_zero, List.set_cons_succ]
      refine wpL_pure (.int .i64 (L : Int)) rfl (by kernel_rfl) ?_
      simp only [Act.put, List.setIfInBounds_toArray, List.set_cons_zero, List.set_cons_succ]
      refine wpL_pure (.int .i64 (m : Int)) rfl (by kernel_rfl) ?_
      simp only [Act.put, List.setIfInBounds_toArray, List.set_cons_zero, List.set_cons_succ]
      refine wpL_pure (.bool true) rfl (run_lti Tryd.underlying3 rfl rfl rfl (by have := HK.out; rw [decide_eq_true_eq]; omega)) ?_
      simp only [Act.put, List.setIfInBounds_toArray, List.set_cons_zero, List.set_cons_succ]
      obtain ⟨x1, hx1⟩ : ∃ V, V = wr.alloc (.cells #[.int .u8 (((k + 1) % 256 : Nat) : Int)] 5) := ⟨_, rfl⟩
      obtain ⟨x2, hx2⟩ : ∃ V, V = x1.alloc (.cells #[.slice la ln lc, .slice a n c, .slice (some ⟨wr.heap.size, 0, none⟩) 1 1] 32) := ⟨_, rfl⟩
      have X2 : Hid (Own x2 (g3 + 1) (.slice (some ⟨go, 0, none⟩) L co) (expN ks info k).1 ∧ Below g3 w x2 ∧ Blk x2 g3 23 (u8l ks).toArray ∧ PSl x2 (some ⟨x1.heap.size, 0, none⟩) 3 [(expN ks info k).2, info, [(((k + 1) % 256 : Nat) : Int)]]) := Lib.hid (by
        have q1 : Below wr.heap.size wr x1 := by rw [hx1]; exact (Below.refl _ _).alloc (Nat.le_refl _) _
        have q2 : Below x1.heap.size x1 x2 := by rw [hx2]; exact (Below.refl _ _).alloc (Nat.le_refl _) _
        have q : Below wr.heap.size wr x2 := q1.trans (q2.mono q1.size)
        have z : Below g3 w x2 := RI.out.2.2.2.1.trans (q.mono (by have := RI.out.2.2.2.2.2.2.lt; omega))
        exact ⟨RI.out.2.2.1.below q, z, RI.out.2.2.2.2.2.2.below q, psl_three (by rw [hx2]; exact Blk.new _ _ _) (RI.out.2.2.2.2.1.below q) (HI.out.below (by rw [G3.out]; exact z)) (Sl.below (by rw [hx1]; exact sl_one wr (by omega)) q2) (by have := RI.out.2.2.2.2.2.1; omega) HN.out (by omega)⟩)
      go_upto_region 8 with (fail)
      refine wp_region_lit ?_
      refine wpL_pure (.slice (some ⟨g3, 0, none⟩) 32 32) rfl (by kernel_rfl) ?_
      simp only [Act.put, List.setIfInBounds_toArray, List.set_cons_zero, List.set_cons_succ]
      refine wpL_pure (.slice la ln lc) rfl (by kernel_rfl) ?_
      simp only [Act.put, List.setIfInBounds_toArray, List.set_cons_zero, List.set_cons_succ]
      refine wpL_pure (.slice a n c) rfl (by kernel_rfl) ?_
      simp only [Act.put, List.setIfInBounds_toArray, List.set_cons_zero, List.set_cons_succ]
      refine wpL_pure (.int .u8 (((k + 1) % 256 : Nat) : Int)) rfl (by kernel_rfl) ?_
      simp only [Act.put, List.setIfInBounds_toArray, List.set_cons_zero, List.set_cons_succ]
      refine wpL_value (.slice (some ⟨wr.heap.size, 0, none⟩) 1 1) (x1) rfl (by rw [hx1]; kernel_rfl) ?_
      simp only [Act.put, List.setIfInBounds_toArray, List.set_cons_zero, List.set_cons_succ]
      refine wpL_value (.slice (some ⟨x1.heap.size, 0, none⟩) 3 3) (x2) rfl (by rw [hx2]; kernel_rfl) ?_
      simp only [Act.put, List.setIfInBounds_toArray, List.set_cons_zero, List.set_cons_succ]
      refine wpL_call 38 #[.slice (some ⟨g3, 0, none⟩) 32 32, .slice (some ⟨x1.heap.size, 0, none⟩) 3 3] rfl (by kernel_rfl) (((mac_any x2 (some ⟨g3, 0, none⟩) 32 32 ks (some ⟨x1.heap.size, 0, none⟩) 3 3 [(expN ks info k).2, info, [(((k + 1) % 256 : Nat) : Int)]] (sl_blk X2.out.2.2.1 HKL.out HKB.out (by omega)) (by omega) X2.out.2.2.2 (by omega) (HT.out.below (by rw [G3.out]; exact X2.out.2.1)) (HH.out.below (by rw [G3.out]; exact X2.out.2.1)))).mono fun e x3 ⟨he, hb⟩ => ⟨.agg (u8l (macS ks (List.flatten [(expN ks info k).2, info, [(((k + 1) % 256 : Nat) : Int)]]))).toArray, he, ?_⟩)
      simp only [Act.put, List.setIfInBounds_toArray, List.set_cons_zero, List.set_cons_succ]
      have X3 : Hid (Own x3 (g3 + 1) (.slice (some ⟨go, 0, none⟩) L co) (expN ks info k).1 ∧ Below g3 w x3 ∧ Blk x3 g3 23 (u8l ks).toArray) := Lib.hid ⟨X2.out.1.below hb, X2.out.2.1.trans (hb.mono (by have := X2.out.2.2.1.lt; omega)), X2.out.2.2.1.below hb⟩
      clear hb hx1 hx2 X2
      obtain ⟨mb, hmb⟩ : ∃ q, (macS ks (List.flatten [(expN ks info k).2, info, [(((k + 1) % 256 : Nat) : Int)]])) = q := ⟨_, rfl⟩
      have EN : Hid ((expN ks info (k + 1)).1 = (expN ks info k).1 ++ mb ∧ (expN ks info (k + 1)).2 = mb ∧ mb.length = 32 ∧ ∀ x ∈ mb, 0 ≤ x ∧ x ≤ 255) := Lib.hid (by subst hmb; exact ⟨by simp [expN], by simp [expN], macS_len _ _, macS_byte _ _⟩)
      rw [hmb]
      clear hmb
      obtain ⟨x4, hx4⟩ : ∃ V, V = (x3.alloc (.cells (u8l (List.replicate 32 0)).toArray 23)).setRow x3.heap.size (u8l mb).toArray := ⟨_, rfl⟩
      have X4 : Hid (Own x4 (g3 + 1) (.slice (some ⟨go, 0, none⟩) L co) (expN ks info k).1 ∧ Below g3 w x4 ∧ Blk x4 g3 23 (u8l ks).toArray ∧ Blk x4 x3.heap.size 23 (u8l mb).toArray ∧ go ≠ x3.heap.size) := Lib.hid (qq (show Below x3.heap.size x3 x4 by rw [hx4]; exact below_setRow ((Below.refl _ _).alloc (Nat.le_refl _) _) (Nat.le_refl _) _) fun q => ⟨X3.out.1.below q, X3.out.2.1.trans (q.mono (by have := X3.out.2.2.lt; omega)), X3.out.2.2.below q, by rw [hx4]; exact setRow_heap _ _ _ _ _ _ (Blk.new x3 23 _), by have := X3.out.1.lt go rfl; omega⟩)
      refine wpL_value (.pointer (some ⟨x3.heap.size, 0, none⟩)) (x3.alloc (.cells (u8l (List.replicate 32 0)).toArray 23)) rfl (by kernel_rfl) ?_
      simp only [Act.put, List.setIfInBounds_toArray, List.set_cons_zero, List.set_cons_succ]
      refine wpList_store_rowTo rfl 23 _ _ rfl rfl x3.heap.size (u8l mb).toArray rfl rfl 23 _ (Blk.new x3 23 _) (by simp only [List.size_toArray, u8l_len, EN.out.2.2.1]; kernel_rfl) (by simp [u8l_len, EN.out.2.2.1]) (u8l_one _) ?_
      rw [← hx4]
      clear hx4 X3
      generalize x3.heap.size = g11 at X4 ⊢
      obtain ⟨v2, x5, r1, r2, r3, r4, r5⟩ := append_own x4 (g3 + 1) (.slice (some ⟨go, 0, none⟩) L co) (expN ks info k).1 mb (some ⟨g11, 0, none⟩) 32 32 X4.out.1 (sl_blk X4.out.2.2.2.1 EN.out.2.2.1 EN.out.2.2.2 (by omega)).1 (by have h1 := (X4.out.1).slice; obtain ⟨_, _, h1⟩ := h1; cases h1; have := HK.out; have := HM.out; have := RI.out.2.1; omega) (by have := X4.out.2.2.1.lt; omega)
      obtain ⟨ga, ca, ev⟩ := own_some r2 (fun e => by have := (r5.1 e).2; omega)
      have EL : Hid (((expN ks info k).1 ++ mb).length = L + 32) := Lib.hid (by obtain ⟨_, _, h1⟩ := (X4.out.1).slice; cases h1; rw [List.length_append, EN.out.2.2.1])
      rw [EL.out] at ev
      subst ev
      have AP := Lib.hid r1
      have NX : Hid ((L + 32) = 32 * (k + 1) ∧ (L + 32) < m + 32 ∧ Own x5 (g3 + 1) (.slice (some ⟨ga, 0, none⟩) (L + 32) ca) (expN ks info (k + 1)).1 ∧ Below g3 w x5 ∧ Sl x5 (some ⟨g11, 0, none⟩) 32 32 (expN ks info (k + 1)).2 ∧ 32 ≤ 32 ∧ Blk x5 g3 23 (u8l ks).toArray) := Lib.hid ⟨by have := RI.out.1; omega, by have := HK.out; omega, by rw [EN.out.1]; exact r2, X4.out.2.1.trans (gb_below r3 (by have := (X4.out.1).lt go rfl; show g3 ≤ go; omega) (by have := X4.out.2.2.1.lt; omega)), by rw [EN.out.2.1]; exact sl_blk (X4.out.2.2.2.1.grown r3 (by have := X4.out.2.2.2.2; show some g11 ≠ some go; simp; omega)) EN.out.2.2.1 EN.out.2.2.2 (by omega), by omega, X4.out.2.2.1.grown r3 (by have := (X4.out.1).lt go rfl; show some g3 ≠ some go; simp; omega)⟩
      clear r1 r2 r3 r4 r5
      go_upto_region 9 with (fail)
      refine wp_region_lit ?_
      refine wpL_pure (.slice (some ⟨go, 0, none⟩) L co) rfl (by kernel_rfl) ?_
      simp only [Act.put, List.setIfInBounds_toArray, List.set_cons_zero, List.set_cons_succ]
      refine wpL_pure (.slice (some ⟨g11, 0, none⟩) 32 32) rfl (by kernel_rfl) ?_
      simp only [Act.put, List.setIfInBounds_toArray, List.set_cons_zero, List.set_cons_succ]
      refine wpL_value (.slice (some ⟨ga, 0, none⟩) (L + 32) ca) (x5) rfl (run_app _ _ _ _ _ _ _ _ _ rfl rfl rfl rfl AP.out) ?_
      simp only [Act.put, List.setIfInBounds_toArray, List.set_cons_zero, List.set_cons_succ]
      refine wpL_pure (.slice (some ⟨ga, 0, none⟩) (L + 32) ca) rfl (by kernel_rfl) ?_
      simp only [Act.put, List.setIfInBounds_toArray, List.set_cons_zero, List.set_cons_succ]
      go_upto_region 10 with (fail)
      refine wp_region_lit ?_
      refine wpL_pure (.slice (some ⟨g11, 0, none⟩) 32 32) rfl (by kernel_rfl) ?_
      simp only [Act.put, List.setIfInBounds_toArray, List.set_cons_zero, List.set_cons_succ]
      refine wpL_pure (.slice (some ⟨g11, 0, none⟩) 32 32) rfl (by kernel_rfl) ?_
      simp only [Act.put, List.setIfInBounds_toArray, List.set_cons_zero, List.set_cons_succ]
      go_upto_region 7 with (fail)
      refine wp_region_lit ?_
      refine wpL_pure (.int .u8 (((k + 1) % 256 : Nat) : Int)) rfl (by kernel_rfl) ?_
      simp only [Act.put, List.setIfInBounds_toArray, List.set_cons_zero, List.set_cons_succ]
      refine wpL_pure (.int .u8 (((k + 1 + 1) % 256 : Nat) : Int)) rfl (run_addi Tryd.underlying5 rfl rfl rfl _ (by rw [IntKind.wrap_u8]; omega)) ?_
      simp only [Act.put, List.setIfInBounds_toArray, List.set_cons_zero, List.set_cons_succ]
      refine wpL_pure (.int .u8 (((k + 1 + 1) % 256 : Nat) : Int)) rfl (by kernel_rfl) ?_
      simp only [Act.put, List.setIfInBounds_toArray, List.set_cons_zero, List.set_cons_succ]
      unfold wpList
      go_roundw
      case rel => first | exact ⟨k + 1, _, _, _, _, _, _, rfl, rfl, rfl, NX⟩ | ((repeat apply Exists.intro); exact ⟨⟨k + 1, _, _, _, _, _, _, rfl, rfl, rfl, NX⟩, rfl⟩)
      case measure => simp [lenOf]; have := HK.out; omega
    · have HK := Lib.hid hlt
      clear hlt
      go_upto_region 6 with (fail)
      refine wp_region_lit ?_
      refine wpL_pure (.slice (some ⟨go, 0, none⟩) L co) rfl (by kernel_rfl) ?_
      simp only [Act.put, List.setIfInBounds_toArray, List.set_cons_zero, List.set_cons_succ]
      refine wpL_pure (.int .i64 (L : Int)) rfl (by kernel_rfl) ?_
      simp only [Act.put, List.setIfInBounds_toArray, List.set_cons_zero, List.set_cons_succ]
      refine wpL_pure (.int .i64 (m : Int)) rfl (by kernel_rfl) ?_
      simp only [Act.put, List.setIfInBounds_toArray, List.set_cons_zero, List.set_cons_succ]
      refine wpL_pure (.bool false) rfl (run_lti Tryd.underlying3 rfl rfl rfl (by have := HK.out; rw [decide_eq_false_iff_not]; omega)) ?_
      simp only [Act.put, List.setIfInBounds_toArray, List.set_cons_zero, List.set_cons_succ]
      obtain ⟨cur, hc1, hc2, hc3, hc4⟩ := own_cells RI.out.2.2.1
      have FI : Hid (w.heap.size ≤ go ∧ Blk wr go 5 cur ∧ m ≤ cur.size ∧ cur.toList.take m = u8l (expS ks info m) ∧ Below w.heap.size w wr) := Lib.hid (by rw [G3.out]; exact ⟨by omega, hc2, by have := HK.out; omega, exp_end hc4 RI.out.1 RI.out.2.1 (by have := HK.out; omega), RI.out.2.2.2.1⟩)
      have HC : Hid (m ≤ co) := Lib.hid (by have := HK.out; omega)
      have HC2 : Hid (co < 9223372036854775808) := Lib.hid (own_cap RI.out.2.2.1)
      clear hc1 hc2 hc3 hc4
      go_upto_region 11 with (fail)
      refine wp_region_lit ?_
      refine wpL_pure (.slice (some ⟨go, 0, none⟩) L co) rfl (by kernel_rfl) ?_
      simp only [Act.put, List.setIfInBounds_toArray, List.set_cons_zero, List.set_cons_succ]
      refine wpL_pure (.int .i64 (m : Int)) rfl (by kernel_rfl) ?_
      simp only [Act.put, List.setIfInBounds_toArray, List.set_cons_zero, List.set_cons_succ]
      refine wpL_pure (.int .i64 (m : Int)) rfl (by kernel_rfl) ?_
      simp only [Act.put, List.setIfInBounds_toArray, List.set_cons_zero, List.set_cons_succ]
      refine wpL_pure (.slice (some ⟨go, 0, none⟩) m m) rfl (run_sl3 _ _ _ _ _ _ _ _ _ _ rfl rfl rfl rfl HC.out HC2.out) ?_
      simp only [Act.put, List.setIfInBounds_toArray, List.set_cons_zero, List.set_cons_succ]
      refine wpL_pure (.slice (some ⟨go, 0, none⟩) m m) rfl (by kernel_rfl) ?_
      simp only [Act.put, List.setIfInBounds_toArray, List.set_cons_zero, List.set_cons_succ]
      refine wpL_pure (.int .i64 0) rfl (by kernel_rfl) ?_
      simp only [Act.put, List.setIfInBounds_toArray, List.set_cons_zero, List.set_cons_succ]
      go_wp2_with fail
      refine bodyPost_ret (v := .tuple #[.slice (some ⟨go, 0, none⟩) m m, .int .i64 0]) (by kernel_rfl) rfl ?_
      exact ⟨go, cur, rfl, FI.out⟩
end Go.Proofs.YtfhjfpgfbeiacaaDoor.Ha
