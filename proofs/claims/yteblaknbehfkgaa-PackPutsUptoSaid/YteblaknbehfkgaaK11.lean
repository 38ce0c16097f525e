import Derived.Test.YteblaknbehfkgaaK10
namespace Go.Proofs.Yteblaknbehfkgaa
open Go Go.RowKit Go.ChangeShapes Go.WideShapes Go.ChangeAt

theorem add_off (b off n : Nat) (sp : Option Nat) (h : sp = none) : (⟨b, off, sp⟩ : Addr).add n = ⟨b, off + n, none⟩ := by
  subst h
  unfold Addr.add
  split
  · rename_i h0; subst h0; rfl
  · rfl
theorem cell_spot {w : World} {b o : Nat} {sp : Option Nat} {v : Value} (h : w.cell? ⟨b, o, sp⟩ = some v) : sp = none := by
  cases sp with
  | none => rfl
  | some x =>
    unfold World.cell? at h
    split at h <;> simp at h
theorem cell_of_head {l : List Value} {k : Nat} {v : Value} (h : (l.drop k).take 1 = [v]) : l[k]? = some v := by
  have h1 : ((l.drop k).take 1)[0]? = some v := by rw [h]; rfl
  simpa using h1
/-- a part that lies at an address, and its bytes. -/
def PartAt (w : World) (g o : Nat) (q X : Nat) (a : Option Addr) (n c : Nat) (bs : List Int) : Prop :=
  w.cell? ⟨g, o, none⟩ = some (.int .u8 (q : Int)) ∧ w.cell? ⟨g, o + 1, none⟩ = some (.int .u64 (X : Int)) ∧ w.cell? ⟨g, o + 2, none⟩ = some (.slice a n c) ∧ q < 256 ∧ X < 18446744073709551616 ∧ Row w a n bs ∧ (a = none → c = 0)
/-- a slice of parts. -/
def Parts (w : World) (a : Option Addr) (len cap : Nat) : Prop :=
  len = 0 ∨ ∃ g o, a = some ⟨g, o, none⟩ ∧ len ≤ cap ∧ cap ≤ maxLen ∧ ∀ k, k < len → ∃ q X a' n c bs, PartAt w g (o + k * 3) q X a' n c bs
theorem PartAt.keep {w w' : World} {g o q X : Nat} {a : Option Addr} {n c : Nat} {bs : List Int} (h : PartAt w g o q X a n c bs) (hb : Below w.heap.size w w') : PartAt w' g o q X a n c bs := by
  obtain ⟨h1, h2, h3, h4, h5, h6, h7⟩ := h
  have hg : g < w.heap.size := by
    unfold World.cell? at h1
    cases e : w.heap[g]? with
    | none => rw [e] at h1; simp at h1
    | some _ => exact (Array.getElem?_eq_some_iff.1 e).1
  have ec : ∀ j, w'.cell? ⟨g, j, none⟩ = w.cell? ⟨g, j, none⟩ := fun j => by unfold World.cell?; rw [hb.block g hg]
  exact ⟨(ec _).trans h1, (ec _).trans h2, (ec _).trans h3, h4, h5, h6.keep hb, h7⟩
theorem open_parts {H : Type} {enc : TypeId × Value → H} {W : World} {held : Bool} {a : Option Addr} {len cap : Nat} {d : DataW H} {ps : List MemPlace}
    (hd : DataW.Trod enc Try.prog W 0 (fun _ => true) held 22 (.slice a len cap) d ps) : Parts W a len cap := by
  obtain ⟨fuel, hf⟩ := hd
  simp only [Value.cells] at hf
  rcases DataW.trod_slice Try.underlying22 hf with ⟨hcs, _⟩ | ⟨x, l, c, elems, rest, n, _, hcs, _, _, hl, hm, hlen, hel, _, _⟩
  · simp at hcs
    obtain ⟨rfl, rfl, rfl⟩ := hcs
    exact .inl rfl
  · simp at hcs
    obtain ⟨rfl, rfl, rfl⟩ := hcs
    have c35 : Try.prog.cellsOf 35 = 3 := by kernel_rfl
    have c5 : Try.prog.cellsOf 5 = 1 := by kernel_rfl
    have c33 : Try.prog.cellsOf 33 = 1 := by kernel_rfl
    have c25 : Try.prog.cellsOf 25 = 1 := by kernel_rfl
    have key : ∀ k, k < len → ∃ q X : Nat, ∃ a' n c bs, W.cell? ((x.add (k * 3)).add 0) = some (.int .u8 (q : Int)) ∧ W.cell? ((x.add (k * 3)).add 1) = some (.int .u64 (X : Int)) ∧ W.cell? ((x.add (k * 3)).add 2) = some (.slice a' n c) ∧ q < 256 ∧ X < 18446744073709551616 ∧ Row W a' n bs ∧ (a' = none → c = 0) := by
      intro k hk
      have h1 := hel k hk
      rw [List.getElem?_eq_getElem (by omega), c35] at h1
      obtain ⟨cs, hc, ht⟩ := Option.bind_eq_some_iff.1 h1
      obtain ⟨_, hcl, hat⟩ := World.cells?_some hc
      obtain ⟨xs, m, _, _, hlen2, hxs, hfl⟩ := DataW.trod_struct Try.underlying35 ht
      have e0 : DataW.trod enc Try.prog W 0 (fun _ => true) held m 5 ((cs.drop 0).take (Try.prog.cellsOf 5)) = xs[0]? := hfl 0 _ rfl
      have e1 : DataW.trod enc Try.prog W 0 (fun _ => true) held m 33 ((cs.drop 1).take (Try.prog.cellsOf 33)) = xs[1]? := hfl 1 _ rfl
      have e2 : DataW.trod enc Try.prog W 0 (fun _ => true) held m 25 ((cs.drop 2).take (Try.prog.cellsOf 25)) = xs[2]? := hfl 2 _ rfl
      simp only [c5, c33, c25] at e0 e1 e2
      rw [List.getElem?_eq_getElem (by rw [hxs]; decide)] at e0 e1 e2
      obtain ⟨q, h0, _, q0⟩ := DataW.trod_int Try.underlying5 e0
      obtain ⟨X, h1, _, q1⟩ := DataW.trod_int Try.underlying33 e1
      have g0 := bounds_u8 q0
      have g1 := bounds_u64 q1
      refine ⟨q.toNat, X.toNat, ?_⟩
      rw [Int.toNat_of_nonneg g0.1, Int.toNat_of_nonneg g1.1]
      rcases open_ints Try.underlying25 Try.underlying5 (by kernel_rfl) e2 with ⟨hcs, _⟩ | ⟨y, l, c, zs, hcs, _, hl', hm', hz, _, hcell, hwz⟩
      · exact ⟨none, 0, 0, [], (hat 0 (by omega)).trans (cell_of_head h0), (hat 1 (by omega)).trans (cell_of_head h1), (hat 2 (by omega)).trans (cell_of_head hcs), by omega, by omega, Row.nil _ _, fun _ => rfl⟩
      · exact ⟨some y, l, c, zs.take l, (hat 0 (by omega)).trans (cell_of_head h0), (hat 1 (by omega)).trans (cell_of_head h1), (hat 2 (by omega)).trans (cell_of_head hcs), by omega, by omega, row_of (.inr ⟨_, rfl, hl', hm', by simpa using hz, hcell, hwz⟩), by simp⟩
    obtain ⟨b, off, sp⟩ := x
    by_cases h0 : len = 0
    · exact .inl h0
    · have hsp : sp = none := by
        obtain ⟨_, _, _, _, _, _, h, _⟩ := key 0 (by omega)
        exact cell_spot h
      refine .inr ⟨b, off, by rw [hsp], hl, hm, fun k hk => ?_⟩
      have h := key k hk
      subst hsp
      simpa only [add_off, Nat.add_zero, PartAt] using h
theorem run_rem4 (a : Act) (o : Oper) (w : World) (x y : Operand) (q : Nat) (ho : o.op = .binOp .rem 5 x y 5) (hx : a.eval x = .int .u8 (q : Int)) (hy : a.eval y = .int .u8 4) (hq : q < 256) :
    (execOp a.eval o).run Try.prog w = .ok (.value (.int .u8 ((q % 4 : Nat) : Int))) w := by
  have u := run_underlying Try.underlying5 w
  unfold execOp
  simp only [ho, hx, hy]
  go_simp
  simp [Int.tmod_eq_emod_of_nonneg, IntKind.wrap, IntKind.bits, IntKind.signed]
  try omega
theorem i64_rng (n : Int) : -9223372036854775808 ≤ IntKind.i64.wrap n ∧ IntKind.i64.wrap n ≤ 9223372036854775807 := by
  simp [IntKind.wrap, IntKind.bits, IntKind.signed]; split <;> omega
theorem num_textO (bad : Bool) (m : Int) (xs : List Int) : numR (orBad bad (textO m xs)) = 0 := by
  unfold orBad textO
  split
  · rfl
  · split
    · split <;> rfl
    · rfl
theorem num_rawO (bad : Bool) (m : Int) (xs : List Int) : numR (orBad bad (rawO m xs)) = 0 := by
  unfold orBad rawO
  split
  · rfl
  · split <;> rfl
theorem num_flag (bad : Bool) (xs : List Int) : numR (orBad bad (flagO xs)) ≤ 1 ∧ txtR (orBad bad (flagO xs)) = [] := by
  unfold orBad flagO
  split
  · exact ⟨Nat.zero_le _, rfl⟩
  · split
    · rename_i h; exact ⟨h.2, rfl⟩
    · exact ⟨Nat.zero_le _, rfl⟩
set_option maxHeartbeats 1000000 in
theorem take_any (w : World) (b q X : Nat) (a : Option Addr) (n c : Nat) (xs : List Int) (bad : Bool) (h : InSt w b xs bad) (hbig : xs.length ≤ 140737488355328) (hq : q < 256) (hX : X < 18446744073709551616) :
    Calls Try.prog 14 #[.pointer (some ⟨b, 0, none⟩), .agg #[.int .u8 (q : Int), .int .u64 (X : Int), .slice a n c]] w fun e w' => ∃ v, e = .returned (.tuple #[.int .u64 (numR (orBad bad (gotO (q % 4) X xs)) : Int), v]) ∧ InP w b xs (orBad bad (gotO (q % 4) X xs)) v w' := by
  have QL := Lib.hid hq
  have XL := Lib.hid hX
  have BG := Lib.hid hbig
  obtain ⟨W0, hW0⟩ : ∃ V, V = w.alloc (.cells #[.int .u8 (q : Int), .int .u64 (X : Int), .slice a n c] 35) := ⟨_, rfl⟩
  have IB : Hid (InSt W0 b xs bad) := Lib.hid (by rw [hW0]; exact h.below ((Below.refl _ _).alloc (Nat.le_refl _) _))
  have HB : Hid (Blk W0 w.heap.size 35 #[.int .u8 (q : Int), .int .u64 (X : Int), .slice a n c]) := Lib.hid (by rw [hW0]; exact Blk.new _ _ _)
  have GB : Hid (w.grownBy W0 (some b) ∧ w.heap.size ≤ W0.heap.size) := Lib.hid (by rw [hW0]; exact ⟨gb_alloc (gb_refl _ _) _, by simp⟩)
  obtain ⟨g1, hg1⟩ : ∃ q, w.heap.size = q := ⟨_, rfl⟩
  rw [hg1] at HB
  clear h hbig hX hq
  have hq : q % 4 = 0 ∨ q % 4 = 1 ∨ q % 4 = 2 ∨ q % 4 = 3 := by omega
  unfold InP
  rcases hq with hq | hq | hq | hq
  · have HQ : Hid (q % 4 = 0) := Lib.hid hq
    clear hq
    have IN := Lib.hid (inum_got W0 b X xs bad (IB.out) XL.out)
    go_enter Try.func14, Try.ntmps14
    go_upto_region 1 with (fail)
    try rw [← hW0]
    try rw [hg1]
    clear hW0 hg1
    refine wp_region_lit ?_
    refine wpL_pure (.pointer (some ⟨g1, 0, none⟩)) rfl (by kernel_rfl) ?_
    simp only [Act.put, List.setIfInBounds_toArray, List.set_cons_zero, List.set_cons_succ]
    refine wpL_pure (.int .u8 (q : Int)) rfl (run_load_one _ _ _ 5 _ _ rfl g1 0 rfl (by rw [HB.out.cell]; rfl) (by kernel_rfl)) ?_
    simp only [Act.put, List.setIfInBounds_toArray, List.set_cons_zero, List.set_cons_succ]
    refine wpL_pure (.int .u8 ((q % 4 : Nat) : Int)) rfl (run_rem4 _ _ _ _ _ q rfl rfl rfl QL.out) ?_
    simp only [Act.put, List.setIfInBounds_toArray, List.set_cons_zero, List.set_cons_succ]
    go_upto_region 2 with (fail)
    refine wp_region_lit ?_
    refine wpL_pure (.bool true) rfl (run_eqi Try.underlying5 rfl rfl rfl (by have := HQ.out; rw [decide_eq_true_eq]; omega)) ?_
    simp only [Act.put, List.setIfInBounds_toArray, List.set_cons_zero, List.set_cons_succ]
    refine wpL_pure (.bool true) rfl (by kernel_rfl) ?_
    simp only [Act.put, List.setIfInBounds_toArray, List.set_cons_zero, List.set_cons_succ]
    go_upto_region 3 with (fail)
    refine wp_region_lit ?_
    refine wpL_pure (.pointer (some ⟨b, 0, none⟩)) rfl (by kernel_rfl) ?_
    simp only [Act.put, List.setIfInBounds_toArray, List.set_cons_zero, List.set_cons_succ]
    refine wpL_pure (.pointer (some ⟨g1, 1, none⟩)) rfl (by kernel_rfl) ?_
    simp only [Act.put, List.setIfInBounds_toArray, List.set_cons_zero, List.set_cons_succ]
    refine wpL_pure (.int .u64 (X : Int)) rfl (run_load_one _ _ _ 33 _ _ rfl g1 1 rfl (by rw [HB.out.cell]; rfl) (by kernel_rfl)) ?_
    simp only [Act.put, List.setIfInBounds_toArray, List.set_cons_zero, List.set_cons_succ]
    refine wpL_call 19 #[.pointer (some ⟨b, 0, none⟩), .int .u64 (X : Int)] rfl (by kernel_rfl) ((IN.out).mono fun e w1 ⟨he, q1, q2, q3⟩ => ⟨.int .u64 (numR (orBad bad (numT X xs)) : Int), he, ?_⟩)
    simp only [Act.put, List.setIfInBounds_toArray, List.set_cons_zero, List.set_cons_succ]
    refine wpL_pure (.int .u64 (numR (orBad bad (numT X xs)) : Int)) rfl (by kernel_rfl) ?_
    simp only [Act.put, List.setIfInBounds_toArray, List.set_cons_zero, List.set_cons_succ]
    refine wpL_pure (.slice none 0 0) rfl (by kernel_rfl) ?_
    simp only [Act.put, List.setIfInBounds_toArray, List.set_cons_zero, List.set_cons_succ]
    go_wp2_with fail
    go_ret2
    have e1 : gotO (q % 4) X xs = numT X xs := by unfold gotO; rw [if_pos HQ.out]
    rw [e1]
    exact ⟨_, rfl, by rw [q1]; exact Own.nil _ _, q2, gb_trans GB.out.1 q3⟩
  · have HQ : Hid (q % 4 = 1) := Lib.hid hq
    clear hq
    have IN := Lib.hid (itext_any W0 b (IntKind.i64.wrap (X : Int)) xs bad IB.out (i64_rng _))
    go_enter Try.func14, Try.ntmps14
    go_upto_region 1 with (fail)
    try rw [← hW0]
    try rw [hg1]
    clear hW0 hg1
    refine wp_region_lit ?_
    refine wpL_pure (.pointer (some ⟨g1, 0, none⟩)) rfl (by kernel_rfl) ?_
    simp only [Act.put, List.setIfInBounds_toArray, List.set_cons_zero, List.set_cons_succ]
    refine wpL_pure (.int .u8 (q : Int)) rfl (run_load_one _ _ _ 5 _ _ rfl g1 0 rfl (by rw [HB.out.cell]; rfl) (by kernel_rfl)) ?_
    simp only [Act.put, List.setIfInBounds_toArray, List.set_cons_zero, List.set_cons_succ]
    refine wpL_pure (.int .u8 ((q % 4 : Nat) : Int)) rfl (run_rem4 _ _ _ _ _ q rfl rfl rfl QL.out) ?_
    simp only [Act.put, List.setIfInBounds_toArray, List.set_cons_zero, List.set_cons_succ]
    go_upto_region 2 with (fail)
    refine wp_region_lit ?_
    refine wpL_pure (.bool false) rfl (run_eqi Try.underlying5 rfl rfl rfl (by have := HQ.out; rw [decide_eq_false_iff_not]; omega)) ?_
    simp only [Act.put, List.setIfInBounds_toArray, List.set_cons_zero, List.set_cons_succ]
    refine wpL_pure (.bool false) rfl (by kernel_rfl) ?_
    simp only [Act.put, List.setIfInBounds_toArray, List.set_cons_zero, List.set_cons_succ]
    go_upto_region 4 with (fail)
    refine wp_region_lit ?_
    refine wpL_pure (.bool true) rfl (run_eqi Try.underlying5 rfl rfl rfl (by have := HQ.out; rw [decide_eq_true_eq]; omega)) ?_
    simp only [Act.put, List.setIfInBounds_toArray, List.set_cons_zero, List.set_cons_succ]
    refine wpL_pure (.bool true) rfl (by kernel_rfl) ?_
    simp only [Act.put, List.setIfInBounds_toArray, List.set_cons_zero, List.set_cons_succ]
    go_upto_region 5 with (fail)
    refine wp_region_lit ?_
    refine wpL_pure (.pointer (some ⟨b, 0, none⟩)) rfl (by kernel_rfl) ?_
    simp only [Act.put, List.setIfInBounds_toArray, List.set_cons_zero, List.set_cons_succ]
    refine wpL_pure (.pointer (some ⟨g1, 1, none⟩)) rfl (by kernel_rfl) ?_
    simp only [Act.put, List.setIfInBounds_toArray, List.set_cons_zero, List.set_cons_succ]
    refine wpL_pure (.int .u64 (X : Int)) rfl (run_load_one _ _ _ 33 _ _ rfl g1 1 rfl (by rw [HB.out.cell]; rfl) (by kernel_rfl)) ?_
    simp only [Act.put, List.setIfInBounds_toArray, List.set_cons_zero, List.set_cons_succ]
    refine wpL_pure (.int .i64 (IntKind.i64.wrap (X : Int))) rfl (run_convi Try.underlying33 Try.underlying3 rfl rfl _ rfl) ?_
    simp only [Act.put, List.setIfInBounds_toArray, List.set_cons_zero, List.set_cons_succ]
    refine wpL_call 27 #[.pointer (some ⟨b, 0, none⟩), .int .i64 (IntKind.i64.wrap (X : Int))] rfl (by kernel_rfl) ((IN.out).mono fun e w1 ⟨v, he, q1, q2, q3⟩ => ⟨v, he, ?_⟩)
    simp only [Act.put, List.setIfInBounds_toArray, List.set_cons_zero, List.set_cons_succ]
    refine wpL_pure (.int .u64 0) rfl (by kernel_rfl) ?_
    simp only [Act.put, List.setIfInBounds_toArray, List.set_cons_zero, List.set_cons_succ]
    refine wpL_pure (v) rfl (by kernel_rfl) ?_
    simp only [Act.put, List.setIfInBounds_toArray, List.set_cons_zero, List.set_cons_succ]
    go_wp2_with fail
    go_ret2
    have e1 : gotO (q % 4) X xs = textO (IntKind.i64.wrap (X : Int)) xs := by unfold gotO; rw [if_neg (by have := HQ.out; omega), if_pos HQ.out]
    rw [e1]
    exact ⟨_, by rw [num_textO]; rfl, q1.mono GB.out.2, q2, gb_trans GB.out.1 q3⟩
  · have HQ : Hid (q % 4 = 2) := Lib.hid hq
    clear hq
    have IN := Lib.hid (iraw_got W0 b (IntKind.i64.wrap (X : Int)) xs bad IB.out BG.out)
    go_enter Try.func14, Try.ntmps14
    go_upto_region 1 with (fail)
    try rw [← hW0]
    try rw [hg1]
    clear hW0 hg1
    refine wp_region_lit ?_
    refine wpL_pure (.pointer (some ⟨g1, 0, none⟩)) rfl (by kernel_rfl) ?_
    simp only [Act.put, List.setIfInBounds_toArray, List.set_cons_zero, List.set_cons_succ]
    refine wpL_pure (.int .u8 (q : Int)) rfl (run_load_one _ _ _ 5 _ _ rfl g1 0 rfl (by rw [HB.out.cell]; rfl) (by kernel_rfl)) ?_
    simp only [Act.put, List.setIfInBounds_toArray, List.set_cons_zero, List.set_cons_succ]
    refine wpL_pure (.int .u8 ((q % 4 : Nat) : Int)) rfl (run_rem4 _ _ _ _ _ q rfl rfl rfl QL.out) ?_
    simp only [Act.put, List.setIfInBounds_toArray, List.set_cons_zero, List.set_cons_succ]
    go_upto_region 2 with (fail)
    refine wp_region_lit ?_
    refine wpL_pure (.bool false) rfl (run_eqi Try.underlying5 rfl rfl rfl (by have := HQ.out; rw [decide_eq_false_iff_not]; omega)) ?_
    simp only [Act.put, List.setIfInBounds_toArray, List.set_cons_zero, List.set_cons_succ]
    refine wpL_pure (.bool false) rfl (by kernel_rfl) ?_
    simp only [Act.put, List.setIfInBounds_toArray, List.set_cons_zero, List.set_cons_succ]
    go_upto_region 4 with (fail)
    refine wp_region_lit ?_
    refine wpL_pure (.bool false) rfl (run_eqi Try.underlying5 rfl rfl rfl (by have := HQ.out; rw [decide_eq_false_iff_not]; omega)) ?_
    simp only [Act.put, List.setIfInBounds_toArray, List.set_cons_zero, List.set_cons_succ]
    refine wpL_pure (.bool false) rfl (by kernel_rfl) ?_
    simp only [Act.put, List.setIfInBounds_toArray, List.set_cons_zero, List.set_cons_succ]
    go_upto_region 6 with (fail)
    refine wp_region_lit ?_
    refine wpL_pure (.bool true) rfl (run_eqi Try.underlying5 rfl rfl rfl (by have := HQ.out; rw [decide_eq_true_eq]; omega)) ?_
    simp only [Act.put, List.setIfInBounds_toArray, List.set_cons_zero, List.set_cons_succ]
    refine wpL_pure (.bool true) rfl (by kernel_rfl) ?_
    simp only [Act.put, List.setIfInBounds_toArray, List.set_cons_zero, List.set_cons_succ]
    go_upto_region 7 with (fail)
    refine wp_region_lit ?_
    refine wpL_pure (.pointer (some ⟨b, 0, none⟩)) rfl (by kernel_rfl) ?_
    simp only [Act.put, List.setIfInBounds_toArray, List.set_cons_zero, List.set_cons_succ]
    refine wpL_pure (.pointer (some ⟨g1, 1, none⟩)) rfl (by kernel_rfl) ?_
    simp only [Act.put, List.setIfInBounds_toArray, List.set_cons_zero, List.set_cons_succ]
    refine wpL_pure (.int .u64 (X : Int)) rfl (run_load_one _ _ _ 33 _ _ rfl g1 1 rfl (by rw [HB.out.cell]; rfl) (by kernel_rfl)) ?_
    simp only [Act.put, List.setIfInBounds_toArray, List.set_cons_zero, List.set_cons_succ]
    refine wpL_pure (.int .i64 (IntKind.i64.wrap (X : Int))) rfl (run_convi Try.underlying33 Try.underlying3 rfl rfl _ rfl) ?_
    simp only [Act.put, List.setIfInBounds_toArray, List.set_cons_zero, List.set_cons_succ]
    refine wpL_call 21 #[.pointer (some ⟨b, 0, none⟩), .int .i64 (IntKind.i64.wrap (X : Int))] rfl (by kernel_rfl) ((IN.out).mono fun e w1 ⟨v, he, q1, q2, q3⟩ => ⟨v, he, ?_⟩)
    simp only [Act.put, List.setIfInBounds_toArray, List.set_cons_zero, List.set_cons_succ]
    refine wpL_pure (.int .u64 0) rfl (by kernel_rfl) ?_
    simp only [Act.put, List.setIfInBounds_toArray, List.set_cons_zero, List.set_cons_succ]
    refine wpL_pure (v) rfl (by kernel_rfl) ?_
    simp only [Act.put, List.setIfInBounds_toArray, List.set_cons_zero, List.set_cons_succ]
    go_wp2_with fail
    go_ret2
    have e1 : gotO (q % 4) X xs = rawO (IntKind.i64.wrap (X : Int)) xs := by unfold gotO; rw [if_neg (by have := HQ.out; omega), if_neg (by have := HQ.out; omega), if_pos HQ.out]
    rw [e1]
    exact ⟨_, by rw [num_rawO]; rfl, q1.mono GB.out.2, q2, gb_trans GB.out.1 q3⟩
  · have HQ : Hid (q % 4 = 3) := Lib.hid hq
    clear hq
    have IN := Lib.hid (iflag_any W0 b xs bad IB.out)
    go_enter Try.func14, Try.ntmps14
    go_upto_region 1 with (fail)
    try rw [← hW0]
    try rw [hg1]
    clear hW0 hg1
    refine wp_region_lit ?_
    refine wpL_pure (.pointer (some ⟨g1, 0, none⟩)) rfl (by kernel_rfl) ?_
    simp only [Act.put, List.setIfInBounds_toArray, List.set_cons_zero, List.set_cons_succ]
    refine wpL_pure (.int .u8 (q : Int)) rfl (run_load_one _ _ _ 5 _ _ rfl g1 0 rfl (by rw [HB.out.cell]; rfl) (by kernel_rfl)) ?_
    simp only [Act.put, List.setIfInBounds_toArray, List.set_cons_zero, List.set_cons_succ]
    refine wpL_pure (.int .u8 ((q % 4 : Nat) : Int)) rfl (run_rem4 _ _ _ _ _ q rfl rfl rfl QL.out) ?_
    simp only [Act.put, List.setIfInBounds_toArray, List.set_cons_zero, List.set_cons_succ]
    go_upto_region 2 with (fail)
    refine wp_region_lit ?_
    refine wpL_pure (.bool false) rfl (run_eqi Try.underlying5 rfl rfl rfl (by have := HQ.out; rw [decide_eq_false_iff_not]; omega)) ?_
    simp only [Act.put, List.setIfInBounds_toArray, List.set_cons_zero, List.set_cons_succ]
    refine wpL_pure (.bool false) rfl (by kernel_rfl) ?_
    simp only [Act.put, List.setIfInBounds_toArray, List.set_cons_zero, List.set_cons_succ]
    go_upto_region 4 with (fail)
    refine wp_region_lit ?_
    refine wpL_pure (.bool false) rfl (run_eqi Try.underlying5 rfl rfl rfl (by have := HQ.out; rw [decide_eq_false_iff_not]; omega)) ?_
    simp only [Act.put, List.setIfInBounds_toArray, List.set_cons_zero, List.set_cons_succ]
    refine wpL_pure (.bool false) rfl (by kernel_rfl) ?_
    simp only [Act.put, List.setIfInBounds_toArray, List.set_cons_zero, List.set_cons_succ]
    go_upto_region 6 with (fail)
    refine wp_region_lit ?_
    refine wpL_pure (.bool false) rfl (run_eqi Try.underlying5 rfl rfl rfl (by have := HQ.out; rw [decide_eq_false_iff_not]; omega)) ?_
    simp only [Act.put, List.setIfInBounds_toArray, List.set_cons_zero, List.set_cons_succ]
    refine wpL_pure (.bool false) rfl (by kernel_rfl) ?_
    simp only [Act.put, List.setIfInBounds_toArray, List.set_cons_zero, List.set_cons_succ]
    go_upto_region 8 with (fail)
    refine wp_region_lit ?_
    refine wpL_pure (.pointer (some ⟨b, 0, none⟩)) rfl (by kernel_rfl) ?_
    simp only [Act.put, List.setIfInBounds_toArray, List.set_cons_zero, List.set_cons_succ]
    refine wpL_call 28 #[.pointer (some ⟨b, 0, none⟩)] rfl (by kernel_rfl) ((IN.out).mono fun e w1 ⟨he, q2, q3⟩ => ⟨.bool (decide (numR (orBad bad (flagO xs)) = 1)), he, ?_⟩)
    simp only [Act.put, List.setIfInBounds_toArray, List.set_cons_zero, List.set_cons_succ]
    have e1 : gotO (q % 4) X xs = flagO xs := by unfold gotO; rw [if_neg (by have := HQ.out; omega), if_neg (by have := HQ.out; omega), if_neg (by have := HQ.out; omega)]
    have E1 := Lib.hid e1
    have NF := Lib.hid (num_flag bad xs)
    have Q := Lib.hid (And.intro q2 q3)
    clear q2 q3 e1
    obtain ⟨fl, hfl⟩ : ∃ z, decide (numR (orBad bad (flagO xs)) = 1) = z := ⟨_, rfl⟩
    have FL := Lib.hid hfl
    rw [hfl]
    clear hfl
    cases fl
    · go_upto_region 10 with (fail)
      refine wp_region_lit ?_
      refine wpL_pure (.int .u64 0) rfl (by kernel_rfl) ?_
      simp only [Act.put, List.setIfInBounds_toArray, List.set_cons_zero, List.set_cons_succ]
      refine wpL_pure (.slice none 0 0) rfl (by kernel_rfl) ?_
      simp only [Act.put, List.setIfInBounds_toArray, List.set_cons_zero, List.set_cons_succ]
      go_wp2_with fail
      go_ret2
      have en : numR (orBad bad (flagO xs)) = 0 := by have h1 := FL.out; have h2 := NF.out.1; rw [decide_eq_false_iff_not] at h1; omega
      rw [E1.out]
      exact ⟨_, by rw [en]; rfl, by rw [NF.out.2]; exact Own.nil _ _, Q.out.1, gb_trans GB.out.1 Q.out.2⟩
    · go_upto_region 9 with (fail)
      refine wp_region_lit ?_
      refine wpL_pure (.int .u64 1) rfl (by kernel_rfl) ?_
      simp only [Act.put, List.setIfInBounds_toArray, List.set_cons_zero, List.set_cons_succ]
      refine wpL_pure (.slice none 0 0) rfl (by kernel_rfl) ?_
      simp only [Act.put, List.setIfInBounds_toArray, List.set_cons_zero, List.set_cons_succ]
      go_wp2_with fail
      go_ret2
      have en : numR (orBad bad (flagO xs)) = 1 := by have h1 := FL.out; have h2 := NF.out.1; rw [decide_eq_true_eq] at h1; omega
      rw [E1.out]
      exact ⟨_, by rw [en]; rfl, by rw [NF.out.2]; exact Own.nil _ _, Q.out.1, gb_trans GB.out.1 Q.out.2⟩
end Go.Proofs.Yteblaknbehfkgaa
