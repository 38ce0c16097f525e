/- Whether a sector would be taken for a state that is not. -/
import Derived.Test.YteabblmhcjpboaaC5
import Derived.Laws.StructEq
namespace Go.Proofs.Yteabblmhcjpboaa.D
open Go Go.RowKit
set_option maxRecDepth 100000
theorem f64 : (Try.prog.fieldsOf 64).toList = [{ name := "serial", type := 35, offset := 0, embedded := false, tag := "", pkgPath := "jalousie/cells", byteOffset := 0 },
    { name := "count", type := 35, offset := 1, embedded := false, tag := "", pkgPath := "jalousie/cells", byteOffset := 8 },
    { name := "note", type := 32, offset := 2, embedded := false, tag := "", pkgPath := "jalousie/cells", byteOffset := 16 }] := by kernel_rfl
theorem u64s : Try.prog.underlying 64 = some (.struct (Try.prog.fieldsOf 64)) := by kernel_rfl
theorem h64s : Try.prog.stoodInHeld 64 = false := by kernel_rfl
theorem pt0 (s c : Nat) (nt : List Int) (h : nt.length = 16) (w : World) : (part 35 (hdV s c nt).toArray 0).run Try.prog w = .ok (.int .u64 ((s : Nat) : Int)) w := by
  match nt, h with
  | [n0, n1, n2, n3, n4, n5, n6, n7, n8, n9, n10, n11, n12, n13, n14, n15], _ =>
    have q : (part 35 (hdV s c [n0, n1, n2, n3, n4, n5, n6, n7, n8, n9, n10, n11, n12, n13, n14, n15]).toArray 0).run Try.prog w = .ok (.int .u64 ((s : Nat) : Int)) w := by kernel_rfl
    exact q
theorem pt1 (s c : Nat) (nt : List Int) (h : nt.length = 16) (w : World) : (part 35 (hdV s c nt).toArray 1).run Try.prog w = .ok (.int .u64 ((c : Nat) : Int)) w := by
  match nt, h with
  | [n0, n1, n2, n3, n4, n5, n6, n7, n8, n9, n10, n11, n12, n13, n14, n15], _ =>
    have q : (part 35 (hdV s c [n0, n1, n2, n3, n4, n5, n6, n7, n8, n9, n10, n11, n12, n13, n14, n15]).toArray 1).run Try.prog w = .ok (.int .u64 ((c : Nat) : Int)) w := by kernel_rfl
    exact q
theorem pt2 (s c : Nat) (nt : List Int) (h : nt.length = 16) (w : World) : (part 32 (hdV s c nt).toArray 2).run Try.prog w = .ok (.agg (u8l nt).toArray) w := by
  match nt, h with
  | [n0, n1, n2, n3, n4, n5, n6, n7, n8, n9, n10, n11, n12, n13, n14, n15], _ =>
    have q : (part 32 (hdV s c [n0, n1, n2, n3, n4, n5, n6, n7, n8, n9, n10, n11, n12, n13, n14, n15]).toArray 2).run Try.prog w = .ok (.agg (u8l [n0, n1, n2, n3, n4, n5, n6, n7, n8, n9, n10, n11, n12, n13, n14, n15]).toArray) w := by kernel_rfl
    exact q
theorem e35 (d : Nat) (x y : Nat) (w : World) : (Op.equalIn (d + 1) 35 (.int .u64 ((x : Nat) : Int)) (.int .u64 ((y : Nat) : Int))).run Try.prog w = .ok (decide (x = y)) w := by
  rw [run_equalIn_int _ _ _ _ _ _ _ Try.underlying35]
  congr 1
  by_cases h : x = y
  · subst h; simp
  · rw [decide_eq_false h]; simpa using (by omega : ¬ (x : Int) = (y : Int))
theorem eqf3 {P : Program} (d : Nat) (xs ys : Array Value) (w : World) (f0 f1 f2 : Field) (n0 : f0.name ≠ "_") (n1 : f1.name ≠ "_") (n2 : f2.name ≠ "_") (a0 b0 a1 b1 a2 b2 : Value)
    (q0 : (part f0.type xs f0.offset).run P w = .ok a0 w) (q0' : (part f0.type ys f0.offset).run P w = .ok b0 w) (q1 : (part f1.type xs f1.offset).run P w = .ok a1 w) (q1' : (part f1.type ys f1.offset).run P w = .ok b1 w) (q2 : (part f2.type xs f2.offset).run P w = .ok a2 w) (q2' : (part f2.type ys f2.offset).run P w = .ok b2 w)
    (r0 r1 r2 : Bool) (e0 : (Op.equalIn d f0.type a0 b0).run P w = .ok r0 w) (e1 : (Op.equalIn d f1.type a1 b1).run P w = .ok r1 w) (e2 : (Op.equalIn d f2.type a2 b2).run P w = .ok r2 w) :
    (Op.eqFields d xs ys [f0, f1, f2]).run P w = .ok (r0 && r1 && r2) w := by
  simp only [Op.eqFields, if_pos n0, if_pos n1, if_pos n2, Sem.run_bind, q0, q0', q1, q1', q2, q2', e0, e1, e2, Result.andThen_ok, Sem.run_ite, Sem.run_pure]
  cases r0 <;> cases r1 <;> cases r2 <;> rfl
theorem eq64d (d : Nat) (s c s' c' : Nat) (nt nt' : List Int) (hn : nt.length = 16) (hn' : nt'.length = 16) (w : World) : (Op.equalIn (d + 3) 64 (.agg (hdV s c nt).toArray) (.agg (hdV s' c' nt').toArray)).run Try.prog w = .ok (decide (s = s') && decide (c = c') && decide (nt = nt')) w := by
  have q0 := pt0 s c nt hn w
  have q0' := pt0 s' c' nt' hn' w
  have q1 := pt1 s c nt hn w
  have q1' := pt1 s' c' nt' hn' w
  have q2 := pt2 s c nt hn w
  have q2' := pt2 s' c' nt' hn' w
  rw [show d + 3 = (d + 2) + 1 from rfl, run_equalIn_struct _ _ _ _ _ u64s h64s, f64]
  exact eqf3 (P := Try.prog) (d + 2) _ _ w _ _ _ (by decide) (by decide) (by decide) _ _ _ _ _ _ q0 q0' q1 q1' q2 q2' _ _ _ (e35 (d + 1) s s' w) (e35 (d + 1) c c' w) (eq32 nt nt' hn hn' d w)
theorem eq64 (s c s' c' : Nat) (nt nt' : List Int) (hn : nt.length = 16) (hn' : nt'.length = 16) (w : World) : (Op.equalIn 10000 64 (.agg (hdV s c nt).toArray) (.agg (hdV s' c' nt').toArray)).run Try.prog w = .ok (decide (s = s') && decide (c = c') && decide (nt = nt')) w := eq64d 9997 s c s' c' nt nt' hn hn' w
theorem run_ne64 (a : Act) (o : Oper) (w : World) (x y : Operand) (s c s' c' : Nat) (nt nt' : List Int) (hn : nt.length = 16) (hn' : nt'.length = 16) (ho : o.op = .binOp .neq 64 x y 64) (hx : a.eval x = .agg (hdV s c nt).toArray) (hy : a.eval y = .agg (hdV s' c' nt').toArray) :
    (execOp a.eval o).run Try.prog w = .ok (.value (.bool (!(decide (s = s') && decide (c = c') && decide (nt = nt'))))) w := by
  have gg : (Try.prog.eqGuardType Try.prog.depth 64) = false := by kernel_rfl
  unfold execOp
  simp only [ho, hx, hy, Sem.run_bind, run_eqGuard_agg _ _ _ _ _ _ _ gg, Result.andThen_ok, run_neq_struct, eq64 s c s' c' nt nt' hn hn', Sem.run_pure]
def liesB (rm s : Nat) (xs : List Int) (s1 c1 : Nat) (nt1 : List Int) : Bool :=
  whole xs && (fitB rm (srl xs) (cntL xs) (s1 % 2) && (decide (s < srl xs) && !(decide (srl xs = s1) && decide (cntL xs = c1) && decide (nteL xs = nt1))))
attribute [local irreducible] wpList
set_option maxHeartbeats 4000000
theorem lies_any {w : World} {lb b fr rm : Nat} {s c : Nat} {nt : List Int} {v : Value} {ov : Bool} (h : LS w lb b fr rm s c nt v ov) (g o cx : Nat) (xs : List Int) (hr : Row w (some ⟨g, o, none⟩) 64 xs) (hcx : 64 ≤ cx ∧ cx < 9223372036854775808) (s1 c1 : Nat) (nt1 : List Int) (hn : NtOk nt1) (hs : U64 s1) : Calls Try.prog 55 #[.pointer (some ⟨lb, 0, none⟩), .slice (some ⟨g, o, none⟩) 64 cx, .agg (hdV s1 c1 nt1).toArray] w fun e w' => e = .returned (.bool (liesB rm s xs s1 c1 nt1)) ∧ Below w.heap.size w w' := by
  have H := Lib.hid h
  have HR := Lib.hid hr
  have CX := Lib.hid hcx
  have NN := Lib.hid (And.intro hn (nte_ok (xs := xs) ⟨hr.1, hr.2.2.1⟩))
  have NX16 : Hid ((nteL xs).length = 16) := Lib.hid NN.out.2.1
  have U := Lib.hid (And.intro hs (And.intro (srl_lt hr.2.2.1) (cnt_lt hr.2.2.1)))
  clear h hr hcx hn hs
  go_enter Try.func55, Try.ntmps55
  go_upto_region 0 with (fail)
  refine wp_region_lit ?_
  obtain ⟨W1, hW1⟩ : ∃ V, V = w.alloc (.cells (hdV s1 c1 nt1).toArray 64) := ⟨_, rfl⟩
  refine wpL_value (.pointer (some ⟨w.heap.size, 0, none⟩)) W1 rfl (by rw [hW1]; kernel_rfl) ?_
  simp only [Act.put, List.setIfInBounds_toArray, List.set_cons_zero, List.set_cons_succ]
  obtain ⟨g5, hg5⟩ : ∃ q, w.heap.size = q := ⟨_, rfl⟩
  have F1 : Hid (Below w.heap.size w W1 ∧ Blk W1 g5 64 (hdV s1 c1 nt1).toArray ∧ LS W1 lb b fr rm s c nt v ov ∧ Row W1 (some ⟨g, o, none⟩) 64 xs) := Lib.hid (by rw [hW1, ← hg5]; exact ⟨(Below.refl _ _).alloc (Nat.le_refl _) _, Blk.new _ _ _, H.out.below ((Below.refl _ _).alloc (Nat.le_refl _) _), HR.out.keep ((Below.refl _ _).alloc (Nat.le_refl _) _)⟩)
  rw [hg5]
  clear hW1 hg5
  refine wpL_pure (.bool false) rfl (by kernel_rfl) ?_
  simp only [Act.put, List.setIfInBounds_toArray, List.set_cons_zero, List.set_cons_succ]
  obtain ⟨wb, hwb⟩ : ∃ q, whole xs = q := ⟨_, rfl⟩
  have HW := Lib.hid hwb
  clear hwb
  cases wb
  · go_upto_region 1 with (fail)
    refine wp_region_lit ?_
    refine wpL_pure (.slice (some ⟨g, o, none⟩) 64 cx) rfl (by kernel_rfl) ?_
    simp only [Act.put, List.setIfInBounds_toArray, List.set_cons_zero, List.set_cons_succ]
    refine wpL_call 31 #[.slice (some ⟨g, o, none⟩) 64 cx] rfl (by kernel_rfl) ((parse_any _ g o cx xs F1.out.2.2.2 CX.out).mono fun e W2 ⟨he, bb⟩ => ⟨.tuple #[.agg (hdV 0 0 (List.replicate 16 0)).toArray, .bool false], he.trans (by rw [HW.out]; rfl), ?_⟩)
    simp only [Act.put, List.setIfInBounds_toArray, List.set_cons_zero, List.set_cons_succ]
    have F2 : Hid (Below w.heap.size w W2 ∧ Blk W2 g5 64 (hdV s1 c1 nt1).toArray ∧ LS W2 lb b fr rm s c nt v ov) := Lib.hid ⟨F1.out.1.trans (bb.mono F1.out.1.size), F1.out.2.1.below bb, F1.out.2.2.1.below bb⟩
    clear bb
    refine wpL_pure (.tuple #[.agg (hdV 0 0 (List.replicate 16 0)).toArray, .bool false]) rfl (by kernel_rfl) ?_
    simp only [Act.put, List.setIfInBounds_toArray, List.set_cons_zero, List.set_cons_succ]
    refine wpL_pure (.agg (hdV 0 0 (List.replicate 16 0)).toArray) rfl (by kernel_rfl) ?_
    simp only [Act.put, List.setIfInBounds_toArray, List.set_cons_zero, List.set_cons_succ]
    refine wpL_pure (.bool false) rfl (by kernel_rfl) ?_
    simp only [Act.put, List.setIfInBounds_toArray, List.set_cons_zero, List.set_cons_succ]
    obtain ⟨W3, hW3⟩ : ∃ V, V = W2.alloc (.cells (hdV 0 0 (List.replicate 16 0)).toArray 64) := ⟨_, rfl⟩
    refine wpL_value (.pointer (some ⟨W2.heap.size, 0, none⟩)) W3 rfl (by rw [hW3]; kernel_rfl) ?_
    simp only [Act.put, List.setIfInBounds_toArray, List.set_cons_zero, List.set_cons_succ]
    obtain ⟨g7, hg7⟩ : ∃ q, W2.heap.size = q := ⟨_, rfl⟩
    have F3 : Hid (Below w.heap.size w W3 ∧ Blk W3 g5 64 (hdV s1 c1 nt1).toArray ∧ LS W3 lb b fr rm s c nt v ov ∧ Blk W3 g7 64 (hdV 0 0 (List.replicate 16 0)).toArray ∧ w.heap.size ≤ g7 ∧ g5 ≠ g7 ∧ lb ≠ g7) := Lib.hid (by rw [hW3, ← hg7]; exact ⟨F2.out.1.alloc F2.out.1.size _, F2.out.2.1.alloc _, F2.out.2.2.below ((Below.refl _ _).alloc (Nat.le_refl _) _), Blk.new _ _ _, F2.out.1.size, Nat.ne_of_lt F2.out.2.1.lt, Nat.ne_of_lt F2.out.2.2.1.lt⟩)
    rw [hg7]
    clear hW3 hg7 F2
    refine wpList_store_row rfl 64 _ _ rfl g7 (hdV 0 0 (List.replicate 16 0)).toArray rfl rfl 64 _ (F3.out.2.2.2.1) (by simp only [List.size_toArray, hdV, List.length_cons, List.length_map, List.length_replicate, NX16.out] <;> kernel_rfl) (by simp only [List.size_toArray, hdV, List.length_cons, List.length_map, List.length_replicate, NX16.out] <;> rfl) (hd_one _ _ _) ?_
    simp only [Act.put, List.setIfInBounds_toArray, List.set_cons_zero, List.set_cons_succ]
    obtain ⟨W4, hW4⟩ : ∃ V, V = W3.setRow g7 (hdV 0 0 (List.replicate 16 0)).toArray := ⟨_, rfl⟩
    rw [← hW4]
    have F4 : Hid (Below w.heap.size w W4 ∧ Blk W4 g5 64 (hdV s1 c1 nt1).toArray ∧ LS W4 lb b fr rm s c nt v ov ∧ Blk W4 g7 64 (hdV 0 0 (List.replicate 16 0)).toArray) := Lib.hid (by rw [hW4]; exact ⟨below_setRow F3.out.1 F3.out.2.2.2.2.1 _, (setRow_other _ _ _ _ F3.out.2.2.2.2.2.1).trans F3.out.2.1, ⟨(setRow_other _ _ _ _ F3.out.2.2.2.2.2.2).trans F3.out.2.2.1.1, F3.out.2.2.1.2⟩, setRow_heap _ _ _ _ _ _ F3.out.2.2.2.1⟩)
    clear hW4 F3
    refine wpL_pure (.bool false) rfl (by kernel_rfl) ?_
    simp only [Act.put, List.setIfInBounds_toArray, List.set_cons_zero, List.set_cons_succ]
    go_upto_region 2 with (fail)
    refine region_anyT (fun X => Below w.heap.size w X) (by kernel_rfl) 24 24 rfl ?_
    refine wpAnyT_take (i := 0) (oi := ⟨some 14, _, _, _, _, _⟩) (v := .bool false) rfl (by kernel_rfl) (by kernel_rfl) (by kernel_rfl) (fun _ _ _ h => h) (by kernel_rfl) (Or.inl ⟨rfl, fun w h => by kernel_rfl⟩) (F4.out.1.drew) ?_
    simp only [Act.put, List.setIfInBounds_toArray, List.set_cons_zero, List.set_cons_succ]
    refine wpAnyT_take (i := 1) (oi := ⟨some 15, _, _, _, _, _⟩) (v := .bool false) rfl (by kernel_rfl) (by kernel_rfl) (by kernel_rfl) (fun _ _ _ h => h) (by kernel_rfl) (Or.inl ⟨rfl, fun w h => by kernel_rfl⟩) (F4.out.1.drew) ?_
    simp only [Act.put, List.setIfInBounds_toArray, List.set_cons_zero, List.set_cons_succ]
    refine wpAnyT_take (i := 2) (oi := ⟨some 16, _, _, _, _, _⟩) (v := undef) rfl (by kernel_rfl) (by kernel_rfl) (by kernel_rfl) (fun _ _ _ h => h) (by kernel_rfl) (Or.inr ⟨rfl, rfl⟩) (F4.out.1.drew) ?_
    simp only [Act.put, List.setIfInBounds_toArray, List.set_cons_zero, List.set_cons_succ]
    refine wpAnyT_take (i := 3) (oi := ⟨some 17, _, _, _, _, _⟩) (v := undef) rfl (by kernel_rfl) (by kernel_rfl) (by kernel_rfl) (fun _ _ _ h => h) (by kernel_rfl) (Or.inr ⟨rfl, rfl⟩) (F4.out.1.drew) ?_
    simp only [Act.put, List.setIfInBounds_toArray, List.set_cons_zero, List.set_cons_succ]
    refine wpAnyT_take (i := 4) (oi := ⟨some 18, _, _, _, _, _⟩) (v := undef) rfl (by kernel_rfl) (by kernel_rfl) (by kernel_rfl) (fun _ _ _ h => h) (by kernel_rfl) (Or.inr ⟨rfl, rfl⟩) (F4.out.1.drew) ?_
    simp only [Act.put, List.setIfInBounds_toArray, List.set_cons_zero, List.set_cons_succ]
    refine wpAnyT_take (i := 5) (oi := ⟨some 19, _, _, _, _, _⟩) (v := undef) rfl (by kernel_rfl) (by kernel_rfl) (by kernel_rfl) (fun _ _ _ h => h) (by kernel_rfl) (Or.inr ⟨rfl, rfl⟩) (F4.out.1.drew) ?_
    simp only [Act.put, List.setIfInBounds_toArray, List.set_cons_zero, List.set_cons_succ]
    refine wpAnyT_take (i := 6) (oi := ⟨some 20, _, _, _, _, _⟩) (v := undef) rfl (by kernel_rfl) (by kernel_rfl) (by kernel_rfl) (fun _ _ _ h => h) (by kernel_rfl) (Or.inr ⟨rfl, rfl⟩) (F4.out.1.drew) ?_
    simp only [Act.put, List.setIfInBounds_toArray, List.set_cons_zero, List.set_cons_succ]
    refine wpAnyT_take (i := 7) (oi := ⟨some 21, _, _, _, _, _⟩) (v := .bool false) rfl (by kernel_rfl) (by kernel_rfl) (by kernel_rfl) (fun _ _ _ h => h) (by kernel_rfl) (Or.inl ⟨rfl, fun w h => by kernel_rfl⟩) (F4.out.1.drew) ?_
    simp only [Act.put, List.setIfInBounds_toArray, List.set_cons_zero, List.set_cons_succ]
    refine wpAnyT_take (i := 8) (oi := ⟨some 22, _, _, _, _, _⟩) (v := .bool false) rfl (by kernel_rfl) (by kernel_rfl) (by kernel_rfl) (fun _ _ _ h => h) (by kernel_rfl) (Or.inl ⟨rfl, fun w h => by kernel_rfl⟩) (F4.out.1.drew) ?_
    simp only [Act.put, List.setIfInBounds_toArray, List.set_cons_zero, List.set_cons_succ]
    refine wpAnyT_take (i := 9) (oi := ⟨some 23, _, _, _, _, _⟩) (v := undef) rfl (by kernel_rfl) (by kernel_rfl) (by kernel_rfl) (fun _ _ _ h => h) (by kernel_rfl) (Or.inr ⟨rfl, rfl⟩) (F4.out.1.drew) ?_
    simp only [Act.put, List.setIfInBounds_toArray, List.set_cons_zero, List.set_cons_succ]
    refine wpAnyT_take (i := 10) (oi := ⟨some 24, _, _, _, _, _⟩) (v := undef) rfl (by kernel_rfl) (by kernel_rfl) (by kernel_rfl) (fun _ _ _ h => h) (by kernel_rfl) (Or.inr ⟨rfl, rfl⟩) (F4.out.1.drew) ?_
    simp only [Act.put, List.setIfInBounds_toArray, List.set_cons_zero, List.set_cons_succ]
    refine wpAnyT_take (i := 11) (oi := ⟨some 25, _, _, _, _, _⟩) (v := undef) rfl (by kernel_rfl) (by kernel_rfl) (by kernel_rfl) (fun _ _ _ h => h) (by kernel_rfl) (Or.inr ⟨rfl, rfl⟩) (F4.out.1.drew) ?_
    simp only [Act.put, List.setIfInBounds_toArray, List.set_cons_zero, List.set_cons_succ]
    refine wpAnyT_take (i := 12) (oi := ⟨some 26, _, _, _, _, _⟩) (v := undef) rfl (by kernel_rfl) (by kernel_rfl) (by kernel_rfl) (fun _ _ _ h => h) (by kernel_rfl) (Or.inr ⟨rfl, rfl⟩) (F4.out.1.drew) ?_
    simp only [Act.put, List.setIfInBounds_toArray, List.set_cons_zero, List.set_cons_succ]
    refine wpAnyT_take (i := 13) (oi := ⟨some 27, _, _, _, _, _⟩) (v := undef) rfl (by kernel_rfl) (by kernel_rfl) (by kernel_rfl) (fun _ _ _ h => h) (by kernel_rfl) (Or.inr ⟨rfl, rfl⟩) (F4.out.1.drew) ?_
    simp only [Act.put, List.setIfInBounds_toArray, List.set_cons_zero, List.set_cons_succ]
    refine wpAnyT_take (i := 14) (oi := ⟨some 28, _, _, _, _, _⟩) (v := undef) rfl (by kernel_rfl) (by kernel_rfl) (by kernel_rfl) (fun _ _ _ h => h) (by kernel_rfl) (Or.inr ⟨rfl, rfl⟩) (F4.out.1.drew) ?_
    simp only [Act.put, List.setIfInBounds_toArray, List.set_cons_zero, List.set_cons_succ]
    refine wpAnyT_take (i := 15) (oi := ⟨some 29, _, _, _, _, _⟩) (v := undef) rfl (by kernel_rfl) (by kernel_rfl) (by kernel_rfl) (fun _ _ _ h => h) (by kernel_rfl) (Or.inr ⟨rfl, rfl⟩) (F4.out.1.drew) ?_
    simp only [Act.put, List.setIfInBounds_toArray, List.set_cons_zero, List.set_cons_succ]
    refine wpAnyT_take (i := 16) (oi := ⟨some 30, _, _, _, _, _⟩) (v := undef) rfl (by kernel_rfl) (by kernel_rfl) (by kernel_rfl) (fun _ _ _ h => h) (by kernel_rfl) (Or.inr ⟨rfl, rfl⟩) (F4.out.1.drew) ?_
    simp only [Act.put, List.setIfInBounds_toArray, List.set_cons_zero, List.set_cons_succ]
    refine wpAnyT_take (i := 17) (oi := ⟨some 31, _, _, _, _, _⟩) (v := .bool false) rfl (by kernel_rfl) (by kernel_rfl) (by kernel_rfl) (fun _ _ _ h => h) (by kernel_rfl) (Or.inl ⟨rfl, fun w h => by kernel_rfl⟩) (F4.out.1.drew) ?_
    simp only [Act.put, List.setIfInBounds_toArray, List.set_cons_zero, List.set_cons_succ]
    refine wpAnyT_take (i := 18) (oi := ⟨some 32, _, _, _, _, _⟩) (v := .bool false) rfl (by kernel_rfl) (by kernel_rfl) (by kernel_rfl) (fun _ _ _ h => h) (by kernel_rfl) (Or.inl ⟨rfl, fun w h => by kernel_rfl⟩) (F4.out.1.drew) ?_
    simp only [Act.put, List.setIfInBounds_toArray, List.set_cons_zero, List.set_cons_succ]
    refine wpAnyT_take (i := 19) (oi := ⟨some 33, _, _, _, _, _⟩) (v := undef) rfl (by kernel_rfl) (by kernel_rfl) (by kernel_rfl) (fun _ _ _ h => h) (by kernel_rfl) (Or.inr ⟨rfl, rfl⟩) (F4.out.1.drew) ?_
    simp only [Act.put, List.setIfInBounds_toArray, List.set_cons_zero, List.set_cons_succ]
    refine wpAnyT_take (i := 20) (oi := ⟨some 34, _, _, _, _, _⟩) (v := undef) rfl (by kernel_rfl) (by kernel_rfl) (by kernel_rfl) (fun _ _ _ h => h) (by kernel_rfl) (Or.inr ⟨rfl, rfl⟩) (F4.out.1.drew) ?_
    simp only [Act.put, List.setIfInBounds_toArray, List.set_cons_zero, List.set_cons_succ]
    refine wpAnyT_take (i := 21) (oi := ⟨some 35, _, _, _, _, _⟩) (v := undef) rfl (by kernel_rfl) (by kernel_rfl) (by kernel_rfl) (fun _ _ _ h => h) (by kernel_rfl) (Or.inr ⟨rfl, rfl⟩) (F4.out.1.drew) ?_
    simp only [Act.put, List.setIfInBounds_toArray, List.set_cons_zero, List.set_cons_succ]
    refine wpAnyT_take (i := 22) (oi := ⟨some 36, _, _, _, _, _⟩) (v := .bool false) rfl (by kernel_rfl) (by kernel_rfl) (by kernel_rfl) (fun _ _ _ h => h) (by kernel_rfl) (Or.inl ⟨rfl, fun w h => by kernel_rfl⟩) (F4.out.1.drew) ?_
    simp only [Act.put, List.setIfInBounds_toArray, List.set_cons_zero, List.set_cons_succ]
    refine wpAnyT_take (i := 23) (oi := ⟨some 6, _, _, _, _, _⟩) (v := .bool false) rfl (by kernel_rfl) (by kernel_rfl) (by kernel_rfl) (fun _ _ _ h => h) (by kernel_rfl) (Or.inl ⟨rfl, fun w h => by kernel_rfl⟩) (F4.out.1.drew) ?_
    simp only [Act.put, List.setIfInBounds_toArray, List.set_cons_zero, List.set_cons_succ]
    refine wpAnyT_done (by kernel_rfl) ?_ _
    go_wp2_with fail
    go_ret
    exact ⟨by rw [liesB, HW.out, Bool.false_and]; rfl, F4.out.1.drew⟩
  · go_upto_region 1 with (fail)
    refine wp_region_lit ?_
    refine wpL_pure (.slice (some ⟨g, o, none⟩) 64 cx) rfl (by kernel_rfl) ?_
    simp only [Act.put, List.setIfInBounds_toArray, List.set_cons_zero, List.set_cons_succ]
    refine wpL_call 31 #[.slice (some ⟨g, o, none⟩) 64 cx] rfl (by kernel_rfl) ((parse_any _ g o cx xs F1.out.2.2.2 CX.out).mono fun e W2 ⟨he, bb⟩ => ⟨.tuple #[.agg (hdV (srl xs) (cntL xs) (nteL xs)).toArray, .bool true], he.trans (by rw [HW.out]; rfl), ?_⟩)
    simp only [Act.put, List.setIfInBounds_toArray, List.set_cons_zero, List.set_cons_succ]
    have F2 : Hid (Below w.heap.size w W2 ∧ Blk W2 g5 64 (hdV s1 c1 nt1).toArray ∧ LS W2 lb b fr rm s c nt v ov) := Lib.hid ⟨F1.out.1.trans (bb.mono F1.out.1.size), F1.out.2.1.below bb, F1.out.2.2.1.below bb⟩
    clear bb
    refine wpL_pure (.tuple #[.agg (hdV (srl xs) (cntL xs) (nteL xs)).toArray, .bool true]) rfl (by kernel_rfl) ?_
    simp only [Act.put, List.setIfInBounds_toArray, List.set_cons_zero, List.set_cons_succ]
    refine wpL_pure (.agg (hdV (srl xs) (cntL xs) (nteL xs)).toArray) rfl (by kernel_rfl) ?_
    simp only [Act.put, List.setIfInBounds_toArray, List.set_cons_zero, List.set_cons_succ]
    refine wpL_pure (.bool true) rfl (by kernel_rfl) ?_
    simp only [Act.put, List.setIfInBounds_toArray, List.set_cons_zero, List.set_cons_succ]
    obtain ⟨W3, hW3⟩ : ∃ V, V = W2.alloc (.cells (hdV 0 0 (List.replicate 16 0)).toArray 64) := ⟨_, rfl⟩
    refine wpL_value (.pointer (some ⟨W2.heap.size, 0, none⟩)) W3 rfl (by rw [hW3]; kernel_rfl) ?_
    simp only [Act.put, List.setIfInBounds_toArray, List.set_cons_zero, List.set_cons_succ]
    obtain ⟨g7, hg7⟩ : ∃ q, W2.heap.size = q := ⟨_, rfl⟩
    have F3 : Hid (Below w.heap.size w W3 ∧ Blk W3 g5 64 (hdV s1 c1 nt1).toArray ∧ LS W3 lb b fr rm s c nt v ov ∧ Blk W3 g7 64 (hdV 0 0 (List.replicate 16 0)).toArray ∧ w.heap.size ≤ g7 ∧ g5 ≠ g7 ∧ lb ≠ g7) := Lib.hid (by rw [hW3, ← hg7]; exact ⟨F2.out.1.alloc F2.out.1.size _, F2.out.2.1.alloc _, F2.out.2.2.below ((Below.refl _ _).alloc (Nat.le_refl _) _), Blk.new _ _ _, F2.out.1.size, Nat.ne_of_lt F2.out.2.1.lt, Nat.ne_of_lt F2.out.2.2.1.lt⟩)
    rw [hg7]
    clear hW3 hg7 F2
    refine wpList_store_row rfl 64 _ _ rfl g7 (hdV (srl xs) (cntL xs) (nteL xs)).toArray rfl rfl 64 _ (F3.out.2.2.2.1) (by simp only [List.size_toArray, hdV, List.length_cons, List.length_map, List.length_replicate, NX16.out] <;> kernel_rfl) (by simp only [List.size_toArray, hdV, List.length_cons, List.length_map, List.length_replicate, NX16.out] <;> rfl) (hd_one _ _ _) ?_
    simp only [Act.put, List.setIfInBounds_toArray, List.set_cons_zero, List.set_cons_succ]
    obtain ⟨W4, hW4⟩ : ∃ V, V = W3.setRow g7 (hdV (srl xs) (cntL xs) (nteL xs)).toArray := ⟨_, rfl⟩
    rw [← hW4]
    have F4 : Hid (Below w.heap.size w W4 ∧ Blk W4 g5 64 (hdV s1 c1 nt1).toArray ∧ LS W4 lb b fr rm s c nt v ov ∧ Blk W4 g7 64 (hdV (srl xs) (cntL xs) (nteL xs)).toArray) := Lib.hid (by rw [hW4]; exact ⟨below_setRow F3.out.1 F3.out.2.2.2.2.1 _, (setRow_other _ _ _ _ F3.out.2.2.2.2.2.1).trans F3.out.2.1, ⟨(setRow_other _ _ _ _ F3.out.2.2.2.2.2.2).trans F3.out.2.2.1.1, F3.out.2.2.1.2⟩, setRow_heap _ _ _ _ _ _ F3.out.2.2.2.1⟩)
    clear hW4 F3
    refine wpL_pure (.bool true) rfl (by kernel_rfl) ?_
    simp only [Act.put, List.setIfInBounds_toArray, List.set_cons_zero, List.set_cons_succ]
    obtain ⟨fb, hfb⟩ : ∃ q, fitB rm (srl xs) (cntL xs) (s1 % 2) = q := ⟨_, rfl⟩
    have HF := Lib.hid hfb
    clear hfb
    cases fb
    · go_upto_region 2 with (fail)
      refine region_anyT (fun X => Below w.heap.size w X ∧ Blk X g5 64 (hdV s1 c1 nt1).toArray ∧ LS X lb b fr rm s c nt v ov ∧ Blk X g7 64 (hdV (srl xs) (cntL xs) (nteL xs)).toArray) (by kernel_rfl) 24 24 rfl ?_
      refine wpAnyT_take (i := 0) (oi := ⟨some 14, _, _, _, _, _⟩) (v := .bool true) rfl (by kernel_rfl) (by kernel_rfl) (by kernel_rfl) (fun _ _ _ h => h) (by kernel_rfl) (Or.inl ⟨rfl, fun w h => by kernel_rfl⟩) (⟨F4.out.1.drew, F4.out.2.1, F4.out.2.2.1, F4.out.2.2.2⟩) ?_
      simp only [Act.put, List.setIfInBounds_toArray, List.set_cons_zero, List.set_cons_succ]
      refine wpAnyT_take (i := 1) (oi := ⟨some 15, _, _, _, _, _⟩) (v := .bool true) rfl (by kernel_rfl) (by kernel_rfl) (by kernel_rfl) (fun _ _ _ h => h) (by kernel_rfl) (Or.inl ⟨rfl, fun w h => by kernel_rfl⟩) (⟨F4.out.1.drew, F4.out.2.1, F4.out.2.2.1, F4.out.2.2.2⟩) ?_
      simp only [Act.put, List.setIfInBounds_toArray, List.set_cons_zero, List.set_cons_succ]
      refine wpAnyT_take (i := 2) (oi := ⟨some 16, _, _, _, _, _⟩) (v := .pointer (some ⟨lb, 0, none⟩)) rfl (by kernel_rfl) (by kernel_rfl) (by kernel_rfl) (fun _ _ _ h => h) (by kernel_rfl) (Or.inl ⟨rfl, fun w h => by kernel_rfl⟩) (⟨F4.out.1.drew, F4.out.2.1, F4.out.2.2.1, F4.out.2.2.2⟩) ?_
      simp only [Act.put, List.setIfInBounds_toArray, List.set_cons_zero, List.set_cons_succ]
      refine wpAnyT_take (i := 3) (oi := ⟨some 17, _, _, _, _, _⟩) (v := .agg (hdV (srl xs) (cntL xs) (nteL xs)).toArray) rfl (by kernel_rfl) (by kernel_rfl) (by kernel_rfl) (fun _ _ _ h => h) (by kernel_rfl) (Or.inl ⟨rfl, fun w h => run_load_mid _ _ _ 64 _ rfl g7 0 rfl _ _ (blk_range' h.2.2.2) Try.underlying64 rfl (by simp only [List.size_toArray, hd_len NN.out.1, hd_len NN.out.2]; kernel_rfl)⟩) (⟨F4.out.1.drew, F4.out.2.1, F4.out.2.2.1, F4.out.2.2.2⟩) ?_
      simp only [Act.put, List.setIfInBounds_toArray, List.set_cons_zero, List.set_cons_succ]
      refine wpAnyT_take (i := 4) (oi := ⟨some 18, _, _, _, _, _⟩) (v := .agg (hdV s1 c1 nt1).toArray) rfl (by kernel_rfl) (by kernel_rfl) (by kernel_rfl) (fun _ _ _ h => h) (by kernel_rfl) (Or.inl ⟨rfl, fun w h => run_load_mid _ _ _ 64 _ rfl g5 0 rfl _ _ (blk_range' h.2.1) Try.underlying64 rfl (by simp only [List.size_toArray, hd_len NN.out.1, hd_len NN.out.2]; kernel_rfl)⟩) (⟨F4.out.1.drew, F4.out.2.1, F4.out.2.2.1, F4.out.2.2.2⟩) ?_
      simp only [Act.put, List.setIfInBounds_toArray, List.set_cons_zero, List.set_cons_succ]
      refine wpAnyT_one (i := 5) (by kernel_rfl) ?_
      refine op_call (o := ⟨some 19, _, _, _, _, _⟩) 45 #[.agg (hdV s1 c1 nt1).toArray] rfl rfl (by kernel_rfl) ((place_any _ s1 c1 nt1 U.out.1).mono fun e X5 h => ⟨.int .i64 ((s1 % 2 : Nat) : Int), h.1, ?_, ?_⟩)
      · exact fun _ => by have bb : Below W4.heap.size W4 X5 := (Below.refl _ W4).drew.trans h.2; exact ⟨F4.out.1.trans (bb.mono F4.out.1.size), F4.out.2.1.below bb, F4.out.2.2.1.below bb, F4.out.2.2.2.below bb⟩
      simp only [Act.put, List.setIfInBounds_toArray, List.set_cons_zero, List.set_cons_succ]
      have F5 : Hid (Below w.heap.size w X5 ∧ Blk X5 g5 64 (hdV s1 c1 nt1).toArray ∧ LS X5 lb b fr rm s c nt v ov ∧ Blk X5 g7 64 (hdV (srl xs) (cntL xs) (nteL xs)).toArray) := Lib.hid (by have bb : Below W4.heap.size W4 X5 := (Below.refl _ W4).drew.trans h.2; exact ⟨F4.out.1.trans (bb.mono F4.out.1.size), F4.out.2.1.below bb, F4.out.2.2.1.below bb, F4.out.2.2.2.below bb⟩)
      clear h
      refine wpAnyT_one (i := 6) (by kernel_rfl) ?_
      refine op_call (o := ⟨some 20, _, _, _, _, _⟩) 32 #[.pointer (some ⟨lb, 0, none⟩), .agg (hdV (srl xs) (cntL xs) (nteL xs)).toArray, .int .i64 ((s1 % 2 : Nat) : Int)] rfl rfl (by kernel_rfl) ((fits_any F5.out.2.2.1 (srl xs) (cntL xs) (s1 % 2) (nteL xs) NN.out.2 U.out.2.1 U.out.2.2).mono fun e X6 h => ⟨.bool false, h.1.trans (by rw [HF.out]), ?_, ?_⟩)
      · exact fun _ => by have bb : Below X5.heap.size X5 X6 := h.2; exact ⟨F5.out.1.trans (bb.mono F5.out.1.size), F5.out.2.1.below bb, F5.out.2.2.1.below bb, F5.out.2.2.2.below bb⟩
      simp only [Act.put, List.setIfInBounds_toArray, List.set_cons_zero, List.set_cons_succ]
      have F6 : Hid (Below w.heap.size w X6 ∧ Blk X6 g5 64 (hdV s1 c1 nt1).toArray ∧ LS X6 lb b fr rm s c nt v ov ∧ Blk X6 g7 64 (hdV (srl xs) (cntL xs) (nteL xs)).toArray) := Lib.hid (by have bb : Below X5.heap.size X5 X6 := h.2; exact ⟨F5.out.1.trans (bb.mono F5.out.1.size), F5.out.2.1.below bb, F5.out.2.2.1.below bb, F5.out.2.2.2.below bb⟩)
      clear h
      refine wpAnyT_take (i := 7) (oi := ⟨some 21, _, _, _, _, _⟩) (v := .bool false) rfl (by kernel_rfl) (by kernel_rfl) (by kernel_rfl) (fun _ _ _ h => h) (by kernel_rfl) (Or.inl ⟨rfl, fun w h => by kernel_rfl⟩) (F6.out) ?_
      simp only [Act.put, List.setIfInBounds_toArray, List.set_cons_zero, List.set_cons_succ]
      refine wpAnyT_take (i := 8) (oi := ⟨some 22, _, _, _, _, _⟩) (v := .bool false) rfl (by kernel_rfl) (by kernel_rfl) (by kernel_rfl) (fun _ _ _ h => h) (by kernel_rfl) (Or.inl ⟨rfl, fun w h => by kernel_rfl⟩) (F6.out) ?_
      simp only [Act.put, List.setIfInBounds_toArray, List.set_cons_zero, List.set_cons_succ]
      refine wpAnyT_take (i := 9) (oi := ⟨some 23, _, _, _, _, _⟩) (v := undef) rfl (by kernel_rfl) (by kernel_rfl) (by kernel_rfl) (fun _ _ _ h => h) (by kernel_rfl) (Or.inr ⟨rfl, rfl⟩) (F6.out) ?_
      simp only [Act.put, List.setIfInBounds_toArray, List.set_cons_zero, List.set_cons_succ]
      refine wpAnyT_take (i := 10) (oi := ⟨some 24, _, _, _, _, _⟩) (v := undef) rfl (by kernel_rfl) (by kernel_rfl) (by kernel_rfl) (fun _ _ _ h => h) (by kernel_rfl) (Or.inr ⟨rfl, rfl⟩) (F6.out) ?_
      simp only [Act.put, List.setIfInBounds_toArray, List.set_cons_zero, List.set_cons_succ]
      refine wpAnyT_take (i := 11) (oi := ⟨some 25, _, _, _, _, _⟩) (v := undef) rfl (by kernel_rfl) (by kernel_rfl) (by kernel_rfl) (fun _ _ _ h => h) (by kernel_rfl) (Or.inr ⟨rfl, rfl⟩) (F6.out) ?_
      simp only [Act.put, List.setIfInBounds_toArray, List.set_cons_zero, List.set_cons_succ]
      refine wpAnyT_take (i := 12) (oi := ⟨some 26, _, _, _, _, _⟩) (v := undef) rfl (by kernel_rfl) (by kernel_rfl) (by kernel_rfl) (fun _ _ _ h => h) (by kernel_rfl) (Or.inr ⟨rfl, rfl⟩) (F6.out) ?_
      simp only [Act.put, List.setIfInBounds_toArray, List.set_cons_zero, List.set_cons_succ]
      refine wpAnyT_take (i := 13) (oi := ⟨some 27, _, _, _, _, _⟩) (v := undef) rfl (by kernel_rfl) (by kernel_rfl) (by kernel_rfl) (fun _ _ _ h => h) (by kernel_rfl) (Or.inr ⟨rfl, rfl⟩) (F6.out) ?_
      simp only [Act.put, List.setIfInBounds_toArray, List.set_cons_zero, List.set_cons_succ]
      refine wpAnyT_take (i := 14) (oi := ⟨some 28, _, _, _, _, _⟩) (v := undef) rfl (by kernel_rfl) (by kernel_rfl) (by kernel_rfl) (fun _ _ _ h => h) (by kernel_rfl) (Or.inr ⟨rfl, rfl⟩) (F6.out) ?_
      simp only [Act.put, List.setIfInBounds_toArray, List.set_cons_zero, List.set_cons_succ]
      refine wpAnyT_take (i := 15) (oi := ⟨some 29, _, _, _, _, _⟩) (v := undef) rfl (by kernel_rfl) (by kernel_rfl) (by kernel_rfl) (fun _ _ _ h => h) (by kernel_rfl) (Or.inr ⟨rfl, rfl⟩) (F6.out) ?_
      simp only [Act.put, List.setIfInBounds_toArray, List.set_cons_zero, List.set_cons_succ]
      refine wpAnyT_take (i := 16) (oi := ⟨some 30, _, _, _, _, _⟩) (v := undef) rfl (by kernel_rfl) (by kernel_rfl) (by kernel_rfl) (fun _ _ _ h => h) (by kernel_rfl) (Or.inr ⟨rfl, rfl⟩) (F6.out) ?_
      simp only [Act.put, List.setIfInBounds_toArray, List.set_cons_zero, List.set_cons_succ]
      refine wpAnyT_take (i := 17) (oi := ⟨some 31, _, _, _, _, _⟩) (v := .bool false) rfl (by kernel_rfl) (by kernel_rfl) (by kernel_rfl) (fun _ _ _ h => h) (by kernel_rfl) (Or.inl ⟨rfl, fun w h => by kernel_rfl⟩) (F6.out) ?_
      simp only [Act.put, List.setIfInBounds_toArray, List.set_cons_zero, List.set_cons_succ]
      refine wpAnyT_take (i := 18) (oi := ⟨some 32, _, _, _, _, _⟩) (v := .bool false) rfl (by kernel_rfl) (by kernel_rfl) (by kernel_rfl) (fun _ _ _ h => h) (by kernel_rfl) (Or.inl ⟨rfl, fun w h => by kernel_rfl⟩) (F6.out) ?_
      simp only [Act.put, List.setIfInBounds_toArray, List.set_cons_zero, List.set_cons_succ]
      refine wpAnyT_take (i := 19) (oi := ⟨some 33, _, _, _, _, _⟩) (v := undef) rfl (by kernel_rfl) (by kernel_rfl) (by kernel_rfl) (fun _ _ _ h => h) (by kernel_rfl) (Or.inr ⟨rfl, rfl⟩) (F6.out) ?_
      simp only [Act.put, List.setIfInBounds_toArray, List.set_cons_zero, List.set_cons_succ]
      refine wpAnyT_take (i := 20) (oi := ⟨some 34, _, _, _, _, _⟩) (v := undef) rfl (by kernel_rfl) (by kernel_rfl) (by kernel_rfl) (fun _ _ _ h => h) (by kernel_rfl) (Or.inr ⟨rfl, rfl⟩) (F6.out) ?_
      simp only [Act.put, List.setIfInBounds_toArray, List.set_cons_zero, List.set_cons_succ]
      refine wpAnyT_take (i := 21) (oi := ⟨some 35, _, _, _, _, _⟩) (v := undef) rfl (by kernel_rfl) (by kernel_rfl) (by kernel_rfl) (fun _ _ _ h => h) (by kernel_rfl) (Or.inr ⟨rfl, rfl⟩) (F6.out) ?_
      simp only [Act.put, List.setIfInBounds_toArray, List.set_cons_zero, List.set_cons_succ]
      refine wpAnyT_take (i := 22) (oi := ⟨some 36, _, _, _, _, _⟩) (v := .bool false) rfl (by kernel_rfl) (by kernel_rfl) (by kernel_rfl) (fun _ _ _ h => h) (by kernel_rfl) (Or.inl ⟨rfl, fun w h => by kernel_rfl⟩) (F6.out) ?_
      simp only [Act.put, List.setIfInBounds_toArray, List.set_cons_zero, List.set_cons_succ]
      refine wpAnyT_take (i := 23) (oi := ⟨some 6, _, _, _, _, _⟩) (v := .bool false) rfl (by kernel_rfl) (by kernel_rfl) (by kernel_rfl) (fun _ _ _ h => h) (by kernel_rfl) (Or.inl ⟨rfl, fun w h => by kernel_rfl⟩) (F6.out) ?_
      simp only [Act.put, List.setIfInBounds_toArray, List.set_cons_zero, List.set_cons_succ]
      refine wpAnyT_done (by kernel_rfl) ?_ _
      go_wp2_with fail
      go_ret
      exact ⟨by rw [liesB, HW.out, HF.out, Bool.true_and, Bool.false_and]; rfl, F6.out.1⟩
    · by_cases hlt : s < srl xs
      · have HLT := Lib.hid hlt
        clear hlt
        go_upto_region 2 with (fail)
        refine region_anyT (fun X => Below w.heap.size w X ∧ Blk X g5 64 (hdV s1 c1 nt1).toArray ∧ LS X lb b fr rm s c nt v ov ∧ Blk X g7 64 (hdV (srl xs) (cntL xs) (nteL xs)).toArray) (by kernel_rfl) 24 24 rfl ?_
        refine wpAnyT_take (i := 0) (oi := ⟨some 14, _, _, _, _, _⟩) (v := .bool true) rfl (by kernel_rfl) (by kernel_rfl) (by kernel_rfl) (fun _ _ _ h => h) (by kernel_rfl) (Or.inl ⟨rfl, fun w h => by kernel_rfl⟩) (⟨F4.out.1.drew, F4.out.2.1, F4.out.2.2.1, F4.out.2.2.2⟩) ?_
        simp only [Act.put, List.setIfInBounds_toArray, List.set_cons_zero, List.set_cons_succ]
        refine wpAnyT_take (i := 1) (oi := ⟨some 15, _, _, _, _, _⟩) (v := .bool true) rfl (by kernel_rfl) (by kernel_rfl) (by kernel_rfl) (fun _ _ _ h => h) (by kernel_rfl) (Or.inl ⟨rfl, fun w h => by kernel_rfl⟩) (⟨F4.out.1.drew, F4.out.2.1, F4.out.2.2.1, F4.out.2.2.2⟩) ?_
        simp only [Act.put, List.setIfInBounds_toArray, List.set_cons_zero, List.set_cons_succ]
        refine wpAnyT_take (i := 2) (oi := ⟨some 16, _, _, _, _, _⟩) (v := .pointer (some ⟨lb, 0, none⟩)) rfl (by kernel_rfl) (by kernel_rfl) (by kernel_rfl) (fun _ _ _ h => h) (by kernel_rfl) (Or.inl ⟨rfl, fun w h => by kernel_rfl⟩) (⟨F4.out.1.drew, F4.out.2.1, F4.out.2.2.1, F4.out.2.2.2⟩) ?_
        simp only [Act.put, List.setIfInBounds_toArray, List.set_cons_zero, List.set_cons_succ]
        refine wpAnyT_take (i := 3) (oi := ⟨some 17, _, _, _, _, _⟩) (v := .agg (hdV (srl xs) (cntL xs) (nteL xs)).toArray) rfl (by kernel_rfl) (by kernel_rfl) (by kernel_rfl) (fun _ _ _ h => h) (by kernel_rfl) (Or.inl ⟨rfl, fun w h => run_load_mid _ _ _ 64 _ rfl g7 0 rfl _ _ (blk_range' h.2.2.2) Try.underlying64 rfl (by simp only [List.size_toArray, hd_len NN.out.1, hd_len NN.out.2]; kernel_rfl)⟩) (⟨F4.out.1.drew, F4.out.2.1, F4.out.2.2.1, F4.out.2.2.2⟩) ?_
        simp only [Act.put, List.setIfInBounds_toArray, List.set_cons_zero, List.set_cons_succ]
        refine wpAnyT_take (i := 4) (oi := ⟨some 18, _, _, _, _, _⟩) (v := .agg (hdV s1 c1 nt1).toArray) rfl (by kernel_rfl) (by kernel_rfl) (by kernel_rfl) (fun _ _ _ h => h) (by kernel_rfl) (Or.inl ⟨rfl, fun w h => run_load_mid _ _ _ 64 _ rfl g5 0 rfl _ _ (blk_range' h.2.1) Try.underlying64 rfl (by simp only [List.size_toArray, hd_len NN.out.1, hd_len NN.out.2]; kernel_rfl)⟩) (⟨F4.out.1.drew, F4.out.2.1, F4.out.2.2.1, F4.out.2.2.2⟩) ?_
        simp only [Act.put, List.setIfInBounds_toArray, List.set_cons_zero, List.set_cons_succ]
        refine wpAnyT_one (i := 5) (by kernel_rfl) ?_
        refine op_call (o := ⟨some 19, _, _, _, _, _⟩) 45 #[.agg (hdV s1 c1 nt1).toArray] rfl rfl (by kernel_rfl) ((place_any _ s1 c1 nt1 U.out.1).mono fun e X5 h => ⟨.int .i64 ((s1 % 2 : Nat) : Int), h.1, ?_, ?_⟩)
        · exact fun _ => by have bb : Below W4.heap.size W4 X5 := (Below.refl _ W4).drew.trans h.2; exact ⟨F4.out.1.trans (bb.mono F4.out.1.size), F4.out.2.1.below bb, F4.out.2.2.1.below bb, F4.out.2.2.2.below bb⟩
        simp only [Act.put, List.setIfInBounds_toArray, List.set_cons_zero, List.set_cons_succ]
        have F5 : Hid (Below w.heap.size w X5 ∧ Blk X5 g5 64 (hdV s1 c1 nt1).toArray ∧ LS X5 lb b fr rm s c nt v ov ∧ Blk X5 g7 64 (hdV (srl xs) (cntL xs) (nteL xs)).toArray) := Lib.hid (by have bb : Below W4.heap.size W4 X5 := (Below.refl _ W4).drew.trans h.2; exact ⟨F4.out.1.trans (bb.mono F4.out.1.size), F4.out.2.1.below bb, F4.out.2.2.1.below bb, F4.out.2.2.2.below bb⟩)
        clear h
        refine wpAnyT_one (i := 6) (by kernel_rfl) ?_
        refine op_call (o := ⟨some 20, _, _, _, _, _⟩) 32 #[.pointer (some ⟨lb, 0, none⟩), .agg (hdV (srl xs) (cntL xs) (nteL xs)).toArray, .int .i64 ((s1 % 2 : Nat) : Int)] rfl rfl (by kernel_rfl) ((fits_any F5.out.2.2.1 (srl xs) (cntL xs) (s1 % 2) (nteL xs) NN.out.2 U.out.2.1 U.out.2.2).mono fun e X6 h => ⟨.bool true, h.1.trans (by rw [HF.out]), ?_, ?_⟩)
        · exact fun _ => by have bb : Below X5.heap.size X5 X6 := h.2; exact ⟨F5.out.1.trans (bb.mono F5.out.1.size), F5.out.2.1.below bb, F5.out.2.2.1.below bb, F5.out.2.2.2.below bb⟩
        simp only [Act.put, List.setIfInBounds_toArray, List.set_cons_zero, List.set_cons_succ]
        have F6 : Hid (Below w.heap.size w X6 ∧ Blk X6 g5 64 (hdV s1 c1 nt1).toArray ∧ LS X6 lb b fr rm s c nt v ov ∧ Blk X6 g7 64 (hdV (srl xs) (cntL xs) (nteL xs)).toArray) := Lib.hid (by have bb : Below X5.heap.size X5 X6 := h.2; exact ⟨F5.out.1.trans (bb.mono F5.out.1.size), F5.out.2.1.below bb, F5.out.2.2.1.below bb, F5.out.2.2.2.below bb⟩)
        clear h
        refine wpAnyT_take (i := 7) (oi := ⟨some 21, _, _, _, _, _⟩) (v := .bool true) rfl (by kernel_rfl) (by kernel_rfl) (by kernel_rfl) (fun _ _ _ h => h) (by kernel_rfl) (Or.inl ⟨rfl, fun w h => by kernel_rfl⟩) (F6.out) ?_
        simp only [Act.put, List.setIfInBounds_toArray, List.set_cons_zero, List.set_cons_succ]
        refine wpAnyT_take (i := 8) (oi := ⟨some 22, _, _, _, _, _⟩) (v := .bool true) rfl (by kernel_rfl) (by kernel_rfl) (by kernel_rfl) (fun _ _ _ h => h) (by kernel_rfl) (Or.inl ⟨rfl, fun w h => by kernel_rfl⟩) (F6.out) ?_
        simp only [Act.put, List.setIfInBounds_toArray, List.set_cons_zero, List.set_cons_succ]
        refine wpAnyT_take (i := 9) (oi := ⟨some 23, _, _, _, _, _⟩) (v := .pointer (some ⟨g7, 0, none⟩)) rfl (by kernel_rfl) (by kernel_rfl) (by kernel_rfl) (fun _ _ _ h => h) (by kernel_rfl) (Or.inl ⟨rfl, fun w h => by kernel_rfl⟩) (F6.out) ?_
        simp only [Act.put, List.setIfInBounds_toArray, List.set_cons_zero, List.set_cons_succ]
        refine wpAnyT_take (i := 10) (oi := ⟨some 24, _, _, _, _, _⟩) (v := .int .u64 ((srl xs : Nat) : Int)) rfl (by kernel_rfl) (by kernel_rfl) (by kernel_rfl) (fun _ _ _ h => h) (by kernel_rfl) (Or.inl ⟨rfl, fun w h => run_load_one _ _ _ 35 _ _ rfl (g7) (0) rfl (by rw [h.2.2.2.cell]; rfl) (by kernel_rfl)⟩) (F6.out) ?_
        simp only [Act.put, List.setIfInBounds_toArray, List.set_cons_zero, List.set_cons_succ]
        refine wpAnyT_take (i := 11) (oi := ⟨some 25, _, _, _, _, _⟩) (v := .pointer (some ⟨lb, 0, none⟩)) rfl (by kernel_rfl) (by kernel_rfl) (by kernel_rfl) (fun _ _ _ h => h) (by kernel_rfl) (Or.inl ⟨rfl, fun w h => by kernel_rfl⟩) (F6.out) ?_
        simp only [Act.put, List.setIfInBounds_toArray, List.set_cons_zero, List.set_cons_succ]
        refine wpAnyT_take (i := 12) (oi := ⟨some 26, _, _, _, _, _⟩) (v := .pointer (some ⟨lb, 0, none⟩)) rfl (by kernel_rfl) (by kernel_rfl) (by kernel_rfl) (fun _ _ _ h => h) (by kernel_rfl) (Or.inl ⟨rfl, fun w h => by kernel_rfl⟩) (F6.out) ?_
        simp only [Act.put, List.setIfInBounds_toArray, List.set_cons_zero, List.set_cons_succ]
        refine wpAnyT_take (i := 13) (oi := ⟨some 27, _, _, _, _, _⟩) (v := .pointer (some ⟨lb, 3, none⟩)) rfl (by kernel_rfl) (by kernel_rfl) (by kernel_rfl) (fun _ _ _ h => h) (by kernel_rfl) (Or.inl ⟨rfl, fun w h => by kernel_rfl⟩) (F6.out) ?_
        simp only [Act.put, List.setIfInBounds_toArray, List.set_cons_zero, List.set_cons_succ]
        refine wpAnyT_take (i := 14) (oi := ⟨some 28, _, _, _, _, _⟩) (v := .pointer (some ⟨lb, 3, none⟩)) rfl (by kernel_rfl) (by kernel_rfl) (by kernel_rfl) (fun _ _ _ h => h) (by kernel_rfl) (Or.inl ⟨rfl, fun w h => by kernel_rfl⟩) (F6.out) ?_
        simp only [Act.put, List.setIfInBounds_toArray, List.set_cons_zero, List.set_cons_succ]
        refine wpAnyT_take (i := 15) (oi := ⟨some 29, _, _, _, _, _⟩) (v := .int .u64 ((s : Nat) : Int)) rfl (by kernel_rfl) (by kernel_rfl) (by kernel_rfl) (fun _ _ _ h => h) (by kernel_rfl) (Or.inl ⟨rfl, fun w h => run_load_one _ _ _ 35 _ _ rfl (lb) (3) rfl h.2.2.1.c3 (by kernel_rfl)⟩) (F6.out) ?_
        simp only [Act.put, List.setIfInBounds_toArray, List.set_cons_zero, List.set_cons_succ]
        refine wpAnyT_take (i := 16) (oi := ⟨some 30, _, _, _, _, _⟩) (v := .bool true) rfl (by kernel_rfl) (by kernel_rfl) (by kernel_rfl) (fun _ _ _ h => h) (by kernel_rfl) (Or.inl ⟨rfl, fun w h => run_gti Try.underlying35 rfl rfl rfl (by have := HLT.out; rw [decide_eq_true_eq]; omega)⟩) (F6.out) ?_
        simp only [Act.put, List.setIfInBounds_toArray, List.set_cons_zero, List.set_cons_succ]
        refine wpAnyT_take (i := 17) (oi := ⟨some 31, _, _, _, _, _⟩) (v := .bool true) rfl (by kernel_rfl) (by kernel_rfl) (by kernel_rfl) (fun _ _ _ h => h) (by kernel_rfl) (Or.inl ⟨rfl, fun w h => by kernel_rfl⟩) (F6.out) ?_
        simp only [Act.put, List.setIfInBounds_toArray, List.set_cons_zero, List.set_cons_succ]
        refine wpAnyT_take (i := 18) (oi := ⟨some 32, _, _, _, _, _⟩) (v := .bool true) rfl (by kernel_rfl) (by kernel_rfl) (by kernel_rfl) (fun _ _ _ h => h) (by kernel_rfl) (Or.inl ⟨rfl, fun w h => by kernel_rfl⟩) (F6.out) ?_
        simp only [Act.put, List.setIfInBounds_toArray, List.set_cons_zero, List.set_cons_succ]
        refine wpAnyT_take (i := 19) (oi := ⟨some 33, _, _, _, _, _⟩) (v := .agg (hdV (srl xs) (cntL xs) (nteL xs)).toArray) rfl (by kernel_rfl) (by kernel_rfl) (by kernel_rfl) (fun _ _ _ h => h) (by kernel_rfl) (Or.inl ⟨rfl, fun w h => run_load_mid _ _ _ 64 _ rfl g7 0 rfl _ _ (blk_range' h.2.2.2) Try.underlying64 rfl (by simp only [List.size_toArray, hd_len NN.out.1, hd_len NN.out.2]; kernel_rfl)⟩) (F6.out) ?_
        simp only [Act.put, List.setIfInBounds_toArray, List.set_cons_zero, List.set_cons_succ]
        refine wpAnyT_take (i := 20) (oi := ⟨some 34, _, _, _, _, _⟩) (v := .agg (hdV s1 c1 nt1).toArray) rfl (by kernel_rfl) (by kernel_rfl) (by kernel_rfl) (fun _ _ _ h => h) (by kernel_rfl) (Or.inl ⟨rfl, fun w h => run_load_mid _ _ _ 64 _ rfl g5 0 rfl _ _ (blk_range' h.2.1) Try.underlying64 rfl (by simp only [List.size_toArray, hd_len NN.out.1, hd_len NN.out.2]; kernel_rfl)⟩) (F6.out) ?_
        simp only [Act.put, List.setIfInBounds_toArray, List.set_cons_zero, List.set_cons_succ]
        refine wpAnyT_take (i := 21) (oi := ⟨some 35, _, _, _, _, _⟩) (v := .bool (!(decide (srl xs = s1) && decide (cntL xs = c1) && decide (nteL xs = nt1)))) rfl (by kernel_rfl) (by kernel_rfl) (by kernel_rfl) (fun _ _ _ h => h) (by kernel_rfl) (Or.inl ⟨rfl, fun w h => run_ne64 _ _ _ _ _ _ _ _ _ _ _ NN.out.2.1 NN.out.1.1 rfl rfl rfl⟩) (F6.out) ?_
        simp only [Act.put, List.setIfInBounds_toArray, List.set_cons_zero, List.set_cons_succ]
        refine wpAnyT_take (i := 22) (oi := ⟨some 36, _, _, _, _, _⟩) (v := .bool (!(decide (srl xs = s1) && decide (cntL xs = c1) && decide (nteL xs = nt1)))) rfl (by kernel_rfl) (by kernel_rfl) (by kernel_rfl) (fun _ _ _ h => h) (by kernel_rfl) (Or.inl ⟨rfl, fun w h => by kernel_rfl⟩) (F6.out) ?_
        simp only [Act.put, List.setIfInBounds_toArray, List.set_cons_zero, List.set_cons_succ]
        refine wpAnyT_take (i := 23) (oi := ⟨some 6, _, _, _, _, _⟩) (v := .bool (!(decide (srl xs = s1) && decide (cntL xs = c1) && decide (nteL xs = nt1)))) rfl (by kernel_rfl) (by kernel_rfl) (by kernel_rfl) (fun _ _ _ h => h) (by kernel_rfl) (Or.inl ⟨rfl, fun w h => by kernel_rfl⟩) (F6.out) ?_
        simp only [Act.put, List.setIfInBounds_toArray, List.set_cons_zero, List.set_cons_succ]
        refine wpAnyT_done (by kernel_rfl) ?_ _
        go_wp2_with fail
        go_ret
        exact ⟨by rw [liesB, HW.out, HF.out, decide_eq_true HLT.out, Bool.true_and, Bool.true_and, Bool.true_and]; rfl, F6.out.1⟩
      · have HLT := Lib.hid hlt
        clear hlt
        go_upto_region 2 with (fail)
        refine region_anyT (fun X => Below w.heap.size w X ∧ Blk X g5 64 (hdV s1 c1 nt1).toArray ∧ LS X lb b fr rm s c nt v ov ∧ Blk X g7 64 (hdV (srl xs) (cntL xs) (nteL xs)).toArray) (by kernel_rfl) 24 24 rfl ?_
        refine wpAnyT_take (i := 0) (oi := ⟨some 14, _, _, _, _, _⟩) (v := .bool true) rfl (by kernel_rfl) (by kernel_rfl) (by kernel_rfl) (fun _ _ _ h => h) (by kernel_rfl) (Or.inl ⟨rfl, fun w h => by kernel_rfl⟩) (⟨F4.out.1.drew, F4.out.2.1, F4.out.2.2.1, F4.out.2.2.2⟩) ?_
        simp only [Act.put, List.setIfInBounds_toArray, List.set_cons_zero, List.set_cons_succ]
        refine wpAnyT_take (i := 1) (oi := ⟨some 15, _, _, _, _, _⟩) (v := .bool true) rfl (by kernel_rfl) (by kernel_rfl) (by kernel_rfl) (fun _ _ _ h => h) (by kernel_rfl) (Or.inl ⟨rfl, fun w h => by kernel_rfl⟩) (⟨F4.out.1.drew, F4.out.2.1, F4.out.2.2.1, F4.out.2.2.2⟩) ?_
        simp only [Act.put, List.setIfInBounds_toArray, List.set_cons_zero, List.set_cons_succ]
        refine wpAnyT_take (i := 2) (oi := ⟨some 16, _, _, _, _, _⟩) (v := .pointer (some ⟨lb, 0, none⟩)) rfl (by kernel_rfl) (by kernel_rfl) (by kernel_rfl) (fun _ _ _ h => h) (by kernel_rfl) (Or.inl ⟨rfl, fun w h => by kernel_rfl⟩) (⟨F4.out.1.drew, F4.out.2.1, F4.out.2.2.1, F4.out.2.2.2⟩) ?_
        simp only [Act.put, List.setIfInBounds_toArray, List.set_cons_zero, List.set_cons_succ]
        refine wpAnyT_take (i := 3) (oi := ⟨some 17, _, _, _, _, _⟩) (v := .agg (hdV (srl xs) (cntL xs) (nteL xs)).toArray) rfl (by kernel_rfl) (by kernel_rfl) (by kernel_rfl) (fun _ _ _ h => h) (by kernel_rfl) (Or.inl ⟨rfl, fun w h => run_load_mid _ _ _ 64 _ rfl g7 0 rfl _ _ (blk_range' h.2.2.2) Try.underlying64 rfl (by simp only [List.size_toArray, hd_len NN.out.1, hd_len NN.out.2]; kernel_rfl)⟩) (⟨F4.out.1.drew, F4.out.2.1, F4.out.2.2.1, F4.out.2.2.2⟩) ?_
        simp only [Act.put, List.setIfInBounds_toArray, List.set_cons_zero, List.set_cons_succ]
        refine wpAnyT_take (i := 4) (oi := ⟨some 18, _, _, _, _, _⟩) (v := .agg (hdV s1 c1 nt1).toArray) rfl (by kernel_rfl) (by kernel_rfl) (by kernel_rfl) (fun _ _ _ h => h) (by kernel_rfl) (Or.inl ⟨rfl, fun w h => run_load_mid _ _ _ 64 _ rfl g5 0 rfl _ _ (blk_range' h.2.1) Try.underlying64 rfl (by simp only [List.size_toArray, hd_len NN.out.1, hd_len NN.out.2]; kernel_rfl)⟩) (⟨F4.out.1.drew, F4.out.2.1, F4.out.2.2.1, F4.out.2.2.2⟩) ?_
        simp only [Act.put, List.setIfInBounds_toArray, List.set_cons_zero, List.set_cons_succ]
        refine wpAnyT_one (i := 5) (by kernel_rfl) ?_
        refine op_call (o := ⟨some 19, _, _, _, _, _⟩) 45 #[.agg (hdV s1 c1 nt1).toArray] rfl rfl (by kernel_rfl) ((place_any _ s1 c1 nt1 U.out.1).mono fun e X5 h => ⟨.int .i64 ((s1 % 2 : Nat) : Int), h.1, ?_, ?_⟩)
        · exact fun _ => by have bb : Below W4.heap.size W4 X5 := (Below.refl _ W4).drew.trans h.2; exact ⟨F4.out.1.trans (bb.mono F4.out.1.size), F4.out.2.1.below bb, F4.out.2.2.1.below bb, F4.out.2.2.2.below bb⟩
        simp only [Act.put, List.setIfInBounds_toArray, List.set_cons_zero, List.set_cons_succ]
        have F5 : Hid (Below w.heap.size w X5 ∧ Blk X5 g5 64 (hdV s1 c1 nt1).toArray ∧ LS X5 lb b fr rm s c nt v ov ∧ Blk X5 g7 64 (hdV (srl xs) (cntL xs) (nteL xs)).toArray) := Lib.hid (by have bb : Below W4.heap.size W4 X5 := (Below.refl _ W4).drew.trans h.2; exact ⟨F4.out.1.trans (bb.mono F4.out.1.size), F4.out.2.1.below bb, F4.out.2.2.1.below bb, F4.out.2.2.2.below bb⟩)
        clear h
        refine wpAnyT_one (i := 6) (by kernel_rfl) ?_
        refine op_call (o := ⟨some 20, _, _, _, _, _⟩) 32 #[.pointer (some ⟨lb, 0, none⟩), .agg (hdV (srl xs) (cntL xs) (nteL xs)).toArray, .int .i64 ((s1 % 2 : Nat) : Int)] rfl rfl (by kernel_rfl) ((fits_any F5.out.2.2.1 (srl xs) (cntL xs) (s1 % 2) (nteL xs) NN.out.2 U.out.2.1 U.out.2.2).mono fun e X6 h => ⟨.bool true, h.1.trans (by rw [HF.out]), ?_, ?_⟩)
        · exact fun _ => by have bb : Below X5.heap.size X5 X6 := h.2; exact ⟨F5.out.1.trans (bb.mono F5.out.1.size), F5.out.2.1.below bb, F5.out.2.2.1.below bb, F5.out.2.2.2.below bb⟩
        simp only [Act.put, List.setIfInBounds_toArray, List.set_cons_zero, List.set_cons_succ]
        have F6 : Hid (Below w.heap.size w X6 ∧ Blk X6 g5 64 (hdV s1 c1 nt1).toArray ∧ LS X6 lb b fr rm s c nt v ov ∧ Blk X6 g7 64 (hdV (srl xs) (cntL xs) (nteL xs)).toArray) := Lib.hid (by have bb : Below X5.heap.size X5 X6 := h.2; exact ⟨F5.out.1.trans (bb.mono F5.out.1.size), F5.out.2.1.below bb, F5.out.2.2.1.below bb, F5.out.2.2.2.below bb⟩)
        clear h
        refine wpAnyT_take (i := 7) (oi := ⟨some 21, _, _, _, _, _⟩) (v := .bool true) rfl (by kernel_rfl) (by kernel_rfl) (by kernel_rfl) (fun _ _ _ h => h) (by kernel_rfl) (Or.inl ⟨rfl, fun w h => by kernel_rfl⟩) (F6.out) ?_
        simp only [Act.put, List.setIfInBounds_toArray, List.set_cons_zero, List.set_cons_succ]
        refine wpAnyT_take (i := 8) (oi := ⟨some 22, _, _, _, _, _⟩) (v := .bool true) rfl (by kernel_rfl) (by kernel_rfl) (by kernel_rfl) (fun _ _ _ h => h) (by kernel_rfl) (Or.inl ⟨rfl, fun w h => by kernel_rfl⟩) (F6.out) ?_
        simp only [Act.put, List.setIfInBounds_toArray, List.set_cons_zero, List.set_cons_succ]
        refine wpAnyT_take (i := 9) (oi := ⟨some 23, _, _, _, _, _⟩) (v := .pointer (some ⟨g7, 0, none⟩)) rfl (by kernel_rfl) (by kernel_rfl) (by kernel_rfl) (fun _ _ _ h => h) (by kernel_rfl) (Or.inl ⟨rfl, fun w h => by kernel_rfl⟩) (F6.out) ?_
        simp only [Act.put, List.setIfInBounds_toArray, List.set_cons_zero, List.set_cons_succ]
        refine wpAnyT_take (i := 10) (oi := ⟨some 24, _, _, _, _, _⟩) (v := .int .u64 ((srl xs : Nat) : Int)) rfl (by kernel_rfl) (by kernel_rfl) (by kernel_rfl) (fun _ _ _ h => h) (by kernel_rfl) (Or.inl ⟨rfl, fun w h => run_load_one _ _ _ 35 _ _ rfl (g7) (0) rfl (by rw [h.2.2.2.cell]; rfl) (by kernel_rfl)⟩) (F6.out) ?_
        simp only [Act.put, List.setIfInBounds_toArray, List.set_cons_zero, List.set_cons_succ]
        refine wpAnyT_take (i := 11) (oi := ⟨some 25, _, _, _, _, _⟩) (v := .pointer (some ⟨lb, 0, none⟩)) rfl (by kernel_rfl) (by kernel_rfl) (by kernel_rfl) (fun _ _ _ h => h) (by kernel_rfl) (Or.inl ⟨rfl, fun w h => by kernel_rfl⟩) (F6.out) ?_
        simp only [Act.put, List.setIfInBounds_toArray, List.set_cons_zero, List.set_cons_succ]
        refine wpAnyT_take (i := 12) (oi := ⟨some 26, _, _, _, _, _⟩) (v := .pointer (some ⟨lb, 0, none⟩)) rfl (by kernel_rfl) (by kernel_rfl) (by kernel_rfl) (fun _ _ _ h => h) (by kernel_rfl) (Or.inl ⟨rfl, fun w h => by kernel_rfl⟩) (F6.out) ?_
        simp only [Act.put, List.setIfInBounds_toArray, List.set_cons_zero, List.set_cons_succ]
        refine wpAnyT_take (i := 13) (oi := ⟨some 27, _, _, _, _, _⟩) (v := .pointer (some ⟨lb, 3, none⟩)) rfl (by kernel_rfl) (by kernel_rfl) (by kernel_rfl) (fun _ _ _ h => h) (by kernel_rfl) (Or.inl ⟨rfl, fun w h => by kernel_rfl⟩) (F6.out) ?_
        simp only [Act.put, List.setIfInBounds_toArray, List.set_cons_zero, List.set_cons_succ]
        refine wpAnyT_take (i := 14) (oi := ⟨some 28, _, _, _, _, _⟩) (v := .pointer (some ⟨lb, 3, none⟩)) rfl (by kernel_rfl) (by kernel_rfl) (by kernel_rfl) (fun _ _ _ h => h) (by kernel_rfl) (Or.inl ⟨rfl, fun w h => by kernel_rfl⟩) (F6.out) ?_
        simp only [Act.put, List.setIfInBounds_toArray, List.set_cons_zero, List.set_cons_succ]
        refine wpAnyT_take (i := 15) (oi := ⟨some 29, _, _, _, _, _⟩) (v := .int .u64 ((s : Nat) : Int)) rfl (by kernel_rfl) (by kernel_rfl) (by kernel_rfl) (fun _ _ _ h => h) (by kernel_rfl) (Or.inl ⟨rfl, fun w h => run_load_one _ _ _ 35 _ _ rfl (lb) (3) rfl h.2.2.1.c3 (by kernel_rfl)⟩) (F6.out) ?_
        simp only [Act.put, List.setIfInBounds_toArray, List.set_cons_zero, List.set_cons_succ]
        refine wpAnyT_take (i := 16) (oi := ⟨some 30, _, _, _, _, _⟩) (v := .bool false) rfl (by kernel_rfl) (by kernel_rfl) (by kernel_rfl) (fun _ _ _ h => h) (by kernel_rfl) (Or.inl ⟨rfl, fun w h => run_gti Try.underlying35 rfl rfl rfl (by have := HLT.out; rw [decide_eq_false_iff_not]; omega)⟩) (F6.out) ?_
        simp only [Act.put, List.setIfInBounds_toArray, List.set_cons_zero, List.set_cons_succ]
        refine wpAnyT_take (i := 17) (oi := ⟨some 31, _, _, _, _, _⟩) (v := .bool false) rfl (by kernel_rfl) (by kernel_rfl) (by kernel_rfl) (fun _ _ _ h => h) (by kernel_rfl) (Or.inl ⟨rfl, fun w h => by kernel_rfl⟩) (F6.out) ?_
        simp only [Act.put, List.setIfInBounds_toArray, List.set_cons_zero, List.set_cons_succ]
        refine wpAnyT_take (i := 18) (oi := ⟨some 32, _, _, _, _, _⟩) (v := .bool false) rfl (by kernel_rfl) (by kernel_rfl) (by kernel_rfl) (fun _ _ _ h => h) (by kernel_rfl) (Or.inl ⟨rfl, fun w h => by kernel_rfl⟩) (F6.out) ?_
        simp only [Act.put, List.setIfInBounds_toArray, List.set_cons_zero, List.set_cons_succ]
        refine wpAnyT_take (i := 19) (oi := ⟨some 33, _, _, _, _, _⟩) (v := undef) rfl (by kernel_rfl) (by kernel_rfl) (by kernel_rfl) (fun _ _ _ h => h) (by kernel_rfl) (Or.inr ⟨rfl, rfl⟩) (F6.out) ?_
        simp only [Act.put, List.setIfInBounds_toArray, List.set_cons_zero, List.set_cons_succ]
        refine wpAnyT_take (i := 20) (oi := ⟨some 34, _, _, _, _, _⟩) (v := undef) rfl (by kernel_rfl) (by kernel_rfl) (by kernel_rfl) (fun _ _ _ h => h) (by kernel_rfl) (Or.inr ⟨rfl, rfl⟩) (F6.out) ?_
        simp only [Act.put, List.setIfInBounds_toArray, List.set_cons_zero, List.set_cons_succ]
        refine wpAnyT_take (i := 21) (oi := ⟨some 35, _, _, _, _, _⟩) (v := undef) rfl (by kernel_rfl) (by kernel_rfl) (by kernel_rfl) (fun _ _ _ h => h) (by kernel_rfl) (Or.inr ⟨rfl, rfl⟩) (F6.out) ?_
        simp only [Act.put, List.setIfInBounds_toArray, List.set_cons_zero, List.set_cons_succ]
        refine wpAnyT_take (i := 22) (oi := ⟨some 36, _, _, _, _, _⟩) (v := .bool false) rfl (by kernel_rfl) (by kernel_rfl) (by kernel_rfl) (fun _ _ _ h => h) (by kernel_rfl) (Or.inl ⟨rfl, fun w h => by kernel_rfl⟩) (F6.out) ?_
        simp only [Act.put, List.setIfInBounds_toArray, List.set_cons_zero, List.set_cons_succ]
        refine wpAnyT_take (i := 23) (oi := ⟨some 6, _, _, _, _, _⟩) (v := .bool false) rfl (by kernel_rfl) (by kernel_rfl) (by kernel_rfl) (fun _ _ _ h => h) (by kernel_rfl) (Or.inl ⟨rfl, fun w h => by kernel_rfl⟩) (F6.out) ?_
        simp only [Act.put, List.setIfInBounds_toArray, List.set_cons_zero, List.set_cons_succ]
        refine wpAnyT_done (by kernel_rfl) ?_ _
        go_wp2_with fail
        go_ret
        exact ⟨by rw [liesB, HW.out, HF.out, decide_eq_false HLT.out, Bool.true_and, Bool.true_and, Bool.false_and]; rfl, F6.out.1⟩
end Go.Proofs.Yteabblmhcjpboaa.D
