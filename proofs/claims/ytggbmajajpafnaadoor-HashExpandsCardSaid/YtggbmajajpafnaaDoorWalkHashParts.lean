import Derived.Test.YtggbmajajpafnaaDoorH10
import Derived.Test.YtggbmajajpafnaaDoorHeldAll
import Derived.Test.YtggbmajajpafnaaDoorIdx
namespace Go.Proofs.YtggbmajajpafnaaDoor
open Go Go.RowKit

section
variable {Pg : Program} {ops : Array Oper}
theorem op_valw {Q' : Exit → Act → World → Prop} {i : Nat} {o : Oper} {a : Act} {w : World} {K : Act → World → Prop} (v : Value) (w' : World) (ho : ops[i]? = some o) (hw : Region.wanted o (yielded ops a.tmps) = true) (hr : (execOp a.eval o).run Pg w = .ok (.value v) w') (hK : K (a.put o.dst v) w') : wpOp Pg ops Q' i K a w := by
  unfold wpOp
  simp only [ho, hw, if_true, Oper.wp, hr, Oper.upon]
  exact .inl hK
theorem op_call {Q' : Exit → Act → World → Prop} {i : Nat} {o : Oper} {a : Act} {w : World} {K : Act → World → Prop} (f : FuncId) (args : Array Value) (ho : ops[i]? = some o) (hw : Region.wanted o (yielded ops a.tmps) = true) (hr : (execOp a.eval o).run Pg w = .ok (.enter f args) w)
    (h : Calls Pg f args w fun e w' => ∃ v, e = .returned v ∧ K (a.put o.dst v) w') : wpOp Pg ops Q' i K a w := by
  unfold wpOp
  simp only [ho, hw, if_true, Oper.wp, hr, Oper.upon]
  refine .inl (Calls.mono h fun e w' ⟨v, he, hq⟩ => ?_)
  subst he
  exact hq
end
theorem forIn_yield (P : Program) (w : World) (n : Nat) (f : Nat → (Option Bool × Unit) → Sem (ForInStep (Option Bool × Unit))) (hf : ∀ i, i < n → (f i (none, ())).run P w = .ok (.yield (none, ())) w) :
    ∀ k i, i + k ≤ n → (forIn (List.range' i k) (none, ()) f : Sem (Option Bool × Unit)).run P w = .ok (none, ()) w
  | 0, i, _ => by simp [go_sem]
  | k + 1, i, h => by
    rw [List.range'_succ, List.forIn_cons, Sem.run_bind, hf i (by omega), Result.andThen_ok]
    exact forIn_yield P w n f hf k (i + 1) (by omega)
set_option maxRecDepth 100000 in
set_option maxHeartbeats 4000000 in
theorem eq26 (L : List Int) (hl : L.length = 32) (w : World) : (Op.equalIn 10000 26 (.agg (u8l L).toArray) (.agg (u8l L).toArray)).run Tryd.prog w = .ok true w := by
  have u3 := Tryd.underlying5
  have ia3 := Tryd.isAgg5
  have z3 := Tryd.sizeOf5
  rw [show (10000 : Nat) = 9999 + 1 from rfl, Op.equalIn]
  simp only [Sem.run_bind, run_underlying Tryd.underlying26, Result.andThen_ok]
  simp only [Std.Legacy.Range.forIn_eq_forIn_range', Std.Legacy.Range.size, Nat.sub_zero, Nat.add_sub_cancel, Nat.div_one]
  go_simp
  rw [forIn_yield Tryd.prog w 32 _ ?_ 32 0 (by omega)]
  · simp [go_sem]
  · intro i hi
    have e : (u8l L)[i]? = some (.int .u8 (L[i]'(by omega))) := by simp [u8l, List.getElem?_eq_getElem (show i < L.length by omega)]
    rw [e]
    go_simp
attribute [local go_sem] eq26
set_option maxRecDepth 100000 in
theorem run_eq26 (a : Act) (o : Oper) (w : World) (x y : Operand) (L : List Int) (hl : L.length = 32) (ho : o.op = .binOp .eql 26 x y 26) (hx : a.eval x = .agg (u8l L).toArray) (hy : a.eval y = .agg (u8l L).toArray) : (execOp a.eval o).run Tryd.prog w = .ok (.value (.bool true)) w := by
  have h := eq26 L hl w
  have g : (Tryd.prog.eqGuardType Tryd.prog.depth 26) = false := by kernel_rfl
  unfold execOp
  simp only [ho, hx, hy]
  go_simp
theorem nat_u16' {p : Int} (h : (Lit.int .u16 p).wf = true) : ∃ P : Nat, p = (P : Int) ∧ P < 65536 := by
  have h1 := bounds_u16 h
  exact ⟨p.toNat, by omega, by omega⟩
theorem run_remn (a : Act) (o : Oper) (w : World) (x y : Operand) (p q : Nat) (ho : o.op = .binOp .rem 3 x y 3) (hx : a.eval x = .int .i64 (p : Int)) (hy : a.eval y = .int .i64 (q : Int)) (hp : p < 4611686018427387904) (hq : 0 < q) (hq2 : q < 4611686018427387904) : (execOp a.eval o).run Tryd.prog w = .ok (.value (.int .i64 ((p % q : Nat) : Int))) w := by
  have u := run_underlying Tryd.underlying3 w
  have h0 : ¬ ((q : Int) = 0) := by omega
  have h1 : ¬ ((q : Int) = -1) := by omega
  have e : (p : Int).tmod (q : Int) = ((p % q : Nat) : Int) := by rw [Int.tmod_eq_emod_of_nonneg (by omega)]; rfl
  have hm := Nat.mod_lt p hq
  unfold execOp
  simp only [ho, hx, hy]
  go_simp
  all_goals first | omega | (simp [e]; done) | (rw [e, wrap_in _ (by omega) (by omega)])
theorem Sl.takeN {w : World} {a : Option Addr} {n c : Nat} {xs : List Int} (h : Sl w a n c xs) (k : Nat) (hk : k ≤ n) : Sl w a k c (xs.take k) := by
  obtain ⟨h1, h2, h3, h4⟩ := h
  have hl := h1.1
  refine ⟨⟨by rw [List.length_take]; omega, by have := h1.2.1; omega, fun x hx => h1.2.2.1 x (List.mem_of_mem_take hx), fun j hj => ?_⟩, by omega, h3, h4⟩
  obtain ⟨g, o, e, hc⟩ := h1.2.2.2 j (by omega)
  refine ⟨g, o, e, ?_⟩
  rw [hc, List.getD, List.getD, List.getElem?_take, if_pos hj]
theorem sl_nil (w : World) : Sl w none 0 0 [] := ⟨Row.nil _ _, by omega, by omega, fun h => absurd h (by omega)⟩
attribute [local irreducible] wpList
set_option maxHeartbeats 8000000 in
set_option maxRecDepth 100000 in
theorem walkHashParts (ka : Option Addr) (kn kc : Nat) (kz : List Int) (a : Option Addr) (n c : Nat) (zs : List Int) (p : Int) (hp : (Lit.int .u16 p).wf = true) (w : World) (hk : IsRow .u8 w ka kn kc kz) (h : IsRow .u8 w a n c zs) (tabs : TabK w ∧ TabH w) :
    Calls Tryd.prog 8 #[.slice ka kn kc, .slice a n c, .int .u16 p] w fun e w' => e = .returned (.bool true) ∧ Below w.heap.size w w' := by
  obtain ⟨p, rfl, hp'⟩ := nat_u16' hp
  obtain ⟨bs, hbs⟩ : ∃ q, zs.take n = q := ⟨_, rfl⟩
  obtain ⟨ks, hks⟩ : ∃ q, kz.take kn = q := ⟨_, rfl⟩
  have hs := sl_of h
  have hs' := sl_of hk
  rw [hbs] at hs
  rw [hks] at hs'
  have HS := Lib.hid hs
  have HKS := Lib.hid hs'
  have HPL := Lib.hid hp'
  have HT := Lib.hid tabs.1
  have HH := Lib.hid tabs.2
  clear hbs hks hs hs' h hk tabs hp hp'
  go_enter Tryd.func8, Tryd.ntmps8
  go_upto_region 0 with (fail)
  refine wp_region_lit ?_
  refine wpL_pure (.bool false) rfl (by kernel_rfl) ?_
  simp only [Act.put, List.setIfInBounds_toArray, List.set_cons_zero, List.set_cons_succ]
  go_upto_region 1 with (fail)
  refine wp_region_lit ?_
  refine wpL_call 10 #[] rfl (by kernel_rfl) (((awake_any w HT.out HH.out)).mono fun e w1 ⟨he, hb⟩ => ⟨.bool true, he, ?_⟩)
  simp only [Act.put, List.setIfInBounds_toArray, List.set_cons_zero, List.set_cons_succ]
  have B1 := Lib.hid hb
  clear hb
  refine wpL_pure (.bool false) rfl (by kernel_rfl) ?_
  simp only [Act.put, List.setIfInBounds_toArray, List.set_cons_zero, List.set_cons_succ]
  refine wpL_pure (.bool false) rfl (by kernel_rfl) ?_
  simp only [Act.put, List.setIfInBounds_toArray, List.set_cons_zero, List.set_cons_succ]
  refine wpL_pure (.slice a n c) rfl (by kernel_rfl) ?_
  simp only [Act.put, List.setIfInBounds_toArray, List.set_cons_zero, List.set_cons_succ]
  refine wpL_pure (.int .i64 (n : Int)) rfl (by kernel_rfl) ?_
  simp only [Act.put, List.setIfInBounds_toArray, List.set_cons_zero, List.set_cons_succ]
  by_cases hl : n ≤ 2000
  · have HL := Lib.hid hl
    clear hl
    refine wpL_pure (.bool false) rfl (run_gti Tryd.underlying3 rfl rfl rfl (by have := HL.out; rw [decide_eq_false_iff_not]; omega)) ?_
    simp only [Act.put, List.setIfInBounds_toArray, List.set_cons_zero, List.set_cons_succ]
    refine wpL_pure (.bool false) rfl (by kernel_rfl) ?_
    simp only [Act.put, List.setIfInBounds_toArray, List.set_cons_zero, List.set_cons_succ]
    refine wpL_pure (.bool false) rfl (by kernel_rfl) ?_
    simp only [Act.put, List.setIfInBounds_toArray, List.set_cons_zero, List.set_cons_succ]
    refine wpL_pure (.slice ka kn kc) rfl (by kernel_rfl) ?_
    simp only [Act.put, List.setIfInBounds_toArray, List.set_cons_zero, List.set_cons_succ]
    refine wpL_pure (.int .i64 (kn : Int)) rfl (by kernel_rfl) ?_
    simp only [Act.put, List.setIfInBounds_toArray, List.set_cons_zero, List.set_cons_succ]
    by_cases hk : kn ≤ 200
    · have HK := Lib.hid hk
      clear hk
      refine wpL_pure (.bool false) rfl (run_gti Tryd.underlying3 rfl rfl rfl (by have := HK.out; rw [decide_eq_false_iff_not]; omega)) ?_
      simp only [Act.put, List.setIfInBounds_toArray, List.set_cons_zero, List.set_cons_succ]
      refine wpL_pure (.bool false) rfl (by kernel_rfl) ?_
      simp only [Act.put, List.setIfInBounds_toArray, List.set_cons_zero, List.set_cons_succ]
      obtain ⟨k, hk⟩ : ∃ v, p % (n + 1) = v := ⟨_, rfl⟩
      have KE := Lib.hid hk
      have KL : Hid (k ≤ n) := Lib.hid (by have := Nat.mod_lt p (show n + 1 > 0 by omega); omega)
      have HS1 : Hid (Sl w a k c (bs.take k)) := Lib.hid (HS.out.takeN k KL.out)
      have HS2 : Hid (Sl w (dropA a c k) (n - k) (c - k) (bs.drop k)) := Lib.hid (HS.out.drop k KL.out)
      clear hk
      go_upto_region 3 with (fail)
      refine wp_region_lit ?_
      refine wpL_pure (.int .u16 (p : Int)) rfl (by kernel_rfl) ?_
      simp only [Act.put, List.setIfInBounds_toArray, List.set_cons_zero, List.set_cons_succ]
      refine wpL_pure (.int .i64 (p : Int)) rfl (run_convi Tryd.underlying29 Tryd.underlying3 rfl rfl _ (by have := HPL.out; rw [wrap_in _ (by omega) (by omega)])) ?_
      simp only [Act.put, List.setIfInBounds_toArray, List.set_cons_zero, List.set_cons_succ]
      refine wpL_pure (.slice a n c) rfl (by kernel_rfl) ?_
      simp only [Act.put, List.setIfInBounds_toArray, List.set_cons_zero, List.set_cons_succ]
      refine wpL_pure (.int .i64 (n : Int)) rfl (by kernel_rfl) ?_
      simp only [Act.put, List.setIfInBounds_toArray, List.set_cons_zero, List.set_cons_succ]
      refine wpL_pure (.int .i64 ((n + 1 : Nat) : Int)) rfl (run_addi Tryd.underlying3 rfl rfl rfl _ (by have := HL.out; rw [wrap_in _ (by omega) (by omega)]; omega)) ?_
      simp only [Act.put, List.setIfInBounds_toArray, List.set_cons_zero, List.set_cons_succ]
      refine wpL_pure (.int .i64 (k : Int)) rfl (by rw [← KE.out]; exact run_remn _ _ _ _ _ p (n + 1) rfl rfl rfl (by have := HPL.out; omega) (by omega) (by have := HL.out; omega)) ?_
      simp only [Act.put, List.setIfInBounds_toArray, List.set_cons_zero, List.set_cons_succ]
      refine wpL_pure (.int .i64 (k : Int)) rfl (by kernel_rfl) ?_
      simp only [Act.put, List.setIfInBounds_toArray, List.set_cons_zero, List.set_cons_succ]
      have A0 : Hid (Below w.heap.size w w1.drew) := Lib.hid (B1.out.drew)
      clear B1
      go_upto_region 4 with (fail)
      refine region_any (by kernel_rfl) 29 rfl ?_
      refine wpAny_take (i := 0) (oi := ⟨some 27, _, _, _, _, _⟩) (v := (.slice a n c)) rfl (by kernel_rfl) (by kernel_rfl) (by kernel_rfl) (fun _ _ _ h => h) (Or.inl ⟨rfl, fun w => by kernel_rfl⟩) ?_
      simp only [Act.put, List.setIfInBounds_toArray, List.set_cons_zero, List.set_cons_succ]
      refine wpAny_take (i := 1) (oi := ⟨some 28, _, _, _, _, _⟩) (v := (.int .i64 (k : Int))) rfl (by kernel_rfl) (by kernel_rfl) (by kernel_rfl) (fun _ _ _ h => h) (Or.inl ⟨rfl, fun w => by kernel_rfl⟩) ?_
      simp only [Act.put, List.setIfInBounds_toArray, List.set_cons_zero, List.set_cons_succ]
      refine wpAny_take (i := 2) (oi := ⟨some 29, _, _, _, _, _⟩) (v := (.slice a k c)) rfl (by kernel_rfl) (by kernel_rfl) (by kernel_rfl) (fun _ _ _ h => h) (Or.inl ⟨rfl, fun w => run_slto _ _ _ _ _ a n c k rfl rfl rfl (by have := KL.out; have := HS.out.2.1; omega) HS.out.2.2.1 HS.out.2.2.2⟩) ?_
      simp only [Act.put, List.setIfInBounds_toArray, List.set_cons_zero, List.set_cons_succ]
      refine wpAny_take (i := 3) (oi := ⟨some 30, _, _, _, _, _⟩) (v := (.slice a n c)) rfl (by kernel_rfl) (by kernel_rfl) (by kernel_rfl) (fun _ _ _ h => h) (Or.inl ⟨rfl, fun w => by kernel_rfl⟩) ?_
      simp only [Act.put, List.setIfInBounds_toArray, List.set_cons_zero, List.set_cons_succ]
      refine wpAny_take (i := 4) (oi := ⟨some 31, _, _, _, _, _⟩) (v := (.int .i64 (k : Int))) rfl (by kernel_rfl) (by kernel_rfl) (by kernel_rfl) (fun _ _ _ h => h) (Or.inl ⟨rfl, fun w => by kernel_rfl⟩) ?_
      simp only [Act.put, List.setIfInBounds_toArray, List.set_cons_zero, List.set_cons_succ]
      refine wpAny_take (i := 5) (oi := ⟨some 32, _, _, _, _, _⟩) (v := (.slice (dropA a c k) (n - k) (c - k))) rfl (by kernel_rfl) (by kernel_rfl) (by kernel_rfl) (fun _ _ _ h => h) (Or.inl ⟨rfl, fun w => run_slicep' _ _ _ _ _ a n c k _ rfl rfl rfl KL.out HS.out.2.1 HS.out.2.2 rfl⟩) ?_
      simp only [Act.put, List.setIfInBounds_toArray, List.set_cons_zero, List.set_cons_succ]
      refine wpAny_take (i := 8) (oi := ⟨some 35, _, _, _, _, _⟩) (v := (.slice a n c)) rfl (by kernel_rfl) (by kernel_rfl) (by kernel_rfl) (fun _ _ _ h => h) (Or.inl ⟨rfl, fun w => by kernel_rfl⟩) ?_
      simp only [Act.put, List.setIfInBounds_toArray, List.set_cons_zero, List.set_cons_succ]
      refine wpAny_all (rs := [6, 9]) (by kernel_rfl) (by simp) ?_
      intro i hi
      simp only [List.mem_cons, List.not_mem_nil, or_false] at hi
      rcases hi with rfl | rfl
      · obtain ⟨z1, hz1⟩ : ∃ V, V = w1.drew.alloc (.cells #[.slice a k c, .slice (dropA a c k) (n - k) (c - k)] 22) := ⟨_, rfl⟩
        obtain ⟨gz1, kz1⟩ : ∃ q, w1.drew.heap.size = q := ⟨_, rfl⟩
        have qz1 : Below w1.drew.heap.size w1.drew z1 := by rw [hz1]; exact (Below.refl _ _).alloc (Nat.le_refl _) _
        have bz1 : Blk z1 gz1 22 #[.slice a k c, .slice (dropA a c k) (n - k) (c - k)] := by rw [hz1, ← kz1]; exact Blk.new _ _ _
        have Fz10 := Lib.hid (show Below w.heap.size w z1 from A0.out.trans (qz1.mono A0.out.size))
        have Fz1 := Lib.hid (show Below w.heap.size w z1 ∧ PSl z1 (some ⟨gz1, 0, none⟩) 2 [(bs.take k), (bs.drop k)] from ⟨Fz10.out, psl_two bz1 (HS1.out.below Fz10.out) (HS2.out.below Fz10.out) (by have := HL.out; have := KL.out; omega) (by have := HL.out; have := KL.out; omega)⟩)
        clear qz1 bz1 Fz10
        refine op_valw (o := ⟨some 33, _, _, _, _, _⟩) (.slice (some ⟨gz1, 0, none⟩) 2 2) z1 rfl rfl (by rw [hz1, ← kz1]; kernel_rfl) ?_
        simp only [Act.put, List.setIfInBounds_toArray, List.set_cons_zero, List.set_cons_succ]
        clear hz1 kz1
        refine wpAny_all (rs := [7, 9]) (by kernel_rfl) (by simp) ?_
        intro i hi
        simp only [List.mem_cons, List.not_mem_nil, or_false] at hi
        rcases hi with rfl | rfl
        · refine op_call (o := ⟨some 34, _, _, _, _, _⟩) 15 #[.slice (some ⟨gz1, 0, none⟩) 2 2] rfl rfl (by kernel_rfl) (((sum_any z1 (some ⟨gz1, 0, none⟩) 2 2 [(bs.take k), (bs.drop k)] Fz1.out.2 (by omega) (HT.out.below Fz1.out.1) (HH.out.below Fz1.out.1))).mono fun e z2 ⟨he, qz2⟩ => ⟨.agg (u8l (shaS bs)).toArray, (he.trans (by simp)), ?_⟩)
          simp only [Act.put, List.setIfInBounds_toArray, List.set_cons_zero, List.set_cons_succ]
          have Fz2 := Lib.hid (show Below w.heap.size w z2 ∧ PSl z2 (some ⟨gz1, 0, none⟩) 2 [(bs.take k), (bs.drop k)] from ⟨Fz1.out.1.trans (qz2.mono Fz1.out.1.size), Fz1.out.2.below qz2⟩)
          clear qz2
          refine wpAny_all (rs := [9]) (by kernel_rfl) (by simp) ?_
          intro i hi
          simp only [List.mem_cons, List.not_mem_nil, or_false] at hi
          subst hi
          obtain ⟨z3, hz3⟩ : ∃ V, V = z2.alloc (.cells #[.slice a n c] 22) := ⟨_, rfl⟩
          obtain ⟨gz3, kz3⟩ : ∃ q, z2.heap.size = q := ⟨_, rfl⟩
          have qz3 : Below z2.heap.size z2 z3 := by rw [hz3]; exact (Below.refl _ _).alloc (Nat.le_refl _) _
          have bz3 : Blk z3 gz3 22 #[.slice a n c] := by rw [hz3, ← kz3]; exact Blk.new _ _ _
          have Fz30 := Lib.hid (show Below w.heap.size w z3 ∧ PSl z3 (some ⟨gz1, 0, none⟩) 2 [(bs.take k), (bs.drop k)] from ⟨Fz2.out.1.trans (qz3.mono Fz2.out.1.size), Fz2.out.2.below qz3⟩)
          have Fz3 := Lib.hid (show Below w.heap.size w z3 ∧ PSl z3 (some ⟨gz1, 0, none⟩) 2 [(bs.take k), (bs.drop k)] ∧ PSl z3 (some ⟨gz3, 0, none⟩) 1 [bs] from ⟨Fz30.out.1, Fz30.out.2, psl_one bz3 (HS.out.below Fz30.out.1) (by have := HL.out; have := KL.out; omega)⟩)
          clear qz3 bz3 Fz30
          refine op_valw (o := ⟨some 36, _, _, _, _, _⟩) (.slice (some ⟨gz3, 0, none⟩) 1 1) z3 rfl rfl (by rw [hz3, ← kz3]; kernel_rfl) ?_
          simp only [Act.put, List.setIfInBounds_toArray, List.set_cons_zero, List.set_cons_succ]
          clear hz3 kz3
          refine wpAny_all (rs := [10]) (by kernel_rfl) (by simp) ?_
          intro i hi
          simp only [List.mem_cons, List.not_mem_nil, or_false] at hi
          subst hi
          refine op_call (o := ⟨some 37, _, _, _, _, _⟩) 15 #[.slice (some ⟨gz3, 0, none⟩) 1 1] rfl rfl (by kernel_rfl) (((sum_any z3 (some ⟨gz3, 0, none⟩) 1 1 [bs] Fz3.out.2.2 (by omega) (HT.out.below Fz3.out.1) (HH.out.below Fz3.out.1))).mono fun e z4 ⟨he, qz4⟩ => ⟨.agg (u8l (shaS bs)).toArray, (he.trans (by simp)), ?_⟩)
          simp only [Act.put, List.setIfInBounds_toArray, List.set_cons_zero, List.set_cons_succ]
          have Fz4 := Lib.hid (show Below w.heap.size w z4 ∧ PSl z4 (some ⟨gz1, 0, none⟩) 2 [(bs.take k), (bs.drop k)] ∧ PSl z4 (some ⟨gz3, 0, none⟩) 1 [bs] from ⟨Fz3.out.1.trans (qz4.mono Fz3.out.1.size), Fz3.out.2.1.below qz4, Fz3.out.2.2.below qz4⟩)
          clear qz4
          refine wpAny_take (i := 11) (oi := ⟨some 38, _, _, _, _, _⟩) (v := (.bool true)) rfl (by kernel_rfl) (by kernel_rfl) (by kernel_rfl) (fun _ _ _ h => h) (Or.inl ⟨rfl, fun w => run_eq26 _ _ _ _ _ (shaS bs) (shaS_len _) rfl rfl rfl⟩) ?_
          simp only [Act.put, List.setIfInBounds_toArray, List.set_cons_zero, List.set_cons_succ]
          refine wpAny_take (i := 12) (oi := ⟨some 39, _, _, _, _, _⟩) (v := (.bool true)) rfl (by kernel_rfl) (by kernel_rfl) (by kernel_rfl) (fun _ _ _ h => h) (Or.inl ⟨rfl, fun w => by kernel_rfl⟩) ?_
          simp only [Act.put, List.setIfInBounds_toArray, List.set_cons_zero, List.set_cons_succ]
          refine wpAny_take (i := 13) (oi := ⟨some 40, _, _, _, _, _⟩) (v := (.slice ka kn kc)) rfl (by kernel_rfl) (by kernel_rfl) (by kernel_rfl) (fun _ _ _ h => h) (Or.inl ⟨rfl, fun w => by kernel_rfl⟩) ?_
          simp only [Act.put, List.setIfInBounds_toArray, List.set_cons_zero, List.set_cons_succ]
          refine wpAny_take (i := 14) (oi := ⟨some 41, _, _, _, _, _⟩) (v := (.slice a n c)) rfl (by kernel_rfl) (by kernel_rfl) (by kernel_rfl) (fun _ _ _ h => h) (Or.inl ⟨rfl, fun w => by kernel_rfl⟩) ?_
          simp only [Act.put, List.setIfInBounds_toArray, List.set_cons_zero, List.set_cons_succ]
          refine wpAny_take (i := 15) (oi := ⟨some 42, _, _, _, _, _⟩) (v := (.int .i64 (k : Int))) rfl (by kernel_rfl) (by kernel_rfl) (by kernel_rfl) (fun _ _ _ h => h) (Or.inl ⟨rfl, fun w => by kernel_rfl⟩) ?_
          simp only [Act.put, List.setIfInBounds_toArray, List.set_cons_zero, List.set_cons_succ]
          refine wpAny_take (i := 16) (oi := ⟨some 43, _, _, _, _, _⟩) (v := (.slice a k c)) rfl (by kernel_rfl) (by kernel_rfl) (by kernel_rfl) (fun _ _ _ h => h) (Or.inl ⟨rfl, fun w => run_slto _ _ _ _ _ a n c k rfl rfl rfl (by have := KL.out; have := HS.out.2.1; omega) HS.out.2.2.1 HS.out.2.2.2⟩) ?_
          simp only [Act.put, List.setIfInBounds_toArray, List.set_cons_zero, List.set_cons_succ]
          refine wpAny_take (i := 17) (oi := ⟨some 44, _, _, _, _, _⟩) (v := (.slice a n c)) rfl (by kernel_rfl) (by kernel_rfl) (by kernel_rfl) (fun _ _ _ h => h) (Or.inl ⟨rfl, fun w => by kernel_rfl⟩) ?_
          simp only [Act.put, List.setIfInBounds_toArray, List.set_cons_zero, List.set_cons_succ]
          refine wpAny_take (i := 18) (oi := ⟨some 45, _, _, _, _, _⟩) (v := (.int .i64 (k : Int))) rfl (by kernel_rfl) (by kernel_rfl) (by kernel_rfl) (fun _ _ _ h => h) (Or.inl ⟨rfl, fun w => by kernel_rfl⟩) ?_
          simp only [Act.put, List.setIfInBounds_toArray, List.set_cons_zero, List.set_cons_succ]
          refine wpAny_take (i := 19) (oi := ⟨some 46, _, _, _, _, _⟩) (v := (.slice (dropA a c k) (n - k) (c - k))) rfl (by kernel_rfl) (by kernel_rfl) (by kernel_rfl) (fun _ _ _ h => h) (Or.inl ⟨rfl, fun w => run_slicep' _ _ _ _ _ a n c k _ rfl rfl rfl KL.out HS.out.2.1 HS.out.2.2 rfl⟩) ?_
          simp only [Act.put, List.setIfInBounds_toArray, List.set_cons_zero, List.set_cons_succ]
          refine wpAny_take (i := 22) (oi := ⟨some 49, _, _, _, _, _⟩) (v := (.slice ka kn kc)) rfl (by kernel_rfl) (by kernel_rfl) (by kernel_rfl) (fun _ _ _ h => h) (Or.inl ⟨rfl, fun w => by kernel_rfl⟩) ?_
          simp only [Act.put, List.setIfInBounds_toArray, List.set_cons_zero, List.set_cons_succ]
          refine wpAny_take (i := 23) (oi := ⟨some 50, _, _, _, _, _⟩) (v := (.slice a n c)) rfl (by kernel_rfl) (by kernel_rfl) (by kernel_rfl) (fun _ _ _ h => h) (Or.inl ⟨rfl, fun w => by kernel_rfl⟩) ?_
          simp only [Act.put, List.setIfInBounds_toArray, List.set_cons_zero, List.set_cons_succ]
          refine wpAny_all (rs := [20, 24]) (by kernel_rfl) (by simp) ?_
          intro i hi
          simp only [List.mem_cons, List.not_mem_nil, or_false] at hi
          rcases hi with rfl | rfl
          · obtain ⟨z5, hz5⟩ : ∃ V, V = z4.alloc (.cells #[.slice a k c, .slice none 0 0, .slice (dropA a c k) (n - k) (c - k)] 22) := ⟨_, rfl⟩
            obtain ⟨gz5, kz5⟩ : ∃ q, z4.heap.size = q := ⟨_, rfl⟩
            have qz5 : Below z4.heap.size z4 z5 := by rw [hz5]; exact (Below.refl _ _).alloc (Nat.le_refl _) _
            have bz5 : Blk z5 gz5 22 #[.slice a k c, .slice none 0 0, .slice (dropA a c k) (n - k) (c - k)] := by rw [hz5, ← kz5]; exact Blk.new _ _ _
            have Fz50 := Lib.hid (show Below w.heap.size w z5 ∧ PSl z5 (some ⟨gz1, 0, none⟩) 2 [(bs.take k), (bs.drop k)] ∧ PSl z5 (some ⟨gz3, 0, none⟩) 1 [bs] from ⟨Fz4.out.1.trans (qz5.mono Fz4.out.1.size), Fz4.out.2.1.below qz5, Fz4.out.2.2.below qz5⟩)
            have Fz5 := Lib.hid (show Below w.heap.size w z5 ∧ PSl z5 (some ⟨gz1, 0, none⟩) 2 [(bs.take k), (bs.drop k)] ∧ PSl z5 (some ⟨gz3, 0, none⟩) 1 [bs] ∧ PSl z5 (some ⟨gz5, 0, none⟩) 3 [(bs.take k), [], (bs.drop k)] from ⟨Fz50.out.1, Fz50.out.2.1, Fz50.out.2.2, psl_three bz5 (HS1.out.below Fz50.out.1) (sl_nil _) (HS2.out.below Fz50.out.1) (by have := HL.out; have := KL.out; omega) (by omega) (by have := HL.out; have := KL.out; omega)⟩)
            clear qz5 bz5 Fz50
            refine op_valw (o := ⟨some 47, _, _, _, _, _⟩) (.slice (some ⟨gz5, 0, none⟩) 3 3) z5 rfl rfl (by rw [hz5, ← kz5]; kernel_rfl) ?_
            simp only [Act.put, List.setIfInBounds_toArray, List.set_cons_zero, List.set_cons_succ]
            clear hz5 kz5
            refine wpAny_all (rs := [21, 24]) (by kernel_rfl) (by simp) ?_
            intro i hi
            simp only [List.mem_cons, List.not_mem_nil, or_false] at hi
            rcases hi with rfl | rfl
            · refine op_call (o := ⟨some 48, _, _, _, _, _⟩) 12 #[.slice ka kn kc, .slice (some ⟨gz5, 0, none⟩) 3 3] rfl rfl (by kernel_rfl) (((mac_any z5 ka kn kc ks (some ⟨gz5, 0, none⟩) 3 3 [(bs.take k), [], (bs.drop k)] (HKS.out.below Fz5.out.1) (by have := HK.out; omega) Fz5.out.2.2.2 (by omega) (HT.out.below Fz5.out.1) (HH.out.below Fz5.out.1))).mono fun e z6 ⟨he, qz6⟩ => ⟨.agg (u8l (macS ks bs)).toArray, (he.trans (by simp)), ?_⟩)
              simp only [Act.put, List.setIfInBounds_toArray, List.set_cons_zero, List.set_cons_succ]
              have Fz6 := Lib.hid (show Below w.heap.size w z6 ∧ PSl z6 (some ⟨gz1, 0, none⟩) 2 [(bs.take k), (bs.drop k)] ∧ PSl z6 (some ⟨gz3, 0, none⟩) 1 [bs] ∧ PSl z6 (some ⟨gz5, 0, none⟩) 3 [(bs.take k), [], (bs.drop k)] from ⟨Fz5.out.1.trans (qz6.mono Fz5.out.1.size), Fz5.out.2.1.below qz6, Fz5.out.2.2.1.below qz6, Fz5.out.2.2.2.below qz6⟩)
              clear qz6
              refine wpAny_all (rs := [24]) (by kernel_rfl) (by simp) ?_
              intro i hi
              simp only [List.mem_cons, List.not_mem_nil, or_false] at hi
              subst hi
              obtain ⟨z7, hz7⟩ : ∃ V, V = z6.alloc (.cells #[.slice a n c] 22) := ⟨_, rfl⟩
              obtain ⟨gz7, kz7⟩ : ∃ q, z6.heap.size = q := ⟨_, rfl⟩
              have qz7 : Below z6.heap.size z6 z7 := by rw [hz7]; exact (Below.refl _ _).alloc (Nat.le_refl _) _
              have bz7 : Blk z7 gz7 22 #[.slice a n c] := by rw [hz7, ← kz7]; exact Blk.new _ _ _
              have Fz70 := Lib.hid (show Below w.heap.size w z7 ∧ PSl z7 (some ⟨gz1, 0, none⟩) 2 [(bs.take k), (bs.drop k)] ∧ PSl z7 (some ⟨gz3, 0, none⟩) 1 [bs] ∧ PSl z7 (some ⟨gz5, 0, none⟩) 3 [(bs.take k), [], (bs.drop k)] from ⟨Fz6.out.1.trans (qz7.mono Fz6.out.1.size), Fz6.out.2.1.below qz7, Fz6.out.2.2.1.below qz7, Fz6.out.2.2.2.below qz7⟩)
              have Fz7 := Lib.hid (show Below w.heap.size w z7 ∧ PSl z7 (some ⟨gz1, 0, none⟩) 2 [(bs.take k), (bs.drop k)] ∧ PSl z7 (some ⟨gz3, 0, none⟩) 1 [bs] ∧ PSl z7 (some ⟨gz5, 0, none⟩) 3 [(bs.take k), [], (bs.drop k)] ∧ PSl z7 (some ⟨gz7, 0, none⟩) 1 [bs] from ⟨Fz70.out.1, Fz70.out.2.1, Fz70.out.2.2.1, Fz70.out.2.2.2, psl_one bz7 (HS.out.below Fz70.out.1) (by have := HL.out; have := KL.out; omega)⟩)
              clear qz7 bz7 Fz70
              refine op_valw (o := ⟨some 51, _, _, _, _, _⟩) (.slice (some ⟨gz7, 0, none⟩) 1 1) z7 rfl rfl (by rw [hz7, ← kz7]; kernel_rfl) ?_
              simp only [Act.put, List.setIfInBounds_toArray, List.set_cons_zero, List.set_cons_succ]
              clear hz7 kz7
              refine wpAny_all (rs := [25]) (by kernel_rfl) (by simp) ?_
              intro i hi
              simp only [List.mem_cons, List.not_mem_nil, or_false] at hi
              subst hi
              refine op_call (o := ⟨some 52, _, _, _, _, _⟩) 12 #[.slice ka kn kc, .slice (some ⟨gz7, 0, none⟩) 1 1] rfl rfl (by kernel_rfl) (((mac_any z7 ka kn kc ks (some ⟨gz7, 0, none⟩) 1 1 [bs] (HKS.out.below Fz7.out.1) (by have := HK.out; omega) Fz7.out.2.2.2.2 (by omega) (HT.out.below Fz7.out.1) (HH.out.below Fz7.out.1))).mono fun e z8 ⟨he, qz8⟩ => ⟨.agg (u8l (macS ks bs)).toArray, (he.trans (by simp)), ?_⟩)
              simp only [Act.put, List.setIfInBounds_toArray, List.set_cons_zero, List.set_cons_succ]
              have Fz8 := Lib.hid (show Below w.heap.size w z8 ∧ PSl z8 (some ⟨gz1, 0, none⟩) 2 [(bs.take k), (bs.drop k)] ∧ PSl z8 (some ⟨gz3, 0, none⟩) 1 [bs] ∧ PSl z8 (some ⟨gz5, 0, none⟩) 3 [(bs.take k), [], (bs.drop k)] ∧ PSl z8 (some ⟨gz7, 0, none⟩) 1 [bs] from ⟨Fz7.out.1.trans (qz8.mono Fz7.out.1.size), Fz7.out.2.1.below qz8, Fz7.out.2.2.1.below qz8, Fz7.out.2.2.2.1.below qz8, Fz7.out.2.2.2.2.below qz8⟩)
              clear qz8
              refine wpAny_take (i := 26) (oi := ⟨some 53, _, _, _, _, _⟩) (v := (.bool true)) rfl (by kernel_rfl) (by kernel_rfl) (by kernel_rfl) (fun _ _ _ h => h) (Or.inl ⟨rfl, fun w => run_eq26 _ _ _ _ _ (macS ks bs) (macS_len _ _) rfl rfl rfl⟩) ?_
              simp only [Act.put, List.setIfInBounds_toArray, List.set_cons_zero, List.set_cons_succ]
              refine wpAny_take (i := 27) (oi := ⟨some 54, _, _, _, _, _⟩) (v := (.bool true)) rfl (by kernel_rfl) (by kernel_rfl) (by kernel_rfl) (fun _ _ _ h => h) (Or.inl ⟨rfl, fun w => by kernel_rfl⟩) ?_
              simp only [Act.put, List.setIfInBounds_toArray, List.set_cons_zero, List.set_cons_succ]
              refine wpAny_take (i := 28) (oi := ⟨some 6, _, _, _, _, _⟩) (v := (.bool true)) rfl (by kernel_rfl) (by kernel_rfl) (by kernel_rfl) (fun _ _ _ h => h) (Or.inl ⟨rfl, fun w => by kernel_rfl⟩) ?_
              simp only [Act.put, List.setIfInBounds_toArray, List.set_cons_zero, List.set_cons_succ]
              refine wpAny_done (by kernel_rfl) ?_ _
              go_wp2_with fail
              go_ret
              exact ⟨rfl, Fz8.out.1⟩
            · obtain ⟨z9, hz9⟩ : ∃ V, V = z5.alloc (.cells #[.slice a n c] 22) := ⟨_, rfl⟩
              obtain ⟨gz9, kz9⟩ : ∃ q, z5.heap.size = q := ⟨_, rfl⟩
              have qz9 : Below z5.heap.size z5 z9 := by rw [hz9]; exact (Below.refl _ _).alloc (Nat.le_refl _) _
              have bz9 : Blk z9 gz9 22 #[.slice a n c] := by rw [hz9, ← kz9]; exact Blk.new _ _ _
              have Fz90 := Lib.hid (show Below w.heap.size w z9 ∧ PSl z9 (some ⟨gz1, 0, none⟩) 2 [(bs.take k), (bs.drop k)] ∧ PSl z9 (some ⟨gz3, 0, none⟩) 1 [bs] ∧ PSl z9 (some ⟨gz5, 0, none⟩) 3 [(bs.take k), [], (bs.drop k)] from ⟨Fz5.out.1.trans (qz9.mono Fz5.out.1.size), Fz5.out.2.1.below qz9, Fz5.out.2.2.1.below qz9, Fz5.out.2.2.2.below qz9⟩)
              have Fz9 := Lib.hid (show Below w.heap.size w z9 ∧ PSl z9 (some ⟨gz1, 0, none⟩) 2 [(bs.take k), (bs.drop k)] ∧ PSl z9 (some ⟨gz3, 0, none⟩) 1 [bs] ∧ PSl z9 (some ⟨gz5, 0, none⟩) 3 [(bs.take k), [], (bs.drop k)] ∧ PSl z9 (some ⟨gz9, 0, none⟩) 1 [bs] from ⟨Fz90.out.1, Fz90.out.2.1, Fz90.out.2.2.1, Fz90.out.2.2.2, psl_one bz9 (HS.out.below Fz90.out.1) (by have := HL.out; have := KL.out; omega)⟩)
              clear qz9 bz9 Fz90
              refine op_valw (o := ⟨some 51, _, _, _, _, _⟩) (.slice (some ⟨gz9, 0, none⟩) 1 1) z9 rfl rfl (by rw [hz9, ← kz9]; kernel_rfl) ?_
              simp only [Act.put, List.setIfInBounds_toArray, List.set_cons_zero, List.set_cons_succ]
              clear hz9 kz9
              refine wpAny_all (rs := [21]) (by kernel_rfl) (by simp) ?_
              intro i hi
              simp only [List.mem_cons, List.not_mem_nil, or_false] at hi
              subst hi
              refine op_call (o := ⟨some 48, _, _, _, _, _⟩) 12 #[.slice ka kn kc, .slice (some ⟨gz5, 0, none⟩) 3 3] rfl rfl (by kernel_rfl) (((mac_any z9 ka kn kc ks (some ⟨gz5, 0, none⟩) 3 3 [(bs.take k), [], (bs.drop k)] (HKS.out.below Fz9.out.1) (by have := HK.out; omega) Fz9.out.2.2.2.1 (by omega) (HT.out.below Fz9.out.1) (HH.out.below Fz9.out.1))).mono fun e z10 ⟨he, qz10⟩ => ⟨.agg (u8l (macS ks bs)).toArray, (he.trans (by simp)), ?_⟩)
              simp only [Act.put, List.setIfInBounds_toArray, List.set_cons_zero, List.set_cons_succ]
              have Fz10 := Lib.hid (show Below w.heap.size w z10 ∧ PSl z10 (some ⟨gz1, 0, none⟩) 2 [(bs.take k), (bs.drop k)] ∧ PSl z10 (some ⟨gz3, 0, none⟩) 1 [bs] ∧ PSl z10 (some ⟨gz5, 0, none⟩) 3 [(bs.take k), [], (bs.drop k)] ∧ PSl z10 (some ⟨gz9, 0, none⟩) 1 [bs] from ⟨Fz9.out.1.trans (qz10.mono Fz9.out.1.size), Fz9.out.2.1.below qz10, Fz9.out.2.2.1.below qz10, Fz9.out.2.2.2.1.below qz10, Fz9.out.2.2.2.2.below qz10⟩)
              clear qz10
              refine wpAny_all (rs := [25]) (by kernel_rfl) (by simp) ?_
              intro i hi
              simp only [List.mem_cons, List.not_mem_nil, or_false] at hi
              subst hi
              refine op_call (o := ⟨some 52, _, _, _, _, _⟩) 12 #[.slice ka kn kc, .slice (some ⟨gz9, 0, none⟩) 1 1] rfl rfl (by kernel_rfl) (((mac_any z10 ka kn kc ks (some ⟨gz9, 0, none⟩) 1 1 [bs] (HKS.out.below Fz10.out.1) (by have := HK.out; omega) Fz10.out.2.2.2.2 (by omega) (HT.out.below Fz10.out.1) (HH.out.below Fz10.out.1))).mono fun e z11 ⟨he, qz11⟩ => ⟨.agg (u8l (macS ks bs)).toArray, (he.trans (by simp)), ?_⟩)
              simp only [Act.put, List.setIfInBounds_toArray, List.set_cons_zero, List.set_cons_succ]
              have Fz11 := Lib.hid (show Below w.heap.size w z11 ∧ PSl z11 (some ⟨gz1, 0, none⟩) 2 [(bs.take k), (bs.drop k)] ∧ PSl z11 (some ⟨gz3, 0, none⟩) 1 [bs] ∧ PSl z11 (some ⟨gz5, 0, none⟩) 3 [(bs.take k), [], (bs.drop k)] ∧ PSl z11 (some ⟨gz9, 0, none⟩) 1 [bs] from ⟨Fz10.out.1.trans (qz11.mono Fz10.out.1.size), Fz10.out.2.1.below qz11, Fz10.out.2.2.1.below qz11, Fz10.out.2.2.2.1.below qz11, Fz10.out.2.2.2.2.below qz11⟩)
              clear qz11
              refine wpAny_take (i := 26) (oi := ⟨some 53, _, _, _, _, _⟩) (v := (.bool true)) rfl (by kernel_rfl) (by kernel_rfl) (by kernel_rfl) (fun _ _ _ h => h) (Or.inl ⟨rfl, fun w => run_eq26 _ _ _ _ _ (macS ks bs) (macS_len _ _) rfl rfl rfl⟩) ?_
              simp only [Act.put, List.setIfInBounds_toArray, List.set_cons_zero, List.set_cons_succ]
              refine wpAny_take (i := 27) (oi := ⟨some 54, _, _, _, _, _⟩) (v := (.bool true)) rfl (by kernel_rfl) (by kernel_rfl) (by kernel_rfl) (fun _ _ _ h => h) (Or.inl ⟨rfl, fun w => by kernel_rfl⟩) ?_
              simp only [Act.put, List.setIfInBounds_toArray, List.set_cons_zero, List.set_cons_succ]
              refine wpAny_take (i := 28) (oi := ⟨some 6, _, _, _, _, _⟩) (v := (.bool true)) rfl (by kernel_rfl) (by kernel_rfl) (by kernel_rfl) (fun _ _ _ h => h) (Or.inl ⟨rfl, fun w => by kernel_rfl⟩) ?_
              simp only [Act.put, List.setIfInBounds_toArray, List.set_cons_zero, List.set_cons_succ]
              refine wpAny_done (by kernel_rfl) ?_ _
              go_wp2_with fail
              go_ret
              exact ⟨rfl, Fz11.out.1⟩
          · obtain ⟨z12, hz12⟩ : ∃ V, V = z4.alloc (.cells #[.slice a n c] 22) := ⟨_, rfl⟩
            obtain ⟨gz12, kz12⟩ : ∃ q, z4.heap.size = q := ⟨_, rfl⟩
            have qz12 : Below z4.heap.size z4 z12 := by rw [hz12]; exact (Below.refl _ _).alloc (Nat.le_refl _) _
            have bz12 : Blk z12 gz12 22 #[.slice a n c] := by rw [hz12, ← kz12]; exact Blk.new _ _ _
            have Fz120 := Lib.hid (show Below w.heap.size w z12 ∧ PSl z12 (some ⟨gz1, 0, none⟩) 2 [(bs.take k), (bs.drop k)] ∧ PSl z12 (some ⟨gz3, 0, none⟩) 1 [bs] from ⟨Fz4.out.1.trans (qz12.mono Fz4.out.1.size), Fz4.out.2.1.below qz12, Fz4.out.2.2.below qz12⟩)
            have Fz12 := Lib.hid (show Below w.heap.size w z12 ∧ PSl z12 (some ⟨gz1, 0, none⟩) 2 [(bs.take k), (bs.drop k)] ∧ PSl z12 (some ⟨gz3, 0, none⟩) 1 [bs] ∧ PSl z12 (some ⟨gz12, 0, none⟩) 1 [bs] from ⟨Fz120.out.1, Fz120.out.2.1, Fz120.out.2.2, psl_one bz12 (HS.out.below Fz120.out.1) (by have := HL.out; have := KL.out; omega)⟩)
            clear qz12 bz12 Fz120
            refine op_valw (o := ⟨some 51, _, _, _, _, _⟩) (.slice (some ⟨gz12, 0, none⟩) 1 1) z12 rfl rfl (by rw [hz12, ← kz12]; kernel_rfl) ?_
            simp only [Act.put, List.setIfInBounds_toArray, List.set_cons_zero, List.set_cons_succ]
            clear hz12 kz12
            refine wpAny_all (rs := [20]) (by kernel_rfl) (by simp) ?_
            intro i hi
            simp only [List.mem_cons, List.not_mem_nil, or_false] at hi
            subst hi
            obtain ⟨z13, hz13⟩ : ∃ V, V = z12.alloc (.cells #[.slice a k c, .slice none 0 0, .slice (dropA a c k) (n - k) (c - k)] 22) := ⟨_, rfl⟩
            obtain ⟨gz13, kz13⟩ : ∃ q, z12.heap.size = q := ⟨_, rfl⟩
            have qz13 : Below z12.heap.size z12 z13 := by rw [hz13]; exact (Below.refl _ _).alloc (Nat.le_refl _) _
            have bz13 : Blk z13 gz13 22 #[.slice a k c, .slice none 0 0, .slice (dropA a c k) (n - k) (c - k)] := by rw [hz13, ← kz13]; exact Blk.new _ _ _
            have Fz130 := Lib.hid (show Below w.heap.size w z13 ∧ PSl z13 (some ⟨gz1, 0, none⟩) 2 [(bs.take k), (bs.drop k)] ∧ PSl z13 (some ⟨gz3, 0, none⟩) 1 [bs] ∧ PSl z13 (some ⟨gz12, 0, none⟩) 1 [bs] from ⟨Fz12.out.1.trans (qz13.mono Fz12.out.1.size), Fz12.out.2.1.below qz13, Fz12.out.2.2.1.below qz13, Fz12.out.2.2.2.below qz13⟩)
            have Fz13 := Lib.hid (show Below w.heap.size w z13 ∧ PSl z13 (some ⟨gz1, 0, none⟩) 2 [(bs.take k), (bs.drop k)] ∧ PSl z13 (some ⟨gz3, 0, none⟩) 1 [bs] ∧ PSl z13 (some ⟨gz12, 0, none⟩) 1 [bs] ∧ PSl z13 (some ⟨gz13, 0, none⟩) 3 [(bs.take k), [], (bs.drop k)] from ⟨Fz130.out.1, Fz130.out.2.1, Fz130.out.2.2.1, Fz130.out.2.2.2, psl_three bz13 (HS1.out.below Fz130.out.1) (sl_nil _) (HS2.out.below Fz130.out.1) (by have := HL.out; have := KL.out; omega) (by omega) (by have := HL.out; have := KL.out; omega)⟩)
            clear qz13 bz13 Fz130
            refine op_valw (o := ⟨some 47, _, _, _, _, _⟩) (.slice (some ⟨gz13, 0, none⟩) 3 3) z13 rfl rfl (by rw [hz13, ← kz13]; kernel_rfl) ?_
            simp only [Act.put, List.setIfInBounds_toArray, List.set_cons_zero, List.set_cons_succ]
            clear hz13 kz13
            refine wpAny_all (rs := [21]) (by kernel_rfl) (by simp) ?_
            intro i hi
            simp only [List.mem_cons, List.not_mem_nil, or_false] at hi
            subst hi
            refine op_call (o := ⟨some 48, _, _, _, _, _⟩) 12 #[.slice ka kn kc, .slice (some ⟨gz13, 0, none⟩) 3 3] rfl rfl (by kernel_rfl) (((mac_any z13 ka kn kc ks (some ⟨gz13, 0, none⟩) 3 3 [(bs.take k), [], (bs.drop k)] (HKS.out.below Fz13.out.1) (by have := HK.out; omega) Fz13.out.2.2.2.2 (by omega) (HT.out.below Fz13.out.1) (HH.out.below Fz13.out.1))).mono fun e z14 ⟨he, qz14⟩ => ⟨.agg (u8l (macS ks bs)).toArray, (he.trans (by simp)), ?_⟩)
            simp only [Act.put, List.setIfInBounds_toArray, List.set_cons_zero, List.set_cons_succ]
            have Fz14 := Lib.hid (show Below w.heap.size w z14 ∧ PSl z14 (some ⟨gz1, 0, none⟩) 2 [(bs.take k), (bs.drop k)] ∧ PSl z14 (some ⟨gz3, 0, none⟩) 1 [bs] ∧ PSl z14 (some ⟨gz12, 0, none⟩) 1 [bs] ∧ PSl z14 (some ⟨gz13, 0, none⟩) 3 [(bs.take k), [], (bs.drop k)] from ⟨Fz13.out.1.trans (qz14.mono Fz13.out.1.size), Fz13.out.2.1.below qz14, Fz13.out.2.2.1.below qz14, Fz13.out.2.2.2.1.below qz14, Fz13.out.2.2.2.2.below qz14⟩)
            clear qz14
            refine wpAny_all (rs := [25]) (by kernel_rfl) (by simp) ?_
            intro i hi
            simp only [List.mem_cons, List.not_mem_nil, or_false] at hi
            subst hi
            refine op_call (o := ⟨some 52, _, _, _, _, _⟩) 12 #[.slice ka kn kc, .slice (some ⟨gz12, 0, none⟩) 1 1] rfl rfl (by kernel_rfl) (((mac_any z14 ka kn kc ks (some ⟨gz12, 0, none⟩) 1 1 [bs] (HKS.out.below Fz14.out.1) (by have := HK.out; omega) Fz14.out.2.2.2.1 (by omega) (HT.out.below Fz14.out.1) (HH.out.below Fz14.out.1))).mono fun e z15 ⟨he, qz15⟩ => ⟨.agg (u8l (macS ks bs)).toArray, (he.trans (by simp)), ?_⟩)
            simp only [Act.put, List.setIfInBounds_toArray, List.set_cons_zero, List.set_cons_succ]
            have Fz15 := Lib.hid (show Below w.heap.size w z15 ∧ PSl z15 (some ⟨gz1, 0, none⟩) 2 [(bs.take k), (bs.drop k)] ∧ PSl z15 (some ⟨gz3, 0, none⟩) 1 [bs] ∧ PSl z15 (some ⟨gz12, 0, none⟩) 1 [bs] ∧ PSl z15 (some ⟨gz13, 0, none⟩) 3 [(bs.take k), [], (bs.drop k)] from ⟨Fz14.out.1.trans (qz15.mono Fz14.out.1.size), Fz14.out.2.1.below qz15, Fz14.out.2.2.1.below qz15, Fz14.out.2.2.2.1.below qz15, Fz14.out.2.2.2.2.below qz15⟩)
            clear qz15
            refine wpAny_take (i := 26) (oi := ⟨some 53, _, _, _, _, _⟩) (v := (.bool true)) rfl (by kernel_rfl) (by kernel_rfl) (by kernel_rfl) (fun _ _ _ h => h) (Or.inl ⟨rfl, fun w => run_eq26 _ _ _ _ _ (macS ks bs) (macS_len _ _) rfl rfl rfl⟩) ?_
            simp only [Act.put, List.setIfInBounds_toArray, List.set_cons_zero, List.set_cons_succ]
            refine wpAny_take (i := 27) (oi := ⟨some 54, _, _, _, _, _⟩) (v := (.bool true)) rfl (by kernel_rfl) (by kernel_rfl) (by kernel_rfl) (fun _ _ _ h => h) (Or.inl ⟨rfl, fun w => by kernel_rfl⟩) ?_
            simp only [Act.put, List.setIfInBounds_toArray, List.set_cons_zero, List.set_cons_succ]
            refine wpAny_take (i := 28) (oi := ⟨some 6, _, _, _, _, _⟩) (v := (.bool true)) rfl (by kernel_rfl) (by kernel_rfl) (by kernel_rfl) (fun _ _ _ h => h) (Or.inl ⟨rfl, fun w => by kernel_rfl⟩) ?_
            simp only [Act.put, List.setIfInBounds_toArray, List.set_cons_zero, List.set_cons_succ]
            refine wpAny_done (by kernel_rfl) ?_ _
            go_wp2_with fail
            go_ret
            exact ⟨rfl, Fz15.out.1⟩
        · obtain ⟨z16, hz16⟩ : ∃ V, V = z1.alloc (.cells #[.slice a n c] 22) := ⟨_, rfl⟩
          obtain ⟨gz16, kz16⟩ : ∃ q, z1.heap.size = q := ⟨_, rfl⟩
          have qz16 : Below z1.heap.size z1 z16 := by rw [hz16]; exact (Below.refl _ _).alloc (Nat.le_refl _) _
          have bz16 : Blk z16 gz16 22 #[.slice a n c] := by rw [hz16, ← kz16]; exact Blk.new _ _ _
          have Fz160 := Lib.hid (show Below w.heap.size w z16 ∧ PSl z16 (some ⟨gz1, 0, none⟩) 2 [(bs.take k), (bs.drop k)] from ⟨Fz1.out.1.trans (qz16.mono Fz1.out.1.size), Fz1.out.2.below qz16⟩)
          have Fz16 := Lib.hid (show Below w.heap.size w z16 ∧ PSl z16 (some ⟨gz1, 0, none⟩) 2 [(bs.take k), (bs.drop k)] ∧ PSl z16 (some ⟨gz16, 0, none⟩) 1 [bs] from ⟨Fz160.out.1, Fz160.out.2, psl_one bz16 (HS.out.below Fz160.out.1) (by have := HL.out; have := KL.out; omega)⟩)
          clear qz16 bz16 Fz160
          refine op_valw (o := ⟨some 36, _, _, _, _, _⟩) (.slice (some ⟨gz16, 0, none⟩) 1 1) z16 rfl rfl (by rw [hz16, ← kz16]; kernel_rfl) ?_
          simp only [Act.put, List.setIfInBounds_toArray, List.set_cons_zero, List.set_cons_succ]
          clear hz16 kz16
          refine wpAny_all (rs := [7]) (by kernel_rfl) (by simp) ?_
          intro i hi
          simp only [List.mem_cons, List.not_mem_nil, or_false] at hi
          subst hi
          refine op_call (o := ⟨some 34, _, _, _, _, _⟩) 15 #[.slice (some ⟨gz1, 0, none⟩) 2 2] rfl rfl (by kernel_rfl) (((sum_any z16 (some ⟨gz1, 0, none⟩) 2 2 [(bs.take k), (bs.drop k)] Fz16.out.2.1 (by omega) (HT.out.below Fz16.out.1) (HH.out.below Fz16.out.1))).mono fun e z17 ⟨he, qz17⟩ => ⟨.agg (u8l (shaS bs)).toArray, (he.trans (by simp)), ?_⟩)
          simp only [Act.put, List.setIfInBounds_toArray, List.set_cons_zero, List.set_cons_succ]
          have Fz17 := Lib.hid (show Below w.heap.size w z17 ∧ PSl z17 (some ⟨gz1, 0, none⟩) 2 [(bs.take k), (bs.drop k)] ∧ PSl z17 (some ⟨gz16, 0, none⟩) 1 [bs] from ⟨Fz16.out.1.trans (qz17.mono Fz16.out.1.size), Fz16.out.2.1.below qz17, Fz16.out.2.2.below qz17⟩)
          clear qz17
          refine wpAny_all (rs := [10]) (by kernel_rfl) (by simp) ?_
          intro i hi
          simp only [List.mem_cons, List.not_mem_nil, or_false] at hi
          subst hi
          refine op_call (o := ⟨some 37, _, _, _, _, _⟩) 15 #[.slice (some ⟨gz16, 0, none⟩) 1 1] rfl rfl (by kernel_rfl) (((sum_any z17 (some ⟨gz16, 0, none⟩) 1 1 [bs] Fz17.out.2.2 (by omega) (HT.out.below Fz17.out.1) (HH.out.below Fz17.out.1))).mono fun e z18 ⟨he, qz18⟩ => ⟨.agg (u8l (shaS bs)).toArray, (he.trans (by simp)), ?_⟩)
          simp only [Act.put, List.setIfInBounds_toArray, List.set_cons_zero, List.set_cons_succ]
          have Fz18 := Lib.hid (show Below w.heap.size w z18 ∧ PSl z18 (some ⟨gz1, 0, none⟩) 2 [(bs.take k), (bs.drop k)] ∧ PSl z18 (some ⟨gz16, 0, none⟩) 1 [bs] from ⟨Fz17.out.1.trans (qz18.mono Fz17.out.1.size), Fz17.out.2.1.below qz18, Fz17.out.2.2.below qz18⟩)
          clear qz18
          refine wpAny_take (i := 11) (oi := ⟨some 38, _, _, _, _, _⟩) (v := (.bool true)) rfl (by kernel_rfl) (by kernel_rfl) (by kernel_rfl) (fun _ _ _ h => h) (Or.inl ⟨rfl, fun w => run_eq26 _ _ _ _ _ (shaS bs) (shaS_len _) rfl rfl rfl⟩) ?_
          simp only [Act.put, List.setIfInBounds_toArray, List.set_cons_zero, List.set_cons_succ]
          refine wpAny_take (i := 12) (oi := ⟨some 39, _, _, _, _, _⟩) (v := (.bool true)) rfl (by kernel_rfl) (by kernel_rfl) (by kernel_rfl) (fun _ _ _ h => h) (Or.inl ⟨rfl, fun w => by kernel_rfl⟩) ?_
          simp only [Act.put, List.setIfInBounds_toArray, List.set_cons_zero, List.set_cons_succ]
          refine wpAny_take (i := 13) (oi := ⟨some 40, _, _, _, _, _⟩) (v := (.slice ka kn kc)) rfl (by kernel_rfl) (by kernel_rfl) (by kernel_rfl) (fun _ _ _ h => h) (Or.inl ⟨rfl, fun w => by kernel_rfl⟩) ?_
          simp only [Act.put, List.setIfInBounds_toArray, List.set_cons_zero, List.set_cons_succ]
          refine wpAny_take (i := 14) (oi := ⟨some 41, _, _, _, _, _⟩) (v := (.slice a n c)) rfl (by kernel_rfl) (by kernel_rfl) (by kernel_rfl) (fun _ _ _ h => h) (Or.inl ⟨rfl, fun w => by kernel_rfl⟩) ?_
          simp only [Act.put, List.setIfInBounds_toArray, List.set_cons_zero, List.set_cons_succ]
          refine wpAny_take (i := 15) (oi := ⟨some 42, _, _, _, _, _⟩) (v := (.int .i64 (k : Int))) rfl (by kernel_rfl) (by kernel_rfl) (by kernel_rfl) (fun _ _ _ h => h) (Or.inl ⟨rfl, fun w => by kernel_rfl⟩) ?_
          simp only [Act.put, List.setIfInBounds_toArray, List.set_cons_zero, List.set_cons_succ]
          refine wpAny_take (i := 16) (oi := ⟨some 43, _, _, _, _, _⟩) (v := (.slice a k c)) rfl (by kernel_rfl) (by kernel_rfl) (by kernel_rfl) (fun _ _ _ h => h) (Or.inl ⟨rfl, fun w => run_slto _ _ _ _ _ a n c k rfl rfl rfl (by have := KL.out; have := HS.out.2.1; omega) HS.out.2.2.1 HS.out.2.2.2⟩) ?_
          simp only [Act.put, List.setIfInBounds_toArray, List.set_cons_zero, List.set_cons_succ]
          refine wpAny_take (i := 17) (oi := ⟨some 44, _, _, _, _, _⟩) (v := (.slice a n c)) rfl (by kernel_rfl) (by kernel_rfl) (by kernel_rfl) (fun _ _ _ h => h) (Or.inl ⟨rfl, fun w => by kernel_rfl⟩) ?_
          simp only [Act.put, List.setIfInBounds_toArray, List.set_cons_zero, List.set_cons_succ]
          refine wpAny_take (i := 18) (oi := ⟨some 45, _, _, _, _, _⟩) (v := (.int .i64 (k : Int))) rfl (by kernel_rfl) (by kernel_rfl) (by kernel_rfl) (fun _ _ _ h => h) (Or.inl ⟨rfl, fun w => by kernel_rfl⟩) ?_
          simp only [Act.put, List.setIfInBounds_toArray, List.set_cons_zero, List.set_cons_succ]
          refine wpAny_take (i := 19) (oi := ⟨some 46, _, _, _, _, _⟩) (v := (.slice (dropA a c k) (n - k) (c - k))) rfl (by kernel_rfl) (by kernel_rfl) (by kernel_rfl) (fun _ _ _ h => h) (Or.inl ⟨rfl, fun w => run_slicep' _ _ _ _ _ a n c k _ rfl rfl rfl KL.out HS.out.2.1 HS.out.2.2 rfl⟩) ?_
          simp only [Act.put, List.setIfInBounds_toArray, List.set_cons_zero, List.set_cons_succ]
          refine wpAny_take (i := 22) (oi := ⟨some 49, _, _, _, _, _⟩) (v := (.slice ka kn kc)) rfl (by kernel_rfl) (by kernel_rfl) (by kernel_rfl) (fun _ _ _ h => h) (Or.inl ⟨rfl, fun w => by kernel_rfl⟩) ?_
          simp only [Act.put, List.setIfInBounds_toArray, List.set_cons_zero, List.set_cons_succ]
          refine wpAny_take (i := 23) (oi := ⟨some 50, _, _, _, _, _⟩) (v := (.slice a n c)) rfl (by kernel_rfl) (by kernel_rfl) (by kernel_rfl) (fun _ _ _ h => h) (Or.inl ⟨rfl, fun w => by kernel_rfl⟩) ?_
          simp only [Act.put, List.setIfInBounds_toArray, List.set_cons_zero, List.set_cons_succ]
          refine wpAny_all (rs := [20, 24]) (by kernel_rfl) (by simp) ?_
          intro i hi
          simp only [List.mem_cons, List.not_mem_nil, or_false] at hi
          rcases hi with rfl | rfl
          · obtain ⟨z19, hz19⟩ : ∃ V, V = z18.alloc (.cells #[.slice a k c, .slice none 0 0, .slice (dropA a c k) (n - k) (c - k)] 22) := ⟨_, rfl⟩
            obtain ⟨gz19, kz19⟩ : ∃ q, z18.heap.size = q := ⟨_, rfl⟩
            have qz19 : Below z18.heap.size z18 z19 := by rw [hz19]; exact (Below.refl _ _).alloc (Nat.le_refl _) _
            have bz19 : Blk z19 gz19 22 #[.slice a k c, .slice none 0 0, .slice (dropA a c k) (n - k) (c - k)] := by rw [hz19, ← kz19]; exact Blk.new _ _ _
            have Fz190 := Lib.hid (show Below w.heap.size w z19 ∧ PSl z19 (some ⟨gz1, 0, none⟩) 2 [(bs.take k), (bs.drop k)] ∧ PSl z19 (some ⟨gz16, 0, none⟩) 1 [bs] from ⟨Fz18.out.1.trans (qz19.mono Fz18.out.1.size), Fz18.out.2.1.below qz19, Fz18.out.2.2.below qz19⟩)
            have Fz19 := Lib.hid (show Below w.heap.size w z19 ∧ PSl z19 (some ⟨gz1, 0, none⟩) 2 [(bs.take k), (bs.drop k)] ∧ PSl z19 (some ⟨gz16, 0, none⟩) 1 [bs] ∧ PSl z19 (some ⟨gz19, 0, none⟩) 3 [(bs.take k), [], (bs.drop k)] from ⟨Fz190.out.1, Fz190.out.2.1, Fz190.out.2.2, psl_three bz19 (HS1.out.below Fz190.out.1) (sl_nil _) (HS2.out.below Fz190.out.1) (by have := HL.out; have := KL.out; omega) (by omega) (by have := HL.out; have := KL.out; omega)⟩)
            clear qz19 bz19 Fz190
            refine op_valw (o := ⟨some 47, _, _, _, _, _⟩) (.slice (some ⟨gz19, 0, none⟩) 3 3) z19 rfl rfl (by rw [hz19, ← kz19]; kernel_rfl) ?_
            simp only [Act.put, List.setIfInBounds_toArray, List.set_cons_zero, List.set_cons_succ]
            clear hz19 kz19
            refine wpAny_all (rs := [21, 24]) (by kernel_rfl) (by simp) ?_
            intro i hi
            simp only [List.mem_cons, List.not_mem_nil, or_false] at hi
            rcases hi with rfl | rfl
            · refine op_call (o := ⟨some 48, _, _, _, _, _⟩) 12 #[.slice ka kn kc, .slice (some ⟨gz19, 0, none⟩) 3 3] rfl rfl (by kernel_rfl) (((mac_any z19 ka kn kc ks (some ⟨gz19, 0, none⟩) 3 3 [(bs.take k), [], (bs.drop k)] (HKS.out.below Fz19.out.1) (by have := HK.out; omega) Fz19.out.2.2.2 (by omega) (HT.out.below Fz19.out.1) (HH.out.below Fz19.out.1))).mono fun e z20 ⟨he, qz20⟩ => ⟨.agg (u8l (macS ks bs)).toArray, (he.trans (by simp)), ?_⟩)
              simp only [Act.put, List.setIfInBounds_toArray, List.set_cons_zero, List.set_cons_succ]
              have Fz20 := Lib.hid (show Below w.heap.size w z20 ∧ PSl z20 (some ⟨gz1, 0, none⟩) 2 [(bs.take k), (bs.drop k)] ∧ PSl z20 (some ⟨gz16, 0, none⟩) 1 [bs] ∧ PSl z20 (some ⟨gz19, 0, none⟩) 3 [(bs.take k), [], (bs.drop k)] from ⟨Fz19.out.1.trans (qz20.mono Fz19.out.1.size), Fz19.out.2.1.below qz20, Fz19.out.2.2.1.below qz20, Fz19.out.2.2.2.below qz20⟩)
              clear qz20
              refine wpAny_all (rs := [24]) (by kernel_rfl) (by simp) ?_
              intro i hi
              simp only [List.mem_cons, List.not_mem_nil, or_false] at hi
              subst hi
              obtain ⟨z21, hz21⟩ : ∃ V, V = z20.alloc (.cells #[.slice a n c] 22) := ⟨_, rfl⟩
              obtain ⟨gz21, kz21⟩ : ∃ q, z20.heap.size = q := ⟨_, rfl⟩
              have qz21 : Below z20.heap.size z20 z21 := by rw [hz21]; exact (Below.refl _ _).alloc (Nat.le_refl _) _
              have bz21 : Blk z21 gz21 22 #[.slice a n c] := by rw [hz21, ← kz21]; exact Blk.new _ _ _
              have Fz210 := Lib.hid (show Below w.heap.size w z21 ∧ PSl z21 (some ⟨gz1, 0, none⟩) 2 [(bs.take k), (bs.drop k)] ∧ PSl z21 (some ⟨gz16, 0, none⟩) 1 [bs] ∧ PSl z21 (some ⟨gz19, 0, none⟩) 3 [(bs.take k), [], (bs.drop k)] from ⟨Fz20.out.1.trans (qz21.mono Fz20.out.1.size), Fz20.out.2.1.below qz21, Fz20.out.2.2.1.below qz21, Fz20.out.2.2.2.below qz21⟩)
              have Fz21 := Lib.hid (show Below w.heap.size w z21 ∧ PSl z21 (some ⟨gz1, 0, none⟩) 2 [(bs.take k), (bs.drop k)] ∧ PSl z21 (some ⟨gz16, 0, none⟩) 1 [bs] ∧ PSl z21 (some ⟨gz19, 0, none⟩) 3 [(bs.take k), [], (bs.drop k)] ∧ PSl z21 (some ⟨gz21, 0, none⟩) 1 [bs] from ⟨Fz210.out.1, Fz210.out.2.1, Fz210.out.2.2.1, Fz210.out.2.2.2, psl_one bz21 (HS.out.below Fz210.out.1) (by have := HL.out; have := KL.out; omega)⟩)
              clear qz21 bz21 Fz210
              refine op_valw (o := ⟨some 51, _, _, _, _, _⟩) (.slice (some ⟨gz21, 0, none⟩) 1 1) z21 rfl rfl (by rw [hz21, ← kz21]; kernel_rfl) ?_
              simp only [Act.put, List.setIfInBounds_toArray, List.set_cons_zero, List.set_cons_succ]
              clear hz21 kz21
              refine wpAny_all (rs := [25]) (by kernel_rfl) (by simp) ?_
              intro i hi
              simp only [List.mem_cons, List.not_mem_nil, or_false] at hi
              subst hi
              refine op_call (o := ⟨some 52, _, _, _, _, _⟩) 12 #[.slice ka kn kc, .slice (some ⟨gz21, 0, none⟩) 1 1] rfl rfl (by kernel_rfl) (((mac_any z21 ka kn kc ks (some ⟨gz21, 0, none⟩) 1 1 [bs] (HKS.out.below Fz21.out.1) (by have := HK.out; omega) Fz21.out.2.2.2.2 (by omega) (HT.out.below Fz21.out.1) (HH.out.below Fz21.out.1))).mono fun e z22 ⟨he, qz22⟩ => ⟨.agg (u8l (macS ks bs)).toArray, (he.trans (by simp)), ?_⟩)
              simp only [Act.put, List.setIfInBounds_toArray, List.set_cons_zero, List.set_cons_succ]
              have Fz22 := Lib.hid (show Below w.heap.size w z22 ∧ PSl z22 (some ⟨gz1, 0, none⟩) 2 [(bs.take k), (bs.drop k)] ∧ PSl z22 (some ⟨gz16, 0, none⟩) 1 [bs] ∧ PSl z22 (some ⟨gz19, 0, none⟩) 3 [(bs.take k), [], (bs.drop k)] ∧ PSl z22 (some ⟨gz21, 0, none⟩) 1 [bs] from ⟨Fz21.out.1.trans (qz22.mono Fz21.out.1.size), Fz21.out.2.1.below qz22, Fz21.out.2.2.1.below qz22, Fz21.out.2.2.2.1.below qz22, Fz21.out.2.2.2.2.below qz22⟩)
              clear qz22
              refine wpAny_take (i := 26) (oi := ⟨some 53, _, _, _, _, _⟩) (v := (.bool true)) rfl (by kernel_rfl) (by kernel_rfl) (by kernel_rfl) (fun _ _ _ h => h) (Or.inl ⟨rfl, fun w => run_eq26 _ _ _ _ _ (macS ks bs) (macS_len _ _) rfl rfl rfl⟩) ?_
              simp only [Act.put, List.setIfInBounds_toArray, List.set_cons_zero, List.set_cons_succ]
              refine wpAny_take (i := 27) (oi := ⟨some 54, _, _, _, _, _⟩) (v := (.bool true)) rfl (by kernel_rfl) (by kernel_rfl) (by kernel_rfl) (fun _ _ _ h => h) (Or.inl ⟨rfl, fun w => by kernel_rfl⟩) ?_
              simp only [Act.put, List.setIfInBounds_toArray, List.set_cons_zero, List.set_cons_succ]
              refine wpAny_take (i := 28) (oi := ⟨some 6, _, _, _, _, _⟩) (v := (.bool true)) rfl (by kernel_rfl) (by kernel_rfl) (by kernel_rfl) (fun _ _ _ h => h) (Or.inl ⟨rfl, fun w => by kernel_rfl⟩) ?_
              simp only [Act.put, List.setIfInBounds_toArray, List.set_cons_zero, List.set_cons_succ]
              refine wpAny_done (by kernel_rfl) ?_ _
              go_wp2_with fail
              go_ret
              exact ⟨rfl, Fz22.out.1⟩
            · obtain ⟨z23, hz23⟩ : ∃ V, V = z19.alloc (.cells #[.slice a n c] 22) := ⟨_, rfl⟩
              obtain ⟨gz23, kz23⟩ : ∃ q, z19.heap.size = q := ⟨_, rfl⟩
              have qz23 : Below z19.heap.size z19 z23 := by rw [hz23]; exact (Below.refl _ _).alloc (Nat.le_refl _) _
              have bz23 : Blk z23 gz23 22 #[.slice a n c] := by rw [hz23, ← kz23]; exact Blk.new _ _ _
              have Fz230 := Lib.hid (show Below w.heap.size w z23 ∧ PSl z23 (some ⟨gz1, 0, none⟩) 2 [(bs.take k), (bs.drop k)] ∧ PSl z23 (some ⟨gz16, 0, none⟩) 1 [bs] ∧ PSl z23 (some ⟨gz19, 0, none⟩) 3 [(bs.take k), [], (bs.drop k)] from ⟨Fz19.out.1.trans (qz23.mono Fz19.out.1.size), Fz19.out.2.1.below qz23, Fz19.out.2.2.1.below qz23, Fz19.out.2.2.2.below qz23⟩)
              have Fz23 := Lib.hid (show Below w.heap.size w z23 ∧ PSl z23 (some ⟨gz1, 0, none⟩) 2 [(bs.take k), (bs.drop k)] ∧ PSl z23 (some ⟨gz16, 0, none⟩) 1 [bs] ∧ PSl z23 (some ⟨gz19, 0, none⟩) 3 [(bs.take k), [], (bs.drop k)] ∧ PSl z23 (some ⟨gz23, 0, none⟩) 1 [bs] from ⟨Fz230.out.1, Fz230.out.2.1, Fz230.out.2.2.1, Fz230.out.2.2.2, psl_one bz23 (HS.out.below Fz230.out.1) (by have := HL.out; have := KL.out; omega)⟩)
              clear qz23 bz23 Fz230
              refine op_valw (o := ⟨some 51, _, _, _, _, _⟩) (.slice (some ⟨gz23, 0, none⟩) 1 1) z23 rfl rfl (by rw [hz23, ← kz23]; kernel_rfl) ?_
              simp only [Act.put, List.setIfInBounds_toArray, List.set_cons_zero, List.set_cons_succ]
              clear hz23 kz23
              refine wpAny_all (rs := [21]) (by kernel_rfl) (by simp) ?_
              intro i hi
              simp only [List.mem_cons, List.not_mem_nil, or_false] at hi
              subst hi
              refine op_call (o := ⟨some 48, _, _, _, _, _⟩) 12 #[.slice ka kn kc, .slice (some ⟨gz19, 0, none⟩) 3 3] rfl rfl (by kernel_rfl) (((mac_any z23 ka kn kc ks (some ⟨gz19, 0, none⟩) 3 3 [(bs.take k), [], (bs.drop k)] (HKS.out.below Fz23.out.1) (by have := HK.out; omega) Fz23.out.2.2.2.1 (by omega) (HT.out.below Fz23.out.1) (HH.out.below Fz23.out.1))).mono fun e z24 ⟨he, qz24⟩ => ⟨.agg (u8l (macS ks bs)).toArray, (he.trans (by simp)), ?_⟩)
              simp only [Act.put, List.setIfInBounds_toArray, List.set_cons_zero, List.set_cons_succ]
              have Fz24 := Lib.hid (show Below w.heap.size w z24 ∧ PSl z24 (some ⟨gz1, 0, none⟩) 2 [(bs.take k), (bs.drop k)] ∧ PSl z24 (some ⟨gz16, 0, none⟩) 1 [bs] ∧ PSl z24 (some ⟨gz19, 0, none⟩) 3 [(bs.take k), [], (bs.drop k)] ∧ PSl z24 (some ⟨gz23, 0, none⟩) 1 [bs] from ⟨Fz23.out.1.trans (qz24.mono Fz23.out.1.size), Fz23.out.2.1.below qz24, Fz23.out.2.2.1.below qz24, Fz23.out.2.2.2.1.below qz24, Fz23.out.2.2.2.2.below qz24⟩)
              clear qz24
              refine wpAny_all (rs := [25]) (by kernel_rfl) (by simp) ?_
              intro i hi
              simp only [List.mem_cons, List.not_mem_nil, or_false] at hi
              subst hi
              refine op_call (o := ⟨some 52, _, _, _, _, _⟩) 12 #[.slice ka kn kc, .slice (some ⟨gz23, 0, none⟩) 1 1] rfl rfl (by kernel_rfl) (((mac_any z24 ka kn kc ks (some ⟨gz23, 0, none⟩) 1 1 [bs] (HKS.out.below Fz24.out.1) (by have := HK.out; omega) Fz24.out.2.2.2.2 (by omega) (HT.out.below Fz24.out.1) (HH.out.below Fz24.out.1))).mono fun e z25 ⟨he, qz25⟩ => ⟨.agg (u8l (macS ks bs)).toArray, (he.trans (by simp)), ?_⟩)
              simp only [Act.put, List.setIfInBounds_toArray, List.set_cons_zero, List.set_cons_succ]
              have Fz25 := Lib.hid (show Below w.heap.size w z25 ∧ PSl z25 (some ⟨gz1, 0, none⟩) 2 [(bs.take k), (bs.drop k)] ∧ PSl z25 (some ⟨gz16, 0, none⟩) 1 [bs] ∧ PSl z25 (some ⟨gz19, 0, none⟩) 3 [(bs.take k), [], (bs.drop k)] ∧ PSl z25 (some ⟨gz23, 0, none⟩) 1 [bs] from ⟨Fz24.out.1.trans (qz25.mono Fz24.out.1.size), Fz24.out.2.1.below qz25, Fz24.out.2.2.1.below qz25, Fz24.out.2.2.2.1.below qz25, Fz24.out.2.2.2.2.below qz25⟩)
              clear qz25
              refine wpAny_take (i := 26) (oi := ⟨some 53, _, _, _, _, _⟩) (v := (.bool true)) rfl (by kernel_rfl) (by kernel_rfl) (by kernel_rfl) (fun _ _ _ h => h) (Or.inl ⟨rfl, fun w => run_eq26 _ _ _ _ _ (macS ks bs) (macS_len _ _) rfl rfl rfl⟩) ?_
              simp only [Act.put, List.setIfInBounds_toArray, List.set_cons_zero, List.set_cons_succ]
              refine wpAny_take (i := 27) (oi := ⟨some 54, _, _, _, _, _⟩) (v := (.bool true)) rfl (by kernel_rfl) (by kernel_rfl) (by kernel_rfl) (fun _ _ _ h => h) (Or.inl ⟨rfl, fun w => by kernel_rfl⟩) ?_
              simp only [Act.put, List.setIfInBounds_toArray, List.set_cons_zero, List.set_cons_succ]
              refine wpAny_take (i := 28) (oi := ⟨some 6, _, _, _, _, _⟩) (v := (.bool true)) rfl (by kernel_rfl) (by kernel_rfl) (by kernel_rfl) (fun _ _ _ h => h) (Or.inl ⟨rfl, fun w => by kernel_rfl⟩) ?_
              simp only [Act.put, List.setIfInBounds_toArray, List.set_cons_zero, List.set_cons_succ]
              refine wpAny_done (by kernel_rfl) ?_ _
              go_wp2_with fail
              go_ret
              exact ⟨rfl, Fz25.out.1⟩
          · obtain ⟨z26, hz26⟩ : ∃ V, V = z18.alloc (.cells #[.slice a n c] 22) := ⟨_, rfl⟩
            obtain ⟨gz26, kz26⟩ : ∃ q, z18.heap.size = q := ⟨_, rfl⟩
            have qz26 : Below z18.heap.size z18 z26 := by rw [hz26]; exact (Below.refl _ _).alloc (Nat.le_refl _) _
            have bz26 : Blk z26 gz26 22 #[.slice a n c] := by rw [hz26, ← kz26]; exact Blk.new _ _ _
            have Fz260 := Lib.hid (show Below w.heap.size w z26 ∧ PSl z26 (some ⟨gz1, 0, none⟩) 2 [(bs.take k), (bs.drop k)] ∧ PSl z26 (some ⟨gz16, 0, none⟩) 1 [bs] from ⟨Fz18.out.1.trans (qz26.mono Fz18.out.1.size), Fz18.out.2.1.below qz26, Fz18.out.2.2.below qz26⟩)
            have Fz26 := Lib.hid (show Below w.heap.size w z26 ∧ PSl z26 (some ⟨gz1, 0, none⟩) 2 [(bs.take k), (bs.drop k)] ∧ PSl z26 (some ⟨gz16, 0, none⟩) 1 [bs] ∧ PSl z26 (some ⟨gz26, 0, none⟩) 1 [bs] from ⟨Fz260.out.1, Fz260.out.2.1, Fz260.out.2.2, psl_one bz26 (HS.out.below Fz260.out.1) (by have := HL.out; have := KL.out; omega)⟩)
            clear qz26 bz26 Fz260
            refine op_valw (o := ⟨some 51, _, _, _, _, _⟩) (.slice (some ⟨gz26, 0, none⟩) 1 1) z26 rfl rfl (by rw [hz26, ← kz26]; kernel_rfl) ?_
            simp only [Act.put, List.setIfInBounds_toArray, List.set_cons_zero, List.set_cons_succ]
            clear hz26 kz26
            refine wpAny_all (rs := [20]) (by kernel_rfl) (by simp) ?_
            intro i hi
            simp only [List.mem_cons, List.not_mem_nil, or_false] at hi
            subst hi
            obtain ⟨z27, hz27⟩ : ∃ V, V = z26.alloc (.cells #[.slice a k c, .slice none 0 0, .slice (dropA a c k) (n - k) (c - k)] 22) := ⟨_, rfl⟩
            obtain ⟨gz27, kz27⟩ : ∃ q, z26.heap.size = q := ⟨_, rfl⟩
            have qz27 : Below z26.heap.size z26 z27 := by rw [hz27]; exact (Below.refl _ _).alloc (Nat.le_refl _) _
            have bz27 : Blk z27 gz27 22 #[.slice a k c, .slice none 0 0, .slice (dropA a c k) (n - k) (c - k)] := by rw [hz27, ← kz27]; exact Blk.new _ _ _
            have Fz270 := Lib.hid (show Below w.heap.size w z27 ∧ PSl z27 (some ⟨gz1, 0, none⟩) 2 [(bs.take k), (bs.drop k)] ∧ PSl z27 (some ⟨gz16, 0, none⟩) 1 [bs] ∧ PSl z27 (some ⟨gz26, 0, none⟩) 1 [bs] from ⟨Fz26.out.1.trans (qz27.mono Fz26.out.1.size), Fz26.out.2.1.below qz27, Fz26.out.2.2.1.below qz27, Fz26.out.2.2.2.below qz27⟩)
            have Fz27 := Lib.hid (show Below w.heap.size w z27 ∧ PSl z27 (some ⟨gz1, 0, none⟩) 2 [(bs.take k), (bs.drop k)] ∧ PSl z27 (some ⟨gz16, 0, none⟩) 1 [bs] ∧ PSl z27 (some ⟨gz26, 0, none⟩) 1 [bs] ∧ PSl z27 (some ⟨gz27, 0, none⟩) 3 [(bs.take k), [], (bs.drop k)] from ⟨Fz270.out.1, Fz270.out.2.1, Fz270.out.2.2.1, Fz270.out.2.2.2, psl_three bz27 (HS1.out.below Fz270.out.1) (sl_nil _) (HS2.out.below Fz270.out.1) (by have := HL.out; have := KL.out; omega) (by omega) (by have := HL.out; have := KL.out; omega)⟩)
            clear qz27 bz27 Fz270
            refine op_valw (o := ⟨some 47, _, _, _, _, _⟩) (.slice (some ⟨gz27, 0, none⟩) 3 3) z27 rfl rfl (by rw [hz27, ← kz27]; kernel_rfl) ?_
            simp only [Act.put, List.setIfInBounds_toArray, List.set_cons_zero, List.set_cons_succ]
            clear hz27 kz27
            refine wpAny_all (rs := [21]) (by kernel_rfl) (by simp) ?_
            intro i hi
            simp only [List.mem_cons, List.not_mem_nil, or_false] at hi
            subst hi
            refine op_call (o := ⟨some 48, _, _, _, _, _⟩) 12 #[.slice ka kn kc, .slice (some ⟨gz27, 0, none⟩) 3 3] rfl rfl (by kernel_rfl) (((mac_any z27 ka kn kc ks (some ⟨gz27, 0, none⟩) 3 3 [(bs.take k), [], (bs.drop k)] (HKS.out.below Fz27.out.1) (by have := HK.out; omega) Fz27.out.2.2.2.2 (by omega) (HT.out.below Fz27.out.1) (HH.out.below Fz27.out.1))).mono fun e z28 ⟨he, qz28⟩ => ⟨.agg (u8l (macS ks bs)).toArray, (he.trans (by simp)), ?_⟩)
            simp only [Act.put, List.setIfInBounds_toArray, List.set_cons_zero, List.set_cons_succ]
            have Fz28 := Lib.hid (show Below w.heap.size w z28 ∧ PSl z28 (some ⟨gz1, 0, none⟩) 2 [(bs.take k), (bs.drop k)] ∧ PSl z28 (some ⟨gz16, 0, none⟩) 1 [bs] ∧ PSl z28 (some ⟨gz26, 0, none⟩) 1 [bs] ∧ PSl z28 (some ⟨gz27, 0, none⟩) 3 [(bs.take k), [], (bs.drop k)] from ⟨Fz27.out.1.trans (qz28.mono Fz27.out.1.size), Fz27.out.2.1.below qz28, Fz27.out.2.2.1.below qz28, Fz27.out.2.2.2.1.below qz28, Fz27.out.2.2.2.2.below qz28⟩)
            clear qz28
            refine wpAny_all (rs := [25]) (by kernel_rfl) (by simp) ?_
            intro i hi
            simp only [List.mem_cons, List.not_mem_nil, or_false] at hi
            subst hi
            refine op_call (o := ⟨some 52, _, _, _, _, _⟩) 12 #[.slice ka kn kc, .slice (some ⟨gz26, 0, none⟩) 1 1] rfl rfl (by kernel_rfl) (((mac_any z28 ka kn kc ks (some ⟨gz26, 0, none⟩) 1 1 [bs] (HKS.out.below Fz28.out.1) (by have := HK.out; omega) Fz28.out.2.2.2.1 (by omega) (HT.out.below Fz28.out.1) (HH.out.below Fz28.out.1))).mono fun e z29 ⟨he, qz29⟩ => ⟨.agg (u8l (macS ks bs)).toArray, (he.trans (by simp)), ?_⟩)
            simp only [Act.put, List.setIfInBounds_toArray, List.set_cons_zero, List.set_cons_succ]
            have Fz29 := Lib.hid (show Below w.heap.size w z29 ∧ PSl z29 (some ⟨gz1, 0, none⟩) 2 [(bs.take k), (bs.drop k)] ∧ PSl z29 (some ⟨gz16, 0, none⟩) 1 [bs] ∧ PSl z29 (some ⟨gz26, 0, none⟩) 1 [bs] ∧ PSl z29 (some ⟨gz27, 0, none⟩) 3 [(bs.take k), [], (bs.drop k)] from ⟨Fz28.out.1.trans (qz29.mono Fz28.out.1.size), Fz28.out.2.1.below qz29, Fz28.out.2.2.1.below qz29, Fz28.out.2.2.2.1.below qz29, Fz28.out.2.2.2.2.below qz29⟩)
            clear qz29
            refine wpAny_take (i := 26) (oi := ⟨some 53, _, _, _, _, _⟩) (v := (.bool true)) rfl (by kernel_rfl) (by kernel_rfl) (by kernel_rfl) (fun _ _ _ h => h) (Or.inl ⟨rfl, fun w => run_eq26 _ _ _ _ _ (macS ks bs) (macS_len _ _) rfl rfl rfl⟩) ?_
            simp only [Act.put, List.setIfInBounds_toArray, List.set_cons_zero, List.set_cons_succ]
            refine wpAny_take (i := 27) (oi := ⟨some 54, _, _, _, _, _⟩) (v := (.bool true)) rfl (by kernel_rfl) (by kernel_rfl) (by kernel_rfl) (fun _ _ _ h => h) (Or.inl ⟨rfl, fun w => by kernel_rfl⟩) ?_
            simp only [Act.put, List.setIfInBounds_toArray, List.set_cons_zero, List.set_cons_succ]
            refine wpAny_take (i := 28) (oi := ⟨some 6, _, _, _, _, _⟩) (v := (.bool true)) rfl (by kernel_rfl) (by kernel_rfl) (by kernel_rfl) (fun _ _ _ h => h) (Or.inl ⟨rfl, fun w => by kernel_rfl⟩) ?_
            simp only [Act.put, List.setIfInBounds_toArray, List.set_cons_zero, List.set_cons_succ]
            refine wpAny_done (by kernel_rfl) ?_ _
            go_wp2_with fail
            go_ret
            exact ⟨rfl, Fz29.out.1⟩
      · obtain ⟨z30, hz30⟩ : ∃ V, V = w1.drew.alloc (.cells #[.slice a n c] 22) := ⟨_, rfl⟩
        obtain ⟨gz30, kz30⟩ : ∃ q, w1.drew.heap.size = q := ⟨_, rfl⟩
        have qz30 : Below w1.drew.heap.size w1.drew z30 := by rw [hz30]; exact (Below.refl _ _).alloc (Nat.le_refl _) _
        have bz30 : Blk z30 gz30 22 #[.slice a n c] := by rw [hz30, ← kz30]; exact Blk.new _ _ _
        have Fz300 := Lib.hid (show Below w.heap.size w z30 from A0.out.trans (qz30.mono A0.out.size))
        have Fz30 := Lib.hid (show Below w.heap.size w z30 ∧ PSl z30 (some ⟨gz30, 0, none⟩) 1 [bs] from ⟨Fz300.out, psl_one bz30 (HS.out.below Fz300.out) (by have := HL.out; have := KL.out; omega)⟩)
        clear qz30 bz30 Fz300
        refine op_valw (o := ⟨some 36, _, _, _, _, _⟩) (.slice (some ⟨gz30, 0, none⟩) 1 1) z30 rfl rfl (by rw [hz30, ← kz30]; kernel_rfl) ?_
        simp only [Act.put, List.setIfInBounds_toArray, List.set_cons_zero, List.set_cons_succ]
        clear hz30 kz30
        refine wpAny_all (rs := [6]) (by kernel_rfl) (by simp) ?_
        intro i hi
        simp only [List.mem_cons, List.not_mem_nil, or_false] at hi
        subst hi
        obtain ⟨z31, hz31⟩ : ∃ V, V = z30.alloc (.cells #[.slice a k c, .slice (dropA a c k) (n - k) (c - k)] 22) := ⟨_, rfl⟩
        obtain ⟨gz31, kz31⟩ : ∃ q, z30.heap.size = q := ⟨_, rfl⟩
        have qz31 : Below z30.heap.size z30 z31 := by rw [hz31]; exact (Below.refl _ _).alloc (Nat.le_refl _) _
        have bz31 : Blk z31 gz31 22 #[.slice a k c, .slice (dropA a c k) (n - k) (c - k)] := by rw [hz31, ← kz31]; exact Blk.new _ _ _
        have Fz310 := Lib.hid (show Below w.heap.size w z31 ∧ PSl z31 (some ⟨gz30, 0, none⟩) 1 [bs] from ⟨Fz30.out.1.trans (qz31.mono Fz30.out.1.size), Fz30.out.2.below qz31⟩)
        have Fz31 := Lib.hid (show Below w.heap.size w z31 ∧ PSl z31 (some ⟨gz30, 0, none⟩) 1 [bs] ∧ PSl z31 (some ⟨gz31, 0, none⟩) 2 [(bs.take k), (bs.drop k)] from ⟨Fz310.out.1, Fz310.out.2, psl_two bz31 (HS1.out.below Fz310.out.1) (HS2.out.below Fz310.out.1) (by have := HL.out; have := KL.out; omega) (by have := HL.out; have := KL.out; omega)⟩)
        clear qz31 bz31 Fz310
        refine op_valw (o := ⟨some 33, _, _, _, _, _⟩) (.slice (some ⟨gz31, 0, none⟩) 2 2) z31 rfl rfl (by rw [hz31, ← kz31]; kernel_rfl) ?_
        simp only [Act.put, List.setIfInBounds_toArray, List.set_cons_zero, List.set_cons_succ]
        clear hz31 kz31
        refine wpAny_all (rs := [7]) (by kernel_rfl) (by simp) ?_
        intro i hi
        simp only [List.mem_cons, List.not_mem_nil, or_false] at hi
        subst hi
        refine op_call (o := ⟨some 34, _, _, _, _, _⟩) 15 #[.slice (some ⟨gz31, 0, none⟩) 2 2] rfl rfl (by kernel_rfl) (((sum_any z31 (some ⟨gz31, 0, none⟩) 2 2 [(bs.take k), (bs.drop k)] Fz31.out.2.2 (by omega) (HT.out.below Fz31.out.1) (HH.out.below Fz31.out.1))).mono fun e z32 ⟨he, qz32⟩ => ⟨.agg (u8l (shaS bs)).toArray, (he.trans (by simp)), ?_⟩)
        simp only [Act.put, List.setIfInBounds_toArray, List.set_cons_zero, List.set_cons_succ]
        have Fz32 := Lib.hid (show Below w.heap.size w z32 ∧ PSl z32 (some ⟨gz30, 0, none⟩) 1 [bs] ∧ PSl z32 (some ⟨gz31, 0, none⟩) 2 [(bs.take k), (bs.drop k)] from ⟨Fz31.out.1.trans (qz32.mono Fz31.out.1.size), Fz31.out.2.1.below qz32, Fz31.out.2.2.below qz32⟩)
        clear qz32
        refine wpAny_all (rs := [10]) (by kernel_rfl) (by simp) ?_
        intro i hi
        simp only [List.mem_cons, List.not_mem_nil, or_false] at hi
        subst hi
        refine op_call (o := ⟨some 37, _, _, _, _, _⟩) 15 #[.slice (some ⟨gz30, 0, none⟩) 1 1] rfl rfl (by kernel_rfl) (((sum_any z32 (some ⟨gz30, 0, none⟩) 1 1 [bs] Fz32.out.2.1 (by omega) (HT.out.below Fz32.out.1) (HH.out.below Fz32.out.1))).mono fun e z33 ⟨he, qz33⟩ => ⟨.agg (u8l (shaS bs)).toArray, (he.trans (by simp)), ?_⟩)
        simp only [Act.put, List.setIfInBounds_toArray, List.set_cons_zero, List.set_cons_succ]
        have Fz33 := Lib.hid (show Below w.heap.size w z33 ∧ PSl z33 (some ⟨gz30, 0, none⟩) 1 [bs] ∧ PSl z33 (some ⟨gz31, 0, none⟩) 2 [(bs.take k), (bs.drop k)] from ⟨Fz32.out.1.trans (qz33.mono Fz32.out.1.size), Fz32.out.2.1.below qz33, Fz32.out.2.2.below qz33⟩)
        clear qz33
        refine wpAny_take (i := 11) (oi := ⟨some 38, _, _, _, _, _⟩) (v := (.bool true)) rfl (by kernel_rfl) (by kernel_rfl) (by kernel_rfl) (fun _ _ _ h => h) (Or.inl ⟨rfl, fun w => run_eq26 _ _ _ _ _ (shaS bs) (shaS_len _) rfl rfl rfl⟩) ?_
        simp only [Act.put, List.setIfInBounds_toArray, List.set_cons_zero, List.set_cons_succ]
        refine wpAny_take (i := 12) (oi := ⟨some 39, _, _, _, _, _⟩) (v := (.bool true)) rfl (by kernel_rfl) (by kernel_rfl) (by kernel_rfl) (fun _ _ _ h => h) (Or.inl ⟨rfl, fun w => by kernel_rfl⟩) ?_
        simp only [Act.put, List.setIfInBounds_toArray, List.set_cons_zero, List.set_cons_succ]
        refine wpAny_take (i := 13) (oi := ⟨some 40, _, _, _, _, _⟩) (v := (.slice ka kn kc)) rfl (by kernel_rfl) (by kernel_rfl) (by kernel_rfl) (fun _ _ _ h => h) (Or.inl ⟨rfl, fun w => by kernel_rfl⟩) ?_
        simp only [Act.put, List.setIfInBounds_toArray, List.set_cons_zero, List.set_cons_succ]
        refine wpAny_take (i := 14) (oi := ⟨some 41, _, _, _, _, _⟩) (v := (.slice a n c)) rfl (by kernel_rfl) (by kernel_rfl) (by kernel_rfl) (fun _ _ _ h => h) (Or.inl ⟨rfl, fun w => by kernel_rfl⟩) ?_
        simp only [Act.put, List.setIfInBounds_toArray, List.set_cons_zero, List.set_cons_succ]
        refine wpAny_take (i := 15) (oi := ⟨some 42, _, _, _, _, _⟩) (v := (.int .i64 (k : Int))) rfl (by kernel_rfl) (by kernel_rfl) (by kernel_rfl) (fun _ _ _ h => h) (Or.inl ⟨rfl, fun w => by kernel_rfl⟩) ?_
        simp only [Act.put, List.setIfInBounds_toArray, List.set_cons_zero, List.set_cons_succ]
        refine wpAny_take (i := 16) (oi := ⟨some 43, _, _, _, _, _⟩) (v := (.slice a k c)) rfl (by kernel_rfl) (by kernel_rfl) (by kernel_rfl) (fun _ _ _ h => h) (Or.inl ⟨rfl, fun w => run_slto _ _ _ _ _ a n c k rfl rfl rfl (by have := KL.out; have := HS.out.2.1; omega) HS.out.2.2.1 HS.out.2.2.2⟩) ?_
        simp only [Act.put, List.setIfInBounds_toArray, List.set_cons_zero, List.set_cons_succ]
        refine wpAny_take (i := 17) (oi := ⟨some 44, _, _, _, _, _⟩) (v := (.slice a n c)) rfl (by kernel_rfl) (by kernel_rfl) (by kernel_rfl) (fun _ _ _ h => h) (Or.inl ⟨rfl, fun w => by kernel_rfl⟩) ?_
        simp only [Act.put, List.setIfInBounds_toArray, List.set_cons_zero, List.set_cons_succ]
        refine wpAny_take (i := 18) (oi := ⟨some 45, _, _, _, _, _⟩) (v := (.int .i64 (k : Int))) rfl (by kernel_rfl) (by kernel_rfl) (by kernel_rfl) (fun _ _ _ h => h) (Or.inl ⟨rfl, fun w => by kernel_rfl⟩) ?_
        simp only [Act.put, List.setIfInBounds_toArray, List.set_cons_zero, List.set_cons_succ]
        refine wpAny_take (i := 19) (oi := ⟨some 46, _, _, _, _, _⟩) (v := (.slice (dropA a c k) (n - k) (c - k))) rfl (by kernel_rfl) (by kernel_rfl) (by kernel_rfl) (fun _ _ _ h => h) (Or.inl ⟨rfl, fun w => run_slicep' _ _ _ _ _ a n c k _ rfl rfl rfl KL.out HS.out.2.1 HS.out.2.2 rfl⟩) ?_
        simp only [Act.put, List.setIfInBounds_toArray, List.set_cons_zero, List.set_cons_succ]
        refine wpAny_take (i := 22) (oi := ⟨some 49, _, _, _, _, _⟩) (v := (.slice ka kn kc)) rfl (by kernel_rfl) (by kernel_rfl) (by kernel_rfl) (fun _ _ _ h => h) (Or.inl ⟨rfl, fun w => by kernel_rfl⟩) ?_
        simp only [Act.put, List.setIfInBounds_toArray, List.set_cons_zero, List.set_cons_succ]
        refine wpAny_take (i := 23) (oi := ⟨some 50, _, _, _, _, _⟩) (v := (.slice a n c)) rfl (by kernel_rfl) (by kernel_rfl) (by kernel_rfl) (fun _ _ _ h => h) (Or.inl ⟨rfl, fun w => by kernel_rfl⟩) ?_
        simp only [Act.put, List.setIfInBounds_toArray, List.set_cons_zero, List.set_cons_succ]
        refine wpAny_all (rs := [20, 24]) (by kernel_rfl) (by simp) ?_
        intro i hi
        simp only [List.mem_cons, List.not_mem_nil, or_false] at hi
        rcases hi with rfl | rfl
        · obtain ⟨z34, hz34⟩ : ∃ V, V = z33.alloc (.cells #[.slice a k c, .slice none 0 0, .slice (dropA a c k) (n - k) (c - k)] 22) := ⟨_, rfl⟩
          obtain ⟨gz34, kz34⟩ : ∃ q, z33.heap.size = q := ⟨_, rfl⟩
          have qz34 : Below z33.heap.size z33 z34 := by rw [hz34]; exact (Below.refl _ _).alloc (Nat.le_refl _) _
          have bz34 : Blk z34 gz34 22 #[.slice a k c, .slice none 0 0, .slice (dropA a c k) (n - k) (c - k)] := by rw [hz34, ← kz34]; exact Blk.new _ _ _
          have Fz340 := Lib.hid (show Below w.heap.size w z34 ∧ PSl z34 (some ⟨gz30, 0, none⟩) 1 [bs] ∧ PSl z34 (some ⟨gz31, 0, none⟩) 2 [(bs.take k), (bs.drop k)] from ⟨Fz33.out.1.trans (qz34.mono Fz33.out.1.size), Fz33.out.2.1.below qz34, Fz33.out.2.2.below qz34⟩)
          have Fz34 := Lib.hid (show Below w.heap.size w z34 ∧ PSl z34 (some ⟨gz30, 0, none⟩) 1 [bs] ∧ PSl z34 (some ⟨gz31, 0, none⟩) 2 [(bs.take k), (bs.drop k)] ∧ PSl z34 (some ⟨gz34, 0, none⟩) 3 [(bs.take k), [], (bs.drop k)] from ⟨Fz340.out.1, Fz340.out.2.1, Fz340.out.2.2, psl_three bz34 (HS1.out.below Fz340.out.1) (sl_nil _) (HS2.out.below Fz340.out.1) (by have := HL.out; have := KL.out; omega) (by omega) (by have := HL.out; have := KL.out; omega)⟩)
          clear qz34 bz34 Fz340
          refine op_valw (o := ⟨some 47, _, _, _, _, _⟩) (.slice (some ⟨gz34, 0, none⟩) 3 3) z34 rfl rfl (by rw [hz34, ← kz34]; kernel_rfl) ?_
          simp only [Act.put, List.setIfInBounds_toArray, List.set_cons_zero, List.set_cons_succ]
          clear hz34 kz34
          refine wpAny_all (rs := [21, 24]) (by kernel_rfl) (by simp) ?_
          intro i hi
          simp only [List.mem_cons, List.not_mem_nil, or_false] at hi
          rcases hi with rfl | rfl
          · refine op_call (o := ⟨some 48, _, _, _, _, _⟩) 12 #[.slice ka kn kc, .slice (some ⟨gz34, 0, none⟩) 3 3] rfl rfl (by kernel_rfl) (((mac_any z34 ka kn kc ks (some ⟨gz34, 0, none⟩) 3 3 [(bs.take k), [], (bs.drop k)] (HKS.out.below Fz34.out.1) (by have := HK.out; omega) Fz34.out.2.2.2 (by omega) (HT.out.below Fz34.out.1) (HH.out.below Fz34.out.1))).mono fun e z35 ⟨he, qz35⟩ => ⟨.agg (u8l (macS ks bs)).toArray, (he.trans (by simp)), ?_⟩)
            simp only [Act.put, List.setIfInBounds_toArray, List.set_cons_zero, List.set_cons_succ]
            have Fz35 := Lib.hid (show Below w.heap.size w z35 ∧ PSl z35 (some ⟨gz30, 0, none⟩) 1 [bs] ∧ PSl z35 (some ⟨gz31, 0, none⟩) 2 [(bs.take k), (bs.drop k)] ∧ PSl z35 (some ⟨gz34, 0, none⟩) 3 [(bs.take k), [], (bs.drop k)] from ⟨Fz34.out.1.trans (qz35.mono Fz34.out.1.size), Fz34.out.2.1.below qz35, Fz34.out.2.2.1.below qz35, Fz34.out.2.2.2.below qz35⟩)
            clear qz35
            refine wpAny_all (rs := [24]) (by kernel_rfl) (by simp) ?_
            intro i hi
            simp only [List.mem_cons, List.not_mem_nil, or_false] at hi
            subst hi
            obtain ⟨z36, hz36⟩ : ∃ V, V = z35.alloc (.cells #[.slice a n c] 22) := ⟨_, rfl⟩
            obtain ⟨gz36, kz36⟩ : ∃ q, z35.heap.size = q := ⟨_, rfl⟩
            have qz36 : Below z35.heap.size z35 z36 := by rw [hz36]; exact (Below.refl _ _).alloc (Nat.le_refl _) _
            have bz36 : Blk z36 gz36 22 #[.slice a n c] := by rw [hz36, ← kz36]; exact Blk.new _ _ _
            have Fz360 := Lib.hid (show Below w.heap.size w z36 ∧ PSl z36 (some ⟨gz30, 0, none⟩) 1 [bs] ∧ PSl z36 (some ⟨gz31, 0, none⟩) 2 [(bs.take k), (bs.drop k)] ∧ PSl z36 (some ⟨gz34, 0, none⟩) 3 [(bs.take k), [], (bs.drop k)] from ⟨Fz35.out.1.trans (qz36.mono Fz35.out.1.size), Fz35.out.2.1.below qz36, Fz35.out.2.2.1.below qz36, Fz35.out.2.2.2.below qz36⟩)
            have Fz36 := Lib.hid (show Below w.heap.size w z36 ∧ PSl z36 (some ⟨gz30, 0, none⟩) 1 [bs] ∧ PSl z36 (some ⟨gz31, 0, none⟩) 2 [(bs.take k), (bs.drop k)] ∧ PSl z36 (some ⟨gz34, 0, none⟩) 3 [(bs.take k), [], (bs.drop k)] ∧ PSl z36 (some ⟨gz36, 0, none⟩) 1 [bs] from ⟨Fz360.out.1, Fz360.out.2.1, Fz360.out.2.2.1, Fz360.out.2.2.2, psl_one bz36 (HS.out.below Fz360.out.1) (by have := HL.out; have := KL.out; omega)⟩)
            clear qz36 bz36 Fz360
            refine op_valw (o := ⟨some 51, _, _, _, _, _⟩) (.slice (some ⟨gz36, 0, none⟩) 1 1) z36 rfl rfl (by rw [hz36, ← kz36]; kernel_rfl) ?_
            simp only [Act.put, List.setIfInBounds_toArray, List.set_cons_zero, List.set_cons_succ]
            clear hz36 kz36
            refine wpAny_all (rs := [25]) (by kernel_rfl) (by simp) ?_
            intro i hi
            simp only [List.mem_cons, List.not_mem_nil, or_false] at hi
            subst hi
            refine op_call (o := ⟨some 52, _, _, _, _, _⟩) 12 #[.slice ka kn kc, .slice (some ⟨gz36, 0, none⟩) 1 1] rfl rfl (by kernel_rfl) (((mac_any z36 ka kn kc ks (some ⟨gz36, 0, none⟩) 1 1 [bs] (HKS.out.below Fz36.out.1) (by have := HK.out; omega) Fz36.out.2.2.2.2 (by omega) (HT.out.below Fz36.out.1) (HH.out.below Fz36.out.1))).mono fun e z37 ⟨he, qz37⟩ => ⟨.agg (u8l (macS ks bs)).toArray, (he.trans (by simp)), ?_⟩)
            simp only [Act.put, List.setIfInBounds_toArray, List.set_cons_zero, List.set_cons_succ]
            have Fz37 := Lib.hid (show Below w.heap.size w z37 ∧ PSl z37 (some ⟨gz30, 0, none⟩) 1 [bs] ∧ PSl z37 (some ⟨gz31, 0, none⟩) 2 [(bs.take k), (bs.drop k)] ∧ PSl z37 (some ⟨gz34, 0, none⟩) 3 [(bs.take k), [], (bs.drop k)] ∧ PSl z37 (some ⟨gz36, 0, none⟩) 1 [bs] from ⟨Fz36.out.1.trans (qz37.mono Fz36.out.1.size), Fz36.out.2.1.below qz37, Fz36.out.2.2.1.below qz37, Fz36.out.2.2.2.1.below qz37, Fz36.out.2.2.2.2.below qz37⟩)
            clear qz37
            refine wpAny_take (i := 26) (oi := ⟨some 53, _, _, _, _, _⟩) (v := (.bool true)) rfl (by kernel_rfl) (by kernel_rfl) (by kernel_rfl) (fun _ _ _ h => h) (Or.inl ⟨rfl, fun w => run_eq26 _ _ _ _ _ (macS ks bs) (macS_len _ _) rfl rfl rfl⟩) ?_
            simp only [Act.put, List.setIfInBounds_toArray, List.set_cons_zero, List.set_cons_succ]
            refine wpAny_take (i := 27) (oi := ⟨some 54, _, _, _, _, _⟩) (v := (.bool true)) rfl (by kernel_rfl) (by kernel_rfl) (by kernel_rfl) (fun _ _ _ h => h) (Or.inl ⟨rfl, fun w => by kernel_rfl⟩) ?_
            simp only [Act.put, List.setIfInBounds_toArray, List.set_cons_zero, List.set_cons_succ]
            refine wpAny_take (i := 28) (oi := ⟨some 6, _, _, _, _, _⟩) (v := (.bool true)) rfl (by kernel_rfl) (by kernel_rfl) (by kernel_rfl) (fun _ _ _ h => h) (Or.inl ⟨rfl, fun w => by kernel_rfl⟩) ?_
            simp only [Act.put, List.setIfInBounds_toArray, List.set_cons_zero, List.set_cons_succ]
            refine wpAny_done (by kernel_rfl) ?_ _
            go_wp2_with fail
            go_ret
            exact ⟨rfl, Fz37.out.1⟩
          · obtain ⟨z38, hz38⟩ : ∃ V, V = z34.alloc (.cells #[.slice a n c] 22) := ⟨_, rfl⟩
            obtain ⟨gz38, kz38⟩ : ∃ q, z34.heap.size = q := ⟨_, rfl⟩
            have qz38 : Below z34.heap.size z34 z38 := by rw [hz38]; exact (Below.refl _ _).alloc (Nat.le_refl _) _
            have bz38 : Blk z38 gz38 22 #[.slice a n c] := by rw [hz38, ← kz38]; exact Blk.new _ _ _
            have Fz380 := Lib.hid (show Below w.heap.size w z38 ∧ PSl z38 (some ⟨gz30, 0, none⟩) 1 [bs] ∧ PSl z38 (some ⟨gz31, 0, none⟩) 2 [(bs.take k), (bs.drop k)] ∧ PSl z38 (some ⟨gz34, 0, none⟩) 3 [(bs.take k), [], (bs.drop k)] from ⟨Fz34.out.1.trans (qz38.mono Fz34.out.1.size), Fz34.out.2.1.below qz38, Fz34.out.2.2.1.below qz38, Fz34.out.2.2.2.below qz38⟩)
            have Fz38 := Lib.hid (show Below w.heap.size w z38 ∧ PSl z38 (some ⟨gz30, 0, none⟩) 1 [bs] ∧ PSl z38 (some ⟨gz31, 0, none⟩) 2 [(bs.take k), (bs.drop k)] ∧ PSl z38 (some ⟨gz34, 0, none⟩) 3 [(bs.take k), [], (bs.drop k)] ∧ PSl z38 (some ⟨gz38, 0, none⟩) 1 [bs] from ⟨Fz380.out.1, Fz380.out.2.1, Fz380.out.2.2.1, Fz380.out.2.2.2, psl_one bz38 (HS.out.below Fz380.out.1) (by have := HL.out; have := KL.out; omega)⟩)
            clear qz38 bz38 Fz380
            refine op_valw (o := ⟨some 51, _, _, _, _, _⟩) (.slice (some ⟨gz38, 0, none⟩) 1 1) z38 rfl rfl (by rw [hz38, ← kz38]; kernel_rfl) ?_
            simp only [Act.put, List.setIfInBounds_toArray, List.set_cons_zero, List.set_cons_succ]
            clear hz38 kz38
            refine wpAny_all (rs := [21]) (by kernel_rfl) (by simp) ?_
            intro i hi
            simp only [List.mem_cons, List.not_mem_nil, or_false] at hi
            subst hi
            refine op_call (o := ⟨some 48, _, _, _, _, _⟩) 12 #[.slice ka kn kc, .slice (some ⟨gz34, 0, none⟩) 3 3] rfl rfl (by kernel_rfl) (((mac_any z38 ka kn kc ks (some ⟨gz34, 0, none⟩) 3 3 [(bs.take k), [], (bs.drop k)] (HKS.out.below Fz38.out.1) (by have := HK.out; omega) Fz38.out.2.2.2.1 (by omega) (HT.out.below Fz38.out.1) (HH.out.below Fz38.out.1))).mono fun e z39 ⟨he, qz39⟩ => ⟨.agg (u8l (macS ks bs)).toArray, (he.trans (by simp)), ?_⟩)
            simp only [Act.put, List.setIfInBounds_toArray, List.set_cons_zero, List.set_cons_succ]
            have Fz39 := Lib.hid (show Below w.heap.size w z39 ∧ PSl z39 (some ⟨gz30, 0, none⟩) 1 [bs] ∧ PSl z39 (some ⟨gz31, 0, none⟩) 2 [(bs.take k), (bs.drop k)] ∧ PSl z39 (some ⟨gz34, 0, none⟩) 3 [(bs.take k), [], (bs.drop k)] ∧ PSl z39 (some ⟨gz38, 0, none⟩) 1 [bs] from ⟨Fz38.out.1.trans (qz39.mono Fz38.out.1.size), Fz38.out.2.1.below qz39, Fz38.out.2.2.1.below qz39, Fz38.out.2.2.2.1.below qz39, Fz38.out.2.2.2.2.below qz39⟩)
            clear qz39
            refine wpAny_all (rs := [25]) (by kernel_rfl) (by simp) ?_
            intro i hi
            simp only [List.mem_cons, List.not_mem_nil, or_false] at hi
            subst hi
            refine op_call (o := ⟨some 52, _, _, _, _, _⟩) 12 #[.slice ka kn kc, .slice (some ⟨gz38, 0, none⟩) 1 1] rfl rfl (by kernel_rfl) (((mac_any z39 ka kn kc ks (some ⟨gz38, 0, none⟩) 1 1 [bs] (HKS.out.below Fz39.out.1) (by have := HK.out; omega) Fz39.out.2.2.2.2 (by omega) (HT.out.below Fz39.out.1) (HH.out.below Fz39.out.1))).mono fun e z40 ⟨he, qz40⟩ => ⟨.agg (u8l (macS ks bs)).toArray, (he.trans (by simp)), ?_⟩)
            simp only [Act.put, List.setIfInBounds_toArray, List.set_cons_zero, List.set_cons_succ]
            have Fz40 := Lib.hid (show Below w.heap.size w z40 ∧ PSl z40 (some ⟨gz30, 0, none⟩) 1 [bs] ∧ PSl z40 (some ⟨gz31, 0, none⟩) 2 [(bs.take k), (bs.drop k)] ∧ PSl z40 (some ⟨gz34, 0, none⟩) 3 [(bs.take k), [], (bs.drop k)] ∧ PSl z40 (some ⟨gz38, 0, none⟩) 1 [bs] from ⟨Fz39.out.1.trans (qz40.mono Fz39.out.1.size), Fz39.out.2.1.below qz40, Fz39.out.2.2.1.below qz40, Fz39.out.2.2.2.1.below qz40, Fz39.out.2.2.2.2.below qz40⟩)
            clear qz40
            refine wpAny_take (i := 26) (oi := ⟨some 53, _, _, _, _, _⟩) (v := (.bool true)) rfl (by kernel_rfl) (by kernel_rfl) (by kernel_rfl) (fun _ _ _ h => h) (Or.inl ⟨rfl, fun w => run_eq26 _ _ _ _ _ (macS ks bs) (macS_len _ _) rfl rfl rfl⟩) ?_
            simp only [Act.put, List.setIfInBounds_toArray, List.set_cons_zero, List.set_cons_succ]
            refine wpAny_take (i := 27) (oi := ⟨some 54, _, _, _, _, _⟩) (v := (.bool true)) rfl (by kernel_rfl) (by kernel_rfl) (by kernel_rfl) (fun _ _ _ h => h) (Or.inl ⟨rfl, fun w => by kernel_rfl⟩) ?_
            simp only [Act.put, List.setIfInBounds_toArray, List.set_cons_zero, List.set_cons_succ]
            refine wpAny_take (i := 28) (oi := ⟨some 6, _, _, _, _, _⟩) (v := (.bool true)) rfl (by kernel_rfl) (by kernel_rfl) (by kernel_rfl) (fun _ _ _ h => h) (Or.inl ⟨rfl, fun w => by kernel_rfl⟩) ?_
            simp only [Act.put, List.setIfInBounds_toArray, List.set_cons_zero, List.set_cons_succ]
            refine wpAny_done (by kernel_rfl) ?_ _
            go_wp2_with fail
            go_ret
            exact ⟨rfl, Fz40.out.1⟩
        · obtain ⟨z41, hz41⟩ : ∃ V, V = z33.alloc (.cells #[.slice a n c] 22) := ⟨_, rfl⟩
          obtain ⟨gz41, kz41⟩ : ∃ q, z33.heap.size = q := ⟨_, rfl⟩
          have qz41 : Below z33.heap.size z33 z41 := by rw [hz41]; exact (Below.refl _ _).alloc (Nat.le_refl _) _
          have bz41 : Blk z41 gz41 22 #[.slice a n c] := by rw [hz41, ← kz41]; exact Blk.new _ _ _
          have Fz410 := Lib.hid (show Below w.heap.size w z41 ∧ PSl z41 (some ⟨gz30, 0, none⟩) 1 [bs] ∧ PSl z41 (some ⟨gz31, 0, none⟩) 2 [(bs.take k), (bs.drop k)] from ⟨Fz33.out.1.trans (qz41.mono Fz33.out.1.size), Fz33.out.2.1.below qz41, Fz33.out.2.2.below qz41⟩)
          have Fz41 := Lib.hid (show Below w.heap.size w z41 ∧ PSl z41 (some ⟨gz30, 0, none⟩) 1 [bs] ∧ PSl z41 (some ⟨gz31, 0, none⟩) 2 [(bs.take k), (bs.drop k)] ∧ PSl z41 (some ⟨gz41, 0, none⟩) 1 [bs] from ⟨Fz410.out.1, Fz410.out.2.1, Fz410.out.2.2, psl_one bz41 (HS.out.below Fz410.out.1) (by have := HL.out; have := KL.out; omega)⟩)
          clear qz41 bz41 Fz410
          refine op_valw (o := ⟨some 51, _, _, _, _, _⟩) (.slice (some ⟨gz41, 0, none⟩) 1 1) z41 rfl rfl (by rw [hz41, ← kz41]; kernel_rfl) ?_
          simp only [Act.put, List.setIfInBounds_toArray, List.set_cons_zero, List.set_cons_succ]
          clear hz41 kz41
          refine wpAny_all (rs := [20]) (by kernel_rfl) (by simp) ?_
          intro i hi
          simp only [List.mem_cons, List.not_mem_nil, or_false] at hi
          subst hi
          obtain ⟨z42, hz42⟩ : ∃ V, V = z41.alloc (.cells #[.slice a k c, .slice none 0 0, .slice (dropA a c k) (n - k) (c - k)] 22) := ⟨_, rfl⟩
          obtain ⟨gz42, kz42⟩ : ∃ q, z41.heap.size = q := ⟨_, rfl⟩
          have qz42 : Below z41.heap.size z41 z42 := by rw [hz42]; exact (Below.refl _ _).alloc (Nat.le_refl _) _
          have bz42 : Blk z42 gz42 22 #[.slice a k c, .slice none 0 0, .slice (dropA a c k) (n - k) (c - k)] := by rw [hz42, ← kz42]; exact Blk.new _ _ _
          have Fz420 := Lib.hid (show Below w.heap.size w z42 ∧ PSl z42 (some ⟨gz30, 0, none⟩) 1 [bs] ∧ PSl z42 (some ⟨gz31, 0, none⟩) 2 [(bs.take k), (bs.drop k)] ∧ PSl z42 (some ⟨gz41, 0, none⟩) 1 [bs] from ⟨Fz41.out.1.trans (qz42.mono Fz41.out.1.size), Fz41.out.2.1.below qz42, Fz41.out.2.2.1.below qz42, Fz41.out.2.2.2.below qz42⟩)
          have Fz42 := Lib.hid (show Below w.heap.size w z42 ∧ PSl z42 (some ⟨gz30, 0, none⟩) 1 [bs] ∧ PSl z42 (some ⟨gz31, 0, none⟩) 2 [(bs.take k), (bs.drop k)] ∧ PSl z42 (some ⟨gz41, 0, none⟩) 1 [bs] ∧ PSl z42 (some ⟨gz42, 0, none⟩) 3 [(bs.take k), [], (bs.drop k)] from ⟨Fz420.out.1, Fz420.out.2.1, Fz420.out.2.2.1, Fz420.out.2.2.2, psl_three bz42 (HS1.out.below Fz420.out.1) (sl_nil _) (HS2.out.below Fz420.out.1) (by have := HL.out; have := KL.out; omega) (by omega) (by have := HL.out; have := KL.out; omega)⟩)
          clear qz42 bz42 Fz420
          refine op_valw (o := ⟨some 47, _, _, _, _, _⟩) (.slice (some ⟨gz42, 0, none⟩) 3 3) z42 rfl rfl (by rw [hz42, ← kz42]; kernel_rfl) ?_
          simp only [Act.put, List.setIfInBounds_toArray, List.set_cons_zero, List.set_cons_succ]
          clear hz42 kz42
          refine wpAny_all (rs := [21]) (by kernel_rfl) (by simp) ?_
          intro i hi
          simp only [List.mem_cons, List.not_mem_nil, or_false] at hi
          subst hi
          refine op_call (o := ⟨some 48, _, _, _, _, _⟩) 12 #[.slice ka kn kc, .slice (some ⟨gz42, 0, none⟩) 3 3] rfl rfl (by kernel_rfl) (((mac_any z42 ka kn kc ks (some ⟨gz42, 0, none⟩) 3 3 [(bs.take k), [], (bs.drop k)] (HKS.out.below Fz42.out.1) (by have := HK.out; omega) Fz42.out.2.2.2.2 (by omega) (HT.out.below Fz42.out.1) (HH.out.below Fz42.out.1))).mono fun e z43 ⟨he, qz43⟩ => ⟨.agg (u8l (macS ks bs)).toArray, (he.trans (by simp)), ?_⟩)
          simp only [Act.put, List.setIfInBounds_toArray, List.set_cons_zero, List.set_cons_succ]
          have Fz43 := Lib.hid (show Below w.heap.size w z43 ∧ PSl z43 (some ⟨gz30, 0, none⟩) 1 [bs] ∧ PSl z43 (some ⟨gz31, 0, none⟩) 2 [(bs.take k), (bs.drop k)] ∧ PSl z43 (some ⟨gz41, 0, none⟩) 1 [bs] ∧ PSl z43 (some ⟨gz42, 0, none⟩) 3 [(bs.take k), [], (bs.drop k)] from ⟨Fz42.out.1.trans (qz43.mono Fz42.out.1.size), Fz42.out.2.1.below qz43, Fz42.out.2.2.1.below qz43, Fz42.out.2.2.2.1.below qz43, Fz42.out.2.2.2.2.below qz43⟩)
          clear qz43
          refine wpAny_all (rs := [25]) (by kernel_rfl) (by simp) ?_
          intro i hi
          simp only [List.mem_cons, List.not_mem_nil, or_false] at hi
          subst hi
          refine op_call (o := ⟨some 52, _, _, _, _, _⟩) 12 #[.slice ka kn kc, .slice (some ⟨gz41, 0, none⟩) 1 1] rfl rfl (by kernel_rfl) (((mac_any z43 ka kn kc ks (some ⟨gz41, 0, none⟩) 1 1 [bs] (HKS.out.below Fz43.out.1) (by have := HK.out; omega) Fz43.out.2.2.2.1 (by omega) (HT.out.below Fz43.out.1) (HH.out.below Fz43.out.1))).mono fun e z44 ⟨he, qz44⟩ => ⟨.agg (u8l (macS ks bs)).toArray, (he.trans (by simp)), ?_⟩)
          simp only [Act.put, List.setIfInBounds_toArray, List.set_cons_zero, List.set_cons_succ]
          have Fz44 := Lib.hid (show Below w.heap.size w z44 ∧ PSl z44 (some ⟨gz30, 0, none⟩) 1 [bs] ∧ PSl z44 (some ⟨gz31, 0, none⟩) 2 [(bs.take k), (bs.drop k)] ∧ PSl z44 (some ⟨gz41, 0, none⟩) 1 [bs] ∧ PSl z44 (some ⟨gz42, 0, none⟩) 3 [(bs.take k), [], (bs.drop k)] from ⟨Fz43.out.1.trans (qz44.mono Fz43.out.1.size), Fz43.out.2.1.below qz44, Fz43.out.2.2.1.below qz44, Fz43.out.2.2.2.1.below qz44, Fz43.out.2.2.2.2.below qz44⟩)
          clear qz44
          refine wpAny_take (i := 26) (oi := ⟨some 53, _, _, _, _, _⟩) (v := (.bool true)) rfl (by kernel_rfl) (by kernel_rfl) (by kernel_rfl) (fun _ _ _ h => h) (Or.inl ⟨rfl, fun w => run_eq26 _ _ _ _ _ (macS ks bs) (macS_len _ _) rfl rfl rfl⟩) ?_
          simp only [Act.put, List.setIfInBounds_toArray, List.set_cons_zero, List.set_cons_succ]
          refine wpAny_take (i := 27) (oi := ⟨some 54, _, _, _, _, _⟩) (v := (.bool true)) rfl (by kernel_rfl) (by kernel_rfl) (by kernel_rfl) (fun _ _ _ h => h) (Or.inl ⟨rfl, fun w => by kernel_rfl⟩) ?_
          simp only [Act.put, List.setIfInBounds_toArray, List.set_cons_zero, List.set_cons_succ]
          refine wpAny_take (i := 28) (oi := ⟨some 6, _, _, _, _, _⟩) (v := (.bool true)) rfl (by kernel_rfl) (by kernel_rfl) (by kernel_rfl) (fun _ _ _ h => h) (Or.inl ⟨rfl, fun w => by kernel_rfl⟩) ?_
          simp only [Act.put, List.setIfInBounds_toArray, List.set_cons_zero, List.set_cons_succ]
          refine wpAny_done (by kernel_rfl) ?_ _
          go_wp2_with fail
          go_ret
          exact ⟨rfl, Fz44.out.1⟩
    · have HK := Lib.hid hk
      clear hk
      refine wpL_pure (.bool true) rfl (run_gti Tryd.underlying3 rfl rfl rfl (by have := HK.out; rw [decide_eq_true_eq]; omega)) ?_
      simp only [Act.put, List.setIfInBounds_toArray, List.set_cons_zero, List.set_cons_succ]
      refine wpL_pure (.bool true) rfl (by kernel_rfl) ?_
      simp only [Act.put, List.setIfInBounds_toArray, List.set_cons_zero, List.set_cons_succ]
      go_upto_region 2 with (fail)
      refine wp_region_lit ?_
      refine wpL_call 10 #[] rfl (by kernel_rfl) (((awake_any w1 (HT.out.below B1.out) (HH.out.below B1.out))).mono fun e w2 ⟨he, hb⟩ => ⟨.bool true, he, ?_⟩)
      simp only [Act.put, List.setIfInBounds_toArray, List.set_cons_zero, List.set_cons_succ]
      have B2 := Lib.hid (B1.out.trans (hb.mono B1.out.size))
      clear hb
      refine wpL_pure (.bool true) rfl (by kernel_rfl) ?_
      simp only [Act.put, List.setIfInBounds_toArray, List.set_cons_zero, List.set_cons_succ]
      go_wp2_with fail
      go_ret
      exact ⟨rfl, B2.out⟩
  · have HL := Lib.hid hl
    clear hl
    refine wpL_pure (.bool true) rfl (run_gti Tryd.underlying3 rfl rfl rfl (by have := HL.out; rw [decide_eq_true_eq]; omega)) ?_
    simp only [Act.put, List.setIfInBounds_toArray, List.set_cons_zero, List.set_cons_succ]
    refine wpL_pure (.bool true) rfl (by kernel_rfl) ?_
    simp only [Act.put, List.setIfInBounds_toArray, List.set_cons_zero, List.set_cons_succ]
    refine wpL_pure (.bool true) rfl (by kernel_rfl) ?_
    simp only [Act.put, List.setIfInBounds_toArray, List.set_cons_zero, List.set_cons_succ]
    refine wpL_skip (by kernel_rfl) ?_
    simp only [Act.put, List.setIfInBounds_toArray, List.set_cons_zero, List.set_cons_succ]
    refine wpL_skip (by kernel_rfl) ?_
    simp only [Act.put, List.setIfInBounds_toArray, List.set_cons_zero, List.set_cons_succ]
    refine wpL_skip (by kernel_rfl) ?_
    simp only [Act.put, List.setIfInBounds_toArray, List.set_cons_zero, List.set_cons_succ]
    refine wpL_pure (.bool true) rfl (by kernel_rfl) ?_
    simp only [Act.put, List.setIfInBounds_toArray, List.set_cons_zero, List.set_cons_succ]
    go_upto_region 2 with (fail)
    refine wp_region_lit ?_
    refine wpL_call 10 #[] rfl (by kernel_rfl) (((awake_any w1 (HT.out.below B1.out) (HH.out.below B1.out))).mono fun e w2 ⟨he, hb⟩ => ⟨.bool true, he, ?_⟩)
    simp only [Act.put, List.setIfInBounds_toArray, List.set_cons_zero, List.set_cons_succ]
    have B2 := Lib.hid (B1.out.trans (hb.mono B1.out.size))
    clear hb
    refine wpL_pure (.bool true) rfl (by kernel_rfl) ?_
    simp only [Act.put, List.setIfInBounds_toArray, List.set_cons_zero, List.set_cons_succ]
    go_wp2_with fail
    go_ret
    exact ⟨rfl, B2.out⟩
end Go.Proofs.YtggbmajajpafnaaDoor
