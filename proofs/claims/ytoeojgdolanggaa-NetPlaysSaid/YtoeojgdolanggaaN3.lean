import Derived.Test.YtoeojgdolanggaaN2
namespace Go.Proofs.Ytoeojgdolanggaa
open Go Go.RowKit

theorem eql_nill (w : World) (a : Option Addr) (n c n' c' : Nat) : (binOp .eql 39 (.slice a n c) (.slice none n' c')).run Try.prog w = .ok (.bool a.isNone) w := Go.Lib.run_eql_slice_nil w 39 43 a n c n' c' Try.underlying39
theorem lclone_none (w : World) : Calls Try.prog 33 #[.slice none 0 0] w fun e w' => e = .returned (.slice none 0 0) ∧ w = w' := by
  have q := eql_nill
  go_enter Try.func33, Try.ntmps33
  go_wp2_with fail
  go_ret
  exact ⟨rfl, rfl⟩
theorem lclone_any (w : World) (base : Nat) (s : Value) (n : Nat) (cs : List Value) (h : LRow w base s n cs) (hn : n ≤ 300) :
    Calls Try.prog 33 #[s] w fun e w' => ∃ v, e = .returned v ∧ LRow w' w.heap.size v n cs ∧ Below w.heap.size w w' := by
  rcases h.forms with ⟨rfl, rfl, rfl⟩ | ⟨gs, c, cur, rfl, _⟩
  · exact (lclone_none w).mono fun e w' ⟨he, hw⟩ => ⟨_, he, by subst hw; exact ⟨LRow.nil _ _, Below.refl _ _⟩⟩
  · have q := eql_nill
    generalize hA : (⟨gs, 0, none⟩ : Addr) = ad at *
    have O0 : LRow (w.alloc (.cells #[] 43)) w.heap.size (.slice (some ⟨w.heap.size, 0, none⟩) 0 0) 0 [] := ⟨World.ownsRow_made w #[] 0 (Nat.le_refl _) (by simp [maxLen]) (by simp), by simp⟩
    obtain ⟨v', w', r1, r2, r3, r4, r5⟩ := append_ltr (w.alloc (.cells #[] 43)) w.heap.size _ 0 [] ad n c cs O0 (by have := h.1.1; omega) (fun j u hu => (h.alloc _).1.cells (g := gs) (by rw [← hA]; rfl) j u hu ▸ by rw [← hA]) h.2 (by omega) (by simp)
    have R1 := Lib.hid r1
    have R2 : Hid (LRow w' w.heap.size v' n cs ∧ Below w.heap.size w w') := Lib.hid ⟨by simpa using r2, ((Below.refl _ _).alloc (Nat.le_refl _) _).trans ⟨r3.os, r3.tape, r3.output, r3.size, fun k hk => r3.block k (by simp; omega) (by simp [Value.ownBlock]; omega)⟩⟩
    clear O0 r1 r2 r3 r4 r5 h hA
    go_enter Try.func33, Try.ntmps33
    go_upto_region 3 with (fail)
    refine wp_region_lit ?_
    refine wpL_value (.slice (some ⟨w.heap.size, 0, none⟩) 0 0) (w.alloc (.cells #[] 43)) rfl (by kernel_rfl) ?_
    simp only [Act.put, List.setIfInBounds_toArray, List.set_cons_zero, List.set_cons_succ]
    refine wpL_pure (.slice (some ad) n c) rfl (by kernel_rfl) ?_
    simp only [Act.put, List.setIfInBounds_toArray, List.set_cons_zero, List.set_cons_succ]
    refine wpL_value (v') (w') rfl (run_appl _ _ _ _ _ _ _ _ _ rfl rfl rfl rfl R1.out) ?_
    simp only [Act.put, List.setIfInBounds_toArray, List.set_cons_zero, List.set_cons_succ]
    go_wp2_with fail
    go_ret
    exact ⟨_, rfl, R2.out⟩
/-- a list with others laid over it. -/
def spl (l : List Value) (o : Nat) : List Value → List Value
  | [] => l
  | v :: vs => spl (l.set o v) (o + 1) vs
theorem spl_len : ∀ (vs l : List Value) (o : Nat), (spl l o vs).length = l.length
  | [], l, o => rfl
  | v :: vs, l, o => by rw [spl, spl_len]; simp
theorem spl_get : ∀ (vs l : List Value) (o j : Nat), (spl l o vs)[j]? = if o ≤ j ∧ j < o + vs.length ∧ j < l.length then vs[j - o]? else l[j]?
  | [], l, o, j => by rw [spl, if_neg (by simp; omega)]
  | v :: vs, l, o, j => by
    rw [spl, spl_get vs (l.set o v) (o + 1) j, List.length_set, List.length_cons, List.getElem?_set]
    by_cases h1 : o = j
    · subst h1
      rw [if_neg (by omega), if_pos rfl]
      by_cases h2 : o < l.length
      · rw [if_pos (by omega), Nat.sub_self]; simp [h2]
      · rw [if_neg (by omega)]; simp [h2]
    · rw [if_neg h1]
      by_cases h2 : o + 1 ≤ j ∧ j < o + 1 + vs.length ∧ j < l.length
      · rw [if_pos h2, if_pos (by omega)]
        have e : j - o = (j - (o + 1)) + 1 := by omega
        rw [e, List.getElem?_cons_succ]
      · rw [if_neg h2, if_neg (by omega)]
theorem blk_setCells : ∀ (vs : List Value) (l : List Value) (o : Nat) (w : World) {g t : Nat}, Blk w g t l.toArray → Blk (w.setCells g o vs) g t (spl l o vs).toArray
  | [], _, _, _, _, _, h => h
  | v :: vs, _, o, _, _, _, h => blk_setCells vs _ (o + 1) _ (h.set o v)
theorem gb_setCells : ∀ (vs : List Value) (o : Nat) (w : World) (g : Nat), w.grownBy (w.setCells g o vs) (some g)
  | [], _, w, _ => gb_refl w _
  | v :: vs, o, w, g => gb_trans (gb_set (gb_refl w (some g)) o v) (gb_setCells vs (o + 1) _ g)
theorem gb_any {w w' : World} {r : Option Nat} (h : w.grownBy w' none) : w.grownBy w' r := ⟨h.os, h.tape, h.output, h.size, fun k hk _ => h.block k hk (by simp)⟩
theorem run_slice3 (a : Act) (o : Oper) (w : World) (x i j m : Operand) (gs n c k q L : Nat) (ho : o.op = .slice 39 x (some i) (some j) (some m)) (hx : a.eval x = .slice (some ⟨gs, 0, none⟩) n c) (hi : a.eval i = .int .i64 (k : Int)) (hj : a.eval j = .int .i64 (q : Int)) (hm : a.eval m = .int .i64 (n : Int)) (hkq : k ≤ q) (hqn : q ≤ n) (hkn : k < n) (hL : L = q - k) (hc : n ≤ c ∧ c ≤ maxLen) :
    (execOp a.eval o).run Try.prog w = .ok (.value (.slice (some ⟨gs, k * 3, none⟩) L (n - k))) w := by
  subst hL
  have h0 : (0 : Int) ≤ (k : Int) := by omega
  have h0' : (0 : Int) ≤ (q : Int) := by omega
  have h1 : (k : Int) ≤ (q : Int) := by omega
  have h2 : (q : Int) ≤ (n : Int) := by omega
  have h3 : (n : Int) ≤ (c : Int) := by omega
  have h4 : ¬ n = k := by omega
  unfold execOp
  simp only [ho, hx, Option.map_some, hi, hj, hm]
  go_simp
theorem run_slicemid (a : Act) (o : Oper) (w : World) (x i j : Operand) (gs n c k q L : Nat) (ho : o.op = .slice 39 x (some i) (some j) none) (hx : a.eval x = .slice (some ⟨gs, 0, none⟩) n c) (hi : a.eval i = .int .i64 (k : Int)) (hj : a.eval j = .int .i64 (q : Int)) (hkq : k ≤ q) (hqn : q ≤ c) (hkn : k < c) (hL : L = q - k) (hc : n ≤ c ∧ c ≤ maxLen) :
    (execOp a.eval o).run Try.prog w = .ok (.value (.slice (some ⟨gs, k * 3, none⟩) L (c - k))) w := by
  subst hL
  have h0 : (0 : Int) ≤ (k : Int) := by omega
  have h0' : (0 : Int) ≤ (q : Int) := by omega
  have h1 : (k : Int) ≤ (q : Int) := by omega
  have h2 : (q : Int) ≤ (c : Int) := by omega
  have h3 : (n : Int) ≤ (c : Int) := by omega
  have h4 : ¬ c = k := by omega
  unfold execOp
  simp only [ho, hx, Option.map_some, Option.map_none, hi, hj]
  go_simp
theorem run_sliceto (a : Act) (o : Oper) (w : World) (x i : Operand) (gs n c k : Nat) (ho : o.op = .slice 39 x none (some i) none) (hx : a.eval x = .slice (some ⟨gs, 0, none⟩) n c) (hi : a.eval i = .int .i64 (k : Int)) (hk : k < n) (hc : n ≤ c ∧ c ≤ maxLen) :
    (execOp a.eval o).run Try.prog w = .ok (.value (.slice (some ⟨gs, 0, none⟩) k c)) w := by
  have h0 : (0 : Int) ≤ (k : Int) := by omega
  have h2 : (k : Int) ≤ (c : Int) := by omega
  have h4 : ¬ c = 0 := by omega
  unfold execOp
  simp only [ho, hx, Option.map_some, Option.map_none, hi]
  go_simp
theorem run_slicefrom (a : Act) (o : Oper) (w : World) (x i : Operand) (gs n c m : Nat) (ho : o.op = .slice 39 x (some i) none none) (hx : a.eval x = .slice (some ⟨gs, 0, none⟩) n c) (hi : a.eval i = .int .i64 (m : Int)) (hk : m ≤ n) (hc : n ≤ c ∧ c ≤ maxLen) :
    (execOp a.eval o).run Try.prog w = .ok (.value (.slice (some ⟨gs, (if c = m then 0 else m * 3), none⟩) (n - m) (c - m))) w := by
  have h0 : (0 : Int) ≤ (m : Int) := by omega
  have h1 : (m : Int) ≤ (n : Int) := by omega
  have h2 : (n : Int) ≤ (c : Int) := by omega
  have h3 : (m : Int) ≤ (c : Int) := by omega
  unfold execOp
  simp only [ho, hx, Option.map_some, Option.map_none, hi]
  by_cases hq : c = m
  · subst hq
    go_simp
  · go_simp
theorem run_clr (a : Act) (o : Oper) (w w' : World) (x : Operand) (v : Value) (ho : o.op = .call { callee := .builtin .clear, args := #[x], argTypes := #[39] }) (hx : a.eval x = v)
    (h : (Builtin.clear_ #[39] o.type #[v]).run Try.prog w = .ok (.tuple #[]) w') : (execOp a.eval o).run Try.prog w = .ok (.value (.tuple #[])) w' := by
  unfold execOp
  simp only [ho, resolve, invoke, builtin, Sem.run_bind, Sem.run_pure, Result.andThen_ok, List.map_toArray, List.map_cons, List.map_nil, hx, h]
theorem clear_run (w : World) (gs o c : Nat) (l : List Value) (ty : TypeId) (hb : Blk w gs 43 l.toArray) (ho : o + 3 ≤ l.length) :
    (Builtin.clear_ #[39] ty #[.slice (some ⟨gs, o, none⟩) 1 c]).run Try.prog w = .ok (.tuple #[]) (w.setCells gs o [.int .i64 0, .int .i64 0, .slice none 0 0]) := by
  have hzc : (Builtin.zeroCells (Value.agg #[.int .i64 0, .int .i64 0, .slice none 0 0]).cells 1).toList = [.int .i64 0, .int .i64 0, .slice none 0 0] := by kernel_rfl
  have hv : ∀ w, (zeroValue 43).run Try.prog w = .ok (.agg #[.int .i64 0, .int .i64 0, .slice none 0 0]) w := fun w => by kernel_rfl
  have hst := run_storeCells_cells (P := Try.prog) gs o [.int .i64 0, .int .i64 0, .slice none 0 0] 0 w (fun j hj => by
    have hj' : j < 3 := by simpa using hj
    rw [hb.cell, Nat.add_zero]
    simp
    omega) (fun j _ => hb.free _) (by intro v hv; simp at hv; rcases hv with rfl | rfl <;> rfl)
  simp only [Nat.add_zero] at hst
  simp [Builtin.clear_, run_underlying Try.underlying39, hv, hzc, hst]
theorem del_app (X : World) (gs n c k : Nat) (l cs : List Value) (off : Nat) (hb : Blk X gs 43 l.toArray) (hl : l.length = c * 3 ∧ l.take (n * 3) = cs ∧ cs.length = n * 3) (hk : k < n) (hc : n ≤ c ∧ c ≤ maxLen) (hoff : (if c = k + 1 then 0 else (k + 1) * 3) = off) (h1 : ∀ u ∈ cs, u.oneCell' = true) :
    (Builtin.append_ #[39, 39] 39 #[.slice (some ⟨gs, 0, none⟩) k c, .slice (some ⟨gs, off, none⟩) (n - (k + 1)) (c - (k + 1))]).run Try.prog X = .ok (.slice (some ⟨gs, 0, none⟩) (n - 1) c) (X.setCells gs (k * 3) (cs.drop ((k + 1) * 3))) := by
  obtain ⟨i, hi, hsz, hby, hz⟩ := info43
  have hdl : (cs.drop ((k + 1) * 3)).length = (n - (k + 1)) * 3 := by rw [List.length_drop, hl.2.2]; omega
  have h := run_append_room_cells (P := Try.prog) X 39 39 43 i Try.underlying39 hi gs 0 k c ⟨gs, off, none⟩ (n - (k + 1)) (c - (k + 1)) (cs.drop ((k + 1) * 3)) (by rw [hdl, hsz]) (fun j u hu => by
      rw [Addr.add_lit, hb.cell]
      have hj : j < (n - (k + 1)) * 3 := by
        rcases Nat.lt_or_ge j ((n - (k + 1)) * 3) with q | q
        · exact q
        · rw [List.getElem?_eq_none (by omega)] at hu; cases hu
      rw [if_neg (by omega)] at hoff
      subst hoff
      rw [List.getElem?_drop, ← hl.2.1, List.getElem?_take, if_pos (by omega)] at hu
      simpa using hu) (fun u hu => h1 u (List.mem_of_mem_drop hu)) (by omega) (fun j hj => by
      rw [hdl] at hj
      rw [hb.cell, hsz]
      simp
      omega) (fun j _ => hb.free _)
  rw [hsz, Nat.zero_add, show k + (n - (k + 1)) = n - 1 by omega] at h
  exact h
theorem del_list (l cs : List Value) (n c k : Nat) (hl : l.length = c * 3 ∧ l.take (n * 3) = cs ∧ cs.length = n * 3) (hk : k < n) (hc : n ≤ c) :
    (spl (spl l (k * 3) (cs.drop ((k + 1) * 3))) ((n - 1) * 3) [.int .i64 0, .int .i64 0, .slice none 0 0]).take ((n - 1) * 3) = cs.take (k * 3) ++ cs.drop ((k + 1) * 3) := by
  have hdl : (cs.drop ((k + 1) * 3)).length = (n - (k + 1)) * 3 := by rw [List.length_drop, hl.2.2]; omega
  apply List.ext_getElem?
  intro j
  rw [List.getElem?_take, spl_get, spl_get, spl_len, hdl, hl.1]
  by_cases hj : j < (n - 1) * 3
  · rw [if_pos hj, if_neg (by omega)]
    by_cases h2 : j < k * 3
    · rw [if_neg (by omega), List.getElem?_append_left (by rw [List.length_take, hl.2.2]; omega), List.getElem?_take, if_pos h2, ← hl.2.1, List.getElem?_take, if_pos (by omega)]
    · rw [if_pos (by omega), List.getElem?_append_right (by rw [List.length_take, hl.2.2]; omega), List.length_take, hl.2.2]
      congr 1
      omega
  · rw [if_neg hj, List.getElem?_eq_none (by rw [List.length_append, List.length_take, hdl, hl.2.2]; omega)]
set_option maxHeartbeats 1000000 in
theorem delete_any (w : World) (base n k : Nat) (s : Value) (cs : List Value) (h : LRow w base s n cs) (hk : k < n) (hn : n ≤ 300) (hbase : base ≤ w.heap.size) :
    Calls Try.prog 32 #[s, .int .i64 (k : Int), .int .i64 ((k + 1 : Nat) : Int)] w fun e w' => ∃ v, e = .returned v ∧ LRow w' base v (n - 1) (cs.take (k * 3) ++ cs.drop ((k + 1) * 3)) ∧ w.grownBy w' s.ownBlock ∧ v.ownBlock = s.ownBlock := by
  rcases h.forms with ⟨_, rfl, _⟩ | ⟨gs, c, cur, rfl, q1, q2, q3, q4, q5, q6⟩
  · omega
  obtain ⟨l, rfl⟩ : ∃ l : List Value, cur = l.toArray := ⟨cur.toList, by simp⟩
  have H1 := Lib.hid h.2
  have HL : Hid (l.length = c * 3 ∧ l.take (n * 3) = cs ∧ cs.length = n * 3) := Lib.hid ⟨by simpa using q5, by simpa using q6, h.1.1⟩
  have HO : Hid (Blk w gs 43 l.toArray) := Lib.hid q2
  have BS := Lib.hid q1
  have HK := Lib.hid hk
  have HC := Lib.hid (And.intro q3 q4)
  obtain ⟨off, hoff⟩ : ∃ off, (if c = k + 1 then 0 else (k + 1) * 3) = off := ⟨_, rfl⟩
  have HOFF := Lib.hid hoff
  clear h q1 q2 q3 q4 q5 q6 hk hoff hn hbase
  go_enter Try.func32, Try.ntmps32
  go_upto_region 1 with (fail)
  refine wp_region_lit ?_
  refine wpL_pure (.slice (some ⟨gs, 0, none⟩) n c) rfl (by kernel_rfl) ?_
  simp only [Act.put, List.setIfInBounds_toArray, List.set_cons_zero, List.set_cons_succ]
  refine wpL_pure (.int .i64 (k : Int)) rfl (by kernel_rfl) ?_
  simp only [Act.put, List.setIfInBounds_toArray, List.set_cons_zero, List.set_cons_succ]
  refine wpL_pure (.int .i64 ((k + 1 : Nat) : Int)) rfl (by kernel_rfl) ?_
  simp only [Act.put, List.setIfInBounds_toArray, List.set_cons_zero, List.set_cons_succ]
  refine wpL_pure (.slice (some ⟨gs, 0, none⟩) n c) rfl (by kernel_rfl) ?_
  simp only [Act.put, List.setIfInBounds_toArray, List.set_cons_zero, List.set_cons_succ]
  refine wpL_pure (.int .i64 (n : Int)) rfl (by kernel_rfl) ?_
  simp only [Act.put, List.setIfInBounds_toArray, List.set_cons_zero, List.set_cons_succ]
  refine wpL_pure (.slice (some ⟨gs, k * 3, none⟩) 1 (n - k)) rfl (run_slice3 _ _ _ _ _ _ _ gs n c k (k + 1) 1 rfl rfl rfl rfl rfl (by omega) HK.out HK.out (by omega) HC.out) ?_
  simp only [Act.put, List.setIfInBounds_toArray, List.set_cons_zero, List.set_cons_succ]
  go_upto_region 2 with (fail)
  refine wp_region_lit ?_
  refine wpL_pure (.int .i64 (k : Int)) rfl (by kernel_rfl) ?_
  simp only [Act.put, List.setIfInBounds_toArray, List.set_cons_zero, List.set_cons_succ]
  refine wpL_pure (.int .i64 ((k + 1 : Nat) : Int)) rfl (by kernel_rfl) ?_
  simp only [Act.put, List.setIfInBounds_toArray, List.set_cons_zero, List.set_cons_succ]
  refine wpL_pure (.bool false) rfl (run_eqi Try.underlying3 rfl rfl rfl (by rw [decide_eq_false_iff_not]; omega)) ?_
  simp only [Act.put, List.setIfInBounds_toArray, List.set_cons_zero, List.set_cons_succ]
  go_upto_region 4 with (fail)
  refine wp_region_lit ?_
  refine wpL_pure (.slice (some ⟨gs, 0, none⟩) n c) rfl (by kernel_rfl) ?_
  simp only [Act.put, List.setIfInBounds_toArray, List.set_cons_zero, List.set_cons_succ]
  refine wpL_pure (.int .i64 (n : Int)) rfl (by kernel_rfl) ?_
  simp only [Act.put, List.setIfInBounds_toArray, List.set_cons_zero, List.set_cons_succ]
  refine wpL_pure (.int .i64 (n : Int)) rfl (by kernel_rfl) ?_
  simp only [Act.put, List.setIfInBounds_toArray, List.set_cons_zero, List.set_cons_succ]
  go_upto_region 5 with (fail)
  refine region_held (fun X => Blk X gs 43 l.toArray ∧ w.grownBy X none) 6 (by kernel_rfl) (by kernel_rfl) (by exact ⟨HO.out, gb_drew (gb_refl _ _)⟩) ?_
  simp only [List.take_succ_cons, List.take_zero, List.drop_succ_cons, List.drop_zero]
  refine wpHeld_cons (.slice (some ⟨gs, 0, none⟩) n c) rfl (fun w h => heldRun_value (by kernel_rfl) h) ?_
  simp only [Act.put, List.setIfInBounds_toArray, List.set_cons_zero, List.set_cons_succ]
  refine wpHeld_cons (.int .i64 (k : Int)) rfl (fun w h => heldRun_value (by kernel_rfl) h) ?_
  simp only [Act.put, List.setIfInBounds_toArray, List.set_cons_zero, List.set_cons_succ]
  refine wpHeld_cons (.slice (some ⟨gs, 0, none⟩) k c) rfl (fun w h => heldRun_value (run_sliceto _ _ _ _ _ gs n c k rfl rfl rfl HK.out HC.out) h) ?_
  simp only [Act.put, List.setIfInBounds_toArray, List.set_cons_zero, List.set_cons_succ]
  refine wpHeld_cons (.slice (some ⟨gs, 0, none⟩) n c) rfl (fun w h => heldRun_value (by kernel_rfl) h) ?_
  simp only [Act.put, List.setIfInBounds_toArray, List.set_cons_zero, List.set_cons_succ]
  refine wpHeld_cons (.int .i64 ((k + 1 : Nat) : Int)) rfl (fun w h => heldRun_value (by kernel_rfl) h) ?_
  simp only [Act.put, List.setIfInBounds_toArray, List.set_cons_zero, List.set_cons_succ]
  refine wpHeld_cons (.slice (some ⟨gs, off, none⟩) (n - (k + 1)) (c - (k + 1))) rfl (fun w h => heldRun_value (by rw [← HOFF.out]; exact run_slicefrom _ _ _ _ _ gs n c (k + 1) rfl rfl rfl HK.out HC.out) h) ?_
  simp only [Act.put, List.setIfInBounds_toArray, List.set_cons_zero, List.set_cons_succ]
  refine wpHeld_nil ?_
  intro X h
  obtain ⟨X1, hX1⟩ : ∃ V, V = X.setCells gs (k * 3) (cs.drop ((k + 1) * 3)) := ⟨_, rfl⟩
  have AP := Lib.hid (del_app X gs n c k l cs off h.1 HL.out HK.out HC.out HOFF.out H1.out)
  rw [← hX1] at AP
  have F1 : Hid (Blk X1 gs 43 (spl l (k * 3) (cs.drop ((k + 1) * 3))).toArray ∧ w.grownBy X1 (some gs)) := Lib.hid (by rw [hX1]; exact ⟨blk_setCells _ _ _ _ h.1, gb_trans (gb_any h.2) (gb_setCells _ _ _ _)⟩)
  clear hX1 h HO
  refine wpL_value (.slice (some ⟨gs, 0, none⟩) (n - 1) c) (X1) rfl (run_appl _ _ _ _ _ _ _ _ _ rfl rfl rfl rfl AP.out) ?_
  simp only [Act.put, List.setIfInBounds_toArray, List.set_cons_zero, List.set_cons_succ]
  refine wpL_pure (.slice (some ⟨gs, 0, none⟩) (n - 1) c) rfl (by kernel_rfl) ?_
  simp only [Act.put, List.setIfInBounds_toArray, List.set_cons_zero, List.set_cons_succ]
  go_upto_region 6 with (fail)
  refine wp_region_lit ?_
  refine wpL_pure (.slice (some ⟨gs, 0, none⟩) (n - 1) c) rfl (by kernel_rfl) ?_
  simp only [Act.put, List.setIfInBounds_toArray, List.set_cons_zero, List.set_cons_succ]
  refine wpL_pure (.slice (some ⟨gs, 0, none⟩) (n - 1) c) rfl (by kernel_rfl) ?_
  simp only [Act.put, List.setIfInBounds_toArray, List.set_cons_zero, List.set_cons_succ]
  refine wpL_pure (.int .i64 ((n - 1 : Nat) : Int)) rfl (by kernel_rfl) ?_
  simp only [Act.put, List.setIfInBounds_toArray, List.set_cons_zero, List.set_cons_succ]
  refine wpL_pure (.int .i64 (n : Int)) rfl (by kernel_rfl) ?_
  simp only [Act.put, List.setIfInBounds_toArray, List.set_cons_zero, List.set_cons_succ]
  refine wpL_pure (.slice (some ⟨gs, (n - 1) * 3, none⟩) 1 (c - (n - 1))) rfl (run_slicemid _ _ _ _ _ _ gs (n - 1) c (n - 1) n 1 rfl rfl rfl rfl (by omega) HC.out.1 (by have := HK.out; have := HC.out; omega) (by have := HK.out; omega) (by have := HC.out; omega)) ?_
  simp only [Act.put, List.setIfInBounds_toArray, List.set_cons_zero, List.set_cons_succ]
  obtain ⟨X2, hX2⟩ : ∃ V, V = X1.setCells gs ((n - 1) * 3) [.int .i64 0, .int .i64 0, .slice none 0 0] := ⟨_, rfl⟩
  have CR := Lib.hid (clear_run X1 gs ((n - 1) * 3) (c - (n - 1)) _ 39 F1.out.1 (by rw [spl_len, HL.out.1]; have := HK.out; have := HC.out.1; omega))
  rw [← hX2] at CR
  have F2 : Hid (Blk X2 gs 43 (spl (spl l (k * 3) (cs.drop ((k + 1) * 3))) ((n - 1) * 3) [.int .i64 0, .int .i64 0, .slice none 0 0]).toArray ∧ w.grownBy X2 (some gs)) := Lib.hid (by rw [hX2]; exact ⟨blk_setCells _ _ _ _ F1.out.1, gb_trans F1.out.2 (gb_setCells _ _ _ _)⟩)
  clear hX2 F1 AP
  refine wpL_value (.tuple #[]) (X2) rfl (run_clr _ _ _ _ _ _ rfl rfl CR.out) ?_
  simp only [Act.put, List.setIfInBounds_toArray, List.set_cons_zero, List.set_cons_succ]
  go_wp2_with fail
  go_ret
  exact ⟨_, rfl, ⟨⟨by rw [List.length_append, List.length_take, List.length_drop, HL.out.2.2]; have := HK.out; omega, .inr ⟨gs, c, _, rfl, BS.out, F2.out.1, by have := HC.out; omega, HC.out.2, by rw [List.size_toArray, spl_len, spl_len, HL.out.1], by rw [List.toList_toArray]; exact del_list l cs n c k HL.out HK.out HC.out.1⟩⟩, fun u hu => H1.out u (by rcases List.mem_append.1 hu with hu | hu; exact List.mem_of_mem_take hu; exact List.mem_of_mem_drop hu)⟩, F2.out.2, rfl⟩
end Go.Proofs.Ytoeojgdolanggaa
