/- Laws: two new variables; equality of arrays; slices; what a sector tells. -/
import Derived.Test.YteabblmhcjpboaaC2
import Derived.Laws.ResultCell
namespace Go.Proofs.Yteabblmhcjpboaa.D
open Go Go.RowKit
set_option maxRecDepth 100000
section
variable {n : Nat} {P : Program} {ops : Array Oper} {Q : Exit → Act → World → Prop} {md : Region.Mode} {S : World → Prop}
/-- Two new variables, in whatever order. -/
theorem wpAnyT_allocs {i j di dj : Nat} {oi oj : Oper} {f : Nat} {listed : Array Bool} {a : Act} {w : World} (ti tj : TypeId) (cs1 cs2 : Array Value) (hi : ops[i]? = some oi) (hj : ops[j]? = some oj) (d1 : oi.dst = some di) (d2 : oj.dst = some dj) (x : di ≠ dj ∧ i ≠ j)
    (r0 : Region.ready md ops listed = [i, j]) (r1 : Region.ready md ops (listed.setIfInBounds i true) = [j]) (r2 : Region.ready md ops (listed.setIfInBounds j true) = [i])
    (wi : ∀ b : Act, Region.wanted oi (yielded ops b.tmps) = true) (wj : ∀ b : Act, Region.wanted oj (yielded ops b.tmps) = true)
    (e1 : ∀ (b : Act) (V : World), (execOp b.eval oi).run P V = .ok (.value (.pointer (some ⟨V.heap.size, 0, none⟩))) (V.alloc (.cells cs1 ti))) (e2 : ∀ (b : Act) (V : World), (execOp b.eval oj).run P V = .ok (.value (.pointer (some ⟨V.heap.size, 0, none⟩))) (V.alloc (.cells cs2 tj)))
    (hS : ∀ V, Below w.heap.size w V → S V)
    (rest : ∀ b1 b2 W, b1 ≠ b2 → Below w.heap.size w W → Blk W b1 ti cs1 → Blk W b2 tj cs2 → w.heap.size ≤ b1 → w.heap.size ≤ b2 → wpAnyT n S P md ops Q f ((listed.setIfInBounds i true).setIfInBounds j true) ((a.put (some di) (.pointer (some ⟨b1, 0, none⟩))).put (some dj) (.pointer (some ⟨b2, 0, none⟩))) W) :
    wpAnyT n S P md ops Q (f + 2) listed a w := by
  have A1 : ∀ o : Obj, Below w.heap.size w (w.alloc o) := fun o => (Below.refl _ _).alloc (Nat.le_refl _) _
  have sz : ∀ o : Obj, (w.alloc o).heap.size = w.heap.size + 1 := fun o => by simp
  have A2 : ∀ o o' : Obj, Below w.heap.size w ((w.alloc o).alloc o') := fun o o' => (A1 o).alloc (by rw [sz]; omega) _
  refine ⟨fun h => (by rw [r0] at h; cases h), fun k hk => ?_⟩
  rw [r0] at hk
  rcases List.mem_cons.1 hk with rfl | hk
  · refine op_valw _ _ hi (wi _) (e1 _ _) ⟨fun _ => hS _ (A1 _), wpAnyT_one r1 (op_valw _ _ hj (wj _) (e2 _ _) ⟨fun _ => hS _ (A2 _ _), ?_⟩)⟩
    rw [d1, d2]
    exact rest _ _ _ (by rw [sz]; omega) (A2 _ _) ((Blk.new _ _ _).alloc _) (Blk.new _ _ _) (Nat.le_refl _) (by rw [sz]; omega)
  · obtain rfl := List.mem_singleton.1 hk
    refine op_valw _ _ hj (wj _) (e2 _ _) ⟨fun _ => hS _ (A1 _), wpAnyT_one r2 (op_valw _ _ hi (wi _) (e1 _ _) ⟨fun _ => hS _ (A2 _ _), ?_⟩)⟩
    have z := rest _ _ _ (show (w.alloc (.cells cs2 tj)).heap.size ≠ w.heap.size by rw [sz]; omega) (A2 (.cells cs2 tj) (.cells cs1 ti)) (Blk.new _ _ _) ((Blk.new _ _ _).alloc _) (by rw [sz]; omega) (Nat.le_refl _)
    rw [Act.put_comm _ _ _ (fun d hd => by cases hd; simpa using x.1.symm), Array.setIfInBounds_comm _ _ x.2] at z
    rw [d1, d2]
    exact z
end
theorem op_skip {Pg : Program} {ops : Array Oper} {Q' : Exit → Act → World → Prop} {i : Nat} {o : Oper} {a : Act} {w : World} {K : Act → World → Prop} (w' : World) (ho : ops[i]? = some o) (hw : Region.wanted o (yielded ops a.tmps) = true) (hr : (execOp a.eval o).run Pg w = .ok .skip w') (hK : K (a.put o.dst undef) w') : wpOp Pg ops Q' i K a w := by
  unfold wpOp
  simp only [ho, hw, if_true, Oper.wp, hr, Oper.upon]
  exact .inl hK
theorem run_store_row {P : Program} (a : Act) (o : Oper) (w : World) (ty : TypeId) (x y : Operand) (ho : o.op = .store ty x y) (g : Nat) (cells : Array Value) (hx : a.eval x = .pointer (some ⟨g, 0, none⟩)) (hy : a.eval y = .agg cells)
    (t : TypeId) (old : Array Value) (hg : w.heap[g]? = some (.cells old t (0, 0))) (hi : (P.info? ty).map (·.size) = some cells.size) (hold : old.size = cells.size) (h1 : cells.all (·.oneCell') = true) : (execOp a.eval o).run P w = .ok .skip (w.setRow g cells) := by
  unfold execOp
  simp only [ho, hx, hy, Instr.storeAt, Instr.sureAddr, Sem.run_bind, Sem.run_pure, Result.andThen_ok, run_storeVar_row w g t ty old cells hg hi hold h1]
theorem results_ct {P : Program} {fn : Func} {p u : Tmp} {ty : TypeId} (h : fn.results = #[.cell p ty, .tmp u]) (tmps : Array Value) (w : World) (g : Nat) (t : TypeId) (cs : Array Value) (fr : Nat × Nat) (d : TypeDesc)
    (hp : tmps.getD p undef = .pointer (some ⟨g, 0, none⟩)) (hg : w.heap[g]? = some (.cells cs t fr)) (hu : P.underlying ty = some d) (hd : (match d with | .struct _ | .array _ _ => true | _ => false) = true) (hi : (P.info? ty).map (·.size) = some cs.size) :
    (results fn tmps).run P w = .ok (.tuple #[.agg cs, tmps.getD u undef]) w := by
  rw [results_cell_tmp h, hp]
  simp [asAddr, run_loadVar_row w g t ty cs fr d hg hu hd hi]
theorem results_ttct {P : Program} {fn : Func} {p u v x : Tmp} {ty : TypeId} (h : fn.results = #[.tmp v, .tmp x, .cell p ty, .tmp u]) (tmps : Array Value) (w : World) (g : Nat) (t : TypeId) (cs : Array Value) (fr : Nat × Nat) (d : TypeDesc)
    (hp : tmps.getD p undef = .pointer (some ⟨g, 0, none⟩)) (hg : w.heap[g]? = some (.cells cs t fr)) (hu : P.underlying ty = some d) (hd : (match d with | .struct _ | .array _ _ => true | _ => false) = true) (hi : (P.info? ty).map (·.size) = some cs.size) :
    (results fn tmps).run P w = .ok (.tuple #[tmps.getD v undef, tmps.getD x undef, .agg cs, tmps.getD u undef]) w := by
  have hp' : tmps[p]?.getD undef = .pointer (some ⟨g, 0, none⟩) := by simpa using hp
  simp [results, h, hp', asAddr, run_loadVar_row w g t ty cs fr d hg hu hd hi]
theorem forIn_all (P : Program) (w : World) (n : Nat) (f : Nat → (Option Bool × Unit) → Sem (ForInStep (Option Bool × Unit))) (c : Nat → Bool) (hf : ∀ i, i < n → (f i (none, ())).run P w = .ok (if c i then .yield (none, ()) else .done (some false, ())) w) :
    ∀ k i, i + k ≤ n → (forIn (List.range' i k) (none, ()) f : Sem (Option Bool × Unit)).run P w = .ok (if (List.range' i k).all c then (none, ()) else (some false, ())) w
  | 0, i, _ => by simp [go_sem]
  | k + 1, i, h => by
    rw [List.range'_succ, List.forIn_cons, Sem.run_bind, hf i (by omega), Result.andThen_ok, List.all_cons]
    cases hc : c i with
    | true =>
      simp only [if_true, Bool.true_and]
      exact forIn_all P w n f c hf k (i + 1) (by omega)
    | false => simp [go_sem]
theorem eq32 (L M : List Int) (hl : L.length = 16) (hm : M.length = 16) (d : Nat) (w : World) : (Op.equalIn (d + 2) 32 (.agg (u8l L).toArray) (.agg (u8l M).toArray)).run Try.prog w = .ok (decide (L = M)) w := by
  have u3 := Try.underlying5
  have ia3 := Try.isAgg5
  have z3 := Try.sizeOf5
  rw [show d + 2 = (d + 1) + 1 from rfl, Op.equalIn]
  simp only [Sem.run_bind, run_underlying Try.underlying32, Result.andThen_ok]
  simp only [Std.Legacy.Range.forIn_eq_forIn_range', Std.Legacy.Range.size, Nat.sub_zero, Nat.add_sub_cancel, Nat.div_one]
  go_simp
  rw [forIn_all Try.prog w 16 _ (fun i => decide (L.getD i 0 = M.getD i 0)) ?_ 16 0 (by omega)]
  · have e : (List.range' 0 16).all (fun i => decide (L.getD i 0 = M.getD i 0)) = decide (L = M) := by
      rw [Bool.eq_iff_iff, List.all_eq_true, decide_eq_true_eq]
      constructor
      · intro h
        apply List.ext_getElem?
        intro i
        by_cases hi : i < 16
        · have q := of_decide_eq_true (h i (by simp [List.mem_range']; omega))
          rw [List.getD, List.getD, List.getElem?_eq_getElem (show i < L.length by omega), List.getElem?_eq_getElem (show i < M.length by omega)] at q
          rw [List.getElem?_eq_getElem (show i < L.length by omega), List.getElem?_eq_getElem (show i < M.length by omega)]
          simpa using q
        · rw [List.getElem?_eq_none (by omega), List.getElem?_eq_none (by omega)]
      · intro h i _
        rw [h]; simp
    rw [e]
    by_cases h : L = M
    · simp [h, go_sem]
    · simp [h, go_sem]
  · intro i hi
    have e1 : (u8l L)[i]? = some (.int .u8 (L.getD i 0)) := by simp [u8l, List.getD, List.getElem?_eq_getElem (show i < L.length by omega)]
    have e2 : (u8l M)[i]? = some (.int .u8 (M.getD i 0)) := by simp [u8l, List.getD, List.getElem?_eq_getElem (show i < M.length by omega)]
    rw [e1, e2]
    go_simp
    split <;> rfl
theorem eq87 (L M : List Int) (hl : L.length = 32) (hm : M.length = 32) (d : Nat) (w : World) : (Op.equalIn (d + 2) 87 (.agg (u8l L).toArray) (.agg (u8l M).toArray)).run Try.prog w = .ok (decide (L = M)) w := by
  have u3 := Try.underlying5
  have ia3 := Try.isAgg5
  have z3 := Try.sizeOf5
  rw [show d + 2 = (d + 1) + 1 from rfl, Op.equalIn]
  simp only [Sem.run_bind, run_underlying Try.underlying87, Result.andThen_ok]
  simp only [Std.Legacy.Range.forIn_eq_forIn_range', Std.Legacy.Range.size, Nat.sub_zero, Nat.add_sub_cancel, Nat.div_one]
  go_simp
  rw [forIn_all Try.prog w 32 _ (fun i => decide (L.getD i 0 = M.getD i 0)) ?_ 32 0 (by omega)]
  · have e : (List.range' 0 32).all (fun i => decide (L.getD i 0 = M.getD i 0)) = decide (L = M) := by
      rw [Bool.eq_iff_iff, List.all_eq_true, decide_eq_true_eq]
      constructor
      · intro h
        apply List.ext_getElem?
        intro i
        by_cases hi : i < 32
        · have q := of_decide_eq_true (h i (by simp [List.mem_range']; omega))
          rw [List.getD, List.getD, List.getElem?_eq_getElem (show i < L.length by omega), List.getElem?_eq_getElem (show i < M.length by omega)] at q
          rw [List.getElem?_eq_getElem (show i < L.length by omega), List.getElem?_eq_getElem (show i < M.length by omega)]
          simpa using q
        · rw [List.getElem?_eq_none (by omega), List.getElem?_eq_none (by omega)]
      · intro h i _
        rw [h]; simp
    rw [e]
    by_cases h : L = M
    · simp [h, go_sem]
    · simp [h, go_sem]
  · intro i hi
    have e1 : (u8l L)[i]? = some (.int .u8 (L.getD i 0)) := by simp [u8l, List.getD, List.getElem?_eq_getElem (show i < L.length by omega)]
    have e2 : (u8l M)[i]? = some (.int .u8 (M.getD i 0)) := by simp [u8l, List.getD, List.getElem?_eq_getElem (show i < M.length by omega)]
    rw [e1, e2]
    go_simp
    split <;> rfl
theorem eq32' (L M : List Int) (hl : L.length = 16) (hm : M.length = 16) (w : World) : (Op.equalIn 10000 32 (.agg (u8l L).toArray) (.agg (u8l M).toArray)).run Try.prog w = .ok (decide (L = M)) w := eq32 L M hl hm 9998 w
theorem eq87' (L M : List Int) (hl : L.length = 32) (hm : M.length = 32) (w : World) : (Op.equalIn 10000 87 (.agg (u8l L).toArray) (.agg (u8l M).toArray)).run Try.prog w = .ok (decide (L = M)) w := eq87 L M hl hm 9998 w
theorem run_eq16 (a : Act) (o : Oper) (w : World) (x y : Operand) (L M : List Int) (hl : L.length = 16) (hm : M.length = 16) (ho : o.op = .binOp .eql 32 x y 32) (hx : a.eval x = .agg (u8l L).toArray) (hy : a.eval y = .agg (u8l M).toArray) : (execOp a.eval o).run Try.prog w = .ok (.value (.bool (decide (L = M)))) w := by
  have h := eq32' L M hl hm w
  have g : (Try.prog.eqGuardType Try.prog.depth 32) = false := by kernel_rfl
  unfold execOp
  simp only [ho, hx, hy]
  go_simp
theorem run_ne32 (a : Act) (o : Oper) (w : World) (x y : Operand) (L M : List Int) (b : Bool) (hl : L.length = 32) (hm : M.length = 32) (ho : o.op = .binOp .neq 87 x y 87) (hx : a.eval x = .agg (u8l L).toArray) (hy : a.eval y = .agg (u8l M).toArray) (hb : b = !decide (L = M)) : (execOp a.eval o).run Try.prog w = .ok (.value (.bool b)) w := by
  subst hb
  have h := eq87' L M hl hm w
  have g : (Try.prog.eqGuardType Try.prog.depth 87) = false := by kernel_rfl
  unfold execOp
  simp only [ho, hx, hy]
  go_simp
theorem run_slto (a : Act) (o : Oper) (w : World) (x i : Operand) (g off n c k : Nat) (ho : o.op = .slice 26 x none (some i) none) (hx : a.eval x = .slice (some ⟨g, off, none⟩) n c) (hi : a.eval i = .int .i64 (k : Int)) (hn : n ≤ c) (hc : c < 9223372036854775808) (hk : k ≤ n := by omega) : (execOp a.eval o).run Try.prog w = .ok (.value (.slice (some ⟨g, off, none⟩) k c)) w := by
  have j0 : (0 : Int) ≤ (k : Int) := by omega
  have j1 : (k : Int) ≤ (c : Int) := by omega
  unfold execOp
  simp only [ho, hx, Option.map_some, Option.map_none, hi]
  go_simp
theorem run_slfr (a : Act) (o : Oper) (w : World) (x i : Operand) (g off n c k : Nat) (ho : o.op = .slice 26 x (some i) none none) (hx : a.eval x = .slice (some ⟨g, off, none⟩) n c) (hi : a.eval i = .int .i64 (k : Int)) (hk : k < n) (hn : n ≤ c) (hc : c < 9223372036854775808) : (execOp a.eval o).run Try.prog w = .ok (.value (.slice (some ⟨g, off + k, none⟩) (n - k) (c - k))) w := by
  have q := run_slicep' a o w x i (some ⟨g, off, none⟩) n c k (n - k) ho hx hi (by omega) hn ⟨hc, fun _ p hp => by cases hp; rfl⟩ rfl
  rw [q, dropA, Option.map_some, if_neg (by omega)]
theorem run_s2a32 (a : Act) (o : Oper) (w : World) (x : Operand) (g off n c : Nat) (ho : o.op = .sliceToArrayPointer 87 x) (hx : a.eval x = .slice (some ⟨g, off, none⟩) n c) (hn : 32 ≤ n) : (execOp a.eval o).run Try.prog w = .ok (.value (.pointer (some ⟨g, off, none⟩))) w := by
  have j0 : ¬ n < 32 := by omega
  unfold execOp
  simp only [ho, hx]
  go_simp
  try simp [Instr.arrayAt, run_underlying Try.underlying87, hn, j0]
theorem run_build64 (a : Act) (o : Oper) (w : World) (x y z : Operand) (s c : Nat) (nt : List Int) (hn : nt.length = 16) (ho : o.op = .build 64 #[(0, x), (1, y), (2, z)]) (hx : a.eval x = .int .u64 ((s : Nat) : Int)) (hy : a.eval y = .int .u64 ((c : Nat) : Int)) (hz : a.eval z = .agg (u8l nt).toArray) : (execOp a.eval o).run Try.prog w = .ok (.value (.agg (hdV s c nt).toArray)) w := by
  match nt, hn with
  | [n0, n1, n2, n3, n4, n5, n6, n7, n8, n9, n10, n11, n12, n13, n14, n15], _ =>
    unfold execOp
    have hc : Try.prog.built 64 [(0, .int .u64 ((s : Nat) : Int)), (1, .int .u64 ((c : Nat) : Int)), (2, .agg (u8l [n0, n1, n2, n3, n4, n5, n6, n7, n8, n9, n10, n11, n12, n13, n14, n15]).toArray)] = some (hdV s c [n0, n1, n2, n3, n4, n5, n6, n7, n8, n9, n10, n11, n12, n13, n14, n15]).toArray := by kernel_rfl
    simp only [ho, List.map_toArray, List.map_cons, List.map_nil, hx, hy, hz, Sem.run_bind, run_build w 64 _ _ hc, Result.andThen_ok, Sem.run_pure]
theorem hd_one (s c : Nat) (nt : List Int) : (hdV s c nt).toArray.all (·.oneCell') = true := by
  simp [hdV, Value.oneCell']
theorem row_half {w : World} {g o : Nat} {xs : List Int} (h : Row w (some ⟨g, o, none⟩) 64 xs) : Row w (some ⟨g, o + 32, none⟩) 32 (xs.drop 32) := by
  have q := h.sub 32 32 (by omega)
  rwa [List.take_of_length_le (by rw [List.length_drop, h.1]; decide)] at q
theorem blk_row {w : World} {g t n : Nat} {l : List Int} (h : Blk w g t (u8l l).toArray) (hl : l.length = n) (hn : n ≤ maxLen) (hb : ∀ x ∈ l, 0 ≤ x ∧ x ≤ 255) : Row w (some ⟨g, 0, none⟩) n l :=
  ⟨hl, hn, hb, fun j hj => ⟨g, 0, rfl, by rw [h.cell, Nat.zero_add, List.getElem?_toArray, u8l, List.getElem?_map, List.getElem?_eq_getElem (show j < l.length by omega)]; simp [List.getD, List.getElem?_eq_getElem (show j < l.length by omega)]⟩⟩
theorem half_row {Y : World} {b n : Nat} {l : List Int} (hl : l.length = n) (hb : n ≤ 64 ∧ ∀ x ∈ l, 0 ≤ x ∧ x ≤ 255) {t : Nat} (h : Blk Y b t (u8l l).toArray) (i m : Nat) (hm : i + m ≤ n) : Row Y (some ⟨b, i, none⟩) m ((l.drop i).take m) := by
  have q := (blk_row h hl (by have := hb.1; unfold maxLen; omega) hb.2).sub i m hm
  rwa [Nat.zero_add] at q
/-- a sector's two halves are alike. -/
def whole (xs : List Int) : Bool := decide (xs.take 32 = xs.drop 32)
def srl (xs : List Int) : Nat := numA ((xs.drop 0).take 8)
def cntL (xs : List Int) : Nat := numA ((xs.drop 8).take 8)
def nteL (xs : List Int) : List Int := (xs.drop 16).take 16
/-- what parse tells: a head's value. -/
def prV (xs : List Int) (b : Bool) : List Value := if b = true then hdV (srl xs) (cntL xs) (nteL xs) else hdV 0 0 (List.replicate 16 0)
theorem sl_take (i m : Nat) (xs : List Int) (h : i + m ≤ 32) : ((xs.take 32).drop i).take m = (xs.drop i).take m := by
  rw [List.drop_take, List.take_take, Nat.min_eq_left (by omega)]
theorem srl_lt {xs : List Int} (h : ∀ x ∈ xs, 0 ≤ x ∧ x ≤ 255) : U64 (srl xs) := by
  have q := numA_lt 8 (xs.drop 0) (fun x hx => h x (List.mem_of_mem_drop hx))
  unfold U64 srl; simpa using q
theorem cnt_lt {xs : List Int} (h : ∀ x ∈ xs, 0 ≤ x ∧ x ≤ 255) : U64 (cntL xs) := by
  have q := numA_lt 8 (xs.drop 8) (fun x hx => h x (List.mem_of_mem_drop hx))
  unfold U64 cntL; simpa using q
theorem nte_ok {xs : List Int} (hs : SOk xs) : NtOk (nteL xs) := ⟨by simp [nteL, hs.1], fun x hx => hs.2 x (List.mem_of_mem_drop (List.mem_of_mem_take hx))⟩
end Go.Proofs.Yteabblmhcjpboaa.D
