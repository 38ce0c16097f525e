/- torn. -/
import Derived.Test.YteabblmhcjpboaaDE3
import Derived.Test.YteabblmhcjpboaaDSli
import Derived.Great.BuildSlice
import Derived.Deep.OwnRows
import Derived.Deep.WholeRow
import Derived.Laws.Small
namespace Go.Proofs.Yteabblmhcjpboaa.D
open Go Go.RowKit
set_option maxRecDepth 100000
/-- a sector of which k bytes of what is new stay. -/
def tornV (O L : List Int) (k : Nat) : List Int := if k < 128 then L.take (Nat.min k 64) ++ O.drop (Nat.min k 64) else O.take (64 - Nat.min (k - 128) 64) ++ L.drop (64 - Nat.min (k - 128) 64)
theorem tornV_ok {O L : List Int} (hO : SOk O) (hL : SOk L) (k : Nat) : SOk (tornV O L k) := by
  unfold tornV
  have h1 := Nat.min_le_right k 64
  have h2 := Nat.min_le_right (k - 128) 64
  change Nat.min k 64 ≤ 64 at h1
  change Nat.min (k - 128) 64 ≤ 64 at h2
  split
  · refine ⟨by rw [List.length_append, List.length_take, List.length_drop, hO.1, hL.1]; omega, fun x hx => ?_⟩
    rcases List.mem_append.1 hx with q | q
    · exact hL.2 x (List.mem_of_mem_take q)
    · exact hO.2 x (List.mem_of_mem_drop q)
  · refine ⟨by rw [List.length_append, List.length_take, List.length_drop, hO.1, hL.1]; omega, fun x hx => ?_⟩
    rcases List.mem_append.1 hx with q | q
    · exact hO.2 x (List.mem_of_mem_take q)
    · exact hL.2 x (List.mem_of_mem_drop q)
theorem sz64 {xs : List Int} (h : xs.length = 64) : (Try.prog.info? 77).map (·.size) = some (u8l xs).length := sz53 h
theorem run_min64 (a : Act) (o : Oper) (w : World) (x : Operand) (k m : Nat) (ho : o.op = .call { callee := .builtin .min, args := #[x, .const (.int .i64 64)], argTypes := #[3, 3] }) (ht : o.type = 3) (hx : a.eval x = .int .i64 (k : Int)) (hm : Nat.min k 64 = m) :
    (execOp a.eval o).run Try.prog w = .ok (.value (.int .i64 ((m : Nat) : Int))) w := by
  have hc : a.eval (.const (.int .i64 64)) = .int .i64 64 := rfl
  subst hm
  have q : (Builtin.min_ #[3, 3] 3 #[.int .i64 (k : Int), .int .i64 64]).run Try.prog w = .ok (.int .i64 ((Nat.min k 64 : Nat) : Int)) w := by
    rw [run_min_int2]
    have e : (Nat.min k 64 : Nat) = if k ≤ 64 then k else 64 := rfl
    rw [e]
    split <;> split <;> congr 2 <;> omega
  unfold execOp
  simp only [ho, resolve, invoke, builtin, Sem.run_bind, Sem.run_pure, Result.andThen_ok, List.map_toArray, List.map_cons, List.map_nil, hx, hc, ht, q]
theorem run_slaTo (a : Act) (o : Oper) (w : World) (x i : Operand) (g m : Nat) (ho : o.op = .slice 77 x none (some i) none) (hx : a.eval x = .pointer (some ⟨g, 0, none⟩)) (hi : a.eval i = .int .i64 (m : Int)) (hm : m ≤ 64) :
    (execOp a.eval o).run Try.prog w = .ok (.value (.slice (some ⟨g, 0, none⟩) m 64)) w := by
  have j0 : (0 : Int) ≤ (m : Int) := by omega
  have j1 : (m : Int) ≤ 64 := by omega
  unfold execOp
  simp only [ho, hx, Option.map_some, Option.map_none, hi]
  go_simp
theorem run_slaFrom (a : Act) (o : Oper) (w : World) (x i : Operand) (g st m off : Nat) (ho : o.op = .slice 77 x (some i) none none) (hx : a.eval x = .pointer (some ⟨g, 0, none⟩)) (hi : a.eval i = .int .i64 (st : Int)) (hs : st ≤ 64) (hm : m = 64 - st) (ho2 : (if st = 64 then 0 else st) = off) :
    (execOp a.eval o).run Try.prog w = .ok (.value (.slice (some ⟨g, off, none⟩) m m)) w := by
  have j0 : (0 : Int) ≤ (st : Int) := by omega
  have j1 : (st : Int) ≤ 64 := by omega
  subst ho2 hm
  by_cases h : st = 64
  · subst h
    unfold execOp
    simp only [ho, hx, Option.map_some, Option.map_none, hi]
    go_simp
  · have j2 : ¬ 64 = st := by omega
    rw [if_neg h]
    unfold execOp
    simp only [ho, hx, Option.map_some, Option.map_none, hi]
    go_simp
theorem row_u8 {w : World} {g t : Nat} {L : List Int} (h : Blk w g t (u8l L).toArray) (hl : L.length = 64) (hb : ∀ x ∈ L, 0 ≤ x ∧ x ≤ 255) : Row w (some ⟨g, 0, none⟩) 64 L :=
  ⟨hl, by simp [maxLen], hb, fun j hj => ⟨g, 0, rfl, by rw [h.cell, Nat.zero_add, List.getElem?_toArray, u8l, List.getElem?_map, List.getElem?_eq_getElem (show j < L.length by omega)]; simp [List.getD, List.getElem?_eq_getElem (show j < L.length by omega)]⟩⟩
theorem row_off {w : World} {g st m off : Nat} {L : List Int} (h : Row w (some ⟨g, 0, none⟩) 64 L) (hs : st ≤ 64) (hm : m = 64 - st) (ho : (if st = 64 then 0 else st) = off) : Row w (some ⟨g, off, none⟩) m (L.drop st) := by
  subst hm
  refine ⟨by rw [List.length_drop, h.1], by unfold maxLen; omega, fun x hx => h.2.2.1 x (List.mem_of_mem_drop hx), fun j hj => ⟨g, off, rfl, ?_⟩⟩
  rw [if_neg (by omega)] at ho
  subst ho
  obtain ⟨g', o', e, hc⟩ := h.2.2.2 (st + j) (by omega)
  cases e
  rw [Nat.zero_add] at hc
  rw [hc]
  simp [List.getD, List.getElem?_drop]
theorem torn_hi {O L : List Int} {st m off : Nat} (hO : O.length = 64) (hL : L.length = 64) (hs : st ≤ 64) (hm : m = 64 - st) (ho : (if st = 64 then 0 else st) = off) : (u8l O).take off ++ u8l ((L.drop st).take m) ++ (u8l O).drop (off + m) = u8l (O.take st ++ L.drop st) := by
  subst hm
  by_cases h : st = 64
  · subst h
    rw [if_pos rfl] at ho
    subst ho
    simp [u8l, List.take_of_length_le (show O.length ≤ 64 by omega), List.drop_of_length_le (show L.length ≤ 64 by omega)]
  · rw [if_neg h] at ho
    subst ho
    rw [List.take_of_length_le (show (L.drop st).length ≤ 64 - st by rw [List.length_drop]; omega), show st + (64 - st) = 64 by omega, List.drop_of_length_le (show (u8l O).length ≤ 64 by simp [u8l, hO])]
    simp [u8l]
theorem below_gb {B g : Nat} {a w w' : World} (h : Below B a w) (q : w.grownBy w' (some g)) (hg : B ≤ g) (hB : B ≤ a.heap.size) : Below B a w' :=
  ⟨q.os.trans h.os, q.tape.trans h.tape, q.output.trans h.output, Nat.le_trans h.size q.size, fun k hk => by
    have := h.size
    exact (q.block k (by omega) (by simp; omega)).trans (h.block k hk)⟩
theorem blk_rangeC {w : World} {g t : Nat} {l : List Value} (h : Blk w g t l.toArray) : w.rangeAt g 0 l := by
  intro j v hj
  rw [h.cell, Nat.zero_add, List.getElem?_toArray, hj]
theorem Row.take {w : World} {a : Option Addr} {n : Nat} {xs : List Int} (h : Row w a n xs) (m : Nat) (hm : m ≤ n) : Row w a m (xs.take m) := by
  obtain ⟨h1, h2, h3, h4⟩ := h
  refine ⟨by rw [List.length_take]; omega, by omega, fun x hx => h3 x (List.mem_of_mem_take hx), fun j hj => ?_⟩
  obtain ⟨g, o, e, hc⟩ := h4 j (by omega)
  refine ⟨g, o, e, ?_⟩
  rw [hc]
  simp [List.getD, List.getElem?_take, hj]
attribute [local irreducible] wpList
set_option maxHeartbeats 2000000 in
set_option maxRecDepth 100000 in
theorem tornD (O L : List Int) (hO : SOk O) (hL : SOk L) (k : Nat) (hk : k < 256) (w : World) : Calls Try.prog 43 #[.agg (u8l O).toArray, .agg (u8l L).toArray, .int .i64 ((k : Nat) : Int)] w fun e w' => e = .returned (.agg (u8l (tornV O L k)).toArray) ∧ Below w.heap.size w w' := by
  have TL := Lib.hid (tornV_ok hO hL k).1
  have HO := Lib.hid hO
  have HL := Lib.hid hL
  have HK := Lib.hid hk
  clear hO hL hk
  go_enter Try.func43, Try.ntmps43
  go_upto_region 1 with (fail)
  obtain ⟨W1, hW1⟩ : ∃ V, V = ((w.alloc (.cells (u8l O).toArray 77)).alloc (.cells (u8l L).toArray 77)).alloc (.cells #[.int .u8 0, .int .u8 0, .int .u8 0, .int .u8 0, .int .u8 0, .int .u8 0, .int .u8 0, .int .u8 0, .int .u8 0, .int .u8 0, .int .u8 0, .int .u8 0, .int .u8 0, .int .u8 0, .int .u8 0, .int .u8 0, .int .u8 0, .int .u8 0, .int .u8 0, .int .u8 0, .int .u8 0, .int .u8 0, .int .u8 0, .int .u8 0, .int .u8 0, .int .u8 0, .int .u8 0, .int .u8 0, .int .u8 0, .int .u8 0, .int .u8 0, .int .u8 0, .int .u8 0, .int .u8 0, .int .u8 0, .int .u8 0, .int .u8 0, .int .u8 0, .int .u8 0, .int .u8 0, .int .u8 0, .int .u8 0, .int .u8 0, .int .u8 0, .int .u8 0, .int .u8 0, .int .u8 0, .int .u8 0, .int .u8 0, .int .u8 0, .int .u8 0, .int .u8 0, .int .u8 0, .int .u8 0, .int .u8 0, .int .u8 0, .int .u8 0, .int .u8 0, .int .u8 0, .int .u8 0, .int .u8 0, .int .u8 0, .int .u8 0, .int .u8 0] 77) := ⟨_, rfl⟩
  rw [← hW1]
  have b1 : Below w.heap.size w W1 := by rw [hW1]; exact (((Below.refl _ _).alloc (Nat.le_refl _) _).alloc (by simp) _).alloc (by simp; omega) _
  have F1 : Hid (Below w.heap.size w W1 ∧ Blk W1 w.heap.size 77 (u8l O).toArray ∧ Blk W1 (w.heap.size + 1) 77 (u8l L).toArray ∧ Blk W1 (w.heap.size + 1 + 1) 77 #[.int .u8 0, .int .u8 0, .int .u8 0, .int .u8 0, .int .u8 0, .int .u8 0, .int .u8 0, .int .u8 0, .int .u8 0, .int .u8 0, .int .u8 0, .int .u8 0, .int .u8 0, .int .u8 0, .int .u8 0, .int .u8 0, .int .u8 0, .int .u8 0, .int .u8 0, .int .u8 0, .int .u8 0, .int .u8 0, .int .u8 0, .int .u8 0, .int .u8 0, .int .u8 0, .int .u8 0, .int .u8 0, .int .u8 0, .int .u8 0, .int .u8 0, .int .u8 0, .int .u8 0, .int .u8 0, .int .u8 0, .int .u8 0, .int .u8 0, .int .u8 0, .int .u8 0, .int .u8 0, .int .u8 0, .int .u8 0, .int .u8 0, .int .u8 0, .int .u8 0, .int .u8 0, .int .u8 0, .int .u8 0, .int .u8 0, .int .u8 0, .int .u8 0, .int .u8 0, .int .u8 0, .int .u8 0, .int .u8 0, .int .u8 0, .int .u8 0, .int .u8 0, .int .u8 0, .int .u8 0, .int .u8 0, .int .u8 0, .int .u8 0, .int .u8 0]) := Lib.hid (by
    refine ⟨b1, ?_, ?_, ?_⟩
    · rw [hW1]; exact ((Blk.new _ _ _).alloc _).alloc _
    · rw [hW1]; exact (Blk.new' _ _ _ _ (by simp)).alloc _
    · rw [hW1]; exact Blk.new' _ _ _ _ (by simp)
    )
  clear hW1 b1
  obtain ⟨g6, hg6⟩ : ∃ q, w.heap.size + 1 + 1 = q := ⟨_, rfl⟩
  rw [hg6] at F1
  rw [hg6]
  obtain ⟨g4, hg4⟩ : ∃ q, w.heap.size + 1 = q := ⟨_, rfl⟩
  obtain ⟨g3, hg3⟩ : ∃ q, w.heap.size = q := ⟨_, rfl⟩
  rw [hg4] at F1
  rw [hg3] at F1
  rw [hg4, hg3]
  have G : Hid (w.heap.size = g3 ∧ g3 + 1 = g4) := Lib.hid ⟨hg3, by omega⟩
  have LT : Hid (g3 < g6) := Lib.hid (by have := hg6; omega)
  clear hg3 hg4 hg6
  refine wp_region_lit ?_
  by_cases h8 : k < 128
  · have H8 := Lib.hid h8
    clear h8
    obtain ⟨m, hm⟩ : ∃ m, Nat.min k 64 = m := ⟨_, rfl⟩
    have HM := Lib.hid hm
    have M64 : Hid (m ≤ 64) := Lib.hid (by rw [← hm]; exact Nat.min_le_right _ _)
    clear hm
    refine wpL_pure (.int .i64 ((k : Nat) : Int)) rfl (by kernel_rfl) ?_
    simp only [Act.put, List.setIfInBounds_toArray, List.set_cons_zero, List.set_cons_succ]
    refine wpL_pure (.bool true) rfl (run_lti Try.underlying3 rfl rfl rfl (by have := H8.out; rw [decide_eq_true_eq]; omega)) ?_
    simp only [Act.put, List.setIfInBounds_toArray, List.set_cons_zero, List.set_cons_succ]
    unfold wpList
    go_upto_region 2 with (fail)
    refine wp_region_lit ?_
    refine wpL_pure (.int .i64 ((k : Nat) : Int)) rfl (by kernel_rfl) ?_
    simp only [Act.put, List.setIfInBounds_toArray, List.set_cons_zero, List.set_cons_succ]
    refine wpL_pure (.int .i64 ((m : Nat) : Int)) rfl (run_min64 _ _ _ _ k m rfl rfl rfl HM.out) ?_
    simp only [Act.put, List.setIfInBounds_toArray, List.set_cons_zero, List.set_cons_succ]
    refine wpL_pure (.int .i64 ((m : Nat) : Int)) rfl (by kernel_rfl) ?_
    simp only [Act.put, List.setIfInBounds_toArray, List.set_cons_zero, List.set_cons_succ]
    go_upto_region 3 with (fail)
    refine region_held (fun X => Below g3 w X ∧ Blk X g3 77 (u8l O).toArray ∧ Blk X g4 77 (u8l L).toArray ∧ Blk X g6 77 #[.int .u8 0, .int .u8 0, .int .u8 0, .int .u8 0, .int .u8 0, .int .u8 0, .int .u8 0, .int .u8 0, .int .u8 0, .int .u8 0, .int .u8 0, .int .u8 0, .int .u8 0, .int .u8 0, .int .u8 0, .int .u8 0, .int .u8 0, .int .u8 0, .int .u8 0, .int .u8 0, .int .u8 0, .int .u8 0, .int .u8 0, .int .u8 0, .int .u8 0, .int .u8 0, .int .u8 0, .int .u8 0, .int .u8 0, .int .u8 0, .int .u8 0, .int .u8 0, .int .u8 0, .int .u8 0, .int .u8 0, .int .u8 0, .int .u8 0, .int .u8 0, .int .u8 0, .int .u8 0, .int .u8 0, .int .u8 0, .int .u8 0, .int .u8 0, .int .u8 0, .int .u8 0, .int .u8 0, .int .u8 0, .int .u8 0, .int .u8 0, .int .u8 0, .int .u8 0, .int .u8 0, .int .u8 0, .int .u8 0, .int .u8 0, .int .u8 0, .int .u8 0, .int .u8 0, .int .u8 0, .int .u8 0, .int .u8 0, .int .u8 0, .int .u8 0]) 4 (by kernel_rfl) (by kernel_rfl) (by exact ⟨F1.out.1.drew, F1.out.2.1.drew, F1.out.2.2.1.drew, F1.out.2.2.2.drew⟩) ?_
    simp only [List.take_succ_cons, List.take_zero, List.drop_succ_cons, List.drop_zero]
    refine wpHeld_cons (.int .i64 ((m : Nat) : Int)) rfl (fun w h => heldRun_value (by kernel_rfl) h) ?_
    simp only [Act.put, List.setIfInBounds_toArray, List.set_cons_zero, List.set_cons_succ]
    refine wpHeld_cons (.slice (some ⟨g3, 0, none⟩) m 64) rfl (fun w h => heldRun_value (run_slaTo _ _ _ _ _ g3 m rfl rfl rfl M64.out) h) ?_
    simp only [Act.put, List.setIfInBounds_toArray, List.set_cons_zero, List.set_cons_succ]
    refine wpHeld_cons (.int .i64 ((m : Nat) : Int)) rfl (fun w h => heldRun_value (by kernel_rfl) h) ?_
    simp only [Act.put, List.setIfInBounds_toArray, List.set_cons_zero, List.set_cons_succ]
    refine wpHeld_cons (.slice (some ⟨g4, 0, none⟩) m 64) rfl (fun w h => heldRun_value (run_slaTo _ _ _ _ _ g4 m rfl rfl rfl M64.out) h) ?_
    simp only [Act.put, List.setIfInBounds_toArray, List.set_cons_zero, List.set_cons_succ]
    refine wpHeld_nil ?_
    intro X h
    have q : Row X (some ⟨g4, 0, none⟩) m (L.take m) := Row.take (row_u8 h.2.2.1 HL.out.1 HL.out.2) m M64.out
    obtain ⟨X2, r1, r2, r3⟩ := copy_blk X g3 77 0 m 64 (u8l O) (some ⟨g4, 0, none⟩) m 64 (L.take m) h.2.1 q (by rw [Nat.zero_add, u8l, List.length_map, HO.out.1]; exact M64.out) m (by simp)
    have e : (u8l O).take 0 ++ u8l ((L.take m).take m) ++ (u8l O).drop (0 + m) = u8l (tornV O L k) := by
      rw [tornV, if_pos H8.out, HM.out, List.take_zero, List.nil_append, List.take_take, Nat.min_self, Nat.zero_add]
      simp [u8l]
    rw [e] at r2
    have F3 : Hid (Below g3 w X2 ∧ Blk X2 g3 77 (u8l (tornV O L k)).toArray ∧ Blk X2 g6 77 #[.int .u8 0, .int .u8 0, .int .u8 0, .int .u8 0, .int .u8 0, .int .u8 0, .int .u8 0, .int .u8 0, .int .u8 0, .int .u8 0, .int .u8 0, .int .u8 0, .int .u8 0, .int .u8 0, .int .u8 0, .int .u8 0, .int .u8 0, .int .u8 0, .int .u8 0, .int .u8 0, .int .u8 0, .int .u8 0, .int .u8 0, .int .u8 0, .int .u8 0, .int .u8 0, .int .u8 0, .int .u8 0, .int .u8 0, .int .u8 0, .int .u8 0, .int .u8 0, .int .u8 0, .int .u8 0, .int .u8 0, .int .u8 0, .int .u8 0, .int .u8 0, .int .u8 0, .int .u8 0, .int .u8 0, .int .u8 0, .int .u8 0, .int .u8 0, .int .u8 0, .int .u8 0, .int .u8 0, .int .u8 0, .int .u8 0, .int .u8 0, .int .u8 0, .int .u8 0, .int .u8 0, .int .u8 0, .int .u8 0, .int .u8 0, .int .u8 0, .int .u8 0, .int .u8 0, .int .u8 0, .int .u8 0, .int .u8 0, .int .u8 0, .int .u8 0]) := Lib.hid ⟨below_gb h.1 r3 (Nat.le_refl _) (by have := G.out.1; omega), r2, h.2.2.2.grown r3 (by simp; exact fun e => by have := LT.out; omega)⟩
    have R1 := Lib.hid r1
    clear r1 r2 r3 q e h F1
    refine zV (.int .i64 (m : Int)) X2 (run_cpy _ _ _ _ _ _ _ _ _ rfl rfl rfl rfl R1.out) ?_
    unfold wpList
    go_upto_region 4 with (fail)
    refine wp_region_lit ?_
    refine wpL_load 77 _ rfl rfl g3 0 rfl (u8l (tornV O L k)) _ (blk_rangeC (F3.out.2.1)) Try.underlying77 rfl (sz64 TL.out) ?_
    simp only [Act.put, List.setIfInBounds_toArray, List.set_cons_zero, List.set_cons_succ]
    refine wpList_store_rowTo rfl 77 _ _ rfl rfl g6 (u8l (tornV O L k)).toArray rfl rfl 77 _ F3.out.2.2 (by rw [List.size_toArray]; exact sz64 TL.out) (by rw [show (u8l (tornV O L k)).toArray.size = 64 by simp [u8l, TL.out]]; rfl) (all8 _) ?_
    obtain ⟨Y, hY⟩ : ∃ V, V = X2.setRow g6 (u8l (tornV O L k)).toArray := ⟨_, rfl⟩
    try rw [← hY]
    have n9 : Blk Y g6 77 (u8l (tornV O L k)).toArray := by rw [hY]; exact setRow_heap _ _ _ _ _ _ F3.out.2.2
    have b9 : Below g3 w Y := by rw [hY]; exact below_setRow F3.out.1 (by have := LT.out; omega) _
    clear hY F3
    go_wp2_with fail
    refine bodyPost_ret (results_cell_row rfl _ _ g6 77 _ (0, 0) _ rfl n9 Try.underlying77 rfl (by rw [List.size_toArray]; exact sz64 TL.out)) rfl ⟨rfl, by rw [G.out.1]; exact b9⟩
  · have H8 := Lib.hid h8
    clear h8
    obtain ⟨m, hm⟩ : ∃ m, Nat.min (k - 128) 64 = m := ⟨_, rfl⟩
    have HM := Lib.hid hm
    obtain ⟨st, hst⟩ : ∃ q, 64 - m = q := ⟨_, rfl⟩
    have m64 : m ≤ 64 := by rw [← hm]; exact Nat.min_le_right _ _
    have m64 : m ≤ 64 := by rw [← hm]; exact Nat.min_le_right _ _
    have M64 : Hid (m ≤ 64 ∧ 64 - m = st ∧ st ≤ 64 ∧ m = 64 - st) := Lib.hid ⟨m64, hst, by omega, by omega⟩
    clear m64
    clear hm hst
    obtain ⟨off, hoff⟩ : ∃ q, (if st = 64 then 0 else st) = q := ⟨_, rfl⟩
    have HO2 := Lib.hid hoff
    clear hoff
    refine wpL_pure (.int .i64 ((k : Nat) : Int)) rfl (by kernel_rfl) ?_
    simp only [Act.put, List.setIfInBounds_toArray, List.set_cons_zero, List.set_cons_succ]
    refine wpL_pure (.bool false) rfl (run_lti Try.underlying3 rfl rfl rfl (by have := H8.out; rw [decide_eq_false_iff_not]; omega)) ?_
    simp only [Act.put, List.setIfInBounds_toArray, List.set_cons_zero, List.set_cons_succ]
    unfold wpList
    go_upto_region 5 with (fail)
    refine wp_region_lit ?_
    refine wpL_pure (.int .i64 ((k : Nat) : Int)) rfl (by kernel_rfl) ?_
    simp only [Act.put, List.setIfInBounds_toArray, List.set_cons_zero, List.set_cons_succ]
    refine wpL_pure (.int .i64 ((k - 128 : Nat) : Int)) rfl (run_subi Try.underlying3 rfl rfl rfl _ (by have := H8.out; have := HK.out; rw [wrap_in _ (by omega) (by omega)]; omega)) ?_
    simp only [Act.put, List.setIfInBounds_toArray, List.set_cons_zero, List.set_cons_succ]
    refine wpL_pure (.int .i64 ((m : Nat) : Int)) rfl (run_min64 _ _ _ _ (k - 128) m rfl rfl rfl HM.out) ?_
    simp only [Act.put, List.setIfInBounds_toArray, List.set_cons_zero, List.set_cons_succ]
    refine wpL_pure (.int .i64 ((m : Nat) : Int)) rfl (by kernel_rfl) ?_
    simp only [Act.put, List.setIfInBounds_toArray, List.set_cons_zero, List.set_cons_succ]
    go_upto_region 6 with (fail)
    refine region_held (fun X => Below g3 w X ∧ Blk X g3 77 (u8l O).toArray ∧ Blk X g4 77 (u8l L).toArray ∧ Blk X g6 77 #[.int .u8 0, .int .u8 0, .int .u8 0, .int .u8 0, .int .u8 0, .int .u8 0, .int .u8 0, .int .u8 0, .int .u8 0, .int .u8 0, .int .u8 0, .int .u8 0, .int .u8 0, .int .u8 0, .int .u8 0, .int .u8 0, .int .u8 0, .int .u8 0, .int .u8 0, .int .u8 0, .int .u8 0, .int .u8 0, .int .u8 0, .int .u8 0, .int .u8 0, .int .u8 0, .int .u8 0, .int .u8 0, .int .u8 0, .int .u8 0, .int .u8 0, .int .u8 0, .int .u8 0, .int .u8 0, .int .u8 0, .int .u8 0, .int .u8 0, .int .u8 0, .int .u8 0, .int .u8 0, .int .u8 0, .int .u8 0, .int .u8 0, .int .u8 0, .int .u8 0, .int .u8 0, .int .u8 0, .int .u8 0, .int .u8 0, .int .u8 0, .int .u8 0, .int .u8 0, .int .u8 0, .int .u8 0, .int .u8 0, .int .u8 0, .int .u8 0, .int .u8 0, .int .u8 0, .int .u8 0, .int .u8 0, .int .u8 0, .int .u8 0, .int .u8 0]) 6 (by kernel_rfl) (by kernel_rfl) (by exact ⟨F1.out.1.drew, F1.out.2.1.drew, F1.out.2.2.1.drew, F1.out.2.2.2.drew⟩) ?_
    simp only [List.take_succ_cons, List.take_zero, List.drop_succ_cons, List.drop_zero]
    refine wpHeld_cons (.int .i64 ((m : Nat) : Int)) rfl (fun w h => heldRun_value (by kernel_rfl) h) ?_
    simp only [Act.put, List.setIfInBounds_toArray, List.set_cons_zero, List.set_cons_succ]
    refine wpHeld_cons (.int .i64 ((st : Nat) : Int)) rfl (fun w h => heldRun_value (run_subi Try.underlying3 rfl rfl rfl _ (by have := M64.out; rw [wrap_in _ (by omega) (by omega)]; omega)) h) ?_
    simp only [Act.put, List.setIfInBounds_toArray, List.set_cons_zero, List.set_cons_succ]
    refine wpHeld_cons (.slice (some ⟨g3, off, none⟩) m m) rfl (fun w h => heldRun_value (run_slaFrom _ _ _ _ _ g3 st m off rfl rfl rfl M64.out.2.2.1 M64.out.2.2.2 HO2.out) h) ?_
    simp only [Act.put, List.setIfInBounds_toArray, List.set_cons_zero, List.set_cons_succ]
    refine wpHeld_cons (.int .i64 ((m : Nat) : Int)) rfl (fun w h => heldRun_value (by kernel_rfl) h) ?_
    simp only [Act.put, List.setIfInBounds_toArray, List.set_cons_zero, List.set_cons_succ]
    refine wpHeld_cons (.int .i64 ((st : Nat) : Int)) rfl (fun w h => heldRun_value (run_subi Try.underlying3 rfl rfl rfl _ (by have := M64.out; rw [wrap_in _ (by omega) (by omega)]; omega)) h) ?_
    simp only [Act.put, List.setIfInBounds_toArray, List.set_cons_zero, List.set_cons_succ]
    refine wpHeld_cons (.slice (some ⟨g4, off, none⟩) m m) rfl (fun w h => heldRun_value (run_slaFrom _ _ _ _ _ g4 st m off rfl rfl rfl M64.out.2.2.1 M64.out.2.2.2 HO2.out) h) ?_
    simp only [Act.put, List.setIfInBounds_toArray, List.set_cons_zero, List.set_cons_succ]
    refine wpHeld_nil ?_
    intro X h
    have q : Row X (some ⟨g4, off, none⟩) m (L.drop st) := row_off (row_u8 h.2.2.1 HL.out.1 HL.out.2) M64.out.2.2.1 M64.out.2.2.2 HO2.out
    obtain ⟨X2, r1, r2, r3⟩ := copy_blk X g3 77 off m m (u8l O) (some ⟨g4, off, none⟩) m m (L.drop st) h.2.1 q (by rw [u8l, List.length_map, HO.out.1]; have hm9 := M64.out; have ho9 := HO2.out; split at ho9 <;> omega) m (by simp)
    have e : (u8l O).take off ++ u8l ((L.drop st).take m) ++ (u8l O).drop (off + m) = u8l (tornV O L k) := by
      rw [tornV, if_neg H8.out, HM.out, M64.out.2.1]
      exact torn_hi HO.out.1 HL.out.1 M64.out.2.2.1 M64.out.2.2.2 HO2.out
    rw [e] at r2
    have F3 : Hid (Below g3 w X2 ∧ Blk X2 g3 77 (u8l (tornV O L k)).toArray ∧ Blk X2 g6 77 #[.int .u8 0, .int .u8 0, .int .u8 0, .int .u8 0, .int .u8 0, .int .u8 0, .int .u8 0, .int .u8 0, .int .u8 0, .int .u8 0, .int .u8 0, .int .u8 0, .int .u8 0, .int .u8 0, .int .u8 0, .int .u8 0, .int .u8 0, .int .u8 0, .int .u8 0, .int .u8 0, .int .u8 0, .int .u8 0, .int .u8 0, .int .u8 0, .int .u8 0, .int .u8 0, .int .u8 0, .int .u8 0, .int .u8 0, .int .u8 0, .int .u8 0, .int .u8 0, .int .u8 0, .int .u8 0, .int .u8 0, .int .u8 0, .int .u8 0, .int .u8 0, .int .u8 0, .int .u8 0, .int .u8 0, .int .u8 0, .int .u8 0, .int .u8 0, .int .u8 0, .int .u8 0, .int .u8 0, .int .u8 0, .int .u8 0, .int .u8 0, .int .u8 0, .int .u8 0, .int .u8 0, .int .u8 0, .int .u8 0, .int .u8 0, .int .u8 0, .int .u8 0, .int .u8 0, .int .u8 0, .int .u8 0, .int .u8 0, .int .u8 0, .int .u8 0]) := Lib.hid ⟨below_gb h.1 r3 (Nat.le_refl _) (by have := G.out.1; omega), r2, h.2.2.2.grown r3 (by simp; exact fun e => by have := LT.out; omega)⟩
    have R1 := Lib.hid r1
    clear r1 r2 r3 q e h F1
    refine zV (.int .i64 (m : Int)) X2 (run_cpy _ _ _ _ _ _ _ _ _ rfl rfl rfl rfl R1.out) ?_
    unfold wpList
    go_upto_region 7 with (fail)
    refine wp_region_lit ?_
    refine wpL_load 77 _ rfl rfl g3 0 rfl (u8l (tornV O L k)) _ (blk_rangeC (F3.out.2.1)) Try.underlying77 rfl (sz64 TL.out) ?_
    simp only [Act.put, List.setIfInBounds_toArray, List.set_cons_zero, List.set_cons_succ]
    refine wpList_store_rowTo rfl 77 _ _ rfl rfl g6 (u8l (tornV O L k)).toArray rfl rfl 77 _ F3.out.2.2 (by rw [List.size_toArray]; exact sz64 TL.out) (by rw [show (u8l (tornV O L k)).toArray.size = 64 by simp [u8l, TL.out]]; rfl) (all8 _) ?_
    obtain ⟨Y, hY⟩ : ∃ V, V = X2.setRow g6 (u8l (tornV O L k)).toArray := ⟨_, rfl⟩
    try rw [← hY]
    have n9 : Blk Y g6 77 (u8l (tornV O L k)).toArray := by rw [hY]; exact setRow_heap _ _ _ _ _ _ F3.out.2.2
    have b9 : Below g3 w Y := by rw [hY]; exact below_setRow F3.out.1 (by have := LT.out; omega) _
    clear hY F3
    go_wp2_with fail
    refine bodyPost_ret (results_cell_row rfl _ _ g6 77 _ (0, 0) _ rfl n9 Try.underlying77 rfl (by rw [List.size_toArray]; exact sz64 TL.out)) rfl ⟨rfl, by rw [G.out.1]; exact b9⟩
end Go.Proofs.Yteabblmhcjpboaa.D
