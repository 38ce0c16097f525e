/- What is appended is written into the room. -/
import Derived.Test.YteabblmhcjpboaaC10
namespace Go.Proofs.Yteabblmhcjpboaa.D
open Go Go.RowKit
set_option maxRecDepth 100000
/-- a byte of all sectors. -/
def bt (S : List (List Int)) (j : Nat) : Int := (S.getD (j / 64) []).getD (j % 64) 0
theorem bt_set {S : List (List Int)} {i : Nat} (hi : i < S.length) (x : List Int) (j : Nat) : bt (S.set i x) j = if j / 64 = i then x.getD (j % 64) 0 else bt S j := by
  unfold bt
  simp only [List.getD_eq_getElem?_getD]
  by_cases e : j / 64 = i
  · rw [if_pos e, e, List.getElem?_set_self hi]; rfl
  · rw [if_neg e, List.getElem?_set_ne (fun h => e h.symm)]
theorem getD_some {S : List (List Int)} {i : Nat} {s : List Int} (h : S[i]? = some s) : S.getD i [] = s := by rw [List.getD, h]; rfl
/-- what is written from P on. -/
def FillRel (S S' : List (List Int)) (P : Nat) (ys : List Int) : Prop := S'.length = S.length ∧ ∀ j, bt S' j = if P ≤ j ∧ j < P + ys.length then ys.getD (j - P) 0 else bt S j
theorem FillRel.nil (S : List (List Int)) (P : Nat) : FillRel S S P [] := ⟨rfl, fun j => by rw [if_neg (by simp only [List.length_nil]; omega)]⟩
theorem sec_ext {a b : List Int} (ha : a.length = 64) (hb : b.length = 64) (h : ∀ r, r < 64 → a.getD r 0 = b.getD r 0) : a = b := by
  apply List.ext_getElem?
  intro r
  by_cases hr : r < 64
  · have q := h r hr
    rw [List.getD, List.getD, List.getElem?_eq_getElem (show r < a.length by omega), List.getElem?_eq_getElem (show r < b.length by omega)] at q
    rw [List.getElem?_eq_getElem (show r < a.length by omega), List.getElem?_eq_getElem (show r < b.length by omega)]
    simpa using q
  · rw [List.getElem?_eq_none (by omega), List.getElem?_eq_none (by omega)]
theorem bt_get {S : List (List Int)} {i : Nat} {s : List Int} (h : S[i]? = some s) (r : Nat) (hr : r < 64) : bt S (i * 64 + r) = s.getD r 0 := by
  unfold bt
  rw [show (i * 64 + r) / 64 = i by omega, show (i * 64 + r) % 64 = r by omega, getD_some h]
/-- a sector that is changed from r on. -/
def patch (s ys : List Int) (r k : Nat) : List Int := s.take r ++ ys.take k ++ s.drop (r + k)
theorem patch_len {s ys : List Int} {r k : Nat} (hs : s.length = 64) (hk : k ≤ ys.length) (hr : r + k ≤ 64) : (patch s ys r k).length = 64 := by
  simp only [patch, List.length_append, List.length_take, List.length_drop]; omega
theorem patch_get {s ys : List Int} {r k : Nat} (hs : s.length = 64) (hk : k ≤ ys.length) (hr : r + k ≤ 64) (j : Nat) : (patch s ys r k).getD j 0 = if r ≤ j ∧ j < r + k then ys.getD (j - r) 0 else s.getD j 0 := by
  have l1 : (s.take r).length = r := by rw [List.length_take]; omega
  have l2 : (ys.take k).length = k := by rw [List.length_take]; omega
  unfold patch
  simp only [List.getD]
  by_cases h1 : j < r
  · rw [if_neg (by omega), List.append_assoc, List.getElem?_append_left (by omega), List.getElem?_take, if_pos h1]
  · by_cases h2 : j < r + k
    · rw [if_pos ⟨by omega, h2⟩, List.getElem?_append_left (by rw [List.length_append]; omega), List.getElem?_append_right (by omega), l1, List.getElem?_take, if_pos (by omega)]
    · rw [if_neg (by omega), List.getElem?_append_right (by rw [List.length_append]; omega), List.length_append, l1, l2, List.getElem?_drop, show r + k + (j - (r + k)) = j by omega]
theorem patch_ok {s ys : List Int} {r k : Nat} (hs : SOk s) (hy : ∀ x ∈ ys, 0 ≤ x ∧ x ≤ 255) (hk : k ≤ ys.length) (hr : r + k ≤ 64) : SOk (patch s ys r k) := ⟨patch_len hs.1 hk hr, fun x hx => by
  simp only [patch, List.mem_append] at hx
  rcases hx with (q | q) | q
  · exact hs.2 x (List.mem_of_mem_take q)
  · exact hy x (List.mem_of_mem_take q)
  · exact hs.2 x (List.mem_of_mem_drop q)⟩
theorem getD_drop' (ys : List Int) (t j : Nat) : (ys.drop t).getD j 0 = ys.getD (t + j) 0 := by simp [List.getD, List.getElem?_drop]
theorem getD_take' (ys : List Int) {t j : Nat} (h : j < t) : (ys.take t).getD j 0 = ys.getD j 0 := by simp [List.getD, List.getElem?_take, h]
theorem FillRel.step {S S' : List (List Int)} {P t k i r : Nat} {ys s : List Int} (h : FillRel S S' P (ys.take t)) (ht : t + k ≤ ys.length) (hi : i * 64 + r = P + t) (hr : r + k ≤ 64) (hs : S'[i]? = some s) (hs2 : s.length = 64) : FillRel S (S'.set i (patch s (ys.drop t) r k)) P (ys.take (t + k)) := by
  have hil : i < S'.length := lt_of_some hs
  refine ⟨by rw [List.length_set]; exact h.1, fun j => ?_⟩
  have l1 : (ys.take t).length = t := by rw [List.length_take]; omega
  have l2 : (ys.take (t + k)).length = t + k := by rw [List.length_take]; omega
  rw [bt_set hil, l2]
  by_cases e : j / 64 = i
  · rw [if_pos e, patch_get hs2 (by rw [List.length_drop]; omega) hr, getD_drop']
    by_cases q : r ≤ j % 64 ∧ j % 64 < r + k
    · rw [if_pos q, if_pos (by omega), getD_take' _ (by omega)]
      congr 1; omega
    · rw [if_neg q]
      have b := h.2 j
      have g : bt S' j = s.getD (j % 64) 0 := by unfold bt; rw [e, getD_some hs]
      rw [← g, b, l1]
      by_cases c : P ≤ j ∧ j < P + t
      · rw [if_pos c, if_pos (by omega), getD_take' _ (by omega), getD_take' _ (by omega)]
      · rw [if_neg c, if_neg (by omega)]
  · rw [if_neg e, h.2 j, l1]
    by_cases c : P ≤ j ∧ j < P + t
    · rw [if_pos c, if_pos (by omega), getD_take' _ (by omega), getD_take' _ (by omega)]
    · rw [if_neg c, if_neg (by omega)]
theorem FillRel.old {S S' : List (List Int)} {P t i : Nat} {ys s : List Int} (h : FillRel S S' P (ys.take t)) (hS : ∀ s ∈ S, SOk s) (ht : t ≤ ys.length) (hi : t = 0 ∨ P + t ≤ i * 64) (hs : S'[i]? = some s) (hs2 : s.length = 64) : S[i]? = some s := by
  have hil : i < S.length := by rw [← h.1]; exact lt_of_some hs
  rw [List.getElem?_eq_getElem hil]
  have o := hS _ (List.getElem_mem hil)
  have e : S[i] = s := sec_ext o.1 hs2 (fun r hr => by
    have b := h.2 (i * 64 + r)
    rw [bt_get hs r hr, if_neg (by rw [List.length_take]; omega), bt_get (List.getElem?_eq_getElem hil) r hr] at b
    exact b.symm)
  rw [e]
def LIn (fr rm : Nat) (S : List (List Int)) (L : List (Int × List Int × Nat)) : Prop := ∀ e ∈ L, ∃ i : Nat, e.1 = (i : Int) ∧ fr + 2 ≤ i ∧ i < fr + 2 + rm ∧ S[i]? = some e.2.1
def FillPost (b gs gm n fr rm : Nat) (S : List (List Int)) (fu : Bool) (P : Nat) (ys : List Int) (w : World) (e : Ending) (w' : World) : Prop :=
  Fd b gs gm w w' ∧ ((e = .returned (.int .i64 0) ∧ ∃ (dc' : Nat) (fz' : Int) (S' : List (List Int)), DS w' b gs gm n [] dc' S' fu fz' false ∧ FillRel S S' P ys) ∨
    (fu = true ∧ e = .returned (.int .i64 5) ∧ ∃ (t : Nat) (L' : List (Int × List Int × Nat)) (dc' : Nat) (fz' : Int) (S' : List (List Int)), t ≤ ys.length ∧ DS w' b gs gm n L' dc' S' fu fz' true ∧ FillRel S S' P (ys.take t) ∧ LIn fr rm S L'))
theorem own_blk64 {w : World} {B : Nat} {v : Value} {xs : List Int} (h : Own w B v xs) (hx : xs.length = 64) : ∃ (g c : Nat) (R : List Value), v = .slice (some ⟨g, 0, none⟩) 64 c ∧ Blk w g 5 (u8l xs ++ R).toArray ∧ 64 ≤ c ∧ c < 9223372036854775808 ∧ B ≤ g := by
  rcases h.form with ⟨_, rfl⟩ | ⟨g, cap, cur, e, hB, hg, h4, h5, h6, h7⟩
  · simp at hx
  · refine ⟨g, cap, cur.toList.drop 64, by rw [e, hx], ?_, by omega, by unfold maxLen at h5; omega, hB⟩
    have q : u8l xs ++ cur.toList.drop 64 = cur.toList := by
      rw [u8l, ← h7, hx, List.take_append_drop]
    rw [q]; exact hg
theorem pre_row {w : World} {g n : Nat} {xs : List Int} {R : List Value} (h : Blk w g 5 (u8l xs ++ R).toArray) (hl : xs.length = n) (hn : n ≤ maxLen) (hb : ∀ x ∈ xs, 0 ≤ x ∧ x ≤ 255) : Row w (some ⟨g, 0, none⟩) n xs :=
  ⟨hl, hn, hb, fun j hj => ⟨g, 0, rfl, by
    have hl' : j < xs.length := by omega
    rw [h.cell, Nat.zero_add, List.getElem?_toArray, List.getElem?_append_left (by simp only [u8l, List.length_map]; exact hl'), u8l, List.getElem?_map, List.getElem?_eq_getElem hl']
    simp [List.getD, List.getElem?_eq_getElem hl']⟩⟩
theorem patch_u8 (s ys : List Int) (R : List Value) (r k : Nat) (hs : s.length = 64) (hr : r + k ≤ 64) : (u8l s ++ R).take r ++ u8l (ys.take k) ++ (u8l s ++ R).drop (r + k) = u8l (patch s ys r k) ++ R := by
  have l : (u8l s).length = 64 := by rw [u8l_len, hs]
  rw [List.take_append_of_le_length (by omega), List.drop_append_of_le_length (by omega)]
  simp only [patch, u8l, List.map_append, List.map_take, List.map_drop, List.append_assoc]
theorem run_quo64 (a : Act) (o : Oper) (w : World) (x : Operand) (p : Nat) (ho : o.op = .binOp .quo 3 x (.const (.int .i64 64)) 3) (hx : a.eval x = .int .i64 (p : Int)) (hp : p < 100000000) : (execOp a.eval o).run Try.prog w = .ok (.value (.int .i64 ((p / 64 : Nat) : Int))) w := by
  have u := run_underlying Try.underlying3 w
  have hc : ∀ v, a.eval (.const v) = v := fun _ => rfl
  have h2 : ((p : Int)).tdiv 64 = ((p / 64 : Nat) : Int) := by rw [Int.tdiv_eq_ediv_of_nonneg (by omega)]; rfl
  unfold execOp
  simp only [ho, hx, hc]
  go_simp
  try (rw [h2]; exact wrap_in _ (by omega) (by omega))
  try exact wrap_in _ (by omega) (by omega)
  try omega
theorem run_rem64 (a : Act) (o : Oper) (w : World) (x : Operand) (p : Nat) (ho : o.op = .binOp .rem 3 x (.const (.int .i64 64)) 3) (hx : a.eval x = .int .i64 (p : Int)) (hp : p < 100000000) : (execOp a.eval o).run Try.prog w = .ok (.value (.int .i64 ((p % 64 : Nat) : Int))) w := by
  have u := run_underlying Try.underlying3 w
  have hc : ∀ v, a.eval (.const v) = v := fun _ => rfl
  have h2 : ((p : Int)).tmod 64 = ((p % 64 : Nat) : Int) := by rw [Int.tmod_eq_emod_of_nonneg (by omega)]; rfl
  unfold execOp
  simp only [ho, hx, hc]
  go_simp
  try (rw [h2]; exact wrap_in _ (by omega) (by omega))
  try exact wrap_in _ (by omega) (by omega)
  try omega
theorem run_slfr0 (a : Act) (o : Oper) (w : World) (x i : Operand) (g n c k : Nat) (ho : o.op = .slice 26 x (some i) none none) (hx : a.eval x = .slice (some ⟨g, 0, none⟩) n c) (hi : a.eval i = .int .i64 (k : Int)) (hk : k < n) (hn : n ≤ c) (hc : c < 9223372036854775808) : (execOp a.eval o).run Try.prog w = .ok (.value (.slice (some ⟨g, k, none⟩) (n - k) (c - k))) w := by
  have q := run_slfr a o w x i g 0 n c k ho hx hi hk hn hc
  rwa [Nat.zero_add] at q
theorem fd_row0 {w w' : World} {b gs gm m : Nat} {a : Option Addr} {xs : List Int} (h : Fd b gs gm w w') (hr : Row w a m xs) (ha : 0 < m → ∀ p, a = some p → p.block ≠ b ∧ p.block ≠ gs ∧ p.block ≠ gm) : Row w' a m xs := by
  rcases Nat.eq_zero_or_pos m with q | q
  · exact row_zero hr q
  · exact h.row hr (ha q)
theorem dropA_block {a : Option Addr} {c s : Nat} {p : Addr} (h : dropA a c s = some p) : ∃ q, a = some q ∧ q.block = p.block := by
  cases a with
  | none => simp [dropA] at h
  | some q => simp [dropA] at h; exact ⟨q, rfl, by rw [← h]⟩
theorem wrL_new {L : List (Int × List Int × Nat)} (c : Nat) {i : Int} (s : List Int) (h : ∀ e ∈ L, e.1 ≠ i) : wrL L c i s = (L ++ [(i, s, c)], c + 1) := by
  unfold wrL
  rw [if_neg (fun ⟨e, he, q⟩ => h e he q)]
theorem min_or (a b : Nat) : Nat.min a b = a ∨ Nat.min a b = b := by
  change min a b = a ∨ min a b = b
  omega
def lenOf : Value → Nat
  | .slice _ n _ => n
  | _ => 0
theorem fill_new {fr rm vl t m i : Nat} {S : List (List Int)} {L : List (Int × List Int × Nat)} (h : ∀ e ∈ L, ∃ i : Nat, e.1 = (i : Int) ∧ fr + 2 ≤ i ∧ i < fr + 2 + rm ∧ i * 64 < (fr + 2) * 64 + vl + t ∧ S[i]? = some e.2.1 ∧ (t = 0 → False)) (ht : t = 0 ∨ (vl + t) % 64 = 0 ∨ t = m) (hm : t < m) (hi : i * 64 + (vl + t) % 64 = (fr + 2) * 64 + vl + t) : ∀ e ∈ L, e.1 ≠ (i : Int) := fun e he q => by
  obtain ⟨k, h1, h2, h3, h4, _, h6⟩ := h e he
  rcases ht with h0 | h0 | h0
  · exact h6 h0
  · omega
  · omega
theorem Sl.below' {w w' : World} {a : Option Addr} {n c : Nat} {xs : List Int} (h : Sl w a n c xs) (hb : Below w.heap.size w w') : Sl w' a n c xs := ⟨h.1.keep hb, h.2⟩
theorem sl_lt {w : World} {a : Option Addr} {n c : Nat} {xs : List Int} (h : Sl w a n c xs) (hn : 0 < n) : ∀ p, a = some p → p.block < w.heap.size := fun p hp => by
  obtain ⟨g, o, e, hc⟩ := h.1.2.2.2 0 hn
  rw [hp] at e
  cases e
  exact World.block_lt_of_cell? w _ hc
theorem fd_far {w w' w'' : World} {b gs gm r : Nat} (h : Fd b gs gm w w') (q : w'.grownBy w'' (some r)) (hr : w.heap.size ≤ r) : Fd b gs gm w w'' :=
  ⟨q.os.trans h.1, q.tape.trans h.2.1, q.output.trans h.2.2.1, Nat.le_trans h.2.2.2.1 q.size, fun k hk h1 h2 h3 => (q.block k (Nat.lt_of_lt_of_le hk h.2.2.2.1) (fun e => by cases e; omega)).trans (h.2.2.2.2 k hk h1 h2 h3)⟩
attribute [local irreducible] wpList
set_option maxHeartbeats 8000000
theorem fill_any {w : World} {lb b fr rm : Nat} {s c : Nat} {nt : List Int} {v : Value} {ov : Bool} {va : Option Addr} {vl vc gs gm n dc : Nat} {S : List (List Int)} {fu : Bool} {fz : Int} (h : LS w lb b fr rm s c nt (.slice va vl vc) ov) (d : DS w b gs gm n [] dc S fu fz false) (ne : lb ≠ b ∧ lb ≠ gs ∧ lb ≠ gm) (hfr : fr + 2 + rm ≤ n) (a : Option Addr) (m cx : Nat) (ys : List Int) (hy : Sl w a m cx ys) (ha : 0 < m → ∀ p, a = some p → p.block ≠ b ∧ p.block ≠ gs ∧ p.block ≠ gm) (hm : vl + m ≤ rm * 64) :
    Calls Try.prog 34 #[.pointer (some ⟨lb, 0, none⟩), .slice a m cx] w fun e w' => FillPost b gs gm n fr rm S fu ((fr + 2) * 64 + vl) ys w e w' := by
  have H := Lib.hid h
  have D := Lib.hid d
  have NE := Lib.hid ne
  have HB : Hid (fr + 2 + rm ≤ n ∧ vl + m ≤ rm * 64 ∧ rm ≤ 1000 ∧ fr ≤ 1000) := Lib.hid ⟨hfr, hm, h.2.2.2.2.2, h.2.2.2.2.1⟩
  have HY := Lib.hid (And.intro hy ha)
  clear h d ne hfr hy ha hm
  go_enter Try.func34, Try.ntmps34
  go_upto_region 0 with (fail)
  refine wp_region_lit ?_
  refine wpL_pure (.int .i64 0) rfl (by kernel_rfl) ?_
  simp only [Act.put, List.setIfInBounds_toArray, List.set_cons_zero, List.set_cons_succ]
  by_cases hz : m = 0
  · have HZ := Lib.hid hz
    clear hz
    go_upto_region 1 with (fail)
    refine wp_region_lit ?_
    refine wpL_pure (.slice a m cx) rfl (by kernel_rfl) ?_
    simp only [Act.put, List.setIfInBounds_toArray, List.set_cons_zero, List.set_cons_succ]
    refine wpL_pure (.int .i64 (m : Int)) rfl (by kernel_rfl) ?_
    simp only [Act.put, List.setIfInBounds_toArray, List.set_cons_zero, List.set_cons_succ]
    refine wpL_pure (.bool true) rfl (run_eqi Try.underlying3 rfl rfl rfl (by have := HZ.out; rw [decide_eq_true_eq]; omega)) ?_
    simp only [Act.put, List.setIfInBounds_toArray, List.set_cons_zero, List.set_cons_succ]
    go_upto_region 2 with (fail)
    refine wp_region_lit ?_
    refine wpL_pure (.int .i64 0) rfl (by kernel_rfl) ?_
    simp only [Act.put, List.setIfInBounds_toArray, List.set_cons_zero, List.set_cons_succ]
    go_wp2_with fail
    go_ret
    exact ⟨Fd.refl _, .inl ⟨rfl, _, _, S, D.out, (by have e : ys = [] := List.eq_nil_of_length_eq_zero (by rw [HY.out.1.1.1]; exact HZ.out); rw [e]; exact FillRel.nil _ _)⟩⟩
  · have HZ := Lib.hid hz
    clear hz
    have HY := Lib.hid (And.intro HY.out.1 (HY.out.2 (by have := HZ.out; omega)))
    go_upto_region 1 with (fail)
    refine wp_region_lit ?_
    refine wpL_pure (.slice a m cx) rfl (by kernel_rfl) ?_
    simp only [Act.put, List.setIfInBounds_toArray, List.set_cons_zero, List.set_cons_succ]
    refine wpL_pure (.int .i64 (m : Int)) rfl (by kernel_rfl) ?_
    simp only [Act.put, List.setIfInBounds_toArray, List.set_cons_zero, List.set_cons_succ]
    refine wpL_pure (.bool false) rfl (run_eqi Try.underlying3 rfl rfl rfl (by have := HZ.out; rw [decide_eq_false_iff_not]; omega)) ?_
    simp only [Act.put, List.setIfInBounds_toArray, List.set_cons_zero, List.set_cons_succ]
    go_upto_region 3 with (fail)
    refine wp_region_lit ?_
    refine wpL_pure (.pointer (some ⟨lb, 0, none⟩)) rfl (by kernel_rfl) ?_
    simp only [Act.put, List.setIfInBounds_toArray, List.set_cons_zero, List.set_cons_succ]
    refine wpL_pure (.pointer (some ⟨lb, 0, none⟩)) rfl (by kernel_rfl) ?_
    simp only [Act.put, List.setIfInBounds_toArray, List.set_cons_zero, List.set_cons_succ]
    refine wpL_pure (.pointer (some ⟨lb, 21, none⟩)) rfl (by kernel_rfl) ?_
    simp only [Act.put, List.setIfInBounds_toArray, List.set_cons_zero, List.set_cons_succ]
    refine wpL_pure (.slice va vl vc) rfl (run_load_one _ _ _ 26 _ _ rfl (lb) (21) rfl (H.out.c21) (by kernel_rfl)) ?_
    simp only [Act.put, List.setIfInBounds_toArray, List.set_cons_zero, List.set_cons_succ]
    refine wpL_pure (.int .i64 (vl : Int)) rfl (by kernel_rfl) ?_
    simp only [Act.put, List.setIfInBounds_toArray, List.set_cons_zero, List.set_cons_succ]
    refine wpL_pure (.int .i64 (vl : Int)) rfl (by kernel_rfl) ?_
    simp only [Act.put, List.setIfInBounds_toArray, List.set_cons_zero, List.set_cons_succ]
    unfold wpList
    go_wp2_with fail
    go_loopw [1, 5] (fun s1 s5 wr => ∃ (t : Nat) (a1 : Option Addr) (c1 : Nat), (s1 = .slice a1 (m - t) c1 ∧ s5 = .int .i64 ((vl + t : Nat) : Int)) ∧ Hid ((t ≤ m ∧ (t = 0 ∨ (vl + t) % 64 = 0 ∨ t = m)) ∧ (Sl wr a1 (m - t) c1 (ys.drop t) ∧ ∀ p, a1 = some p → p.block ≠ b ∧ p.block ≠ gs ∧ p.block ≠ gm) ∧ ∃ (L : List (Int × List Int × Nat)) (dcx : Nat) (fzx : Int) (Sx : List (List Int)), (Fd b gs gm w wr ∧ LS wr lb b fr rm s c nt (.slice va vl vc) ov ∧ DS wr b gs gm n L dcx Sx fu fzx false) ∧ FillRel S Sx ((fr + 2) * 64 + vl) (ys.take t) ∧ (∀ e ∈ L, ∃ i : Nat, e.1 = (i : Int) ∧ fr + 2 ≤ i ∧ i < fr + 2 + rm ∧ i * 64 < ((fr + 2) * 64 + vl) + t ∧ S[i]? = some e.2.1 ∧ (t = 0 → False)))) (fun s1 _ _ => (lenOf s1))
    case atStart => exact ⟨0, a, cx, ⟨by rw [Nat.sub_zero], rfl⟩, Lib.hid ⟨⟨by omega, .inl rfl⟩, ⟨by rw [Nat.sub_zero, List.drop_zero]; exact HY.out.1, HY.out.2⟩, [], _, _, S, ⟨Fd.refl _, H.out, D.out⟩, by rw [List.take_zero]; exact FillRel.nil _ _, by simp⟩⟩
    case round =>
      obtain ⟨t, a1, c1, ⟨rfl, rfl⟩, RI0⟩ := hrel
      obtain ⟨T0, T1, L, dcx, fzx, Sx, T2, T3, T4⟩ := RI0.out
      have T0 := Lib.hid T0
      have T1 := Lib.hid T1
      have T2 := Lib.hid T2
      have T3 := Lib.hid T3
      have T4 := Lib.hid T4
      clear RI0
      by_cases hlt : t < m
      · have HK := Lib.hid hlt
        clear hlt
        have IB : Hid ((fr + 2 + (vl + t) / 64) < fr + 2 + rm ∧ (fr + 2 + (vl + t) / 64) < n ∧ (fr + 2 + (vl + t) / 64) * 64 + (vl + t) % 64 = ((fr + 2) * 64 + vl) + t ∧ vl + t < 1000000) := Lib.hid (by have h1 := HK.out; have h2 := HB.out; omega)
        go_upto_region 4 with (fail)
        refine wp_region_lit ?_
        refine wpL_pure (.slice a1 (m - t) c1) rfl (by kernel_rfl) ?_
        simp only [Act.put, List.setIfInBounds_toArray, List.set_cons_zero, List.set_cons_succ]
        refine wpL_pure (.int .i64 ((m - t : Nat) : Int)) rfl (by kernel_rfl) ?_
        simp only [Act.put, List.setIfInBounds_toArray, List.set_cons_zero, List.set_cons_succ]
        refine wpL_pure (.bool true) rfl (run_gti Try.underlying3 rfl rfl rfl (by have := HK.out; rw [decide_eq_true_eq]; omega)) ?_
        simp only [Act.put, List.setIfInBounds_toArray, List.set_cons_zero, List.set_cons_succ]
        go_upto_region 5 with (fail)
        refine wp_region_lit ?_
        refine wpL_pure (.pointer (some ⟨lb, 0, none⟩)) rfl (by kernel_rfl) ?_
        simp only [Act.put, List.setIfInBounds_toArray, List.set_cons_zero, List.set_cons_succ]
        refine wpL_pure (.int .i64 ((vl + t : Nat) : Int)) rfl (by kernel_rfl) ?_
        simp only [Act.put, List.setIfInBounds_toArray, List.set_cons_zero, List.set_cons_succ]
        refine wpL_pure (.int .i64 (((vl + t) / 64 : Nat) : Int)) rfl (run_quo64 _ _ _ _ (vl + t) rfl rfl (by have := IB.out; omega)) ?_
        simp only [Act.put, List.setIfInBounds_toArray, List.set_cons_zero, List.set_cons_succ]
        refine wpL_call 33 #[.pointer (some ⟨lb, 0, none⟩), .int .i64 (((vl + t) / 64 : Nat) : Int)] rfl (by kernel_rfl) ((sectorD T2.out.2.1 ((vl + t) / 64) (by have := IB.out; omega)).mono fun e X ⟨he, hx⟩ => ⟨.int .i64 (((fr + 2 + (vl + t) / 64) : Nat) : Int), he, ?_⟩)
        simp only [Act.put, List.setIfInBounds_toArray, List.set_cons_zero, List.set_cons_succ]
        subst hx
        refine wpL_pure (.int .i64 (((fr + 2 + (vl + t) / 64) : Nat) : Int)) rfl (by kernel_rfl) ?_
        simp only [Act.put, List.setIfInBounds_toArray, List.set_cons_zero, List.set_cons_succ]
        go_upto_region 6 with (fail)
        refine wp_region_lit ?_
        refine wpL_pure (.pointer (some ⟨lb, 0, none⟩)) rfl (by kernel_rfl) ?_
        simp only [Act.put, List.setIfInBounds_toArray, List.set_cons_zero, List.set_cons_succ]
        refine wpL_pure (.pointer (some ⟨lb, 0, none⟩)) rfl (by kernel_rfl) ?_
        simp only [Act.put, List.setIfInBounds_toArray, List.set_cons_zero, List.set_cons_succ]
        refine wpL_pure (.pointer (some ⟨lb, 0, none⟩)) rfl (by kernel_rfl) ?_
        simp only [Act.put, List.setIfInBounds_toArray, List.set_cons_zero, List.set_cons_succ]
        refine wpL_pure (.pointer (some ⟨b, 0, none⟩)) rfl (run_load_one _ _ _ 24 _ _ rfl (lb) (0) rfl (T2.out.2.1.c0) (by kernel_rfl)) ?_
        simp only [Act.put, List.setIfInBounds_toArray, List.set_cons_zero, List.set_cons_succ]
        refine wpL_pure (.int .i64 (((fr + 2 + (vl + t) / 64) : Nat) : Int)) rfl (by kernel_rfl) ?_
        simp only [Act.put, List.setIfInBounds_toArray, List.set_cons_zero, List.set_cons_succ]
        refine wpL_call 30 #[.pointer (some ⟨b, 0, none⟩), .int .i64 (((fr + 2 + (vl + t) / 64) : Nat) : Int)] rfl (by kernel_rfl) ((read_in T2.out.2.2 (fr + 2 + (vl + t) / 64) IB.out.2.1).mono ?_)
        rintro e W5 ⟨O, v9, hO, he, ho, bb⟩
        have OO : Hid (SOk O) := Lib.hid (T2.out.2.2.2.2.2.2.2.1 O (List.mem_of_getElem? hO))
        obtain ⟨g9, c9, R, e9, r9, k9, l9, m9⟩ := own_blk64 ho OO.out.1
        subst e9
        have F5 : Hid ((Fd b gs gm w W5 ∧ LS W5 lb b fr rm s c nt (.slice va vl vc) ov ∧ DS W5 b gs gm n L dcx Sx fu fzx false) ∧ Blk W5 g9 5 (u8l O ++ R).toArray ∧ (Sl W5 a1 (m - t) c1 (ys.drop t) ∧ ∀ p, a1 = some p → p.block ≠ b ∧ p.block ≠ gs ∧ p.block ≠ gm) ∧ wr.heap.size ≤ g9) := Lib.hid ⟨⟨T2.out.1.trans (Fd.of bb), T2.out.2.1.below bb, T2.out.2.2.below bb⟩, r9, ⟨T1.out.1.below' bb, T1.out.2⟩, m9⟩
        have HO := Lib.hid hO
        have C9 : Hid (64 ≤ c9 ∧ c9 < 9223372036854775808) := Lib.hid ⟨k9, l9⟩
        have N9 : Hid (g9 ≠ b ∧ g9 ≠ gs ∧ g9 ≠ gm ∧ g9 ≠ lb ∧ ∀ p, a1 = some p → g9 ≠ p.block) := Lib.hid (by have l3 := T2.out.2.2.lts; have l4 := T2.out.2.1.1.lt; exact ⟨by omega, by omega, by omega, by omega, fun p hp => by have q := sl_lt T1.out.1 (by have := HK.out; omega) p hp; omega⟩)
        clear hO bb ho r9 k9 l9 m9
        refine ⟨.tuple #[.slice (some ⟨g9, 0, none⟩) 64 c9, .int .i64 0], he, ?_⟩
        simp only [Act.put, List.setIfInBounds_toArray, List.set_cons_zero, List.set_cons_succ]
        clear he
        refine wpL_pure (.tuple #[.slice (some ⟨g9, 0, none⟩) 64 c9, .int .i64 0]) rfl (by kernel_rfl) ?_
        simp only [Act.put, List.setIfInBounds_toArray, List.set_cons_zero, List.set_cons_succ]
        refine wpL_pure (.slice (some ⟨g9, 0, none⟩) 64 c9) rfl (by kernel_rfl) ?_
        simp only [Act.put, List.setIfInBounds_toArray, List.set_cons_zero, List.set_cons_succ]
        refine wpL_pure (.int .i64 0) rfl (by kernel_rfl) ?_
        simp only [Act.put, List.setIfInBounds_toArray, List.set_cons_zero, List.set_cons_succ]
        refine wpL_pure (.slice (some ⟨g9, 0, none⟩) 64 c9) rfl (by kernel_rfl) ?_
        simp only [Act.put, List.setIfInBounds_toArray, List.set_cons_zero, List.set_cons_succ]
        refine wpL_pure (.int .i64 0) rfl (by kernel_rfl) ?_
        simp only [Act.put, List.setIfInBounds_toArray, List.set_cons_zero, List.set_cons_succ]
        go_upto_region 7 with (fail)
        refine wp_region_lit ?_
        refine wpL_pure (.int .i64 0) rfl (by kernel_rfl) ?_
        simp only [Act.put, List.setIfInBounds_toArray, List.set_cons_zero, List.set_cons_succ]
        refine wpL_pure (.bool false) rfl (by kernel_rfl) ?_
        simp only [Act.put, List.setIfInBounds_toArray, List.set_cons_zero, List.set_cons_succ]
        have KB : Hid ((Nat.min (m - t) (64 - (vl + t) % 64)) ≤ m - t ∧ ((vl + t) % 64) + (Nat.min (m - t) (64 - (vl + t) % 64)) ≤ 64 ∧ 0 < (Nat.min (m - t) (64 - (vl + t) % 64)) ∧ ((Nat.min (m - t) (64 - (vl + t) % 64)) = m - t ∨ ((vl + t) % 64) + (Nat.min (m - t) (64 - (vl + t) % 64)) = 64) ∧ (ys.drop t).length = m - t) := Lib.hid (by have h1 := Nat.min_le_left (m - t) (64 - (vl + t) % 64); have h2 := Nat.min_le_right (m - t) (64 - (vl + t) % 64); change (Nat.min (m - t) (64 - (vl + t) % 64)) ≤ m - t at h1; change (Nat.min (m - t) (64 - (vl + t) % 64)) ≤ 64 - (vl + t) % 64 at h2; have h3 : (Nat.min (m - t) (64 - (vl + t) % 64)) = m - t ∨ (Nat.min (m - t) (64 - (vl + t) % 64)) = 64 - (vl + t) % 64 := min_or _ _; have h4 := HK.out; exact ⟨by omega, by omega, by omega, by omega, F5.out.2.2.1.1.1.1⟩)
        obtain ⟨k, hk⟩ : ∃ k, (Nat.min (m - t) (64 - (vl + t) % 64)) = k := ⟨_, rfl⟩
        have HKK := Lib.hid hk
        rw [hk] at KB
        clear hk
        go_upto_region 9 with (fail)
        refine wp_region_lit ?_
        refine wpL_pure (.slice (some ⟨g9, 0, none⟩) 64 c9) rfl (by kernel_rfl) ?_
        simp only [Act.put, List.setIfInBounds_toArray, List.set_cons_zero, List.set_cons_succ]
        refine wpL_pure (.int .i64 ((vl + t : Nat) : Int)) rfl (by kernel_rfl) ?_
        simp only [Act.put, List.setIfInBounds_toArray, List.set_cons_zero, List.set_cons_succ]
        refine wpL_pure (.int .i64 ((((vl + t) % 64) : Nat) : Int)) rfl (run_rem64 _ _ _ _ (vl + t) rfl rfl (by have := IB.out; omega)) ?_
        simp only [Act.put, List.setIfInBounds_toArray, List.set_cons_zero, List.set_cons_succ]
        refine wpL_pure (.slice (some ⟨g9, ((vl + t) % 64), none⟩) (64 - ((vl + t) % 64)) (c9 - ((vl + t) % 64))) rfl (run_slfr0 _ _ _ _ _ g9 64 c9 _ rfl rfl rfl (by omega) C9.out.1 C9.out.2) ?_
        simp only [Act.put, List.setIfInBounds_toArray, List.set_cons_zero, List.set_cons_succ]
        refine wpL_pure (.slice a1 (m - t) c1) rfl (by kernel_rfl) ?_
        simp only [Act.put, List.setIfInBounds_toArray, List.set_cons_zero, List.set_cons_succ]
        obtain ⟨W6, q1, q2, q3⟩ := copy_blk W5 g9 5 ((vl + t) % 64) (64 - ((vl + t) % 64)) (c9 - ((vl + t) % 64)) (u8l O ++ R) a1 (m - t) c1 (ys.drop t) F5.out.2.1 F5.out.2.2.1.1.1 (by rw [List.length_append, u8l_len, OO.out.1]; omega) k HKK.out.symm
        have Q1 := Lib.hid q1
        rw [patch_u8 O (ys.drop t) R ((vl + t) % 64) k OO.out.1 KB.out.2.1] at q2
        have F6 : Hid ((Fd b gs gm w W6 ∧ LS W6 lb b fr rm s c nt (.slice va vl vc) ov ∧ DS W6 b gs gm n L dcx Sx fu fzx false) ∧ Row W6 (some ⟨g9, 0, none⟩) 64 (patch O (ys.drop t) ((vl + t) % 64) k) ∧ (Sl W6 a1 (m - t) c1 (ys.drop t) ∧ ∀ p, a1 = some p → p.block ≠ b ∧ p.block ≠ gs ∧ p.block ≠ gm)) := Lib.hid ⟨⟨fd_far F5.out.1.1 q3 (by have e := F5.out.2.2.2; have z := T2.out.1.2.2.2.1; omega), F5.out.1.2.1.grown q3 N9.out.2.2.2.1, ds_far F5.out.1.2.2 q3 ⟨N9.out.1.symm, N9.out.2.1.symm, N9.out.2.2.1.symm⟩⟩, pre_row q2 (patch_len OO.out.1 (by rw [KB.out.2.2.2.2]; exact KB.out.1) KB.out.2.1) (by simp [maxLen]) (patch_ok OO.out F5.out.2.2.1.1.1.2.2.1 (by rw [KB.out.2.2.2.2]; exact KB.out.1) KB.out.2.1).2, ⟨F5.out.2.2.1.1.1.grown q3 (fun p hp e => by cases e; exact N9.out.2.2.2.2 p hp rfl), F5.out.2.2.1.1.2⟩, F5.out.2.2.1.2⟩
        clear q1 q2 q3 F5
        refine wpL_value (.int .i64 (k : Int)) W6 rfl (run_cpy _ _ _ _ _ _ _ _ _ rfl rfl rfl rfl Q1.out) ?_
        simp only [Act.put, List.setIfInBounds_toArray, List.set_cons_zero, List.set_cons_succ]
        clear Q1
        refine wpL_pure (.int .i64 (k : Int)) rfl (by kernel_rfl) ?_
        simp only [Act.put, List.setIfInBounds_toArray, List.set_cons_zero, List.set_cons_succ]
        go_upto_region 10 with (fail)
        refine wp_region_lit ?_
        refine wpL_pure (.pointer (some ⟨lb, 0, none⟩)) rfl (by kernel_rfl) ?_
        simp only [Act.put, List.setIfInBounds_toArray, List.set_cons_zero, List.set_cons_succ]
        refine wpL_pure (.pointer (some ⟨lb, 0, none⟩)) rfl (by kernel_rfl) ?_
        simp only [Act.put, List.setIfInBounds_toArray, List.set_cons_zero, List.set_cons_succ]
        refine wpL_pure (.pointer (some ⟨lb, 0, none⟩)) rfl (by kernel_rfl) ?_
        simp only [Act.put, List.setIfInBounds_toArray, List.set_cons_zero, List.set_cons_succ]
        refine wpL_pure (.pointer (some ⟨b, 0, none⟩)) rfl (run_load_one _ _ _ 24 _ _ rfl (lb) (0) rfl (F6.out.1.2.1.c0) (by kernel_rfl)) ?_
        simp only [Act.put, List.setIfInBounds_toArray, List.set_cons_zero, List.set_cons_succ]
        refine wpL_pure (.int .i64 (((fr + 2 + (vl + t) / 64) : Nat) : Int)) rfl (by kernel_rfl) ?_
        simp only [Act.put, List.setIfInBounds_toArray, List.set_cons_zero, List.set_cons_succ]
        refine wpL_pure (.slice (some ⟨g9, 0, none⟩) 64 c9) rfl (by kernel_rfl) ?_
        simp only [Act.put, List.setIfInBounds_toArray, List.set_cons_zero, List.set_cons_succ]
        refine wpL_call 16 #[.pointer (some ⟨b, 0, none⟩), .int .i64 (((fr + 2 + (vl + t) / 64) : Nat) : Int), .slice (some ⟨g9, 0, none⟩) 64 c9] rfl (by kernel_rfl) ((writeD F6.out.1.2.2 (((fr + 2 + (vl + t) / 64) : Nat) : Int) _ 64 c9 _ F6.out.2.1 (fun p hp => by cases hp; exact ⟨N9.out.1, N9.out.2.1, N9.out.2.2.1⟩)).mono ?_)
        rintro e w1 (⟨q, _⟩ | ⟨_, m1, rfl, d1, f1⟩ | ⟨_, m1, rfl, k2, O2, hk2, hO2, d1, f1⟩)
        · exact absurd ⟨⟨by omega, by have := IB.out; omega⟩, rfl⟩ q
        · have F7 : Hid (Fd b gs gm w w1 ∧ DS w1 b gs gm n L dcx Sx fu (mayF fu fzx false) true ∧ fu = true) := Lib.hid ⟨F6.out.1.1.trans f1, d1, mayB_no m1⟩
          clear m1 d1 f1
          refine ⟨.int .i64 5, rfl, ?_⟩
          simp only [Act.put, List.setIfInBounds_toArray, List.set_cons_zero, List.set_cons_succ]
          refine wpL_pure (.int .i64 5) rfl (by kernel_rfl) ?_
          simp only [Act.put, List.setIfInBounds_toArray, List.set_cons_zero, List.set_cons_succ]
          go_upto_region 11 with (fail)
          refine wp_region_lit ?_
          refine wpL_pure (.int .i64 5) rfl (by kernel_rfl) ?_
          simp only [Act.put, List.setIfInBounds_toArray, List.set_cons_zero, List.set_cons_succ]
          refine wpL_pure (.bool true) rfl (by kernel_rfl) ?_
          simp only [Act.put, List.setIfInBounds_toArray, List.set_cons_zero, List.set_cons_succ]
          go_upto_region 12 with (fail)
          refine wp_region_lit ?_
          refine wpL_pure (.int .i64 5) rfl (by kernel_rfl) ?_
          simp only [Act.put, List.setIfInBounds_toArray, List.set_cons_zero, List.set_cons_succ]
          refine wpL_pure (.int .i64 5) rfl (by kernel_rfl) ?_
          simp only [Act.put, List.setIfInBounds_toArray, List.set_cons_zero, List.set_cons_succ]
          go_wp2_with fail
          go_ret
          exact ⟨F7.out.1, .inr ⟨F7.out.2.2, rfl, t, L, _, _, Sx, by rw [HY.out.1.1.1]; exact T0.out.1, F7.out.2.1, T3.out, fun e he => by obtain ⟨i, h1, h2, h3, _, h5, _⟩ := T4.out e he; exact ⟨i, h1, h2, h3, h5⟩⟩⟩
        · obtain rfl : k2 = (fr + 2 + (vl + t) / 64) := by omega
          obtain rfl := Option.some.inj (HO.out.symm.trans hO2)
          have OLD : Hid (S[(fr + 2 + (vl + t) / 64)]? = some O) := Lib.hid (T3.out.old D.out.2.2.2.2.2.1 (by rw [HY.out.1.1.1]; exact T0.out.1) (by have h1 := IB.out; have h2 := T0.out.2; have h3 := HK.out; omega) HO.out OO.out.1)
          refine ⟨.int .i64 0, rfl, ?_⟩
          simp only [Act.put, List.setIfInBounds_toArray, List.set_cons_zero, List.set_cons_succ]
          refine wpL_pure (.int .i64 0) rfl (by kernel_rfl) ?_
          simp only [Act.put, List.setIfInBounds_toArray, List.set_cons_zero, List.set_cons_succ]
          go_upto_region 11 with (fail)
          refine wp_region_lit ?_
          refine wpL_pure (.int .i64 0) rfl (by kernel_rfl) ?_
          simp only [Act.put, List.setIfInBounds_toArray, List.set_cons_zero, List.set_cons_succ]
          refine wpL_pure (.bool false) rfl (by kernel_rfl) ?_
          simp only [Act.put, List.setIfInBounds_toArray, List.set_cons_zero, List.set_cons_succ]
          have NEW : Hid (∀ e ∈ L, e.1 ≠ (((fr + 2 + (vl + t) / 64) : Nat) : Int)) := Lib.hid (fill_new T4.out T0.out.2 HK.out IB.out.2.2.1)
          rw [wrL_new dcx O NEW.out] at d1
          have F7 : Hid ((Fd b gs gm w w1 ∧ LS w1 lb b fr rm s c nt (.slice va vl vc) ov ∧ DS w1 b gs gm n (L ++ [((((fr + 2 + (vl + t) / 64) : Nat) : Int), O, dcx)]) (dcx + 1) (Sx.set (fr + 2 + (vl + t) / 64) (patch O (ys.drop t) ((vl + t) % 64) k)) fu (mayF fu fzx false) false) ∧ (Sl w1 a1 (m - t) c1 (ys.drop t) ∧ ∀ p, a1 = some p → p.block ≠ b ∧ p.block ≠ gs ∧ p.block ≠ gm)) := Lib.hid ⟨⟨F6.out.1.1.trans f1, F6.out.1.2.1.fd f1 NE.out.1 NE.out.2.1 NE.out.2.2, d1⟩, ⟨f1.row F6.out.2.2.1.1 F6.out.2.2.2, F6.out.2.2.1.2⟩, F6.out.2.2.2⟩
          clear m1 d1 f1 hO2 hk2
          go_upto_region 13 with (fail)
          refine region_anyT (fun _ => True) (by kernel_rfl) 8 8 rfl ?_
          refine wpAnyT_take (i := 0) (oi := ⟨some 54, _, _, _, _, _⟩) (v := .int .i64 ((vl + t : Nat) : Int)) rfl (by kernel_rfl) (by kernel_rfl) (by kernel_rfl) (fun _ _ _ h => h) (by kernel_rfl) (Or.inl ⟨rfl, fun w h => by kernel_rfl⟩) (trivial) ?_
          simp only [Act.put, List.setIfInBounds_toArray, List.set_cons_zero, List.set_cons_succ]
          refine wpAnyT_take (i := 1) (oi := ⟨some 55, _, _, _, _, _⟩) (v := .int .i64 (k : Int)) rfl (by kernel_rfl) (by kernel_rfl) (by kernel_rfl) (fun _ _ _ h => h) (by kernel_rfl) (Or.inl ⟨rfl, fun w h => by kernel_rfl⟩) (trivial) ?_
          simp only [Act.put, List.setIfInBounds_toArray, List.set_cons_zero, List.set_cons_succ]
          refine wpAnyT_take (i := 2) (oi := ⟨some 56, _, _, _, _, _⟩) (v := .int .i64 ((vl + (t + k) : Nat) : Int)) rfl (by kernel_rfl) (by kernel_rfl) (by kernel_rfl) (fun _ _ _ h => h) (by kernel_rfl) (Or.inl ⟨rfl, fun w h => run_addi Try.underlying3 rfl rfl rfl _ (by have := IB.out; have := KB.out; have := HB.out; rw [wrap_in _ (by omega) (by omega)]; omega)⟩) (trivial) ?_
          simp only [Act.put, List.setIfInBounds_toArray, List.set_cons_zero, List.set_cons_succ]
          refine wpAnyT_take (i := 3) (oi := ⟨some 57, _, _, _, _, _⟩) (v := .slice a1 (m - t) c1) rfl (by kernel_rfl) (by kernel_rfl) (by kernel_rfl) (fun _ _ _ h => h) (by kernel_rfl) (Or.inl ⟨rfl, fun w h => by kernel_rfl⟩) (trivial) ?_
          simp only [Act.put, List.setIfInBounds_toArray, List.set_cons_zero, List.set_cons_succ]
          refine wpAnyT_take (i := 4) (oi := ⟨some 58, _, _, _, _, _⟩) (v := .int .i64 (k : Int)) rfl (by kernel_rfl) (by kernel_rfl) (by kernel_rfl) (fun _ _ _ h => h) (by kernel_rfl) (Or.inl ⟨rfl, fun w h => by kernel_rfl⟩) (trivial) ?_
          simp only [Act.put, List.setIfInBounds_toArray, List.set_cons_zero, List.set_cons_succ]
          refine wpAnyT_take (i := 5) (oi := ⟨some 59, _, _, _, _, _⟩) (v := .slice (dropA a1 c1 k) (m - (t + k)) (c1 - k)) rfl (by kernel_rfl) (by kernel_rfl) (by kernel_rfl) (fun _ _ _ h => h) (by kernel_rfl) (Or.inl ⟨rfl, fun w h => run_slicep' _ _ _ _ _ a1 (m - t) c1 k (m - (t + k)) rfl rfl rfl KB.out.1 T1.out.1.2.1 T1.out.1.2.2 (by omega)⟩) (trivial) ?_
          simp only [Act.put, List.setIfInBounds_toArray, List.set_cons_zero, List.set_cons_succ]
          refine wpAnyT_take (i := 6) (oi := ⟨some 5, _, _, _, _, _⟩) (v := .int .i64 ((vl + (t + k) : Nat) : Int)) rfl (by kernel_rfl) (by kernel_rfl) (by kernel_rfl) (fun _ _ _ h => h) (by kernel_rfl) (Or.inl ⟨rfl, fun w h => by kernel_rfl⟩) (trivial) ?_
          simp only [Act.put, List.setIfInBounds_toArray, List.set_cons_zero, List.set_cons_succ]
          refine wpAnyT_take (i := 7) (oi := ⟨some 1, _, _, _, _, _⟩) (v := .slice (dropA a1 c1 k) (m - (t + k)) (c1 - k)) rfl (by kernel_rfl) (by kernel_rfl) (by kernel_rfl) (fun _ _ _ h => h) (by kernel_rfl) (Or.inl ⟨rfl, fun w h => by kernel_rfl⟩) (trivial) ?_
          simp only [Act.put, List.setIfInBounds_toArray, List.set_cons_zero, List.set_cons_succ]
          refine wpAnyT_done (by kernel_rfl) ?_ _
          have NX : Hid ((t + k ≤ m ∧ (t + k = 0 ∨ (vl + (t + k)) % 64 = 0 ∨ t + k = m)) ∧ (Sl w1 (dropA a1 c1 k) (m - (t + k)) (c1 - k) (ys.drop (t + k)) ∧ ∀ p, (dropA a1 c1 k) = some p → p.block ≠ b ∧ p.block ≠ gs ∧ p.block ≠ gm) ∧ ∃ (L : List (Int × List Int × Nat)) (dcx : Nat) (fzx : Int) (Sx : List (List Int)), (Fd b gs gm w w1 ∧ LS w1 lb b fr rm s c nt (.slice va vl vc) ov ∧ DS w1 b gs gm n L dcx Sx fu fzx false) ∧ FillRel S Sx ((fr + 2) * 64 + vl) (ys.take (t + k)) ∧ (∀ e ∈ L, ∃ i : Nat, e.1 = (i : Int) ∧ fr + 2 ≤ i ∧ i < fr + 2 + rm ∧ i * 64 < ((fr + 2) * 64 + vl) + (t + k) ∧ S[i]? = some e.2.1 ∧ ((t + k) = 0 → False))) := Lib.hid (by
            have kb := KB.out
            have ib := IB.out
            refine ⟨⟨by omega, by omega⟩, ⟨?_, fun p hp => by obtain ⟨q, h1, h2⟩ := dropA_block hp; rw [← h2]; exact F7.out.2.2 q h1⟩, _, _, _, _, F7.out.1, ?_, ?_⟩
            · have q := F7.out.2.1.drop k kb.1; rw [List.drop_drop] at q; rw [show m - (t + k) = m - t - k by omega]; exact q
            · exact T3.out.step (by rw [HY.out.1.1.1]; omega) ib.2.2.1 kb.2.1 HO.out OO.out.1
            · intro e he
              rcases List.mem_append.1 he with q | q
              · obtain ⟨i, h1, h2, h3, h4, h5, _⟩ := T4.out e q; exact ⟨i, h1, h2, h3, by omega, h5, fun z => by omega⟩
              · obtain rfl := List.mem_singleton.1 q; exact ⟨(fr + 2 + (vl + t) / 64), rfl, by omega, ib.1, by omega, OLD.out, fun z => by omega⟩)
          go_roundw
          case rel => first | exact ⟨_, _, _, ⟨rfl, rfl⟩, NX⟩ | ((repeat apply Exists.intro); exact ⟨⟨_, _, _, ⟨rfl, rfl⟩, NX⟩, rfl⟩)
          case measure => simp [lenOf]; have := KB.out; have := HK.out; omega
      · have EK : Hid (t = m) := Lib.hid (by have := T0.out.1; omega)
        clear hlt
        go_upto_region 4 with (fail)
        refine wp_region_lit ?_
        refine wpL_pure (.slice a1 (m - t) c1) rfl (by kernel_rfl) ?_
        simp only [Act.put, List.setIfInBounds_toArray, List.set_cons_zero, List.set_cons_succ]
        refine wpL_pure (.int .i64 ((m - t : Nat) : Int)) rfl (by kernel_rfl) ?_
        simp only [Act.put, List.setIfInBounds_toArray, List.set_cons_zero, List.set_cons_succ]
        refine wpL_pure (.bool false) rfl (run_gti Try.underlying3 rfl rfl rfl (by have := EK.out; rw [decide_eq_false_iff_not]; omega)) ?_
        simp only [Act.put, List.setIfInBounds_toArray, List.set_cons_zero, List.set_cons_succ]
        go_upto_region 14 with (fail)
        refine wp_region_lit ?_
        refine wpL_pure (.pointer (some ⟨lb, 0, none⟩)) rfl (by kernel_rfl) ?_
        simp only [Act.put, List.setIfInBounds_toArray, List.set_cons_zero, List.set_cons_succ]
        refine wpL_pure (.pointer (some ⟨lb, 0, none⟩)) rfl (by kernel_rfl) ?_
        simp only [Act.put, List.setIfInBounds_toArray, List.set_cons_zero, List.set_cons_succ]
        refine wpL_pure (.pointer (some ⟨lb, 0, none⟩)) rfl (by kernel_rfl) ?_
        simp only [Act.put, List.setIfInBounds_toArray, List.set_cons_zero, List.set_cons_succ]
        refine wpL_pure (.pointer (some ⟨b, 0, none⟩)) rfl (run_load_one _ _ _ 24 _ _ rfl (lb) (0) rfl (T2.out.2.1.c0) (by kernel_rfl)) ?_
        simp only [Act.put, List.setIfInBounds_toArray, List.set_cons_zero, List.set_cons_succ]
        refine wpL_call 46 #[.pointer (some ⟨b, 0, none⟩)] rfl (by kernel_rfl) ((syncD T2.out.2.2).mono ?_)
        rintro e w2 (⟨m2, rfl, d2, f2⟩ | ⟨m2, rfl, d2, f2⟩)
        · refine ⟨.int .i64 5, rfl, ?_⟩
          simp only [Act.put, List.setIfInBounds_toArray, List.set_cons_zero, List.set_cons_succ]
          refine wpL_pure (.int .i64 5) rfl (by kernel_rfl) ?_
          simp only [Act.put, List.setIfInBounds_toArray, List.set_cons_zero, List.set_cons_succ]
          go_wp2_with fail
          go_ret
          exact ⟨T2.out.1.trans f2, .inr ⟨mayB_no m2, rfl, t, L, _, _, Sx, by rw [HY.out.1.1.1]; exact T0.out.1, d2, T3.out, fun e he => by obtain ⟨i, h1, h2, h3, _, h5, _⟩ := T4.out e he; exact ⟨i, h1, h2, h3, h5⟩⟩⟩
        · refine ⟨.int .i64 0, rfl, ?_⟩
          simp only [Act.put, List.setIfInBounds_toArray, List.set_cons_zero, List.set_cons_succ]
          refine wpL_pure (.int .i64 0) rfl (by kernel_rfl) ?_
          simp only [Act.put, List.setIfInBounds_toArray, List.set_cons_zero, List.set_cons_succ]
          go_wp2_with fail
          go_ret
          exact ⟨T2.out.1.trans f2, .inl ⟨rfl, _, _, Sx, d2, by have q := T3.out; rw [List.take_of_length_le (by rw [HY.out.1.1.1, EK.out]; exact Nat.le_refl _)] at q; exact q⟩⟩
end Go.Proofs.Yteabblmhcjpboaa.D
