/- A head is committed. -/
import Derived.Test.YteabblmhcjpboaaC9
namespace Go.Proofs.Yteabblmhcjpboaa.D
open Go Go.RowKit
set_option maxRecDepth 100000
theorem run_box32 (a : Act) (o : Oper) (w w1 : World) (x : Operand) (nt : List Int) (ho : o.op = .box 32 x) (hx : a.eval x = .agg (u8l nt).toArray) (hn : nt.length = 16) (hw : w1 = w.alloc (.cells (u8l nt).toArray 32)) : (execOp a.eval o).run Try.prog w = .ok (.value (.pointer (some ⟨w.heap.size, 0, none⟩))) w1 := by
  subst hw
  match nt, hn with
  | [n0, n1, n2, n3, n4, n5, n6, n7, n8, n9, n10, n11, n12, n13, n14, n15], _ =>
    unfold execOp
    simp only [ho, hx]
    rfl
theorem row_gb (w : World) (g : Nat) (cs : Array Value) : w.grownBy (w.setRow g cs) (some g) := by
  have q := below_setRow (B := 0) (Below.refl 0 w) (g := g) (Nat.zero_le _) cs
  exact ⟨q.os, q.tape, q.output, q.size, fun k hk hr => setRow_other _ _ _ _ (fun e => hr (congrArg some e))⟩
theorem ds_far {w w' : World} {b gs gm n c r : Nat} {L : List (Int × List Int × Nat)} {S : List (List Int)} {fu go : Bool} {fz : Int} (h : DS w b gs gm n L c S fu fz go) (q : w.grownBy w' (some r)) (hr : b ≠ r ∧ gs ≠ r ∧ gm ≠ r) : DS w' b gs gm n L c S fu fz go :=
  ⟨h.1.grown q (by simpa using hr.1), h.2.1.grown q (by simpa using hr.2.1), (q.block _ h.2.2.2.2.2.2.1 (by simpa using hr.2.2)).trans h.2.2.1, h.2.2.2.1, h.2.2.2.2.1, h.2.2.2.2.2.1, Nat.lt_of_lt_of_le h.2.2.2.2.2.2.1 q.size, h.2.2.2.2.2.2.2⟩
theorem read_in {w : World} {b gs gm n c : Nat} {L : List (Int × List Int × Nat)} {S : List (List Int)} {fu : Bool} {fz : Int} (h : DS w b gs gm n L c S fu fz false) (i : Nat) (hi : i < n) : Calls Try.prog 30 #[.pointer (some ⟨b, 0, none⟩), .int .i64 ((i : Nat) : Int)] w fun e w' => ∃ (s : List Int) (v : Value), S[i]? = some s ∧ e = .returned (.tuple #[v, .int .i64 0]) ∧ Own w' w.heap.size v s ∧ Below w.heap.size w w' :=
  (readD h (i : Int)).mono fun e w' q => by
    rcases q with ⟨q, _⟩ | ⟨_, q, _⟩ | ⟨_, _, k, s, v, hk, hs, he, ho, hb⟩
    · exact absurd ⟨by omega, by omega⟩ q
    · cases q
    · obtain rfl : k = i := by omega
      exact ⟨s, v, hs, he, ho, hb⟩
theorem lt_of_some {α : Type} {l : List α} {i : Nat} {x : α} (h : l[i]? = some x) : i < l.length := by
  rcases Nat.lt_or_ge i l.length with q | q
  · exact q
  · rw [List.getElem?_eq_none q] at h; cases h
theorem set_same {α : Type} {l : List α} {i : Nat} {x : α} (h : l[i]? = some x) : l.set i x = l := by
  apply List.ext_getElem?
  intro j
  rw [List.getElem?_set]
  by_cases e : i = j
  · subst e; rw [if_pos rfl, if_pos (lt_of_some h), h]
  · rw [if_neg e]
theorem lg_len {b fr rm s c : Nat} {nt : List Int} {v : Value} {ov : Bool} (h : NtOk nt) : (lgV b fr rm s c nt v ov).length = 23 := by
  unfold lgV
  simp only [List.length_cons, List.length_append, hd_len h, List.length_nil]
theorem wpL_store {P : Program} {ops : Array Oper} {Q : Exit → Act → World → Prop} {a : Act} {w W : World} {o : Oper} {rest : List Oper} (hw : Region.wanted o (yielded ops a.tmps) = true) (hr : (execOp a.eval o).run P w = .ok .skip W)
    (h : wpList P ops Q rest (a.put o.dst undef) W) : wpList P ops Q (o :: rest) a w :=
  wpList_step fun K hK => by
    rw [if_pos hw]
    unfold Oper.wp
    rw [hr]
    exact hK _ _ h
theorem LS.bytes {w : World} {lb b fr rm : Nat} {s c : Nat} {nt : List Int} {v : Value} {ov : Bool} (h : LS w lb b fr rm s c nt v ov) (u : Value) : LS (w.setCell ⟨lb, 21, none⟩ u) lb b fr rm s c nt u ov := ⟨by
  have q := h.1.set 21 u
  have e : (lgV b fr rm s c nt v ov).set 21 u = lgV b fr rm s c nt u ov := by
    have hl := hd_len (s := s) (c := c) h.2.1
    unfold lgV
    rw [List.set_cons_succ, List.set_cons_succ, List.set_cons_succ, List.set_append_right _ _ (by omega), hl]
    rfl
  rw [e] at q; exact q, h.2⟩
/-- a head is put into the record. -/
theorem store_head (w : World) (lb b fr rm s c : Nat) (nt : List Int) (v : Value) (ov : Bool) (s1 c1 : Nat) (nt1 : List Int) (h : LS w lb b fr rm s c nt v ov) (hn : NtOk nt1) (hs : U64 s1) (hc : U64 c1) :
    ∃ W, W = w.setCells lb 3 (hdV s1 c1 nt1) ∧ w.there lb 3 18 ∧ LS W lb b fr rm s1 c1 nt1 v ov ∧ w.grownBy W (some lb) := by
  refine ⟨w.setCells lb 3 (hdV s1 c1 nt1), rfl, fun j hj => ⟨by rw [h.cell, List.getElem?_eq_getElem (by rw [lg_len h.2.1]; omega)]; rfl, h.1.free _⟩, ?_, gb_setCells _ _ _ _⟩
  · refine ⟨?_, hn, hs, hc, h.2.2.2.2⟩
    have q := blk_setCells (hdV s1 c1 nt1) (lgV b fr rm s c nt v ov) 3 w (g := lb) h.1
    have e : spl (lgV b fr rm s c nt v ov) 3 (hdV s1 c1 nt1) = lgV b fr rm s1 c1 nt1 v ov := by
      apply List.ext_getElem?
      intro j
      rw [spl_get, lg_len h.2.1, hd_len hn, lg_get h.2.1, lg_get hn]
      by_cases h0 : j = 0
      · rw [if_neg (by omega), if_pos h0, if_pos h0]
      · by_cases h1 : j = 1
        · rw [if_neg (by omega), if_neg h0, if_pos h1, if_neg h0, if_pos h1]
        · by_cases h2 : j = 2
          · rw [if_neg (by omega), if_neg h0, if_neg h1, if_pos h2, if_neg h0, if_neg h1, if_pos h2]
          · by_cases h3 : j < 21
            · rw [if_pos (by omega), if_neg h0, if_neg h1, if_neg h2, if_pos h3]
            · rw [if_neg (by omega), if_neg h0, if_neg h1, if_neg h2, if_neg h3, if_neg h0, if_neg h1, if_neg h2, if_neg h3]
    rw [e] at q
    exact q
/-- the blocks that a change may change. -/
def Pq (lb b gs gm : Nat) (k : Nat) : Prop := k = b ∨ k = gs ∨ k = gm ∨ k = lb
/-- a head's sector that is cut off. -/
def CutH (rm s c1 : Nat) (nt1 : List Int) (at_ : Nat) (S : List (List Int)) (L' : List (Int × List Int × Nat)) (S' : List (List Int)) : Prop :=
  ∃ N', S' = S.set at_ N' ∧ SOk N' ∧ ((L' = [] ∧ GoodY rm s c1 nt1 N') ∨ ∃ O' br, L' = [((at_ : Int), O', br)] ∧ SOk O' ∧ ∀ k, GoodY rm s c1 nt1 (tornV O' N' k))
def CmPost (lb b gs gm n fr rm s c : Nat) (nt : List Int) (v nv : Value) (ov : Bool) (c1 : Nat) (nt1 : List Int) (S : List (List Int)) (fu : Bool) (w : World) (e : Ending) (w' : World) : Prop :=
  ∃ O, S[fr + (s + 1) % 2]? = some O ∧
    ((e = .returned (.int .i64 0) ∧ ∃ (dc' : Nat) (fz' : Int), LS w' lb b fr rm (s + 1) c1 nt1 nv ov ∧ DS w' b gs gm n [] dc' (S.set (fr + (s + 1) % 2) (secV (s + 1) c1 nt1)) fu fz' false ∧ Fl (Pq lb b gs gm) w w') ∨
     (fu = true ∧ e = .returned (.int .i64 5) ∧ LS w' lb b fr rm s c nt v true ∧ ∃ (L' : List (Int × List Int × Nat)) (dc' : Nat) (S' : List (List Int)) (fz' : Int), DS w' b gs gm n L' dc' S' fu fz' true ∧ Fl (Pq lb b gs gm) w w' ∧ CutH rm s c1 nt1 (fr + (s + 1) % 2) S L' S'))
attribute [local irreducible] wpList
set_option maxHeartbeats 8000000
theorem commit_any {w : World} {lb b fr rm : Nat} {s c : Nat} {nt : List Int} {v : Value} {ov : Bool} {gs gm n dc : Nat} {S : List (List Int)} {fu : Bool} {fz : Int} (h : LS w lb b fr rm s c nt v ov) (d : DS w b gs gm n [] dc S fu fz false) (ne : lb ≠ b ∧ lb ≠ gs ∧ lb ≠ gm) (hfr : fr + 2 + rm ≤ n) (na : Option Addr) (nl nc : Nat) (hl : nl ≤ 1000000) (nt1 : List Int) (hn : NtOk nt1) (hs : s < 9223372036854775808)
    (hh : ∀ O, S[fr + (s + 1) % 2]? = some O → Harm rm s O) :
    Calls Try.prog 36 #[.pointer (some ⟨lb, 0, none⟩), .slice na nl nc, .agg (u8l nt1).toArray] w fun e w' => CmPost lb b gs gm n fr rm s c nt v (.slice na nl nc) ov nl nt1 S fu w e w' := by
  have H := Lib.hid h
  have D := Lib.hid d
  have NE := Lib.hid ne
  have HA : Hid (fr + (s + 1) % 2 < n) := Lib.hid (by omega)
  have HL := Lib.hid hl
  have HN := Lib.hid hn
  have HS : Hid (U64 (s + 1)) := Lib.hid (by unfold U64; omega)
  have HU : Hid (U64 nl) := Lib.hid (by unfold U64; omega)
  have HH := Lib.hid hh
  clear h d ne hfr hl hn hs hh
  go_enter Try.func36, Try.ntmps36
  go_upto_region 0 with (fail)
  refine wp_region_lit ?_
  obtain ⟨W1, hW1⟩ : ∃ V, V = w.alloc (.cells (u8l nt1).toArray 32) := ⟨_, rfl⟩
  refine wpL_value (.pointer (some ⟨w.heap.size, 0, none⟩)) W1 rfl (by rw [hW1]; exact run_box32 _ _ _ _ _ nt1 rfl rfl HN.out.1 rfl) ?_
  simp only [Act.put, List.setIfInBounds_toArray, List.set_cons_zero, List.set_cons_succ]
  obtain ⟨g5, hg5⟩ : ∃ q, w.heap.size = q := ⟨_, rfl⟩
  have F1 : Hid ((Below w.heap.size w W1 ∧ LS W1 lb b fr rm s c nt v ov ∧ DS W1 b gs gm n [] dc S fu fz false) ∧ Blk W1 g5 32 (u8l nt1).toArray) := Lib.hid (by have bb : Below w.heap.size w W1 := (by rw [hW1]; exact (Below.refl _ _).alloc (Nat.le_refl _) _); exact ⟨⟨bb, H.out.below bb, D.out.below bb⟩, by rw [hW1, ← hg5]; exact Blk.new _ _ _⟩)
  rw [hg5]
  clear hW1 hg5
  refine wpL_pure (.int .i64 0) rfl (by kernel_rfl) ?_
  simp only [Act.put, List.setIfInBounds_toArray, List.set_cons_zero, List.set_cons_succ]
  go_upto_region 1 with (fail)
  refine region_anyT (fun X => X.cell? ⟨lb, 3, none⟩ = some (.int .u64 ((s : Nat) : Int)) ∧ Blk X g5 32 (u8l nt1).toArray) (by kernel_rfl) 13 13 rfl ?_
  refine wpAnyT_take (i := 0) (oi := ⟨some 13, _, _, _, _, _⟩) (v := .pointer (some ⟨lb, 0, none⟩)) rfl (by kernel_rfl) (by kernel_rfl) (by kernel_rfl) (fun _ _ _ h => h) (by kernel_rfl) (Or.inl ⟨rfl, fun w h => by kernel_rfl⟩) (⟨F1.out.1.2.1.c3, F1.out.2⟩) ?_
  simp only [Act.put, List.setIfInBounds_toArray, List.set_cons_zero, List.set_cons_succ]
  refine wpAnyT_take (i := 1) (oi := ⟨some 14, _, _, _, _, _⟩) (v := .pointer (some ⟨lb, 0, none⟩)) rfl (by kernel_rfl) (by kernel_rfl) (by kernel_rfl) (fun _ _ _ h => h) (by kernel_rfl) (Or.inl ⟨rfl, fun w h => by kernel_rfl⟩) (⟨F1.out.1.2.1.c3, F1.out.2⟩) ?_
  simp only [Act.put, List.setIfInBounds_toArray, List.set_cons_zero, List.set_cons_succ]
  refine wpAnyT_take (i := 2) (oi := ⟨some 15, _, _, _, _, _⟩) (v := .pointer (some ⟨lb, 3, none⟩)) rfl (by kernel_rfl) (by kernel_rfl) (by kernel_rfl) (fun _ _ _ h => h) (by kernel_rfl) (Or.inl ⟨rfl, fun w h => by kernel_rfl⟩) (⟨F1.out.1.2.1.c3, F1.out.2⟩) ?_
  simp only [Act.put, List.setIfInBounds_toArray, List.set_cons_zero, List.set_cons_succ]
  refine wpAnyT_take (i := 3) (oi := ⟨some 16, _, _, _, _, _⟩) (v := .pointer (some ⟨lb, 3, none⟩)) rfl (by kernel_rfl) (by kernel_rfl) (by kernel_rfl) (fun _ _ _ h => h) (by kernel_rfl) (Or.inl ⟨rfl, fun w h => by kernel_rfl⟩) (⟨F1.out.1.2.1.c3, F1.out.2⟩) ?_
  simp only [Act.put, List.setIfInBounds_toArray, List.set_cons_zero, List.set_cons_succ]
  refine wpAnyT_take (i := 4) (oi := ⟨some 17, _, _, _, _, _⟩) (v := .int .u64 ((s : Nat) : Int)) rfl (by kernel_rfl) (by kernel_rfl) (by kernel_rfl) (fun _ _ _ h => h) (by kernel_rfl) (Or.inl ⟨rfl, fun w h => run_load_one _ _ _ 35 _ _ rfl (lb) (3) rfl h.1 (by kernel_rfl)⟩) (⟨F1.out.1.2.1.c3, F1.out.2⟩) ?_
  simp only [Act.put, List.setIfInBounds_toArray, List.set_cons_zero, List.set_cons_succ]
  refine wpAnyT_take (i := 5) (oi := ⟨some 18, _, _, _, _, _⟩) (v := .int .u64 ((s + 1 : Nat) : Int)) rfl (by kernel_rfl) (by kernel_rfl) (by kernel_rfl) (fun _ _ _ h => h) (by kernel_rfl) (Or.inl ⟨rfl, fun w h => run_addi Try.underlying35 rfl rfl rfl _ (by have := HS.out; unfold U64 at this; rw [IntKind.wrap_u64]; omega)⟩) (⟨F1.out.1.2.1.c3, F1.out.2⟩) ?_
  simp only [Act.put, List.setIfInBounds_toArray, List.set_cons_zero, List.set_cons_succ]
  refine wpAnyT_take (i := 6) (oi := ⟨some 19, _, _, _, _, _⟩) (v := .slice na nl nc) rfl (by kernel_rfl) (by kernel_rfl) (by kernel_rfl) (fun _ _ _ h => h) (by kernel_rfl) (Or.inl ⟨rfl, fun w h => by kernel_rfl⟩) (⟨F1.out.1.2.1.c3, F1.out.2⟩) ?_
  simp only [Act.put, List.setIfInBounds_toArray, List.set_cons_zero, List.set_cons_succ]
  refine wpAnyT_take (i := 7) (oi := ⟨some 20, _, _, _, _, _⟩) (v := .int .i64 (nl : Int)) rfl (by kernel_rfl) (by kernel_rfl) (by kernel_rfl) (fun _ _ _ h => h) (by kernel_rfl) (Or.inl ⟨rfl, fun w h => by kernel_rfl⟩) (⟨F1.out.1.2.1.c3, F1.out.2⟩) ?_
  simp only [Act.put, List.setIfInBounds_toArray, List.set_cons_zero, List.set_cons_succ]
  refine wpAnyT_take (i := 8) (oi := ⟨some 21, _, _, _, _, _⟩) (v := .int .u64 ((nl : Nat) : Int)) rfl (by kernel_rfl) (by kernel_rfl) (by kernel_rfl) (fun _ _ _ h => h) (by kernel_rfl) (Or.inl ⟨rfl, fun w h => run_convi Try.underlying3 Try.underlying35 rfl rfl _ (by have := HL.out; rw [IntKind.wrap_u64]; omega)⟩) (⟨F1.out.1.2.1.c3, F1.out.2⟩) ?_
  simp only [Act.put, List.setIfInBounds_toArray, List.set_cons_zero, List.set_cons_succ]
  refine wpAnyT_take (i := 9) (oi := ⟨some 22, _, _, _, _, _⟩) (v := .agg (u8l nt1).toArray) rfl (by kernel_rfl) (by kernel_rfl) (by kernel_rfl) (fun _ _ _ h => h) (by kernel_rfl) (Or.inl ⟨rfl, fun w h => run_load_mid _ _ _ 32 _ rfl g5 0 rfl (u8l nt1) _ (blk_range h.2) Try.underlying32 rfl (by simp only [List.size_toArray, u8l_len, HN.out.1] <;> kernel_rfl)⟩) (⟨F1.out.1.2.1.c3, F1.out.2⟩) ?_
  simp only [Act.put, List.setIfInBounds_toArray, List.set_cons_zero, List.set_cons_succ]
  refine wpAnyT_take (i := 10) (oi := ⟨some 23, _, _, _, _, _⟩) (v := .agg (hdV (s + 1) nl nt1).toArray) rfl (by kernel_rfl) (by kernel_rfl) (by kernel_rfl) (fun _ _ _ h => h) (by kernel_rfl) (Or.inl ⟨rfl, fun w h => run_build64 _ _ _ _ _ _ _ _ _ HN.out.1 rfl rfl rfl rfl⟩) (⟨F1.out.1.2.1.c3, F1.out.2⟩) ?_
  simp only [Act.put, List.setIfInBounds_toArray, List.set_cons_zero, List.set_cons_succ]
  refine wpAnyT_one (i := 11) (by kernel_rfl) ?_
  obtain ⟨W2, hW2⟩ : ∃ V, V = W1.drew.alloc (.cells (hdV 0 0 (List.replicate 16 0)).toArray 64) := ⟨_, rfl⟩
  obtain ⟨g7, hg7⟩ : ∃ q, W1.drew.heap.size = q := ⟨_, rfl⟩
  have F2 : Hid ((Below w.heap.size w W2 ∧ LS W2 lb b fr rm s c nt v ov ∧ DS W2 b gs gm n [] dc S fu fz false) ∧ Blk W2 g5 32 (u8l nt1).toArray ∧ Blk W2 g7 64 (hdV 0 0 (List.replicate 16 0)).toArray ∧ w.heap.size ≤ g7 ∧ g5 ≠ g7 ∧ lb ≠ g7 ∧ (b ≠ g7 ∧ gs ≠ g7 ∧ gm ≠ g7)) := Lib.hid (by have bb : Below W1.heap.size W1 W2 := (by rw [hW2]; exact (Below.refl _ _).drew.alloc (Nat.le_refl _) _); have e : W1.heap.size = g7 := hg7; have l1 := F1.out.2.lt; have l2 := F1.out.1.2.1.1.lt; have l3 := F1.out.1.2.2.lts; have l4 := F1.out.1.1.size; exact ⟨⟨F1.out.1.1.trans (bb.mono F1.out.1.1.size), F1.out.1.2.1.below bb, F1.out.1.2.2.below bb⟩, F1.out.2.below bb, by rw [hW2, ← hg7]; exact Blk.new _ _ _, by omega, by omega, by omega, by omega, by omega, by omega⟩)
  refine op_valw (o := ⟨some 7, _, _, _, _, _⟩) (.pointer (some ⟨g7, 0, none⟩)) W2 rfl rfl (by rw [hW2, ← hg7]; kernel_rfl) ?_
  refine ⟨fun _ => ⟨F2.out.1.2.1.c3, F2.out.2.1⟩, ?_⟩
  simp only [Act.put, List.setIfInBounds_toArray, List.set_cons_zero, List.set_cons_succ]
  clear hW2 hg7 F1
  refine wpAnyT_one (i := 12) (by kernel_rfl) ?_
  obtain ⟨W3, hW3⟩ : ∃ V, V = W2.setRow g7 (hdV (s + 1) nl nt1).toArray := ⟨_, rfl⟩
  have F3 : Hid ((Below w.heap.size w W3 ∧ LS W3 lb b fr rm s c nt v ov ∧ DS W3 b gs gm n [] dc S fu fz false) ∧ Blk W3 g5 32 (u8l nt1).toArray ∧ Blk W3 g7 64 (hdV (s + 1) nl nt1).toArray ∧ w.heap.size ≤ g7) := Lib.hid (by have sr := row_gb W2 g7 (hdV (s + 1) nl nt1).toArray; have bw : Below w.heap.size w W3 := (by rw [hW3]; exact below_setRow F2.out.1.1 F2.out.2.2.2.1 _); rw [← hW3] at sr; exact ⟨⟨bw, F2.out.1.2.1.grown sr F2.out.2.2.2.2.2.1.symm, ds_far F2.out.1.2.2 sr F2.out.2.2.2.2.2.2⟩, F2.out.2.1.grown sr (by simpa using F2.out.2.2.2.2.1), by rw [hW3]; exact setRow_heap _ _ _ _ _ _ F2.out.2.2.1, F2.out.2.2.2.1⟩)
  refine op_skip (o := ⟨none, _, _, _, _, _⟩) W3 rfl rfl (by rw [hW3]; exact run_store_row _ _ _ 64 _ _ rfl g7 (hdV (s + 1) nl nt1).toArray rfl rfl 64 _ F2.out.2.2.1 (by simp only [List.size_toArray, hd_len HN.out] <;> kernel_rfl) (by simp only [List.size_toArray, hdV, List.length_cons, List.length_map, List.length_replicate, HN.out.1]) (hd_one _ _ _)) ?_
  refine ⟨fun _ => ⟨F3.out.1.2.1.c3, F3.out.2.1⟩, ?_⟩
  simp only [Act.put, List.setIfInBounds_toArray, List.set_cons_zero, List.set_cons_succ]
  clear hW3 F2
  refine wpAnyT_done (by kernel_rfl) ?_ _
  go_upto_region 2 with (fail)
  refine region_anyT (fun X => X.cell? ⟨lb, 1, none⟩ = some (.int .i64 (fr : Int)) ∧ Blk X g7 64 (hdV (s + 1) nl nt1).toArray) (by kernel_rfl) 8 8 rfl ?_
  refine wpAnyT_take (i := 0) (oi := ⟨some 24, _, _, _, _, _⟩) (v := .pointer (some ⟨lb, 0, none⟩)) rfl (by kernel_rfl) (by kernel_rfl) (by kernel_rfl) (fun _ _ _ h => h) (by kernel_rfl) (Or.inl ⟨rfl, fun w h => by kernel_rfl⟩) (⟨F3.out.1.2.1.c1, F3.out.2.2.1⟩) ?_
  simp only [Act.put, List.setIfInBounds_toArray, List.set_cons_zero, List.set_cons_succ]
  refine wpAnyT_take (i := 1) (oi := ⟨some 25, _, _, _, _, _⟩) (v := .pointer (some ⟨lb, 0, none⟩)) rfl (by kernel_rfl) (by kernel_rfl) (by kernel_rfl) (fun _ _ _ h => h) (by kernel_rfl) (Or.inl ⟨rfl, fun w h => by kernel_rfl⟩) (⟨F3.out.1.2.1.c1, F3.out.2.2.1⟩) ?_
  simp only [Act.put, List.setIfInBounds_toArray, List.set_cons_zero, List.set_cons_succ]
  refine wpAnyT_take (i := 2) (oi := ⟨some 26, _, _, _, _, _⟩) (v := .pointer (some ⟨lb, 1, none⟩)) rfl (by kernel_rfl) (by kernel_rfl) (by kernel_rfl) (fun _ _ _ h => h) (by kernel_rfl) (Or.inl ⟨rfl, fun w h => by kernel_rfl⟩) (⟨F3.out.1.2.1.c1, F3.out.2.2.1⟩) ?_
  simp only [Act.put, List.setIfInBounds_toArray, List.set_cons_zero, List.set_cons_succ]
  refine wpAnyT_take (i := 3) (oi := ⟨some 27, _, _, _, _, _⟩) (v := .int .i64 (fr : Int)) rfl (by kernel_rfl) (by kernel_rfl) (by kernel_rfl) (fun _ _ _ h => h) (by kernel_rfl) (Or.inl ⟨rfl, fun w h => run_load_one _ _ _ 3 _ _ rfl (lb) (1) rfl h.1 (by kernel_rfl)⟩) (⟨F3.out.1.2.1.c1, F3.out.2.2.1⟩) ?_
  simp only [Act.put, List.setIfInBounds_toArray, List.set_cons_zero, List.set_cons_succ]
  refine wpAnyT_take (i := 4) (oi := ⟨some 28, _, _, _, _, _⟩) (v := .agg (hdV (s + 1) nl nt1).toArray) rfl (by kernel_rfl) (by kernel_rfl) (by kernel_rfl) (fun _ _ _ h => h) (by kernel_rfl) (Or.inl ⟨rfl, fun w h => run_load_mid _ _ _ 64 _ rfl g7 0 rfl (hdV (s + 1) nl nt1) _ (blk_range' h.2) Try.underlying64 rfl (by simp only [List.size_toArray, hd_len HN.out] <;> kernel_rfl)⟩) (⟨F3.out.1.2.1.c1, F3.out.2.2.1⟩) ?_
  simp only [Act.put, List.setIfInBounds_toArray, List.set_cons_zero, List.set_cons_succ]
  refine wpAnyT_one (i := 5) (by kernel_rfl) ?_
  refine op_call (o := ⟨some 29, _, _, _, _, _⟩) 45 #[.agg (hdV (s + 1) nl nt1).toArray] rfl rfl (by kernel_rfl) ((place_any _ (s + 1) nl nt1 HS.out).mono fun e W4 h => ⟨.int .i64 (((s + 1) % 2 : Nat) : Int), h.1, ?_, ?_⟩)
  · exact fun _ => by have bb : Below W3.heap.size W3 W4 := (Below.refl _ W3).drew.trans h.2; exact ⟨(F3.out.1.2.1.below bb).c1, F3.out.2.2.1.below bb⟩
  simp only [Act.put, List.setIfInBounds_toArray, List.set_cons_zero, List.set_cons_succ]
  have F4 : Hid ((Below w.heap.size w W4 ∧ LS W4 lb b fr rm s c nt v ov ∧ DS W4 b gs gm n [] dc S fu fz false) ∧ Blk W4 g7 64 (hdV (s + 1) nl nt1).toArray) := Lib.hid (by have bb : Below W3.heap.size W3 W4 := (Below.refl _ W3).drew.trans h.2; exact ⟨⟨F3.out.1.1.trans (bb.mono F3.out.1.1.size), F3.out.1.2.1.below bb, F3.out.1.2.2.below bb⟩, F3.out.2.2.1.below bb⟩)
  have LG7 := Lib.hid F3.out.2.2.2
  clear h F3
  refine wpAnyT_take (i := 6) (oi := ⟨some 30, _, _, _, _, _⟩) (v := .int .i64 ((fr + (s + 1) % 2 : Nat) : Int)) rfl (by kernel_rfl) (by kernel_rfl) (by kernel_rfl) (fun _ _ _ h => h) (by kernel_rfl) (Or.inl ⟨rfl, fun w h => run_addi Try.underlying3 rfl rfl rfl _ (by have := H.out.2.2.2.2.1; rw [wrap_in _ (by omega) (by omega)]; omega)⟩) (⟨F4.out.1.2.1.c1, F4.out.2⟩) ?_
  simp only [Act.put, List.setIfInBounds_toArray, List.set_cons_zero, List.set_cons_succ]
  refine wpAnyT_take (i := 7) (oi := ⟨some 8, _, _, _, _, _⟩) (v := .int .i64 ((fr + (s + 1) % 2 : Nat) : Int)) rfl (by kernel_rfl) (by kernel_rfl) (by kernel_rfl) (fun _ _ _ h => h) (by kernel_rfl) (Or.inl ⟨rfl, fun w h => by kernel_rfl⟩) (⟨F4.out.1.2.1.c1, F4.out.2⟩) ?_
  simp only [Act.put, List.setIfInBounds_toArray, List.set_cons_zero, List.set_cons_succ]
  refine wpAnyT_done (by kernel_rfl) ?_ _
  go_upto_region 3 with (fail)
  refine wp_region_lit ?_
  refine wpL_pure (.pointer (some ⟨lb, 0, none⟩)) rfl (by kernel_rfl) ?_
  simp only [Act.put, List.setIfInBounds_toArray, List.set_cons_zero, List.set_cons_succ]
  refine wpL_pure (.pointer (some ⟨lb, 0, none⟩)) rfl (by kernel_rfl) ?_
  simp only [Act.put, List.setIfInBounds_toArray, List.set_cons_zero, List.set_cons_succ]
  refine wpL_pure (.pointer (some ⟨lb, 0, none⟩)) rfl (by kernel_rfl) ?_
  simp only [Act.put, List.setIfInBounds_toArray, List.set_cons_zero, List.set_cons_succ]
  refine wpL_pure (.pointer (some ⟨b, 0, none⟩)) rfl (run_load_one _ _ _ 24 _ _ rfl (lb) (0) rfl (F4.out.1.2.1.c0) (by kernel_rfl)) ?_
  simp only [Act.put, List.setIfInBounds_toArray, List.set_cons_zero, List.set_cons_succ]
  refine wpL_pure (.int .i64 ((fr + (s + 1) % 2 : Nat) : Int)) rfl (by kernel_rfl) ?_
  simp only [Act.put, List.setIfInBounds_toArray, List.set_cons_zero, List.set_cons_succ]
  refine wpL_call 30 #[.pointer (some ⟨b, 0, none⟩), .int .i64 ((fr + (s + 1) % 2 : Nat) : Int)] rfl (by kernel_rfl) ((read_in F4.out.1.2.2 (fr + (s + 1) % 2) HA.out).mono ?_)
  rintro e W5 ⟨O, v9, hO, he, ho, bb⟩
  obtain ⟨g9, c9, e9, r9, k9, l9, m9⟩ := own_slice64 ho (F4.out.1.2.2.2.2.2.2.2.1 O (List.mem_of_getElem? hO)).1
  subst e9
  have F5 : Hid (((Below w.heap.size w W5 ∧ LS W5 lb b fr rm s c nt v ov ∧ DS W5 b gs gm n [] dc S fu fz false) ∧ Blk W5 g7 64 (hdV (s + 1) nl nt1).toArray) ∧ Row W5 (some ⟨g9, 0, none⟩) 64 O) := Lib.hid ⟨⟨⟨F4.out.1.1.trans (bb.mono F4.out.1.1.size), F4.out.1.2.1.below bb, F4.out.1.2.2.below bb⟩, F4.out.2.below bb⟩, r9⟩
  have HO := Lib.hid hO
  have OO : Hid (SOk O) := Lib.hid (F4.out.1.2.2.2.2.2.2.2.1 O (List.mem_of_getElem? hO))
  have C9 : Hid (64 ≤ c9 ∧ c9 < 9223372036854775808) := Lib.hid ⟨k9, l9⟩
  have G9 : Hid (w.heap.size ≤ g9) := Lib.hid (Nat.le_trans F4.out.1.1.size m9)
  clear hO bb ho r9 k9 l9 m9 F4
  refine ⟨.tuple #[.slice (some ⟨g9, 0, none⟩) 64 c9, .int .i64 0], he, ?_⟩
  simp only [Act.put, List.setIfInBounds_toArray, List.set_cons_zero, List.set_cons_succ]
  clear he
  refine wpL_pure (.tuple #[.slice (some ⟨g9, 0, none⟩) 64 c9, .int .i64 0]) rfl (by kernel_rfl) ?_
  simp only [Act.put, List.setIfInBounds_toArray, List.set_cons_zero, List.set_cons_succ]
  refine wpL_pure (.slice (some ⟨g9, 0, none⟩) 64 c9) rfl (by kernel_rfl) ?_
  simp only [Act.put, List.setIfInBounds_toArray, List.set_cons_zero, List.set_cons_succ]
  refine wpL_pure (.int .i64 0) rfl (by kernel_rfl) ?_
  simp only [Act.put, List.setIfInBounds_toArray, List.set_cons_zero, List.set_cons_succ]
  refine wpL_pure (.slice (some ⟨g9, 0, none⟩) 64 c9) rfl (by kernel_rfl) ?_
  simp only [Act.put, List.setIfInBounds_toArray, List.set_cons_zero, List.set_cons_succ]
  refine wpL_pure (.int .i64 0) rfl (by kernel_rfl) ?_
  simp only [Act.put, List.setIfInBounds_toArray, List.set_cons_zero, List.set_cons_succ]
  go_upto_region 4 with (fail)
  refine wp_region_lit ?_
  refine wpL_pure (.int .i64 0) rfl (by kernel_rfl) ?_
  simp only [Act.put, List.setIfInBounds_toArray, List.set_cons_zero, List.set_cons_succ]
  refine wpL_pure (.bool false) rfl (by kernel_rfl) ?_
  simp only [Act.put, List.setIfInBounds_toArray, List.set_cons_zero, List.set_cons_succ]
  go_upto_region 6 with (fail)
  refine wp_region_lit ?_
  refine wpL_pure (.pointer (some ⟨lb, 0, none⟩)) rfl (by kernel_rfl) ?_
  simp only [Act.put, List.setIfInBounds_toArray, List.set_cons_zero, List.set_cons_succ]
  refine wpL_pure (.slice (some ⟨g9, 0, none⟩) 64 c9) rfl (by kernel_rfl) ?_
  simp only [Act.put, List.setIfInBounds_toArray, List.set_cons_zero, List.set_cons_succ]
  refine wpL_pure (.agg (hdV (s + 1) nl nt1).toArray) rfl (run_load_mid _ _ _ 64 _ rfl g7 0 rfl (hdV (s + 1) nl nt1) _ (blk_range' F5.out.1.2) Try.underlying64 rfl (by simp only [List.size_toArray, hd_len HN.out] <;> kernel_rfl)) ?_
  simp only [Act.put, List.setIfInBounds_toArray, List.set_cons_zero, List.set_cons_succ]
  refine wpL_call 47 #[.pointer (some ⟨lb, 0, none⟩), .slice (some ⟨g9, 0, none⟩) 64 c9, .agg (hdV (s + 1) nl nt1).toArray] rfl (by kernel_rfl) ((slips_any F5.out.1.1.2.1 g9 0 c9 O F5.out.2 C9.out (s + 1) nl nt1 HN.out HS.out HU.out).mono ?_)
  rintro e W6 ⟨z, he, bb, z1, z2⟩
  have F6 : Hid (((Below w.heap.size w W6 ∧ LS W6 lb b fr rm s c nt v ov ∧ DS W6 b gs gm n [] dc S fu fz false) ∧ Blk W6 g7 64 (hdV (s + 1) nl nt1).toArray) ∧ Row W6 (some ⟨g9, 0, none⟩) 64 O) := Lib.hid ⟨⟨⟨F5.out.1.1.1.trans (bb.mono F5.out.1.1.1.size), F5.out.1.1.2.1.below bb, F5.out.1.1.2.2.below bb⟩, F5.out.1.2.below bb⟩, F5.out.2.keep bb⟩
  have Z1 := Lib.hid z1
  have Z2 := Lib.hid z2
  clear bb z1 z2 F5
  refine ⟨.bool z, he, ?_⟩
  simp only [Act.put, List.setIfInBounds_toArray, List.set_cons_zero, List.set_cons_succ]
  clear he
  cases z
  · have F7 : Hid (Fl (Pq lb b gs gm) w W6 ∧ LS W6 lb b fr rm s c nt v ov ∧ DS W6 b gs gm n [] dc S fu fz false ∧ Blk W6 g7 64 (hdV (s + 1) nl nt1).toArray) := Lib.hid ⟨Fl.of F6.out.1.1.1, F6.out.1.1.2.1, F6.out.1.1.2.2, F6.out.1.2⟩
    have TG : Hid (∀ k, GoodY rm s nl nt1 (tornV O (secV (s + 1) nl nt1) k)) := Lib.hid (fun k => by cases hw : whole O with | true => exact torn_whole HN.out HS.out HU.out OO.out hw (HH.out O HO.out) k | false => exact torn_clear HN.out HS.out HU.out OO.out hw (Z2.out hw rfl) k)
    go_upto_region 10 with (fail)
    refine wp_region_lit ?_
    refine wpL_pure (.pointer (some ⟨lb, 0, none⟩)) rfl (by kernel_rfl) ?_
    simp only [Act.put, List.setIfInBounds_toArray, List.set_cons_zero, List.set_cons_succ]
    refine wpL_pure (.int .i64 ((fr + (s + 1) % 2 : Nat) : Int)) rfl (by kernel_rfl) ?_
    simp only [Act.put, List.setIfInBounds_toArray, List.set_cons_zero, List.set_cons_succ]
    refine wpL_pure (.agg (hdV (s + 1) nl nt1).toArray) rfl (run_load_mid _ _ _ 64 _ rfl g7 0 rfl (hdV (s + 1) nl nt1) _ (blk_range' F7.out.2.2.2) Try.underlying64 rfl (by simp only [List.size_toArray, hd_len HN.out] <;> kernel_rfl)) ?_
    simp only [Act.put, List.setIfInBounds_toArray, List.set_cons_zero, List.set_cons_succ]
    refine wpL_call 50 #[.agg (hdV (s + 1) nl nt1).toArray] rfl (by kernel_rfl) ((sector_any _ (s + 1) nl nt1 HN.out HS.out HU.out).mono ?_)
    rintro e V1 ⟨v8, he, bb, ho⟩
    obtain ⟨g8, c8, e8, r8, _, _, m8⟩ := own_slice64 ho (secV_ok HN.out).1
    subst e8
    have A1 : Hid (Fl (Pq lb b gs gm) w V1 ∧ LS V1 lb b fr rm s c nt v ov ∧ DS V1 b gs gm n [] dc S fu fz false ∧ Blk V1 g7 64 (hdV (s + 1) nl nt1).toArray ∧ Row V1 (some ⟨g8, 0, none⟩) 64 (secV (s + 1) nl nt1) ∧ w.heap.size ≤ g8) := Lib.hid ⟨F7.out.1.trans (Fl.of bb), F7.out.2.1.below bb, F7.out.2.2.1.below bb, F7.out.2.2.2.below bb, r8, Nat.le_trans F7.out.1.2.2.2.1 m8⟩
    clear bb ho r8 m8
    refine ⟨.slice (some ⟨g8, 0, none⟩) 64 c8, he, ?_⟩
    simp only [Act.put, List.setIfInBounds_toArray, List.set_cons_zero, List.set_cons_succ]
    clear he
    refine wpL_call 48 #[.pointer (some ⟨lb, 0, none⟩), .int .i64 ((fr + (s + 1) % 2 : Nat) : Int), .slice (some ⟨g8, 0, none⟩) 64 c8] rfl (by kernel_rfl) ((put_any A1.out.2.1 A1.out.2.2.1 NE.out (fr + (s + 1) % 2) HA.out g8 0 c8 _ A1.out.2.2.2.2.1 (by have l3 := D.out.lts; have := A1.out.2.2.2.2.2; omega)).mono ?_)
    rintro e V2 ⟨O3, hO3, dc3, fz3, hp, f2⟩
    obtain rfl := Option.some.inj (HO.out.symm.trans hO3)
    rcases hp with ⟨q, rfl, d2⟩ | ⟨q, rfl, br, d2⟩ | ⟨rfl, d2⟩
    · have A2 : Hid (Fl (Pq lb b gs gm) w V2 ∧ LS V2 lb b fr rm s c nt v ov) := Lib.hid ⟨A1.out.1.trans (Fl.fd f2 (.inl rfl) (.inr (.inl rfl)) (.inr (.inr (.inl rfl)))), A1.out.2.1.fd f2 NE.out.1 NE.out.2.1 NE.out.2.2⟩
      have D2 := Lib.hid d2
      have Q := Lib.hid q
      clear d2 f2 q A1
      refine ⟨.int .i64 5, rfl, ?_⟩
      simp only [Act.put, List.setIfInBounds_toArray, List.set_cons_zero, List.set_cons_succ]
      refine wpL_pure (.int .i64 5) rfl (by kernel_rfl) ?_
      simp only [Act.put, List.setIfInBounds_toArray, List.set_cons_zero, List.set_cons_succ]
      go_upto_region 11 with (fail)
      refine wp_region_lit ?_
      refine wpL_pure (.int .i64 5) rfl (by kernel_rfl) ?_
      simp only [Act.put, List.setIfInBounds_toArray, List.set_cons_zero, List.set_cons_succ]
      refine wpL_pure (.bool true) rfl (by kernel_rfl) ?_
      simp only [Act.put, List.setIfInBounds_toArray, List.set_cons_zero, List.set_cons_succ]
      go_upto_region 12 with (fail)
      refine wp_region_lit ?_
      refine wpL_pure (.pointer (some ⟨lb, 0, none⟩)) rfl (by kernel_rfl) ?_
      simp only [Act.put, List.setIfInBounds_toArray, List.set_cons_zero, List.set_cons_succ]
      refine wpL_pure (.int .i64 5) rfl (by kernel_rfl) ?_
      simp only [Act.put, List.setIfInBounds_toArray, List.set_cons_zero, List.set_cons_succ]
      refine wpL_call 35 #[.pointer (some ⟨lb, 0, none⟩), .int .i64 5] rfl (by kernel_rfl) ((endD A2.out.2 5).mono ?_)
      rintro e V3 ⟨he, hV3⟩
      have A3 : Hid (Fl (Pq lb b gs gm) w V3 ∧ LS V3 lb b fr rm s c nt v true) := Lib.hid (by rw [hV3]; exact ⟨A2.out.1.trans (Fl.gb (gb_set (gb_refl V2 (some lb)) 22 _) (fun k hk _ => by cases hk; exact .inr (.inr (.inr rfl)))), A2.out.2.over⟩)
      have D3 := Lib.hid (show DS V3 b gs gm n _ dc3 _ fu fz3 true from by rw [hV3]; exact ds_far D2.out (gb_set (gb_refl V2 (some lb)) 22 _) ⟨NE.out.1.symm, NE.out.2.1.symm, NE.out.2.2.symm⟩)
      clear hV3 D2 A2
      refine ⟨.int .i64 5, he, ?_⟩
      simp only [Act.put, List.setIfInBounds_toArray, List.set_cons_zero, List.set_cons_succ]
      clear he
      refine wpL_pure (.int .i64 5) rfl (by kernel_rfl) ?_
      simp only [Act.put, List.setIfInBounds_toArray, List.set_cons_zero, List.set_cons_succ]
      go_wp2_with fail
      go_ret
      exact ⟨O, HO.out, .inr ⟨Q.out, rfl, A3.out.2, _, _, _, _, D3.out, A3.out.1, ⟨O, by rw [set_same HO.out], OO.out, .inl ⟨rfl, .inr (HH.out O HO.out)⟩⟩⟩⟩
    · have A2 : Hid (Fl (Pq lb b gs gm) w V2 ∧ LS V2 lb b fr rm s c nt v ov) := Lib.hid ⟨A1.out.1.trans (Fl.fd f2 (.inl rfl) (.inr (.inl rfl)) (.inr (.inr (.inl rfl)))), A1.out.2.1.fd f2 NE.out.1 NE.out.2.1 NE.out.2.2⟩
      have D2 := Lib.hid d2
      have Q := Lib.hid q
      clear d2 f2 q A1
      refine ⟨.int .i64 5, rfl, ?_⟩
      simp only [Act.put, List.setIfInBounds_toArray, List.set_cons_zero, List.set_cons_succ]
      refine wpL_pure (.int .i64 5) rfl (by kernel_rfl) ?_
      simp only [Act.put, List.setIfInBounds_toArray, List.set_cons_zero, List.set_cons_succ]
      go_upto_region 11 with (fail)
      refine wp_region_lit ?_
      refine wpL_pure (.int .i64 5) rfl (by kernel_rfl) ?_
      simp only [Act.put, List.setIfInBounds_toArray, List.set_cons_zero, List.set_cons_succ]
      refine wpL_pure (.bool true) rfl (by kernel_rfl) ?_
      simp only [Act.put, List.setIfInBounds_toArray, List.set_cons_zero, List.set_cons_succ]
      go_upto_region 12 with (fail)
      refine wp_region_lit ?_
      refine wpL_pure (.pointer (some ⟨lb, 0, none⟩)) rfl (by kernel_rfl) ?_
      simp only [Act.put, List.setIfInBounds_toArray, List.set_cons_zero, List.set_cons_succ]
      refine wpL_pure (.int .i64 5) rfl (by kernel_rfl) ?_
      simp only [Act.put, List.setIfInBounds_toArray, List.set_cons_zero, List.set_cons_succ]
      refine wpL_call 35 #[.pointer (some ⟨lb, 0, none⟩), .int .i64 5] rfl (by kernel_rfl) ((endD A2.out.2 5).mono ?_)
      rintro e V3 ⟨he, hV3⟩
      have A3 : Hid (Fl (Pq lb b gs gm) w V3 ∧ LS V3 lb b fr rm s c nt v true) := Lib.hid (by rw [hV3]; exact ⟨A2.out.1.trans (Fl.gb (gb_set (gb_refl V2 (some lb)) 22 _) (fun k hk _ => by cases hk; exact .inr (.inr (.inr rfl)))), A2.out.2.over⟩)
      have D3 := Lib.hid (show DS V3 b gs gm n _ dc3 _ fu fz3 true from by rw [hV3]; exact ds_far D2.out (gb_set (gb_refl V2 (some lb)) 22 _) ⟨NE.out.1.symm, NE.out.2.1.symm, NE.out.2.2.symm⟩)
      clear hV3 D2 A2
      refine ⟨.int .i64 5, he, ?_⟩
      simp only [Act.put, List.setIfInBounds_toArray, List.set_cons_zero, List.set_cons_succ]
      clear he
      refine wpL_pure (.int .i64 5) rfl (by kernel_rfl) ?_
      simp only [Act.put, List.setIfInBounds_toArray, List.set_cons_zero, List.set_cons_succ]
      go_wp2_with fail
      go_ret
      exact ⟨O, HO.out, .inr ⟨Q.out, rfl, A3.out.2, _, _, _, _, D3.out, A3.out.1, ⟨secV (s + 1) nl nt1, rfl, secV_ok HN.out, .inr ⟨O, br, rfl, OO.out, TG.out⟩⟩⟩⟩
    · have A2 : Hid (Fl (Pq lb b gs gm) w V2 ∧ LS V2 lb b fr rm s c nt v ov ∧ DS V2 b gs gm n [] dc3 (S.set (fr + (s + 1) % 2) (secV (s + 1) nl nt1)) fu fz3 false ∧ Blk V2 g7 64 (hdV (s + 1) nl nt1).toArray) := Lib.hid ⟨A1.out.1.trans (Fl.fd f2 (.inl rfl) (.inr (.inl rfl)) (.inr (.inr (.inl rfl)))), A1.out.2.1.fd f2 NE.out.1 NE.out.2.1 NE.out.2.2, d2, (Fl.fd f2 (p := Pq lb b gs gm) (.inl rfl) (.inr (.inl rfl)) (.inr (.inr (.inl rfl)))).blk A1.out.2.2.2.1 (by have l3 := D.out.lts; have l4 := H.out.1.lt; have := LG7.out; rintro (e | e | e | e) <;> omega)⟩
      clear d2 f2 A1
      refine ⟨.int .i64 0, rfl, ?_⟩
      simp only [Act.put, List.setIfInBounds_toArray, List.set_cons_zero, List.set_cons_succ]
      refine wpL_pure (.int .i64 0) rfl (by kernel_rfl) ?_
      simp only [Act.put, List.setIfInBounds_toArray, List.set_cons_zero, List.set_cons_succ]
      go_upto_region 11 with (fail)
      refine wp_region_lit ?_
      refine wpL_pure (.int .i64 0) rfl (by kernel_rfl) ?_
      simp only [Act.put, List.setIfInBounds_toArray, List.set_cons_zero, List.set_cons_succ]
      refine wpL_pure (.bool false) rfl (by kernel_rfl) ?_
      simp only [Act.put, List.setIfInBounds_toArray, List.set_cons_zero, List.set_cons_succ]
      go_upto_region 13 with (fail)
      refine wp_region_lit ?_
      refine wpL_pure (.pointer (some ⟨lb, 0, none⟩)) rfl (by kernel_rfl) ?_
      simp only [Act.put, List.setIfInBounds_toArray, List.set_cons_zero, List.set_cons_succ]
      refine wpL_pure (.pointer (some ⟨lb, 0, none⟩)) rfl (by kernel_rfl) ?_
      simp only [Act.put, List.setIfInBounds_toArray, List.set_cons_zero, List.set_cons_succ]
      refine wpL_pure (.agg (hdV (s + 1) nl nt1).toArray) rfl (run_load_mid _ _ _ 64 _ rfl g7 0 rfl (hdV (s + 1) nl nt1) _ (blk_range' A2.out.2.2.2) Try.underlying64 rfl (by simp only [List.size_toArray, hd_len HN.out] <;> kernel_rfl)) ?_
      simp only [Act.put, List.setIfInBounds_toArray, List.set_cons_zero, List.set_cons_succ]
      refine wpL_pure (.slice na nl nc) rfl (by kernel_rfl) ?_
      simp only [Act.put, List.setIfInBounds_toArray, List.set_cons_zero, List.set_cons_succ]
      refine wpL_pure (.pointer (some ⟨lb, 0, none⟩)) rfl (by kernel_rfl) ?_
      simp only [Act.put, List.setIfInBounds_toArray, List.set_cons_zero, List.set_cons_succ]
      refine wpL_pure (.pointer (some ⟨lb, 3, none⟩)) rfl (by kernel_rfl) ?_
      simp only [Act.put, List.setIfInBounds_toArray, List.set_cons_zero, List.set_cons_succ]
      obtain ⟨V3, h3, t3, b3, q3⟩ := store_head V2 lb b fr rm s c nt v ov (s + 1) nl nt1 A2.out.2.1 HN.out HS.out HU.out
      refine wpList_store_mid rfl 64 _ _ rfl lb 3 (hdV (s + 1) nl nt1).toArray rfl rfl (by rw [show (hdV (s + 1) nl nt1).toArray.size = 18 by rw [List.size_toArray, hd_len HN.out]]; exact t3) (by simp only [List.size_toArray, hd_len HN.out] <;> kernel_rfl) (hd_one _ _ _) ?_
      simp only [Act.put, List.setIfInBounds_toArray, List.set_cons_zero, List.set_cons_succ]
      rw [show V2.setCells lb 3 (hdV (s + 1) nl nt1).toArray.toList = V3 from h3.symm]
      have A3 : Hid (Fl (Pq lb b gs gm) w V3 ∧ LS V3 lb b fr rm (s + 1) nl nt1 v ov ∧ DS V3 b gs gm n [] dc3 (S.set (fr + (s + 1) % 2) (secV (s + 1) nl nt1)) fu fz3 false) := Lib.hid ⟨A2.out.1.trans (Fl.gb q3 (fun k hk _ => by cases hk; exact .inr (.inr (.inr rfl)))), b3, ds_far A2.out.2.2.1 q3 ⟨NE.out.1.symm, NE.out.2.1.symm, NE.out.2.2.symm⟩⟩
      clear b3 q3 A2 h3 t3
      refine wpL_pure (.pointer (some ⟨lb, 0, none⟩)) rfl (by kernel_rfl) ?_
      simp only [Act.put, List.setIfInBounds_toArray, List.set_cons_zero, List.set_cons_succ]
      refine wpL_pure (.pointer (some ⟨lb, 21, none⟩)) rfl (by kernel_rfl) ?_
      simp only [Act.put, List.setIfInBounds_toArray, List.set_cons_zero, List.set_cons_succ]
      refine wpL_store_one rfl rfl (lb) (21) rfl (.slice na nl nc) rfl rfl size26 (by rw [A3.out.2.1.c21]; rfl) (A3.out.2.1.1.free 21) ?_
      simp only [Act.put, List.setIfInBounds_toArray, List.set_cons_zero, List.set_cons_succ]
      obtain ⟨V4, hV4⟩ : ∃ V, V = V3.setCell ⟨lb, 21, none⟩ (.slice na nl nc) := ⟨_, rfl⟩
      rw [← hV4]
      have A4 : Hid (Fl (Pq lb b gs gm) w V4 ∧ LS V4 lb b fr rm (s + 1) nl nt1 (.slice na nl nc) ov ∧ DS V4 b gs gm n [] dc3 (S.set (fr + (s + 1) % 2) (secV (s + 1) nl nt1)) fu fz3 false) := Lib.hid (by rw [hV4]; exact ⟨A3.out.1.trans (Fl.gb (gb_set (gb_refl V3 (some lb)) 21 _) (fun k hk _ => by cases hk; exact .inr (.inr (.inr rfl)))), A3.out.2.1.bytes _, ds_far A3.out.2.2 (gb_set (gb_refl V3 (some lb)) 21 _) ⟨NE.out.1.symm, NE.out.2.1.symm, NE.out.2.2.symm⟩⟩)
      clear hV4 A3
      go_upto_region 14 with (fail)
      refine wp_region_lit ?_
      refine wpL_pure (.int .i64 0) rfl (by kernel_rfl) ?_
      simp only [Act.put, List.setIfInBounds_toArray, List.set_cons_zero, List.set_cons_succ]
      go_wp2_with fail
      go_ret
      exact ⟨O, HO.out, .inl ⟨rfl, _, _, A4.out.2.1, A4.out.2.2, A4.out.1⟩⟩
  · have WO : Hid (whole O = false) := Lib.hid (by cases hw : whole O with | false => rfl | true => exact absurd (Z1.out hw) (by simp))
    go_upto_region 7 with (fail)
    refine wp_region_lit ?_
    refine wpL_pure (.pointer (some ⟨lb, 0, none⟩)) rfl (by kernel_rfl) ?_
    simp only [Act.put, List.setIfInBounds_toArray, List.set_cons_zero, List.set_cons_succ]
    refine wpL_pure (.int .i64 ((fr + (s + 1) % 2 : Nat) : Int)) rfl (by kernel_rfl) ?_
    simp only [Act.put, List.setIfInBounds_toArray, List.set_cons_zero, List.set_cons_succ]
    refine wpL_pure (.slice (some ⟨g9, 0, none⟩) 64 c9) rfl (by kernel_rfl) ?_
    simp only [Act.put, List.setIfInBounds_toArray, List.set_cons_zero, List.set_cons_succ]
    refine wpL_call 49 #[.slice (some ⟨g9, 0, none⟩) 64 c9] rfl (by kernel_rfl) ((blank_any _ g9 0 c9 O F6.out.2).mono ?_)
    rintro e W7 ⟨v8, he, bb, ho⟩
    obtain ⟨g8, c8, e8, r8, _, _, m8⟩ := own_slice64 ho (blank_ok OO.out.2).1
    subst e8
    have A1 : Hid (((Below w.heap.size w W7 ∧ LS W7 lb b fr rm s c nt v ov ∧ DS W7 b gs gm n [] dc S fu fz false) ∧ Blk W7 g7 64 (hdV (s + 1) nl nt1).toArray) ∧ Row W7 (some ⟨g8, 0, none⟩) 64 (blankV O) ∧ w.heap.size ≤ g8) := Lib.hid ⟨⟨⟨F6.out.1.1.1.trans (bb.mono F6.out.1.1.1.size), F6.out.1.1.2.1.below bb, F6.out.1.1.2.2.below bb⟩, F6.out.1.2.below bb⟩, r8, Nat.le_trans F6.out.1.1.1.size m8⟩
    clear bb ho r8 m8
    refine ⟨.slice (some ⟨g8, 0, none⟩) 64 c8, he, ?_⟩
    simp only [Act.put, List.setIfInBounds_toArray, List.set_cons_zero, List.set_cons_succ]
    clear he
    refine wpL_call 48 #[.pointer (some ⟨lb, 0, none⟩), .int .i64 ((fr + (s + 1) % 2 : Nat) : Int), .slice (some ⟨g8, 0, none⟩) 64 c8] rfl (by kernel_rfl) ((put_any A1.out.1.1.2.1 A1.out.1.1.2.2 NE.out (fr + (s + 1) % 2) HA.out g8 0 c8 _ A1.out.2.1 (by have l3 := D.out.lts; have := A1.out.2.2; omega)).mono ?_)
    rintro e V2 ⟨O2, hO2, dc2, fz2, hp, f2⟩
    obtain rfl := Option.some.inj (HO.out.symm.trans hO2)
    rcases hp with ⟨q, rfl, d2⟩ | ⟨q, rfl, br, d2⟩ | ⟨rfl, d2⟩
    · have A2 : Hid (Fl (Pq lb b gs gm) w V2 ∧ LS V2 lb b fr rm s c nt v ov) := Lib.hid ⟨(Fl.of A1.out.1.1.1).trans (Fl.fd f2 (.inl rfl) (.inr (.inl rfl)) (.inr (.inr (.inl rfl)))), A1.out.1.1.2.1.fd f2 NE.out.1 NE.out.2.1 NE.out.2.2⟩
      have D2 := Lib.hid d2
      have Q := Lib.hid q
      clear d2 f2 q A1
      refine ⟨.int .i64 5, rfl, ?_⟩
      simp only [Act.put, List.setIfInBounds_toArray, List.set_cons_zero, List.set_cons_succ]
      refine wpL_pure (.int .i64 5) rfl (by kernel_rfl) ?_
      simp only [Act.put, List.setIfInBounds_toArray, List.set_cons_zero, List.set_cons_succ]
      go_upto_region 8 with (fail)
      refine wp_region_lit ?_
      refine wpL_pure (.int .i64 5) rfl (by kernel_rfl) ?_
      simp only [Act.put, List.setIfInBounds_toArray, List.set_cons_zero, List.set_cons_succ]
      refine wpL_pure (.bool true) rfl (by kernel_rfl) ?_
      simp only [Act.put, List.setIfInBounds_toArray, List.set_cons_zero, List.set_cons_succ]
      go_upto_region 9 with (fail)
      refine wp_region_lit ?_
      refine wpL_pure (.pointer (some ⟨lb, 0, none⟩)) rfl (by kernel_rfl) ?_
      simp only [Act.put, List.setIfInBounds_toArray, List.set_cons_zero, List.set_cons_succ]
      refine wpL_pure (.int .i64 5) rfl (by kernel_rfl) ?_
      simp only [Act.put, List.setIfInBounds_toArray, List.set_cons_zero, List.set_cons_succ]
      refine wpL_call 35 #[.pointer (some ⟨lb, 0, none⟩), .int .i64 5] rfl (by kernel_rfl) ((endD A2.out.2 5).mono ?_)
      rintro e V3 ⟨he, hV3⟩
      have A3 : Hid (Fl (Pq lb b gs gm) w V3 ∧ LS V3 lb b fr rm s c nt v true) := Lib.hid (by rw [hV3]; exact ⟨A2.out.1.trans (Fl.gb (gb_set (gb_refl V2 (some lb)) 22 _) (fun k hk _ => by cases hk; exact .inr (.inr (.inr rfl)))), A2.out.2.over⟩)
      have D3 := Lib.hid (show DS V3 b gs gm n _ dc2 _ fu fz2 true from by rw [hV3]; exact ds_far D2.out (gb_set (gb_refl V2 (some lb)) 22 _) ⟨NE.out.1.symm, NE.out.2.1.symm, NE.out.2.2.symm⟩)
      clear hV3 D2 A2
      refine ⟨.int .i64 5, he, ?_⟩
      simp only [Act.put, List.setIfInBounds_toArray, List.set_cons_zero, List.set_cons_succ]
      clear he
      refine wpL_pure (.int .i64 5) rfl (by kernel_rfl) ?_
      simp only [Act.put, List.setIfInBounds_toArray, List.set_cons_zero, List.set_cons_succ]
      go_wp2_with fail
      go_ret
      exact ⟨O, HO.out, .inr ⟨Q.out, rfl, A3.out.2, _, _, _, _, D3.out, A3.out.1, ⟨O, by rw [set_same HO.out], OO.out, .inl ⟨rfl, .inr (HH.out O HO.out)⟩⟩⟩⟩
    · have A2 : Hid (Fl (Pq lb b gs gm) w V2 ∧ LS V2 lb b fr rm s c nt v ov) := Lib.hid ⟨(Fl.of A1.out.1.1.1).trans (Fl.fd f2 (.inl rfl) (.inr (.inl rfl)) (.inr (.inr (.inl rfl)))), A1.out.1.1.2.1.fd f2 NE.out.1 NE.out.2.1 NE.out.2.2⟩
      have D2 := Lib.hid d2
      have Q := Lib.hid q
      clear d2 f2 q A1
      refine ⟨.int .i64 5, rfl, ?_⟩
      simp only [Act.put, List.setIfInBounds_toArray, List.set_cons_zero, List.set_cons_succ]
      refine wpL_pure (.int .i64 5) rfl (by kernel_rfl) ?_
      simp only [Act.put, List.setIfInBounds_toArray, List.set_cons_zero, List.set_cons_succ]
      go_upto_region 8 with (fail)
      refine wp_region_lit ?_
      refine wpL_pure (.int .i64 5) rfl (by kernel_rfl) ?_
      simp only [Act.put, List.setIfInBounds_toArray, List.set_cons_zero, List.set_cons_succ]
      refine wpL_pure (.bool true) rfl (by kernel_rfl) ?_
      simp only [Act.put, List.setIfInBounds_toArray, List.set_cons_zero, List.set_cons_succ]
      go_upto_region 9 with (fail)
      refine wp_region_lit ?_
      refine wpL_pure (.pointer (some ⟨lb, 0, none⟩)) rfl (by kernel_rfl) ?_
      simp only [Act.put, List.setIfInBounds_toArray, List.set_cons_zero, List.set_cons_succ]
      refine wpL_pure (.int .i64 5) rfl (by kernel_rfl) ?_
      simp only [Act.put, List.setIfInBounds_toArray, List.set_cons_zero, List.set_cons_succ]
      refine wpL_call 35 #[.pointer (some ⟨lb, 0, none⟩), .int .i64 5] rfl (by kernel_rfl) ((endD A2.out.2 5).mono ?_)
      rintro e V3 ⟨he, hV3⟩
      have A3 : Hid (Fl (Pq lb b gs gm) w V3 ∧ LS V3 lb b fr rm s c nt v true) := Lib.hid (by rw [hV3]; exact ⟨A2.out.1.trans (Fl.gb (gb_set (gb_refl V2 (some lb)) 22 _) (fun k hk _ => by cases hk; exact .inr (.inr (.inr rfl)))), A2.out.2.over⟩)
      have D3 := Lib.hid (show DS V3 b gs gm n _ dc2 _ fu fz2 true from by rw [hV3]; exact ds_far D2.out (gb_set (gb_refl V2 (some lb)) 22 _) ⟨NE.out.1.symm, NE.out.2.1.symm, NE.out.2.2.symm⟩)
      clear hV3 D2 A2
      refine ⟨.int .i64 5, he, ?_⟩
      simp only [Act.put, List.setIfInBounds_toArray, List.set_cons_zero, List.set_cons_succ]
      clear he
      refine wpL_pure (.int .i64 5) rfl (by kernel_rfl) ?_
      simp only [Act.put, List.setIfInBounds_toArray, List.set_cons_zero, List.set_cons_succ]
      go_wp2_with fail
      go_ret
      exact ⟨O, HO.out, .inr ⟨Q.out, rfl, A3.out.2, _, _, _, _, D3.out, A3.out.1, ⟨blankV O, rfl, blank_ok OO.out.2, .inr ⟨O, br, rfl, OO.out, fun k => .inr (torn_blank H.out.2.2.2.2.2 OO.out WO.out k)⟩⟩⟩⟩
    · have F7 : Hid (Fl (Pq lb b gs gm) w V2 ∧ LS V2 lb b fr rm s c nt v ov ∧ DS V2 b gs gm n [] dc2 (S.set (fr + (s + 1) % 2) (blankV O)) fu fz2 false ∧ Blk V2 g7 64 (hdV (s + 1) nl nt1).toArray) := Lib.hid ⟨(Fl.of A1.out.1.1.1).trans (Fl.fd f2 (.inl rfl) (.inr (.inl rfl)) (.inr (.inr (.inl rfl)))), A1.out.1.1.2.1.fd f2 NE.out.1 NE.out.2.1 NE.out.2.2, d2, (Fl.fd f2 (p := Pq lb b gs gm) (.inl rfl) (.inr (.inl rfl)) (.inr (.inr (.inl rfl)))).blk A1.out.1.2 (by have l3 := D.out.lts; have l4 := H.out.1.lt; have := LG7.out; rintro (e | e | e | e) <;> omega)⟩
      have OB : Hid ((S.set (fr + (s + 1) % 2) (blankV O))[fr + (s + 1) % 2]? = some (blankV O)) := Lib.hid (by rw [List.getElem?_set_self (lt_of_some HO.out)])
      clear d2 f2 A1
      refine ⟨.int .i64 0, rfl, ?_⟩
      simp only [Act.put, List.setIfInBounds_toArray, List.set_cons_zero, List.set_cons_succ]
      refine wpL_pure (.int .i64 0) rfl (by kernel_rfl) ?_
      simp only [Act.put, List.setIfInBounds_toArray, List.set_cons_zero, List.set_cons_succ]
      go_upto_region 8 with (fail)
      refine wp_region_lit ?_
      refine wpL_pure (.int .i64 0) rfl (by kernel_rfl) ?_
      simp only [Act.put, List.setIfInBounds_toArray, List.set_cons_zero, List.set_cons_succ]
      refine wpL_pure (.bool false) rfl (by kernel_rfl) ?_
      simp only [Act.put, List.setIfInBounds_toArray, List.set_cons_zero, List.set_cons_succ]
      go_upto_region 10 with (fail)
      refine wp_region_lit ?_
      refine wpL_pure (.pointer (some ⟨lb, 0, none⟩)) rfl (by kernel_rfl) ?_
      simp only [Act.put, List.setIfInBounds_toArray, List.set_cons_zero, List.set_cons_succ]
      refine wpL_pure (.int .i64 ((fr + (s + 1) % 2 : Nat) : Int)) rfl (by kernel_rfl) ?_
      simp only [Act.put, List.setIfInBounds_toArray, List.set_cons_zero, List.set_cons_succ]
      refine wpL_pure (.agg (hdV (s + 1) nl nt1).toArray) rfl (run_load_mid _ _ _ 64 _ rfl g7 0 rfl (hdV (s + 1) nl nt1) _ (blk_range' F7.out.2.2.2) Try.underlying64 rfl (by simp only [List.size_toArray, hd_len HN.out] <;> kernel_rfl)) ?_
      simp only [Act.put, List.setIfInBounds_toArray, List.set_cons_zero, List.set_cons_succ]
      refine wpL_call 50 #[.agg (hdV (s + 1) nl nt1).toArray] rfl (by kernel_rfl) ((sector_any _ (s + 1) nl nt1 HN.out HS.out HU.out).mono ?_)
      rintro e V1 ⟨v8, he, bb, ho⟩
      obtain ⟨g8, c8, e8, r8, _, _, m8⟩ := own_slice64 ho (secV_ok HN.out).1
      subst e8
      have A1 : Hid (Fl (Pq lb b gs gm) w V1 ∧ LS V1 lb b fr rm s c nt v ov ∧ DS V1 b gs gm n [] dc2 (S.set (fr + (s + 1) % 2) (blankV O)) fu fz2 false ∧ Blk V1 g7 64 (hdV (s + 1) nl nt1).toArray ∧ Row V1 (some ⟨g8, 0, none⟩) 64 (secV (s + 1) nl nt1) ∧ w.heap.size ≤ g8) := Lib.hid ⟨F7.out.1.trans (Fl.of bb), F7.out.2.1.below bb, F7.out.2.2.1.below bb, F7.out.2.2.2.below bb, r8, Nat.le_trans F7.out.1.2.2.2.1 m8⟩
      clear bb ho r8 m8
      refine ⟨.slice (some ⟨g8, 0, none⟩) 64 c8, he, ?_⟩
      simp only [Act.put, List.setIfInBounds_toArray, List.set_cons_zero, List.set_cons_succ]
      clear he
      refine wpL_call 48 #[.pointer (some ⟨lb, 0, none⟩), .int .i64 ((fr + (s + 1) % 2 : Nat) : Int), .slice (some ⟨g8, 0, none⟩) 64 c8] rfl (by kernel_rfl) ((put_any A1.out.2.1 A1.out.2.2.1 NE.out (fr + (s + 1) % 2) HA.out g8 0 c8 _ A1.out.2.2.2.2.1 (by have l3 := D.out.lts; have := A1.out.2.2.2.2.2; omega)).mono ?_)
      rintro e V2 ⟨O3, hO3, dc3, fz3, hp, f2⟩
      obtain rfl := Option.some.inj (OB.out.symm.trans hO3)
      rcases hp with ⟨q, rfl, d2⟩ | ⟨q, rfl, br, d2⟩ | ⟨rfl, d2⟩
      · have A2 : Hid (Fl (Pq lb b gs gm) w V2 ∧ LS V2 lb b fr rm s c nt v ov) := Lib.hid ⟨A1.out.1.trans (Fl.fd f2 (.inl rfl) (.inr (.inl rfl)) (.inr (.inr (.inl rfl)))), A1.out.2.1.fd f2 NE.out.1 NE.out.2.1 NE.out.2.2⟩
        have D2 := Lib.hid d2
        have Q := Lib.hid q
        clear d2 f2 q A1
        refine ⟨.int .i64 5, rfl, ?_⟩
        simp only [Act.put, List.setIfInBounds_toArray, List.set_cons_zero, List.set_cons_succ]
        refine wpL_pure (.int .i64 5) rfl (by kernel_rfl) ?_
        simp only [Act.put, List.setIfInBounds_toArray, List.set_cons_zero, List.set_cons_succ]
        go_upto_region 11 with (fail)
        refine wp_region_lit ?_
        refine wpL_pure (.int .i64 5) rfl (by kernel_rfl) ?_
        simp only [Act.put, List.setIfInBounds_toArray, List.set_cons_zero, List.set_cons_succ]
        refine wpL_pure (.bool true) rfl (by kernel_rfl) ?_
        simp only [Act.put, List.setIfInBounds_toArray, List.set_cons_zero, List.set_cons_succ]
        go_upto_region 12 with (fail)
        refine wp_region_lit ?_
        refine wpL_pure (.pointer (some ⟨lb, 0, none⟩)) rfl (by kernel_rfl) ?_
        simp only [Act.put, List.setIfInBounds_toArray, List.set_cons_zero, List.set_cons_succ]
        refine wpL_pure (.int .i64 5) rfl (by kernel_rfl) ?_
        simp only [Act.put, List.setIfInBounds_toArray, List.set_cons_zero, List.set_cons_succ]
        refine wpL_call 35 #[.pointer (some ⟨lb, 0, none⟩), .int .i64 5] rfl (by kernel_rfl) ((endD A2.out.2 5).mono ?_)
        rintro e V3 ⟨he, hV3⟩
        have A3 : Hid (Fl (Pq lb b gs gm) w V3 ∧ LS V3 lb b fr rm s c nt v true) := Lib.hid (by rw [hV3]; exact ⟨A2.out.1.trans (Fl.gb (gb_set (gb_refl V2 (some lb)) 22 _) (fun k hk _ => by cases hk; exact .inr (.inr (.inr rfl)))), A2.out.2.over⟩)
        have D3 := Lib.hid (show DS V3 b gs gm n _ dc3 _ fu fz3 true from by rw [hV3]; exact ds_far D2.out (gb_set (gb_refl V2 (some lb)) 22 _) ⟨NE.out.1.symm, NE.out.2.1.symm, NE.out.2.2.symm⟩)
        clear hV3 D2 A2
        refine ⟨.int .i64 5, he, ?_⟩
        simp only [Act.put, List.setIfInBounds_toArray, List.set_cons_zero, List.set_cons_succ]
        clear he
        refine wpL_pure (.int .i64 5) rfl (by kernel_rfl) ?_
        simp only [Act.put, List.setIfInBounds_toArray, List.set_cons_zero, List.set_cons_succ]
        go_wp2_with fail
        go_ret
        exact ⟨O, HO.out, .inr ⟨Q.out, rfl, A3.out.2, _, _, _, _, D3.out, A3.out.1, ⟨blankV O, rfl, blank_ok OO.out.2, .inl ⟨rfl, .inr (harm_blank s _ H.out.2.2.2.2.2)⟩⟩⟩⟩
      · have A2 : Hid (Fl (Pq lb b gs gm) w V2 ∧ LS V2 lb b fr rm s c nt v ov) := Lib.hid ⟨A1.out.1.trans (Fl.fd f2 (.inl rfl) (.inr (.inl rfl)) (.inr (.inr (.inl rfl)))), A1.out.2.1.fd f2 NE.out.1 NE.out.2.1 NE.out.2.2⟩
        have D2 := Lib.hid d2
        have Q := Lib.hid q
        clear d2 f2 q A1
        refine ⟨.int .i64 5, rfl, ?_⟩
        simp only [Act.put, List.setIfInBounds_toArray, List.set_cons_zero, List.set_cons_succ]
        refine wpL_pure (.int .i64 5) rfl (by kernel_rfl) ?_
        simp only [Act.put, List.setIfInBounds_toArray, List.set_cons_zero, List.set_cons_succ]
        go_upto_region 11 with (fail)
        refine wp_region_lit ?_
        refine wpL_pure (.int .i64 5) rfl (by kernel_rfl) ?_
        simp only [Act.put, List.setIfInBounds_toArray, List.set_cons_zero, List.set_cons_succ]
        refine wpL_pure (.bool true) rfl (by kernel_rfl) ?_
        simp only [Act.put, List.setIfInBounds_toArray, List.set_cons_zero, List.set_cons_succ]
        go_upto_region 12 with (fail)
        refine wp_region_lit ?_
        refine wpL_pure (.pointer (some ⟨lb, 0, none⟩)) rfl (by kernel_rfl) ?_
        simp only [Act.put, List.setIfInBounds_toArray, List.set_cons_zero, List.set_cons_succ]
        refine wpL_pure (.int .i64 5) rfl (by kernel_rfl) ?_
        simp only [Act.put, List.setIfInBounds_toArray, List.set_cons_zero, List.set_cons_succ]
        refine wpL_call 35 #[.pointer (some ⟨lb, 0, none⟩), .int .i64 5] rfl (by kernel_rfl) ((endD A2.out.2 5).mono ?_)
        rintro e V3 ⟨he, hV3⟩
        have A3 : Hid (Fl (Pq lb b gs gm) w V3 ∧ LS V3 lb b fr rm s c nt v true) := Lib.hid (by rw [hV3]; exact ⟨A2.out.1.trans (Fl.gb (gb_set (gb_refl V2 (some lb)) 22 _) (fun k hk _ => by cases hk; exact .inr (.inr (.inr rfl)))), A2.out.2.over⟩)
        have D3 := Lib.hid (show DS V3 b gs gm n _ dc3 _ fu fz3 true from by rw [hV3]; exact ds_far D2.out (gb_set (gb_refl V2 (some lb)) 22 _) ⟨NE.out.1.symm, NE.out.2.1.symm, NE.out.2.2.symm⟩)
        clear hV3 D2 A2
        refine ⟨.int .i64 5, he, ?_⟩
        simp only [Act.put, List.setIfInBounds_toArray, List.set_cons_zero, List.set_cons_succ]
        clear he
        refine wpL_pure (.int .i64 5) rfl (by kernel_rfl) ?_
        simp only [Act.put, List.setIfInBounds_toArray, List.set_cons_zero, List.set_cons_succ]
        go_wp2_with fail
        go_ret
        exact ⟨O, HO.out, .inr ⟨Q.out, rfl, A3.out.2, _, _, _, _, D3.out, A3.out.1, ⟨secV (s + 1) nl nt1, by rw [List.set_set], secV_ok HN.out, .inr ⟨blankV O, br, rfl, blank_ok OO.out.2, fun k => torn_whole HN.out HS.out HU.out (blank_ok OO.out.2) (blank_whole O) (harm_blank s _ H.out.2.2.2.2.2) k⟩⟩⟩⟩
      · have A2 : Hid (Fl (Pq lb b gs gm) w V2 ∧ LS V2 lb b fr rm s c nt v ov ∧ DS V2 b gs gm n [] dc3 (S.set (fr + (s + 1) % 2) (secV (s + 1) nl nt1)) fu fz3 false ∧ Blk V2 g7 64 (hdV (s + 1) nl nt1).toArray) := Lib.hid ⟨A1.out.1.trans (Fl.fd f2 (.inl rfl) (.inr (.inl rfl)) (.inr (.inr (.inl rfl)))), A1.out.2.1.fd f2 NE.out.1 NE.out.2.1 NE.out.2.2, by rw [List.set_set] at d2; exact d2, (Fl.fd f2 (p := Pq lb b gs gm) (.inl rfl) (.inr (.inl rfl)) (.inr (.inr (.inl rfl)))).blk A1.out.2.2.2.1 (by have l3 := D.out.lts; have l4 := H.out.1.lt; have := LG7.out; rintro (e | e | e | e) <;> omega)⟩
        clear d2 f2 A1
        refine ⟨.int .i64 0, rfl, ?_⟩
        simp only [Act.put, List.setIfInBounds_toArray, List.set_cons_zero, List.set_cons_succ]
        refine wpL_pure (.int .i64 0) rfl (by kernel_rfl) ?_
        simp only [Act.put, List.setIfInBounds_toArray, List.set_cons_zero, List.set_cons_succ]
        go_upto_region 11 with (fail)
        refine wp_region_lit ?_
        refine wpL_pure (.int .i64 0) rfl (by kernel_rfl) ?_
        simp only [Act.put, List.setIfInBounds_toArray, List.set_cons_zero, List.set_cons_succ]
        refine wpL_pure (.bool false) rfl (by kernel_rfl) ?_
        simp only [Act.put, List.setIfInBounds_toArray, List.set_cons_zero, List.set_cons_succ]
        go_upto_region 13 with (fail)
        refine wp_region_lit ?_
        refine wpL_pure (.pointer (some ⟨lb, 0, none⟩)) rfl (by kernel_rfl) ?_
        simp only [Act.put, List.setIfInBounds_toArray, List.set_cons_zero, List.set_cons_succ]
        refine wpL_pure (.pointer (some ⟨lb, 0, none⟩)) rfl (by kernel_rfl) ?_
        simp only [Act.put, List.setIfInBounds_toArray, List.set_cons_zero, List.set_cons_succ]
        refine wpL_pure (.agg (hdV (s + 1) nl nt1).toArray) rfl (run_load_mid _ _ _ 64 _ rfl g7 0 rfl (hdV (s + 1) nl nt1) _ (blk_range' A2.out.2.2.2) Try.underlying64 rfl (by simp only [List.size_toArray, hd_len HN.out] <;> kernel_rfl)) ?_
        simp only [Act.put, List.setIfInBounds_toArray, List.set_cons_zero, List.set_cons_succ]
        refine wpL_pure (.slice na nl nc) rfl (by kernel_rfl) ?_
        simp only [Act.put, List.setIfInBounds_toArray, List.set_cons_zero, List.set_cons_succ]
        refine wpL_pure (.pointer (some ⟨lb, 0, none⟩)) rfl (by kernel_rfl) ?_
        simp only [Act.put, List.setIfInBounds_toArray, List.set_cons_zero, List.set_cons_succ]
        refine wpL_pure (.pointer (some ⟨lb, 3, none⟩)) rfl (by kernel_rfl) ?_
        simp only [Act.put, List.setIfInBounds_toArray, List.set_cons_zero, List.set_cons_succ]
        obtain ⟨V3, h3, t3, b3, q3⟩ := store_head V2 lb b fr rm s c nt v ov (s + 1) nl nt1 A2.out.2.1 HN.out HS.out HU.out
        refine wpList_store_mid rfl 64 _ _ rfl lb 3 (hdV (s + 1) nl nt1).toArray rfl rfl (by rw [show (hdV (s + 1) nl nt1).toArray.size = 18 by rw [List.size_toArray, hd_len HN.out]]; exact t3) (by simp only [List.size_toArray, hd_len HN.out] <;> kernel_rfl) (hd_one _ _ _) ?_
        simp only [Act.put, List.setIfInBounds_toArray, List.set_cons_zero, List.set_cons_succ]
        rw [show V2.setCells lb 3 (hdV (s + 1) nl nt1).toArray.toList = V3 from h3.symm]
        have A3 : Hid (Fl (Pq lb b gs gm) w V3 ∧ LS V3 lb b fr rm (s + 1) nl nt1 v ov ∧ DS V3 b gs gm n [] dc3 (S.set (fr + (s + 1) % 2) (secV (s + 1) nl nt1)) fu fz3 false) := Lib.hid ⟨A2.out.1.trans (Fl.gb q3 (fun k hk _ => by cases hk; exact .inr (.inr (.inr rfl)))), b3, ds_far A2.out.2.2.1 q3 ⟨NE.out.1.symm, NE.out.2.1.symm, NE.out.2.2.symm⟩⟩
        clear b3 q3 A2 h3 t3
        refine wpL_pure (.pointer (some ⟨lb, 0, none⟩)) rfl (by kernel_rfl) ?_
        simp only [Act.put, List.setIfInBounds_toArray, List.set_cons_zero, List.set_cons_succ]
        refine wpL_pure (.pointer (some ⟨lb, 21, none⟩)) rfl (by kernel_rfl) ?_
        simp only [Act.put, List.setIfInBounds_toArray, List.set_cons_zero, List.set_cons_succ]
        refine wpL_store_one rfl rfl (lb) (21) rfl (.slice na nl nc) rfl rfl size26 (by rw [A3.out.2.1.c21]; rfl) (A3.out.2.1.1.free 21) ?_
        simp only [Act.put, List.setIfInBounds_toArray, List.set_cons_zero, List.set_cons_succ]
        obtain ⟨V4, hV4⟩ : ∃ V, V = V3.setCell ⟨lb, 21, none⟩ (.slice na nl nc) := ⟨_, rfl⟩
        rw [← hV4]
        have A4 : Hid (Fl (Pq lb b gs gm) w V4 ∧ LS V4 lb b fr rm (s + 1) nl nt1 (.slice na nl nc) ov ∧ DS V4 b gs gm n [] dc3 (S.set (fr + (s + 1) % 2) (secV (s + 1) nl nt1)) fu fz3 false) := Lib.hid (by rw [hV4]; exact ⟨A3.out.1.trans (Fl.gb (gb_set (gb_refl V3 (some lb)) 21 _) (fun k hk _ => by cases hk; exact .inr (.inr (.inr rfl)))), A3.out.2.1.bytes _, ds_far A3.out.2.2 (gb_set (gb_refl V3 (some lb)) 21 _) ⟨NE.out.1.symm, NE.out.2.1.symm, NE.out.2.2.symm⟩⟩)
        clear hV4 A3
        go_upto_region 14 with (fail)
        refine wp_region_lit ?_
        refine wpL_pure (.int .i64 0) rfl (by kernel_rfl) ?_
        simp only [Act.put, List.setIfInBounds_toArray, List.set_cons_zero, List.set_cons_succ]
        go_wp2_with fail
        go_ret
        exact ⟨O, HO.out, .inl ⟨rfl, _, _, A4.out.2.1, A4.out.2.2, A4.out.1⟩⟩
end Go.Proofs.Yteabblmhcjpboaa.D
