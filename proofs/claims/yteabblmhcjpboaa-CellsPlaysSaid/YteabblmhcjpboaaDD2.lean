import Derived.Test.YteabblmhcjpboaaDD1
import Derived.Laws.IdiomCopy
namespace Go.Proofs.Yteabblmhcjpboaa.D
open Go Go.RowKit
set_option maxRecDepth 100000
/-- a list with others laid over it. -/
def spl (l : List Value) (o : Nat) : List Value → List Value
  | [] => l
  | v :: vs => spl (l.set o v) (o + 1) vs
theorem spl_len : ∀ (vs l : List Value) (o : Nat), (spl l o vs).length = l.length
  | [], l, o => rfl
  | v :: vs, l, o => by rw [spl, spl_len]; simp
theorem spl_get : ∀ (vs l : List Value) (o j : Nat), (spl l o vs)[j]? = if o ≤ j ∧ j < o + vs.length ∧ j < l.length then vs[j - o]? else l[j]?
  | [], l, o, j => by rw [spl, if_neg (by simp; omega)]
  | v :: vs, l, o, j => by
    rw [spl, spl_get vs (l.set o v) (o + 1) j, List.length_set, List.length_cons, List.getElem?_set]
    by_cases h1 : o = j
    · subst h1
      rw [if_neg (by omega), if_pos rfl]
      by_cases h2 : o < l.length
      · rw [if_pos (by omega), Nat.sub_self]; simp [h2]
      · rw [if_neg (by omega)]; simp [h2]
    · rw [if_neg h1]
      by_cases h2 : o + 1 ≤ j ∧ j < o + 1 + vs.length ∧ j < l.length
      · rw [if_pos h2, if_pos (by omega)]
        have e : j - o = (j - (o + 1)) + 1 := by omega
        rw [e, List.getElem?_cons_succ]
      · rw [if_neg h2, if_neg (by omega)]
theorem blk_setCells : ∀ (vs : List Value) (l : List Value) (o : Nat) (w : World) {g t : Nat}, Blk w g t l.toArray → Blk (w.setCells g o vs) g t (spl l o vs).toArray
  | [], _, _, _, _, _, h => h
  | v :: vs, _, o, _, _, _, h => blk_setCells vs _ (o + 1) _ (h.set o v)
theorem gb_setCells : ∀ (vs : List Value) (o : Nat) (w : World) (g : Nat), w.grownBy (w.setCells g o vs) (some g)
  | [], _, w, _ => gb_refl w _
  | v :: vs, o, w, g => gb_trans (gb_set (gb_refl w (some g)) o v) (gb_setCells vs (o + 1) _ g)

def DSt (w : World) (b gs gm n : Nat) (es : Array MapEntry) (c : Nat) (S : List (List Int)) : Prop :=
  Blk w b 62 #[.slice (some ⟨gs, 0, none⟩) n n, .map (some gm), .bool false, .int .i64 0, .bool false] ∧ Blk w gs 77 (S.flatten.map (Value.int .u8)).toArray ∧ w.heap[gm]? = some (.map es c) ∧ S.length = n ∧ n ≤ 200 ∧ (∀ s ∈ S, s.length = 64 ∧ ∀ x ∈ s, 0 ≤ x ∧ x ≤ 255) ∧ gm < w.heap.size
def Fr (gs gm : Nat) (w w' : World) : Prop := w'.os = w.os ∧ w'.tape = w.tape ∧ w'.output = w.output ∧ w.heap.size ≤ w'.heap.size ∧ ∀ k, k < w.heap.size → k ≠ gs → k ≠ gm → w'.heap[k]? = w.heap[k]?
theorem Fr.of {gs gm : Nat} {w w' : World} (h : Below w.heap.size w w') : Fr gs gm w w' := ⟨h.os, h.tape, h.output, h.size, fun k hk _ _ => h.block k hk⟩
theorem Fr.upd {gs gm : Nat} {w w' : World} (h : Fr gs gm w w') (o : Obj) : Fr gs gm w (setMap w' gm o) := by
  have q := setMap_gb w' gm o
  exact ⟨q.os.trans h.1, q.tape.trans h.2.1, q.output.trans h.2.2.1, Nat.le_trans h.2.2.2.1 q.size, fun k hk h1 h2 => (q.block k (Nat.lt_of_lt_of_le hk h.2.2.2.1) (by simpa using h2)).trans (h.2.2.2.2 k hk h1 h2)⟩
theorem Fr.cells {gs gm : Nat} {w w' : World} (h : Fr gs gm w w') (o : Nat) (vs : List Value) : Fr gs gm w (w'.setCells gs o vs) := by
  have q := gb_setCells vs o w' gs
  exact ⟨q.os.trans h.1, q.tape.trans h.2.1, q.output.trans h.2.2.1, Nat.le_trans h.2.2.2.1 q.size, fun k hk h1 h2 => (q.block k (Nat.lt_of_lt_of_le hk h.2.2.2.1) (by simpa using h1)).trans (h.2.2.2.2 k hk h1 h2)⟩
theorem Fr.drewF {gs gm : Nat} {w w' : World} (h : Fr gs gm w w') : Fr gs gm w w'.drew := by
  have q := Below.drew (Below.refl 0 w')
  exact ⟨q.os.trans h.1, q.tape.trans h.2.1, q.output.trans h.2.2.1, h.2.2.2.1, h.2.2.2.2⟩
theorem Row.drewR {w : World} {a : Option Addr} {n : Nat} {xs : List Int} (h : Row w a n xs) : Row w.drew a n xs := h
theorem DSt.below {w w' : World} {b gs gm n c : Nat} {es : Array MapEntry} {S : List (List Int)} (h : DSt w b gs gm n es c S) (hb : Below w.heap.size w w') : DSt w' b gs gm n es c S :=
  ⟨h.1.below hb, h.2.1.below hb, (hb.block _ h.2.2.2.2.2.2).trans h.2.2.1, h.2.2.2.1, h.2.2.2.2.1, h.2.2.2.2.2.1, Nat.lt_of_lt_of_le h.2.2.2.2.2.2 hb.size⟩
theorem DSt.drewD {w : World} {b gs gm n c : Nat} {es : Array MapEntry} {S : List (List Int)} (h : DSt w b gs gm n es c S) : DSt w.drew b gs gm n es c S := h
theorem DSt.ne {w : World} {b gs gm n c : Nat} {es : Array MapEntry} {S : List (List Int)} (h : DSt w b gs gm n es c S) : b ≠ gs ∧ b ≠ gm ∧ gs ≠ gm := by
  refine ⟨?_, ?_, ?_⟩
  · rintro rfl
    have h1 := h.1; have h2 := h.2.1
    unfold Blk at h1 h2
    rw [h1] at h2
    simp at h2
  · rintro rfl
    have h1 := h.1; have h2 := h.2.2.1
    unfold Blk at h1
    rw [h1] at h2
    simp at h2
  · rintro rfl
    have h1 := h.2.1; have h2 := h.2.2.1
    unfold Blk at h1
    rw [h1] at h2
    simp at h2
theorem DSt.upd {w : World} {b gs gm n c : Nat} {es : Array MapEntry} {S : List (List Int)} (h : DSt w b gs gm n es c S) (es' : Array MapEntry) (c' : Nat) : DSt (setMap w gm (.map es' c')) b gs gm n es' c' S := by
  have q := setMap_gb w gm (.map es' c')
  exact ⟨h.1.grown q (by simpa using h.ne.2.1), h.2.1.grown q (by simpa using h.ne.2.2), setMap_at _ _ _ h.2.2.2.2.2.2, h.2.2.2.1, h.2.2.2.2.1, h.2.2.2.2.2.1, Nat.lt_of_lt_of_le h.2.2.2.2.2.2 q.size⟩
theorem flat64 : ∀ (S : List (List Int)) (j : Nat), (∀ s ∈ S, s.length = 64) → S.flatten[j]? = (S[j / 64]?).bind (fun s => s[j % 64]?)
  | [], j, _ => by simp
  | s :: S, j, h => by
    have hs := h s (by simp)
    rw [List.flatten_cons]
    by_cases hj : j < 64
    · rw [List.getElem?_append_left (by omega), Nat.div_eq_of_lt hj, Nat.mod_eq_of_lt hj]; rfl
    · rw [List.getElem?_append_right (by omega), hs, flat64 S (j - 64) (fun s hs => h s (by simp [hs]))]
      have e1 : j / 64 = (j - 64) / 64 + 1 := by omega
      have e2 : j % 64 = (j - 64) % 64 := by omega
      rw [e1, e2, List.getElem?_cons_succ]
theorem flat64_len : ∀ (S : List (List Int)), (∀ s ∈ S, s.length = 64) → S.flatten.length = S.length * 64
  | [], _ => rfl
  | s :: S, h => by rw [List.flatten_cons, List.length_append, h s (by simp), flat64_len S (fun s hs => h s (by simp [hs])), List.length_cons]; omega
theorem set64 (S : List (List Int)) (i : Nat) (xs : List Int) (hS : ∀ s ∈ S, s.length = 64) (hi : i < S.length) (hx : xs.length = 64) :
    spl (S.flatten.map (Value.int .u8)) (i * 64) (xs.map (Value.int .u8)) = (S.set i xs).flatten.map (Value.int .u8) := by
  have hS' : ∀ s ∈ S.set i xs, s.length = 64 := fun s hs => by
    rcases List.mem_or_eq_of_mem_set hs with h | rfl
    · exact hS s h
    · exact hx
  apply List.ext_getElem?
  intro j
  rw [spl_get, List.length_map, List.length_map, flat64_len S hS, hx, List.getElem?_map, List.getElem?_map, List.getElem?_map, flat64 _ j hS', flat64 S j hS, List.getElem?_set]
  by_cases h1 : i * 64 ≤ j ∧ j < i * 64 + 64 ∧ j < S.length * 64
  · have e1 : j / 64 = i := by omega
    have e2 : j % 64 = j - i * 64 := by omega
    rw [if_pos h1, e1, e2, if_pos rfl, if_pos hi]; rfl
  · rw [if_neg h1]
    by_cases h2 : i = j / 64
    · exfalso; omega
    · rw [if_neg h2]
theorem DSt.put {w : World} {b gs gm n c : Nat} {es : Array MapEntry} {S : List (List Int)} {xs : List Int} (h : DSt w b gs gm n es c S) (i : Nat) (hi : i < n) (hx : xs.length = 64) (hb : ∀ x ∈ xs, 0 ≤ x ∧ x ≤ 255) : DSt (w.setCells gs (i * 64) (xs.map (Value.int .u8))) b gs gm n es c (S.set i xs) := by
  have q := gb_setCells (xs.map (Value.int .u8)) (i * 64) w gs
  refine ⟨h.1.grown q (by simpa using h.ne.1), ?_, (q.block _ h.2.2.2.2.2.2 (by simpa using h.ne.2.2.symm)).trans h.2.2.1, by simpa using h.2.2.2.1, h.2.2.2.2.1, fun s hs => ?_, Nat.lt_of_lt_of_le h.2.2.2.2.2.2 q.size⟩
  · rw [← set64 S i xs (fun s hs => (h.2.2.2.2.2.1 s hs).1) (by rw [h.2.2.2.1]; exact hi) hx]
    exact blk_setCells _ _ _ _ h.2.1
  · rcases List.mem_or_eq_of_mem_set hs with hs | rfl
    · exact h.2.2.2.2.2.1 s hs
    · exact ⟨hx, hb⟩
theorem sec_cell {w : World} {b gs gm n c : Nat} {es : Array MapEntry} {S : List (List Int)} {s0 : List Int} {i : Nat} (h : DSt w b gs gm n es c S) (hs : S[i]? = some s0) (j : Nat) (hj : j < 64) : w.cell? ⟨gs, i * 64 + j, none⟩ = some (.int .u8 (s0.getD j 0)) := by
  have hl := (h.2.2.2.2.2.1 s0 (List.mem_of_getElem? hs)).1
  rw [h.2.1.cell, List.getElem?_toArray, List.getElem?_map, flat64 S _ (fun s hs => (h.2.2.2.2.2.1 s hs).1)]
  have e1 : (i * 64 + j) / 64 = i := by omega
  have e2 : (i * 64 + j) % 64 = j := by omega
  rw [e1, e2, hs]
  simp [List.getD, List.getElem?_eq_getElem (show j < s0.length by omega)]
theorem sec_row {w : World} {b gs gm n c : Nat} {es : Array MapEntry} {S : List (List Int)} {s0 : List Int} {i : Nat} (h : DSt w b gs gm n es c S) (hs : S[i]? = some s0) : Row w (some ⟨gs, i * 64, none⟩) 64 s0 :=
  ⟨(h.2.2.2.2.2.1 s0 (List.mem_of_getElem? hs)).1, by simp [maxLen], (h.2.2.2.2.2.1 s0 (List.mem_of_getElem? hs)).2, fun j hj => ⟨_, _, rfl, sec_cell h hs j hj⟩⟩
theorem row_range {w : World} {g o n : Nat} {xs : List Int} (h : Row w (some ⟨g, o, none⟩) n xs) : w.rangeAt g o (xs.map (Value.int .u8)) := by
  intro j v hv
  rw [List.getElem?_map] at hv
  have hj : j < xs.length := by
    rcases Nat.lt_or_ge j xs.length with q | q
    · exact q
    · rw [List.getElem?_eq_none q] at hv; cases hv
  obtain ⟨g', o', e, hc⟩ := h.2.2.2 j (by rw [← h.1]; exact hj)
  simp only [Option.some.injEq, Addr.mk.injEq, and_true] at e
  obtain ⟨rfl, rfl⟩ := e
  rw [hc, ← hv, List.getElem?_eq_getElem hj]
  simp [List.getD, List.getElem?_eq_getElem hj]
theorem sec_range {w : World} {b gs gm n c : Nat} {es : Array MapEntry} {S : List (List Int)} {s0 : List Int} {i : Nat} (h : DSt w b gs gm n es c S) (hs : S[i]? = some s0) : w.rangeAt gs (i * 64) (s0.map (Value.int .u8)) := row_range (sec_row h hs)
theorem sec_there {w : World} {b gs gm n c : Nat} {es : Array MapEntry} {S : List (List Int)} {i : Nat} (h : DSt w b gs gm n es c S) (hi : i < n) : w.there gs (i * 64) 64 := fun j hj => by
  obtain ⟨s0, hs⟩ : ∃ s, S[i]? = some s := ⟨_, List.getElem?_eq_getElem (by rw [h.2.2.2.1]; exact hi)⟩
  exact ⟨by rw [sec_cell h hs j hj]; rfl, h.2.1.free _⟩
theorem sz53 {xs : List Int} (h : xs.length = 64) : (Try.prog.info? 77).map (·.size) = some (xs.map (Value.int .u8)).length := by rw [List.length_map, h]; kernel_rfl
theorem sz53' {xs : List Int} (h : xs.length = 64) : (Try.prog.info? 77).map (·.size) = some (xs.map (Value.int .u8)).toArray.size := by rw [List.size_toArray]; exact sz53 h
theorem all8 (xs : List Int) : (xs.map (Value.int .u8)).toArray.all (·.oneCell') = true := all_oneCell_toArray (by intro v hv; obtain ⟨x, _, rfl⟩ := List.mem_map.1 hv; rfl)
theorem run_idxs (a : Act) (o : Oper) (w : World) (x i : Operand) (gs n c k : Nat) (ho : o.op = .indexAddr 59 x i) (hx : a.eval x = .slice (some ⟨gs, 0, none⟩) n c) (hi : a.eval i = .int .i64 (k : Int)) (hk : k < n) (hn : n ≤ 200) : (execOp a.eval o).run Try.prog w = .ok (.value (.pointer (some ⟨gs, k * 64, none⟩))) w := by
  have j0 : (0 : Int) ≤ (k : Int) := by omega
  have j6 : (k : Int) < (n : Int) := by omega
  unfold execOp
  simp only [ho, hx, hi]
  go_simp
theorem run_s2a (a : Act) (o : Oper) (w : World) (x : Operand) (g off n c : Nat) (ho : o.op = .sliceToArrayPointer 77 x) (hx : a.eval x = .slice (some ⟨g, off, none⟩) n c) (hn : 64 ≤ n) : (execOp a.eval o).run Try.prog w = .ok (.value (.pointer (some ⟨g, off, none⟩))) w := by
  have j0 : ¬ n < 64 := by omega
  unfold execOp
  simp only [ho, hx]
  go_simp
  try simp [Instr.arrayAt, run_underlying Try.underlying77, hn, j0]
theorem run_slarr (a : Act) (o : Oper) (w : World) (x : Operand) (g off : Nat) (ho : o.op = .slice 77 x none none none) (hx : a.eval x = .pointer (some ⟨g, off, none⟩)) : (execOp a.eval o).run Try.prog w = .ok (.value (.slice (some ⟨g, off, none⟩) 64 64)) w := by
  unfold execOp
  simp only [ho, hx]
  go_simp
theorem has_any (w : World) (b gs gm n : Nat) (es : Array MapEntry) (c : Nat) (S : List (List Int)) (i : Nat) (h : DSt w b gs gm n es c S) (hi : i < n) : Calls Try.prog 38 #[.pointer (some ⟨b, 0, none⟩), .int .i64 (i : Int)] w fun e w' => e = .returned (.bool true) ∧ w = w' := by
  have c0 : w.cell? ⟨b, 0, none⟩ = some (.slice (some ⟨gs, 0, none⟩) n n) := by rw [h.1.cell]; rfl
  have j0 : (0 : Int) ≤ (i : Int) := by omega
  have j1 : (i : Int) < (n : Int) := by omega
  clear h
  go_enter Try.func38, Try.ntmps38
  go_wp2
  go_ret
  exact ⟨rfl, rfl⟩
theorem may_any (w : World) (b gs gm n : Nat) (es : Array MapEntry) (c : Nat) (S : List (List Int)) (h : DSt w b gs gm n es c S) : Calls Try.prog 39 #[.pointer (some ⟨b, 0, none⟩)] w fun e w' => e = .returned (.bool true) ∧ w = w' := by
  have c2 : w.cell? ⟨b, 2, none⟩ = some (.bool false) := by rw [h.1.cell]; rfl
  have c4 : w.cell? ⟨b, 4, none⟩ = some (.bool false) := by rw [h.1.cell]; rfl
  clear h
  go_enter Try.func39, Try.ntmps39
  go_wp2
  go_ret
  exact ⟨rfl, rfl⟩
set_option maxHeartbeats 2000000 in
/-- (d *Disk) Write, the first one. -/
theorem write_any (w : World) (b gs gm n c : Nat) (S : List (List Int)) (i gx ox cx : Nat) (xs : List Int) (h : DSt w b gs gm n #[] c S) (hi : i < n) (hr : Row w (some ⟨gx, ox, none⟩) 64 xs) (ng : gx ≠ gs ∧ gx ≠ gm) :
    Calls Try.prog 16 #[.pointer (some ⟨b, 0, none⟩), .int .i64 (i : Int), .slice (some ⟨gx, ox, none⟩) 64 cx] w fun e w' => e = .returned (.int .i64 0) ∧ ∃ es, es.size = 1 ∧ DSt w' b gs gm n es (c + 1) (S.set i xs) ∧ Fr gs gm w w' := by
  obtain ⟨s0, hs⟩ : ∃ s, S[i]? = some s := ⟨_, List.getElem?_eq_getElem (by rw [h.2.2.2.1]; exact hi)⟩
  have HS := Lib.hid hs
  have HS2 := Lib.hid (h.2.2.2.2.2.1 s0 (List.mem_of_getElem? hs)).1
  have HN := Lib.hid h.2.2.2.2.1
  have HD := Lib.hid h
  have HI := Lib.hid hi
  have HR := Lib.hid hr
  have HX64 := Lib.hid hr.1
  have NG := Lib.hid ng
  clear h hi hr ng hs
  go_enter Try.func16, Try.ntmps16
  go_upto_region 1 with (fail)
  refine wp_region_lit ?_
  refine wpL_pure (.pointer (some ⟨b, 0, none⟩)) rfl (by kernel_rfl) ?_
  simp only [Act.put, List.setIfInBounds_toArray, List.set_cons_zero, List.set_cons_succ]
  refine wpL_pure (.int .i64 (i : Int)) rfl (by kernel_rfl) ?_
  simp only [Act.put, List.setIfInBounds_toArray, List.set_cons_zero, List.set_cons_succ]
  refine wpL_call 38 #[.pointer (some ⟨b, 0, none⟩), .int .i64 (i : Int)] rfl (by kernel_rfl) ((has_any w b gs gm n _ _ _ i HD.out HI.out).mono fun e w9 ⟨he, hx⟩ => ⟨.bool true, he, ?_⟩)
  simp only [Act.put, List.setIfInBounds_toArray, List.set_cons_zero, List.set_cons_succ]
  subst hx
  refine wpL_pure (.bool false) rfl (by kernel_rfl) ?_
  simp only [Act.put, List.setIfInBounds_toArray, List.set_cons_zero, List.set_cons_succ]
  refine wpL_pure (.bool false) rfl (by kernel_rfl) ?_
  simp only [Act.put, List.setIfInBounds_toArray, List.set_cons_zero, List.set_cons_succ]
  refine wpL_pure (.slice (some ⟨gx, ox, none⟩) 64 cx) rfl (by kernel_rfl) ?_
  simp only [Act.put, List.setIfInBounds_toArray, List.set_cons_zero, List.set_cons_succ]
  refine wpL_pure (.int .i64 64) rfl (by kernel_rfl) ?_
  simp only [Act.put, List.setIfInBounds_toArray, List.set_cons_zero, List.set_cons_succ]
  refine wpL_pure (.bool false) rfl (run_nei Try.underlying3 rfl rfl rfl (by decide)) ?_
  simp only [Act.put, List.setIfInBounds_toArray, List.set_cons_zero, List.set_cons_succ]
  refine wpL_pure (.bool false) rfl (by kernel_rfl) ?_
  simp only [Act.put, List.setIfInBounds_toArray, List.set_cons_zero, List.set_cons_succ]
  refine wpL_pure (.bool false) rfl (by kernel_rfl) ?_
  simp only [Act.put, List.setIfInBounds_toArray, List.set_cons_zero, List.set_cons_succ]
  go_upto_region 3 with (fail)
  refine wp_region_lit ?_
  refine wpL_pure (.pointer (some ⟨b, 0, none⟩)) rfl (by kernel_rfl) ?_
  simp only [Act.put, List.setIfInBounds_toArray, List.set_cons_zero, List.set_cons_succ]
  refine wpL_call 39 #[.pointer (some ⟨b, 0, none⟩)] rfl (by kernel_rfl) ((may_any w b gs gm n _ _ _ HD.out).mono fun e w9 ⟨he, hx⟩ => ⟨.bool true, he, ?_⟩)
  simp only [Act.put, List.setIfInBounds_toArray, List.set_cons_zero, List.set_cons_succ]
  subst hx
  refine wpL_pure (.bool false) rfl (by kernel_rfl) ?_
  simp only [Act.put, List.setIfInBounds_toArray, List.set_cons_zero, List.set_cons_succ]
  refine wpL_pure (.bool false) rfl (by kernel_rfl) ?_
  simp only [Act.put, List.setIfInBounds_toArray, List.set_cons_zero, List.set_cons_succ]
  go_upto_region 5 with (fail)
  refine wp_region_lit ?_
  refine wpL_pure (.pointer (some ⟨b, 0, none⟩)) rfl (by kernel_rfl) ?_
  simp only [Act.put, List.setIfInBounds_toArray, List.set_cons_zero, List.set_cons_succ]
  refine wpL_pure (.pointer (some ⟨b, 0, none⟩)) rfl (by kernel_rfl) ?_
  simp only [Act.put, List.setIfInBounds_toArray, List.set_cons_zero, List.set_cons_succ]
  refine wpL_pure (.pointer (some ⟨b, 1, none⟩)) rfl (by kernel_rfl) ?_
  simp only [Act.put, List.setIfInBounds_toArray, List.set_cons_zero, List.set_cons_succ]
  refine wpL_pure (.map (some gm)) rfl (run_load_one _ _ _ 60 _ _ rfl b 1 rfl (by rw [HD.out.1.cell]; rfl) (by kernel_rfl)) ?_
  simp only [Act.put, List.setIfInBounds_toArray, List.set_cons_zero, List.set_cons_succ]
  refine wpL_pure (.int .i64 (i : Int)) rfl (by kernel_rfl) ?_
  simp only [Act.put, List.setIfInBounds_toArray, List.set_cons_zero, List.set_cons_succ]
  refine wpL_pure (.tuple #[.agg #[.int .u8 0, .int .u8 0, .int .u8 0, .int .u8 0, .int .u8 0, .int .u8 0, .int .u8 0, .int .u8 0, .int .u8 0, .int .u8 0, .int .u8 0, .int .u8 0, .int .u8 0, .int .u8 0, .int .u8 0, .int .u8 0, .int .u8 0, .int .u8 0, .int .u8 0, .int .u8 0, .int .u8 0, .int .u8 0, .int .u8 0, .int .u8 0, .int .u8 0, .int .u8 0, .int .u8 0, .int .u8 0, .int .u8 0, .int .u8 0, .int .u8 0, .int .u8 0, .int .u8 0, .int .u8 0, .int .u8 0, .int .u8 0, .int .u8 0, .int .u8 0, .int .u8 0, .int .u8 0, .int .u8 0, .int .u8 0, .int .u8 0, .int .u8 0, .int .u8 0, .int .u8 0, .int .u8 0, .int .u8 0, .int .u8 0, .int .u8 0, .int .u8 0, .int .u8 0, .int .u8 0, .int .u8 0, .int .u8 0, .int .u8 0, .int .u8 0, .int .u8 0, .int .u8 0, .int .u8 0, .int .u8 0, .int .u8 0, .int .u8 0, .int .u8 0], .bool false]) rfl (run_lookup0 _ _ _ _ _ gm c _ rfl rfl rfl HD.out.2.2.1) ?_
  simp only [Act.put, List.setIfInBounds_toArray, List.set_cons_zero, List.set_cons_succ]
  refine wpL_pure (.tuple #[.agg #[.int .u8 0, .int .u8 0, .int .u8 0, .int .u8 0, .int .u8 0, .int .u8 0, .int .u8 0, .int .u8 0, .int .u8 0, .int .u8 0, .int .u8 0, .int .u8 0, .int .u8 0, .int .u8 0, .int .u8 0, .int .u8 0, .int .u8 0, .int .u8 0, .int .u8 0, .int .u8 0, .int .u8 0, .int .u8 0, .int .u8 0, .int .u8 0, .int .u8 0, .int .u8 0, .int .u8 0, .int .u8 0, .int .u8 0, .int .u8 0, .int .u8 0, .int .u8 0, .int .u8 0, .int .u8 0, .int .u8 0, .int .u8 0, .int .u8 0, .int .u8 0, .int .u8 0, .int .u8 0, .int .u8 0, .int .u8 0, .int .u8 0, .int .u8 0, .int .u8 0, .int .u8 0, .int .u8 0, .int .u8 0, .int .u8 0, .int .u8 0, .int .u8 0, .int .u8 0, .int .u8 0, .int .u8 0, .int .u8 0, .int .u8 0, .int .u8 0, .int .u8 0, .int .u8 0, .int .u8 0, .int .u8 0, .int .u8 0, .int .u8 0, .int .u8 0], .bool false]) rfl (by kernel_rfl) ?_
  simp only [Act.put, List.setIfInBounds_toArray, List.set_cons_zero, List.set_cons_succ]
  refine wpL_pure (.agg #[.int .u8 0, .int .u8 0, .int .u8 0, .int .u8 0, .int .u8 0, .int .u8 0, .int .u8 0, .int .u8 0, .int .u8 0, .int .u8 0, .int .u8 0, .int .u8 0, .int .u8 0, .int .u8 0, .int .u8 0, .int .u8 0, .int .u8 0, .int .u8 0, .int .u8 0, .int .u8 0, .int .u8 0, .int .u8 0, .int .u8 0, .int .u8 0, .int .u8 0, .int .u8 0, .int .u8 0, .int .u8 0, .int .u8 0, .int .u8 0, .int .u8 0, .int .u8 0, .int .u8 0, .int .u8 0, .int .u8 0, .int .u8 0, .int .u8 0, .int .u8 0, .int .u8 0, .int .u8 0, .int .u8 0, .int .u8 0, .int .u8 0, .int .u8 0, .int .u8 0, .int .u8 0, .int .u8 0, .int .u8 0, .int .u8 0, .int .u8 0, .int .u8 0, .int .u8 0, .int .u8 0, .int .u8 0, .int .u8 0, .int .u8 0, .int .u8 0, .int .u8 0, .int .u8 0, .int .u8 0, .int .u8 0, .int .u8 0, .int .u8 0, .int .u8 0]) rfl (by kernel_rfl) ?_
  simp only [Act.put, List.setIfInBounds_toArray, List.set_cons_zero, List.set_cons_succ]
  refine wpL_pure (.bool false) rfl (by kernel_rfl) ?_
  simp only [Act.put, List.setIfInBounds_toArray, List.set_cons_zero, List.set_cons_succ]
  refine wpL_value (.pointer (some ⟨w.heap.size, 0, none⟩)) (w.alloc (.cells #[.int .u8 0, .int .u8 0, .int .u8 0, .int .u8 0, .int .u8 0, .int .u8 0, .int .u8 0, .int .u8 0, .int .u8 0, .int .u8 0, .int .u8 0, .int .u8 0, .int .u8 0, .int .u8 0, .int .u8 0, .int .u8 0, .int .u8 0, .int .u8 0, .int .u8 0, .int .u8 0, .int .u8 0, .int .u8 0, .int .u8 0, .int .u8 0, .int .u8 0, .int .u8 0, .int .u8 0, .int .u8 0, .int .u8 0, .int .u8 0, .int .u8 0, .int .u8 0, .int .u8 0, .int .u8 0, .int .u8 0, .int .u8 0, .int .u8 0, .int .u8 0, .int .u8 0, .int .u8 0, .int .u8 0, .int .u8 0, .int .u8 0, .int .u8 0, .int .u8 0, .int .u8 0, .int .u8 0, .int .u8 0, .int .u8 0, .int .u8 0, .int .u8 0, .int .u8 0, .int .u8 0, .int .u8 0, .int .u8 0, .int .u8 0, .int .u8 0, .int .u8 0, .int .u8 0, .int .u8 0, .int .u8 0, .int .u8 0, .int .u8 0, .int .u8 0] 77)) rfl (by kernel_rfl) ?_
  simp only [Act.put, List.setIfInBounds_toArray, List.set_cons_zero, List.set_cons_succ]
  refine wpList_store_row rfl 77 _ _ rfl (w.heap.size) (#[.int .u8 0, .int .u8 0, .int .u8 0, .int .u8 0, .int .u8 0, .int .u8 0, .int .u8 0, .int .u8 0, .int .u8 0, .int .u8 0, .int .u8 0, .int .u8 0, .int .u8 0, .int .u8 0, .int .u8 0, .int .u8 0, .int .u8 0, .int .u8 0, .int .u8 0, .int .u8 0, .int .u8 0, .int .u8 0, .int .u8 0, .int .u8 0, .int .u8 0, .int .u8 0, .int .u8 0, .int .u8 0, .int .u8 0, .int .u8 0, .int .u8 0, .int .u8 0, .int .u8 0, .int .u8 0, .int .u8 0, .int .u8 0, .int .u8 0, .int .u8 0, .int .u8 0, .int .u8 0, .int .u8 0, .int .u8 0, .int .u8 0, .int .u8 0, .int .u8 0, .int .u8 0, .int .u8 0, .int .u8 0, .int .u8 0, .int .u8 0, .int .u8 0, .int .u8 0, .int .u8 0, .int .u8 0, .int .u8 0, .int .u8 0, .int .u8 0, .int .u8 0, .int .u8 0, .int .u8 0, .int .u8 0, .int .u8 0, .int .u8 0, .int .u8 0]) rfl rfl _ _ (Blk.new w 77 _) (by kernel_rfl) rfl (by kernel_rfl) ?_
  simp only [Act.put, List.setIfInBounds_toArray, List.set_cons_zero, List.set_cons_succ]
  obtain ⟨w1, hw1⟩ : ∃ V, V = (w.alloc (.cells #[.int .u8 0, .int .u8 0, .int .u8 0, .int .u8 0, .int .u8 0, .int .u8 0, .int .u8 0, .int .u8 0, .int .u8 0, .int .u8 0, .int .u8 0, .int .u8 0, .int .u8 0, .int .u8 0, .int .u8 0, .int .u8 0, .int .u8 0, .int .u8 0, .int .u8 0, .int .u8 0, .int .u8 0, .int .u8 0, .int .u8 0, .int .u8 0, .int .u8 0, .int .u8 0, .int .u8 0, .int .u8 0, .int .u8 0, .int .u8 0, .int .u8 0, .int .u8 0, .int .u8 0, .int .u8 0, .int .u8 0, .int .u8 0, .int .u8 0, .int .u8 0, .int .u8 0, .int .u8 0, .int .u8 0, .int .u8 0, .int .u8 0, .int .u8 0, .int .u8 0, .int .u8 0, .int .u8 0, .int .u8 0, .int .u8 0, .int .u8 0, .int .u8 0, .int .u8 0, .int .u8 0, .int .u8 0, .int .u8 0, .int .u8 0, .int .u8 0, .int .u8 0, .int .u8 0, .int .u8 0, .int .u8 0, .int .u8 0, .int .u8 0, .int .u8 0] 77)).setRow w.heap.size #[.int .u8 0, .int .u8 0, .int .u8 0, .int .u8 0, .int .u8 0, .int .u8 0, .int .u8 0, .int .u8 0, .int .u8 0, .int .u8 0, .int .u8 0, .int .u8 0, .int .u8 0, .int .u8 0, .int .u8 0, .int .u8 0, .int .u8 0, .int .u8 0, .int .u8 0, .int .u8 0, .int .u8 0, .int .u8 0, .int .u8 0, .int .u8 0, .int .u8 0, .int .u8 0, .int .u8 0, .int .u8 0, .int .u8 0, .int .u8 0, .int .u8 0, .int .u8 0, .int .u8 0, .int .u8 0, .int .u8 0, .int .u8 0, .int .u8 0, .int .u8 0, .int .u8 0, .int .u8 0, .int .u8 0, .int .u8 0, .int .u8 0, .int .u8 0, .int .u8 0, .int .u8 0, .int .u8 0, .int .u8 0, .int .u8 0, .int .u8 0, .int .u8 0, .int .u8 0, .int .u8 0, .int .u8 0, .int .u8 0, .int .u8 0, .int .u8 0, .int .u8 0, .int .u8 0, .int .u8 0, .int .u8 0, .int .u8 0, .int .u8 0, .int .u8 0] := ⟨_, rfl⟩
  rw [← hw1]
  have B1 : Below w.heap.size w w1 := by rw [hw1]; exact below_setRow ((Below.refl _ _).alloc (Nat.le_refl _) _) (Nat.le_refl _) _
  have F1 : Hid (DSt w1 b gs gm n #[] c S ∧ Fr gs gm w w1 ∧ Row w1 (some ⟨gx, ox, none⟩) 64 xs) := Lib.hid ⟨HD.out.below B1, Fr.of B1, HR.out.keep B1⟩
  clear hw1 B1 HR HD
  generalize w.heap.size = g7
  refine wpL_pure (.bool false) rfl (by kernel_rfl) ?_
  simp only [Act.put, List.setIfInBounds_toArray, List.set_cons_zero, List.set_cons_succ]
  go_upto_region 6 with (fail)
  refine wp_region_lit ?_
  refine wpL_pure (.bool false) rfl (by kernel_rfl) ?_
  simp only [Act.put, List.setIfInBounds_toArray, List.set_cons_zero, List.set_cons_succ]
  refine wpL_pure (.bool true) rfl (by kernel_rfl) ?_
  simp only [Act.put, List.setIfInBounds_toArray, List.set_cons_zero, List.set_cons_succ]
  go_upto_region 7 with (fail)
  refine region_held (fun X => DSt X b gs gm n #[] c S ∧ Fr gs gm w X ∧ Row X (some ⟨gx, ox, none⟩) 64 xs) 12 (by kernel_rfl) (by kernel_rfl) (by exact ⟨F1.out.1.drewD, F1.out.2.1.drewF, F1.out.2.2.drewR⟩) ?_
  simp only [List.take_succ_cons, List.take_zero, List.drop_succ_cons, List.drop_zero]
  refine wpHeld_cons (.pointer (some ⟨b, 0, none⟩)) rfl (fun w h => heldRun_value (by kernel_rfl) h) ?_
  simp only [Act.put, List.setIfInBounds_toArray, List.set_cons_zero, List.set_cons_succ]
  refine wpHeld_cons (.pointer (some ⟨b, 0, none⟩)) rfl (fun w h => heldRun_value (by kernel_rfl) h) ?_
  simp only [Act.put, List.setIfInBounds_toArray, List.set_cons_zero, List.set_cons_succ]
  refine wpHeld_cons (.pointer (some ⟨b, 1, none⟩)) rfl (fun w h => heldRun_value (by kernel_rfl) h) ?_
  simp only [Act.put, List.setIfInBounds_toArray, List.set_cons_zero, List.set_cons_succ]
  refine wpHeld_cons (.map (some gm)) rfl (fun w h => heldRun_value (run_load_one _ _ _ 60 _ _ rfl b 1 rfl (by rw [h.1.1.cell]; rfl) (by kernel_rfl)) h) ?_
  simp only [Act.put, List.setIfInBounds_toArray, List.set_cons_zero, List.set_cons_succ]
  refine wpHeld_cons (.int .i64 (i : Int)) rfl (fun w h => heldRun_value (by kernel_rfl) h) ?_
  simp only [Act.put, List.setIfInBounds_toArray, List.set_cons_zero, List.set_cons_succ]
  refine wpHeld_cons (.pointer (some ⟨b, 0, none⟩)) rfl (fun w h => heldRun_value (by kernel_rfl) h) ?_
  simp only [Act.put, List.setIfInBounds_toArray, List.set_cons_zero, List.set_cons_succ]
  refine wpHeld_cons (.pointer (some ⟨b, 0, none⟩)) rfl (fun w h => heldRun_value (by kernel_rfl) h) ?_
  simp only [Act.put, List.setIfInBounds_toArray, List.set_cons_zero, List.set_cons_succ]
  refine wpHeld_cons (.pointer (some ⟨b, 0, none⟩)) rfl (fun w h => heldRun_value (by kernel_rfl) h) ?_
  simp only [Act.put, List.setIfInBounds_toArray, List.set_cons_zero, List.set_cons_succ]
  refine wpHeld_cons (.slice (some ⟨gs, 0, none⟩) n n) rfl (fun w h => heldRun_value (run_load_one _ _ _ 59 _ _ rfl b 0 rfl (by rw [h.1.1.cell]; rfl) (by kernel_rfl)) h) ?_
  simp only [Act.put, List.setIfInBounds_toArray, List.set_cons_zero, List.set_cons_succ]
  refine wpHeld_cons (.int .i64 (i : Int)) rfl (fun w h => heldRun_value (by kernel_rfl) h) ?_
  simp only [Act.put, List.setIfInBounds_toArray, List.set_cons_zero, List.set_cons_succ]
  refine wpHeld_cons (.pointer (some ⟨gs, i * 64, none⟩)) rfl (fun w h => heldRun_value (run_idxs _ _ _ _ _ gs n n i rfl rfl rfl HI.out HN.out) h) ?_
  simp only [Act.put, List.setIfInBounds_toArray, List.set_cons_zero, List.set_cons_succ]
  refine wpHeld_cons (.agg (s0.map (Value.int .u8)).toArray) rfl (fun w h => heldRun_value (run_load_mid _ _ _ 77 _ rfl gs (i * 64) rfl (s0.map (Value.int .u8)) _ (sec_range h.1 HS.out) Try.underlying77 rfl (sz53 (HS2.out))) h) ?_
  simp only [Act.put, List.setIfInBounds_toArray, List.set_cons_zero, List.set_cons_succ]
  refine wpHeld_nil ?_
  intro X h
  obtain ⟨es', he1, RU⟩ : ∃ es', es' = #[(⟨.int .i64 (i : Int), .agg (s0.map (Value.int .u8)).toArray, c⟩ : MapEntry)] ∧ es'.size = 1 := ⟨_, rfl, rfl⟩
  have RM : X.heap[gm]? = some (.map #[] c) := h.1.2.2.1
  obtain ⟨X1, hX1⟩ : ∃ V, V = setMap X gm (.map es' (c + 1)) := ⟨_, rfl⟩
  have F2 : Hid (DSt X1 b gs gm n es' (c + 1) S ∧ Fr gs gm w X1 ∧ Row X1 (some ⟨gx, ox, none⟩) 64 xs) := Lib.hid (by rw [hX1]; exact ⟨h.1.upd es' (c + 1), h.2.1.upd _, h.2.2.grown (setMap_gb _ _ _) (fun p hp => by cases hp; simp; exact NG.out.2)⟩)
  have RMH := Lib.hid RM
  have RU1 := Lib.hid RU
  clear h F1 RM RU
  refine wpL_eff X1 rfl (by rw [hX1, he1]; exact run_upd _ _ _ _ _ _ gm c _ _ rfl rfl rfl rfl RMH.out) ?_
  simp only [Act.put, List.setIfInBounds_toArray, List.set_cons_zero, List.set_cons_succ]
  clear hX1 he1 RMH
  go_upto_region 8 with (fail)
  refine region_held (fun X => DSt X b gs gm n es' (c + 1) S ∧ Fr gs gm w X ∧ Row X (some ⟨gx, ox, none⟩) 64 xs) 9 (by kernel_rfl) (by kernel_rfl) (by exact ⟨F2.out.1.drewD, F2.out.2.1.drewF, F2.out.2.2.drewR⟩) ?_
  simp only [List.take_succ_cons, List.take_zero, List.drop_succ_cons, List.drop_zero]
  refine wpHeld_cons (.pointer (some ⟨b, 0, none⟩)) rfl (fun w h => heldRun_value (by kernel_rfl) h) ?_
  simp only [Act.put, List.setIfInBounds_toArray, List.set_cons_zero, List.set_cons_succ]
  refine wpHeld_cons (.pointer (some ⟨b, 0, none⟩)) rfl (fun w h => heldRun_value (by kernel_rfl) h) ?_
  simp only [Act.put, List.setIfInBounds_toArray, List.set_cons_zero, List.set_cons_succ]
  refine wpHeld_cons (.pointer (some ⟨b, 0, none⟩)) rfl (fun w h => heldRun_value (by kernel_rfl) h) ?_
  simp only [Act.put, List.setIfInBounds_toArray, List.set_cons_zero, List.set_cons_succ]
  refine wpHeld_cons (.slice (some ⟨gs, 0, none⟩) n n) rfl (fun w h => heldRun_value (run_load_one _ _ _ 59 _ _ rfl b 0 rfl (by rw [h.1.1.cell]; rfl) (by kernel_rfl)) h) ?_
  simp only [Act.put, List.setIfInBounds_toArray, List.set_cons_zero, List.set_cons_succ]
  refine wpHeld_cons (.int .i64 (i : Int)) rfl (fun w h => heldRun_value (by kernel_rfl) h) ?_
  simp only [Act.put, List.setIfInBounds_toArray, List.set_cons_zero, List.set_cons_succ]
  refine wpHeld_cons (.slice (some ⟨gx, ox, none⟩) 64 cx) rfl (fun w h => heldRun_value (by kernel_rfl) h) ?_
  simp only [Act.put, List.setIfInBounds_toArray, List.set_cons_zero, List.set_cons_succ]
  refine wpHeld_cons (.pointer (some ⟨gx, ox, none⟩)) rfl (fun w h => heldRun_value (run_s2a _ _ _ _ gx ox 64 cx rfl rfl (Nat.le_refl _)) h) ?_
  simp only [Act.put, List.setIfInBounds_toArray, List.set_cons_zero, List.set_cons_succ]
  refine wpHeld_cons (.agg (xs.map (Value.int .u8)).toArray) rfl (fun w h => heldRun_value (run_load_mid _ _ _ 77 _ rfl gx ox rfl (xs.map (Value.int .u8)) _ (row_range h.2.2) Try.underlying77 rfl (sz53 HX64.out)) h) ?_
  simp only [Act.put, List.setIfInBounds_toArray, List.set_cons_zero, List.set_cons_succ]
  refine wpHeld_cons (.pointer (some ⟨gs, i * 64, none⟩)) rfl (fun w h => heldRun_value (run_idxs _ _ _ _ _ gs n n i rfl rfl rfl HI.out HN.out) h) ?_
  simp only [Act.put, List.setIfInBounds_toArray, List.set_cons_zero, List.set_cons_succ]
  refine wpHeld_nil ?_
  intro Y h
  have TH := Lib.hid (sec_there h.1 HI.out)
  obtain ⟨Y1, hY1⟩ : ∃ V, V = Y.setCells gs (i * 64) (xs.map (Value.int .u8)) := ⟨_, rfl⟩
  have F3 : Hid (DSt Y1 b gs gm n es' (c + 1) (S.set i xs) ∧ Fr gs gm w Y1) := Lib.hid (by rw [hY1]; exact ⟨h.1.put i HI.out HX64.out h.2.2.2.2.1, h.2.1.cells _ _⟩)
  clear h F2
  refine wpList_store_mid rfl 77 _ _ rfl gs (i * 64) (xs.map (Value.int .u8)).toArray rfl rfl (by rw [show (xs.map (Value.int .u8)).toArray.size = 64 by simp [HX64.out]]; exact TH.out) (sz53' HX64.out) (all8 _) ?_
  simp only [Act.put, List.setIfInBounds_toArray, List.set_cons_zero, List.set_cons_succ]
  try simp only [List.toList_toArray]
  rw [← hY1]
  clear hY1
  go_wp2_with fail
  go_ret
  exact ⟨rfl, es', RU1.out, F3.out⟩
set_option maxHeartbeats 1000000 in
theorem rd_any (w : World) (b gs gm n c : Nat) (es : Array MapEntry) (S : List (List Int)) (i : Nat) (s0 : List Int) (h : DSt w b gs gm n es c S) (hi : i < n) (hs : S[i]? = some s0) :
    Calls Try.prog 30 #[.pointer (some ⟨b, 0, none⟩), .int .i64 (i : Int)] w fun e w' => ∃ v, e = .returned (.tuple #[v, .int .i64 0]) ∧ Own w' w.heap.size v s0 ∧ DSt w' b gs gm n es c S ∧ Below w.heap.size w w' := by
  have HD := Lib.hid h
  have HI := Lib.hid hi
  have HS := Lib.hid hs
  have HN := Lib.hid h.2.2.2.2.1
  clear h hi hs
  go_enter Try.func30, Try.ntmps30
  go_upto_region 1 with (fail)
  refine wp_region_lit ?_
  refine wpL_pure (.pointer (some ⟨b, 0, none⟩)) rfl (by kernel_rfl) ?_
  simp only [Act.put, List.setIfInBounds_toArray, List.set_cons_zero, List.set_cons_succ]
  refine wpL_pure (.int .i64 (i : Int)) rfl (by kernel_rfl) ?_
  simp only [Act.put, List.setIfInBounds_toArray, List.set_cons_zero, List.set_cons_succ]
  refine wpL_call 38 #[.pointer (some ⟨b, 0, none⟩), .int .i64 (i : Int)] rfl (by kernel_rfl) ((has_any w b gs gm n _ _ _ i HD.out HI.out).mono fun e w9 ⟨he, hx⟩ => ⟨.bool true, he, ?_⟩)
  simp only [Act.put, List.setIfInBounds_toArray, List.set_cons_zero, List.set_cons_succ]
  subst hx
  refine wpL_pure (.bool false) rfl (by kernel_rfl) ?_
  simp only [Act.put, List.setIfInBounds_toArray, List.set_cons_zero, List.set_cons_succ]
  refine wpL_pure (.bool false) rfl (by kernel_rfl) ?_
  simp only [Act.put, List.setIfInBounds_toArray, List.set_cons_zero, List.set_cons_succ]
  go_upto_region 3 with (fail)
  refine wp_region_lit ?_
  refine wpL_pure (.pointer (some ⟨b, 0, none⟩)) rfl (by kernel_rfl) ?_
  simp only [Act.put, List.setIfInBounds_toArray, List.set_cons_zero, List.set_cons_succ]
  refine wpL_pure (.pointer (some ⟨b, 0, none⟩)) rfl (by kernel_rfl) ?_
  simp only [Act.put, List.setIfInBounds_toArray, List.set_cons_zero, List.set_cons_succ]
  refine wpL_pure (.pointer (some ⟨b, 4, none⟩)) rfl (by kernel_rfl) ?_
  simp only [Act.put, List.setIfInBounds_toArray, List.set_cons_zero, List.set_cons_succ]
  refine wpL_pure (.bool false) rfl (run_load_one _ _ _ 4 _ _ rfl b 4 rfl (by rw [HD.out.1.cell]; rfl) (by kernel_rfl)) ?_
  simp only [Act.put, List.setIfInBounds_toArray, List.set_cons_zero, List.set_cons_succ]
  refine wpL_pure (.bool false) rfl (by kernel_rfl) ?_
  simp only [Act.put, List.setIfInBounds_toArray, List.set_cons_zero, List.set_cons_succ]
  go_upto_region 5 with (fail)
  refine wp_region_lit ?_
  refine wpL_pure (.pointer (some ⟨b, 0, none⟩)) rfl (by kernel_rfl) ?_
  simp only [Act.put, List.setIfInBounds_toArray, List.set_cons_zero, List.set_cons_succ]
  refine wpL_pure (.pointer (some ⟨b, 0, none⟩)) rfl (by kernel_rfl) ?_
  simp only [Act.put, List.setIfInBounds_toArray, List.set_cons_zero, List.set_cons_succ]
  refine wpL_pure (.pointer (some ⟨b, 0, none⟩)) rfl (by kernel_rfl) ?_
  simp only [Act.put, List.setIfInBounds_toArray, List.set_cons_zero, List.set_cons_succ]
  refine wpL_pure (.slice (some ⟨gs, 0, none⟩) n n) rfl (run_load_one _ _ _ 59 _ _ rfl b 0 rfl (by rw [HD.out.1.cell]; rfl) (by kernel_rfl)) ?_
  simp only [Act.put, List.setIfInBounds_toArray, List.set_cons_zero, List.set_cons_succ]
  refine wpL_pure (.int .i64 (i : Int)) rfl (by kernel_rfl) ?_
  simp only [Act.put, List.setIfInBounds_toArray, List.set_cons_zero, List.set_cons_succ]
  refine wpL_pure (.pointer (some ⟨gs, i * 64, none⟩)) rfl (run_idxs _ _ _ _ _ gs n n i rfl rfl rfl HI.out HN.out) ?_
  simp only [Act.put, List.setIfInBounds_toArray, List.set_cons_zero, List.set_cons_succ]
  refine wpL_pure (.slice (some ⟨gs, i * 64, none⟩) 64 64) rfl (run_slarr _ _ _ _ gs (i * 64) rfl rfl) ?_
  simp only [Act.put, List.setIfInBounds_toArray, List.set_cons_zero, List.set_cons_succ]
  refine wpL_call 37 #[.slice (some ⟨gs, i * 64, none⟩) 64 64] rfl (by kernel_rfl) (((clone_any w (some ⟨gs, i * 64, none⟩) 64 64 s0 (sec_row HD.out HS.out) (by omega) (fun e => by cases e))).mono fun e w1 ⟨v, he, q1, q2, _⟩ => ⟨v, he, ?_⟩)
  simp only [Act.put, List.setIfInBounds_toArray, List.set_cons_zero, List.set_cons_succ]
  have F1 : Hid (Own w1 w.heap.size v s0 ∧ DSt w1 b gs gm n es c S ∧ Below w.heap.size w w1) := Lib.hid ⟨q1, HD.out.below q2, q2⟩
  clear q1 q2
  refine wpL_pure (v) rfl (by kernel_rfl) ?_
  simp only [Act.put, List.setIfInBounds_toArray, List.set_cons_zero, List.set_cons_succ]
  refine wpL_pure (.int .i64 0) rfl (by kernel_rfl) ?_
  simp only [Act.put, List.setIfInBounds_toArray, List.set_cons_zero, List.set_cons_succ]
  go_wp2_with fail
  go_ret2
  exact ⟨v, rfl, F1.out⟩
end Go.Proofs.Yteabblmhcjpboaa.D
