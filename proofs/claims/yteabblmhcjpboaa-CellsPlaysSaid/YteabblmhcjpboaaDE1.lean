/- A disk: what it is, in general; its map. -/
import Derived.Test.YteabblmhcjpboaaDD3
namespace Go.Proofs.Yteabblmhcjpboaa.D
open Go Go.RowKit
set_option maxRecDepth 100000
def ent (e : Int × List Int × Nat) : MapEntry := ⟨.int .i64 e.1, .agg (e.2.1.map (Value.int .u8)).toArray, e.2.2⟩
def ents (L : List (Int × List Int × Nat)) : Array MapEntry := (L.map ent).toArray
theorem ents_size (L : List (Int × List Int × Nat)) : (ents L).size = L.length := by simp [ents]
theorem ents_push (L : List (Int × List Int × Nat)) (e : Int × List Int × Nat) : (ents L).push (ent e) = ents (L ++ [e]) := by simp [ents]
theorem find_none (i : Int) : ∀ (L : List (Int × List Int × Nat)) (k : Nat), (∀ e ∈ L, e.1 ≠ i) → Instr.findNow (.int .i64) (.int .i64 i) (L.map ent) k = some none
  | [], k, _ => rfl
  | e :: L, k, h => by
    have h1 : ¬ i = e.1 := fun q => h e (by simp) q.symm
    have h2 : (i == e.1) = false := by simp [h1]
    simp only [List.map_cons, Instr.findNow, ent, Instr.sameNow, if_true, h2]
    exact find_none i L (k + 1) (fun x hx => h x (by simp [hx]))
theorem find_some (i : Int) (s : List Int) (br : Nat) : ∀ (L : List (Int × List Int × Nat)) (k : Nat), (L.map (·.1)).Nodup → (i, s, br) ∈ L → ∃ j, Instr.findNow (.int .i64) (.int .i64 i) (L.map ent) k = some (some (j, .agg (s.map (Value.int .u8)).toArray))
  | [], k, _, h => by simp at h
  | e :: L, k, hd, h => by
    by_cases h1 : i = e.1
    · have he : (i, s, br) = e := by
        rcases List.mem_cons.1 h with q | q
        · exact q
        · exfalso
          simp only [List.map_cons, List.nodup_cons] at hd
          exact hd.1 (List.mem_map.2 ⟨_, q, h1⟩)
      subst he
      refine ⟨k, ?_⟩
      simp [Instr.findNow, ent, Instr.sameNow]
    · have h2 : (i == e.1) = false := by simp [h1]
      have h3 : (i, s, br) ∈ L := by
        rcases List.mem_cons.1 h with q | q
        · exact absurd (congrArg (·.1) q) h1
        · exact q
      obtain ⟨j, hj⟩ := find_some i s br L (k + 1) (by simp only [List.map_cons, List.nodup_cons] at hd; exact hd.2) h3
      refine ⟨j, ?_⟩
      simp only [List.map_cons, Instr.findNow, ent, Instr.sameNow, if_true, h2]
      exact hj
theorem run_updG (a : Act) (o : Oper) (w : World) (x y z : Operand) (gm c : Nat) (i : Int) (s : List Int) (L : List (Int × List Int × Nat)) (ho : o.op = .mapUpdate 60 x y z) (hx : a.eval x = .map (some gm)) (hy : a.eval y = .int .i64 i) (hz : a.eval z = .agg (s.map (Value.int .u8)).toArray) (hm : w.heap[gm]? = some (.map (ents L) c)) (hn : ∀ e ∈ L, e.1 ≠ i) :
    (execOp a.eval o).run Try.prog w = .ok .skip (setMap w gm (.map (ents (L ++ [(i, s, c)])) (c + 1))) := by
  have r := Go.MapKept.run_setObj_map (P := Try.prog) (.map (ents (L ++ [(i, s, c)])) (c + 1)) hm
  have q := Go.MapKept.run_getObj_map (P := Try.prog) hm
  have f := find_none i L 0 hn
  have e : (ents L).toList = L.map ent := by simp [ents]
  have p := ents_push L (i, s, c)
  simp only [ent] at p
  unfold execOp
  simp only [ho, hx, hy, hz]
  simp only [Instr.mapUpdate, Sem.run_bind, run_underlying Try.underlying60, run_underlying Try.underlying3, ck, Instr.findKey, q, Result.andThen_ok, e, f, Sem.run_pure, p, r, setMap]
theorem run_look0 (a : Act) (o : Oper) (w : World) (x y : Operand) (gm c : Nat) (i : Int) (L : List (Int × List Int × Nat)) (ho : o.op = .lookup 60 x y true) (hx : a.eval x = .map (some gm)) (hy : a.eval y = .int .i64 i) (hm : w.heap[gm]? = some (.map (ents L) c)) (hn : ∀ e ∈ L, e.1 ≠ i) :
    (execOp a.eval o).run Try.prog w = .ok (.value (.tuple #[.agg #[.int .u8 0, .int .u8 0, .int .u8 0, .int .u8 0, .int .u8 0, .int .u8 0, .int .u8 0, .int .u8 0, .int .u8 0, .int .u8 0, .int .u8 0, .int .u8 0, .int .u8 0, .int .u8 0, .int .u8 0, .int .u8 0, .int .u8 0, .int .u8 0, .int .u8 0, .int .u8 0, .int .u8 0, .int .u8 0, .int .u8 0, .int .u8 0, .int .u8 0, .int .u8 0, .int .u8 0, .int .u8 0, .int .u8 0, .int .u8 0, .int .u8 0, .int .u8 0, .int .u8 0, .int .u8 0, .int .u8 0, .int .u8 0, .int .u8 0, .int .u8 0, .int .u8 0, .int .u8 0, .int .u8 0, .int .u8 0, .int .u8 0, .int .u8 0, .int .u8 0, .int .u8 0, .int .u8 0, .int .u8 0, .int .u8 0, .int .u8 0, .int .u8 0, .int .u8 0, .int .u8 0, .int .u8 0, .int .u8 0, .int .u8 0, .int .u8 0, .int .u8 0, .int .u8 0, .int .u8 0, .int .u8 0, .int .u8 0, .int .u8 0, .int .u8 0], .bool false])) w := by
  have q := Go.MapKept.run_getObj_map (P := Try.prog) hm
  have f := find_none i L 0 hn
  have e : (ents L).toList = L.map ent := by simp [ents]
  have z : (zeroValue 77).run Try.prog w = .ok (.agg #[.int .u8 0, .int .u8 0, .int .u8 0, .int .u8 0, .int .u8 0, .int .u8 0, .int .u8 0, .int .u8 0, .int .u8 0, .int .u8 0, .int .u8 0, .int .u8 0, .int .u8 0, .int .u8 0, .int .u8 0, .int .u8 0, .int .u8 0, .int .u8 0, .int .u8 0, .int .u8 0, .int .u8 0, .int .u8 0, .int .u8 0, .int .u8 0, .int .u8 0, .int .u8 0, .int .u8 0, .int .u8 0, .int .u8 0, .int .u8 0, .int .u8 0, .int .u8 0, .int .u8 0, .int .u8 0, .int .u8 0, .int .u8 0, .int .u8 0, .int .u8 0, .int .u8 0, .int .u8 0, .int .u8 0, .int .u8 0, .int .u8 0, .int .u8 0, .int .u8 0, .int .u8 0, .int .u8 0, .int .u8 0, .int .u8 0, .int .u8 0, .int .u8 0, .int .u8 0, .int .u8 0, .int .u8 0, .int .u8 0, .int .u8 0, .int .u8 0, .int .u8 0, .int .u8 0, .int .u8 0, .int .u8 0, .int .u8 0, .int .u8 0, .int .u8 0]) w := by kernel_rfl
  unfold execOp
  simp only [ho, hx, hy]
  simp only [Instr.lookup, Sem.run_bind, run_underlying Try.underlying60, run_underlying Try.underlying3, ck, Instr.findKey, q, Result.andThen_ok, e, f, Sem.run_pure, z, if_true]
theorem run_look1 (a : Act) (o : Oper) (w : World) (x y : Operand) (gm c : Nat) (i : Int) (s : List Int) (br : Nat) (k : Bool) (L : List (Int × List Int × Nat)) (ho : o.op = .lookup 60 x y k) (hx : a.eval x = .map (some gm)) (hy : a.eval y = .int .i64 i) (hm : w.heap[gm]? = some (.map (ents L) c)) (hd : (L.map (·.1)).Nodup) (hn : (i, s, br) ∈ L) :
    (execOp a.eval o).run Try.prog w = .ok (.value (if k then .tuple #[.agg (s.map (Value.int .u8)).toArray, .bool true] else .agg (s.map (Value.int .u8)).toArray)) w := by
  have q := Go.MapKept.run_getObj_map (P := Try.prog) hm
  obtain ⟨j, f⟩ := find_some i s br L 0 hd hn
  have e : (ents L).toList = L.map ent := by simp [ents]
  unfold execOp
  simp only [ho, hx, hy]
  cases k <;> simp only [Instr.lookup, Sem.run_bind, run_underlying Try.underlying60, run_underlying Try.underlying3, ck, Instr.findKey, q, Result.andThen_ok, e, f, Sem.run_pure, if_true, Bool.false_eq_true, if_false]
theorem run_clear (a : Act) (o : Oper) (w : World) (x : Operand) (gm c : Nat) (es : Array MapEntry) (ho : o.op = .call { callee := .builtin .clear, args := #[x], argTypes := #[60] }) (hx : a.eval x = .map (some gm)) (hm : w.heap[gm]? = some (.map es c)) :
    (execOp a.eval o).run Try.prog w = .ok (.value (.tuple #[])) (setMap w gm (.map (ents []) c)) := by
  have r := Go.MapKept.run_setObj_map (P := Try.prog) (.map #[] c) hm
  have q := Go.MapKept.run_getObj_map (P := Try.prog) hm
  unfold execOp
  simp only [ho, resolve, invoke, builtin, Sem.run_bind, Sem.run_pure, Result.andThen_ok, List.map_toArray, List.map_cons, List.map_nil, hx]
  simp [Builtin.clear_, run_underlying Try.underlying60, q, r, setMap, ents]
def SOk (s : List Int) : Prop := s.length = 64 ∧ ∀ x ∈ s, 0 ≤ x ∧ x ≤ 255
def LOk (n c : Nat) (L : List (Int × List Int × Nat)) : Prop := (∀ e ∈ L, 0 ≤ e.1 ∧ e.1 < (n : Int) ∧ SOk e.2.1 ∧ e.2.2 < c) ∧ (L.map (·.1)).Nodup ∧ (L.map (·.2.2)).Nodup
def DS (w : World) (b gs gm n : Nat) (L : List (Int × List Int × Nat)) (c : Nat) (S : List (List Int)) (fu : Bool) (fz : Int) (go : Bool) : Prop :=
  Blk w b 62 #[.slice (some ⟨gs, 0, none⟩) n n, .map (some gm), .bool fu, .int .i64 fz, .bool go] ∧ Blk w gs 77 (S.flatten.map (Value.int .u8)).toArray ∧ w.heap[gm]? = some (.map (ents L) c) ∧ S.length = n ∧ n ≤ 200 ∧ (∀ s ∈ S, SOk s) ∧ gm < w.heap.size ∧ LOk n c L ∧ (fu = true → 0 ≤ fz) ∧ (-9223372036854775808 ≤ fz ∧ fz ≤ 9223372036854775807)
/-- all but the disk's own three blocks stay. -/
def Fd (b gs gm : Nat) (w w' : World) : Prop := w'.os = w.os ∧ w'.tape = w.tape ∧ w'.output = w.output ∧ w.heap.size ≤ w'.heap.size ∧ ∀ k, k < w.heap.size → k ≠ b → k ≠ gs → k ≠ gm → w'.heap[k]? = w.heap[k]?
theorem Fd.of {b gs gm : Nat} {w w' : World} (h : Below w.heap.size w w') : Fd b gs gm w w' := ⟨h.os, h.tape, h.output, h.size, fun k hk _ _ _ => h.block k hk⟩
theorem Fd.refl {b gs gm : Nat} (w : World) : Fd b gs gm w w := Fd.of (Below.refl _ _)
theorem Fd.trans {b gs gm : Nat} {w w' w'' : World} (h : Fd b gs gm w w') (k : Fd b gs gm w' w'') : Fd b gs gm w w'' :=
  ⟨k.1.trans h.1, k.2.1.trans h.2.1, k.2.2.1.trans h.2.2.1, Nat.le_trans h.2.2.2.1 k.2.2.2.1, fun j hj h1 h2 h3 => (k.2.2.2.2 j (Nat.lt_of_lt_of_le hj h.2.2.2.1) h1 h2 h3).trans (h.2.2.2.2 j hj h1 h2 h3)⟩
theorem Fd.grown {b gs gm r : Nat} {w w' w'' : World} (h : Fd b gs gm w w') (q : w'.grownBy w'' (some r)) (hr : r = b ∨ r = gs ∨ r = gm) : Fd b gs gm w w'' :=
  ⟨q.os.trans h.1, q.tape.trans h.2.1, q.output.trans h.2.2.1, Nat.le_trans h.2.2.2.1 q.size, fun k hk h1 h2 h3 => (q.block k (Nat.lt_of_lt_of_le hk h.2.2.2.1) (by rcases hr with rfl | rfl | rfl <;> simpa using (by assumption))).trans (h.2.2.2.2 k hk h1 h2 h3)⟩
theorem Fd.upd {b gs gm : Nat} {w w' : World} (h : Fd b gs gm w w') (o : Obj) : Fd b gs gm w (setMap w' gm o) := h.grown (setMap_gb w' gm o) (.inr (.inr rfl))
theorem Fd.cells {b gs gm : Nat} {w w' : World} (h : Fd b gs gm w w') (o : Nat) (vs : List Value) : Fd b gs gm w (w'.setCells gs o vs) := h.grown (gb_setCells vs o w' gs) (.inr (.inl rfl))
theorem Fd.setB {b gs gm : Nat} {w w' : World} (h : Fd b gs gm w w') (o : Nat) (v : Value) : Fd b gs gm w (w'.setCell ⟨b, o, none⟩ v) := h.grown (gb_set (gb_refl w' (some b)) o v) (.inl rfl)
theorem Fd.drewF {b gs gm : Nat} {w w' : World} (h : Fd b gs gm w w') : Fd b gs gm w w'.drew := by
  have q := Below.drew (Below.refl 0 w')
  exact ⟨q.os.trans h.1, q.tape.trans h.2.1, q.output.trans h.2.2.1, h.2.2.2.1, h.2.2.2.2⟩
theorem Fd.below {b gs gm : Nat} {a w w' : World} (h : Fd b gs gm w w') (hb : Below a.heap.size a w) (h0 : a.heap.size ≤ b) (h1 : a.heap.size ≤ gs) (h2 : a.heap.size ≤ gm) : Below a.heap.size a w' :=
  ⟨h.1.trans hb.os, h.2.1.trans hb.tape, h.2.2.1.trans hb.output, Nat.le_trans hb.size h.2.2.2.1, fun k hk => (h.2.2.2.2 k (Nat.lt_of_lt_of_le hk hb.size) (by omega) (by omega) (by omega)).trans (hb.block k hk)⟩
theorem Fd.row {b gs gm : Nat} {w w' : World} {a : Option Addr} {m : Nat} {xs : List Int} (h : Fd b gs gm w w') (hr : Row w a m xs) (ha : ∀ p, a = some p → p.block ≠ b ∧ p.block ≠ gs ∧ p.block ≠ gm) : Row w' a m xs := by
  refine ⟨hr.1, hr.2.1, hr.2.2.1, fun j hj => ?_⟩
  obtain ⟨g, o, e, hc⟩ := hr.2.2.2 j hj
  have hn := ha _ e
  have hlt : g < w.heap.size := by
    rcases Nat.lt_or_ge g w.heap.size with q | q
    · exact q
    · simp [World.cell?, Array.getElem?_eq_none q] at hc
  exact ⟨g, o, e, (World.cell?_of_block (h.2.2.2.2 g hlt hn.1 hn.2.1 hn.2.2)).trans hc⟩
theorem DS.below {w : World} {b gs gm n c : Nat} {L : List (Int × List Int × Nat)} {S : List (List Int)} {fu go : Bool} {fz : Int} {w' : World} (h : DS w b gs gm n L c S fu fz go) (hb : Below w.heap.size w w') : DS w' b gs gm n L c S fu fz go :=
  ⟨h.1.below hb, h.2.1.below hb, (hb.block _ h.2.2.2.2.2.2.1).trans h.2.2.1, h.2.2.2.1, h.2.2.2.2.1, h.2.2.2.2.2.1, Nat.lt_of_lt_of_le h.2.2.2.2.2.2.1 hb.size, h.2.2.2.2.2.2.2⟩
theorem DS.drewD {w : World} {b gs gm n c : Nat} {L : List (Int × List Int × Nat)} {S : List (List Int)} {fu go : Bool} {fz : Int} (h : DS w b gs gm n L c S fu fz go) : DS w.drew b gs gm n L c S fu fz go := h
theorem DS.ne {w : World} {b gs gm n c : Nat} {L : List (Int × List Int × Nat)} {S : List (List Int)} {fu go : Bool} {fz : Int} (h : DS w b gs gm n L c S fu fz go) : b ≠ gs ∧ b ≠ gm ∧ gs ≠ gm := by
  refine ⟨?_, ?_, ?_⟩
  · rintro rfl
    have h1 := h.1; have h2 := h.2.1
    unfold Blk at h1 h2
    rw [h1] at h2
    simp at h2
  · rintro rfl
    have h1 := h.1; have h2 := h.2.2.1
    unfold Blk at h1
    rw [h1] at h2
    simp at h2
  · rintro rfl
    have h1 := h.2.1; have h2 := h.2.2.1
    unfold Blk at h1
    rw [h1] at h2
    simp at h2
theorem DS.upd {w : World} {b gs gm n c : Nat} {L : List (Int × List Int × Nat)} {S : List (List Int)} {fu go : Bool} {fz : Int} (h : DS w b gs gm n L c S fu fz go) (L' : List (Int × List Int × Nat)) (c' : Nat) (hL : LOk n c' L') : DS (setMap w gm (.map (ents L') c')) b gs gm n L' c' S fu fz go := by
  have q := setMap_gb w gm (.map (ents L') c')
  exact ⟨h.1.grown q (by simpa using h.ne.2.1), h.2.1.grown q (by simpa using h.ne.2.2), setMap_at _ _ _ h.2.2.2.2.2.2.1, h.2.2.2.1, h.2.2.2.2.1, h.2.2.2.2.2.1, Nat.lt_of_lt_of_le h.2.2.2.2.2.2.1 q.size, hL, h.2.2.2.2.2.2.2.2⟩
theorem DS.put {w : World} {b gs gm n c : Nat} {L : List (Int × List Int × Nat)} {S : List (List Int)} {fu go : Bool} {fz : Int} {xs : List Int} (h : DS w b gs gm n L c S fu fz go) (i : Nat) (hi : i < n) (hx : SOk xs) : DS (w.setCells gs (i * 64) (xs.map (Value.int .u8))) b gs gm n L c (S.set i xs) fu fz go := by
  have q := gb_setCells (xs.map (Value.int .u8)) (i * 64) w gs
  refine ⟨h.1.grown q (by simpa using h.ne.1), ?_, (q.block _ h.2.2.2.2.2.2.1 (by simpa using h.ne.2.2.symm)).trans h.2.2.1, by simpa using h.2.2.2.1, h.2.2.2.2.1, fun s hs => ?_, Nat.lt_of_lt_of_le h.2.2.2.2.2.2.1 q.size, h.2.2.2.2.2.2.2⟩
  · rw [← set64 S i xs (fun s hs => (h.2.2.2.2.2.1 s hs).1) (by rw [h.2.2.2.1]; exact hi) hx.1]
    exact blk_setCells _ _ _ _ h.2.1
  · rcases List.mem_or_eq_of_mem_set hs with hs | rfl
    · exact h.2.2.2.2.2.1 s hs
    · exact hx
theorem DS.cells {w : World} {b gs gm n c : Nat} {L : List (Int × List Int × Nat)} {S : List (List Int)} {fu go : Bool} {fz : Int} (h : DS w b gs gm n L c S fu fz go) : w.cell? ⟨b, 0, none⟩ = some (.slice (some ⟨gs, 0, none⟩) n n) ∧ w.cell? ⟨b, 1, none⟩ = some (.map (some gm)) ∧ w.cell? ⟨b, 2, none⟩ = some (.bool fu) ∧ w.cell? ⟨b, 3, none⟩ = some (.int .i64 fz) ∧ w.cell? ⟨b, 4, none⟩ = some (.bool go) := by
  refine ⟨?_, ?_, ?_, ?_, ?_⟩ <;> rw [h.1.cell] <;> rfl
theorem DS.setB {w : World} {b gs gm n c : Nat} {L : List (Int × List Int × Nat)} {S : List (List Int)} {fu go : Bool} {fz : Int} (h : DS w b gs gm n L c S fu fz go) (o : Nat) (v : Value) (fu' go' : Bool) (fz' : Int) (he : (#[.slice (some ⟨gs, 0, none⟩) n n, .map (some gm), .bool fu, .int .i64 fz, .bool go] : Array Value).setIfInBounds o v = #[.slice (some ⟨gs, 0, none⟩) n n, .map (some gm), .bool fu', .int .i64 fz', .bool go']) (h1 : fu' = true → 0 ≤ fz') (h2 : -9223372036854775808 ≤ fz' ∧ fz' ≤ 9223372036854775807) : DS (w.setCell ⟨b, o, none⟩ v) b gs gm n L c S fu' fz' go' := by
  have q := gb_set (gb_refl w (some b)) o v
  refine ⟨?_, h.2.1.grown q (by simpa using h.ne.1.symm), (q.block _ h.2.2.2.2.2.2.1 (by simpa using h.ne.2.1.symm)).trans h.2.2.1, h.2.2.2.1, h.2.2.2.2.1, h.2.2.2.2.2.1, Nat.lt_of_lt_of_le h.2.2.2.2.2.2.1 q.size, h.2.2.2.2.2.2.2.1, h1, h2⟩
  have hs := h.1.set o v
  rw [← he]
  simpa using hs
theorem DS.sec {w : World} {b gs gm n c : Nat} {L : List (Int × List Int × Nat)} {S : List (List Int)} {fu go : Bool} {fz : Int} {s0 : List Int} {i : Nat} (h : DS w b gs gm n L c S fu fz go) (hs : S[i]? = some s0) (j : Nat) (hj : j < 64) : w.cell? ⟨gs, i * 64 + j, none⟩ = some (.int .u8 (s0.getD j 0)) := by
  have hl := (h.2.2.2.2.2.1 s0 (List.mem_of_getElem? hs)).1
  rw [h.2.1.cell, List.getElem?_toArray, List.getElem?_map, flat64 S _ (fun s hs => (h.2.2.2.2.2.1 s hs).1)]
  have e1 : (i * 64 + j) / 64 = i := by omega
  have e2 : (i * 64 + j) % 64 = j := by omega
  rw [e1, e2, hs]
  simp [List.getD, List.getElem?_eq_getElem (show j < s0.length by omega)]
theorem DS.row {w : World} {b gs gm n c : Nat} {L : List (Int × List Int × Nat)} {S : List (List Int)} {fu go : Bool} {fz : Int} {s0 : List Int} {i : Nat} (h : DS w b gs gm n L c S fu fz go) (hs : S[i]? = some s0) : Row w (some ⟨gs, i * 64, none⟩) 64 s0 :=
  ⟨(h.2.2.2.2.2.1 s0 (List.mem_of_getElem? hs)).1, by simp [maxLen], (h.2.2.2.2.2.1 s0 (List.mem_of_getElem? hs)).2, fun j hj => ⟨_, _, rfl, h.sec hs j hj⟩⟩
theorem DS.range {w : World} {b gs gm n c : Nat} {L : List (Int × List Int × Nat)} {S : List (List Int)} {fu go : Bool} {fz : Int} {s0 : List Int} {i : Nat} (h : DS w b gs gm n L c S fu fz go) (hs : S[i]? = some s0) : w.rangeAt gs (i * 64) (s0.map (Value.int .u8)) := row_range (h.row hs)
theorem DS.at {w : World} {b gs gm n c : Nat} {L : List (Int × List Int × Nat)} {S : List (List Int)} {fu go : Bool} {fz : Int} {i : Nat} (h : DS w b gs gm n L c S fu fz go) (hi : i < n) : ∃ s, S[i]? = some s ∧ SOk s := by
  have hl : i < S.length := by rw [h.2.2.2.1]; exact hi
  exact ⟨S[i], List.getElem?_eq_getElem hl, h.2.2.2.2.2.1 _ (List.getElem_mem hl)⟩
theorem DS.there {w : World} {b gs gm n c : Nat} {L : List (Int × List Int × Nat)} {S : List (List Int)} {fu go : Bool} {fz : Int} {i : Nat} (h : DS w b gs gm n L c S fu fz go) (hi : i < n) : w.there gs (i * 64) 64 := fun j hj => by
  obtain ⟨s0, hs, _⟩ := h.at hi
  exact ⟨by rw [h.sec hs j hj]; rfl, h.2.1.free _⟩
theorem LOk.push {n c : Nat} {L : List (Int × List Int × Nat)} (h : LOk n c L) (i : Nat) (hi : i < n) (s : List Int) (hs : SOk s) (hn : ∀ e ∈ L, e.1 ≠ (i : Int)) : LOk n (c + 1) (L ++ [((i : Int), s, c)]) := by
  refine ⟨fun e he => ?_, ?_, ?_⟩
  · rcases List.mem_append.1 he with q | q
    · have q2 := h.1 e q
      exact ⟨q2.1, q2.2.1, q2.2.2.1, by omega⟩
    · obtain rfl := List.mem_singleton.1 q
      exact ⟨by simp, by simp; omega, hs, by simp⟩
  · rw [List.map_append, List.nodup_append]
    refine ⟨h.2.1, by simp, fun a ha b hb e => ?_⟩
    obtain ⟨x, hx, rfl⟩ := List.mem_map.1 ha
    simp at hb
    subst hb
    exact hn x hx e
  · rw [List.map_append, List.nodup_append]
    refine ⟨h.2.2, by simp, fun a ha b hb e => ?_⟩
    obtain ⟨x, hx, rfl⟩ := List.mem_map.1 ha
    simp at hb
    have := (h.1 x hx).2.2.2
    omega
theorem LOk.nil (n c : Nat) : LOk n c [] := ⟨by simp, by simp, by simp⟩
theorem pigeon : ∀ (n : Nat) (l : List Int), l.Nodup → (∀ x ∈ l, 0 ≤ x ∧ x < (n : Int)) → l.length ≤ n
  | 0, l, _, h => by
    cases l with
    | nil => simp
    | cons x l => have := h x (by simp); omega
  | n + 1, l, hd, h => by
    by_cases hm : (n : Int) ∈ l
    · have q := pigeon n (l.erase (n : Int)) (hd.erase _) (fun x hx => by
        have h1 := h x (List.mem_of_mem_erase hx)
        have h2 : x ≠ (n : Int) := ((List.Nodup.mem_erase_iff hd).1 hx).1
        omega)
      rw [List.length_erase_of_mem hm] at q
      omega
    · have q := pigeon n l hd (fun x hx => by
        have h1 := h x hx
        have h2 : x ≠ (n : Int) := fun e => hm (e ▸ hx)
        omega)
      omega
theorem LOk.len {n c : Nat} {L : List (Int × List Int × Nat)} (h : LOk n c L) : L.length ≤ n := by
  have q := pigeon n (L.map (·.1)) h.2.1 (fun x hx => by
    obtain ⟨e, he, rfl⟩ := List.mem_map.1 hx
    exact ⟨(h.1 e he).1, (h.1 e he).2.1⟩)
  simpa using q
/-- the map holds the key, or it doesn't. -/
theorem has_key (L : List (Int × List Int × Nat)) (i : Int) : (∀ e ∈ L, e.1 ≠ i) ∨ ∃ s br, (i, s, br) ∈ L := by
  by_cases h : ∃ e ∈ L, e.1 = i
  · obtain ⟨⟨k, s, br⟩, h1, h2⟩ := h
    simp at h2
    subst h2
    exact .inr ⟨s, br, h1⟩
  · exact .inl fun e he q => h ⟨e, he, q⟩
end Go.Proofs.Yteabblmhcjpboaa.D
