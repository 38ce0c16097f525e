/- Both say the same. -/
import Derived.Test.YtoeojgdolanggaaP7
import Derived.Test.YtoeojgdolanggaaP2
namespace Go.Proofs.Ytoeojgdolanggaa
open Go Go.RowKit Go.ChangeShapes Go.WideShapes Go.ChangeAt
set_option maxRecDepth 100000
/-- the net and the list say the same. -/
structure LK (W0 w : World) (b r : Nat) (s t : Value) (ls rs : List Ltr) : Prop where
  two : Two W0 w b r s t ls rs
  key : ls.map Ltr.key = rs.map Ltr.key
  few : ls.length ≤ 200
theorem LK.below {W0 w w' : World} {b r : Nat} {s t : Value} {ls rs : List Ltr} (h : LK W0 w b r s t ls rs) (hb : Below w.heap.size w w') : LK W0 w' b r s t ls rs := ⟨h.two.below hb, h.key, h.few⟩
theorem LK.drew {W0 w : World} {b r : Nat} {s t : Value} {ls rs : List Ltr} (h : LK W0 w b r s t ls rs) : LK W0 w.drew b r s t ls rs := h.below (Below.drew (Below.refl _ _))
theorem LK.len {W0 w : World} {b r : Nat} {s t : Value} {ls rs : List Ltr} (h : LK W0 w b r s t ls rs) : rs.length = ls.length := by simpa using (congrArg List.length h.key).symm
theorem LK.at {W0 w : World} {b r : Nat} {s t : Value} {ls rs : List Ltr} (h : LK W0 w b r s t ls rs) {k : Nat} {l m : Ltr} (hl : ls[k]? = some l) (hm : rs[k]? = some m) : m.f = l.f ∧ m.t = l.t ∧ m.xs = l.xs := by
  have e := congrArg (fun x => x[k]?) h.key
  simp only [List.getElem?_map, hl, hm, Option.map_some, Option.some.injEq, Ltr.key, Prod.mk.injEq] at e
  exact ⟨e.1.symm, e.2.1.symm, e.2.2.symm⟩
theorem LK.send {W0 w w' : World} {b r : Nat} {s t s' t' : Value} {ls rs ls' rs' : List Ltr} {x : Int × Int × List Int} {z : Bool} (h : LK W0 w b r s t ls rs) (h' : Two W0 w' b r s' t' ls' rs') (hz : z = true → ls.length < 200) (h1 : ls'.map Ltr.key = ls.map Ltr.key ++ (if z then [x] else [])) (h2 : rs'.map Ltr.key = rs.map Ltr.key ++ (if z then [x] else [])) : LK W0 w' b r s' t' ls' rs' := by
  refine ⟨h', by rw [h1, h2, h.key], ?_⟩
  have e := congrArg List.length h1
  have := h.few
  cases z with
  | false => simp at e; omega
  | true => simp at e; have := hz rfl; omega
theorem map_erase (ls : List Ltr) (k : Nat) : (ls.eraseIdx k).map Ltr.key = (ls.map Ltr.key).eraseIdx k := by
  rw [List.eraseIdx_eq_take_drop_succ, List.eraseIdx_eq_take_drop_succ, List.map_append, List.map_take, List.map_drop]
theorem LK.take {W0 w w' : World} {b r : Nat} {s t s' t' : Value} {ls rs : List Ltr} {k : Nat} (h : LK W0 w b r s t ls rs) (h' : Two W0 w' b r s' t' (ls.eraseIdx k) (rs.eraseIdx k)) : LK W0 w' b r s' t' (ls.eraseIdx k) (rs.eraseIdx k) :=
  ⟨h', by rw [map_erase, map_erase, h.key], Nat.le_trans (List.length_eraseIdx_le ls k) h.few⟩
theorem LK.put {W0 w w' : World} {b r k : Nat} {s t s' t' : Value} {ls rs ls' : List Ltr} {l m : Ltr} {v : Value} {xs : List Int} (h : LK W0 w b r s t ls rs) (hl : ls[k]? = some l) (hm : rs[k]? = some m) (h' : Two W0 w' b r s' t' ls' (rs.set k (⟨m.f, m.t, v, xs⟩ : Ltr))) (h1 : ls'.map Ltr.key = (ls.map Ltr.key).set k (l.f, l.t, xs)) : LK W0 w' b r s' t' ls' (rs.set k (⟨m.f, m.t, v, xs⟩ : Ltr)) := by
  have e := h.at hl hm
  refine ⟨h', ?_, ?_⟩
  · rw [h1, List.map_set, h.key]
    show _ = (rs.map Ltr.key).set k (m.f, m.t, xs)
    rw [e.1, e.2.1]
  · have := congrArg List.length h1
    simp at this
    have := h.few
    omega
theorem FrN.of_gb {w w' : World} {b : Nat} {s s' : Value} (h : w.grownBy w' (some b)) (hs : ∀ g, s'.ownBlock = some g → w.heap.size ≤ g) : FrN w w' b s s' :=
  ⟨h.os, h.tape, h.output, h.size, fun k hk hb _ => h.block k hk (by simpa using hb), fun g hg => .inr (hs g hg)⟩
/-- Take of both at once, where there is one. -/
theorem take_full (W0 w : World) (r : Nat) (i : Int) (ts : Value) (rs : List Ltr) (h : RefSt W0 w r ts rs) (h3 : rs.length ≤ 300) (h0 : 0 < rs.length) : Calls Try.prog 23 #[.pointer (some ⟨r, 0, none⟩), .int .i64 i] w fun e w' =>
    ∃ l t', rs[plc i rs.length]? = some l ∧ e = .returned (.tuple #[.agg #[.int .i64 l.f, .int .i64 l.t, l.v], .bool true]) ∧ RefSt W0 w' r t' (rs.eraseIdx (plc i rs.length)) ∧ FrN w w' r ts t' :=
  (take_ref W0 w r i ts rs h h3).mono fun e w' q => by
    rcases q with ⟨q, _⟩ | q
    · omega
    · exact q
theorem take_empty (W0 w : World) (r : Nat) (i : Int) (ts : Value) (rs : List Ltr) (h : RefSt W0 w r ts rs) (h0 : rs.length = 0) : Calls Try.prog 23 #[.pointer (some ⟨r, 0, none⟩), .int .i64 i] w fun e w' =>
    e = .returned (.tuple #[.agg #[.int .i64 0, .int .i64 0, .slice none 0 0], .bool false]) ∧ RefSt W0 w' r ts rs ∧ Below w.heap.size w w' :=
  (take_ref0 W0 w r i ts rs h h0).mono fun e w' q => by
    rcases q with ⟨_, q⟩ | ⟨l, t', q, _⟩
    · exact q
    · obtain rfl := List.eq_nil_of_length_eq_zero h0
      simp at q
theorem cell_lt {w : World} {p : Addr} {v : Value} (h : w.cell? p = some v) : p.block < w.heap.size := by
  rcases Nat.lt_or_ge p.block w.heap.size with q | q
  · exact q
  · simp [World.cell?, Array.getElem?_eq_none q] at h
theorem op_range {W0 w : World} {g o : Nat} {q I f t : Int} {a : Option Addr} {n c : Nat} {bs : List Int} (hb : Below W0.heap.size W0 w) (h : OpAt W0 g o q I f t a n c bs) : w.rangeAt g o [.int .u8 q, .int .i64 I, .int .i64 f, .int .i64 t, .slice a n c] := by
  obtain ⟨h0, h1, h2, h3, h4, _⟩ := h
  intro j v hj
  rcases j with _ | _ | _ | _ | _ | j
  · simp at hj; subst hj; exact (hb.cell (cell_lt h0)).trans h0
  · simp at hj; subst hj; exact (hb.cell (cell_lt h1)).trans h1
  · simp at hj; subst hj; exact (hb.cell (cell_lt h2)).trans h2
  · simp at hj; subst hj; exact (hb.cell (cell_lt h3)).trans h3
  · simp at hj; subst hj; exact (hb.cell (cell_lt h4)).trans h4
  · simp at hj
theorem op_row {W0 : World} {a : Option Addr} {n c : Nat} {bs : List Int} (h : IsRow .u8 W0 a n c bs) : Row W0 a n (bs.take n) ∧ (a = none → c = 0) := by
  refine ⟨row_of h, ?_⟩
  rintro rfl
  rcases h with ⟨_, _, h, _⟩ | ⟨_, h, _⟩
  · exact h
  · cases h
theorem bx_ltr {w : World} {bx : Nat} {q I f t : Int} {v : Value} (h : Blk w bx 45 #[.int .u8 q, .int .i64 I, .int .i64 f, .int .i64 t, v]) : w.rangeAt bx 2 [.int .i64 f, .int .i64 t, v] := by
  intro j u hj
  rw [h.cell]
  rcases j with _ | _ | _ | j
  · simpa using hj
  · simpa using hj
  · simpa using hj
  · simp at hj
theorem bx_frame (W1 : World) (q I f t : Int) (u : Value) :
    Blk ((W1.alloc (.cells #[.int .u8 0, .int .i64 0, .int .i64 0, .int .i64 0, .slice none 0 0] 45)).setRow W1.heap.size #[.int .u8 q, .int .i64 I, .int .i64 f, .int .i64 t, u]) W1.heap.size 45 #[.int .u8 q, .int .i64 I, .int .i64 f, .int .i64 t, u] ∧ Below W1.heap.size W1 ((W1.alloc (.cells #[.int .u8 0, .int .i64 0, .int .i64 0, .int .i64 0, .slice none 0 0] 45)).setRow W1.heap.size #[.int .u8 q, .int .i64 I, .int .i64 f, .int .i64 t, u]) :=
  ⟨setRow_heap _ _ _ _ _ _ (Blk.new _ _ _), below_setRow ((Below.refl _ _).alloc (Nat.le_refl _) _) (Nat.le_refl _) _⟩
theorem run_rem8 (a : Act) (o : Oper) (w : World) (x : Operand) (q d : Int) (ho : o.op = .binOp .rem 5 x (.const (.int .u8 5)) 5) (hx : a.eval x = .int .u8 q) (h0 : 0 ≤ q) (hd : q % 5 = d) : (execOp a.eval o).run Try.prog w = .ok (.value (.int .u8 d)) w := by
  have hc : a.eval (.const (.int .u8 5)) = .int .u8 5 := rfl
  have h2 : q.tmod 5 = d := by rw [Int.tmod_eq_emod_of_nonneg h0]; exact hd
  unfold execOp
  simp only [ho, hx, hc]
  go_simp
theorem lk_new {W0 w : World} {b r : Nat} (hn : NetSt w b (.slice none 0 0) []) (hr : Blk w r 41 #[.slice none 0 0]) (h1 : W0.heap.size ≤ b) (h2 : W0.heap.size ≤ r) (h3 : Below W0.heap.size W0 w) : LK W0 w b r (.slice none 0 0) (.slice none 0 0) [] [] :=
  ⟨⟨hn, ⟨hr, h2, LRow.nil _ _, by simp⟩, fun g hg => by simp [Value.ownBlock] at hg, h1, h3⟩, rfl, by simp⟩
end Go.Proofs.Ytoeojgdolanggaa
