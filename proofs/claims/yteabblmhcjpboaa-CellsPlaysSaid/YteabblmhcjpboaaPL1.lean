/- A log and its disk, as the law has them. -/
import Derived.Test.YteabblmhcjpboaaO2
namespace Go.Proofs.Yteabblmhcjpboaa.D
open Go Go.RowKit
set_option maxRecDepth 100000
theorem cell_keep {w w' : World} {g j : Nat} {v : Value} (h : w.cell? ⟨g, j, none⟩ = some v) (bb : Below w.heap.size w w') : w'.cell? ⟨g, j, none⟩ = some v := by
  rw [bb.cell (p := ⟨g, j, none⟩) (World.block_lt_of_cell? w _ h)]; exact h
theorem over_any {w : World} {lb b fr rm : Nat} {s c : Nat} {nt : List Int} {v : Value} {ov : Bool} (h : LS w lb b fr rm s c nt v ov) : Calls Try.prog 23 #[.pointer (some ⟨lb, 0, none⟩)] w fun e w' => e = .returned (.bool ov) ∧ Below w.heap.size w w' := (overD h).mono fun e w' ⟨he, hw⟩ => ⟨he, hw ▸ Below.refl _ _⟩
theorem run_rem5 (a : Act) (o : Oper) (w : World) (x : Operand) (p : Int) (ho : o.op = .binOp .rem 5 x (.const (.int .u8 5)) 5) (hx : a.eval x = .int .u8 p) (h0 : 0 ≤ p ∧ p < 256) : (execOp a.eval o).run Try.prog w = .ok (.value (.int .u8 (p % 5))) w := by
  have hc : a.eval (.const (.int .u8 5)) = .int .u8 5 := rfl
  have b0 : (0 : Int) ≤ p := h0.1
  have b1 : p < 256 := h0.2
  have u := run_underlying Try.underlying5 w
  unfold execOp
  simp only [ho, hx, hc]
  go_simp
  rw [Int.tmod_eq_emod_of_nonneg b0]
  first | done | (rw [IntKind.wrap_u8]; omega) | omega
theorem run_rem9 (a : Act) (o : Oper) (w : World) (x : Operand) (p : Int) (ho : o.op = .binOp .rem 5 x (.const (.int .u8 9)) 5) (hx : a.eval x = .int .u8 p) (h0 : 0 ≤ p ∧ p < 256) : (execOp a.eval o).run Try.prog w = .ok (.value (.int .u8 (p % 9))) w := by
  have hc : a.eval (.const (.int .u8 9)) = .int .u8 9 := rfl
  have b0 : (0 : Int) ≤ p := h0.1
  have b1 : p < 256 := h0.2
  have u := run_underlying Try.underlying5 w
  unfold execOp
  simp only [ho, hx, hc]
  go_simp
  rw [Int.tmod_eq_emod_of_nonneg b0]
  first | done | (rw [IntKind.wrap_u8]; omega) | omega
def opV (q X I : Int) (a : Option Addr) (n c : Nat) : List Value := [.int .u8 q, .int .u8 X, .int .i64 I, .slice a n c]
theorem op_range {w : World} {g o : Nat} {q I X : Int} {a : Option Addr} {n c : Nat} {bs : List Int} (h : OpAt w g o q I X a n c bs) : w.rangeAt g o (opV q X I a n c) := by
  intro j v hj
  match j, hj with
  | 0, hj => simp only [opV, List.getElem?_cons_zero, Option.some.injEq] at hj; subst hj; exact h.1
  | 1, hj => simp only [opV, List.getElem?_cons_succ, List.getElem?_cons_zero, Option.some.injEq] at hj; subst hj; exact h.2.1
  | 2, hj => simp only [opV, List.getElem?_cons_succ, List.getElem?_cons_zero, Option.some.injEq] at hj; subst hj; exact h.2.2.1
  | 3, hj => simp only [opV, List.getElem?_cons_succ, List.getElem?_cons_zero, Option.some.injEq] at hj; subst hj; exact h.2.2.2.1
  | k + 4, hj => simp [opV] at hj
theorem op_one (q X I : Int) (a : Option Addr) (n c : Nat) : (opV q X I a n c).toArray.all (·.oneCell') = true := by simp [opV, Value.oneCell']
section
variable {n : Nat} {S : World → Prop} {P : Program} {md : Region.Mode} {ops : Array Oper} {Q : Exit → Act → World → Prop}
theorem wpAnyT_all {rs : List Nat} {f : Nat} {listed : Array Bool} {a : Act} {w : World} (hr : Region.ready md ops listed = rs) (hn : rs ≠ []) (h : ∀ i ∈ rs, wpOp P ops Q i (fun a' w' => (i < n → S w') ∧ wpAnyT n S P md ops Q f (listed.setIfInBounds i true) a' w') a w) : wpAnyT n S P md ops Q (f + 1) listed a w :=
  ⟨fun h0 => absurd (hr.symm.trans h0) hn, fun j hj => h j (by rw [hr] at hj; exact hj)⟩
end
theorem own_ne42 {w : World} {B g : Nat} {v : Value} {xs : List Int} {cs : Array Value} (o : Own w B v xs) (h : Blk w g 42 cs) : v.ownBlock ≠ some g := fun e => by
  rcases o.form with ⟨q, _⟩ | ⟨g', cap, cur, q, _, hb, _⟩
  · rw [q] at e; simp [Value.ownBlock] at e
  · rw [q] at e
    have e : g' = g := by simpa [Value.ownBlock] using e
    subst e
    have z := Option.some.inj (hb.symm.trans h)
    simp at z
/-- a log, and its disk, as the law has them. -/
def PI (w X : World) (b gs gm n rm lb s : Nat) (nt bs : List Int) (va : Option Addr) (vc dc : Nat) (fz : Int) (S : List (List Int)) : Prop :=
  Below w.heap.size w X ∧ DS X b gs gm n [] dc S false fz false ∧ LG X b gs gm n 1 rm lb s nt bs va vc ∧ OpenIs S 1 rm s nt bs ∧ w.heap.size ≤ lb ∧ (∀ k, (Value.slice va bs.length vc).ownBlock = some k → w.heap.size ≤ k) ∧ (w.heap.size ≤ b ∧ w.heap.size ≤ gs ∧ w.heap.size ≤ gm)
theorem PI.below {w X Y : World} {b gs gm n rm lb s : Nat} {nt bs : List Int} {va : Option Addr} {vc dc : Nat} {fz : Int} {S : List (List Int)} (h : PI w X b gs gm n rm lb s nt bs va vc dc fz S) (bb : Below X.heap.size X Y) : PI w Y b gs gm n rm lb s nt bs va vc dc fz S :=
  ⟨h.1.trans (bb.mono h.1.size), h.2.1.below bb, h.2.2.1.below bb, h.2.2.2⟩
theorem PI.pv {w X : World} {b gs gm n rm lb s : Nat} {nt bs : List Int} {va : Option Addr} {vc dc : Nat} {fz : Int} {S : List (List Int)} (h : PI w X b gs gm n rm lb s nt bs va vc dc fz S) : ∀ k, Pv lb b gs gm (.slice va bs.length vc) k → w.heap.size ≤ k ∧ k < X.heap.size := fun k hk => by
  have l := h.2.1.lts
  have l1 := h.2.2.1.1.1.lt
  have q1 := h.2.2.2.2.1
  have q2 := h.2.2.2.2.2.2
  rcases hk with z | z | z | z | z
  · omega
  · omega
  · omega
  · omega
  · exact ⟨h.2.2.2.2.2.1 k z, (h.2.2.1.2.1.lt k z).2⟩
/-- what a change leaves. -/
def PX (w : World) (b gs gm n rm lb s : Nat) (nt bs : List Int) (p : Nat → Prop) (X Y : World) : Prop :=
  ∃ (va : Option Addr) (vc dc : Nat) (fz : Int) (S : List (List Int)), PI w Y b gs gm n rm lb s nt bs va vc dc fz S ∧ Fl p X Y
section
variable {w X : World} {b gs gm n rm lb s : Nat} {nt bs : List Int} {va : Option Addr} {vc dc : Nat} {fz : Int} {S : List (List Int)}
theorem ap_px {Y : World} {s1 : Nat} {nt1 bs1 : List Int} (h : PI w X b gs gm n rm lb s nt bs va vc dc fz S) (q : ApOk b gs gm n 1 rm lb s1 va vc bs nt1 bs1 S X Y) : PX w b gs gm n rm lb s1 nt1 bs1 (Pv lb b gs gm (.slice va bs.length vc)) X Y := by
  obtain ⟨dc', fz', S', va', vc', l, d, op, _, f, own⟩ := q
  exact ⟨va', vc', dc', fz', S', ⟨f.below h.1 (fun k hk => (h.pv k hk).1), d, l, op, h.2.2.2.2.1, fun k hk => by
    rcases own k hk with z | z
    · have := h.1.size; omega
    · exact h.2.2.2.2.2.1 k z, h.2.2.2.2.2.2⟩, f⟩
theorem app_px (h : PI w X b gs gm n rm lb s nt bs va vc dc fz S) (hs : s < 4611686018427387904) (a : Option Addr) (m cx : Nat) (ys : List Int) (hy : Sl w a m cx ys) (nt1 : List Int) (hn : NtOk nt1) (hf : bs.length + m ≤ rm * 64) :
    Calls Try.prog 11 #[.pointer (some ⟨lb, 0, none⟩), .slice a m cx, .agg (u8l nt1).toArray] X fun e Y => e = .returned (.int .i64 0) ∧ PX w b gs gm n rm lb (s + 1) nt1 (bs ++ ys) (Pv lb b gs gm (.slice va bs.length vc)) X Y :=
  (app_ok h.2.2.1 h.2.1 h.2.2.2.1 hs a m cx ys (hy.below' h.1) (fun hm p hp => by have q := sl_lt hy hm p hp; have e := h.2.2.2.2.2.2; omega) nt1 hn hf).mono fun e Y q => ⟨q.1, ap_px h q.2⟩
theorem app_full (h : PI w X b gs gm n rm lb s nt bs va vc dc fz S) (hs : s < 4611686018427387904) (a : Option Addr) (m cx : Nat) (ys : List Int) (hy : Sl w a m cx ys) (nt1 : List Int) (hn : NtOk nt1) (hf : rm * 64 < bs.length + m) :
    Calls Try.prog 11 #[.pointer (some ⟨lb, 0, none⟩), .slice a m cx, .agg (u8l nt1).toArray] X fun e Y => e = .returned (.int .i64 4) ∧ Below X.heap.size X Y :=
  (append_any h.2.2.1.1 h.2.1 h.2.2.1.2.1 h.2.2.1.2.2.1 h.2.2.1.2.2.2.2.1 h.2.2.1.2.2.2.1 h.2.2.1.2.2.2.2.2 h.2.2.2.1 hs a m cx ys (hy.below' h.1) (fun hm p hp => by have q := sl_lt hy hm p hp; have e := h.2.2.2.2.2.2; omega) nt1 hn).mono fun e Y q => by
    rcases q with ⟨_, he, bb⟩ | ⟨q, _⟩ | ⟨_, q, _⟩
    · exact ⟨he, bb⟩
    · omega
    · cases q
theorem clr_px (h : PI w X b gs gm n rm lb s nt bs va vc dc fz S) (hs : s < 4611686018427387904) :
    Calls Try.prog 25 #[.pointer (some ⟨lb, 0, none⟩)] X fun e Y => e = .returned (.int .i64 0) ∧ PX w b gs gm n rm lb (s + 1) nt [] (Pv lb b gs gm (.slice va bs.length vc)) X Y :=
  (clr_ok h.2.2.1 h.2.1 h.2.2.2.1 hs).mono fun e Y q => ⟨q.1, ap_px h q.2⟩
theorem app_spent (h : PI w X b gs gm n rm lb s nt bs va vc dc fz S) (hs : 4611686018427387904 ≤ s) (a : Option Addr) (m cx : Nat) (nt1 : List Int) (hn : NtOk nt1) :
    Calls Try.prog 11 #[.pointer (some ⟨lb, 0, none⟩), .slice a m cx, .agg (u8l nt1).toArray] X fun e Y => e = .returned (.int .i64 14) ∧ Below X.heap.size X Y := append_spent (ov := false) h.2.2.1.1 hs a m cx nt1 hn
theorem clr_spent (h : PI w X b gs gm n rm lb s nt bs va vc dc fz S) (hs : 4611686018427387904 ≤ s) :
    Calls Try.prog 25 #[.pointer (some ⟨lb, 0, none⟩)] X fun e Y => e = .returned (.int .i64 14) ∧ Below X.heap.size X Y := (clear_spent (ov := false) h.2.2.1.1 hs).mono fun e Y ⟨he, hw⟩ => ⟨he, hw ▸ Below.refl _ _⟩
/-- the disk, whatever has been written to it. -/
def DI (w X : World) (b gs gm n : Nat) : Prop := Below w.heap.size w X ∧ (∃ (Lx : List (Int × List Int × Nat)) (dc : Nat) (fz : Int) (S : List (List Int)), DS X b gs gm n Lx dc S false fz false) ∧ (w.heap.size ≤ b ∧ w.heap.size ≤ gs ∧ w.heap.size ≤ gm)
theorem PI.di (h : PI w X b gs gm n rm lb s nt bs va vc dc fz S) : DI w X b gs gm n := ⟨h.1, ⟨_, _, _, _, h.2.1⟩, h.2.2.2.2.2.2⟩
theorem DI.below {Y : World} (h : DI w X b gs gm n) (bb : Below X.heap.size X Y) : DI w Y b gs gm n := by
  obtain ⟨h1, ⟨Lx, dc, fz, S, d⟩, h2⟩ := h
  exact ⟨h1.trans (bb.mono h1.size), ⟨_, _, _, _, d.below bb⟩, h2⟩
theorem write_di (h : DI w X b gs gm n) (i : Int) (a : Option Addr) (cx : Nat) (xs : List Int) (hr : Row X a 64 xs) (ng : ∀ p, a = some p → p.block ≠ b ∧ p.block ≠ gs ∧ p.block ≠ gm) :
    Calls Try.prog 16 #[.pointer (some ⟨b, 0, none⟩), .int .i64 i, .slice a 64 cx] X fun e Y => (∃ r : Int, e = .returned (.int .i64 r)) ∧ DI w Y b gs gm n ∧ Fd b gs gm X Y := by
  obtain ⟨h1, ⟨Lx, dc, fz, S, d⟩, h2⟩ := h
  refine (writeD d i a 64 cx xs hr ng).mono fun e w' q => ?_
  rcases q with ⟨_, he, d', fd⟩ | ⟨_, q, _⟩ | ⟨_, _, he, k0, s0, _, _, d', fd⟩
  · exact ⟨⟨_, he⟩, ⟨fd.below h1 h2.1 h2.2.1 h2.2.2, ⟨_, _, _, _, d'⟩, h2⟩, fd⟩
  · have := mayB_no q; cases this
  · exact ⟨⟨_, he⟩, ⟨fd.below h1 h2.1 h2.2.1 h2.2.2, ⟨_, _, _, _, d'⟩, h2⟩, fd⟩
/-- the disk, with nothing loose. -/
def DC (w X : World) (b gs gm n : Nat) : Prop := Below w.heap.size w X ∧ (∃ (dc : Nat) (fz : Int) (S : List (List Int)), DS X b gs gm n [] dc S false fz false) ∧ (w.heap.size ≤ b ∧ w.heap.size ≤ gs ∧ w.heap.size ≤ gm)
theorem crash_dc (h : DI w X b gs gm n) (a : Option Addr) (q cx : Nat) (F : List Int) (hr : Row X a q F) (ng : 0 < q → ∀ p, a = some p → p.block ≠ b ∧ p.block ≠ gs ∧ p.block ≠ gm) :
    Calls Try.prog 26 #[.pointer (some ⟨b, 0, none⟩), .slice a q cx] X fun e Y => e = .returned (.tuple #[]) ∧ DC w Y b gs gm n ∧ Fd b gs gm X Y := by
  obtain ⟨h1, ⟨Lx, dc, fz, S, d⟩, h2⟩ := h
  refine (crashD d a q cx F hr ng).mono fun e w' ⟨he, ks, _, _, d', fd⟩ => ⟨he, ⟨fd.below h1 h2.1 h2.2.1 h2.2.2, ⟨_, _, _, d'⟩, h2⟩, fd⟩
def PO (w : World) (b gs gm n rm : Nat) (e : Ending) (Y : World) : Prop := ∃ (lb s : Nat) (nt bs : List Int) (va : Option Addr) (vc dc : Nat) (fz : Int) (S : List (List Int)), e = .returned (.tuple #[.pointer (some ⟨lb, 0, none⟩), .int .i64 0]) ∧ PI w Y b gs gm n rm lb s nt bs va vc dc fz S
theorem open_pi (h : DC w X b gs gm n) (hrm : 1 ≤ rm) (hn : 1 + (rm + 2) ≤ n) : Calls Try.prog 10 #[.pointer (some ⟨b, 0, none⟩), .int .i64 1, .int .i64 ((rm + 2 : Nat) : Int)] X fun e Y => PO w b gs gm n rm e Y ∧ Below X.heap.size X Y := by
  obtain ⟨h1, ⟨dc, fz, S, d⟩, h2⟩ := h
  refine (open_ok d 1 rm hrm hn).mono fun e Y ⟨lb, s, nt, bs, va, vc, he, hl, op, bb, l1, l2⟩ => ⟨⟨lb, s, nt, bs, va, vc, dc, fz, S, he, ?_⟩, bb⟩
  have z := h1.size
  exact ⟨h1.trans (bb.mono z), d.below bb, hl, op, by omega, fun k hk => by have := (l2 k hk).1; omega, h2⟩
end
theorem run_build42n (a : Act) (o : Oper) (w : World) (x y : Operand) (s : Nat) (nt : List Int) (hn : nt.length = 16) (ho : o.op = .build 42 #[(0, x), (1, y)]) (hx : a.eval x = .int .u64 ((s : Nat) : Int)) (hy : a.eval y = .agg (u8l nt).toArray) : (execOp a.eval o).run Try.prog w = .ok (.value (.agg (stV s nt (.slice none 0 0)).toArray)) w := by
  match nt, hn with
  | [n0, n1, n2, n3, n4, n5, n6, n7, n8, n9, n10, n11, n12, n13, n14, n15], _ =>
    unfold execOp
    have hc : Try.prog.built 42 [(0, .int .u64 ((s : Nat) : Int)), (1, .agg (u8l [n0, n1, n2, n3, n4, n5, n6, n7, n8, n9, n10, n11, n12, n13, n14, n15]).toArray)] = some (stV s [n0, n1, n2, n3, n4, n5, n6, n7, n8, n9, n10, n11, n12, n13, n14, n15] (.slice none 0 0)).toArray := by kernel_rfl
    simp only [ho, List.map_toArray, List.map_cons, List.map_nil, hx, hy, Sem.run_bind, run_build w 42 _ _ hc, Result.andThen_ok, Sem.run_pure]
end Go.Proofs.Yteabblmhcjpboaa.D
