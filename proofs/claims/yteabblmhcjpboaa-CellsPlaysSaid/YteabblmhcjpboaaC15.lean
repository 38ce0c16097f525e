/- Logs, as the laws see them. -/
import Derived.Test.YteabblmhcjpboaaC14
import Derived.Laws.Concat
namespace Go.Proofs.Yteabblmhcjpboaa.D
open Go Go.RowKit
set_option maxRecDepth 100000
/-- a log in memory. -/
def LG (w : World) (b gs gm n fr rm lb s : Nat) (nt bs : List Int) (va : Option Addr) (vc : Nat) : Prop :=
  LS w lb b fr rm s bs.length nt (.slice va bs.length vc) false ∧ Own w 0 (.slice va bs.length vc) bs ∧ bs.length ≤ rm * 64 ∧ (lb ≠ b ∧ lb ≠ gs ∧ lb ≠ gm) ∧ (∀ k, (Value.slice va bs.length vc).ownBlock = some k → k ≠ b ∧ k ≠ gs ∧ k ≠ gm ∧ k ≠ lb) ∧ fr + 2 + rm ≤ n
def ApOk (b gs gm n fr rm lb s : Nat) (va : Option Addr) (vc : Nat) (bs0 nt bs : List Int) (S : List (List Int)) (w w' : World) : Prop :=
  ∃ (dc' : Nat) (fz' : Int) (S' : List (List Int)) (va' : Option Addr) (vc' : Nat), LG w' b gs gm n fr rm lb s nt bs va' vc' ∧ DS w' b gs gm n [] dc' S' false fz' false ∧ OpenIs S' fr rm s nt bs ∧ Outs fr rm S S' ∧ Fl (Pv lb b gs gm (.slice va bs0.length vc)) w w' ∧ ∀ k, (Value.slice va' bs.length vc').ownBlock = some k → w.heap.size ≤ k ∨ (Value.slice va bs0.length vc).ownBlock = some k
theorem app_ok {w : World} {b gs gm n fr rm lb s vc dc : Nat} {nt bs : List Int} {va : Option Addr} {S : List (List Int)} {fz : Int} (h : LG w b gs gm n fr rm lb s nt bs va vc) (d : DS w b gs gm n [] dc S false fz false) (op : OpenIs S fr rm s nt bs) (hs : s < 4611686018427387904) (a : Option Addr) (m cx : Nat) (ys : List Int) (hy : Sl w a m cx ys) (ha : 0 < m → ∀ p, a = some p → p.block ≠ b ∧ p.block ≠ gs ∧ p.block ≠ gm) (nt1 : List Int) (hn : NtOk nt1) (hf : bs.length + m ≤ rm * 64) :
    Calls Try.prog 11 #[.pointer (some ⟨lb, 0, none⟩), .slice a m cx, .agg (u8l nt1).toArray] w fun e w' => e = .returned (.int .i64 0) ∧ ApOk b gs gm n fr rm lb (s + 1) va vc bs nt1 (bs ++ ys) S w w' :=
  (append_any h.1 d h.2.1 h.2.2.1 h.2.2.2.2.1 h.2.2.2.1 h.2.2.2.2.2 op hs a m cx ys hy ha nt1 hn).mono fun e w' q => by
    rcases q with ⟨q, _⟩ | ⟨_, he, dc', fz', S', xa, xc, l, d', f, o, nn, op', ou⟩ | ⟨_, q, _⟩
    · omega
    · have hl : (bs ++ ys).length = bs.length + m := by rw [List.length_append, hy.1.1]
      refine ⟨he, dc', fz', S', xa, xc, ⟨by rw [hl]; exact l, by rw [hl]; exact o, by rw [hl]; exact hf, h.2.2.2.1, ?_, h.2.2.2.2.2⟩, d', op', ou, f, ?_⟩
      · intro k hk; rw [hl] at hk; have z := nn k hk; exact ⟨z.1, z.2.1, z.2.2.1, z.2.2.2.1⟩
      · intro k hk; rw [hl] at hk; exact (nn k hk).2.2.2.2
    · cases q
theorem clr_ok {w : World} {b gs gm n fr rm lb s vc dc : Nat} {nt bs : List Int} {va : Option Addr} {S : List (List Int)} {fz : Int} (h : LG w b gs gm n fr rm lb s nt bs va vc) (d : DS w b gs gm n [] dc S false fz false) (op : OpenIs S fr rm s nt bs) (hs : s < 4611686018427387904) :
    Calls Try.prog 25 #[.pointer (some ⟨lb, 0, none⟩)] w fun e w' => e = .returned (.int .i64 0) ∧ ApOk b gs gm n fr rm lb (s + 1) va vc bs nt [] S w w' :=
  (clear_any h.1 d h.2.1 h.2.2.1 h.2.2.2.2.1 h.2.2.2.1 h.2.2.2.2.2 op hs).mono fun e w' q => by
    rcases q with ⟨he, dc', fz', S', l, d', f, op', ou⟩ | ⟨q, _⟩
    · exact ⟨he, dc', fz', S', none, 0, ⟨l, Own.nil _ _, Nat.zero_le _, h.2.2.2.1, fun k hk => by simp [Value.ownBlock] at hk, h.2.2.2.2.2⟩, d', op', ou, f.mono (fun k hk => Pq_Pv hk), fun k hk => by simp [Value.ownBlock] at hk⟩
    · cases q
theorem LG.far {p : Nat → Prop} {w w' : World} {b gs gm n fr rm lb s vc : Nat} {nt bs : List Int} {va : Option Addr} (h : LG w b gs gm n fr rm lb s nt bs va vc) (f : Fl p w w') (h1 : ¬ p lb) (h2 : ∀ k, (Value.slice va bs.length vc).ownBlock = some k → ¬ p k) : LG w' b gs gm n fr rm lb s nt bs va vc :=
  ⟨⟨f.blk h.1.1 h1, h.1.2⟩, f.own h.2.1 h2, h.2.2⟩
theorem LG.below {w w' : World} {b gs gm n fr rm lb s vc : Nat} {nt bs : List Int} {va : Option Addr} (h : LG w b gs gm n fr rm lb s nt bs va vc) (bb : Below w.heap.size w w') : LG w' b gs gm n fr rm lb s nt bs va vc := h.far (p := fun _ => False) (Fl.of bb) (fun q => q) (fun _ _ q => q)
def OkPost (b gs gm n fr rm : Nat) (S : List (List Int)) (w : World) (e : Ending) (w' : World) : Prop :=
  ∃ (lb s : Nat) (nt bs : List Int) (va : Option Addr) (vc : Nat), e = .returned (.tuple #[.pointer (some ⟨lb, 0, none⟩), .int .i64 0]) ∧ LG w' b gs gm n fr rm lb s nt bs va vc ∧ OpenIs S fr rm s nt bs ∧ Below w.heap.size w w' ∧ w.heap.size ≤ lb ∧ ∀ k, (Value.slice va bs.length vc).ownBlock = some k → w.heap.size ≤ k ∧ k ≠ lb
theorem open_ok {w : World} {b gs gm n dc : Nat} {L : List (Int × List Int × Nat)} {S : List (List Int)} {fu : Bool} {fz : Int} (d : DS w b gs gm n L dc S fu fz false) (fr rm : Nat) (hrm : 1 ≤ rm) (hn : fr + (rm + 2) ≤ n) : Calls Try.prog 10 #[.pointer (some ⟨b, 0, none⟩), .int .i64 ((fr : Nat) : Int), .int .i64 ((rm + 2 : Nat) : Int)] w fun e w' => OkPost b gs gm n fr rm S w e w' :=
  (open_any d fr rm hrm hn).mono fun e w' ⟨lb, s, nt, bs, va, vc, he, h, ho, op, hm, bb, l1, l2⟩ => ⟨lb, s, nt, bs, va, vc, he, ⟨h, ho, hm, by have := d.lts; omega, fun k hk => by have := l2 k hk; have := d.lts; omega, by omega⟩, op, bb, l1, l2⟩
theorem OpenIs.inj {S : List (List Int)} {fr rm s s' : Nat} {nt nt' bs bs' : List Int} (h : OpenIs S fr rm s nt bs) (h' : OpenIs S fr rm s' nt' bs') : s = s' ∧ nt = nt' ∧ bs = bs' := by
  obtain ⟨⟨X0, X1, h0, h1, ho⟩, hr⟩ := h
  obtain ⟨⟨Y0, Y1, k0, k1, ko⟩, kr⟩ := h'
  obtain rfl := Option.some.inj (h0.symm.trans k0)
  obtain rfl := Option.some.inj (h1.symm.trans k1)
  rw [ho] at ko
  simp only [Prod.mk.injEq] at ko
  obtain ⟨e1, e2, e3⟩ := ko
  refine ⟨e1, e3, ?_⟩
  apply List.ext_getElem?
  intro j
  rcases Nat.lt_or_ge j bs.length with q | q
  · have q' : j < bs'.length := by omega
    have e := (hr j q).symm.trans (kr j q')
    rw [List.getD, List.getD, List.getElem?_eq_getElem q, List.getElem?_eq_getElem q'] at e
    rw [List.getElem?_eq_getElem q, List.getElem?_eq_getElem q']
    simpa using e
  · rw [List.getElem?_eq_none q, List.getElem?_eq_none (by omega)]
theorem OpenIs.outs {S S' : List (List Int)} {fr rm s fr2 rm2 : Nat} {nt bs : List Int} (h : OpenIs S fr rm s nt bs) (o : Outs fr2 rm2 S S') (hb : bs.length ≤ rm * 64) (ap : fr2 + 2 + rm2 ≤ fr ∨ fr + 2 + rm ≤ fr2) : OpenIs S' fr rm s nt bs := by
  obtain ⟨⟨X0, X1, h0, h1, ho⟩, hr⟩ := h
  refine ⟨⟨X0, X1, (o fr (by omega)).trans h0, (o (fr + 1) (by omega)).trans h1, ho⟩, fun j hj => ?_⟩
  rw [← hr j hj]
  unfold bt
  simp only [List.getD_eq_getElem?_getD]
  rw [o (((fr + 2) * 64 + j) / 64) (by omega)]
theorem fit_own {w : World} {B : Nat} {a : Option Addr} {n c : Nat} {xs : List Int} (h : Own w B (.slice a n c) xs) : Row w a n xs := h.row.1
theorem spot_of {w : World} {b o : Nat} {sp : Option Nat} {v : Value} (h : w.cell? ⟨b, o, sp⟩ = some v) : sp = none := by
  cases sp with
  | none => rfl
  | some x =>
    unfold World.cell? at h
    split at h <;> simp at h
theorem add_zero_addr (p : Addr) : p.add 0 = p := by
  unfold Addr.add
  simp
theorem sl_of {w : World} {a : Option Addr} {n c : Nat} {zs : List Int} (h : IsRow .u8 w a n c zs) : Sl w a n c (zs.take n) := by
  refine ⟨row_of h, ?_⟩
  rcases h with ⟨rfl, rfl, rfl, rfl⟩ | ⟨x, rfl, h2, h3, h4, h5, h6⟩
  · exact ⟨by omega, by omega, fun h => absurd h (by omega)⟩
  · unfold maxLen at h3
    refine ⟨h2, by omega, fun h0 p hp => ?_⟩
    cases hp
    obtain ⟨b, o, sp⟩ := x
    have q := h5 0 (by omega)
    rw [add_zero_addr] at q
    exact spot_of q
theorem run_str_cat (a : Act) (o : Oper) (w : World) (x y : Operand) (xs ys : List Int) (ho : o.op = .binOp .add 9 x y 9) (hx : a.eval x = .string (strOfNums xs)) (hy : a.eval y = .string (strOfNums ys)) (h0 : xs.length ≤ 8388608) (h1 : ys.length ≤ 8388608) : (execOp a.eval o).run Try.prog w = .ok (.value (.string (strOfNums (xs ++ ys)))) w := by
  have q := run_string_add_lists (P := Try.prog) w (xs.map fun n => UInt8.ofNat n.toNat) (ys.map fun n => UInt8.ofNat n.toNat) (by simp; omega) (by simp; omega)
  rw [← List.map_append] at q
  have u := run_underlying Try.underlying9 w
  have q' : (Op.stringOp .add (strOfNums xs) (strOfNums ys)).run Try.prog w = .ok (.string (strOfNums (xs ++ ys))) w := q
  unfold execOp
  simp only [ho, hx, hy]
  go_simp
  try simp only [q', Result.andThen_ok]
theorem ser_any {w : World} {lb b fr rm : Nat} {s c : Nat} {nt : List Int} {v : Value} {ov : Bool} (h : LS w lb b fr rm s c nt v ov) : Calls Try.prog 14 #[.pointer (some ⟨lb, 0, none⟩)] w fun e w' => e = .returned (.int .u64 ((s : Nat) : Int)) ∧ Below w.heap.size w w' := (serialD h).mono fun e w' ⟨he, hw⟩ => ⟨he, hw ▸ Below.refl _ _⟩
/-- two logs apart. -/
def AP (l1 : Nat) (v1 : Value) (l2 : Nat) (v2 : Value) : Prop := l1 ≠ l2 ∧ (∀ k, v1.ownBlock = some k → k ≠ l2) ∧ (∀ k, v2.ownBlock = some k → k ≠ l1) ∧ ∀ k, v1.ownBlock = some k → v2.ownBlock ≠ some k
theorem AP.symm {l1 l2 : Nat} {v1 v2 : Value} (h : AP l1 v1 l2 v2) : AP l2 v2 l1 v1 := ⟨h.1.symm, h.2.2.1, h.2.1, fun k hk e => h.2.2.2 k e hk⟩
theorem ap_x {l1 l2 : Nat} {v1 v1' : Value} {w : World} {b gs gm n fr rm s vc : Nat} {nt bs : List Int} {va : Option Addr} (h : AP l1 v1 l2 (.slice va bs.length vc)) (hn : ∀ k, v1'.ownBlock = some k → w.heap.size ≤ k ∨ v1.ownBlock = some k) (g : LG w b gs gm n fr rm l2 s nt bs va vc) : AP l1 v1' l2 (.slice va bs.length vc) :=
  ⟨h.1, fun k hk => by
    rcases hn k hk with q | q
    · have := g.1.1.lt; omega
    · exact h.2.1 k q, h.2.2.1, fun k hk e => by
    rcases hn k hk with q | q
    · have := (g.2.1.lt k e).2; omega
    · exact h.2.2.2 k q e⟩
theorem ap_far {l1 l2 : Nat} {v1 : Value} {w w' : World} {b gs gm n fr rm s vc : Nat} {nt bs : List Int} {va : Option Addr} (h : AP l1 v1 l2 (.slice va bs.length vc)) (f : Fl (Pv l1 b gs gm v1) w w') (g : LG w b gs gm n fr rm l2 s nt bs va vc) : LG w' b gs gm n fr rm l2 s nt bs va vc :=
  g.far f (fun q => by
    have z := g.2.2.2.1
    rcases q with q | q | q | q | q
    · exact z.1 q
    · exact z.2.1 q
    · exact z.2.2 q
    · exact h.1 q.symm
    · exact h.2.1 l2 q rfl) (fun k hk q => by
    have z := g.2.2.2.2.1 k hk
    rcases q with q | q | q | q | q
    · exact z.1 q
    · exact z.2.1 q
    · exact z.2.2.1 q
    · exact h.2.2.1 k hk q
    · exact h.2.2.2 k q hk)
theorem nt_ok (x : Int) (h : 0 ≤ x ∧ x ≤ 255) : NtOk (List.replicate 16 x) := ⟨by simp, fun y hy => by rw [List.eq_of_mem_replicate hy]; exact h⟩
end Go.Proofs.Yteabblmhcjpboaa.D
