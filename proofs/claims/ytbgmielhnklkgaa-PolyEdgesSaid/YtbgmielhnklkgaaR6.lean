/- What the laws with a reference want. -/
import Derived.Test.YtbgmielhnklkgaaR5
namespace Go.Proofs.Ytbgmielhnklkgaa
open Go Go.RowKit

theorem run_slto (a : Act) (o : Oper) (w : World) (x i : Operand) (ad : Option Addr) (len cap m : Nat) (ho : o.op = .slice 24 x none (some i) none) (hx : a.eval x = .slice ad len cap) (hi : a.eval i = .int .i64 (m : Int)) (hm : m ≤ cap) (hc : cap < 9223372036854775808) (hsp : 0 < cap → ∀ p, ad = some p → p.spot = none) :
    (execOp a.eval o).run Try.prog w = .ok (.value (.slice ad m cap)) w := by
  have h1 : (0 : Int) ≤ (m : Int) := by omega
  have h2 : (m : Int) ≤ (cap : Int) := by omega
  unfold execOp
  simp only [ho, hx, Option.map_some, Option.map_none, hi]
  cases ad with
  | none => go_simp
  | some p =>
    obtain ⟨b, off, sp⟩ := p
    by_cases hz : cap = 0
    · subst hz
      obtain rfl : m = 0 := by omega
      go_simp
      try simp
    · obtain rfl : sp = none := hsp (by omega) _ rfl
      go_simp
theorem Sl.takeN {w : World} {a : Option Addr} {n c : Nat} {xs : List Int} (h : Sl w a n c xs) (k : Nat) (hk : k ≤ n) : Sl w a k c (xs.take k) := by
  obtain ⟨h1, h2, h3, h4⟩ := h
  have hl := h1.1
  refine ⟨⟨by rw [List.length_take]; omega, by have := h1.2.1; omega, fun x hx => h1.2.2.1 x (List.mem_of_mem_take hx), fun j hj => ?_⟩, by omega, h3, h4⟩
  obtain ⟨g, o, e, hc⟩ := h1.2.2.2 j (by omega)
  refine ⟨g, o, e, ?_⟩
  rw [hc, List.getD, List.getD, List.getElem?_take, if_pos hj]
theorem forIn_yield (P : Program) (w : World) (n : Nat) (f : Nat → (Option Bool × Unit) → Sem (ForInStep (Option Bool × Unit))) (hf : ∀ i, i < n → (f i (none, ())).run P w = .ok (.yield (none, ())) w) :
    ∀ k i, i + k ≤ n → (forIn (List.range' i k) (none, ()) f : Sem (Option Bool × Unit)).run P w = .ok (none, ()) w
  | 0, i, _ => by simp [go_sem]
  | k + 1, i, h => by
    rw [List.range'_succ, List.forIn_cons, Sem.run_bind, hf i (by omega), Result.andThen_ok]
    exact forIn_yield P w n f hf k (i + 1) (by omega)
theorem nat_u16' {p : Int} (h : (Lit.int .u16 p).wf = true) : ∃ P : Nat, p = (P : Int) ∧ P < 65536 := by
  have h1 := bounds_u16 h
  exact ⟨p.toNat, by omega, by omega⟩
theorem run_remn (a : Act) (o : Oper) (w : World) (x y : Operand) (p q : Nat) (ho : o.op = .binOp .rem 3 x y 3) (hx : a.eval x = .int .i64 (p : Int)) (hy : a.eval y = .int .i64 (q : Int)) (hp : p < 4611686018427387904) (hq : 0 < q) (hq2 : q < 4611686018427387904) : (execOp a.eval o).run Try.prog w = .ok (.value (.int .i64 ((p % q : Nat) : Int))) w := by
  have u := run_underlying Try.underlying3 w
  have h0 : ¬ ((q : Int) = 0) := by omega
  have h1 : ¬ ((q : Int) = -1) := by omega
  have e : (p : Int).tmod (q : Int) = ((p % q : Nat) : Int) := by rw [Int.tmod_eq_emod_of_nonneg (by omega)]; rfl
  have hm := Nat.mod_lt p hq
  unfold execOp
  simp only [ho, hx, hy]
  go_simp
  all_goals first | omega | (simp [e]; done) | (rw [e, wrap_in _ (by omega) (by omega)])
theorem run_remk (a : Act) (o : Oper) (w : World) (x y : Operand) (p q r : Nat) (ho : o.op = .binOp .rem 3 x y 3) (hx : a.eval x = .int .i64 (p : Int)) (hy : a.eval y = .int .i64 (q : Int)) (hp : p < 4611686018427387904) (hq : 0 < q) (hq2 : q < 4611686018427387904) (hr : p % q = r) : (execOp a.eval o).run Try.prog w = .ok (.value (.int .i64 (r : Int))) w := by
  subst hr
  exact run_remn a o w x y p q ho hx hy hp hq hq2
theorem eq26 (L : List Int) (hl : L.length = 16) (w : World) : (Op.equalIn 10000 26 (.agg (u8l L).toArray) (.agg (u8l L).toArray)).run Try.prog w = .ok true w := by
  have u3 := Try.underlying5
  have ia3 := Try.isAgg5
  have z3 := Try.sizeOf5
  rw [show (10000 : Nat) = 9999 + 1 from rfl, Op.equalIn]
  simp only [Sem.run_bind, run_underlying Try.underlying26, Result.andThen_ok]
  simp only [Std.Legacy.Range.forIn_eq_forIn_range', Std.Legacy.Range.size, Nat.sub_zero, Nat.add_sub_cancel, Nat.div_one]
  go_simp
  rw [forIn_yield Try.prog w 16 _ ?_ 16 0 (by omega)]
  · simp [go_sem]
  · intro i hi
    have e : (u8l L)[i]? = some (.int .u8 (L[i]'(by omega))) := by simp [u8l, List.getElem?_eq_getElem (show i < L.length by omega)]
    rw [e]
    go_simp
attribute [local go_sem] eq26
set_option maxRecDepth 100000 in
theorem run_eq26 (a : Act) (o : Oper) (w : World) (x y : Operand) (L : List Int) (hl : L.length = 16) (ho : o.op = .binOp .eql 26 x y 26) (hx : a.eval x = .agg (u8l L).toArray) (hy : a.eval y = .agg (u8l L).toArray) : (execOp a.eval o).run Try.prog w = .ok (.value (.bool true)) w := by
  have h := eq26 L hl w
  have g : (Try.prog.eqGuardType Try.prog.depth 26) = false := by kernel_rfl
  unfold execOp
  simp only [ho, hx, hy]
  go_simp
theorem run_rem300 (a : Act) (o : Oper) (w : World) (x : Operand) (p m : Nat) (ho : o.op = .binOp .rem 30 x (.const (.int .u16 300)) 30) (hx : a.eval x = .int .u16 (p : Int)) (hm : p % 300 = m) : (execOp a.eval o).run Try.prog w = .ok (.value (.int .u16 (m : Int))) w := by
  have u := run_underlying Try.underlying30 w
  have hc : ∀ v, a.eval (.const v) = v := fun _ => rfl
  subst hm
  unfold execOp
  simp only [ho, hx, hc]
  go_simp
  simp [Int.tmod_eq_emod_of_nonneg, IntKind.wrap, IntKind.bits, IntKind.signed]
  try omega
theorem code_flat (w : World) (key : List Int) (g ln : Nat) (L : List (List Int)) (t : List Int) (hk : key.length = 32 ∧ ∀ x ∈ key, 0 ≤ x ∧ x ≤ 255) (h : PSl w (some ⟨g, 0, none⟩) ln L) (hl : ln ≤ 1000) (ht : L.flatten = t) :
    Calls Try.prog 10 #[.agg (u8l key).toArray, .slice (some ⟨g, 0, none⟩) ln ln] w fun e w' => e = .returned (.agg (u8l (codeS key t)).toArray) ∧ Below w.heap.size w w' := by
  subst ht
  exact code_any w key (some ⟨g, 0, none⟩) ln ln L hk h (by omega)
theorem psl_two {w : World} {g : Nat} {a a' : Option Addr} {n c n' c' : Nat} {xs ys : List Int} (h : Blk w g 24 #[.slice a n c, .slice a' n' c']) (hs : Sl w a n c xs) (hs' : Sl w a' n' c' ys) (hn : n ≤ 4611686018427387904 ∧ n' ≤ 4611686018427387904) : PSl w (some ⟨g, 0, none⟩) 2 [xs, ys] :=
  ⟨rfl, by unfold maxLen; omega, fun k hk => by
    rcases (show k = 0 ∨ k = 1 by omega) with rfl | rfl
    · exact ⟨g, 0, a, n, c, rfl, by rw [h.cell]; rfl, hs, hn.1⟩
    · exact ⟨g, 0, a', n', c', rfl, by rw [h.cell]; rfl, hs', hn.2⟩⟩
theorem own_sl {w : World} {b : Nat} {v : Value} {xs : List Int} (h : Own w b v xs) : ∃ a c, v = .slice a xs.length c ∧ Sl w a xs.length c xs := by
  rcases h.form with ⟨h1, h2⟩ | ⟨g, cap, cur, h1, h2, h3, h4, h5, h6, h7⟩
  · subst h2
    exact ⟨none, 0, h1, sl_nil _⟩
  · refine ⟨_, _, h1, ?_⟩
    rw [h1] at h
    unfold maxLen at h5
    exact ⟨h.row.1, h4, by omega, fun _ p hp => by cases hp; rfl⟩
theorem gb_ownb {w w' : World} {B : Nat} {v : Value} {xs : List Int} (h : Own w B v xs) (hg : w.grownBy w' v.ownBlock) (hB : B ≤ w.heap.size) : Below B w w' :=
  ⟨hg.os, hg.tape, hg.output, hg.size, fun k hk => hg.block k (by omega) (fun e => by have := h.lt k e.symm; omega)⟩
/-- a text of one's own that grows. -/
def BPSt (w W : World) (v : Value) (xs : List Int) : Prop := Own W w.heap.size v xs ∧ Below w.heap.size w W
theorem BPSt.nil (w : World) : BPSt w w (.slice none 0 0) [] := ⟨Own.nil _ _, Below.refl _ _⟩
theorem BPSt.push {w W : World} {v : Value} {xs : List Int} (h : BPSt w W v xs) (x : Int) (hx : 0 ≤ x ∧ x ≤ 255) (hn : xs.length ≤ 2000000) (W1 : World) (hW : W1 = W.alloc (.cells #[.int .u8 x] 5)) :
    ∃ v2 W2, (Builtin.append_ #[24, 24] 24 #[v, .slice (some ⟨W.heap.size, 0, none⟩) 1 1]).run Try.prog W1 = .ok v2 W2 ∧ BPSt w W2 v2 (xs ++ [x]) := by
  subst hW
  have hs := h.2.size
  have hsz : (W.alloc (.cells #[.int .u8 x] 5)).heap.size = W.heap.size + 1 := by simp
  have o1 := h.1.alloc (.cells #[.int .u8 x] 5)
  obtain ⟨v2, W2, r1, r2, r3, r4, r5⟩ := append_own (W.alloc (.cells #[.int .u8 x] 5)) w.heap.size v xs [x] (some ⟨W.heap.size, 0, none⟩) 1 1 o1 (row_single (Blk.new _ _ _) hx) (by omega) (by rw [hsz]; omega)
  exact ⟨v2, W2, r1, r2, (h.2.alloc hs _).trans (gb_ownb o1 r3 (by rw [hsz]; omega))⟩
/-- a key whose first k bytes are x. -/
def ek (x k : Nat) : List Int := List.replicate k ((x : Nat) : Int) ++ List.replicate (32 - k) 0
theorem ek_len (x k : Nat) : (ek x k).length = k + (32 - k) := by simp [ek]
theorem ek_ok {x k : Nat} (hx : x < 256) (hk : k ≤ 32) : (ek x k).length = 32 ∧ ∀ y ∈ ek x k, 0 ≤ y ∧ y ≤ 255 := by
  refine ⟨by rw [ek_len]; omega, fun y hy => ?_⟩
  rcases List.mem_append.1 hy with hy | hy
  · have := List.eq_of_mem_replicate hy; omega
  · have := List.eq_of_mem_replicate hy; omega
theorem ek_set {w : World} {g x k : Nat} (hk : k < 32) (h : Blk w g 23 (u8l (ek x k)).toArray) : Blk (w.setCell ⟨g, k, none⟩ (.int .u8 ((x : Nat) : Int))) g 23 (u8l (ek x (k + 1))).toArray := by
  have q := h.set k (.int .u8 ((x : Nat) : Int))
  have e : (u8l (ek x k)).set k (.int .u8 ((x : Nat) : Int)) = u8l (ek x (k + 1)) := by
    unfold u8l ek
    rw [← List.map_set, List.set_append_right _ _ (by simp), List.length_replicate, Nat.sub_self, show 32 - k = (32 - (k + 1)) + 1 by omega, List.replicate_succ (n := 32 - (k + 1)), List.set_cons_zero, List.replicate_succ' (n := k)]
    simp
  rw [e] at q
  exact q
end Go.Proofs.Ytbgmielhnklkgaa
