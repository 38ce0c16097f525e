/- The reference's code. -/
import Derived.Test.YtlbfohpkngmaoaaDoorPoR4
import Derived.Test.YtlbfohpkngmaoaaDoorPoWalkPolyShifts
namespace Go.Proofs.YtlbfohpkngmaoaaDoor.Po
open Go Go.RowKit
theorem run_rem16 (a : Act) (o : Oper) (w : World) (x : Operand) (p q : Nat) (ho : o.op = .binOp .rem 3 x (.const (.int .i64 16)) 3) (hx : a.eval x = .int .i64 (p : Int)) (hq : p % 16 = q) (hp : p < 100000000000000) : (execOp a.eval o).run Tryd.prog w = .ok (.value (.int .i64 (q : Int))) w := by
 have u := run_underlying Tryd.underlying3 w
 have hc : ∀ v, a.eval (.const v) = v := fun _ => rfl
 subst hq
 unfold execOp
 simp only [ho, hx, hc]
 go_simp
 simp [Int.tmod_eq_emod_of_nonneg, IntKind.wrap, IntKind.bits, IntKind.signed]
 try omega
theorem run_min (a : Act) (o : Oper) (w : World) (x y : Operand) (p q r : Nat) (ho : o.op = .call { callee := .builtin .min, args := #[x, y], argTypes := #[3, 3] }) (hx : a.eval x = .int .i64 (p : Int)) (hy : a.eval y = .int .i64 (q : Int)) (hr : min p q = r) : (execOp a.eval o).run Tryd.prog w = .ok (.value (.int .i64 (r : Int))) w := by
 have e : ∀ ats ty, Builtin.min_ ats ty #[.int .i64 (p : Int), .int .i64 (q : Int)] = pure (.int .i64 (r : Int)) := by
  intro ats ty
  unfold Builtin.min_
  have : (if q < p then (q : Int) else (p : Int)) = (r : Int) := by split <;> omega
  simp [Builtin.min2, this]
 unfold execOp
 simp only [ho, resolve, invoke, builtin, Sem.run_bind, Sem.run_pure, Result.andThen_ok, List.map_toArray, List.map_cons, List.map_nil, hx, hy, e]
theorem run_slice2 (a : Act) (o : Oper) (w : World) (x i j : Operand) (ad : Option Addr) (len cap l h m : Nat) (ho : o.op = .slice 24 x (some i) (some j) none) (hx : a.eval x = .slice ad len cap) (hi : a.eval i = .int .i64 (l : Int)) (hj : a.eval j = .int .i64 (h : Int)) (hl : l ≤ h ∧ h ≤ len) (hc : len ≤ cap) (hw : cap < 9223372036854775808 ∧ (0 < cap → ∀ p, ad = some p → p.spot = none)) (hm : h - l = m) :
  (execOp a.eval o).run Tryd.prog w = .ok (.value (.slice (dropA ad cap l) m (cap - l))) w := by
 subst hm
 obtain ⟨hw, hsp⟩ := hw
 have h1 : (0 : Int) ≤ (l : Int) := by omega
 have h2 : (l : Int) ≤ (h : Int) := by omega
 have h3 : (h : Int) ≤ (cap : Int) := by omega
 have h4 : (l : Int) ≤ (cap : Int) := by omega
 have h5 : (0 : Int) ≤ (h : Int) := by omega
 unfold execOp
 cases ad with
 | none =>
  simp only [ho, hx, Option.map_some, Option.map_none, hi, hj]
  go_simp
  rfl
 | some p =>
  obtain ⟨g, off, spot⟩ := p
  simp only [ho, hx, Option.map_some, Option.map_none, hi, hj]
  by_cases hq : cap = l
  ·subst hq
   by_cases hz : cap = 0
   ·subst hz
    obtain rfl : h = 0 := by omega
    go_simp
    simp [dropA]
   ·obtain rfl : spot = none := hsp (by omega) _ rfl
    go_simp
    simp [dropA]
  ·obtain rfl : spot = none := hsp (by omega) _ rfl
   go_simp
   simp [dropA, hq]
theorem run_box22 (a : Act) (o : Oper) (w w1 : World) (x : Operand) (ks : List Int) (ho : o.op = .box 22 x) (hx : a.eval x = .agg (u8l ks).toArray) (hl : ks.length = 32) (h1 : w1 = w.alloc (.cells (u8l ks).toArray 22)) :
  (execOp a.eval o).run Tryd.prog w = .ok (.value (.pointer (some ⟨w.heap.size, 0, none⟩))) w1 := by
 have h : ¬ (u8l ks).length = 0 := by simp [u8l, hl]
 subst h1
 unfold execOp
 simp [ho, hx, Instr.box, newVar, newRow, Value.cells, h]
theorem key_row {w : World} {g : Nat} {key : List Int} (hk : key.length = 32 ∧ ∀ x ∈ key, 0 ≤ x ∧ x ≤ 255) (h : Blk w g 22 (u8l key).toArray) (o n : Nat) (hn : o + n ≤ 32) : Row w (some ⟨g, o, none⟩) n ((key.drop o).take n) := by
 refine ⟨by rw [List.length_take, List.length_drop]; omega, by unfold maxLen; omega, fun x hx => hk.2 x (List.mem_of_mem_drop (List.mem_of_mem_take hx)), fun j hj => ⟨g, o, rfl, ?_⟩⟩
 have hx : o + j < key.length := by omega
 rw [h.cell]
 simp [u8l, List.getD, List.getElem?_take, List.getElem?_drop, hj, List.getElem?_eq_getElem hx]
theorem key_digs {key : List Int} (hk : key.length = 32 ∧ ∀ x ∈ key, 0 ≤ x ∧ x ≤ 255) (o n : Nat) (hn : o + n ≤ 32) : (((key.drop o).take n).map Int.toNat).length = n ∧ ∀ z ∈ ((key.drop o).take n).map Int.toNat, z < 256 :=
 ⟨by rw [List.length_map, List.length_take, List.length_drop]; omega, nat_lt (fun x hx => hk.2 x (List.mem_of_mem_drop (List.mem_of_mem_take hx)))⟩
theorem digs_one {l : List Nat} (h : ∀ z ∈ l, z < 256) : ∀ z ∈ l ++ [1], z < 256 := by
 intro z hz
 rcases List.mem_append.1 hz with hz | hz
 ·exact h z hz
 ·simp at hz; omega
def RW (W : World) (g cap : Nat) (ds : List Nat) : Prop := ds.length = 16 ∧ (∀ z ∈ ds, z < 256) ∧ ∃ cur : List Value, Blk W g 3 cur.toArray ∧ cur.length = cap ∧ 16 ≤ cap ∧ cur.take 16 = nv ds
theorem RW.len {W : World} {g cap : Nat} {ds : List Nat} (h : RW W g cap ds) : ds.length = 16 := h.1
theorem RW.digs {W : World} {g cap : Nat} {ds : List Nat} (h : RW W g cap ds) : ∀ z ∈ ds, z < 256 := h.2.1
theorem RW.lt {W : World} {g cap : Nat} {ds : List Nat} (h : RW W g cap ds) : g < W.heap.size := by
 obtain ⟨_, _, cur, h1, _⟩ := h
 exact h1.lt
theorem RW.free {W : World} {g cap : Nat} {ds : List Nat} (h : RW W g cap ds) (j : Nat) : W.frozen? ⟨g, j, none⟩ = false := by
 obtain ⟨_, _, cur, h1, _⟩ := h
 exact h1.free _
theorem RW.cell {W : World} {g cap : Nat} {ds : List Nat} (h : RW W g cap ds) {j : Nat} (hj : j < 16) : W.cell? ⟨g, 0 + j, none⟩ = some (.int .i64 ((ds.getD j 0 : Nat) : Int)) := by
 obtain ⟨hl, _, cur, h1, h2, h3, h4⟩ := h
 rw [h1.cell, Nat.zero_add, List.getElem?_toArray]
 have e : (cur.take 16)[j]? = (nv ds)[j]? := by rw [h4]
 rw [List.getElem?_take, if_pos hj] at e
 rw [e]
 simp [nv, List.getD, List.getElem?_eq_getElem (show j < ds.length by omega)]
theorem RW.row {W : World} {g cap : Nat} {ds : List Nat} (h : RW W g cap ds) : I.Row W (some ⟨g, 0, none⟩) 16 (ni ds) :=
 ⟨by rw [ni_len]; exact h.1, by unfold maxLen; omega, trivial, fun j hj => ⟨g, 0, rfl, by rw [h.cell hj, ni_getD]⟩⟩
theorem RW.set {W : World} {g cap : Nat} {ds : List Nat} (h : RW W g cap ds) (j y : Nat) (hy : y < 256) : RW (W.setCell ⟨g, j, none⟩ (.int .i64 ((y : Nat) : Int))) g cap (ds.set j y) := by
 obtain ⟨hl, hd, cur, h1, h2, h3, h4⟩ := h
 refine ⟨by simp [hl], fun z hz => ?_, cur.set j (.int .i64 ((y : Nat) : Int)), h1.set _ _, by simp [h2], h3, by rw [List.take_set, h4, nv_set]⟩
 rcases List.mem_or_eq_of_mem_set hz with hz | rfl
 ·exact hd z hz
 ·exact hy
theorem own_rw {w W : World} {v : Value} {ds : List Nat} (h : I.Own W w.heap.size v (ni ds)) (hd : ds.length = 16 ∧ ∀ z ∈ ds, z < 256) : ∃ g cap, v = .slice (some ⟨g, 0, none⟩) 16 cap ∧ w.heap.size ≤ g ∧ RW W g cap ds := by
 rcases h.form with ⟨h1, h2⟩ | ⟨g, cap, cur, h1, h2, h3, h4, h5, h6, h7⟩
 ·have := congrArg List.length h2
  rw [ni_len] at this
  simp [hd.1] at this
 ·rw [ni_len, hd.1] at h1 h4 h7
  exact ⟨g, cap, h1, h2, hd.1, hd.2, cur.toList, by simpa using h3, by simpa using h6, h4, by rw [h7]; simp [nv, ni]⟩
def CW (w W : World) (g2 g4 g5 cap : Nat) (key : List Int) (rd : List Nat) : Prop := Below w.heap.size w W ∧ Blk W g2 22 (u8l key).toArray ∧ Blk W g4 39 (u8l (List.replicate 16 0)).toArray ∧ RW W g5 cap rd
theorem CW.below {w W X : World} {g2 g4 g5 cap : Nat} {key : List Int} {rd : List Nat} (h : CW w W g2 g4 g5 cap key rd) (hb : Below W.heap.size W X) : CW w X g2 g4 g5 cap key rd := by
 obtain ⟨h1, h2, h3, hl, hd, cur, h4, h5⟩ := h
 exact ⟨h1.trans (hb.mono h1.size), h2.below hb, h3.below hb, hl, hd, cur, h4.below hb, h5⟩
theorem CW.set {w W : World} {g2 g4 g5 cap : Nat} {key : List Int} {rd : List Nat} (h : CW w W g2 g4 g5 cap key rd) (j y : Nat) (hy : y < 256) (n2 : g2 ≠ g5) (n4 : g4 ≠ g5) (hw : w.heap.size ≤ g5) : CW w (W.setCell ⟨g5, j, none⟩ (.int .i64 ((y : Nat) : Int))) g2 g4 g5 cap key (rd.set j y) :=
 ⟨h.1.setCell (p := ⟨g5, j, none⟩) hw _, h.2.1.other _ _ n2, h.2.2.1.other _ _ n4, h.2.2.2.set j y hy⟩
theorem CW.other {w W : World} {g2 g4 g5 cap g j : Nat} {v : Value} {key : List Int} {rd : List Nat} (h : CW w W g2 g4 g5 cap key rd) (n2 : g2 ≠ g) (n4 : g4 ≠ g) (n5 : g5 ≠ g) (hw : w.heap.size ≤ g) : CW w (W.setCell ⟨g, j, none⟩ v) g2 g4 g5 cap key rd := by
 obtain ⟨h1, h2, h3, hl, hd, cur, h4, h5⟩ := h
 exact ⟨h1.setCell (p := ⟨g, j, none⟩) hw _, h2.other _ _ n2, h3.other _ _ n4, hl, hd, cur, h4.other _ _ n5, h5⟩
def cl1 (d : List Nat) : Nat → List Nat
 | 0 => d
 | k + 1 => (cl1 d k).set (3 + 4 * k) ((cl1 d k).getD (3 + 4 * k) 0 % 16)
def cl2 (d : List Nat) : Nat → List Nat
 | 0 => d
 | k + 1 => (cl2 d k).set (4 + 4 * k) ((cl2 d k).getD (4 + 4 * k) 0 / 4 * 4)
theorem and_digit (x m y n : Nat) (hx : x < 256) (hm : m < 256) : (x + 256 * y) &&& (m + 256 * n) = (x &&& m) + 256 * (y &&& n) := by
 have h1 : ((x + 256 * y) &&& (m + 256 * n)) % 2 ^ 8 = (x + 256 * y) % 2 ^ 8 &&& (m + 256 * n) % 2 ^ 8 := Nat.and_mod_two_pow
 have h2 : ((x + 256 * y) &&& (m + 256 * n)) / 2 ^ 8 = (x + 256 * y) / 2 ^ 8 &&& (m + 256 * n) / 2 ^ 8 := Nat.and_div_two_pow
 rw [show (x + 256 * y) % 2 ^ 8 = x by omega, show (m + 256 * n) % 2 ^ 8 = m by omega] at h1
 rw [show (x + 256 * y) / 2 ^ 8 = y by omega, show (m + 256 * n) / 2 ^ 8 = n by omega] at h2
 omega
theorem and255 : ∀ x, x < 256 → x &&& 255 = x := by decide +kernel
theorem and15 : ∀ x, x < 256 → x &&& 15 = x % 16 := by decide +kernel
theorem and252 : ∀ x, x < 256 → x &&& 252 = x / 4 * 4 := by decide +kernel
theorem and_words {d0 d1 d2 d3 d4 d5 d6 d7 : Nat} (h0 : d0 < 256) (h1 : d1 < 256) (h2 : d2 < 256) (h3 : d3 < 256) (h4 : d4 < 256) (h5 : d5 < 256) (h6 : d6 < 256) (h7 : d7 < 256) :
  vd [d0, d1, d2, d3, d4, d5, d6, d7] &&& 1152921487695413247 = vd [d0, d1, d2, d3 % 16, d4 / 4 * 4, d5, d6, d7 % 16] ∧ vd [d0, d1, d2, d3, d4, d5, d6, d7] &&& 1152921487695413244 = vd [d0 / 4 * 4, d1, d2, d3 % 16, d4 / 4 * 4, d5, d6, d7 % 16] := by
 have m0 : (1152921487695413247 : Nat) = 255 + 256 * (255 + 256 * (255 + 256 * (15 + 256 * (252 + 256 * (255 + 256 * (255 + 256 * (15 + 256 * 0))))))) := by decide
 have m1 : (1152921487695413244 : Nat) = 252 + 256 * (255 + 256 * (255 + 256 * (15 + 256 * (252 + 256 * (255 + 256 * (255 + 256 * (15 + 256 * 0))))))) := by decide
 simp only [vd]
 constructor
 ·rw [m0, and_digit _ _ _ _ h0 (by omega), and_digit _ _ _ _ h1 (by omega), and_digit _ _ _ _ h2 (by omega), and_digit _ _ _ _ h3 (by omega), and_digit _ _ _ _ h4 (by omega), and_digit _ _ _ _ h5 (by omega), and_digit _ _ _ _ h6 (by omega), and_digit _ _ _ _ h7 (by omega),
   and255 _ h0, and255 _ h1, and255 _ h2, and15 _ h3, and252 _ h4, and255 _ h5, and255 _ h6, and15 _ h7, Nat.and_zero]
 ·rw [m1, and_digit _ _ _ _ h0 (by omega), and_digit _ _ _ _ h1 (by omega), and_digit _ _ _ _ h2 (by omega), and_digit _ _ _ _ h3 (by omega), and_digit _ _ _ _ h4 (by omega), and_digit _ _ _ _ h5 (by omega), and_digit _ _ _ _ h6 (by omega), and_digit _ _ _ _ h7 (by omega),
   and252 _ h0, and255 _ h1, and255 _ h2, and15 _ h3, and252 _ h4, and255 _ h5, and255 _ h6, and15 _ h7, Nat.and_zero]
theorem list16 {l : List Nat} (h : l.length = 16) : ∃ d0 d1 d2 d3 d4 d5 d6 d7 d8 d9 d10 d11 d12 d13 d14 d15, l = [d0, d1, d2, d3, d4, d5, d6, d7, d8, d9, d10, d11, d12, d13, d14, d15] := by
 match l, h with
 | [d0, d1, d2, d3, d4, d5, d6, d7, d8, d9, d10, d11, d12, d13, d14, d15], _ => exact ⟨d0, d1, d2, d3, d4, d5, d6, d7, d8, d9, d10, d11, d12, d13, d14, d15, rfl⟩
theorem cl_eq (d0 d1 d2 d3 d4 d5 d6 d7 d8 d9 d10 d11 d12 d13 d14 d15 : Nat) : cl2 (cl1 [d0, d1, d2, d3, d4, d5, d6, d7, d8, d9, d10, d11, d12, d13, d14, d15] 4) 3 = [d0, d1, d2, d3 % 16, d4 / 4 * 4, d5, d6, d7 % 16] ++ [d8 / 4 * 4, d9, d10, d11 % 16, d12 / 4 * 4, d13, d14, d15 % 16] := by
 simp only [cl1, cl2, Nat.mul_zero, Nat.add_zero, Nat.mul_one, Nat.reduceMul, Nat.reduceAdd, List.set_cons_succ, List.set_cons_zero, List.getD_cons_succ, List.getD_cons_zero, List.cons_append, List.nil_append]
theorem clamp_vd {key : List Int} (hk : key.length = 32 ∧ ∀ x ∈ key, 0 ≤ x ∧ x ≤ 255) : vd (cl2 (cl1 (((key.drop 0).take 16).map Int.toNat) 4) 3) = kr key := by
 obtain ⟨d0, d1, d2, d3, d4, d5, d6, d7, d8, d9, d10, d11, d12, d13, d14, d15, e⟩ := list16 (key_digs hk 0 16 (by omega)).1
 have hd := (key_digs hk 0 16 (by omega)).2
 have e1 : ((key.drop 0).take 8).map Int.toNat = [d0, d1, d2, d3, d4, d5, d6, d7] := by
  have : ((key.drop 0).take 8).map Int.toNat = (((key.drop 0).take 16).map Int.toNat).take 8 := by rw [← List.map_take, List.take_take]; simp
  rw [this, e]; rfl
 have e2 : ((key.drop 8).take 8).map Int.toNat = [d8, d9, d10, d11, d12, d13, d14, d15] := by
  have : ((key.drop 8).take 8).map Int.toNat = (((key.drop 0).take 16).map Int.toNat).drop 8 := by rw [← List.map_drop, List.drop_zero, List.drop_take]
  rw [this, e]; rfl
 rw [e] at hd ⊢
 simp only [List.mem_cons, List.not_mem_nil, or_false, forall_eq_or_imp, forall_eq] at hd
 obtain ⟨h0, h1, h2, h3, h4, h5, h6, h7, h8, h9, h10, h11, h12, h13, h14, h15⟩ := hd
 unfold kr vb
 rw [e1, e2, (and_words h0 h1 h2 h3 h4 h5 h6 h7).1, (and_words h8 h9 h10 h11 h12 h13 h14 h15).2]
 rw [cl_eq, vd_append]
 simp only [List.length_cons, List.length_nil, Nat.reduceAdd, Nat.reducePow]
theorem kr_lt (key : List Int) : kr key < 21267647932558653966460912964485513216 := by
 unfold kr
 have h1 : ∀ n : Nat, n &&& 1152921487695413247 ≤ 1152921487695413247 := fun n => Nat.and_le_right
 have h2 : ∀ n : Nat, n &&& 1152921487695413244 ≤ 1152921487695413244 := fun n => Nat.and_le_right
 have := h1 (vb ((key.drop 0).take 8))
 have := h2 (vb ((key.drop 8).take 8))
 omega
theorem pblk_lt {w : World} {a : Option Addr} {n : Nat} {t : List Int} (h : Row w a n t) (k : Nat) : pblk t k < 680564733841876926926749214863536422912 := by
 unfold pblk
 rw [vb_append]
 have h1 := vb_lt (l := (t.drop (16 * k)).take 16) (fun x hx => h.2.2.1 x (List.mem_of_mem_drop (List.mem_of_mem_take hx)))
 have h2 : 256 ^ ((t.drop (16 * k)).take 16).length ≤ 256 ^ 16 := Nat.pow_le_pow_right (by omega) (by rw [List.length_take]; omega)
 have h3 : (256 : Nat) ^ 16 = 340282366920938463463374607431768211456 := by decide
 have h4 : vb [1] = 1 := by simp [vb, vd]
 rw [h4]
 omega
theorem prod_lt {r x y : Nat} (hr : r < 21267647932558653966460912964485513216) (hx : x < p130) (hy : y < 680564733841876926926749214863536422912) : (x + y) * r < 57896044618658097711785492504343953926634992332820282019728792003956564819968 := by
 unfold p130 at hx
 have : (x + y) * r ≤ 2722258935367507707706996859454145691648 * 21267647932558653966460912964485513216 := Nat.mul_le_mul (by omega) (by omega)
 have e : (2722258935367507707706996859454145691648 : Nat) * 21267647932558653966460912964485513216 = 57896044618658097711785492504343953926634992332820282019728792003956564819968 := by decide
 rcases Nat.lt_or_ge ((x + y) * r) 57896044618658097711785492504343953926634992332820282019728792003956564819968 with h | h
 ·exact h
 ·exfalso
  have h2 : (x + y) * r ≤ 2722258935367507707706996859454145691647 * 21267647932558653966460912964485513216 := Nat.mul_le_mul (by omega) (by omega)
  omega
theorem ks_take {key : List Int} (hl : key.length = 32) : vd (((key.drop 16).take 16).map Int.toNat) = ks key := by
 rw [ks_vb hl, List.take_of_length_le (by rw [List.length_drop]; omega)]
 rfl
theorem sl_cut {w : World} {a : Option Addr} {n c l h : Nat} {t : List Int} (hs : Sl w a n c t) (hl : l ≤ n) (h1 : l < h) (h2 : h ≤ n) : Row w (dropA a c l) (h - l) ((t.drop l).take (h - l)) := by
 have q := (hs.drop l hl).1
 cases hd : dropA a c l with
 | none =>
  rw [hd] at q
  obtain ⟨_, _, e, _⟩ := q.2.2.2 0 (by omega)
  cases e
 | some p =>
  rw [hd] at q
  obtain ⟨g, o, e, _⟩ := q.2.2.2 0 (by omega)
  rw [e] at q ⊢
  have := q.sub 0 (h - l) (by omega)
  simpa using this
theorem chunk_ok {w : World} {a : Option Addr} {n k en m : Nat} {t : List Int} {chd : List Nat} (h : Row w a n t) (hk : 16 * k < n) (he : 16 * k < en ∧ en ≤ n ∧ en - 16 * k ≤ 16 ∧ (en = n ∨ en = 16 * k + 16)) (hm : en - 16 * k = m) (hc : ((t.drop (16 * k)).take m).map Int.toNat = chd) :
  chd.length = m ∧ m ≤ 16 ∧ 0 < m ∧ (∀ z ∈ chd, z < 256) ∧ vd (chd ++ [1]) = pblk t k := by
 have hl := h.1
 refine ⟨by rw [← hc, List.length_map, List.length_take, List.length_drop]; omega, by omega, by omega, by rw [← hc]; exact nat_lt (fun x hx => h.2.2.1 x (List.mem_of_mem_drop (List.mem_of_mem_take hx))), ?_⟩
 have e : (t.drop (16 * k)).take 16 = (t.drop (16 * k)).take m := by
  rcases he.2.2.2 with e | e
  ·rw [List.take_of_length_le (by rw [List.length_drop]; omega), List.take_of_length_le (by rw [List.length_drop]; omega)]
  ·rw [show m = 16 by omega]
 unfold pblk vb
 rw [e, List.map_append, hc]
 rfl
def outK (v k : Nat) : List Int := (le16 v).take k ++ List.replicate (16 - k) 0
theorem outK_zero (v : Nat) : outK v 0 = List.replicate 16 0 := by simp [outK]
theorem outK_end (v : Nat) : outK v 16 = le16 v := by unfold outK; rw [List.take_of_length_le (by rw [le16_len]; omega)]; simp
theorem outK_len (v k : Nat) : (outK v k).length = min k 16 + (16 - k) := by simp [outK, le16_len]
theorem outK_set {w : World} {g v k x : Nat} (hk : k < 16) (hx : v / 256 ^ k % 256 = x) (h : Blk w g 39 (u8l (outK v k)).toArray) : Blk (w.setCell ⟨g, k, none⟩ (.int .u8 ((x : Nat) : Int))) g 39 (u8l (outK v (k + 1))).toArray := by
 have q := h.set k (.int .u8 ((x : Nat) : Int))
 have e : (u8l (outK v k)).set k (.int .u8 ((x : Nat) : Int)) = u8l (outK v (k + 1)) := by
  have hl : ((le16 v).take k).length = k := by rw [List.length_take, le16_len]; omega
  unfold u8l outK
  rw [← List.map_set, List.set_append_right _ _ (by omega), hl, Nat.sub_self, show 16 - k = (16 - (k + 1)) + 1 by omega, List.replicate_succ, List.set_cons_zero, getD_take (le16 v) 0 (by rw [le16_len]; omega)]
  have e2 : (le16 v).getD k 0 = ((x : Nat) : Int) := by rw [← hx]; simp [le16, List.getD, hk]
  rw [e2]
  simp
 rw [e] at q
 exact q
theorem irow_other {w : World} {a : Option Addr} {n g : Nat} {zs : List Int} {l : List Int} (h : I.Row w a n zs) (hb : Blk w g 39 (u8l l).toArray) (k : Nat) (v : Value) : I.Row (w.setCell ⟨g, k, none⟩ v) a n zs := by
 refine ⟨h.1, h.2.1, trivial, fun j hj => ?_⟩
 obtain ⟨g1, o1, e, hc⟩ := h.2.2.2 j hj
 refine ⟨g1, o1, e, ?_⟩
 by_cases eg : g1 = g
 ·exfalso
  subst eg
  rw [hb.cell, List.getElem?_toArray] at hc
  simp only [u8l, List.getElem?_map] at hc
  cases hq : l[o1 + j]? with
  | none => rw [hq] at hc; cases hc
  | some q => rw [hq] at hc; cases hc
 ·exact (World.cell?_of_block (a := ⟨g1, o1 + j, none⟩) (heap_setCell_other _ _ _ _ eg)).trans hc
attribute [local irreducible] wpList
set_option maxRecDepth 100000 in
set_option maxHeartbeats 16000000 in
theorem refcode_any (w : World) (key : List Int) (a : Option Addr) (n c : Nat) (t : List Int) (hk : key.length = 32 ∧ ∀ x ∈ key, 0 ≤ x ∧ x ≤ 255) (h : Sl w a n c t) (hn : n ≤ 1000000) :
  Calls Tryd.prog 30 #[.agg (u8l key).toArray, .slice a n c] w fun e w' => e = .returned (.agg (u8l (codeS key t)).toArray) ∧ Below w.heap.size w w' := by
 have HKY := Lib.hid hk
 have HS := Lib.hid h
 have HN := Lib.hid hn
 clear hk h hn
 go_enter Tryd.func30, Tryd.ntmps30
 obtain ⟨w1, hw1⟩ : ∃ V, V = w.alloc (.cells (u8l key).toArray 22) := ⟨_, rfl⟩
 obtain ⟨w2, hw2⟩ : ∃ V, V = w1.alloc (.cells (u8l (List.replicate 16 0)).toArray 39) := ⟨_, rfl⟩
 have B2 : Hid (Below w.heap.size w w2 ∧ Blk w2 w.heap.size 22 (u8l key).toArray ∧ Blk w2 w1.heap.size 39 (u8l (List.replicate 16 0)).toArray ∧ w.heap.size < w1.heap.size) := Lib.hid (by rw [hw2, hw1]; exact ⟨((Below.refl _ _).alloc (Nat.le_refl _) _).alloc (by simp) _, (Blk.new _ _ _).alloc _, Blk.new _ _ _, by simp⟩)
 have HW1 := Lib.hid hw1
 have HW2 := Lib.hid hw2
 clear hw1 hw2
 go_upto_region 0 with (fail)
 refine wp_region_lit ?_
 refine zV (.pointer (some ⟨w.heap.size, 0, none⟩)) (w1) (run_box22 _ _ _ _ _ key rfl rfl HKY.out.1 HW1.out) ?_
 refine zV (.pointer (some ⟨w1.heap.size, 0, none⟩)) (w2) (by rw [HW2.out]; kernel_rfl) ?_
 clear HW1 HW2
 obtain ⟨g2, hg2⟩ : ∃ q, w.heap.size = q := ⟨_, rfl⟩
 have G2 := Lib.hid hg2
 rw [hg2] at B2
 try rw [hg2]
 clear hg2
 generalize w1.heap.size = g4 at B2 ⊢
 go_upto_region 1 with (fail)
 refine wp_region_lit ?_
 refine zP (.slice (some ⟨g2, 0, none⟩) 16 32) ?_
 refine wpL_call 44 #[.slice (some ⟨g2, 0, none⟩) 16 32] rfl (by kernel_rfl) (((refbytes_any w2 (some ⟨g2, 0, none⟩) 16 32 _ (key_row HKY.out B2.out.2.1 0 16 (by omega)) (by omega))).mono fun e w3 ⟨v5, he, q1⟩ => ⟨v5, he, ?_⟩)
 simp only [Act.put, List.setIfInBounds_toArray, List.set_cons_zero, List.set_cons_succ]
 obtain ⟨g5, cap, e5, q2⟩ := own_rw q1.1 (key_digs HKY.out 0 16 (by omega))
 subst e5
 have F3 : Hid (CW w w3 g2 g4 g5 cap key (((key.drop 0).take 16).map Int.toNat) ∧ g2 < g4 ∧ g4 < g5) := Lib.hid ⟨⟨by rw [G2.out]; exact B2.out.1.trans (q1.2.mono (by have := B2.out.2.1.lt; omega)), B2.out.2.1.below q1.2, B2.out.2.2.1.below q1.2, q2.2⟩, B2.out.2.2.2, by have := B2.out.2.2.1.lt; have := q2.1; omega⟩
 have NE := Lib.hid F3.out.2
 clear q1 q2 B2
 refine zP (.slice (some ⟨g5, 0, none⟩) 16 cap) ?_
 obtain ⟨d0, hd0⟩ : ∃ q, ((key.drop 0).take 16).map Int.toNat = q := ⟨_, rfl⟩
 have HD0 := Lib.hid hd0
 rw [hd0] at F3
 clear hd0
 go_upto_region 2 with (fail)
 refine wp_region_lit ?_
 refine zP (.int .i64 3) ?_
 go_wp2_with fail
 go_loopw [6] (fun s6 wr => ∃ k : Nat, s6 = .int .i64 ((3 + 4 * k : Nat) : Int) ∧ Hid (k ≤ 4 ∧ CW w wr g2 g4 g5 cap key (cl1 d0 k))) (fun s6 _ => 20 - (intOf s6).toNat)
 case atStart => exact ⟨0, rfl, Lib.hid ⟨by omega, F3.out.1⟩⟩
 case round =>
  obtain ⟨k, rfl, RI⟩ := hrel
  by_cases hlt : k < 4
  ·have HK := Lib.hid hlt
   clear hlt
   obtain ⟨x, hx⟩ : ∃ q, (cl1 d0 k).getD (3 + 4 * k) 0 = q := ⟨_, rfl⟩
   have LK : Hid ((cl1 d0 k).length = 16 ∧ 3 + 4 * k < 16) := Lib.hid ⟨RI.out.2.2.2.2.len, by have := HK.out; omega⟩
   have XX : Hid ((cl1 d0 k).getD (3 + 4 * k) 0 = x ∧ x < 256) := Lib.hid ⟨hx, by rw [← hx]; exact getD_lt RI.out.2.2.2.2.digs _⟩
   have CX : Hid (wr.cell? ⟨g5, 0 + (3 + 4 * k), none⟩ = some (.int .i64 ((x : Nat) : Int))) := Lib.hid (by rw [← hx]; exact RI.out.2.2.2.2.cell LK.out.2)
   clear hx
   go_upto_region 3 with (fail)
   refine wp_region_lit ?_
   refine zP (.int .i64 ((3 + 4 * k : Nat) : Int)) ?_
   refine zQ (.bool true) (run_lti Tryd.underlying3 rfl rfl rfl (by have := HK.out; rw [decide_eq_true_eq]; omega)) ?_
   go_upto_region 5 with (fail)
   refine wp_region_lit ?_
   refine zP (.slice (some ⟨g5, 0, none⟩) 16 cap) ?_
   refine zP (.int .i64 ((3 + 4 * k : Nat) : Int)) ?_
   refine zP (.slice (some ⟨g5, 0, none⟩) 16 cap) ?_
   refine zP (.int .i64 ((3 + 4 * k : Nat) : Int)) ?_
   refine zQ (.pointer (some ⟨g5, 0 + (3 + 4 * k), none⟩)) (I.run_idx _ _ _ _ _ g5 0 16 cap (3 + 4 * k) rfl rfl rfl LK.out.2 (by unfold maxLen; omega)) ?_
   refine zQ (.int .i64 ((x : Nat) : Int)) (run_load_one _ _ _ 3 _ _ rfl (g5) (0 + (3 + 4 * k)) rfl (CX.out) (by kernel_rfl)) ?_
   refine zQ (.int .i64 ((x % 16 : Nat) : Int)) (run_rem16 _ _ _ _ x _ rfl rfl rfl (by have := XX.out.2; omega)) ?_
   refine zQ (.pointer (some ⟨g5, 0 + (3 + 4 * k), none⟩)) (I.run_idx _ _ _ _ _ g5 0 16 cap (3 + 4 * k) rfl rfl rfl LK.out.2 (by unfold maxLen; omega)) ?_
   refine wpL_store_one rfl rfl (g5) (0 + (3 + 4 * k)) rfl (.int .i64 ((x % 16 : Nat) : Int)) rfl rfl size3' (by rw [CX.out]; rfl) (RI.out.2.2.2.2.free _) ?_
   simp only [Act.put, List.setIfInBounds_toArray, List.set_cons_zero, List.set_cons_succ]
   obtain ⟨w4, hw4⟩ : ∃ V, V = wr.setCell ⟨g5, 0 + (3 + 4 * k), none⟩ (.int .i64 ((x % 16 : Nat) : Int)) := ⟨_, rfl⟩
   rw [← hw4]
   have NX : Hid (k + 1 ≤ 4 ∧ CW w w4 g2 g4 g5 cap key (cl1 d0 (k + 1))) := Lib.hid (by rw [hw4, Nat.zero_add]; exact ⟨HK.out, by rw [show cl1 d0 (k + 1) = (cl1 d0 k).set (3 + 4 * k) (x % 16) by rw [← XX.out.1]; rfl]; exact RI.out.2.set _ _ (by have := XX.out.2; omega) (by have := NE.out; omega) (by have := NE.out; omega) (by have := NE.out; have := G2.out; omega)⟩)
   clear hw4
   go_upto_region 4 with (fail)
   refine wp_region_lit ?_
   refine zP (.int .i64 ((3 + 4 * k : Nat) : Int)) ?_
   refine zQ (.int .i64 ((3 + 4 * (k + 1) : Nat) : Int)) (run_addi Tryd.underlying3 rfl rfl rfl _ (by have := HK.out; rw [wrap_in _ (by omega) (by omega)]; omega)) ?_
   refine zP (.int .i64 ((3 + 4 * (k + 1) : Nat) : Int)) ?_
   unfold wpList
   go_roundw
   case rel => first | exact ⟨k + 1, rfl, NX⟩ | ((repeat apply Exists.intro); exact ⟨⟨k + 1, rfl, NX⟩, rfl⟩)
   case measure => simp [intOf]; have := HK.out; omega
  ·have HK := Lib.hid hlt
   have EK : Hid (k = 4) := Lib.hid (by have := RI.out.1; omega)
   clear hlt
   have RIf : Hid (CW w wr g2 g4 g5 cap key (cl1 d0 4)) := Lib.hid (by have h := RI.out.2; rw [EK.out] at h; exact h)
   clear RI
   go_upto_region 3 with (fail)
   refine wp_region_lit ?_
   refine zP (.int .i64 ((3 + 4 * k : Nat) : Int)) ?_
   refine zQ (.bool false) (run_lti Tryd.underlying3 rfl rfl rfl (by have := HK.out; have := EK.out; rw [decide_eq_false_iff_not]; omega)) ?_
   clear EK
   go_upto_region 6 with (fail)
   refine wp_region_lit ?_
   refine zP (.int .i64 4) ?_
   go_wp2_with fail
   go_loopw [7] (fun s7 wr => ∃ k : Nat, s7 = .int .i64 ((4 + 4 * k : Nat) : Int) ∧ Hid (k ≤ 3 ∧ CW w wr g2 g4 g5 cap key (cl2 (cl1 d0 4) k))) (fun s7 _ => 20 - (intOf s7).toNat)
   case atStart => exact ⟨0, rfl, Lib.hid ⟨by omega, RIf.out⟩⟩
   case round =>
    obtain ⟨k, rfl, RJ⟩ := hrel
    by_cases hlt : k < 3
    ·have HK := Lib.hid hlt
     clear hlt
     obtain ⟨x, hx⟩ : ∃ q, (cl2 (cl1 d0 4) k).getD (4 + 4 * k) 0 = q := ⟨_, rfl⟩
     have LK : Hid ((cl2 (cl1 d0 4) k).length = 16 ∧ 4 + 4 * k < 16) := Lib.hid ⟨RJ.out.2.2.2.2.len, by have := HK.out; omega⟩
     have XX : Hid ((cl2 (cl1 d0 4) k).getD (4 + 4 * k) 0 = x ∧ x < 256) := Lib.hid ⟨hx, by rw [← hx]; exact getD_lt RJ.out.2.2.2.2.digs _⟩
     have CX : Hid (wr.cell? ⟨g5, 0 + (4 + 4 * k), none⟩ = some (.int .i64 ((x : Nat) : Int))) := Lib.hid (by rw [← hx]; exact RJ.out.2.2.2.2.cell LK.out.2)
     clear hx
     go_upto_region 7 with (fail)
     refine wp_region_lit ?_
     refine zP (.int .i64 ((4 + 4 * k : Nat) : Int)) ?_
     refine zQ (.bool true) (run_lti Tryd.underlying3 rfl rfl rfl (by have := HK.out; rw [decide_eq_true_eq]; omega)) ?_
     go_upto_region 9 with (fail)
     refine wp_region_lit ?_
     refine zP (.slice (some ⟨g5, 0, none⟩) 16 cap) ?_
     refine zP (.int .i64 ((4 + 4 * k : Nat) : Int)) ?_
     refine zP (.slice (some ⟨g5, 0, none⟩) 16 cap) ?_
     refine zP (.int .i64 ((4 + 4 * k : Nat) : Int)) ?_
     refine zQ (.pointer (some ⟨g5, 0 + (4 + 4 * k), none⟩)) (I.run_idx _ _ _ _ _ g5 0 16 cap (4 + 4 * k) rfl rfl rfl LK.out.2 (by unfold maxLen; omega)) ?_
     refine zQ (.int .i64 ((x : Nat) : Int)) (run_load_one _ _ _ 3 _ _ rfl (g5) (0 + (4 + 4 * k)) rfl (CX.out) (by kernel_rfl)) ?_
     refine zQ (.int .i64 ((x / 4 : Nat) : Int)) (run_quo4 _ _ _ _ x _ rfl rfl rfl (by have := XX.out.2; omega)) ?_
     refine zQ (.int .i64 ((x / 4 * 4 : Nat) : Int)) (run_muli Tryd.underlying3 rfl rfl rfl _ (by have := XX.out.2; rw [wrap_in _ (by omega) (by omega)]; omega)) ?_
     refine zQ (.pointer (some ⟨g5, 0 + (4 + 4 * k), none⟩)) (I.run_idx _ _ _ _ _ g5 0 16 cap (4 + 4 * k) rfl rfl rfl LK.out.2 (by unfold maxLen; omega)) ?_
     refine wpL_store_one rfl rfl (g5) (0 + (4 + 4 * k)) rfl (.int .i64 ((x / 4 * 4 : Nat) : Int)) rfl rfl size3' (by rw [CX.out]; rfl) (RJ.out.2.2.2.2.free _) ?_
     simp only [Act.put, List.setIfInBounds_toArray, List.set_cons_zero, List.set_cons_succ]
     obtain ⟨w4, hw4⟩ : ∃ V, V = wr.setCell ⟨g5, 0 + (4 + 4 * k), none⟩ (.int .i64 ((x / 4 * 4 : Nat) : Int)) := ⟨_, rfl⟩
     rw [← hw4]
     have NX : Hid (k + 1 ≤ 3 ∧ CW w w4 g2 g4 g5 cap key (cl2 (cl1 d0 4) (k + 1))) := Lib.hid (by rw [hw4, Nat.zero_add]; exact ⟨HK.out, by rw [show cl2 (cl1 d0 4) (k + 1) = (cl2 (cl1 d0 4) k).set (4 + 4 * k) (x / 4 * 4) by rw [← XX.out.1]; rfl]; exact RJ.out.2.set _ _ (by have := XX.out.2; omega) (by have := NE.out; omega) (by have := NE.out; omega) (by have := NE.out; have := G2.out; omega)⟩)
     clear hw4
     go_upto_region 8 with (fail)
     refine wp_region_lit ?_
     refine zP (.int .i64 ((4 + 4 * k : Nat) : Int)) ?_
     refine zQ (.int .i64 ((4 + 4 * (k + 1) : Nat) : Int)) (run_addi Tryd.underlying3 rfl rfl rfl _ (by have := HK.out; rw [wrap_in _ (by omega) (by omega)]; omega)) ?_
     refine zP (.int .i64 ((4 + 4 * (k + 1) : Nat) : Int)) ?_
     unfold wpList
     go_roundw
     case rel => first | exact ⟨k + 1, rfl, NX⟩ | ((repeat apply Exists.intro); exact ⟨⟨k + 1, rfl, NX⟩, rfl⟩)
     case measure => simp [intOf]; have := HK.out; omega
    ·have HK := Lib.hid hlt
     have EK : Hid (k = 3) := Lib.hid (by have := RJ.out.1; omega)
     clear hlt
     have RJf : Hid (CW w wr g2 g4 g5 cap key (cl2 (cl1 d0 4) 3)) := Lib.hid (by have h := RJ.out.2; rw [EK.out] at h; exact h)
     clear RJ
     go_upto_region 7 with (fail)
     refine wp_region_lit ?_
     refine zP (.int .i64 ((4 + 4 * k : Nat) : Int)) ?_
     refine zQ (.bool false) (run_lti Tryd.underlying3 rfl rfl rfl (by have := HK.out; have := EK.out; rw [decide_eq_false_iff_not]; omega)) ?_
     obtain ⟨rd, hrd⟩ : ∃ q, cl2 (cl1 d0 4) 3 = q := ⟨_, rfl⟩
     have VR : Hid (vd rd = kr key) := Lib.hid (by rw [← hrd, ← HD0.out]; exact clamp_vd HKY.out)
     have RL : Hid (vd rd < 21267647932558653966460912964485513216) := Lib.hid (by rw [VR.out]; exact kr_lt key)
     rw [hrd] at RJf
     clear hrd EK
     go_upto_region 10 with (fail)
     refine wp_region_lit ?_
     refine zP (.slice none 0 0) ?_
     go_upto_region 11 with (fail)
     refine wp_region_lit ?_
     refine zP (.int .i64 0) ?_
     go_wp2_with fail
     go_loopw [8, 9] (fun s8 s9 wr => ∃ (k sn sc : Nat) (sa : Option Addr) (ss : List Nat), .slice sa sn sc = s8 ∧ s9 = .int .i64 ((16 * k : Nat) : Int) ∧ Hid (k ≤ (n + 15) / 16 ∧ CW w wr g2 g4 g5 cap key rd ∧ I.Row wr sa sn (ni ss) ∧ (∀ z ∈ ss, z < 256) ∧ sn ≤ 18 ∧ vd ss = pacc (kr key) t k)) (fun _ s9 _ => n + 16 - (intOf s9).toNat)
     case atStart => exact ⟨0, 0, 0, none, [], rfl, rfl, Lib.hid ⟨by omega, RJf.out, ⟨rfl, by unfold maxLen; omega, trivial, fun j hj => absurd hj (by omega)⟩, by simp, by omega, rfl⟩⟩
     case round =>
      obtain ⟨k, sn, sc, sa, ss, rfl, rfl, RK⟩ := hrel
      by_cases hlt : 16 * k < n
      ·have HK := Lib.hid hlt
       clear hlt
       obtain ⟨en, hen⟩ : ∃ q, min (16 * k + 16) n = q := ⟨_, rfl⟩
       have EN : Hid (min (16 * k + 16) n = en ∧ 16 * k < en ∧ en ≤ n ∧ en - 16 * k ≤ 16 ∧ (en = n ∨ en = 16 * k + 16)) := Lib.hid (by have := HK.out; omega)
       clear hen
       go_upto_region 12 with (fail)
       refine wp_region_lit ?_
       refine zP (.int .i64 ((16 * k : Nat) : Int)) ?_
       refine zP (.slice a n c) ?_
       refine zP (.int .i64 (n : Int)) ?_
       refine zQ (.bool true) (run_lti Tryd.underlying3 rfl rfl rfl (by have := HK.out; rw [decide_eq_true_eq]; omega)) ?_
       go_upto_region 14 with (fail)
       refine wp_region_lit ?_
       refine zP (.int .i64 ((16 * k : Nat) : Int)) ?_
       refine zQ (.int .i64 ((16 * k + 16 : Nat) : Int)) (run_addi Tryd.underlying3 rfl rfl rfl _ (by have := HK.out; have := HN.out; rw [wrap_in _ (by omega) (by omega)]; omega)) ?_
       refine zP (.slice a n c) ?_
       refine zP (.int .i64 (n : Int)) ?_
       refine zQ (.int .i64 ((en : Nat) : Int)) (run_min _ _ _ _ _ (16 * k + 16) n en rfl rfl rfl EN.out.1) ?_
       refine zP (.int .i64 ((en : Nat) : Int)) ?_
       obtain ⟨m, hm⟩ : ∃ q, en - 16 * k = q := ⟨_, rfl⟩
       have M := Lib.hid hm
       have TR : Hid (Row wr (dropA a c (16 * k)) m ((t.drop (16 * k)).take m)) := Lib.hid (by rw [← hm]; exact sl_cut (HS.out.below (below_eq RK.out.2.1.1 rfl)) (Nat.le_of_lt HK.out) EN.out.2.1 EN.out.2.2.1)
       clear hm
       obtain ⟨chd, hch⟩ : ∃ q, ((t.drop (16 * k)).take m).map Int.toNat = q := ⟨_, rfl⟩
       have CHL : Hid (chd.length = m ∧ m ≤ 16 ∧ 0 < m ∧ (∀ z ∈ chd, z < 256) ∧ vd (chd ++ [1]) = pblk t k) := Lib.hid (chunk_ok HS.out.1 HK.out EN.out.2 M.out hch)
       have HCH := Lib.hid hch
       clear hch
       go_upto_region 15 with (fail)
       refine wp_region_lit ?_
       refine zP (.slice sa sn sc) ?_
       refine zP (.slice a n c) ?_
       refine zP (.int .i64 ((16 * k : Nat) : Int)) ?_
       refine zP (.int .i64 ((en : Nat) : Int)) ?_
       refine zQ (.slice (dropA a c (16 * k)) m (c - 16 * k)) (run_slice2 _ _ _ _ _ _ a n c (16 * k) en m rfl rfl rfl rfl (by have := HK.out; have := EN.out; omega) HS.out.2.1 HS.out.2.2 M.out) ?_
       refine wpL_call 44 #[.slice (dropA a c (16 * k)) m (c - 16 * k)] rfl (by kernel_rfl) (((refbytes_any wr (dropA a c (16 * k)) m (c - 16 * k) _ TR.out (by have := CHL.out; omega))).mono fun e x1 ⟨vb, he, q1⟩ => ⟨vb, he, ?_⟩)
       simp only [Act.put, List.setIfInBounds_toArray, List.set_cons_zero, List.set_cons_succ]
       rw [HCH.out] at q1
       have X1 := Lib.hid q1
       clear q1
       obtain ⟨x2, hx2⟩ : ∃ V, V = x1.alloc (.cells #[.int .i64 ((1 : Nat) : Int)] 3) := ⟨_, rfl⟩
       obtain ⟨vc, x3, r1, r2⟩ := X1.out.push 1 (by have := CHL.out; omega) x2 hx2
       have AP := Lib.hid r1
       have X3 := Lib.hid r2
       have HX2 := Lib.hid hx2
       clear r1 r2 hx2
       obtain ⟨ca, cc, ec⟩ := X3.out.1.slice
       rw [ni_len, List.length_append, CHL.out.1] at ec
       have EC := Lib.hid ec
       clear ec
       refine zV (.slice (some ⟨x1.heap.size, 0, none⟩) 1 1) (x2) (by rw [HX2.out]; kernel_rfl) ?_
       clear HX2
       refine zV vc x3 (I.run_app _ _ _ _ _ _ _ _ _ rfl rfl rfl rfl AP.out) ?_
       clear AP
       have ec := EC.out
       simp only [List.length_cons, List.length_nil, Nat.zero_add] at ec
       subst ec
       have Y0 : Hid (CW w x3 g2 g4 g5 cap key rd ∧ I.Row x3 ca (m + 1) (ni (chd ++ [1])) ∧ I.Row x3 sa sn (ni ss)) := Lib.hid ⟨RK.out.2.1.below X3.out.2, X3.out.1.row.1, RK.out.2.2.1.keep X3.out.2⟩
       clear X1 X3 EC
       refine wpL_call 47 #[.slice sa sn sc, .slice ca (m + 1) cc] rfl (by kernel_rfl) (((refadd_any x3 sa ca sn sc (m + 1) cc ss (chd ++ [1]) Y0.out.2.2 Y0.out.2.1 RK.out.2.2.2.1 (digs_one CHL.out.2.2.2.1) (by have := RK.out.2.2.2.2.1; have := CHL.out; omega))).mono fun e x4 ⟨va, zs, he, q1, q2, q3, q4, q5, q6⟩ => ⟨va, he, ?_⟩)
       simp only [Act.put, List.setIfInBounds_toArray, List.set_cons_zero, List.set_cons_succ]
       obtain ⟨za, zc, ez⟩ := q1.1.slice
       rw [ni_len] at ez
       obtain ⟨zn, hzn⟩ : ∃ q, zs.length = q := ⟨_, rfl⟩
       rw [hzn] at ez
       subst ez
       have Y1 : Hid (CW w x4 g2 g4 g5 cap key rd ∧ I.Row x4 za zn (ni zs) ∧ (∀ z ∈ zs, z < 256) ∧ vd zs = pacc (kr key) t k + pblk t k ∧ zn ≤ 19) := Lib.hid ⟨Y0.out.1.below q1.2, (by have h := q1.1.row.1; exact h), q2, by rw [q3, RK.out.2.2.2.2.2, CHL.out.2.2.2.2], by have h1 := RK.out.2.2.2.2.1; have h2 := RK.out.2.2.1.1; rw [ni_len] at h2; simp at q6; have := CHL.out; omega⟩
       clear q1 q2 q3 q4 q5 q6 hzn Y0
       refine zP (.slice (some ⟨g5, 0, none⟩) 16 cap) ?_
       refine wpL_call 46 #[.slice za zn zc, .slice (some ⟨g5, 0, none⟩) 16 cap] rfl (by kernel_rfl) (((refmul_any x4 za (some ⟨g5, 0, none⟩) zn zc 16 cap zs rd Y1.out.2.1 Y1.out.1.2.2.2.row Y1.out.2.2.1 Y1.out.1.2.2.2.digs (by have := Y1.out.2.2.2.2; omega))).mono fun e x5 ⟨gm, ms, he, q1, q2, q3, q4⟩ => ⟨.slice (some ⟨gm, 0, none⟩) (zn + 16 + 1) (zn + 16 + 1), he, ?_⟩)
       simp only [Act.put, List.setIfInBounds_toArray, List.set_cons_zero, List.set_cons_succ]
       have Y2 : Hid (CW w x5 g2 g4 g5 cap key rd ∧ I.Row x5 (some ⟨gm, 0, none⟩) (zn + 16 + 1) (ni ms) ∧ (∀ z ∈ ms, z < 256) ∧ vd ms = (pacc (kr key) t k + pblk t k) * kr key) := Lib.hid ⟨Y1.out.1.below q1.2, q1.1.row.1, q3, by rw [q4, Y1.out.2.2.2.1, VR.out]⟩
       clear q1 q2 q3 q4
       refine wpL_call 45 #[.slice (some ⟨gm, 0, none⟩) (zn + 16 + 1) (zn + 16 + 1)] rfl (by kernel_rfl) (((refrest_any x5 (some ⟨gm, 0, none⟩) (zn + 16 + 1) (zn + 16 + 1) ms Y2.out.2.1 Y2.out.2.2.1 (by have := Y1.out.2.2.2.2; omega) (by rw [Y2.out.2.2.2]; exact prod_lt (kr_lt key) (pacc_lt _ _ _) (pblk_lt HS.out.1 k)))).mono fun e x6 ⟨ra, rn, rc, rs, he, q1, q2, q3, q4, q5⟩ => ⟨.slice ra rn rc, he, ?_⟩)
       simp only [Act.put, List.setIfInBounds_toArray, List.set_cons_zero, List.set_cons_succ]
       have NX : Hid (k + 1 ≤ (n + 15) / 16 ∧ CW w x6 g2 g4 g5 cap key rd ∧ I.Row x6 ra rn (ni rs) ∧ (∀ z ∈ rs, z < 256) ∧ rn ≤ 18 ∧ vd rs = pacc (kr key) t (k + 1)) := Lib.hid ⟨by have := HK.out; omega, Y2.out.1.below q2, q1, q3, q5, by rw [q4, Y2.out.2.2.2]; rfl⟩
       clear q1 q2 q3 q4 q5
       refine zP (.slice ra rn rc) ?_
       go_upto_region 13 with (fail)
       refine wp_region_lit ?_
       refine zP (.int .i64 ((16 * k : Nat) : Int)) ?_
       refine zQ (.int .i64 ((16 * (k + 1) : Nat) : Int)) (run_addi Tryd.underlying3 rfl rfl rfl _ (by have := HK.out; have := HN.out; rw [wrap_in _ (by omega) (by omega)]; omega)) ?_
       refine zP (.int .i64 ((16 * (k + 1) : Nat) : Int)) ?_
       unfold wpList
       go_roundw
       case rel => first | exact ⟨k + 1, _, _, _, _, rfl, rfl, NX⟩ | ((repeat apply Exists.intro); exact ⟨⟨k + 1, _, _, _, _, rfl, rfl, NX⟩, rfl⟩)
       case measure => simp [intOf]; have := HK.out; omega
      ·have HK := Lib.hid hlt
       have EK : Hid (k = (t.length + 15) / 16) := Lib.hid (by have := RK.out.1; have := HS.out.1.1; omega)
       clear hlt
       go_upto_region 12 with (fail)
       refine wp_region_lit ?_
       refine zP (.int .i64 ((16 * k : Nat) : Int)) ?_
       refine zP (.slice a n c) ?_
       refine zP (.int .i64 (n : Int)) ?_
       refine zQ (.bool false) (run_lti Tryd.underlying3 rfl rfl rfl (by have := HK.out; rw [decide_eq_false_iff_not]; omega)) ?_
       go_upto_region 16 with (fail)
       refine wp_region_lit ?_
       refine zP (.slice sa sn sc) ?_
       refine zP (.slice (some ⟨g2, 16, none⟩) 16 16) ?_
       refine wpL_call 44 #[.slice (some ⟨g2, 16, none⟩) 16 16] rfl (by kernel_rfl) (((refbytes_any wr (some ⟨g2, 16, none⟩) 16 16 _ (key_row HKY.out RK.out.2.1.2.1 16 16 (by omega)) (by omega))).mono fun e x1 ⟨vb, he, q1⟩ => ⟨vb, he, ?_⟩)
       simp only [Act.put, List.setIfInBounds_toArray, List.set_cons_zero, List.set_cons_succ]
       obtain ⟨ba, bc, eb⟩ := q1.1.slice
       rw [ni_len, (key_digs HKY.out 16 16 (by omega)).1] at eb
       subst eb
       have X1 : Hid (CW w x1 g2 g4 g5 cap key rd ∧ I.Row x1 ba 16 (ni (((key.drop 16).take 16).map Int.toNat)) ∧ I.Row x1 sa sn (ni ss)) := Lib.hid ⟨RK.out.2.1.below q1.2, q1.1.row.1, RK.out.2.2.1.keep q1.2⟩
       clear q1
       refine wpL_call 47 #[.slice sa sn sc, .slice ba 16 bc] rfl (by kernel_rfl) (((refadd_any x1 sa ba sn sc 16 bc ss _ X1.out.2.2 X1.out.2.1 RK.out.2.2.2.1 (key_digs HKY.out 16 16 (by omega)).2 (by have := RK.out.2.2.2.2.1; omega))).mono fun e x2 ⟨va, zs, he, q1, q2, q3, q4, q5, q6⟩ => ⟨va, he, ?_⟩)
       simp only [Act.put, List.setIfInBounds_toArray, List.set_cons_zero, List.set_cons_succ]
       obtain ⟨za, zc, ez⟩ := q1.1.slice
       rw [ni_len] at ez
       obtain ⟨zn, hzn⟩ : ∃ q, zs.length = q := ⟨_, rfl⟩
       rw [hzn] at ez
       subst ez
       have X2 : Hid (CW w x2 g2 g4 g5 cap key rd ∧ I.Row x2 za zn (ni zs) ∧ (∀ z ∈ zs, z < 256) ∧ vd zs = (pacc (kr key) t ((t.length + 15) / 16) + ks key) ∧ 16 ≤ zn ∧ zn ≤ 1000 ∧ zs.length = zn) := Lib.hid ⟨X1.out.1.below q1.2, (by have h := q1.1.row.1; exact h), q2, by rw [q3, RK.out.2.2.2.2.2, ← EK.out, ks_take HKY.out.1], by rw [(key_digs HKY.out 16 16 (by omega)).1, hzn] at q5; exact q5, by have h1 := RK.out.2.2.2.2.1; have h2 := RK.out.2.2.1.1; rw [ni_len] at h2; rw [(key_digs HKY.out 16 16 (by omega)).1, hzn] at q6; omega, hzn⟩
       clear q1 q2 q3 q4 q5 q6 hzn X1
       refine zP (.slice za zn zc) ?_
       obtain ⟨x3, hx3⟩ : ∃ V, V = x2.alloc (.cells (u8l (List.replicate 16 0)).toArray 39) := ⟨_, rfl⟩
       obtain ⟨vv, hvv⟩ : ∃ q, (pacc (kr key) t ((t.length + 15) / 16) + ks key) = q := ⟨_, rfl⟩
       have VV := Lib.hid hvv
       rw [hvv] at X2
       clear hvv
       have X3 : Hid (CW w x3 g2 g4 g5 cap key rd ∧ I.Row x3 za zn (ni zs) ∧ Blk x3 x2.heap.size 39 (u8l (outK vv 0)).toArray ∧ g5 < x2.heap.size) := Lib.hid (by rw [hx3, outK_zero]; exact ⟨X2.out.1.below ((Below.refl _ _).alloc (Nat.le_refl _) _), X2.out.2.1.keep ((Below.refl _ _).alloc (Nat.le_refl _) _), Blk.new _ _ _, X2.out.1.2.2.2.lt⟩)
       go_upto_region 17 with (fail)
       refine wp_region_lit ?_
       refine zV (.pointer (some ⟨x2.heap.size, 0, none⟩)) (x3) (by rw [hx3]; kernel_rfl) ?_
       clear hx3
       generalize x2.heap.size = go at X3 ⊢
       go_upto_region 18 with (fail)
       refine wp_region_lit ?_
       refine zP (.int .i64 0) ?_
       go_wp2_with fail
       go_loopw [12] (fun s12 wr => ∃ k : Nat, s12 = .int .i64 ((k : Nat) : Int) ∧ Hid (k ≤ 16 ∧ CW w wr g2 g4 g5 cap key rd ∧ I.Row wr za zn (ni zs) ∧ Blk wr go 39 (u8l (outK vv k)).toArray)) (fun s12 _ => 16 - (intOf s12).toNat)
       case atStart => exact ⟨0, rfl, Lib.hid ⟨by omega, X3.out.1, X3.out.2.1, X3.out.2.2.1⟩⟩
       case round =>
        obtain ⟨k2, rfl, RL2⟩ := hrel
        by_cases hlt : k2 < 16
        ·have HK2 := Lib.hid hlt
         clear hlt
         have HK3 : Hid (k2 < zn) := Lib.hid (by have := HK2.out; have := X2.out.2.2.2.2.1; omega)
         obtain ⟨g, o, ea, hc⟩ := ni_cell RL2.out.2.2.1 HK3.out
         have EA := Lib.hid ea
         have HC : Hid (wr.cell? ⟨g, o + k2, none⟩ = some (.int .i64 ((vv / 256 ^ k2 % 256 : Nat) : Int))) := Lib.hid (by rw [hc, ← X2.out.2.2.2.1, vd_digit X2.out.2.2.1 (by rw [X2.out.2.2.2.2.2.2]; exact HK3.out)])
         clear ea hc
         obtain ⟨x, hx⟩ : ∃ q, vv / 256 ^ k2 % 256 = q := ⟨_, rfl⟩
         have HX := Lib.hid (And.intro hx (show x < 256 by omega))
         rw [hx] at HC
         clear hx
         go_upto_region 19 with (fail)
         refine wp_region_lit ?_
         refine zP (.int .i64 ((k2 : Nat) : Int)) ?_
         refine zQ (.bool true) (run_lti Tryd.underlying3 rfl rfl rfl (by have := HK2.out; rw [decide_eq_true_eq]; omega)) ?_
         refine zP (.bool true) ?_
         refine zP (.int .i64 ((k2 : Nat) : Int)) ?_
         refine zP (.slice za zn zc) ?_
         refine zP (.int .i64 (zn : Int)) ?_
         refine zQ (.bool true) (run_lti Tryd.underlying3 rfl rfl rfl (by have := HK3.out; rw [decide_eq_true_eq]; omega)) ?_
         refine zP (.bool true) ?_
         go_upto_region 21 with (fail)
         refine wp_region_lit ?_
         refine zP (.int .i64 ((k2 : Nat) : Int)) ?_
         refine zP (.slice za zn zc) ?_
         refine zP (.int .i64 ((k2 : Nat) : Int)) ?_
         refine zQ (.pointer (some ⟨g, o + k2, none⟩)) (I.run_idx _ _ _ _ _ g o zn zc k2 rfl (by rw [EA.out]; rfl) rfl HK3.out (by have := X2.out.2.2.2.2.2.1; unfold maxLen; omega)) ?_
         refine zQ (.int .i64 ((x : Nat) : Int)) (run_load_one _ _ _ 3 _ _ rfl (g) (o + k2) rfl (HC.out) (by kernel_rfl)) ?_
         refine zQ (.int .u8 ((x : Nat) : Int)) (run_convi Tryd.underlying3 Tryd.underlying5 rfl rfl _ (by have := HX.out.2; rw [IntKind.wrap_u8]; omega)) ?_
         refine zQ (.pointer (some ⟨go, 0 + k2, none⟩)) (O.run_idxa _ _ _ _ _ go 0 k2 rfl rfl rfl HK2.out) ?_
         refine wpL_store_one rfl rfl (go) (0 + k2) rfl (.int .u8 ((x : Nat) : Int)) rfl rfl size5 (by rw [RL2.out.2.2.2.cell]; simp [u8l, outK_len]; have := HK2.out; omega) (RL2.out.2.2.2.free _) ?_
         simp only [Act.put, List.setIfInBounds_toArray, List.set_cons_zero, List.set_cons_succ]
         obtain ⟨w4, hw4⟩ : ∃ V, V = wr.setCell ⟨go, 0 + k2, none⟩ (.int .u8 ((x : Nat) : Int)) := ⟨_, rfl⟩
         rw [← hw4]
         have NX : Hid (k2 + 1 ≤ 16 ∧ CW w w4 g2 g4 g5 cap key rd ∧ I.Row w4 za zn (ni zs) ∧ Blk w4 go 39 (u8l (outK vv (k2 + 1))).toArray) := Lib.hid (by rw [hw4, Nat.zero_add]; exact ⟨HK2.out, RL2.out.2.1.other (by have := X3.out.2.2.2; have := NE.out; omega) (by have := X3.out.2.2.2; have := NE.out; omega) (by have := X3.out.2.2.2; omega) (by have := X3.out.2.2.2; have := NE.out; have := G2.out; omega), irow_other RL2.out.2.2.1 RL2.out.2.2.2 k2 _, outK_set HK2.out HX.out.1 RL2.out.2.2.2⟩)
         clear hw4
         go_upto_region 20 with (fail)
         refine wp_region_lit ?_
         refine zP (.int .i64 ((k2 : Nat) : Int)) ?_
         refine zQ (.int .i64 ((k2 + 1 : Nat) : Int)) (run_addi Tryd.underlying3 rfl rfl rfl _ (by have := HK2.out; rw [wrap_in _ (by omega) (by omega)]; omega)) ?_
         refine zP (.int .i64 ((k2 + 1 : Nat) : Int)) ?_
         unfold wpList
         go_roundw
         case rel => first | exact ⟨k2 + 1, rfl, NX⟩ | ((repeat apply Exists.intro); exact ⟨⟨k2 + 1, rfl, NX⟩, rfl⟩)
         case measure => simp [intOf]; have := HK2.out; omega
        ·have HK2 := Lib.hid hlt
         have E2 : Hid (k2 = 16) := Lib.hid (by have := RL2.out.1; omega)
         clear hlt
         have F8 : Hid (CW w wr g2 g4 g5 cap key rd ∧ Blk wr go 39 (u8l (codeS key t)).toArray) := Lib.hid (by have h := RL2.out.2; rw [E2.out, outK_end, ← VV.out] at h; exact ⟨h.1, h.2.2⟩)
         go_upto_region 19 with (fail)
         refine wp_region_lit ?_
         refine zP (.int .i64 ((k2 : Nat) : Int)) ?_
         refine zQ (.bool false) (run_lti Tryd.underlying3 rfl rfl rfl (by have := HK2.out; rw [decide_eq_false_iff_not]; omega)) ?_
         refine zP (.bool false) ?_
         refine wpL_skip (by kernel_rfl) ?_
         simp only [Act.put, List.setIfInBounds_toArray, List.set_cons_zero, List.set_cons_succ]
         refine wpL_skip (by kernel_rfl) ?_
         simp only [Act.put, List.setIfInBounds_toArray, List.set_cons_zero, List.set_cons_succ]
         refine wpL_skip (by kernel_rfl) ?_
         simp only [Act.put, List.setIfInBounds_toArray, List.set_cons_zero, List.set_cons_succ]
         refine wpL_skip (by kernel_rfl) ?_
         simp only [Act.put, List.setIfInBounds_toArray, List.set_cons_zero, List.set_cons_succ]
         refine zP (.bool false) ?_
         go_upto_region 22 with (fail)
         refine wp_region_lit ?_
         refine wpL_load 39 _ rfl rfl go 0 rfl (u8l (codeS key t)) _ (range_blk F8.out.2) Tryd.underlying39 rfl (by rw [u8l_len, codeS_len]; kernel_rfl) ?_
         simp only [Act.put, List.setIfInBounds_toArray, List.set_cons_zero, List.set_cons_succ]
         refine wpList_store_rowTo rfl 39 _ _ rfl rfl g4 (u8l (codeS key t)).toArray rfl rfl 39 _ F8.out.1.2.2.1 (by simp only [List.size_toArray, u8l_len, codeS_len]; kernel_rfl) (by simp [u8l, codeS_len]) (u8l_one _) ?_
         go_wp2_with fail
         refine bodyPost_ret (results_cell_row rfl _ _ g4 39 _ (0, 0) _ rfl (setRow_heap _ _ _ _ _ _ F8.out.1.2.2.1) Tryd.underlying39 rfl (by simp only [List.size_toArray, u8l_len, codeS_len]; kernel_rfl)) rfl ?_
         exact ⟨rfl, below_setRow F8.out.1.1 (by have := NE.out; have := G2.out; omega) _⟩
end Go.Proofs.YtlbfohpkngmaoaaDoor.Po
