/- The block that waits is taken. -/
import Derived.Test.YtlbfohpkngmaoaaDoorPoQ3
namespace Go.Proofs.YtlbfohpkngmaoaaDoor.Po
open Go Go.RowKit
theorem size3 (w : World) : (sizeOf 3).run Tryd.prog w = .ok 1 w := by kernel_rfl
def PMid (w : World) (b r0 r1 A : Nat) (R : List Int) (hl : Nat) : Prop := ∃ h0 h1 h2 : Nat, Blk w b 88 (sumC h0 h1 h2 r0 r1 R hl).toArray ∧ h0 < 18446744073709551616 ∧ h1 < 18446744073709551616 ∧ h2 ≤ 4 ∧ (h0 + 18446744073709551616 * h1 + 340282366920938463463374607431768211456 * h2) % p130 = A ∧ R.length = 16 ∧ ∀ x ∈ R, 0 ≤ x ∧ x ≤ 255
theorem nat_byte {R : List Int} (h : ∀ x ∈ R, 0 ≤ x ∧ x ≤ 255) (o : Nat) : ∀ j, (R.getD (o + j) 0).toNat < 256 := by
 intro j
 have := getD_byte h (o + j)
 omega
theorem num_at {W : World} {b h0 h1 h2 r0 r1 hl : Nat} {R : List Int} (hR : R.length = 16 ∧ ∀ x ∈ R, 0 ≤ x ∧ x ≤ 255) (hb : Blk W b 88 (sumC h0 h1 h2 r0 r1 R hl).toArray) (o : Nat) (ho : o ≤ 8) :
  Calls Tryd.prog 34 #[.slice (some ⟨b, 5 + o, none⟩) (16 - o) (16 - o)] W fun e w' => e = .returned (.int .u64 ((O.le (fun j => (R.getD (o + j) 0).toNat) 8 : Nat) : Int)) ∧ W = w' :=
 O.number_any W b (5 + o) (16 - o) (16 - o) _ (nat_byte hR.2 o) (by omega) (by unfold maxLen; omega) (fun j hj => by
  have := getD_byte hR.2 (o + j)
  rw [Nat.add_assoc, sum_cr hR.1 hb (o + j) (by omega)]
  congr 2
  omega)
theorem le_vb (R : List Int) (o : Nat) : ∀ k, o + k ≤ R.length → O.le (fun j => (R.getD (o + j) 0).toNat) k = vb ((R.drop o).take k)
 | 0, _ => by simp [O.le, vb, vd]
 | k + 1, h => by
  rw [O.le, le_vb R o k (by omega), getD_take (R.drop o) 0 (by rw [List.length_drop]; omega), vb_append, List.length_take, List.length_drop, Nat.min_eq_left (by omega)]
  have e : (R.drop o).getD k 0 = R.getD (o + k) 0 := by simp [List.getD, List.getElem?_drop]
  rw [e, Nat.pow_mul, Nat.mul_comm]
  simp [vb, vd]
theorem le_both {R : List Int} (hl : R.length = 16) : O.le (fun j => (R.getD (0 + j) 0).toNat) 8 + 18446744073709551616 * O.le (fun j => (R.getD (8 + j) 0).toNat) 8 = vb R := by
 rw [le_vb R 0 8 (by omega), le_vb R 8 8 (by omega)]
 conv => rhs; rw [← List.take_append_drop 8 R, vb_append]
 rw [List.drop_zero, List.length_take, Nat.min_eq_left (by omega), List.take_of_length_le (l := R.drop 8) (by rw [List.length_drop]; omega)]
theorem take_sum {h0 h1 h2 n0 n1 s0 s1 d0 d1 t : Nat} (e0 : h0 + n0 + 0 = s0 + 18446744073709551616 * d0) (e1 : h1 + n1 + d0 = s1 + 18446744073709551616 * d1) : s0 + 18446744073709551616 * s1 + 340282366920938463463374607431768211456 * (h2 + (t + d1)) = h0 + 18446744073709551616 * h1 + 340282366920938463463374607431768211456 * h2 + (n0 + 18446744073709551616 * n1 + 340282366920938463463374607431768211456 * t) := by omega
theorem take_small {h2 d t : Nat} (h : h2 ≤ 4) (hd : d ≤ 1) (ht : t ≤ 1) : t + d < 18446744073709551616 ∧ h2 + (t + d) < 18446744073709551616 ∧ h2 + (t + d) ≤ 6 := by omega
theorem mod_step (h v r : Nat) : (h + v) * r % p130 = (h % p130 + v) * r % p130 := by
 rw [Nat.mul_mod, ← Nat.mod_add_mod, ← Nat.mul_mod]
theorem run_sl26 (a : Act) (o : Oper) (w : World) (x i : Operand) (g off m : Nat) (ho : o.op = .slice 39 x (some i) none none) (hx : a.eval x = .pointer (some ⟨g, off, none⟩)) (hi : a.eval i = .int .i64 (m : Int)) (hm : m < 16) :
  (execOp a.eval o).run Tryd.prog w = .ok (.value (.slice (some ⟨g, off + m, none⟩) (16 - m) (16 - m))) w := by
 have h1 : (0 : Int) ≤ (m : Int) := by omega
 have h2 : (m : Int) ≤ 16 := by omega
 have h3 : ¬ 16 = m := by omega
 unfold execOp
 simp only [ho, hx, Option.map_some, Option.map_none, hi]
 go_simp
theorem run_slice16 (a : Act) (o : Oper) (w : World) (x i : Operand) (b r : Nat) (ho : o.op = .slice 39 x (some i) none none) (hx : a.eval x = .pointer (some ⟨b, 5, none⟩)) (hi : a.eval i = .int .i64 (r : Int)) (hr : r ≤ 16) :
  (execOp a.eval o).run Tryd.prog w = .ok (.value (.slice (some ⟨b, 5 + (if r < 16 then r else 0), none⟩) (16 - r) (16 - r))) w := by
 unfold execOp
 simp only [ho, hx, Option.map_some, Option.map_none, hi]
 rcases (show r = 0 ∨ r = 1 ∨ r = 2 ∨ r = 3 ∨ r = 4 ∨ r = 5 ∨ r = 6 ∨ r = 7 ∨ r = 8 ∨ r = 9 ∨ r = 10 ∨ r = 11 ∨ r = 12 ∨ r = 13 ∨ r = 14 ∨ r = 15 ∨ r = 16 by omega) with rfl | rfl | rfl | rfl | rfl | rfl | rfl | rfl | rfl | rfl | rfl | rfl | rfl | rfl | rfl | rfl | rfl
 all_goals kernel_rfl
theorem zero_cells (r : Nat) (hr : r ≤ 16) : (Builtin.zeroCells #[.int .u8 0] (16 - r)).toList = ((List.replicate (16 - r) (0 : Nat)).map fun (v : Nat) => Value.int .u8 (v : Int)) := by
 rcases (show r = 0 ∨ r = 1 ∨ r = 2 ∨ r = 3 ∨ r = 4 ∨ r = 5 ∨ r = 6 ∨ r = 7 ∨ r = 8 ∨ r = 9 ∨ r = 10 ∨ r = 11 ∨ r = 12 ∨ r = 13 ∨ r = 14 ∨ r = 15 ∨ r = 16 by omega) with rfl | rfl | rfl | rfl | rfl | rfl | rfl | rfl | rfl | rfl | rfl | rfl | rfl | rfl | rfl | rfl | rfl
 all_goals kernel_rfl
theorem run_clr (a : Act) (o : Oper) (w w' : World) (x : Operand) (v r : Value) (ho : o.op = .call { callee := .builtin .clear, args := #[x], argTypes := #[24] }) (ht : o.type = 0) (hx : a.eval x = v)
  (h : (Builtin.clear_ #[24] 0 #[v]).run Tryd.prog w = .ok r w') : (execOp a.eval o).run Tryd.prog w = .ok (.value r) w' := by
 unfold execOp
 simp only [ho, resolve, invoke, builtin, Sem.run_bind, Sem.run_pure, Result.andThen_ok, List.map_toArray, List.map_cons, List.map_nil, hx, ht, h]
theorem run_clear (w : World) (b r : Nat) (hr : r ≤ 16) {h0 h1 h2 r0 r1 hl : Nat} {R : List Int} (hR : R.length = 16) (hb : Blk w b 88 (sumC h0 h1 h2 r0 r1 R hl).toArray) :
  (Builtin.clear_ #[24] 0 #[.slice (some ⟨b, 5 + (if r < 16 then r else 0), none⟩) (16 - r) (16 - r)]).run Tryd.prog w = .ok (.tuple #[]) (w.setCells b (5 + r) ((List.replicate (16 - r) (0 : Nat)).map fun (v : Nat) => Value.int .u8 (v : Int))) := by
 have hz : (zeroValue 5).run Tryd.prog w = .ok (.int .u8 0) w := by kernel_rfl
 have hs := run_storeCells_cells (P := Tryd.prog) b (5 + r) ((List.replicate (16 - r) (0 : Nat)).map fun (v : Nat) => Value.int .u8 (v : Int)) 0 w (fun j hj => by
  simp at hj
  rw [Nat.add_zero, Nat.add_assoc, sum_cr hR hb (r + j) (by omega)]; rfl) (fun j _ => hb.free _) (by intro v hv; simp at hv; rw [hv.2]; rfl)
 rw [Nat.add_zero] at hs
 by_cases h16 : r = 16
 ·subst h16
  unfold Builtin.clear_
  simp [run_underlying Tryd.underlying24, Result.andThen]
  rfl
 ·obtain ⟨m, hm⟩ : ∃ m, 16 - r = m + 1 := ⟨15 - r, by omega⟩
  have hc := zero_cells r hr
  rw [if_pos (by omega)]
  rw [hm] at hs hc ⊢
  simp only [List.map_replicate] at hs hc ⊢
  rw [show (((0 : Nat) : Int)) = (0 : Int) from rfl] at hs hc ⊢
  unfold Builtin.clear_
  simp [run_underlying Tryd.underlying24, Result.andThen, hz]
  rw [show (Value.int .u8 0).cells = #[.int .u8 0] from rfl, hc]
  simp [hs]
def padR (R : List Int) (k : Nat) : List Int := R.take k ++ [1] ++ List.replicate (15 - k) 0
theorem padR_ok {R : List Int} {k : Nat} (hR : R.length = 16 ∧ ∀ x ∈ R, 0 ≤ x ∧ x ≤ 255) (hk : k < 16) : (padR R k).length = 16 ∧ ∀ x ∈ padR R k, 0 ≤ x ∧ x ≤ 255 := by
 refine ⟨by simp [padR, hR.1]; omega, fun x hx => ?_⟩
 unfold padR at hx
 rcases List.mem_append.1 hx with hx | hx
 ·rcases List.mem_append.1 hx with hx | hx
  ·exact hR.2 x (List.mem_of_mem_take hx)
  ·simp at hx; omega
 ·have := List.eq_of_mem_replicate hx; omega
theorem vb_padR (R : List Int) (k : Nat) : vb (padR R k) = vb (R.take k ++ [1]) := by rw [padR, vb_append, vb_zeros, Nat.mul_zero, Nat.add_zero]
theorem blk_setCells {t g : Nat} : ∀ (vs : List Value) (o : Nat) (w : World) (l : List Value), Blk w g t l.toArray → o + vs.length ≤ l.length → Blk (w.setCells g o vs) g t (l.take o ++ vs ++ l.drop (o + vs.length)).toArray
 | [], o, w, l, h, _ => by simpa [World.setCells] using h
 | v :: vs, o, w, l, h, hl => by
  have hl' : o + 1 + vs.length ≤ l.length := by simp only [List.length_cons] at hl; omega
  have q := blk_setCells vs (o + 1) (w.setCell ⟨g, o, none⟩ v) (l.set o v) (h.set o v) (by simpa using hl')
  have e : (l.set o v).take (o + 1) ++ vs ++ (l.set o v).drop (o + 1 + vs.length) = l.take o ++ (v :: vs) ++ l.drop (o + (v :: vs).length) := by
   rw [List.drop_set_of_lt (by omega), getD_take (l.set o v) v (by simp; omega)]
   have e1 : (l.set o v).take o = l.take o := by rw [List.take_set_of_le (by omega)]
   have e2 : (l.set o v).getD o v = v := by
    simp only [List.getD, List.getElem?_set, if_true]
    rw [if_pos (by omega)]
    rfl
   rw [e1, e2, List.length_cons, show o + 1 + vs.length = o + (vs.length + 1) by omega]
   simp
  rw [e] at q
  exact q
theorem gb_setCells {w : World} {b : Nat} : ∀ {vs : List Value} {X : World}, w.grownBy X (some b) → ∀ (o : Nat), w.grownBy (X.setCells b o vs) (some b)
 | [], X, h, o => h
 | v :: vs, X, h, o => gb_setCells (vs := vs) (gb_set h o v) (o + 1)
theorem sum_clear {w : World} {b h0 h1 h2 r0 r1 hl k : Nat} {R : List Int} (hR : R.length = 16) (hk : k < 16) (h : Blk w b 88 (sumC h0 h1 h2 r0 r1 (R.set k 1) hl).toArray) :
  Blk (w.setCells b (5 + (k + 1)) ((List.replicate (16 - (k + 1)) (0 : Nat)).map fun (v : Nat) => Value.int .u8 (v : Int))) b 88 (sumC h0 h1 h2 r0 r1 (padR R k) hl).toArray := by
 have q := blk_setCells ((List.replicate (16 - (k + 1)) (0 : Nat)).map fun (v : Nat) => Value.int .u8 (v : Int)) (5 + (k + 1)) w _ h (by simp [sumC, u8l, hR]; omega)
 have e : (sumC h0 h1 h2 r0 r1 (R.set k 1) hl).take (5 + (k + 1)) ++ ((List.replicate (16 - (k + 1)) (0 : Nat)).map fun (v : Nat) => Value.int .u8 (v : Int)) ++ (sumC h0 h1 h2 r0 r1 (R.set k 1) hl).drop (5 + (k + 1) + ((List.replicate (16 - (k + 1)) (0 : Nat)).map fun (v : Nat) => Value.int .u8 (v : Int)).length) = sumC h0 h1 h2 r0 r1 (padR R k) hl := by
  have e1 : (R.set k 1).take (k + 1) = R.take k ++ [1] := by
   rw [getD_take (R.set k 1) 1 (by simp; omega), List.take_set_of_le (by omega)]
   have e2 : (R.set k 1).getD k 1 = 1 := by
    simp only [List.getD, List.getElem?_set, if_true]
    rw [if_pos (by omega)]
    rfl
   rw [e2]
  rw [List.length_map, List.length_replicate, show 5 + (k + 1) + (16 - (k + 1)) = 16 + 5 by omega, show 5 + (k + 1) = (k + 1) + 5 by omega]
  simp only [sumC, List.take_succ_cons, List.drop_succ_cons]
  rw [List.take_append_of_le_length (by simp [u8l, hR]; omega), List.drop_append, List.drop_of_length_le (by simp [u8l, hR])]
  have e2 : (u8l (R.set k 1)).take (k + 1) = u8l (R.take k ++ [1]) := by rw [← e1]; simp [u8l, List.map_take]
  rw [e2]
  simp [padR, u8l, hR]
 rw [e] at q
 exact q
attribute [local irreducible] wpList
set_option maxRecDepth 100000 in
set_option maxHeartbeats 8000000 in
theorem take_full (w : World) (b r0 r1 A k : Nat) (R : List Int) (h : PMid w b r0 r1 A R k) (hk : k = 16) (k0 : r0 < 1152921504606846976) (k1 : r1 < 1152921504606846976) :
  Calls Tryd.prog 36 #[.pointer (some ⟨b, 0, none⟩)] w fun e w' => e = .returned (.tuple #[]) ∧ w.grownBy w' (some b) ∧ ∃ R', PMid w' b r0 r1 ((A + vb (R.take k ++ [1])) * (r0 + 18446744073709551616 * r1) % p130) R' 0 := by
 obtain ⟨h0, h1, h2, hb, l0, l1, l2, hA, hR⟩ := h
 have hR2 := hR
 have hv : O.le (fun j => (R.getD (0 + j) 0).toNat) 8 + 18446744073709551616 * O.le (fun j => (R.getD (8 + j) 0).toNat) 8 + 340282366920938463463374607431768211456 * 1 = vb (R.take k ++ [1]) := by rw [le_both hR.1, hk, List.take_of_length_le (by omega), vb_append, hR.1]; simp [vb, vd]
 obtain ⟨n0, hn0⟩ : ∃ q, O.le (fun j => (R.getD (0 + j) 0).toNat) 8 = q := ⟨_, rfl⟩
 obtain ⟨n1, hn1⟩ : ∃ q, O.le (fun j => (R.getD (8 + j) 0).toNat) 8 = q := ⟨_, rfl⟩
 have N0 : n0 < 18446744073709551616 := by rw [← hn0]; exact O.le_64 _ (nat_byte hR2.2 _) 8 (by omega)
 have N1 : n1 < 18446744073709551616 := by rw [← hn1]; exact O.le_64 _ (nat_byte hR2.2 _) 8 (by omega)
 obtain ⟨s0, d0, a0⟩ := add_ex h0 n0 0 l0 N0 (Nat.zero_le 1)
 obtain ⟨s1, d1, a1⟩ := add_ex h1 n1 d0 l1 N1 a0.2.2.1
 have C14 : Hid (∀ W, ∀ {a0 a1 a2 c : Nat}, Blk W b 88 (sumC a0 a1 a2 r0 r1 R c).toArray → Calls Tryd.prog 34 #[.slice (some ⟨b, 5 + 0, none⟩) (16 - 0) (16 - 0)] W fun e w' => e = .returned (.int .u64 ((n0 : Nat) : Int)) ∧ W = w') := Lib.hid (fun W _ _ _ _ h => by rw [← hn0]; exact num_at hR2 h 0 (by omega))
 have C15 : Hid (∀ W, ∀ {a0 a1 a2 c : Nat}, Blk W b 88 (sumC a0 a1 a2 r0 r1 R c).toArray → Calls Tryd.prog 34 #[.slice (some ⟨b, 5 + 8, none⟩) (16 - 8) (16 - 8)] W fun e w' => e = .returned (.int .u64 ((n1 : Nat) : Int)) ∧ W = w') := Lib.hid (fun W _ _ _ _ h => by rw [← hn1]; exact num_at hR2 h 8 (by omega))
 have HT : Hid (1 + d1 < 18446744073709551616 ∧ h2 + (1 + d1) < 18446744073709551616 ∧ h2 + (1 + d1) ≤ 6) := Lib.hid (take_small l2 a1.2.2.1 (by decide))
 have HE : Hid ((s0 + 18446744073709551616 * s1 + 340282366920938463463374607431768211456 * (h2 + (1 + d1))) * (r0 + 18446744073709551616 * r1) % p130 = (A + vb (R.take k ++ [1])) * (r0 + 18446744073709551616 * r1) % p130) := Lib.hid (by rw [take_sum a0.2.2.2 a1.2.2.2, ← hn0, ← hn1, hv, ← hA, mod_step])
 have H0 : Hid (w.grownBy w (some b) ∧ Blk w b 88 (sumC h0 h1 h2 r0 r1 R k).toArray) := Lib.hid ⟨gb_refl _ _, hb⟩
 have HR := Lib.hid hR
 have HR2 := Lib.hid hR2
 have HK := Lib.hid hk
 have A0 := Lib.hid a0
 have A1 := Lib.hid a1
 have KR := Lib.hid (And.intro k0 k1)
 clear hb l0 l1 l2 hA hR hR2 hk N0 N1 a0 a1 hn0 hn1 k0 k1 hv
 go_enter Tryd.func36, Tryd.ntmps36
 go_upto_region 0 with (fail)
 refine wp_region_lit ?_
 refine zP (.int .u64 ((1 : Nat) : Int)) ?_
 go_upto_region 1 with (fail)
 refine wp_region_lit ?_
 refine zP (.pointer (some ⟨b, 0, none⟩)) ?_
 refine zP (.pointer (some ⟨b, 0, none⟩)) ?_
 refine zP (.pointer (some ⟨b, 21, none⟩)) ?_
 refine zQ (.int .i64 ((k : Nat) : Int)) (run_load_one _ _ _ 3 _ _ rfl (b) (21) rfl (sum_c21 HR.out.1 H0.out.2) (by kernel_rfl)) ?_
 refine zQ (.bool false) (run_lti Tryd.underlying3 rfl rfl rfl (by have := HK.out; rw [decide_eq_false_iff_not]; omega)) ?_
 refine zP (.bool false) ?_
 have H1 : Hid (w.grownBy w.drew (some b) ∧ Blk w.drew b 88 (sumC h0 h1 h2 r0 r1 R k).toArray) := Lib.hid ⟨gb_drew H0.out.1, H0.out.2.drew⟩
 go_upto_region 5 with (fail)
 refine wp_region_lit ?_
 refine zP (.int .u64 ((0 : Nat) : Int)) ?_
 go_upto_region 6 with (fail)
 refine region_any (by kernel_rfl) 20 rfl ?_
 refine zA 0 28 (.pointer (some ⟨b, 0, none⟩)) ?_
 refine zA 1 29 (.pointer (some ⟨b, 0, none⟩)) ?_
 refine zA 2 30 (.pointer (some ⟨b, 0, none⟩)) ?_
 refine zA 3 31 (.pointer (some ⟨b, 0, none⟩)) ?_
 refine zA 4 32 (.pointer (some ⟨b, 0, none⟩)) ?_
 refine zA 6 34 (.pointer (some ⟨b, 0, none⟩)) ?_
 refine zA 7 35 (.pointer (some ⟨b, 0, none⟩)) ?_
 refine zA 8 36 (.pointer (some ⟨b, 5, none⟩)) ?_
 refine zB 9 37 (.slice (some ⟨b, 5 + 0, none⟩) (16 - 0) (16 - 0)) rfl (fun w => run_sl26 _ _ _ _ _ b 5 0 rfl rfl rfl (by omega)) ?_
 refine zA 15 42 (.pointer (some ⟨b, 0, none⟩)) ?_
 refine zA 16 43 (.pointer (some ⟨b, 0, none⟩)) ?_
 refine wpAny_all (rs := [5, 10]) (by kernel_rfl) (by simp) ?_
 intro i hi
 simp only [List.mem_cons, List.not_mem_nil, or_false] at hi
 rcases hi with rfl | rfl
 ·refine op_val (o := ⟨some 33, _, _, _, _, _⟩) (.int .u64 ((h0 : Nat) : Int)) rfl rfl (run_load_one _ _ _ 82 _ _ rfl b 0 rfl (sum_c0 H1.out.2) (by kernel_rfl)) ?_
  simp only [Act.put, List.setIfInBounds_toArray, List.set_cons_zero, List.set_cons_succ]
  refine wpAny_all (rs := [10]) (by kernel_rfl) (by simp) ?_
  intro i hi
  simp only [List.mem_cons, List.not_mem_nil, or_false] at hi
  subst hi
  refine op_call (o := ⟨some 38, _, _, _, _, _⟩) 34 #[.slice (some ⟨b, 5 + 0, none⟩) (16 - 0) (16 - 0)] rfl rfl (by kernel_rfl) (((C14.out w.drew H1.out.2)).mono fun e z2 ⟨he, qz2⟩ => ⟨.int .u64 ((n0 : Nat) : Int), he, ?_⟩)
  simp only [Act.put, List.setIfInBounds_toArray, List.set_cons_zero, List.set_cons_succ]
  have Fz2 := Lib.hid (show w.grownBy z2 (some b) ∧ Blk z2 b 88 (sumC h0 h1 h2 r0 r1 R k).toArray from ⟨by rw [← qz2]; exact H1.out.1, by rw [← qz2]; exact H1.out.2⟩)
  clear qz2
  refine zB 11 39 (.tuple #[.int .u64 ((s0 : Nat) : Int), .int .u64 ((d0 : Nat) : Int)]) rfl (fun w => (Eq.trans (b := (callFunc 50 #[.int .u64 ((h0 : Nat) : Int), .int .u64 ((n0 : Nat) : Int), .int .u64 ((0 : Nat) : Int)]).run Tryd.prog _) (by kernel_rfl) (A0.out.1 _))) ?_
  refine zA 12 27 (.tuple #[.int .u64 ((s0 : Nat) : Int), .int .u64 ((d0 : Nat) : Int)]) ?_
  refine zA 13 40 (.int .u64 ((s0 : Nat) : Int)) ?_
  refine zA 14 41 (.int .u64 ((d0 : Nat) : Int)) ?_
  refine zA 17 44 (.pointer (some ⟨b, 0, none⟩)) ?_
  refine wpAny_of_idx [18, 19] [⟨none, _, _, _, _, _⟩, ⟨some 3, _, _, _, _, _⟩] _ _ _ (by rfl) (by kernel_rfl) ?_
  refine wpL_store_one rfl rfl (b) (0) rfl (.int .u64 ((s0 : Nat) : Int)) rfl rfl size35 (by rw [sum_c0 Fz2.out.2]; rfl) (Fz2.out.2.free _) ?_
  simp only [Act.put, List.setIfInBounds_toArray, List.set_cons_zero, List.set_cons_succ]
  obtain ⟨v1, hv1⟩ : ∃ V, V = z2.setCell ⟨b, 0, none⟩ (.int .u64 ((s0 : Nat) : Int)) := ⟨_, rfl⟩
  rw [← hv1]
  have F1 : Hid (w.grownBy v1.drew (some b) ∧ Blk v1.drew b 88 (sumC s0 h1 h2 r0 r1 R k).toArray) := Lib.hid (by rw [hv1]; exact ⟨gb_drew (gb_set Fz2.out.1 _ _), (sum_s0 Fz2.out.2 _).drew⟩)
  clear hv1 Fz2
  refine zP (.int .u64 ((d0 : Nat) : Int)) ?_
  go_upto_region 7 with (fail)
  refine region_any (by kernel_rfl) 21 rfl ?_
  refine zA 0 46 (.pointer (some ⟨b, 0, none⟩)) ?_
  refine zA 1 47 (.pointer (some ⟨b, 0, none⟩)) ?_
  refine zA 2 48 (.pointer (some ⟨b, 0, none⟩)) ?_
  refine zA 3 49 (.pointer (some ⟨b, 0, none⟩)) ?_
  refine zA 4 50 (.pointer (some ⟨b, 1, none⟩)) ?_
  refine zA 6 52 (.pointer (some ⟨b, 0, none⟩)) ?_
  refine zA 7 53 (.pointer (some ⟨b, 0, none⟩)) ?_
  refine zA 8 54 (.pointer (some ⟨b, 5, none⟩)) ?_
  refine zB 9 55 (.slice (some ⟨b, 5 + 8, none⟩) (16 - 8) (16 - 8)) rfl (fun w => run_sl26 _ _ _ _ _ b 5 8 rfl rfl rfl (by omega)) ?_
  refine zA 11 57 (.int .u64 ((d0 : Nat) : Int)) ?_
  refine zA 16 61 (.pointer (some ⟨b, 0, none⟩)) ?_
  refine zA 17 62 (.pointer (some ⟨b, 0, none⟩)) ?_
  refine wpAny_all (rs := [5, 10]) (by kernel_rfl) (by simp) ?_
  intro i hi
  simp only [List.mem_cons, List.not_mem_nil, or_false] at hi
  rcases hi with rfl | rfl
  ·refine op_val (o := ⟨some 51, _, _, _, _, _⟩) (.int .u64 ((h1 : Nat) : Int)) rfl rfl (run_load_one _ _ _ 82 _ _ rfl b 1 rfl (sum_c1 F1.out.2) (by kernel_rfl)) ?_
   simp only [Act.put, List.setIfInBounds_toArray, List.set_cons_zero, List.set_cons_succ]
   refine wpAny_all (rs := [10]) (by kernel_rfl) (by simp) ?_
   intro i hi
   simp only [List.mem_cons, List.not_mem_nil, or_false] at hi
   subst hi
   refine op_call (o := ⟨some 56, _, _, _, _, _⟩) 34 #[.slice (some ⟨b, 5 + 8, none⟩) (16 - 8) (16 - 8)] rfl rfl (by kernel_rfl) (((C15.out v1.drew F1.out.2)).mono fun e y2 ⟨he, qy2⟩ => ⟨.int .u64 ((n1 : Nat) : Int), he, ?_⟩)
   simp only [Act.put, List.setIfInBounds_toArray, List.set_cons_zero, List.set_cons_succ]
   have Fy2 := Lib.hid (show w.grownBy y2 (some b) ∧ Blk y2 b 88 (sumC s0 h1 h2 r0 r1 R k).toArray from ⟨by rw [← qy2]; exact F1.out.1, by rw [← qy2]; exact F1.out.2⟩)
   clear qy2
   refine zB 12 58 (.tuple #[.int .u64 ((s1 : Nat) : Int), .int .u64 ((d1 : Nat) : Int)]) rfl (fun w => (Eq.trans (b := (callFunc 50 #[.int .u64 ((h1 : Nat) : Int), .int .u64 ((n1 : Nat) : Int), .int .u64 ((d0 : Nat) : Int)]).run Tryd.prog _) (by kernel_rfl) (A1.out.1 _))) ?_
   refine zA 13 45 (.tuple #[.int .u64 ((s1 : Nat) : Int), .int .u64 ((d1 : Nat) : Int)]) ?_
   refine zA 14 59 (.int .u64 ((s1 : Nat) : Int)) ?_
   refine zA 15 60 (.int .u64 ((d1 : Nat) : Int)) ?_
   refine zA 18 63 (.pointer (some ⟨b, 1, none⟩)) ?_
   refine wpAny_of_idx [19, 20] [⟨none, _, _, _, _, _⟩, ⟨some 3, _, _, _, _, _⟩] _ _ _ (by rfl) (by kernel_rfl) ?_
   refine wpL_store_one rfl rfl (b) (1) rfl (.int .u64 ((s1 : Nat) : Int)) rfl rfl size35 (by rw [sum_c1 Fy2.out.2]; rfl) (Fy2.out.2.free _) ?_
   simp only [Act.put, List.setIfInBounds_toArray, List.set_cons_zero, List.set_cons_succ]
   obtain ⟨v2, hv2⟩ : ∃ V, V = y2.setCell ⟨b, 1, none⟩ (.int .u64 ((s1 : Nat) : Int)) := ⟨_, rfl⟩
   rw [← hv2]
   have F2 : Hid (w.grownBy v2.drew (some b) ∧ Blk v2.drew b 88 (sumC s0 s1 h2 r0 r1 R k).toArray) := Lib.hid (by rw [hv2]; exact ⟨gb_drew (gb_set Fy2.out.1 _ _), (sum_s1 Fy2.out.2 _).drew⟩)
   clear hv2 Fy2
   refine zP (.int .u64 ((d1 : Nat) : Int)) ?_
   go_upto_region 8 with (fail)
   refine region_any (by kernel_rfl) 13 rfl ?_
   refine zA 0 64 (.pointer (some ⟨b, 0, none⟩)) ?_
   refine zA 1 65 (.pointer (some ⟨b, 0, none⟩)) ?_
   refine zA 2 66 (.pointer (some ⟨b, 0, none⟩)) ?_
   refine zA 3 67 (.pointer (some ⟨b, 2, none⟩)) ?_
   refine zA 5 69 (.int .u64 ((1 : Nat) : Int)) ?_
   refine zA 6 70 (.int .u64 ((d1 : Nat) : Int)) ?_
   refine zB 7 71 (.int .u64 ((1 + d1 : Nat) : Int)) rfl (fun w => run_addi Tryd.underlying82 rfl rfl rfl _ (wadd rfl HT.out.1)) ?_
   refine zA 9 73 (.pointer (some ⟨b, 0, none⟩)) ?_
   refine zA 10 74 (.pointer (some ⟨b, 0, none⟩)) ?_
   refine wpAny_all (rs := [4]) (by kernel_rfl) (by simp) ?_
   intro i hi
   simp only [List.mem_cons, List.not_mem_nil, or_false] at hi
   subst hi
   refine op_val (o := ⟨some 68, _, _, _, _, _⟩) (.int .u64 ((h2 : Nat) : Int)) rfl rfl (run_load_one _ _ _ 82 _ _ rfl b 2 rfl (sum_c2 F2.out.2) (by kernel_rfl)) ?_
   simp only [Act.put, List.setIfInBounds_toArray, List.set_cons_zero, List.set_cons_succ]
   refine zB 8 72 (.int .u64 ((h2 + (1 + d1) : Nat) : Int)) rfl (fun w => run_addi Tryd.underlying82 rfl rfl rfl _ (wadd rfl HT.out.2.1)) ?_
   refine zA 11 75 (.pointer (some ⟨b, 2, none⟩)) ?_
   refine wpAny_of_idx [12] [⟨none, _, _, _, _, _⟩] _ _ _ (by rfl) (by kernel_rfl) ?_
   refine wpL_store_one rfl rfl (b) (2) rfl (.int .u64 ((h2 + (1 + d1) : Nat) : Int)) rfl rfl size35 (by rw [sum_c2 F2.out.2]; rfl) (F2.out.2.free _) ?_
   simp only [Act.put, List.setIfInBounds_toArray, List.set_cons_zero, List.set_cons_succ]
   obtain ⟨v3, hv3⟩ : ∃ V, V = v2.drew.setCell ⟨b, 2, none⟩ (.int .u64 ((h2 + (1 + d1) : Nat) : Int)) := ⟨_, rfl⟩
   rw [← hv3]
   have F3 : Hid (w.grownBy v3 (some b) ∧ Blk v3 b 88 (sumC s0 s1 (h2 + (1 + d1)) r0 r1 R k).toArray) := Lib.hid (by rw [hv3]; exact ⟨ (gb_set F2.out.1 _ _), (sum_s2 F2.out.2 _)⟩)
   clear hv3 F2
   go_upto_region 9 with (fail)
   refine wp_region_lit ?_
   refine zP (.pointer (some ⟨b, 0, none⟩)) ?_
   refine wpL_call 51 #[.pointer (some ⟨b, 0, none⟩)] rfl (by kernel_rfl) (((multiply_any v3 b s0 s1 (h2 + (1 + d1)) r0 r1 R k A0.out.2.1 A1.out.2.1 HT.out.2.2 KR.out.1 KR.out.2 F3.out.2)).mono fun e v4 ⟨he, q1, z0, z1, z2, q2, q3, q4, q5, q6⟩ => ⟨.tuple #[], he, ?_⟩)
   simp only [Act.put, List.setIfInBounds_toArray, List.set_cons_zero, List.set_cons_succ]
   have F4 : Hid (w.grownBy v4 (some b) ∧ Blk v4 b 88 (sumC z0 z1 z2 r0 r1 R k).toArray) := Lib.hid ⟨gb_trans F3.out.1 q1, q2⟩
   have Z := Lib.hid (And.intro q3 (And.intro q4 (And.intro q5 q6)))
   clear q1 q2 q3 q4 q5 q6 F3
   go_upto_region 10 with (fail)
   refine wp_region_lit ?_
   refine zP (.pointer (some ⟨b, 0, none⟩)) ?_
   refine zP (.pointer (some ⟨b, 0, none⟩)) ?_
   refine zP (.pointer (some ⟨b, 21, none⟩)) ?_
   refine wpL_store_one rfl rfl (b) (21) rfl (.int .i64 0) rfl rfl size3 (by rw [sum_c21 HR2.out.1 F4.out.2]; rfl) (F4.out.2.free _) ?_
   simp only [Act.put, List.setIfInBounds_toArray, List.set_cons_zero, List.set_cons_succ]
   obtain ⟨v5, hv5⟩ : ∃ V, V = v4.setCell ⟨b, 21, none⟩ (.int .i64 ((0 : Nat) : Int)) := ⟨_, rfl⟩
   try rw [show v4.setCell ⟨b, 21, none⟩ (.int .i64 0) = v5 from hv5.symm]
   have F5 : Hid (w.grownBy v5 (some b) ∧ Blk v5 b 88 (sumC z0 z1 z2 r0 r1 R 0).toArray) := Lib.hid (by rw [hv5]; exact ⟨gb_set F4.out.1 _ _, sum_s21 HR2.out.1 F4.out.2 0⟩)
   clear hv5 F4
   go_upto_region 11 with (fail)
   go_end0
   exact ⟨rfl, F5.out.1, R, z0, z1, z2, F5.out.2, Z.out.1, Z.out.2.1, Z.out.2.2.1, by rw [Z.out.2.2.2]; exact HE.out, HR2.out⟩
  ·refine op_call (o := ⟨some 56, _, _, _, _, _⟩) 34 #[.slice (some ⟨b, 5 + 8, none⟩) (16 - 8) (16 - 8)] rfl rfl (by kernel_rfl) (((C15.out v1.drew F1.out.2)).mono fun e y3 ⟨he, qy3⟩ => ⟨.int .u64 ((n1 : Nat) : Int), he, ?_⟩)
   simp only [Act.put, List.setIfInBounds_toArray, List.set_cons_zero, List.set_cons_succ]
   have Fy3 := Lib.hid (show w.grownBy y3 (some b) ∧ Blk y3 b 88 (sumC s0 h1 h2 r0 r1 R k).toArray from ⟨by rw [← qy3]; exact F1.out.1, by rw [← qy3]; exact F1.out.2⟩)
   clear qy3
   refine wpAny_all (rs := [5]) (by kernel_rfl) (by simp) ?_
   intro i hi
   simp only [List.mem_cons, List.not_mem_nil, or_false] at hi
   subst hi
   refine op_val (o := ⟨some 51, _, _, _, _, _⟩) (.int .u64 ((h1 : Nat) : Int)) rfl rfl (run_load_one _ _ _ 82 _ _ rfl b 1 rfl (sum_c1 Fy3.out.2) (by kernel_rfl)) ?_
   simp only [Act.put, List.setIfInBounds_toArray, List.set_cons_zero, List.set_cons_succ]
   refine zB 12 58 (.tuple #[.int .u64 ((s1 : Nat) : Int), .int .u64 ((d1 : Nat) : Int)]) rfl (fun w => (Eq.trans (b := (callFunc 50 #[.int .u64 ((h1 : Nat) : Int), .int .u64 ((n1 : Nat) : Int), .int .u64 ((d0 : Nat) : Int)]).run Tryd.prog _) (by kernel_rfl) (A1.out.1 _))) ?_
   refine zA 13 45 (.tuple #[.int .u64 ((s1 : Nat) : Int), .int .u64 ((d1 : Nat) : Int)]) ?_
   refine zA 14 59 (.int .u64 ((s1 : Nat) : Int)) ?_
   refine zA 15 60 (.int .u64 ((d1 : Nat) : Int)) ?_
   refine zA 18 63 (.pointer (some ⟨b, 1, none⟩)) ?_
   refine wpAny_of_idx [19, 20] [⟨none, _, _, _, _, _⟩, ⟨some 3, _, _, _, _, _⟩] _ _ _ (by rfl) (by kernel_rfl) ?_
   refine wpL_store_one rfl rfl (b) (1) rfl (.int .u64 ((s1 : Nat) : Int)) rfl rfl size35 (by rw [sum_c1 Fy3.out.2]; rfl) (Fy3.out.2.free _) ?_
   simp only [Act.put, List.setIfInBounds_toArray, List.set_cons_zero, List.set_cons_succ]
   obtain ⟨v2, hv2⟩ : ∃ V, V = y3.setCell ⟨b, 1, none⟩ (.int .u64 ((s1 : Nat) : Int)) := ⟨_, rfl⟩
   rw [← hv2]
   have F2 : Hid (w.grownBy v2.drew (some b) ∧ Blk v2.drew b 88 (sumC s0 s1 h2 r0 r1 R k).toArray) := Lib.hid (by rw [hv2]; exact ⟨gb_drew (gb_set Fy3.out.1 _ _), (sum_s1 Fy3.out.2 _).drew⟩)
   clear hv2 Fy3
   refine zP (.int .u64 ((d1 : Nat) : Int)) ?_
   go_upto_region 8 with (fail)
   refine region_any (by kernel_rfl) 13 rfl ?_
   refine zA 0 64 (.pointer (some ⟨b, 0, none⟩)) ?_
   refine zA 1 65 (.pointer (some ⟨b, 0, none⟩)) ?_
   refine zA 2 66 (.pointer (some ⟨b, 0, none⟩)) ?_
   refine zA 3 67 (.pointer (some ⟨b, 2, none⟩)) ?_
   refine zA 5 69 (.int .u64 ((1 : Nat) : Int)) ?_
   refine zA 6 70 (.int .u64 ((d1 : Nat) : Int)) ?_
   refine zB 7 71 (.int .u64 ((1 + d1 : Nat) : Int)) rfl (fun w => run_addi Tryd.underlying82 rfl rfl rfl _ (wadd rfl HT.out.1)) ?_
   refine zA 9 73 (.pointer (some ⟨b, 0, none⟩)) ?_
   refine zA 10 74 (.pointer (some ⟨b, 0, none⟩)) ?_
   refine wpAny_all (rs := [4]) (by kernel_rfl) (by simp) ?_
   intro i hi
   simp only [List.mem_cons, List.not_mem_nil, or_false] at hi
   subst hi
   refine op_val (o := ⟨some 68, _, _, _, _, _⟩) (.int .u64 ((h2 : Nat) : Int)) rfl rfl (run_load_one _ _ _ 82 _ _ rfl b 2 rfl (sum_c2 F2.out.2) (by kernel_rfl)) ?_
   simp only [Act.put, List.setIfInBounds_toArray, List.set_cons_zero, List.set_cons_succ]
   refine zB 8 72 (.int .u64 ((h2 + (1 + d1) : Nat) : Int)) rfl (fun w => run_addi Tryd.underlying82 rfl rfl rfl _ (wadd rfl HT.out.2.1)) ?_
   refine zA 11 75 (.pointer (some ⟨b, 2, none⟩)) ?_
   refine wpAny_of_idx [12] [⟨none, _, _, _, _, _⟩] _ _ _ (by rfl) (by kernel_rfl) ?_
   refine wpL_store_one rfl rfl (b) (2) rfl (.int .u64 ((h2 + (1 + d1) : Nat) : Int)) rfl rfl size35 (by rw [sum_c2 F2.out.2]; rfl) (F2.out.2.free _) ?_
   simp only [Act.put, List.setIfInBounds_toArray, List.set_cons_zero, List.set_cons_succ]
   obtain ⟨v3, hv3⟩ : ∃ V, V = v2.drew.setCell ⟨b, 2, none⟩ (.int .u64 ((h2 + (1 + d1) : Nat) : Int)) := ⟨_, rfl⟩
   rw [← hv3]
   have F3 : Hid (w.grownBy v3 (some b) ∧ Blk v3 b 88 (sumC s0 s1 (h2 + (1 + d1)) r0 r1 R k).toArray) := Lib.hid (by rw [hv3]; exact ⟨ (gb_set F2.out.1 _ _), (sum_s2 F2.out.2 _)⟩)
   clear hv3 F2
   go_upto_region 9 with (fail)
   refine wp_region_lit ?_
   refine zP (.pointer (some ⟨b, 0, none⟩)) ?_
   refine wpL_call 51 #[.pointer (some ⟨b, 0, none⟩)] rfl (by kernel_rfl) (((multiply_any v3 b s0 s1 (h2 + (1 + d1)) r0 r1 R k A0.out.2.1 A1.out.2.1 HT.out.2.2 KR.out.1 KR.out.2 F3.out.2)).mono fun e v4 ⟨he, q1, z0, z1, z2, q2, q3, q4, q5, q6⟩ => ⟨.tuple #[], he, ?_⟩)
   simp only [Act.put, List.setIfInBounds_toArray, List.set_cons_zero, List.set_cons_succ]
   have F4 : Hid (w.grownBy v4 (some b) ∧ Blk v4 b 88 (sumC z0 z1 z2 r0 r1 R k).toArray) := Lib.hid ⟨gb_trans F3.out.1 q1, q2⟩
   have Z := Lib.hid (And.intro q3 (And.intro q4 (And.intro q5 q6)))
   clear q1 q2 q3 q4 q5 q6 F3
   go_upto_region 10 with (fail)
   refine wp_region_lit ?_
   refine zP (.pointer (some ⟨b, 0, none⟩)) ?_
   refine zP (.pointer (some ⟨b, 0, none⟩)) ?_
   refine zP (.pointer (some ⟨b, 21, none⟩)) ?_
   refine wpL_store_one rfl rfl (b) (21) rfl (.int .i64 0) rfl rfl size3 (by rw [sum_c21 HR2.out.1 F4.out.2]; rfl) (F4.out.2.free _) ?_
   simp only [Act.put, List.setIfInBounds_toArray, List.set_cons_zero, List.set_cons_succ]
   obtain ⟨v5, hv5⟩ : ∃ V, V = v4.setCell ⟨b, 21, none⟩ (.int .i64 ((0 : Nat) : Int)) := ⟨_, rfl⟩
   try rw [show v4.setCell ⟨b, 21, none⟩ (.int .i64 0) = v5 from hv5.symm]
   have F5 : Hid (w.grownBy v5 (some b) ∧ Blk v5 b 88 (sumC z0 z1 z2 r0 r1 R 0).toArray) := Lib.hid (by rw [hv5]; exact ⟨gb_set F4.out.1 _ _, sum_s21 HR2.out.1 F4.out.2 0⟩)
   clear hv5 F4
   go_upto_region 11 with (fail)
   go_end0
   exact ⟨rfl, F5.out.1, R, z0, z1, z2, F5.out.2, Z.out.1, Z.out.2.1, Z.out.2.2.1, by rw [Z.out.2.2.2]; exact HE.out, HR2.out⟩
 ·refine op_call (o := ⟨some 38, _, _, _, _, _⟩) 34 #[.slice (some ⟨b, 5 + 0, none⟩) (16 - 0) (16 - 0)] rfl rfl (by kernel_rfl) (((C14.out w.drew H1.out.2)).mono fun e z3 ⟨he, qz3⟩ => ⟨.int .u64 ((n0 : Nat) : Int), he, ?_⟩)
  simp only [Act.put, List.setIfInBounds_toArray, List.set_cons_zero, List.set_cons_succ]
  have Fz3 := Lib.hid (show w.grownBy z3 (some b) ∧ Blk z3 b 88 (sumC h0 h1 h2 r0 r1 R k).toArray from ⟨by rw [← qz3]; exact H1.out.1, by rw [← qz3]; exact H1.out.2⟩)
  clear qz3
  refine wpAny_all (rs := [5]) (by kernel_rfl) (by simp) ?_
  intro i hi
  simp only [List.mem_cons, List.not_mem_nil, or_false] at hi
  subst hi
  refine op_val (o := ⟨some 33, _, _, _, _, _⟩) (.int .u64 ((h0 : Nat) : Int)) rfl rfl (run_load_one _ _ _ 82 _ _ rfl b 0 rfl (sum_c0 Fz3.out.2) (by kernel_rfl)) ?_
  simp only [Act.put, List.setIfInBounds_toArray, List.set_cons_zero, List.set_cons_succ]
  refine zB 11 39 (.tuple #[.int .u64 ((s0 : Nat) : Int), .int .u64 ((d0 : Nat) : Int)]) rfl (fun w => (Eq.trans (b := (callFunc 50 #[.int .u64 ((h0 : Nat) : Int), .int .u64 ((n0 : Nat) : Int), .int .u64 ((0 : Nat) : Int)]).run Tryd.prog _) (by kernel_rfl) (A0.out.1 _))) ?_
  refine zA 12 27 (.tuple #[.int .u64 ((s0 : Nat) : Int), .int .u64 ((d0 : Nat) : Int)]) ?_
  refine zA 13 40 (.int .u64 ((s0 : Nat) : Int)) ?_
  refine zA 14 41 (.int .u64 ((d0 : Nat) : Int)) ?_
  refine zA 17 44 (.pointer (some ⟨b, 0, none⟩)) ?_
  refine wpAny_of_idx [18, 19] [⟨none, _, _, _, _, _⟩, ⟨some 3, _, _, _, _, _⟩] _ _ _ (by rfl) (by kernel_rfl) ?_
  refine wpL_store_one rfl rfl (b) (0) rfl (.int .u64 ((s0 : Nat) : Int)) rfl rfl size35 (by rw [sum_c0 Fz3.out.2]; rfl) (Fz3.out.2.free _) ?_
  simp only [Act.put, List.setIfInBounds_toArray, List.set_cons_zero, List.set_cons_succ]
  obtain ⟨v1, hv1⟩ : ∃ V, V = z3.setCell ⟨b, 0, none⟩ (.int .u64 ((s0 : Nat) : Int)) := ⟨_, rfl⟩
  rw [← hv1]
  have F1 : Hid (w.grownBy v1.drew (some b) ∧ Blk v1.drew b 88 (sumC s0 h1 h2 r0 r1 R k).toArray) := Lib.hid (by rw [hv1]; exact ⟨gb_drew (gb_set Fz3.out.1 _ _), (sum_s0 Fz3.out.2 _).drew⟩)
  clear hv1 Fz3
  refine zP (.int .u64 ((d0 : Nat) : Int)) ?_
  go_upto_region 7 with (fail)
  refine region_any (by kernel_rfl) 21 rfl ?_
  refine zA 0 46 (.pointer (some ⟨b, 0, none⟩)) ?_
  refine zA 1 47 (.pointer (some ⟨b, 0, none⟩)) ?_
  refine zA 2 48 (.pointer (some ⟨b, 0, none⟩)) ?_
  refine zA 3 49 (.pointer (some ⟨b, 0, none⟩)) ?_
  refine zA 4 50 (.pointer (some ⟨b, 1, none⟩)) ?_
  refine zA 6 52 (.pointer (some ⟨b, 0, none⟩)) ?_
  refine zA 7 53 (.pointer (some ⟨b, 0, none⟩)) ?_
  refine zA 8 54 (.pointer (some ⟨b, 5, none⟩)) ?_
  refine zB 9 55 (.slice (some ⟨b, 5 + 8, none⟩) (16 - 8) (16 - 8)) rfl (fun w => run_sl26 _ _ _ _ _ b 5 8 rfl rfl rfl (by omega)) ?_
  refine zA 11 57 (.int .u64 ((d0 : Nat) : Int)) ?_
  refine zA 16 61 (.pointer (some ⟨b, 0, none⟩)) ?_
  refine zA 17 62 (.pointer (some ⟨b, 0, none⟩)) ?_
  refine wpAny_all (rs := [5, 10]) (by kernel_rfl) (by simp) ?_
  intro i hi
  simp only [List.mem_cons, List.not_mem_nil, or_false] at hi
  rcases hi with rfl | rfl
  ·refine op_val (o := ⟨some 51, _, _, _, _, _⟩) (.int .u64 ((h1 : Nat) : Int)) rfl rfl (run_load_one _ _ _ 82 _ _ rfl b 1 rfl (sum_c1 F1.out.2) (by kernel_rfl)) ?_
   simp only [Act.put, List.setIfInBounds_toArray, List.set_cons_zero, List.set_cons_succ]
   refine wpAny_all (rs := [10]) (by kernel_rfl) (by simp) ?_
   intro i hi
   simp only [List.mem_cons, List.not_mem_nil, or_false] at hi
   subst hi
   refine op_call (o := ⟨some 56, _, _, _, _, _⟩) 34 #[.slice (some ⟨b, 5 + 8, none⟩) (16 - 8) (16 - 8)] rfl rfl (by kernel_rfl) (((C15.out v1.drew F1.out.2)).mono fun e y2 ⟨he, qy2⟩ => ⟨.int .u64 ((n1 : Nat) : Int), he, ?_⟩)
   simp only [Act.put, List.setIfInBounds_toArray, List.set_cons_zero, List.set_cons_succ]
   have Fy2 := Lib.hid (show w.grownBy y2 (some b) ∧ Blk y2 b 88 (sumC s0 h1 h2 r0 r1 R k).toArray from ⟨by rw [← qy2]; exact F1.out.1, by rw [← qy2]; exact F1.out.2⟩)
   clear qy2
   refine zB 12 58 (.tuple #[.int .u64 ((s1 : Nat) : Int), .int .u64 ((d1 : Nat) : Int)]) rfl (fun w => (Eq.trans (b := (callFunc 50 #[.int .u64 ((h1 : Nat) : Int), .int .u64 ((n1 : Nat) : Int), .int .u64 ((d0 : Nat) : Int)]).run Tryd.prog _) (by kernel_rfl) (A1.out.1 _))) ?_
   refine zA 13 45 (.tuple #[.int .u64 ((s1 : Nat) : Int), .int .u64 ((d1 : Nat) : Int)]) ?_
   refine zA 14 59 (.int .u64 ((s1 : Nat) : Int)) ?_
   refine zA 15 60 (.int .u64 ((d1 : Nat) : Int)) ?_
   refine zA 18 63 (.pointer (some ⟨b, 1, none⟩)) ?_
   refine wpAny_of_idx [19, 20] [⟨none, _, _, _, _, _⟩, ⟨some 3, _, _, _, _, _⟩] _ _ _ (by rfl) (by kernel_rfl) ?_
   refine wpL_store_one rfl rfl (b) (1) rfl (.int .u64 ((s1 : Nat) : Int)) rfl rfl size35 (by rw [sum_c1 Fy2.out.2]; rfl) (Fy2.out.2.free _) ?_
   simp only [Act.put, List.setIfInBounds_toArray, List.set_cons_zero, List.set_cons_succ]
   obtain ⟨v2, hv2⟩ : ∃ V, V = y2.setCell ⟨b, 1, none⟩ (.int .u64 ((s1 : Nat) : Int)) := ⟨_, rfl⟩
   rw [← hv2]
   have F2 : Hid (w.grownBy v2.drew (some b) ∧ Blk v2.drew b 88 (sumC s0 s1 h2 r0 r1 R k).toArray) := Lib.hid (by rw [hv2]; exact ⟨gb_drew (gb_set Fy2.out.1 _ _), (sum_s1 Fy2.out.2 _).drew⟩)
   clear hv2 Fy2
   refine zP (.int .u64 ((d1 : Nat) : Int)) ?_
   go_upto_region 8 with (fail)
   refine region_any (by kernel_rfl) 13 rfl ?_
   refine zA 0 64 (.pointer (some ⟨b, 0, none⟩)) ?_
   refine zA 1 65 (.pointer (some ⟨b, 0, none⟩)) ?_
   refine zA 2 66 (.pointer (some ⟨b, 0, none⟩)) ?_
   refine zA 3 67 (.pointer (some ⟨b, 2, none⟩)) ?_
   refine zA 5 69 (.int .u64 ((1 : Nat) : Int)) ?_
   refine zA 6 70 (.int .u64 ((d1 : Nat) : Int)) ?_
   refine zB 7 71 (.int .u64 ((1 + d1 : Nat) : Int)) rfl (fun w => run_addi Tryd.underlying82 rfl rfl rfl _ (wadd rfl HT.out.1)) ?_
   refine zA 9 73 (.pointer (some ⟨b, 0, none⟩)) ?_
   refine zA 10 74 (.pointer (some ⟨b, 0, none⟩)) ?_
   refine wpAny_all (rs := [4]) (by kernel_rfl) (by simp) ?_
   intro i hi
   simp only [List.mem_cons, List.not_mem_nil, or_false] at hi
   subst hi
   refine op_val (o := ⟨some 68, _, _, _, _, _⟩) (.int .u64 ((h2 : Nat) : Int)) rfl rfl (run_load_one _ _ _ 82 _ _ rfl b 2 rfl (sum_c2 F2.out.2) (by kernel_rfl)) ?_
   simp only [Act.put, List.setIfInBounds_toArray, List.set_cons_zero, List.set_cons_succ]
   refine zB 8 72 (.int .u64 ((h2 + (1 + d1) : Nat) : Int)) rfl (fun w => run_addi Tryd.underlying82 rfl rfl rfl _ (wadd rfl HT.out.2.1)) ?_
   refine zA 11 75 (.pointer (some ⟨b, 2, none⟩)) ?_
   refine wpAny_of_idx [12] [⟨none, _, _, _, _, _⟩] _ _ _ (by rfl) (by kernel_rfl) ?_
   refine wpL_store_one rfl rfl (b) (2) rfl (.int .u64 ((h2 + (1 + d1) : Nat) : Int)) rfl rfl size35 (by rw [sum_c2 F2.out.2]; rfl) (F2.out.2.free _) ?_
   simp only [Act.put, List.setIfInBounds_toArray, List.set_cons_zero, List.set_cons_succ]
   obtain ⟨v3, hv3⟩ : ∃ V, V = v2.drew.setCell ⟨b, 2, none⟩ (.int .u64 ((h2 + (1 + d1) : Nat) : Int)) := ⟨_, rfl⟩
   rw [← hv3]
   have F3 : Hid (w.grownBy v3 (some b) ∧ Blk v3 b 88 (sumC s0 s1 (h2 + (1 + d1)) r0 r1 R k).toArray) := Lib.hid (by rw [hv3]; exact ⟨ (gb_set F2.out.1 _ _), (sum_s2 F2.out.2 _)⟩)
   clear hv3 F2
   go_upto_region 9 with (fail)
   refine wp_region_lit ?_
   refine zP (.pointer (some ⟨b, 0, none⟩)) ?_
   refine wpL_call 51 #[.pointer (some ⟨b, 0, none⟩)] rfl (by kernel_rfl) (((multiply_any v3 b s0 s1 (h2 + (1 + d1)) r0 r1 R k A0.out.2.1 A1.out.2.1 HT.out.2.2 KR.out.1 KR.out.2 F3.out.2)).mono fun e v4 ⟨he, q1, z0, z1, z2, q2, q3, q4, q5, q6⟩ => ⟨.tuple #[], he, ?_⟩)
   simp only [Act.put, List.setIfInBounds_toArray, List.set_cons_zero, List.set_cons_succ]
   have F4 : Hid (w.grownBy v4 (some b) ∧ Blk v4 b 88 (sumC z0 z1 z2 r0 r1 R k).toArray) := Lib.hid ⟨gb_trans F3.out.1 q1, q2⟩
   have Z := Lib.hid (And.intro q3 (And.intro q4 (And.intro q5 q6)))
   clear q1 q2 q3 q4 q5 q6 F3
   go_upto_region 10 with (fail)
   refine wp_region_lit ?_
   refine zP (.pointer (some ⟨b, 0, none⟩)) ?_
   refine zP (.pointer (some ⟨b, 0, none⟩)) ?_
   refine zP (.pointer (some ⟨b, 21, none⟩)) ?_
   refine wpL_store_one rfl rfl (b) (21) rfl (.int .i64 0) rfl rfl size3 (by rw [sum_c21 HR2.out.1 F4.out.2]; rfl) (F4.out.2.free _) ?_
   simp only [Act.put, List.setIfInBounds_toArray, List.set_cons_zero, List.set_cons_succ]
   obtain ⟨v5, hv5⟩ : ∃ V, V = v4.setCell ⟨b, 21, none⟩ (.int .i64 ((0 : Nat) : Int)) := ⟨_, rfl⟩
   try rw [show v4.setCell ⟨b, 21, none⟩ (.int .i64 0) = v5 from hv5.symm]
   have F5 : Hid (w.grownBy v5 (some b) ∧ Blk v5 b 88 (sumC z0 z1 z2 r0 r1 R 0).toArray) := Lib.hid (by rw [hv5]; exact ⟨gb_set F4.out.1 _ _, sum_s21 HR2.out.1 F4.out.2 0⟩)
   clear hv5 F4
   go_upto_region 11 with (fail)
   go_end0
   exact ⟨rfl, F5.out.1, R, z0, z1, z2, F5.out.2, Z.out.1, Z.out.2.1, Z.out.2.2.1, by rw [Z.out.2.2.2]; exact HE.out, HR2.out⟩
  ·refine op_call (o := ⟨some 56, _, _, _, _, _⟩) 34 #[.slice (some ⟨b, 5 + 8, none⟩) (16 - 8) (16 - 8)] rfl rfl (by kernel_rfl) (((C15.out v1.drew F1.out.2)).mono fun e y3 ⟨he, qy3⟩ => ⟨.int .u64 ((n1 : Nat) : Int), he, ?_⟩)
   simp only [Act.put, List.setIfInBounds_toArray, List.set_cons_zero, List.set_cons_succ]
   have Fy3 := Lib.hid (show w.grownBy y3 (some b) ∧ Blk y3 b 88 (sumC s0 h1 h2 r0 r1 R k).toArray from ⟨by rw [← qy3]; exact F1.out.1, by rw [← qy3]; exact F1.out.2⟩)
   clear qy3
   refine wpAny_all (rs := [5]) (by kernel_rfl) (by simp) ?_
   intro i hi
   simp only [List.mem_cons, List.not_mem_nil, or_false] at hi
   subst hi
   refine op_val (o := ⟨some 51, _, _, _, _, _⟩) (.int .u64 ((h1 : Nat) : Int)) rfl rfl (run_load_one _ _ _ 82 _ _ rfl b 1 rfl (sum_c1 Fy3.out.2) (by kernel_rfl)) ?_
   simp only [Act.put, List.setIfInBounds_toArray, List.set_cons_zero, List.set_cons_succ]
   refine zB 12 58 (.tuple #[.int .u64 ((s1 : Nat) : Int), .int .u64 ((d1 : Nat) : Int)]) rfl (fun w => (Eq.trans (b := (callFunc 50 #[.int .u64 ((h1 : Nat) : Int), .int .u64 ((n1 : Nat) : Int), .int .u64 ((d0 : Nat) : Int)]).run Tryd.prog _) (by kernel_rfl) (A1.out.1 _))) ?_
   refine zA 13 45 (.tuple #[.int .u64 ((s1 : Nat) : Int), .int .u64 ((d1 : Nat) : Int)]) ?_
   refine zA 14 59 (.int .u64 ((s1 : Nat) : Int)) ?_
   refine zA 15 60 (.int .u64 ((d1 : Nat) : Int)) ?_
   refine zA 18 63 (.pointer (some ⟨b, 1, none⟩)) ?_
   refine wpAny_of_idx [19, 20] [⟨none, _, _, _, _, _⟩, ⟨some 3, _, _, _, _, _⟩] _ _ _ (by rfl) (by kernel_rfl) ?_
   refine wpL_store_one rfl rfl (b) (1) rfl (.int .u64 ((s1 : Nat) : Int)) rfl rfl size35 (by rw [sum_c1 Fy3.out.2]; rfl) (Fy3.out.2.free _) ?_
   simp only [Act.put, List.setIfInBounds_toArray, List.set_cons_zero, List.set_cons_succ]
   obtain ⟨v2, hv2⟩ : ∃ V, V = y3.setCell ⟨b, 1, none⟩ (.int .u64 ((s1 : Nat) : Int)) := ⟨_, rfl⟩
   rw [← hv2]
   have F2 : Hid (w.grownBy v2.drew (some b) ∧ Blk v2.drew b 88 (sumC s0 s1 h2 r0 r1 R k).toArray) := Lib.hid (by rw [hv2]; exact ⟨gb_drew (gb_set Fy3.out.1 _ _), (sum_s1 Fy3.out.2 _).drew⟩)
   clear hv2 Fy3
   refine zP (.int .u64 ((d1 : Nat) : Int)) ?_
   go_upto_region 8 with (fail)
   refine region_any (by kernel_rfl) 13 rfl ?_
   refine zA 0 64 (.pointer (some ⟨b, 0, none⟩)) ?_
   refine zA 1 65 (.pointer (some ⟨b, 0, none⟩)) ?_
   refine zA 2 66 (.pointer (some ⟨b, 0, none⟩)) ?_
   refine zA 3 67 (.pointer (some ⟨b, 2, none⟩)) ?_
   refine zA 5 69 (.int .u64 ((1 : Nat) : Int)) ?_
   refine zA 6 70 (.int .u64 ((d1 : Nat) : Int)) ?_
   refine zB 7 71 (.int .u64 ((1 + d1 : Nat) : Int)) rfl (fun w => run_addi Tryd.underlying82 rfl rfl rfl _ (wadd rfl HT.out.1)) ?_
   refine zA 9 73 (.pointer (some ⟨b, 0, none⟩)) ?_
   refine zA 10 74 (.pointer (some ⟨b, 0, none⟩)) ?_
   refine wpAny_all (rs := [4]) (by kernel_rfl) (by simp) ?_
   intro i hi
   simp only [List.mem_cons, List.not_mem_nil, or_false] at hi
   subst hi
   refine op_val (o := ⟨some 68, _, _, _, _, _⟩) (.int .u64 ((h2 : Nat) : Int)) rfl rfl (run_load_one _ _ _ 82 _ _ rfl b 2 rfl (sum_c2 F2.out.2) (by kernel_rfl)) ?_
   simp only [Act.put, List.setIfInBounds_toArray, List.set_cons_zero, List.set_cons_succ]
   refine zB 8 72 (.int .u64 ((h2 + (1 + d1) : Nat) : Int)) rfl (fun w => run_addi Tryd.underlying82 rfl rfl rfl _ (wadd rfl HT.out.2.1)) ?_
   refine zA 11 75 (.pointer (some ⟨b, 2, none⟩)) ?_
   refine wpAny_of_idx [12] [⟨none, _, _, _, _, _⟩] _ _ _ (by rfl) (by kernel_rfl) ?_
   refine wpL_store_one rfl rfl (b) (2) rfl (.int .u64 ((h2 + (1 + d1) : Nat) : Int)) rfl rfl size35 (by rw [sum_c2 F2.out.2]; rfl) (F2.out.2.free _) ?_
   simp only [Act.put, List.setIfInBounds_toArray, List.set_cons_zero, List.set_cons_succ]
   obtain ⟨v3, hv3⟩ : ∃ V, V = v2.drew.setCell ⟨b, 2, none⟩ (.int .u64 ((h2 + (1 + d1) : Nat) : Int)) := ⟨_, rfl⟩
   rw [← hv3]
   have F3 : Hid (w.grownBy v3 (some b) ∧ Blk v3 b 88 (sumC s0 s1 (h2 + (1 + d1)) r0 r1 R k).toArray) := Lib.hid (by rw [hv3]; exact ⟨ (gb_set F2.out.1 _ _), (sum_s2 F2.out.2 _)⟩)
   clear hv3 F2
   go_upto_region 9 with (fail)
   refine wp_region_lit ?_
   refine zP (.pointer (some ⟨b, 0, none⟩)) ?_
   refine wpL_call 51 #[.pointer (some ⟨b, 0, none⟩)] rfl (by kernel_rfl) (((multiply_any v3 b s0 s1 (h2 + (1 + d1)) r0 r1 R k A0.out.2.1 A1.out.2.1 HT.out.2.2 KR.out.1 KR.out.2 F3.out.2)).mono fun e v4 ⟨he, q1, z0, z1, z2, q2, q3, q4, q5, q6⟩ => ⟨.tuple #[], he, ?_⟩)
   simp only [Act.put, List.setIfInBounds_toArray, List.set_cons_zero, List.set_cons_succ]
   have F4 : Hid (w.grownBy v4 (some b) ∧ Blk v4 b 88 (sumC z0 z1 z2 r0 r1 R k).toArray) := Lib.hid ⟨gb_trans F3.out.1 q1, q2⟩
   have Z := Lib.hid (And.intro q3 (And.intro q4 (And.intro q5 q6)))
   clear q1 q2 q3 q4 q5 q6 F3
   go_upto_region 10 with (fail)
   refine wp_region_lit ?_
   refine zP (.pointer (some ⟨b, 0, none⟩)) ?_
   refine zP (.pointer (some ⟨b, 0, none⟩)) ?_
   refine zP (.pointer (some ⟨b, 21, none⟩)) ?_
   refine wpL_store_one rfl rfl (b) (21) rfl (.int .i64 0) rfl rfl size3 (by rw [sum_c21 HR2.out.1 F4.out.2]; rfl) (F4.out.2.free _) ?_
   simp only [Act.put, List.setIfInBounds_toArray, List.set_cons_zero, List.set_cons_succ]
   obtain ⟨v5, hv5⟩ : ∃ V, V = v4.setCell ⟨b, 21, none⟩ (.int .i64 ((0 : Nat) : Int)) := ⟨_, rfl⟩
   try rw [show v4.setCell ⟨b, 21, none⟩ (.int .i64 0) = v5 from hv5.symm]
   have F5 : Hid (w.grownBy v5 (some b) ∧ Blk v5 b 88 (sumC z0 z1 z2 r0 r1 R 0).toArray) := Lib.hid (by rw [hv5]; exact ⟨gb_set F4.out.1 _ _, sum_s21 HR2.out.1 F4.out.2 0⟩)
   clear hv5 F4
   go_upto_region 11 with (fail)
   go_end0
   exact ⟨rfl, F5.out.1, R, z0, z1, z2, F5.out.2, Z.out.1, Z.out.2.1, Z.out.2.2.1, by rw [Z.out.2.2.2]; exact HE.out, HR2.out⟩
set_option maxRecDepth 100000 in
set_option maxHeartbeats 8000000 in
theorem take_part (w : World) (b r0 r1 A k : Nat) (R : List Int) (h : PMid w b r0 r1 A R k) (hk : k < 16) (k0 : r0 < 1152921504606846976) (k1 : r1 < 1152921504606846976) :
  Calls Tryd.prog 36 #[.pointer (some ⟨b, 0, none⟩)] w fun e w' => e = .returned (.tuple #[]) ∧ w.grownBy w' (some b) ∧ ∃ R', PMid w' b r0 r1 ((A + vb (R.take k ++ [1])) * (r0 + 18446744073709551616 * r1) % p130) R' 0 := by
 obtain ⟨h0, h1, h2, hb, l0, l1, l2, hA, hR⟩ := h
 have hR2 := padR_ok hR hk
 have HS : Hid ((R.set k 1).length = 16) := Lib.hid (by simp [hR.1])
 have hv : O.le (fun j => ((padR R k).getD (0 + j) 0).toNat) 8 + 18446744073709551616 * O.le (fun j => ((padR R k).getD (8 + j) 0).toNat) 8 + 340282366920938463463374607431768211456 * 0 = vb (R.take k ++ [1]) := by rw [le_both hR2.1, vb_padR]; rfl
 obtain ⟨n0, hn0⟩ : ∃ q, O.le (fun j => ((padR R k).getD (0 + j) 0).toNat) 8 = q := ⟨_, rfl⟩
 obtain ⟨n1, hn1⟩ : ∃ q, O.le (fun j => ((padR R k).getD (8 + j) 0).toNat) 8 = q := ⟨_, rfl⟩
 have N0 : n0 < 18446744073709551616 := by rw [← hn0]; exact O.le_64 _ (nat_byte hR2.2 _) 8 (by omega)
 have N1 : n1 < 18446744073709551616 := by rw [← hn1]; exact O.le_64 _ (nat_byte hR2.2 _) 8 (by omega)
 obtain ⟨s0, d0, a0⟩ := add_ex h0 n0 0 l0 N0 (Nat.zero_le 1)
 obtain ⟨s1, d1, a1⟩ := add_ex h1 n1 d0 l1 N1 a0.2.2.1
 have C14 : Hid (∀ W, ∀ {a0 a1 a2 c : Nat}, Blk W b 88 (sumC a0 a1 a2 r0 r1 (padR R k) c).toArray → Calls Tryd.prog 34 #[.slice (some ⟨b, 5 + 0, none⟩) (16 - 0) (16 - 0)] W fun e w' => e = .returned (.int .u64 ((n0 : Nat) : Int)) ∧ W = w') := Lib.hid (fun W _ _ _ _ h => by rw [← hn0]; exact num_at hR2 h 0 (by omega))
 have C15 : Hid (∀ W, ∀ {a0 a1 a2 c : Nat}, Blk W b 88 (sumC a0 a1 a2 r0 r1 (padR R k) c).toArray → Calls Tryd.prog 34 #[.slice (some ⟨b, 5 + 8, none⟩) (16 - 8) (16 - 8)] W fun e w' => e = .returned (.int .u64 ((n1 : Nat) : Int)) ∧ W = w') := Lib.hid (fun W _ _ _ _ h => by rw [← hn1]; exact num_at hR2 h 8 (by omega))
 have HT : Hid (0 + d1 < 18446744073709551616 ∧ h2 + (0 + d1) < 18446744073709551616 ∧ h2 + (0 + d1) ≤ 6) := Lib.hid (take_small l2 a1.2.2.1 (by decide))
 have HE : Hid ((s0 + 18446744073709551616 * s1 + 340282366920938463463374607431768211456 * (h2 + (0 + d1))) * (r0 + 18446744073709551616 * r1) % p130 = (A + vb (R.take k ++ [1])) * (r0 + 18446744073709551616 * r1) % p130) := Lib.hid (by rw [take_sum a0.2.2.2 a1.2.2.2, ← hn0, ← hn1, hv, ← hA, mod_step])
 have H0 : Hid (w.grownBy w (some b) ∧ Blk w b 88 (sumC h0 h1 h2 r0 r1 R k).toArray) := Lib.hid ⟨gb_refl _ _, hb⟩
 have HR := Lib.hid hR
 have HR2 := Lib.hid hR2
 have HK := Lib.hid hk
 have A0 := Lib.hid a0
 have A1 := Lib.hid a1
 have KR := Lib.hid (And.intro k0 k1)
 clear hb l0 l1 l2 hA hR hR2 hk N0 N1 a0 a1 hn0 hn1 k0 k1 hv
 go_enter Tryd.func36, Tryd.ntmps36
 go_upto_region 0 with (fail)
 refine wp_region_lit ?_
 refine zP (.int .u64 ((1 : Nat) : Int)) ?_
 go_upto_region 1 with (fail)
 refine wp_region_lit ?_
 refine zP (.pointer (some ⟨b, 0, none⟩)) ?_
 refine zP (.pointer (some ⟨b, 0, none⟩)) ?_
 refine zP (.pointer (some ⟨b, 21, none⟩)) ?_
 refine zQ (.int .i64 ((k : Nat) : Int)) (run_load_one _ _ _ 3 _ _ rfl (b) (21) rfl (sum_c21 HR.out.1 H0.out.2) (by kernel_rfl)) ?_
 refine zQ (.bool true) (run_lti Tryd.underlying3 rfl rfl rfl (by have := HK.out; rw [decide_eq_true_eq]; omega)) ?_
 refine zP (.bool true) ?_
 go_upto_region 2 with (fail)
 refine wp_region_lit ?_
 refine zP (.int .u64 ((0 : Nat) : Int)) ?_
 have H1 : Hid (w.grownBy w.drew (some b) ∧ Blk w.drew b 88 (sumC h0 h1 h2 r0 r1 R k).toArray) := Lib.hid ⟨gb_drew H0.out.1, H0.out.2.drew⟩
 clear H0
 go_upto_region 3 with (fail)
 refine region_any (by kernel_rfl) 9 rfl ?_
 refine zA 0 10 (.pointer (some ⟨b, 0, none⟩)) ?_
 refine zA 1 11 (.pointer (some ⟨b, 0, none⟩)) ?_
 refine zA 2 12 (.pointer (some ⟨b, 0, none⟩)) ?_
 refine zA 3 13 (.pointer (some ⟨b, 21, none⟩)) ?_
 refine zA 5 15 (.pointer (some ⟨b, 0, none⟩)) ?_
 refine zA 6 16 (.pointer (some ⟨b, 5, none⟩)) ?_
 refine wpAny_all (rs := [4]) (by kernel_rfl) (by simp) ?_
 intro i hi
 simp only [List.mem_cons, List.not_mem_nil, or_false] at hi
 subst hi
 refine op_val (o := ⟨some 14, _, _, _, _, _⟩) (.int .i64 ((k : Nat) : Int)) rfl rfl (run_load_one _ _ _ 3 _ _ rfl b 21 rfl (sum_c21 HR.out.1 H1.out.2) (by kernel_rfl)) ?_
 simp only [Act.put, List.setIfInBounds_toArray, List.set_cons_zero, List.set_cons_succ]
 refine zB 7 17 (.pointer (some ⟨b, 5 + k, none⟩)) rfl (fun w => O.run_idxa _ _ _ _ _ b 5 k rfl rfl rfl HK.out) ?_
 refine wpAny_of_idx [8] [⟨none, _, _, _, _, _⟩] _ _ _ (by rfl) (by kernel_rfl) ?_
 refine wpL_store_one rfl rfl (b) (5 + k) rfl (.int .u8 1) rfl rfl size5 (by rw [sum_cr HR.out.1 H1.out.2 k HK.out]; rfl) (H1.out.2.free _) ?_
 simp only [Act.put, List.setIfInBounds_toArray, List.set_cons_zero, List.set_cons_succ]
 obtain ⟨x1, hx1⟩ : ∃ V, V = w.drew.setCell ⟨b, 5 + k, none⟩ (.int .u8 1) := ⟨_, rfl⟩
 rw [← hx1]
 have X1 : Hid (w.grownBy x1.drew (some b) ∧ Blk x1.drew b 88 (sumC h0 h1 h2 r0 r1 (R.set k 1) k).toArray) := Lib.hid (by rw [hx1]; exact ⟨gb_drew (gb_set H1.out.1 _ _), (sum_sr HR.out.1 H1.out.2 k HK.out 1).drew⟩)
 clear hx1 H1
 go_upto_region 4 with (fail)
 refine region_any (by kernel_rfl) 10 rfl ?_
 refine zA 0 18 (.pointer (some ⟨b, 0, none⟩)) ?_
 refine zA 1 19 (.pointer (some ⟨b, 0, none⟩)) ?_
 refine zA 2 20 (.pointer (some ⟨b, 5, none⟩)) ?_
 refine zA 3 21 (.pointer (some ⟨b, 0, none⟩)) ?_
 refine zA 4 22 (.pointer (some ⟨b, 0, none⟩)) ?_
 refine zA 5 23 (.pointer (some ⟨b, 21, none⟩)) ?_
 refine wpAny_all (rs := [6]) (by kernel_rfl) (by simp) ?_
 intro i hi
 simp only [List.mem_cons, List.not_mem_nil, or_false] at hi
 subst hi
 refine op_val (o := ⟨some 24, _, _, _, _, _⟩) (.int .i64 ((k : Nat) : Int)) rfl rfl (run_load_one _ _ _ 3 _ _ rfl b 21 rfl (sum_c21 HS.out X1.out.2) (by kernel_rfl)) ?_
 simp only [Act.put, List.setIfInBounds_toArray, List.set_cons_zero, List.set_cons_succ]
 refine zB 7 25 (.int .i64 ((k + 1 : Nat) : Int)) rfl (fun w => run_addi Tryd.underlying3 rfl rfl rfl _ (by have := HK.out; rw [wrap_in _ (by omega) (by omega)]; omega)) ?_
 refine zB 8 26 (.slice (some ⟨b, 5 + (if k + 1 < 16 then k + 1 else 0), none⟩) (16 - (k + 1)) (16 - (k + 1))) rfl (fun w => run_slice16 _ _ _ _ _ b (k + 1) rfl rfl rfl HK.out) ?_
 refine wpAny_of_idx [9] [⟨none, _, _, _, _, _⟩] _ _ _ (by rfl) (by kernel_rfl) ?_
 obtain ⟨x2, hx2⟩ : ∃ V, V = x1.drew.setCells b (5 + (k + 1)) ((List.replicate (16 - (k + 1)) (0 : Nat)).map fun (v : Nat) => Value.int .u8 (v : Int)) := ⟨_, rfl⟩
 have HC4 := Lib.hid (run_clear x1.drew b (k + 1) HK.out (by simp [HR.out.1]) X1.out.2)
 rw [← hx2] at HC4
 have X2 : Hid (w.grownBy x2.drew (some b) ∧ Blk x2.drew b 88 (sumC h0 h1 h2 r0 r1 (padR R k) k).toArray) := Lib.hid (by rw [hx2]; exact ⟨gb_drew (gb_setCells X1.out.1 _), (sum_clear HR.out.1 HK.out X1.out.2).drew⟩)
 clear hx2 X1
 refine zV (.tuple #[]) x2 (run_clr _ _ _ _ _ _ _ rfl rfl rfl HC4.out) ?_
 clear HC4
 generalize (if k + 1 < 16 then k + 1 else 0) = z
 go_upto_region 5 with (fail)
 refine wp_region_lit ?_
 refine zP (.int .u64 ((0 : Nat) : Int)) ?_
 go_upto_region 6 with (fail)
 refine region_any (by kernel_rfl) 20 rfl ?_
 refine zA 0 28 (.pointer (some ⟨b, 0, none⟩)) ?_
 refine zA 1 29 (.pointer (some ⟨b, 0, none⟩)) ?_
 refine zA 2 30 (.pointer (some ⟨b, 0, none⟩)) ?_
 refine zA 3 31 (.pointer (some ⟨b, 0, none⟩)) ?_
 refine zA 4 32 (.pointer (some ⟨b, 0, none⟩)) ?_
 refine zA 6 34 (.pointer (some ⟨b, 0, none⟩)) ?_
 refine zA 7 35 (.pointer (some ⟨b, 0, none⟩)) ?_
 refine zA 8 36 (.pointer (some ⟨b, 5, none⟩)) ?_
 refine zB 9 37 (.slice (some ⟨b, 5 + 0, none⟩) (16 - 0) (16 - 0)) rfl (fun w => run_sl26 _ _ _ _ _ b 5 0 rfl rfl rfl (by omega)) ?_
 refine zA 15 42 (.pointer (some ⟨b, 0, none⟩)) ?_
 refine zA 16 43 (.pointer (some ⟨b, 0, none⟩)) ?_
 refine wpAny_all (rs := [5, 10]) (by kernel_rfl) (by simp) ?_
 intro i hi
 simp only [List.mem_cons, List.not_mem_nil, or_false] at hi
 rcases hi with rfl | rfl
 ·refine op_val (o := ⟨some 33, _, _, _, _, _⟩) (.int .u64 ((h0 : Nat) : Int)) rfl rfl (run_load_one _ _ _ 82 _ _ rfl b 0 rfl (sum_c0 X2.out.2) (by kernel_rfl)) ?_
  simp only [Act.put, List.setIfInBounds_toArray, List.set_cons_zero, List.set_cons_succ]
  refine wpAny_all (rs := [10]) (by kernel_rfl) (by simp) ?_
  intro i hi
  simp only [List.mem_cons, List.not_mem_nil, or_false] at hi
  subst hi
  refine op_call (o := ⟨some 38, _, _, _, _, _⟩) 34 #[.slice (some ⟨b, 5 + 0, none⟩) (16 - 0) (16 - 0)] rfl rfl (by kernel_rfl) (((C14.out x2.drew X2.out.2)).mono fun e z2 ⟨he, qz2⟩ => ⟨.int .u64 ((n0 : Nat) : Int), he, ?_⟩)
  simp only [Act.put, List.setIfInBounds_toArray, List.set_cons_zero, List.set_cons_succ]
  have Fz2 := Lib.hid (show w.grownBy z2 (some b) ∧ Blk z2 b 88 (sumC h0 h1 h2 r0 r1 (padR R k) k).toArray from ⟨by rw [← qz2]; exact X2.out.1, by rw [← qz2]; exact X2.out.2⟩)
  clear qz2
  refine zB 11 39 (.tuple #[.int .u64 ((s0 : Nat) : Int), .int .u64 ((d0 : Nat) : Int)]) rfl (fun w => (Eq.trans (b := (callFunc 50 #[.int .u64 ((h0 : Nat) : Int), .int .u64 ((n0 : Nat) : Int), .int .u64 ((0 : Nat) : Int)]).run Tryd.prog _) (by kernel_rfl) (A0.out.1 _))) ?_
  refine zA 12 27 (.tuple #[.int .u64 ((s0 : Nat) : Int), .int .u64 ((d0 : Nat) : Int)]) ?_
  refine zA 13 40 (.int .u64 ((s0 : Nat) : Int)) ?_
  refine zA 14 41 (.int .u64 ((d0 : Nat) : Int)) ?_
  refine zA 17 44 (.pointer (some ⟨b, 0, none⟩)) ?_
  refine wpAny_of_idx [18, 19] [⟨none, _, _, _, _, _⟩, ⟨some 3, _, _, _, _, _⟩] _ _ _ (by rfl) (by kernel_rfl) ?_
  refine wpL_store_one rfl rfl (b) (0) rfl (.int .u64 ((s0 : Nat) : Int)) rfl rfl size35 (by rw [sum_c0 Fz2.out.2]; rfl) (Fz2.out.2.free _) ?_
  simp only [Act.put, List.setIfInBounds_toArray, List.set_cons_zero, List.set_cons_succ]
  obtain ⟨v1, hv1⟩ : ∃ V, V = z2.setCell ⟨b, 0, none⟩ (.int .u64 ((s0 : Nat) : Int)) := ⟨_, rfl⟩
  rw [← hv1]
  have F1 : Hid (w.grownBy v1.drew (some b) ∧ Blk v1.drew b 88 (sumC s0 h1 h2 r0 r1 (padR R k) k).toArray) := Lib.hid (by rw [hv1]; exact ⟨gb_drew (gb_set Fz2.out.1 _ _), (sum_s0 Fz2.out.2 _).drew⟩)
  clear hv1 Fz2
  refine zP (.int .u64 ((d0 : Nat) : Int)) ?_
  go_upto_region 7 with (fail)
  refine region_any (by kernel_rfl) 21 rfl ?_
  refine zA 0 46 (.pointer (some ⟨b, 0, none⟩)) ?_
  refine zA 1 47 (.pointer (some ⟨b, 0, none⟩)) ?_
  refine zA 2 48 (.pointer (some ⟨b, 0, none⟩)) ?_
  refine zA 3 49 (.pointer (some ⟨b, 0, none⟩)) ?_
  refine zA 4 50 (.pointer (some ⟨b, 1, none⟩)) ?_
  refine zA 6 52 (.pointer (some ⟨b, 0, none⟩)) ?_
  refine zA 7 53 (.pointer (some ⟨b, 0, none⟩)) ?_
  refine zA 8 54 (.pointer (some ⟨b, 5, none⟩)) ?_
  refine zB 9 55 (.slice (some ⟨b, 5 + 8, none⟩) (16 - 8) (16 - 8)) rfl (fun w => run_sl26 _ _ _ _ _ b 5 8 rfl rfl rfl (by omega)) ?_
  refine zA 11 57 (.int .u64 ((d0 : Nat) : Int)) ?_
  refine zA 16 61 (.pointer (some ⟨b, 0, none⟩)) ?_
  refine zA 17 62 (.pointer (some ⟨b, 0, none⟩)) ?_
  refine wpAny_all (rs := [5, 10]) (by kernel_rfl) (by simp) ?_
  intro i hi
  simp only [List.mem_cons, List.not_mem_nil, or_false] at hi
  rcases hi with rfl | rfl
  ·refine op_val (o := ⟨some 51, _, _, _, _, _⟩) (.int .u64 ((h1 : Nat) : Int)) rfl rfl (run_load_one _ _ _ 82 _ _ rfl b 1 rfl (sum_c1 F1.out.2) (by kernel_rfl)) ?_
   simp only [Act.put, List.setIfInBounds_toArray, List.set_cons_zero, List.set_cons_succ]
   refine wpAny_all (rs := [10]) (by kernel_rfl) (by simp) ?_
   intro i hi
   simp only [List.mem_cons, List.not_mem_nil, or_false] at hi
   subst hi
   refine op_call (o := ⟨some 56, _, _, _, _, _⟩) 34 #[.slice (some ⟨b, 5 + 8, none⟩) (16 - 8) (16 - 8)] rfl rfl (by kernel_rfl) (((C15.out v1.drew F1.out.2)).mono fun e y2 ⟨he, qy2⟩ => ⟨.int .u64 ((n1 : Nat) : Int), he, ?_⟩)
   simp only [Act.put, List.setIfInBounds_toArray, List.set_cons_zero, List.set_cons_succ]
   have Fy2 := Lib.hid (show w.grownBy y2 (some b) ∧ Blk y2 b 88 (sumC s0 h1 h2 r0 r1 (padR R k) k).toArray from ⟨by rw [← qy2]; exact F1.out.1, by rw [← qy2]; exact F1.out.2⟩)
   clear qy2
   refine zB 12 58 (.tuple #[.int .u64 ((s1 : Nat) : Int), .int .u64 ((d1 : Nat) : Int)]) rfl (fun w => (Eq.trans (b := (callFunc 50 #[.int .u64 ((h1 : Nat) : Int), .int .u64 ((n1 : Nat) : Int), .int .u64 ((d0 : Nat) : Int)]).run Tryd.prog _) (by kernel_rfl) (A1.out.1 _))) ?_
   refine zA 13 45 (.tuple #[.int .u64 ((s1 : Nat) : Int), .int .u64 ((d1 : Nat) : Int)]) ?_
   refine zA 14 59 (.int .u64 ((s1 : Nat) : Int)) ?_
   refine zA 15 60 (.int .u64 ((d1 : Nat) : Int)) ?_
   refine zA 18 63 (.pointer (some ⟨b, 1, none⟩)) ?_
   refine wpAny_of_idx [19, 20] [⟨none, _, _, _, _, _⟩, ⟨some 3, _, _, _, _, _⟩] _ _ _ (by rfl) (by kernel_rfl) ?_
   refine wpL_store_one rfl rfl (b) (1) rfl (.int .u64 ((s1 : Nat) : Int)) rfl rfl size35 (by rw [sum_c1 Fy2.out.2]; rfl) (Fy2.out.2.free _) ?_
   simp only [Act.put, List.setIfInBounds_toArray, List.set_cons_zero, List.set_cons_succ]
   obtain ⟨v2, hv2⟩ : ∃ V, V = y2.setCell ⟨b, 1, none⟩ (.int .u64 ((s1 : Nat) : Int)) := ⟨_, rfl⟩
   rw [← hv2]
   have F2 : Hid (w.grownBy v2.drew (some b) ∧ Blk v2.drew b 88 (sumC s0 s1 h2 r0 r1 (padR R k) k).toArray) := Lib.hid (by rw [hv2]; exact ⟨gb_drew (gb_set Fy2.out.1 _ _), (sum_s1 Fy2.out.2 _).drew⟩)
   clear hv2 Fy2
   refine zP (.int .u64 ((d1 : Nat) : Int)) ?_
   go_upto_region 8 with (fail)
   refine region_any (by kernel_rfl) 13 rfl ?_
   refine zA 0 64 (.pointer (some ⟨b, 0, none⟩)) ?_
   refine zA 1 65 (.pointer (some ⟨b, 0, none⟩)) ?_
   refine zA 2 66 (.pointer (some ⟨b, 0, none⟩)) ?_
   refine zA 3 67 (.pointer (some ⟨b, 2, none⟩)) ?_
   refine zA 5 69 (.int .u64 ((0 : Nat) : Int)) ?_
   refine zA 6 70 (.int .u64 ((d1 : Nat) : Int)) ?_
   refine zB 7 71 (.int .u64 ((0 + d1 : Nat) : Int)) rfl (fun w => run_addi Tryd.underlying82 rfl rfl rfl _ (wadd rfl HT.out.1)) ?_
   refine zA 9 73 (.pointer (some ⟨b, 0, none⟩)) ?_
   refine zA 10 74 (.pointer (some ⟨b, 0, none⟩)) ?_
   refine wpAny_all (rs := [4]) (by kernel_rfl) (by simp) ?_
   intro i hi
   simp only [List.mem_cons, List.not_mem_nil, or_false] at hi
   subst hi
   refine op_val (o := ⟨some 68, _, _, _, _, _⟩) (.int .u64 ((h2 : Nat) : Int)) rfl rfl (run_load_one _ _ _ 82 _ _ rfl b 2 rfl (sum_c2 F2.out.2) (by kernel_rfl)) ?_
   simp only [Act.put, List.setIfInBounds_toArray, List.set_cons_zero, List.set_cons_succ]
   refine zB 8 72 (.int .u64 ((h2 + (0 + d1) : Nat) : Int)) rfl (fun w => run_addi Tryd.underlying82 rfl rfl rfl _ (wadd rfl HT.out.2.1)) ?_
   refine zA 11 75 (.pointer (some ⟨b, 2, none⟩)) ?_
   refine wpAny_of_idx [12] [⟨none, _, _, _, _, _⟩] _ _ _ (by rfl) (by kernel_rfl) ?_
   refine wpL_store_one rfl rfl (b) (2) rfl (.int .u64 ((h2 + (0 + d1) : Nat) : Int)) rfl rfl size35 (by rw [sum_c2 F2.out.2]; rfl) (F2.out.2.free _) ?_
   simp only [Act.put, List.setIfInBounds_toArray, List.set_cons_zero, List.set_cons_succ]
   obtain ⟨v3, hv3⟩ : ∃ V, V = v2.drew.setCell ⟨b, 2, none⟩ (.int .u64 ((h2 + (0 + d1) : Nat) : Int)) := ⟨_, rfl⟩
   rw [← hv3]
   have F3 : Hid (w.grownBy v3 (some b) ∧ Blk v3 b 88 (sumC s0 s1 (h2 + (0 + d1)) r0 r1 (padR R k) k).toArray) := Lib.hid (by rw [hv3]; exact ⟨ (gb_set F2.out.1 _ _), (sum_s2 F2.out.2 _)⟩)
   clear hv3 F2
   go_upto_region 9 with (fail)
   refine wp_region_lit ?_
   refine zP (.pointer (some ⟨b, 0, none⟩)) ?_
   refine wpL_call 51 #[.pointer (some ⟨b, 0, none⟩)] rfl (by kernel_rfl) (((multiply_any v3 b s0 s1 (h2 + (0 + d1)) r0 r1 (padR R k) k A0.out.2.1 A1.out.2.1 HT.out.2.2 KR.out.1 KR.out.2 F3.out.2)).mono fun e v4 ⟨he, q1, z0, z1, z2, q2, q3, q4, q5, q6⟩ => ⟨.tuple #[], he, ?_⟩)
   simp only [Act.put, List.setIfInBounds_toArray, List.set_cons_zero, List.set_cons_succ]
   have F4 : Hid (w.grownBy v4 (some b) ∧ Blk v4 b 88 (sumC z0 z1 z2 r0 r1 (padR R k) k).toArray) := Lib.hid ⟨gb_trans F3.out.1 q1, q2⟩
   have Z := Lib.hid (And.intro q3 (And.intro q4 (And.intro q5 q6)))
   clear q1 q2 q3 q4 q5 q6 F3
   go_upto_region 10 with (fail)
   refine wp_region_lit ?_
   refine zP (.pointer (some ⟨b, 0, none⟩)) ?_
   refine zP (.pointer (some ⟨b, 0, none⟩)) ?_
   refine zP (.pointer (some ⟨b, 21, none⟩)) ?_
   refine wpL_store_one rfl rfl (b) (21) rfl (.int .i64 0) rfl rfl size3 (by rw [sum_c21 HR2.out.1 F4.out.2]; rfl) (F4.out.2.free _) ?_
   simp only [Act.put, List.setIfInBounds_toArray, List.set_cons_zero, List.set_cons_succ]
   obtain ⟨v5, hv5⟩ : ∃ V, V = v4.setCell ⟨b, 21, none⟩ (.int .i64 ((0 : Nat) : Int)) := ⟨_, rfl⟩
   try rw [show v4.setCell ⟨b, 21, none⟩ (.int .i64 0) = v5 from hv5.symm]
   have F5 : Hid (w.grownBy v5 (some b) ∧ Blk v5 b 88 (sumC z0 z1 z2 r0 r1 (padR R k) 0).toArray) := Lib.hid (by rw [hv5]; exact ⟨gb_set F4.out.1 _ _, sum_s21 HR2.out.1 F4.out.2 0⟩)
   clear hv5 F4
   go_upto_region 11 with (fail)
   go_end0
   exact ⟨rfl, F5.out.1, (padR R k), z0, z1, z2, F5.out.2, Z.out.1, Z.out.2.1, Z.out.2.2.1, by rw [Z.out.2.2.2]; exact HE.out, HR2.out⟩
  ·refine op_call (o := ⟨some 56, _, _, _, _, _⟩) 34 #[.slice (some ⟨b, 5 + 8, none⟩) (16 - 8) (16 - 8)] rfl rfl (by kernel_rfl) (((C15.out v1.drew F1.out.2)).mono fun e y3 ⟨he, qy3⟩ => ⟨.int .u64 ((n1 : Nat) : Int), he, ?_⟩)
   simp only [Act.put, List.setIfInBounds_toArray, List.set_cons_zero, List.set_cons_succ]
   have Fy3 := Lib.hid (show w.grownBy y3 (some b) ∧ Blk y3 b 88 (sumC s0 h1 h2 r0 r1 (padR R k) k).toArray from ⟨by rw [← qy3]; exact F1.out.1, by rw [← qy3]; exact F1.out.2⟩)
   clear qy3
   refine wpAny_all (rs := [5]) (by kernel_rfl) (by simp) ?_
   intro i hi
   simp only [List.mem_cons, List.not_mem_nil, or_false] at hi
   subst hi
   refine op_val (o := ⟨some 51, _, _, _, _, _⟩) (.int .u64 ((h1 : Nat) : Int)) rfl rfl (run_load_one _ _ _ 82 _ _ rfl b 1 rfl (sum_c1 Fy3.out.2) (by kernel_rfl)) ?_
   simp only [Act.put, List.setIfInBounds_toArray, List.set_cons_zero, List.set_cons_succ]
   refine zB 12 58 (.tuple #[.int .u64 ((s1 : Nat) : Int), .int .u64 ((d1 : Nat) : Int)]) rfl (fun w => (Eq.trans (b := (callFunc 50 #[.int .u64 ((h1 : Nat) : Int), .int .u64 ((n1 : Nat) : Int), .int .u64 ((d0 : Nat) : Int)]).run Tryd.prog _) (by kernel_rfl) (A1.out.1 _))) ?_
   refine zA 13 45 (.tuple #[.int .u64 ((s1 : Nat) : Int), .int .u64 ((d1 : Nat) : Int)]) ?_
   refine zA 14 59 (.int .u64 ((s1 : Nat) : Int)) ?_
   refine zA 15 60 (.int .u64 ((d1 : Nat) : Int)) ?_
   refine zA 18 63 (.pointer (some ⟨b, 1, none⟩)) ?_
   refine wpAny_of_idx [19, 20] [⟨none, _, _, _, _, _⟩, ⟨some 3, _, _, _, _, _⟩] _ _ _ (by rfl) (by kernel_rfl) ?_
   refine wpL_store_one rfl rfl (b) (1) rfl (.int .u64 ((s1 : Nat) : Int)) rfl rfl size35 (by rw [sum_c1 Fy3.out.2]; rfl) (Fy3.out.2.free _) ?_
   simp only [Act.put, List.setIfInBounds_toArray, List.set_cons_zero, List.set_cons_succ]
   obtain ⟨v2, hv2⟩ : ∃ V, V = y3.setCell ⟨b, 1, none⟩ (.int .u64 ((s1 : Nat) : Int)) := ⟨_, rfl⟩
   rw [← hv2]
   have F2 : Hid (w.grownBy v2.drew (some b) ∧ Blk v2.drew b 88 (sumC s0 s1 h2 r0 r1 (padR R k) k).toArray) := Lib.hid (by rw [hv2]; exact ⟨gb_drew (gb_set Fy3.out.1 _ _), (sum_s1 Fy3.out.2 _).drew⟩)
   clear hv2 Fy3
   refine zP (.int .u64 ((d1 : Nat) : Int)) ?_
   go_upto_region 8 with (fail)
   refine region_any (by kernel_rfl) 13 rfl ?_
   refine zA 0 64 (.pointer (some ⟨b, 0, none⟩)) ?_
   refine zA 1 65 (.pointer (some ⟨b, 0, none⟩)) ?_
   refine zA 2 66 (.pointer (some ⟨b, 0, none⟩)) ?_
   refine zA 3 67 (.pointer (some ⟨b, 2, none⟩)) ?_
   refine zA 5 69 (.int .u64 ((0 : Nat) : Int)) ?_
   refine zA 6 70 (.int .u64 ((d1 : Nat) : Int)) ?_
   refine zB 7 71 (.int .u64 ((0 + d1 : Nat) : Int)) rfl (fun w => run_addi Tryd.underlying82 rfl rfl rfl _ (wadd rfl HT.out.1)) ?_
   refine zA 9 73 (.pointer (some ⟨b, 0, none⟩)) ?_
   refine zA 10 74 (.pointer (some ⟨b, 0, none⟩)) ?_
   refine wpAny_all (rs := [4]) (by kernel_rfl) (by simp) ?_
   intro i hi
   simp only [List.mem_cons, List.not_mem_nil, or_false] at hi
   subst hi
   refine op_val (o := ⟨some 68, _, _, _, _, _⟩) (.int .u64 ((h2 : Nat) : Int)) rfl rfl (run_load_one _ _ _ 82 _ _ rfl b 2 rfl (sum_c2 F2.out.2) (by kernel_rfl)) ?_
   simp only [Act.put, List.setIfInBounds_toArray, List.set_cons_zero, List.set_cons_succ]
   refine zB 8 72 (.int .u64 ((h2 + (0 + d1) : Nat) : Int)) rfl (fun w => run_addi Tryd.underlying82 rfl rfl rfl _ (wadd rfl HT.out.2.1)) ?_
   refine zA 11 75 (.pointer (some ⟨b, 2, none⟩)) ?_
   refine wpAny_of_idx [12] [⟨none, _, _, _, _, _⟩] _ _ _ (by rfl) (by kernel_rfl) ?_
   refine wpL_store_one rfl rfl (b) (2) rfl (.int .u64 ((h2 + (0 + d1) : Nat) : Int)) rfl rfl size35 (by rw [sum_c2 F2.out.2]; rfl) (F2.out.2.free _) ?_
   simp only [Act.put, List.setIfInBounds_toArray, List.set_cons_zero, List.set_cons_succ]
   obtain ⟨v3, hv3⟩ : ∃ V, V = v2.drew.setCell ⟨b, 2, none⟩ (.int .u64 ((h2 + (0 + d1) : Nat) : Int)) := ⟨_, rfl⟩
   rw [← hv3]
   have F3 : Hid (w.grownBy v3 (some b) ∧ Blk v3 b 88 (sumC s0 s1 (h2 + (0 + d1)) r0 r1 (padR R k) k).toArray) := Lib.hid (by rw [hv3]; exact ⟨ (gb_set F2.out.1 _ _), (sum_s2 F2.out.2 _)⟩)
   clear hv3 F2
   go_upto_region 9 with (fail)
   refine wp_region_lit ?_
   refine zP (.pointer (some ⟨b, 0, none⟩)) ?_
   refine wpL_call 51 #[.pointer (some ⟨b, 0, none⟩)] rfl (by kernel_rfl) (((multiply_any v3 b s0 s1 (h2 + (0 + d1)) r0 r1 (padR R k) k A0.out.2.1 A1.out.2.1 HT.out.2.2 KR.out.1 KR.out.2 F3.out.2)).mono fun e v4 ⟨he, q1, z0, z1, z2, q2, q3, q4, q5, q6⟩ => ⟨.tuple #[], he, ?_⟩)
   simp only [Act.put, List.setIfInBounds_toArray, List.set_cons_zero, List.set_cons_succ]
   have F4 : Hid (w.grownBy v4 (some b) ∧ Blk v4 b 88 (sumC z0 z1 z2 r0 r1 (padR R k) k).toArray) := Lib.hid ⟨gb_trans F3.out.1 q1, q2⟩
   have Z := Lib.hid (And.intro q3 (And.intro q4 (And.intro q5 q6)))
   clear q1 q2 q3 q4 q5 q6 F3
   go_upto_region 10 with (fail)
   refine wp_region_lit ?_
   refine zP (.pointer (some ⟨b, 0, none⟩)) ?_
   refine zP (.pointer (some ⟨b, 0, none⟩)) ?_
   refine zP (.pointer (some ⟨b, 21, none⟩)) ?_
   refine wpL_store_one rfl rfl (b) (21) rfl (.int .i64 0) rfl rfl size3 (by rw [sum_c21 HR2.out.1 F4.out.2]; rfl) (F4.out.2.free _) ?_
   simp only [Act.put, List.setIfInBounds_toArray, List.set_cons_zero, List.set_cons_succ]
   obtain ⟨v5, hv5⟩ : ∃ V, V = v4.setCell ⟨b, 21, none⟩ (.int .i64 ((0 : Nat) : Int)) := ⟨_, rfl⟩
   try rw [show v4.setCell ⟨b, 21, none⟩ (.int .i64 0) = v5 from hv5.symm]
   have F5 : Hid (w.grownBy v5 (some b) ∧ Blk v5 b 88 (sumC z0 z1 z2 r0 r1 (padR R k) 0).toArray) := Lib.hid (by rw [hv5]; exact ⟨gb_set F4.out.1 _ _, sum_s21 HR2.out.1 F4.out.2 0⟩)
   clear hv5 F4
   go_upto_region 11 with (fail)
   go_end0
   exact ⟨rfl, F5.out.1, (padR R k), z0, z1, z2, F5.out.2, Z.out.1, Z.out.2.1, Z.out.2.2.1, by rw [Z.out.2.2.2]; exact HE.out, HR2.out⟩
 ·refine op_call (o := ⟨some 38, _, _, _, _, _⟩) 34 #[.slice (some ⟨b, 5 + 0, none⟩) (16 - 0) (16 - 0)] rfl rfl (by kernel_rfl) (((C14.out x2.drew X2.out.2)).mono fun e z3 ⟨he, qz3⟩ => ⟨.int .u64 ((n0 : Nat) : Int), he, ?_⟩)
  simp only [Act.put, List.setIfInBounds_toArray, List.set_cons_zero, List.set_cons_succ]
  have Fz3 := Lib.hid (show w.grownBy z3 (some b) ∧ Blk z3 b 88 (sumC h0 h1 h2 r0 r1 (padR R k) k).toArray from ⟨by rw [← qz3]; exact X2.out.1, by rw [← qz3]; exact X2.out.2⟩)
  clear qz3
  refine wpAny_all (rs := [5]) (by kernel_rfl) (by simp) ?_
  intro i hi
  simp only [List.mem_cons, List.not_mem_nil, or_false] at hi
  subst hi
  refine op_val (o := ⟨some 33, _, _, _, _, _⟩) (.int .u64 ((h0 : Nat) : Int)) rfl rfl (run_load_one _ _ _ 82 _ _ rfl b 0 rfl (sum_c0 Fz3.out.2) (by kernel_rfl)) ?_
  simp only [Act.put, List.setIfInBounds_toArray, List.set_cons_zero, List.set_cons_succ]
  refine zB 11 39 (.tuple #[.int .u64 ((s0 : Nat) : Int), .int .u64 ((d0 : Nat) : Int)]) rfl (fun w => (Eq.trans (b := (callFunc 50 #[.int .u64 ((h0 : Nat) : Int), .int .u64 ((n0 : Nat) : Int), .int .u64 ((0 : Nat) : Int)]).run Tryd.prog _) (by kernel_rfl) (A0.out.1 _))) ?_
  refine zA 12 27 (.tuple #[.int .u64 ((s0 : Nat) : Int), .int .u64 ((d0 : Nat) : Int)]) ?_
  refine zA 13 40 (.int .u64 ((s0 : Nat) : Int)) ?_
  refine zA 14 41 (.int .u64 ((d0 : Nat) : Int)) ?_
  refine zA 17 44 (.pointer (some ⟨b, 0, none⟩)) ?_
  refine wpAny_of_idx [18, 19] [⟨none, _, _, _, _, _⟩, ⟨some 3, _, _, _, _, _⟩] _ _ _ (by rfl) (by kernel_rfl) ?_
  refine wpL_store_one rfl rfl (b) (0) rfl (.int .u64 ((s0 : Nat) : Int)) rfl rfl size35 (by rw [sum_c0 Fz3.out.2]; rfl) (Fz3.out.2.free _) ?_
  simp only [Act.put, List.setIfInBounds_toArray, List.set_cons_zero, List.set_cons_succ]
  obtain ⟨v1, hv1⟩ : ∃ V, V = z3.setCell ⟨b, 0, none⟩ (.int .u64 ((s0 : Nat) : Int)) := ⟨_, rfl⟩
  rw [← hv1]
  have F1 : Hid (w.grownBy v1.drew (some b) ∧ Blk v1.drew b 88 (sumC s0 h1 h2 r0 r1 (padR R k) k).toArray) := Lib.hid (by rw [hv1]; exact ⟨gb_drew (gb_set Fz3.out.1 _ _), (sum_s0 Fz3.out.2 _).drew⟩)
  clear hv1 Fz3
  refine zP (.int .u64 ((d0 : Nat) : Int)) ?_
  go_upto_region 7 with (fail)
  refine region_any (by kernel_rfl) 21 rfl ?_
  refine zA 0 46 (.pointer (some ⟨b, 0, none⟩)) ?_
  refine zA 1 47 (.pointer (some ⟨b, 0, none⟩)) ?_
  refine zA 2 48 (.pointer (some ⟨b, 0, none⟩)) ?_
  refine zA 3 49 (.pointer (some ⟨b, 0, none⟩)) ?_
  refine zA 4 50 (.pointer (some ⟨b, 1, none⟩)) ?_
  refine zA 6 52 (.pointer (some ⟨b, 0, none⟩)) ?_
  refine zA 7 53 (.pointer (some ⟨b, 0, none⟩)) ?_
  refine zA 8 54 (.pointer (some ⟨b, 5, none⟩)) ?_
  refine zB 9 55 (.slice (some ⟨b, 5 + 8, none⟩) (16 - 8) (16 - 8)) rfl (fun w => run_sl26 _ _ _ _ _ b 5 8 rfl rfl rfl (by omega)) ?_
  refine zA 11 57 (.int .u64 ((d0 : Nat) : Int)) ?_
  refine zA 16 61 (.pointer (some ⟨b, 0, none⟩)) ?_
  refine zA 17 62 (.pointer (some ⟨b, 0, none⟩)) ?_
  refine wpAny_all (rs := [5, 10]) (by kernel_rfl) (by simp) ?_
  intro i hi
  simp only [List.mem_cons, List.not_mem_nil, or_false] at hi
  rcases hi with rfl | rfl
  ·refine op_val (o := ⟨some 51, _, _, _, _, _⟩) (.int .u64 ((h1 : Nat) : Int)) rfl rfl (run_load_one _ _ _ 82 _ _ rfl b 1 rfl (sum_c1 F1.out.2) (by kernel_rfl)) ?_
   simp only [Act.put, List.setIfInBounds_toArray, List.set_cons_zero, List.set_cons_succ]
   refine wpAny_all (rs := [10]) (by kernel_rfl) (by simp) ?_
   intro i hi
   simp only [List.mem_cons, List.not_mem_nil, or_false] at hi
   subst hi
   refine op_call (o := ⟨some 56, _, _, _, _, _⟩) 34 #[.slice (some ⟨b, 5 + 8, none⟩) (16 - 8) (16 - 8)] rfl rfl (by kernel_rfl) (((C15.out v1.drew F1.out.2)).mono fun e y2 ⟨he, qy2⟩ => ⟨.int .u64 ((n1 : Nat) : Int), he, ?_⟩)
   simp only [Act.put, List.setIfInBounds_toArray, List.set_cons_zero, List.set_cons_succ]
   have Fy2 := Lib.hid (show w.grownBy y2 (some b) ∧ Blk y2 b 88 (sumC s0 h1 h2 r0 r1 (padR R k) k).toArray from ⟨by rw [← qy2]; exact F1.out.1, by rw [← qy2]; exact F1.out.2⟩)
   clear qy2
   refine zB 12 58 (.tuple #[.int .u64 ((s1 : Nat) : Int), .int .u64 ((d1 : Nat) : Int)]) rfl (fun w => (Eq.trans (b := (callFunc 50 #[.int .u64 ((h1 : Nat) : Int), .int .u64 ((n1 : Nat) : Int), .int .u64 ((d0 : Nat) : Int)]).run Tryd.prog _) (by kernel_rfl) (A1.out.1 _))) ?_
   refine zA 13 45 (.tuple #[.int .u64 ((s1 : Nat) : Int), .int .u64 ((d1 : Nat) : Int)]) ?_
   refine zA 14 59 (.int .u64 ((s1 : Nat) : Int)) ?_
   refine zA 15 60 (.int .u64 ((d1 : Nat) : Int)) ?_
   refine zA 18 63 (.pointer (some ⟨b, 1, none⟩)) ?_
   refine wpAny_of_idx [19, 20] [⟨none, _, _, _, _, _⟩, ⟨some 3, _, _, _, _, _⟩] _ _ _ (by rfl) (by kernel_rfl) ?_
   refine wpL_store_one rfl rfl (b) (1) rfl (.int .u64 ((s1 : Nat) : Int)) rfl rfl size35 (by rw [sum_c1 Fy2.out.2]; rfl) (Fy2.out.2.free _) ?_
   simp only [Act.put, List.setIfInBounds_toArray, List.set_cons_zero, List.set_cons_succ]
   obtain ⟨v2, hv2⟩ : ∃ V, V = y2.setCell ⟨b, 1, none⟩ (.int .u64 ((s1 : Nat) : Int)) := ⟨_, rfl⟩
   rw [← hv2]
   have F2 : Hid (w.grownBy v2.drew (some b) ∧ Blk v2.drew b 88 (sumC s0 s1 h2 r0 r1 (padR R k) k).toArray) := Lib.hid (by rw [hv2]; exact ⟨gb_drew (gb_set Fy2.out.1 _ _), (sum_s1 Fy2.out.2 _).drew⟩)
   clear hv2 Fy2
   refine zP (.int .u64 ((d1 : Nat) : Int)) ?_
   go_upto_region 8 with (fail)
   refine region_any (by kernel_rfl) 13 rfl ?_
   refine zA 0 64 (.pointer (some ⟨b, 0, none⟩)) ?_
   refine zA 1 65 (.pointer (some ⟨b, 0, none⟩)) ?_
   refine zA 2 66 (.pointer (some ⟨b, 0, none⟩)) ?_
   refine zA 3 67 (.pointer (some ⟨b, 2, none⟩)) ?_
   refine zA 5 69 (.int .u64 ((0 : Nat) : Int)) ?_
   refine zA 6 70 (.int .u64 ((d1 : Nat) : Int)) ?_
   refine zB 7 71 (.int .u64 ((0 + d1 : Nat) : Int)) rfl (fun w => run_addi Tryd.underlying82 rfl rfl rfl _ (wadd rfl HT.out.1)) ?_
   refine zA 9 73 (.pointer (some ⟨b, 0, none⟩)) ?_
   refine zA 10 74 (.pointer (some ⟨b, 0, none⟩)) ?_
   refine wpAny_all (rs := [4]) (by kernel_rfl) (by simp) ?_
   intro i hi
   simp only [List.mem_cons, List.not_mem_nil, or_false] at hi
   subst hi
   refine op_val (o := ⟨some 68, _, _, _, _, _⟩) (.int .u64 ((h2 : Nat) : Int)) rfl rfl (run_load_one _ _ _ 82 _ _ rfl b 2 rfl (sum_c2 F2.out.2) (by kernel_rfl)) ?_
   simp only [Act.put, List.setIfInBounds_toArray, List.set_cons_zero, List.set_cons_succ]
   refine zB 8 72 (.int .u64 ((h2 + (0 + d1) : Nat) : Int)) rfl (fun w => run_addi Tryd.underlying82 rfl rfl rfl _ (wadd rfl HT.out.2.1)) ?_
   refine zA 11 75 (.pointer (some ⟨b, 2, none⟩)) ?_
   refine wpAny_of_idx [12] [⟨none, _, _, _, _, _⟩] _ _ _ (by rfl) (by kernel_rfl) ?_
   refine wpL_store_one rfl rfl (b) (2) rfl (.int .u64 ((h2 + (0 + d1) : Nat) : Int)) rfl rfl size35 (by rw [sum_c2 F2.out.2]; rfl) (F2.out.2.free _) ?_
   simp only [Act.put, List.setIfInBounds_toArray, List.set_cons_zero, List.set_cons_succ]
   obtain ⟨v3, hv3⟩ : ∃ V, V = v2.drew.setCell ⟨b, 2, none⟩ (.int .u64 ((h2 + (0 + d1) : Nat) : Int)) := ⟨_, rfl⟩
   rw [← hv3]
   have F3 : Hid (w.grownBy v3 (some b) ∧ Blk v3 b 88 (sumC s0 s1 (h2 + (0 + d1)) r0 r1 (padR R k) k).toArray) := Lib.hid (by rw [hv3]; exact ⟨ (gb_set F2.out.1 _ _), (sum_s2 F2.out.2 _)⟩)
   clear hv3 F2
   go_upto_region 9 with (fail)
   refine wp_region_lit ?_
   refine zP (.pointer (some ⟨b, 0, none⟩)) ?_
   refine wpL_call 51 #[.pointer (some ⟨b, 0, none⟩)] rfl (by kernel_rfl) (((multiply_any v3 b s0 s1 (h2 + (0 + d1)) r0 r1 (padR R k) k A0.out.2.1 A1.out.2.1 HT.out.2.2 KR.out.1 KR.out.2 F3.out.2)).mono fun e v4 ⟨he, q1, z0, z1, z2, q2, q3, q4, q5, q6⟩ => ⟨.tuple #[], he, ?_⟩)
   simp only [Act.put, List.setIfInBounds_toArray, List.set_cons_zero, List.set_cons_succ]
   have F4 : Hid (w.grownBy v4 (some b) ∧ Blk v4 b 88 (sumC z0 z1 z2 r0 r1 (padR R k) k).toArray) := Lib.hid ⟨gb_trans F3.out.1 q1, q2⟩
   have Z := Lib.hid (And.intro q3 (And.intro q4 (And.intro q5 q6)))
   clear q1 q2 q3 q4 q5 q6 F3
   go_upto_region 10 with (fail)
   refine wp_region_lit ?_
   refine zP (.pointer (some ⟨b, 0, none⟩)) ?_
   refine zP (.pointer (some ⟨b, 0, none⟩)) ?_
   refine zP (.pointer (some ⟨b, 21, none⟩)) ?_
   refine wpL_store_one rfl rfl (b) (21) rfl (.int .i64 0) rfl rfl size3 (by rw [sum_c21 HR2.out.1 F4.out.2]; rfl) (F4.out.2.free _) ?_
   simp only [Act.put, List.setIfInBounds_toArray, List.set_cons_zero, List.set_cons_succ]
   obtain ⟨v5, hv5⟩ : ∃ V, V = v4.setCell ⟨b, 21, none⟩ (.int .i64 ((0 : Nat) : Int)) := ⟨_, rfl⟩
   try rw [show v4.setCell ⟨b, 21, none⟩ (.int .i64 0) = v5 from hv5.symm]
   have F5 : Hid (w.grownBy v5 (some b) ∧ Blk v5 b 88 (sumC z0 z1 z2 r0 r1 (padR R k) 0).toArray) := Lib.hid (by rw [hv5]; exact ⟨gb_set F4.out.1 _ _, sum_s21 HR2.out.1 F4.out.2 0⟩)
   clear hv5 F4
   go_upto_region 11 with (fail)
   go_end0
   exact ⟨rfl, F5.out.1, (padR R k), z0, z1, z2, F5.out.2, Z.out.1, Z.out.2.1, Z.out.2.2.1, by rw [Z.out.2.2.2]; exact HE.out, HR2.out⟩
  ·refine op_call (o := ⟨some 56, _, _, _, _, _⟩) 34 #[.slice (some ⟨b, 5 + 8, none⟩) (16 - 8) (16 - 8)] rfl rfl (by kernel_rfl) (((C15.out v1.drew F1.out.2)).mono fun e y3 ⟨he, qy3⟩ => ⟨.int .u64 ((n1 : Nat) : Int), he, ?_⟩)
   simp only [Act.put, List.setIfInBounds_toArray, List.set_cons_zero, List.set_cons_succ]
   have Fy3 := Lib.hid (show w.grownBy y3 (some b) ∧ Blk y3 b 88 (sumC s0 h1 h2 r0 r1 (padR R k) k).toArray from ⟨by rw [← qy3]; exact F1.out.1, by rw [← qy3]; exact F1.out.2⟩)
   clear qy3
   refine wpAny_all (rs := [5]) (by kernel_rfl) (by simp) ?_
   intro i hi
   simp only [List.mem_cons, List.not_mem_nil, or_false] at hi
   subst hi
   refine op_val (o := ⟨some 51, _, _, _, _, _⟩) (.int .u64 ((h1 : Nat) : Int)) rfl rfl (run_load_one _ _ _ 82 _ _ rfl b 1 rfl (sum_c1 Fy3.out.2) (by kernel_rfl)) ?_
   simp only [Act.put, List.setIfInBounds_toArray, List.set_cons_zero, List.set_cons_succ]
   refine zB 12 58 (.tuple #[.int .u64 ((s1 : Nat) : Int), .int .u64 ((d1 : Nat) : Int)]) rfl (fun w => (Eq.trans (b := (callFunc 50 #[.int .u64 ((h1 : Nat) : Int), .int .u64 ((n1 : Nat) : Int), .int .u64 ((d0 : Nat) : Int)]).run Tryd.prog _) (by kernel_rfl) (A1.out.1 _))) ?_
   refine zA 13 45 (.tuple #[.int .u64 ((s1 : Nat) : Int), .int .u64 ((d1 : Nat) : Int)]) ?_
   refine zA 14 59 (.int .u64 ((s1 : Nat) : Int)) ?_
   refine zA 15 60 (.int .u64 ((d1 : Nat) : Int)) ?_
   refine zA 18 63 (.pointer (some ⟨b, 1, none⟩)) ?_
   refine wpAny_of_idx [19, 20] [⟨none, _, _, _, _, _⟩, ⟨some 3, _, _, _, _, _⟩] _ _ _ (by rfl) (by kernel_rfl) ?_
   refine wpL_store_one rfl rfl (b) (1) rfl (.int .u64 ((s1 : Nat) : Int)) rfl rfl size35 (by rw [sum_c1 Fy3.out.2]; rfl) (Fy3.out.2.free _) ?_
   simp only [Act.put, List.setIfInBounds_toArray, List.set_cons_zero, List.set_cons_succ]
   obtain ⟨v2, hv2⟩ : ∃ V, V = y3.setCell ⟨b, 1, none⟩ (.int .u64 ((s1 : Nat) : Int)) := ⟨_, rfl⟩
   rw [← hv2]
   have F2 : Hid (w.grownBy v2.drew (some b) ∧ Blk v2.drew b 88 (sumC s0 s1 h2 r0 r1 (padR R k) k).toArray) := Lib.hid (by rw [hv2]; exact ⟨gb_drew (gb_set Fy3.out.1 _ _), (sum_s1 Fy3.out.2 _).drew⟩)
   clear hv2 Fy3
   refine zP (.int .u64 ((d1 : Nat) : Int)) ?_
   go_upto_region 8 with (fail)
   refine region_any (by kernel_rfl) 13 rfl ?_
   refine zA 0 64 (.pointer (some ⟨b, 0, none⟩)) ?_
   refine zA 1 65 (.pointer (some ⟨b, 0, none⟩)) ?_
   refine zA 2 66 (.pointer (some ⟨b, 0, none⟩)) ?_
   refine zA 3 67 (.pointer (some ⟨b, 2, none⟩)) ?_
   refine zA 5 69 (.int .u64 ((0 : Nat) : Int)) ?_
   refine zA 6 70 (.int .u64 ((d1 : Nat) : Int)) ?_
   refine zB 7 71 (.int .u64 ((0 + d1 : Nat) : Int)) rfl (fun w => run_addi Tryd.underlying82 rfl rfl rfl _ (wadd rfl HT.out.1)) ?_
   refine zA 9 73 (.pointer (some ⟨b, 0, none⟩)) ?_
   refine zA 10 74 (.pointer (some ⟨b, 0, none⟩)) ?_
   refine wpAny_all (rs := [4]) (by kernel_rfl) (by simp) ?_
   intro i hi
   simp only [List.mem_cons, List.not_mem_nil, or_false] at hi
   subst hi
   refine op_val (o := ⟨some 68, _, _, _, _, _⟩) (.int .u64 ((h2 : Nat) : Int)) rfl rfl (run_load_one _ _ _ 82 _ _ rfl b 2 rfl (sum_c2 F2.out.2) (by kernel_rfl)) ?_
   simp only [Act.put, List.setIfInBounds_toArray, List.set_cons_zero, List.set_cons_succ]
   refine zB 8 72 (.int .u64 ((h2 + (0 + d1) : Nat) : Int)) rfl (fun w => run_addi Tryd.underlying82 rfl rfl rfl _ (wadd rfl HT.out.2.1)) ?_
   refine zA 11 75 (.pointer (some ⟨b, 2, none⟩)) ?_
   refine wpAny_of_idx [12] [⟨none, _, _, _, _, _⟩] _ _ _ (by rfl) (by kernel_rfl) ?_
   refine wpL_store_one rfl rfl (b) (2) rfl (.int .u64 ((h2 + (0 + d1) : Nat) : Int)) rfl rfl size35 (by rw [sum_c2 F2.out.2]; rfl) (F2.out.2.free _) ?_
   simp only [Act.put, List.setIfInBounds_toArray, List.set_cons_zero, List.set_cons_succ]
   obtain ⟨v3, hv3⟩ : ∃ V, V = v2.drew.setCell ⟨b, 2, none⟩ (.int .u64 ((h2 + (0 + d1) : Nat) : Int)) := ⟨_, rfl⟩
   rw [← hv3]
   have F3 : Hid (w.grownBy v3 (some b) ∧ Blk v3 b 88 (sumC s0 s1 (h2 + (0 + d1)) r0 r1 (padR R k) k).toArray) := Lib.hid (by rw [hv3]; exact ⟨ (gb_set F2.out.1 _ _), (sum_s2 F2.out.2 _)⟩)
   clear hv3 F2
   go_upto_region 9 with (fail)
   refine wp_region_lit ?_
   refine zP (.pointer (some ⟨b, 0, none⟩)) ?_
   refine wpL_call 51 #[.pointer (some ⟨b, 0, none⟩)] rfl (by kernel_rfl) (((multiply_any v3 b s0 s1 (h2 + (0 + d1)) r0 r1 (padR R k) k A0.out.2.1 A1.out.2.1 HT.out.2.2 KR.out.1 KR.out.2 F3.out.2)).mono fun e v4 ⟨he, q1, z0, z1, z2, q2, q3, q4, q5, q6⟩ => ⟨.tuple #[], he, ?_⟩)
   simp only [Act.put, List.setIfInBounds_toArray, List.set_cons_zero, List.set_cons_succ]
   have F4 : Hid (w.grownBy v4 (some b) ∧ Blk v4 b 88 (sumC z0 z1 z2 r0 r1 (padR R k) k).toArray) := Lib.hid ⟨gb_trans F3.out.1 q1, q2⟩
   have Z := Lib.hid (And.intro q3 (And.intro q4 (And.intro q5 q6)))
   clear q1 q2 q3 q4 q5 q6 F3
   go_upto_region 10 with (fail)
   refine wp_region_lit ?_
   refine zP (.pointer (some ⟨b, 0, none⟩)) ?_
   refine zP (.pointer (some ⟨b, 0, none⟩)) ?_
   refine zP (.pointer (some ⟨b, 21, none⟩)) ?_
   refine wpL_store_one rfl rfl (b) (21) rfl (.int .i64 0) rfl rfl size3 (by rw [sum_c21 HR2.out.1 F4.out.2]; rfl) (F4.out.2.free _) ?_
   simp only [Act.put, List.setIfInBounds_toArray, List.set_cons_zero, List.set_cons_succ]
   obtain ⟨v5, hv5⟩ : ∃ V, V = v4.setCell ⟨b, 21, none⟩ (.int .i64 ((0 : Nat) : Int)) := ⟨_, rfl⟩
   try rw [show v4.setCell ⟨b, 21, none⟩ (.int .i64 0) = v5 from hv5.symm]
   have F5 : Hid (w.grownBy v5 (some b) ∧ Blk v5 b 88 (sumC z0 z1 z2 r0 r1 (padR R k) 0).toArray) := Lib.hid (by rw [hv5]; exact ⟨gb_set F4.out.1 _ _, sum_s21 HR2.out.1 F4.out.2 0⟩)
   clear hv5 F4
   go_upto_region 11 with (fail)
   go_end0
   exact ⟨rfl, F5.out.1, (padR R k), z0, z1, z2, F5.out.2, Z.out.1, Z.out.2.1, Z.out.2.2.1, by rw [Z.out.2.2.2]; exact HE.out, HR2.out⟩
end Go.Proofs.YtlbfohpkngmaoaaDoor.Po
