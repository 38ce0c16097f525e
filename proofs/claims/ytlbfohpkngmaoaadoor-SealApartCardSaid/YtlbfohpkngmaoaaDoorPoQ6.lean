/- A code of texts, joined, by a key. -/
import Derived.Test.YtlbfohpkngmaoaaDoorPoQ5
namespace Go.Proofs.YtlbfohpkngmaoaaDoor.Po
open Go Go.RowKit
def kr (key : List Int) : Nat := (vb ((key.drop 0).take 8) &&& 1152921487695413247) + 18446744073709551616 * (vb ((key.drop 8).take 8) &&& 1152921487695413244)
def ks (key : List Int) : Nat := vb ((key.drop 16).take 8) + 18446744073709551616 * vb ((key.drop 24).take 8)
def codeS (key t : List Int) : List Int := le16 (pacc (kr key) t ((t.length + 15) / 16) + ks key)
theorem codeS_len (key t : List Int) : (codeS key t).length = 16 := le16_len _
theorem le16_byte (n : Nat) : ∀ x ∈ le16 n, 0 ≤ x ∧ x ≤ 255 := by
 intro x hx
 obtain ⟨i, _, rfl⟩ := List.mem_map.1 hx
 omega
theorem code_full {r hv : Nat} {t : List Int} (hhv : t.length % 16 = hv) (h : ¬ 0 < hv) : pacc r t ((t.length + 15) / 16) = pacc r t (t.length / 16) := by
 congr 1
 omega
theorem code_part {r hv : Nat} {t R : List Int} (hhv : t.length % 16 = hv) (h : 0 < hv) (hR : R.take hv = t.drop (16 * (t.length / 16))) : pacc r t ((t.length + 15) / 16) = (pacc r t (t.length / 16) + vb (R.take hv ++ [1])) * r % p130 := by
 rw [show (t.length + 15) / 16 = t.length / 16 + 1 by omega, pacc]
 unfold pblk
 rw [hR, List.take_of_length_le (by rw [List.length_drop]; omega)]
theorem num_key {key : List Int} (W : World) (g o n : Nat) (hk : key.length = 32 ∧ ∀ x ∈ key, 0 ≤ x ∧ x ≤ 255) (hb : Blk W g 23 (u8l key).toArray) (ho : o + 8 ≤ 32) (hn : 8 ≤ n ∧ n ≤ 32) :
  Calls Tryd.prog 34 #[.slice (some ⟨g, o, none⟩) n n] W fun e w' => e = .returned (.int .u64 ((vb ((key.drop o).take 8) : Nat) : Int)) ∧ Below W.heap.size W w' := by
 rw [← le_vb key o 8 (by omega)]
 refine (O.number_any W g o n n _ (nat_byte hk.2 o) hn.1 (by unfold maxLen; omega) (fun j hj => ?_)).mono fun e w' ⟨he, hw⟩ => ⟨he, by subst hw; exact Below.refl _ _⟩
 have := getD_byte hk.2 (o + j)
 rw [hb.cell]
 have hx : o + j < key.length := by omega
 simp only [u8l, List.getElem?_toArray, List.getElem?_map, List.getElem?_eq_getElem hx, Option.map_some, List.getD, Option.getD_some]
 have := hk.2 _ (List.getElem_mem hx)
 congr 2
 omega
theorem num_key' {key : List Int} (W : World) (g o n : Nat) (hk : key.length = 32 ∧ ∀ x ∈ key, 0 ≤ x ∧ x ≤ 255) (hb : Blk W g 23 (u8l key).toArray) (ho : o + 8 ≤ 32) (hn : 8 ≤ n ∧ n ≤ 32) {q : Nat} (hq : vb ((key.drop o).take 8) = q) :
  Calls Tryd.prog 34 #[.slice (some ⟨g, o, none⟩) n n] W fun e w' => e = .returned (.int .u64 ((q : Nat) : Int)) ∧ Below W.heap.size W w' := by
 subst hq
 exact num_key W g o n hk hb ho hn
theorem end_any' (w : World) (b h0 h1 h2 r0 r1 lo hi : Nat) (R : List Int) (hl : Nat) (hb : Blk w b 88 (sumC h0 h1 h2 r0 r1 R hl).toArray) (l0 : h0 < 18446744073709551616) (l1 : h1 < 18446744073709551616) (l2 : h2 ≤ 4) (k0 : lo < 18446744073709551616) (k1 : hi < 18446744073709551616) {v : List Int}
  (hv : le16 ((h0 + 18446744073709551616 * h1 + 340282366920938463463374607431768211456 * h2) % p130 + (lo + 18446744073709551616 * hi)) = v) :
  Calls Tryd.prog 37 #[.pointer (some ⟨b, 0, none⟩), .int .u64 ((lo : Nat) : Int), .int .u64 ((hi : Nat) : Int)] w fun e w' => e = .returned (.agg (u8l v).toArray) ∧ Below w.heap.size w w' := by
 subst hv
 exact end_any w b h0 h1 h2 r0 r1 lo hi R hl hb l0 l1 l2 k0 k1
theorem vb8_lt {key : List Int} (hk : key.length = 32 ∧ ∀ x ∈ key, 0 ≤ x ∧ x ≤ 255) (o : Nat) : vb ((key.drop o).take 8) < 18446744073709551616 := by
 have h := vb_lt (l := (key.drop o).take 8) (fun x hx => hk.2 x (List.mem_of_mem_drop (List.mem_of_mem_take hx)))
 have h2 : 256 ^ ((key.drop o).take 8).length ≤ 256 ^ 8 := Nat.pow_le_pow_right (by omega) (by rw [List.length_take]; omega)
 have h3 : (256 : Nat) ^ 8 = 18446744073709551616 := by decide
 omega
theorem pdig_nil {w : World} {b r0 r1 : Nat} (h : Blk w b 88 (sumC 0 0 0 r0 r1 (List.replicate 16 0) 0).toArray) : PDig w b r0 r1 [] :=
 ⟨List.replicate 16 0, ⟨0, 0, 0, h, by omega, by omega, by omega, by rfl, by simp, by intro x hx; have := List.eq_of_mem_replicate hx; omega⟩, by simp⟩
theorem run_box23 (a : Act) (o : Oper) (w w1 : World) (x : Operand) (ks : List Int) (ho : o.op = .box 23 x) (hx : a.eval x = .agg (u8l ks).toArray) (hl : ks.length = 32) (h1 : w1 = w.alloc (.cells (u8l ks).toArray 23)) :
  (execOp a.eval o).run Tryd.prog w = .ok (.value (.pointer (some ⟨w.heap.size, 0, none⟩))) w1 := by
 have h : ¬ (u8l ks).length = 0 := by simp [u8l, hl]
 subst h1
 unfold execOp
 simp [ho, hx, Instr.box, newVar, newRow, Value.cells, h]
attribute [local irreducible] wpList
set_option maxRecDepth 100000 in
set_option maxHeartbeats 16000000 in
theorem code_any (w : World) (key : List Int) (a : Option Addr) (ln lc : Nat) (L : List (List Int)) (hk : key.length = 32 ∧ ∀ x ∈ key, 0 ≤ x ∧ x ≤ 255) (h : PSl w a ln L) (hln : ln ≤ 4611686018427387904) :
  Calls Tryd.prog 19 #[.agg (u8l key).toArray, .slice a ln lc] w fun e w' => e = .returned (.agg (u8l (codeS key L.flatten)).toArray) ∧ Below w.heap.size w w' := by
 obtain ⟨n0, hn0⟩ : ∃ q, vb ((key.drop 0).take 8) = q := ⟨_, rfl⟩
 obtain ⟨n1, hn1⟩ : ∃ q, vb ((key.drop 8).take 8) = q := ⟨_, rfl⟩
 obtain ⟨s0, hs0⟩ : ∃ q, vb ((key.drop 16).take 8) = q := ⟨_, rfl⟩
 obtain ⟨s1, hs1⟩ : ∃ q, vb ((key.drop 24).take 8) = q := ⟨_, rfl⟩
 obtain ⟨r0, hr0⟩ : ∃ q, n0 &&& 1152921487695413247 = q := ⟨_, rfl⟩
 obtain ⟨r1, hr1⟩ : ∃ q, n1 &&& 1152921487695413244 = q := ⟨_, rfl⟩
 have KR : Hid (r0 < 1152921504606846976 ∧ r1 < 1152921504606846976) := Lib.hid ⟨by have : n0 &&& 1152921487695413247 ≤ 1152921487695413247 := Nat.and_le_right; omega, by have : n1 &&& 1152921487695413244 ≤ 1152921487695413244 := Nat.and_le_right; omega⟩
 have KS : Hid (s0 < 18446744073709551616 ∧ s1 < 18446744073709551616) := Lib.hid ⟨by rw [← hs0]; exact vb8_lt hk 16, by rw [← hs1]; exact vb8_lt hk 24⟩
 have KA : Hid (bits .and .u64 (n0 : Int) 1152921487695413247 = (r0 : Int) ∧ bits .and .u64 (n1 : Int) 1152921487695413244 = (r1 : Int)) := Lib.hid ⟨by rw [← hr0]; exact u64_and_nat n0 1152921487695413247 (by rw [← hn0]; exact vb8_lt hk 0) (by omega), by rw [← hr1]; exact u64_and_nat n1 1152921487695413244 (by rw [← hn1]; exact vb8_lt hk 8) (by omega)⟩
 have EC : Hid (codeS key L.flatten = le16 (pacc (r0 + 18446744073709551616 * r1) L.flatten ((L.flatten.length + 15) / 16) + (s0 + 18446744073709551616 * s1))) := Lib.hid (by unfold codeS kr ks; rw [hn0, hn1, hs0, hs1, hr0, hr1])
 have KN0 := Lib.hid hn0
 have KN1 := Lib.hid hn1
 have KN2 := Lib.hid hs0
 have KN3 := Lib.hid hs1
 have HKY := Lib.hid hk
 have HP := Lib.hid h
 have LN := Lib.hid hln
 have LE : Hid (L.length = ln) := Lib.hid h.1
 have LL : Hid (ln ≤ maxLen) := Lib.hid h.2.1
 clear hn0 hn1 hs0 hs1 hr0 hr1 hk h hln
 go_enter Tryd.func19, Tryd.ntmps19
 obtain ⟨w1, hw1⟩ : ∃ V, V = w.alloc (.cells (u8l key).toArray 23) := ⟨_, rfl⟩
 have HW1 := Lib.hid hw1
 have B1 : Hid (Below w.heap.size w w1 ∧ Blk w1 w.heap.size 23 (u8l key).toArray ∧ w.heap.size < w1.heap.size) := Lib.hid (by rw [hw1]; exact ⟨(Below.refl _ _).alloc (Nat.le_refl _) _, Blk.new _ _ _, by simp⟩)
 clear hw1
 obtain ⟨w2, hw2⟩ : ∃ V, V = w1.alloc (.cells (u8l (List.replicate 16 0)).toArray 39) := ⟨_, rfl⟩
 have B2 : Hid (Below w.heap.size w w2 ∧ Blk w2 w.heap.size 23 (u8l key).toArray ∧ Blk w2 w1.heap.size 39 (u8l (List.replicate 16 0)).toArray ∧ w.heap.size < w1.heap.size ∧ w1.heap.size < w2.heap.size) := Lib.hid (by rw [hw2]; exact ⟨B1.out.1.alloc (Nat.le_of_lt B1.out.2.2) _, B1.out.2.1.alloc _, Blk.new _ _ _, B1.out.2.2, by simp⟩)
 have HW2 := Lib.hid hw2
 clear hw2 B1
 go_upto_region 0 with (fail)
 refine wp_region_lit ?_
 refine zV (.pointer (some ⟨w.heap.size, 0, none⟩)) (w1) (run_box23 _ _ _ _ _ key rfl rfl HKY.out.1 HW1.out) ?_
 refine zV (.pointer (some ⟨w1.heap.size, 0, none⟩)) (w2) (by rw [HW2.out]; kernel_rfl) ?_
 clear HW1 HW2
 obtain ⟨g2, hg2⟩ : ∃ q, w.heap.size = q := ⟨_, rfl⟩
 have G2 := Lib.hid hg2
 rw [hg2] at B2
 try rw [hg2]
 clear hg2
 generalize w1.heap.size = g4 at B2 ⊢
 have F0 : Hid (Below g2 w w2.drew ∧ Blk w2.drew g2 23 (u8l key).toArray ∧ Blk w2.drew g4 39 (u8l (List.replicate 16 0)).toArray ) := Lib.hid ⟨B2.out.1.drew, B2.out.2.1, B2.out.2.2.1⟩
 have G4 : Hid (g2 < g4) := Lib.hid B2.out.2.2.2.1
 clear B2
 skip
 go_upto_region 1 with (fail)
 refine region_any (by kernel_rfl) 10 rfl ?_
 refine zA 0 8 (.slice (some ⟨g2, 0, none⟩) 32 32) ?_
 refine zA 3 11 (.slice (some ⟨g2, 8, none⟩) 24 24) ?_
 refine wpAny_all (rs := [1, 8]) (by kernel_rfl) (by simp) ?_
 intro i hi
 simp only [List.mem_cons, List.not_mem_nil, or_false] at hi
 rcases hi with rfl | rfl
 ·refine op_call (o := ⟨some 9, _, _, _, _, _⟩) 34 #[.slice (some ⟨g2, 0, none⟩) 32 32] rfl rfl (by kernel_rfl) (((num_key' w2.drew g2 0 32 HKY.out F0.out.2.1 (by omega) (by omega) KN0.out)).mono fun e z1 ⟨he, qz1⟩ => ⟨.int .u64 ((n0 : Nat) : Int), he, ?_⟩)
  simp only [Act.put, List.setIfInBounds_toArray, List.set_cons_zero, List.set_cons_succ]
  have Fz1 := Lib.hid (show Below g2 w z1 ∧ Blk z1 g2 23 (u8l key).toArray ∧ Blk z1 g4 39 (u8l (List.replicate 16 0)).toArray from ⟨F0.out.1.trans (qz1.mono (by have h1 := F0.out.1.size; have h2 := G2.out; omega)), F0.out.2.1.below qz1, F0.out.2.2.below qz1⟩)
  clear qz1
  refine zB 2 10 (.int .u64 ((r0 : Nat) : Int)) rfl (fun w => run_biti (.inr (.inl rfl)) Tryd.underlying82 rfl rfl rfl _ KA.out.1) ?_
  refine wpAny_all (rs := [4, 8]) (by kernel_rfl) (by simp) ?_
  intro i hi
  simp only [List.mem_cons, List.not_mem_nil, or_false] at hi
  rcases hi with rfl | rfl
  ·refine op_call (o := ⟨some 12, _, _, _, _, _⟩) 34 #[.slice (some ⟨g2, 8, none⟩) 24 24] rfl rfl (by kernel_rfl) (((num_key' z1 g2 8 24 HKY.out Fz1.out.2.1 (by omega) (by omega) KN1.out)).mono fun e z2 ⟨he, qz2⟩ => ⟨.int .u64 ((n1 : Nat) : Int), he, ?_⟩)
   simp only [Act.put, List.setIfInBounds_toArray, List.set_cons_zero, List.set_cons_succ]
   have Fz2 := Lib.hid (show Below g2 w z2 ∧ Blk z2 g2 23 (u8l key).toArray ∧ Blk z2 g4 39 (u8l (List.replicate 16 0)).toArray from ⟨Fz1.out.1.trans (qz2.mono (by have h1 := Fz1.out.1.size; have h2 := G2.out; omega)), Fz1.out.2.1.below qz2, Fz1.out.2.2.below qz2⟩)
   clear qz2
   refine zB 5 13 (.int .u64 ((r1 : Nat) : Int)) rfl (fun w => run_biti (.inr (.inl rfl)) Tryd.underlying82 rfl rfl rfl _ KA.out.2) ?_
   refine zB 6 14 (.agg #[.int .u64 ((r0 : Nat) : Int), .int .u64 ((r1 : Nat) : Int)]) rfl (fun w => by kernel_rfl) ?_
   refine zB 7 15 (.agg (sumC 0 0 0 r0 r1 (List.replicate 16 0) 0).toArray) rfl (fun w => by kernel_rfl) ?_
   refine wpAny_all (rs := [8]) (by kernel_rfl) (by simp) ?_
   intro i hi
   simp only [List.mem_cons, List.not_mem_nil, or_false] at hi
   subst hi
   obtain ⟨z3, hz3⟩ : ∃ V, V = z2.alloc (.cells (sumC 0 0 0 0 0 (List.replicate 16 0) 0).toArray 88) := ⟨_, rfl⟩
   obtain ⟨gz3, kz3⟩ : ∃ q, z2.heap.size = q := ⟨_, rfl⟩
   have qz3 : Below z2.heap.size z2 z3 := by rw [hz3]; exact (Below.refl _ _).alloc (Nat.le_refl _) _
   have bz3 : Blk z3 gz3 88 (sumC 0 0 0 0 0 (List.replicate 16 0) 0).toArray := by rw [hz3, ← kz3]; exact Blk.new _ _ _
   have Fz3 := Lib.hid (show Below g2 w z3 ∧ Blk z3 g2 23 (u8l key).toArray ∧ Blk z3 g4 39 (u8l (List.replicate 16 0)).toArray ∧ (Blk z3 gz3 88 (sumC 0 0 0 0 0 (List.replicate 16 0) 0).toArray ∧ g4 < gz3) from ⟨Fz2.out.1.trans (qz3.mono (by have h1 := Fz2.out.1.size; have h2 := G2.out; omega)), Fz2.out.2.1.below qz3, Fz2.out.2.2.below qz3, ⟨bz3, by have h1 := Fz2.out.2.2.lt; have h2 := kz3; omega⟩⟩)
   clear qz3 bz3
   refine op_valw (o := ⟨some 5, _, _, _, _, _⟩) (.pointer (some ⟨gz3, 0, none⟩)) z3 rfl rfl (by rw [hz3, ← kz3]; kernel_rfl) ?_
   simp only [Act.put, List.setIfInBounds_toArray, List.set_cons_zero, List.set_cons_succ]
   clear hz3 kz3
   refine wpAny_of_idx [9] [⟨none, _, _, _, _, _⟩] _ _ _ (by rfl) (by kernel_rfl) ?_
   refine wpList_store_rowTo rfl 88 _ _ rfl rfl gz3 (sumC 0 0 0 r0 r1 (List.replicate 16 0) 0).toArray rfl rfl 88 _ (Fz3.out.2.2.2.1) (by kernel_rfl) (by simp [sumC, u8l]) (by simp [sumC, u8l, Value.oneCell']) ?_
   obtain ⟨w3, hw3⟩ : ∃ V, V = z3.setRow gz3 (sumC 0 0 0 r0 r1 (List.replicate 16 0) 0).toArray := ⟨_, rfl⟩
   rw [← hw3]
   have F3 : Hid (Below g2 w w3 ∧ Blk w3 g2 23 (u8l key).toArray ∧ Blk w3 g4 39 (u8l (List.replicate 16 0)).toArray ∧ g4 < gz3 ∧ PDig w3 gz3 r0 r1 []) := Lib.hid (by
    have hl : g4 < gz3 := Fz3.out.2.2.2.2
    rw [hw3]
    exact ⟨below_setRow Fz3.out.1 (by have := G4.out; omega) _, (setRow_other _ _ _ _ (by have := G4.out; omega)).trans Fz3.out.2.1, (setRow_other _ _ _ _ (by omega)).trans (Fz3.out.2.2.1), hl, pdig_nil (setRow_heap _ _ _ _ _ _ Fz3.out.2.2.2.1)⟩)
   clear hw3 Fz3
   generalize gz3 = g5 at F3 ⊢
   have HS : Hid (∀ X, w3.grownBy X (some g5) → PSl X a ln L) := Lib.hid (fun X hX => HP.out.below (by have h5 := F3.out.2.2.2.1; have h4 := G4.out; have h2 := G2.out; have q := gb_below hX (show g2 ≤ g5 by omega) (by have := F3.out.1.size; omega); rw [h2]; exact F3.out.1.trans q))
   have HNE : Hid (0 < ln → ∀ p : Addr, a = some p → p.block ≠ g5) := Lib.hid (fun h p hp => by obtain ⟨g, o, _, _, _, e, hc, _⟩ := HP.out.2.2 0 h; rw [hp] at e; cases e; have h1 := World.block_lt_of_cell? w _ hc; have h5 := F3.out.2.2.2.1; have h4 := G4.out; have h2 := G2.out; simp at h1 ⊢; omega)
   go_upto_region 2 with (fail)
   refine wp_region_lit ?_
   refine zP (.slice a ln lc) ?_
   refine zP (.int .i64 (ln : Int)) ?_
   refine zP (.int .i64 0) ?_
   go_wp2_with fail
   go_loopw [18] (fun s18 wr => ∃ k : Nat, s18 = .int .i64 (k : Int) ∧ Hid (k ≤ ln ∧ PDig wr g5 r0 r1 (L.take k).flatten ∧ w3.grownBy wr (some g5))) (fun s18 _ => ln - (intOf s18).toNat)
   case atStart => exact ⟨0, rfl, Lib.hid ⟨by omega, by simpa using F3.out.2.2.2.2, gb_refl _ _⟩⟩
   case round =>
    obtain ⟨k, rfl, RI⟩ := hrel
    by_cases hlt : k < ln
    ·have HK := Lib.hid hlt
     clear hlt
     obtain ⟨g, o, pa, pn, pc, ea, hc, hsl, hn⟩ := (HS.out wr RI.out.2.2).2.2 k HK.out
     have AE := Lib.hid ea
     have C0 := Lib.hid hc
     have PS := Lib.hid (parts_stay HS.out (HNE.out (by have := HK.out; omega)) RI.out.2.2 HK.out ea hc)
     clear ea hc hsl hn
     go_upto_region 3 with (fail)
     refine wp_region_lit ?_
     refine zQ (.bool true) (run_lti Tryd.underlying3 rfl rfl rfl (by have := HK.out; rw [decide_eq_true_eq]; omega)) ?_
     go_upto_region 4 with (fail)
     refine wp_region_lit ?_
     refine zQ (.pointer (some ⟨g, o + k, none⟩)) (run_idxp _ _ _ _ _ g o ln lc k rfl (by rw [AE.out]; rfl) rfl HK.out LL.out) ?_
     refine zQ (.slice pa pn pc) (run_load_one _ _ _ 24 _ _ rfl (g) (o + k) rfl (C0.out) (by kernel_rfl)) ?_
     refine zP (.slice pa pn pc) ?_
     go_upto_region 5 with (fail)
     refine wp_region_lit ?_
     refine zP (.slice pa pn pc) ?_
     refine wpL_call 35 #[.pointer (some ⟨g5, 0, none⟩), .slice pa pn pc] rfl (by kernel_rfl) (((write_any wr g5 r0 r1 (L.take k).flatten (L.getD k []) pa pn pc RI.out.2.1 PS.out KR.out.1 KR.out.2)).mono fun e w4 ⟨he, q1, q2⟩ => ⟨.tuple #[], he, ?_⟩)
     simp only [Act.put, List.setIfInBounds_toArray, List.set_cons_zero, List.set_cons_succ]
     have NX : Hid (k + 1 ≤ ln ∧ PDig w4 g5 r0 r1 (L.take (k + 1)).flatten ∧ w3.grownBy w4 (some g5)) := Lib.hid ⟨HK.out, by rw [← flat_take_succ LE.out HK.out]; exact q1, gb_trans RI.out.2.2 q2⟩
     clear q1 q2
     go_upto_region 6 with (fail)
     refine wp_region_lit ?_
     refine zQ (.int .i64 ((k + 1 : Nat) : Int)) (run_addi Tryd.underlying3 rfl rfl rfl _ (by have := HK.out; have := LL.out; unfold maxLen at this; have := LN.out; rw [wrap_in _ (by omega) (by omega)]; omega)) ?_
     refine zP (.int .i64 ((k + 1 : Nat) : Int)) ?_
     unfold wpList
     go_roundw
     case rel => first | exact ⟨_, rfl, NX⟩ | ((repeat apply Exists.intro); exact ⟨⟨_, rfl, NX⟩, rfl⟩)
     case measure => simp [intOf]; have := HK.out; omega
    ·have HK := Lib.hid hlt
     have EK : Hid (k = ln) := Lib.hid (by have := RI.out.1; omega)
     clear hlt
     obtain ⟨R, pm, hR⟩ := (show PDig wr g5 r0 r1 L.flatten by have h := RI.out.2.1; rw [EK.out, List.take_of_length_le (by rw [LE.out]; omega)] at h; exact h)
     have PM := Lib.hid pm
     have HR := Lib.hid hR
     have FW : Hid (Below g2 w wr ∧ Blk wr g2 23 (u8l key).toArray ∧ Blk wr g4 39 (u8l (List.replicate 16 0)).toArray) := Lib.hid ⟨F3.out.1.trans (gb_below RI.out.2.2 (by have := F3.out.2.2.2.1; have := G4.out; omega) (by have := F3.out.1.size; have := G2.out; omega)), F3.out.2.1.grown RI.out.2.2 (by have := F3.out.2.2.2.1; have := G4.out; simp; omega), F3.out.2.2.1.grown RI.out.2.2 (by have := F3.out.2.2.2.1; simp; omega)⟩
     clear pm hR
     obtain ⟨hv, hhv⟩ : ∃ q, L.flatten.length % 16 = q := ⟨_, rfl⟩
     have HV := Lib.hid hhv
     rw [hhv] at PM HR
     clear hhv
     go_upto_region 3 with (fail)
     refine wp_region_lit ?_
     refine zQ (.bool false) (run_lti Tryd.underlying3 rfl rfl rfl (by have := HK.out; rw [decide_eq_false_iff_not]; omega)) ?_
     by_cases h0 : 0 < hv
     ·have H0 := Lib.hid h0
      clear h0
      go_upto_region 7 with (fail)
      refine wp_region_lit ?_
      refine zP (.pointer (some ⟨g5, 21, none⟩)) ?_
      refine zQ (.int .i64 ((hv : Nat) : Int)) (run_load_one _ _ _ 3 _ _ rfl (g5) (21) rfl (PM.out.held) (by kernel_rfl)) ?_
      refine zQ (.bool true) (run_gti Tryd.underlying3 rfl rfl rfl (by have := H0.out; rw [decide_eq_true_eq]; omega)) ?_
      go_upto_region 8 with (fail)
      refine wp_region_lit ?_
      refine wpL_call 36 #[.pointer (some ⟨g5, 0, none⟩)] rfl (by kernel_rfl) (((take_part wr g5 r0 r1 _ hv R PM.out (by have := HV.out; omega) KR.out.1 KR.out.2)).mono fun e w5 ⟨he, q1, R2, q2⟩ => ⟨.tuple #[], he, ?_⟩)
      simp only [Act.put, List.setIfInBounds_toArray, List.set_cons_zero, List.set_cons_succ]
      have PM2 := Lib.hid q2
      have FX : Hid (Below g2 w w5 ∧ Blk w5 g2 23 (u8l key).toArray ∧ Blk w5 g4 39 (u8l (List.replicate 16 0)).toArray) := Lib.hid ⟨FW.out.1.trans (gb_below q1 (by have := F3.out.2.2.2.1; have := G4.out; omega) (by have := FW.out.1.size; have := G2.out; omega)), FW.out.2.1.grown q1 (by have := F3.out.2.2.2.1; have := G4.out; simp; omega), FW.out.2.2.grown q1 (by have := F3.out.2.2.2.1; simp; omega)⟩
      clear q1 q2 PM FW
      obtain ⟨h0', h1', h2', hb, l0, l1, l2, hA, _⟩ := PM2.out
      have HB := Lib.hid hb
      have HL := Lib.hid (And.intro l0 (And.intro l1 (And.intro l2 hA)))
      clear hb l0 l1 l2 hA
      have Y0 : Hid (Below g2 w w5.drew ∧ Blk w5.drew g2 23 (u8l key).toArray ∧ Blk w5.drew g4 39 (u8l (List.replicate 16 0)).toArray ∧ Blk w5.drew g5 88 (sumC h0' h1' h2' r0 r1 R2 0).toArray) := Lib.hid ⟨FX.out.1.drew, FX.out.2.1, FX.out.2.2, HB.out⟩
      go_upto_region 9 with (fail)
      refine region_any (by kernel_rfl) 6 rfl ?_
      refine zA 0 29 (.slice (some ⟨g2, 16, none⟩) 16 16) ?_
      refine zA 2 31 (.slice (some ⟨g2, 24, none⟩) 8 8) ?_
      refine wpAny_all (rs := [1]) (by kernel_rfl) (by simp) ?_
      intro i hi
      simp only [List.mem_cons, List.not_mem_nil, or_false] at hi
      subst hi
      refine op_call (o := ⟨some 30, _, _, _, _, _⟩) 34 #[.slice (some ⟨g2, 16, none⟩) 16 16] rfl rfl (by kernel_rfl) (((num_key' w5.drew g2 16 16 HKY.out Y0.out.2.1 (by omega) (by omega) KN2.out)).mono fun e v1 ⟨he, qv1⟩ => ⟨.int .u64 ((s0 : Nat) : Int), he, ?_⟩)
      simp only [Act.put, List.setIfInBounds_toArray, List.set_cons_zero, List.set_cons_succ]
      have Fv1 := Lib.hid (show Below g2 w v1 ∧ Blk v1 g2 23 (u8l key).toArray ∧ Blk v1 g4 39 (u8l (List.replicate 16 0)).toArray ∧ Blk v1 g5 88 (sumC h0' h1' h2' r0 r1 R2 0).toArray from ⟨Y0.out.1.trans (qv1.mono (by have h1 := Y0.out.1.size; have h2 := G2.out; omega)), Y0.out.2.1.below qv1, Y0.out.2.2.1.below qv1, Y0.out.2.2.2.below qv1⟩)
      clear qv1
      refine wpAny_all (rs := [3]) (by kernel_rfl) (by simp) ?_
      intro i hi
      simp only [List.mem_cons, List.not_mem_nil, or_false] at hi
      subst hi
      refine op_call (o := ⟨some 32, _, _, _, _, _⟩) 34 #[.slice (some ⟨g2, 24, none⟩) 8 8] rfl rfl (by kernel_rfl) (((num_key' v1 g2 24 8 HKY.out Fv1.out.2.1 (by omega) (by omega) KN3.out)).mono fun e v2 ⟨he, qv2⟩ => ⟨.int .u64 ((s1 : Nat) : Int), he, ?_⟩)
      simp only [Act.put, List.setIfInBounds_toArray, List.set_cons_zero, List.set_cons_succ]
      have Fv2 := Lib.hid (show Below g2 w v2 ∧ Blk v2 g2 23 (u8l key).toArray ∧ Blk v2 g4 39 (u8l (List.replicate 16 0)).toArray ∧ Blk v2 g5 88 (sumC h0' h1' h2' r0 r1 R2 0).toArray from ⟨Fv1.out.1.trans (qv2.mono (by have h1 := Fv1.out.1.size; have h2 := G2.out; omega)), Fv1.out.2.1.below qv2, Fv1.out.2.2.1.below qv2, Fv1.out.2.2.2.below qv2⟩)
      clear qv2
      refine wpAny_all (rs := [4]) (by kernel_rfl) (by simp) ?_
      intro i hi
      simp only [List.mem_cons, List.not_mem_nil, or_false] at hi
      subst hi
      refine op_call (o := ⟨some 33, _, _, _, _, _⟩) 37 #[.pointer (some ⟨g5, 0, none⟩), .int .u64 ((s0 : Nat) : Int), .int .u64 ((s1 : Nat) : Int)] rfl rfl (by kernel_rfl) (((end_any' v2 g5 h0' h1' h2' r0 r1 s0 s1 R2 0 Fv2.out.2.2.2 HL.out.1 HL.out.2.1 HL.out.2.2.1 KS.out.1 KS.out.2 (by rw [HL.out.2.2.2, ← code_part HV.out H0.out HR.out, ← EC.out]))).mono fun e v3 ⟨he, qv3⟩ => ⟨.agg (u8l (codeS key L.flatten)).toArray, he, ?_⟩)
      simp only [Act.put, List.setIfInBounds_toArray, List.set_cons_zero, List.set_cons_succ]
      have Fv3 := Lib.hid (show Below g2 w v3 ∧ Blk v3 g2 23 (u8l key).toArray ∧ Blk v3 g4 39 (u8l (List.replicate 16 0)).toArray ∧ Blk v3 g5 88 (sumC h0' h1' h2' r0 r1 R2 0).toArray from ⟨Fv2.out.1.trans (qv3.mono (by have h1 := Fv2.out.1.size; have h2 := G2.out; omega)), Fv2.out.2.1.below qv3, Fv2.out.2.2.1.below qv3, Fv2.out.2.2.2.below qv3⟩)
      clear qv3
      refine wpAny_of_idx [5] [⟨none, _, _, _, _, _⟩] _ _ _ (by rfl) (by kernel_rfl) ?_
      refine wpList_store_rowTo rfl 39 _ _ rfl rfl g4 (u8l (codeS key L.flatten)).toArray rfl (by kernel_rfl) 39 _ (Fv3.out.2.2.1) (by simp only [List.size_toArray, u8l_len, codeS_len]; kernel_rfl) (by simp [u8l, codeS_len]) (u8l_one _) ?_
      go_wp2_with fail
      refine bodyPost_ret (results_cell_row rfl _ _ g4 39 _ (0, 0) _ rfl (setRow_heap _ _ _ _ _ _ (Fv3.out.2.2.1)) Tryd.underlying39 rfl (by simp only [List.size_toArray, u8l_len, codeS_len]; kernel_rfl)) rfl ?_
      exact ⟨rfl, by rw [G2.out]; exact below_setRow Fv3.out.1 (by have := G4.out; omega) _⟩
     ·have H0 := Lib.hid h0
      clear h0
      go_upto_region 7 with (fail)
      refine wp_region_lit ?_
      refine zP (.pointer (some ⟨g5, 21, none⟩)) ?_
      refine zQ (.int .i64 ((hv : Nat) : Int)) (run_load_one _ _ _ 3 _ _ rfl (g5) (21) rfl (PM.out.held) (by kernel_rfl)) ?_
      refine zQ (.bool false) (run_gti Tryd.underlying3 rfl rfl rfl (by have := H0.out; rw [decide_eq_false_iff_not]; omega)) ?_
      obtain ⟨h0', h1', h2', hb, l0, l1, l2, hA, _⟩ := PM.out
      have HB := Lib.hid hb
      have HL := Lib.hid (And.intro l0 (And.intro l1 (And.intro l2 hA)))
      clear hb l0 l1 l2 hA
      have Y0 : Hid (Below g2 w wr.drew ∧ Blk wr.drew g2 23 (u8l key).toArray ∧ Blk wr.drew g4 39 (u8l (List.replicate 16 0)).toArray ∧ Blk wr.drew g5 88 (sumC h0' h1' h2' r0 r1 R hv).toArray) := Lib.hid ⟨FW.out.1.drew, FW.out.2.1, FW.out.2.2, HB.out⟩
      go_upto_region 9 with (fail)
      refine region_any (by kernel_rfl) 6 rfl ?_
      refine zA 0 29 (.slice (some ⟨g2, 16, none⟩) 16 16) ?_
      refine zA 2 31 (.slice (some ⟨g2, 24, none⟩) 8 8) ?_
      refine wpAny_all (rs := [1]) (by kernel_rfl) (by simp) ?_
      intro i hi
      simp only [List.mem_cons, List.not_mem_nil, or_false] at hi
      subst hi
      refine op_call (o := ⟨some 30, _, _, _, _, _⟩) 34 #[.slice (some ⟨g2, 16, none⟩) 16 16] rfl rfl (by kernel_rfl) (((num_key' wr.drew g2 16 16 HKY.out Y0.out.2.1 (by omega) (by omega) KN2.out)).mono fun e v1 ⟨he, qv1⟩ => ⟨.int .u64 ((s0 : Nat) : Int), he, ?_⟩)
      simp only [Act.put, List.setIfInBounds_toArray, List.set_cons_zero, List.set_cons_succ]
      have Fv1 := Lib.hid (show Below g2 w v1 ∧ Blk v1 g2 23 (u8l key).toArray ∧ Blk v1 g4 39 (u8l (List.replicate 16 0)).toArray ∧ Blk v1 g5 88 (sumC h0' h1' h2' r0 r1 R hv).toArray from ⟨Y0.out.1.trans (qv1.mono (by have h1 := Y0.out.1.size; have h2 := G2.out; omega)), Y0.out.2.1.below qv1, Y0.out.2.2.1.below qv1, Y0.out.2.2.2.below qv1⟩)
      clear qv1
      refine wpAny_all (rs := [3]) (by kernel_rfl) (by simp) ?_
      intro i hi
      simp only [List.mem_cons, List.not_mem_nil, or_false] at hi
      subst hi
      refine op_call (o := ⟨some 32, _, _, _, _, _⟩) 34 #[.slice (some ⟨g2, 24, none⟩) 8 8] rfl rfl (by kernel_rfl) (((num_key' v1 g2 24 8 HKY.out Fv1.out.2.1 (by omega) (by omega) KN3.out)).mono fun e v2 ⟨he, qv2⟩ => ⟨.int .u64 ((s1 : Nat) : Int), he, ?_⟩)
      simp only [Act.put, List.setIfInBounds_toArray, List.set_cons_zero, List.set_cons_succ]
      have Fv2 := Lib.hid (show Below g2 w v2 ∧ Blk v2 g2 23 (u8l key).toArray ∧ Blk v2 g4 39 (u8l (List.replicate 16 0)).toArray ∧ Blk v2 g5 88 (sumC h0' h1' h2' r0 r1 R hv).toArray from ⟨Fv1.out.1.trans (qv2.mono (by have h1 := Fv1.out.1.size; have h2 := G2.out; omega)), Fv1.out.2.1.below qv2, Fv1.out.2.2.1.below qv2, Fv1.out.2.2.2.below qv2⟩)
      clear qv2
      refine wpAny_all (rs := [4]) (by kernel_rfl) (by simp) ?_
      intro i hi
      simp only [List.mem_cons, List.not_mem_nil, or_false] at hi
      subst hi
      refine op_call (o := ⟨some 33, _, _, _, _, _⟩) 37 #[.pointer (some ⟨g5, 0, none⟩), .int .u64 ((s0 : Nat) : Int), .int .u64 ((s1 : Nat) : Int)] rfl rfl (by kernel_rfl) (((end_any' v2 g5 h0' h1' h2' r0 r1 s0 s1 R hv Fv2.out.2.2.2 HL.out.1 HL.out.2.1 HL.out.2.2.1 KS.out.1 KS.out.2 (by rw [HL.out.2.2.2, ← code_full HV.out H0.out, ← EC.out]))).mono fun e v3 ⟨he, qv3⟩ => ⟨.agg (u8l (codeS key L.flatten)).toArray, he, ?_⟩)
      simp only [Act.put, List.setIfInBounds_toArray, List.set_cons_zero, List.set_cons_succ]
      have Fv3 := Lib.hid (show Below g2 w v3 ∧ Blk v3 g2 23 (u8l key).toArray ∧ Blk v3 g4 39 (u8l (List.replicate 16 0)).toArray ∧ Blk v3 g5 88 (sumC h0' h1' h2' r0 r1 R hv).toArray from ⟨Fv2.out.1.trans (qv3.mono (by have h1 := Fv2.out.1.size; have h2 := G2.out; omega)), Fv2.out.2.1.below qv3, Fv2.out.2.2.1.below qv3, Fv2.out.2.2.2.below qv3⟩)
      clear qv3
      refine wpAny_of_idx [5] [⟨none, _, _, _, _, _⟩] _ _ _ (by rfl) (by kernel_rfl) ?_
      refine wpList_store_rowTo rfl 39 _ _ rfl rfl g4 (u8l (codeS key L.flatten)).toArray rfl (by kernel_rfl) 39 _ (Fv3.out.2.2.1) (by simp only [List.size_toArray, u8l_len, codeS_len]; kernel_rfl) (by simp [u8l, codeS_len]) (u8l_one _) ?_
      go_wp2_with fail
      refine bodyPost_ret (results_cell_row rfl _ _ g4 39 _ (0, 0) _ rfl (setRow_heap _ _ _ _ _ _ (Fv3.out.2.2.1)) Tryd.underlying39 rfl (by simp only [List.size_toArray, u8l_len, codeS_len]; kernel_rfl)) rfl ?_
      exact ⟨rfl, by rw [G2.out]; exact below_setRow Fv3.out.1 (by have := G4.out; omega) _⟩
  ·obtain ⟨z4, hz4⟩ : ∃ V, V = z1.alloc (.cells (sumC 0 0 0 0 0 (List.replicate 16 0) 0).toArray 88) := ⟨_, rfl⟩
   obtain ⟨gz4, kz4⟩ : ∃ q, z1.heap.size = q := ⟨_, rfl⟩
   have qz4 : Below z1.heap.size z1 z4 := by rw [hz4]; exact (Below.refl _ _).alloc (Nat.le_refl _) _
   have bz4 : Blk z4 gz4 88 (sumC 0 0 0 0 0 (List.replicate 16 0) 0).toArray := by rw [hz4, ← kz4]; exact Blk.new _ _ _
   have Fz4 := Lib.hid (show Below g2 w z4 ∧ Blk z4 g2 23 (u8l key).toArray ∧ Blk z4 g4 39 (u8l (List.replicate 16 0)).toArray ∧ (Blk z4 gz4 88 (sumC 0 0 0 0 0 (List.replicate 16 0) 0).toArray ∧ g4 < gz4) from ⟨Fz1.out.1.trans (qz4.mono (by have h1 := Fz1.out.1.size; have h2 := G2.out; omega)), Fz1.out.2.1.below qz4, Fz1.out.2.2.below qz4, ⟨bz4, by have h1 := Fz1.out.2.2.lt; have h2 := kz4; omega⟩⟩)
   clear qz4 bz4
   refine op_valw (o := ⟨some 5, _, _, _, _, _⟩) (.pointer (some ⟨gz4, 0, none⟩)) z4 rfl rfl (by rw [hz4, ← kz4]; kernel_rfl) ?_
   simp only [Act.put, List.setIfInBounds_toArray, List.set_cons_zero, List.set_cons_succ]
   clear hz4 kz4
   refine wpAny_all (rs := [4]) (by kernel_rfl) (by simp) ?_
   intro i hi
   simp only [List.mem_cons, List.not_mem_nil, or_false] at hi
   subst hi
   refine op_call (o := ⟨some 12, _, _, _, _, _⟩) 34 #[.slice (some ⟨g2, 8, none⟩) 24 24] rfl rfl (by kernel_rfl) (((num_key' z4 g2 8 24 HKY.out Fz4.out.2.1 (by omega) (by omega) KN1.out)).mono fun e z5 ⟨he, qz5⟩ => ⟨.int .u64 ((n1 : Nat) : Int), he, ?_⟩)
   simp only [Act.put, List.setIfInBounds_toArray, List.set_cons_zero, List.set_cons_succ]
   have Fz5 := Lib.hid (show Below g2 w z5 ∧ Blk z5 g2 23 (u8l key).toArray ∧ Blk z5 g4 39 (u8l (List.replicate 16 0)).toArray ∧ (Blk z5 gz4 88 (sumC 0 0 0 0 0 (List.replicate 16 0) 0).toArray ∧ g4 < gz4) from ⟨Fz4.out.1.trans (qz5.mono (by have h1 := Fz4.out.1.size; have h2 := G2.out; omega)), Fz4.out.2.1.below qz5, Fz4.out.2.2.1.below qz5, ⟨Fz4.out.2.2.2.1.below qz5, Fz4.out.2.2.2.2⟩⟩)
   clear qz5
   refine zB 5 13 (.int .u64 ((r1 : Nat) : Int)) rfl (fun w => run_biti (.inr (.inl rfl)) Tryd.underlying82 rfl rfl rfl _ KA.out.2) ?_
   refine zB 6 14 (.agg #[.int .u64 ((r0 : Nat) : Int), .int .u64 ((r1 : Nat) : Int)]) rfl (fun w => by kernel_rfl) ?_
   refine zB 7 15 (.agg (sumC 0 0 0 r0 r1 (List.replicate 16 0) 0).toArray) rfl (fun w => by kernel_rfl) ?_
   refine wpAny_of_idx [9] [⟨none, _, _, _, _, _⟩] _ _ _ (by rfl) (by kernel_rfl) ?_
   refine wpList_store_rowTo rfl 88 _ _ rfl rfl gz4 (sumC 0 0 0 r0 r1 (List.replicate 16 0) 0).toArray rfl rfl 88 _ (Fz5.out.2.2.2.1) (by kernel_rfl) (by simp [sumC, u8l]) (by simp [sumC, u8l, Value.oneCell']) ?_
   obtain ⟨w3, hw3⟩ : ∃ V, V = z5.setRow gz4 (sumC 0 0 0 r0 r1 (List.replicate 16 0) 0).toArray := ⟨_, rfl⟩
   rw [← hw3]
   have F3 : Hid (Below g2 w w3 ∧ Blk w3 g2 23 (u8l key).toArray ∧ Blk w3 g4 39 (u8l (List.replicate 16 0)).toArray ∧ g4 < gz4 ∧ PDig w3 gz4 r0 r1 []) := Lib.hid (by
    have hl : g4 < gz4 := Fz5.out.2.2.2.2
    rw [hw3]
    exact ⟨below_setRow Fz5.out.1 (by have := G4.out; omega) _, (setRow_other _ _ _ _ (by have := G4.out; omega)).trans Fz5.out.2.1, (setRow_other _ _ _ _ (by omega)).trans (Fz5.out.2.2.1), hl, pdig_nil (setRow_heap _ _ _ _ _ _ Fz5.out.2.2.2.1)⟩)
   clear hw3 Fz5
   generalize gz4 = g5 at F3 ⊢
   have HS : Hid (∀ X, w3.grownBy X (some g5) → PSl X a ln L) := Lib.hid (fun X hX => HP.out.below (by have h5 := F3.out.2.2.2.1; have h4 := G4.out; have h2 := G2.out; have q := gb_below hX (show g2 ≤ g5 by omega) (by have := F3.out.1.size; omega); rw [h2]; exact F3.out.1.trans q))
   have HNE : Hid (0 < ln → ∀ p : Addr, a = some p → p.block ≠ g5) := Lib.hid (fun h p hp => by obtain ⟨g, o, _, _, _, e, hc, _⟩ := HP.out.2.2 0 h; rw [hp] at e; cases e; have h1 := World.block_lt_of_cell? w _ hc; have h5 := F3.out.2.2.2.1; have h4 := G4.out; have h2 := G2.out; simp at h1 ⊢; omega)
   go_upto_region 2 with (fail)
   refine wp_region_lit ?_
   refine zP (.slice a ln lc) ?_
   refine zP (.int .i64 (ln : Int)) ?_
   refine zP (.int .i64 0) ?_
   go_wp2_with fail
   go_loopw [18] (fun s18 wr => ∃ k : Nat, s18 = .int .i64 (k : Int) ∧ Hid (k ≤ ln ∧ PDig wr g5 r0 r1 (L.take k).flatten ∧ w3.grownBy wr (some g5))) (fun s18 _ => ln - (intOf s18).toNat)
   case atStart => exact ⟨0, rfl, Lib.hid ⟨by omega, by simpa using F3.out.2.2.2.2, gb_refl _ _⟩⟩
   case round =>
    obtain ⟨k, rfl, RI⟩ := hrel
    by_cases hlt : k < ln
    ·have HK := Lib.hid hlt
     clear hlt
     obtain ⟨g, o, pa, pn, pc, ea, hc, hsl, hn⟩ := (HS.out wr RI.out.2.2).2.2 k HK.out
     have AE := Lib.hid ea
     have C0 := Lib.hid hc
     have PS := Lib.hid (parts_stay HS.out (HNE.out (by have := HK.out; omega)) RI.out.2.2 HK.out ea hc)
     clear ea hc hsl hn
     go_upto_region 3 with (fail)
     refine wp_region_lit ?_
     refine zQ (.bool true) (run_lti Tryd.underlying3 rfl rfl rfl (by have := HK.out; rw [decide_eq_true_eq]; omega)) ?_
     go_upto_region 4 with (fail)
     refine wp_region_lit ?_
     refine zQ (.pointer (some ⟨g, o + k, none⟩)) (run_idxp _ _ _ _ _ g o ln lc k rfl (by rw [AE.out]; rfl) rfl HK.out LL.out) ?_
     refine zQ (.slice pa pn pc) (run_load_one _ _ _ 24 _ _ rfl (g) (o + k) rfl (C0.out) (by kernel_rfl)) ?_
     refine zP (.slice pa pn pc) ?_
     go_upto_region 5 with (fail)
     refine wp_region_lit ?_
     refine zP (.slice pa pn pc) ?_
     refine wpL_call 35 #[.pointer (some ⟨g5, 0, none⟩), .slice pa pn pc] rfl (by kernel_rfl) (((write_any wr g5 r0 r1 (L.take k).flatten (L.getD k []) pa pn pc RI.out.2.1 PS.out KR.out.1 KR.out.2)).mono fun e w4 ⟨he, q1, q2⟩ => ⟨.tuple #[], he, ?_⟩)
     simp only [Act.put, List.setIfInBounds_toArray, List.set_cons_zero, List.set_cons_succ]
     have NX : Hid (k + 1 ≤ ln ∧ PDig w4 g5 r0 r1 (L.take (k + 1)).flatten ∧ w3.grownBy w4 (some g5)) := Lib.hid ⟨HK.out, by rw [← flat_take_succ LE.out HK.out]; exact q1, gb_trans RI.out.2.2 q2⟩
     clear q1 q2
     go_upto_region 6 with (fail)
     refine wp_region_lit ?_
     refine zQ (.int .i64 ((k + 1 : Nat) : Int)) (run_addi Tryd.underlying3 rfl rfl rfl _ (by have := HK.out; have := LL.out; unfold maxLen at this; have := LN.out; rw [wrap_in _ (by omega) (by omega)]; omega)) ?_
     refine zP (.int .i64 ((k + 1 : Nat) : Int)) ?_
     unfold wpList
     go_roundw
     case rel => first | exact ⟨_, rfl, NX⟩ | ((repeat apply Exists.intro); exact ⟨⟨_, rfl, NX⟩, rfl⟩)
     case measure => simp [intOf]; have := HK.out; omega
    ·have HK := Lib.hid hlt
     have EK : Hid (k = ln) := Lib.hid (by have := RI.out.1; omega)
     clear hlt
     obtain ⟨R, pm, hR⟩ := (show PDig wr g5 r0 r1 L.flatten by have h := RI.out.2.1; rw [EK.out, List.take_of_length_le (by rw [LE.out]; omega)] at h; exact h)
     have PM := Lib.hid pm
     have HR := Lib.hid hR
     have FW : Hid (Below g2 w wr ∧ Blk wr g2 23 (u8l key).toArray ∧ Blk wr g4 39 (u8l (List.replicate 16 0)).toArray) := Lib.hid ⟨F3.out.1.trans (gb_below RI.out.2.2 (by have := F3.out.2.2.2.1; have := G4.out; omega) (by have := F3.out.1.size; have := G2.out; omega)), F3.out.2.1.grown RI.out.2.2 (by have := F3.out.2.2.2.1; have := G4.out; simp; omega), F3.out.2.2.1.grown RI.out.2.2 (by have := F3.out.2.2.2.1; simp; omega)⟩
     clear pm hR
     obtain ⟨hv, hhv⟩ : ∃ q, L.flatten.length % 16 = q := ⟨_, rfl⟩
     have HV := Lib.hid hhv
     rw [hhv] at PM HR
     clear hhv
     go_upto_region 3 with (fail)
     refine wp_region_lit ?_
     refine zQ (.bool false) (run_lti Tryd.underlying3 rfl rfl rfl (by have := HK.out; rw [decide_eq_false_iff_not]; omega)) ?_
     by_cases h0 : 0 < hv
     ·have H0 := Lib.hid h0
      clear h0
      go_upto_region 7 with (fail)
      refine wp_region_lit ?_
      refine zP (.pointer (some ⟨g5, 21, none⟩)) ?_
      refine zQ (.int .i64 ((hv : Nat) : Int)) (run_load_one _ _ _ 3 _ _ rfl (g5) (21) rfl (PM.out.held) (by kernel_rfl)) ?_
      refine zQ (.bool true) (run_gti Tryd.underlying3 rfl rfl rfl (by have := H0.out; rw [decide_eq_true_eq]; omega)) ?_
      go_upto_region 8 with (fail)
      refine wp_region_lit ?_
      refine wpL_call 36 #[.pointer (some ⟨g5, 0, none⟩)] rfl (by kernel_rfl) (((take_part wr g5 r0 r1 _ hv R PM.out (by have := HV.out; omega) KR.out.1 KR.out.2)).mono fun e w5 ⟨he, q1, R2, q2⟩ => ⟨.tuple #[], he, ?_⟩)
      simp only [Act.put, List.setIfInBounds_toArray, List.set_cons_zero, List.set_cons_succ]
      have PM2 := Lib.hid q2
      have FX : Hid (Below g2 w w5 ∧ Blk w5 g2 23 (u8l key).toArray ∧ Blk w5 g4 39 (u8l (List.replicate 16 0)).toArray) := Lib.hid ⟨FW.out.1.trans (gb_below q1 (by have := F3.out.2.2.2.1; have := G4.out; omega) (by have := FW.out.1.size; have := G2.out; omega)), FW.out.2.1.grown q1 (by have := F3.out.2.2.2.1; have := G4.out; simp; omega), FW.out.2.2.grown q1 (by have := F3.out.2.2.2.1; simp; omega)⟩
      clear q1 q2 PM FW
      obtain ⟨h0', h1', h2', hb, l0, l1, l2, hA, _⟩ := PM2.out
      have HB := Lib.hid hb
      have HL := Lib.hid (And.intro l0 (And.intro l1 (And.intro l2 hA)))
      clear hb l0 l1 l2 hA
      have Y0 : Hid (Below g2 w w5.drew ∧ Blk w5.drew g2 23 (u8l key).toArray ∧ Blk w5.drew g4 39 (u8l (List.replicate 16 0)).toArray ∧ Blk w5.drew g5 88 (sumC h0' h1' h2' r0 r1 R2 0).toArray) := Lib.hid ⟨FX.out.1.drew, FX.out.2.1, FX.out.2.2, HB.out⟩
      go_upto_region 9 with (fail)
      refine region_any (by kernel_rfl) 6 rfl ?_
      refine zA 0 29 (.slice (some ⟨g2, 16, none⟩) 16 16) ?_
      refine zA 2 31 (.slice (some ⟨g2, 24, none⟩) 8 8) ?_
      refine wpAny_all (rs := [1]) (by kernel_rfl) (by simp) ?_
      intro i hi
      simp only [List.mem_cons, List.not_mem_nil, or_false] at hi
      subst hi
      refine op_call (o := ⟨some 30, _, _, _, _, _⟩) 34 #[.slice (some ⟨g2, 16, none⟩) 16 16] rfl rfl (by kernel_rfl) (((num_key' w5.drew g2 16 16 HKY.out Y0.out.2.1 (by omega) (by omega) KN2.out)).mono fun e v1 ⟨he, qv1⟩ => ⟨.int .u64 ((s0 : Nat) : Int), he, ?_⟩)
      simp only [Act.put, List.setIfInBounds_toArray, List.set_cons_zero, List.set_cons_succ]
      have Fv1 := Lib.hid (show Below g2 w v1 ∧ Blk v1 g2 23 (u8l key).toArray ∧ Blk v1 g4 39 (u8l (List.replicate 16 0)).toArray ∧ Blk v1 g5 88 (sumC h0' h1' h2' r0 r1 R2 0).toArray from ⟨Y0.out.1.trans (qv1.mono (by have h1 := Y0.out.1.size; have h2 := G2.out; omega)), Y0.out.2.1.below qv1, Y0.out.2.2.1.below qv1, Y0.out.2.2.2.below qv1⟩)
      clear qv1
      refine wpAny_all (rs := [3]) (by kernel_rfl) (by simp) ?_
      intro i hi
      simp only [List.mem_cons, List.not_mem_nil, or_false] at hi
      subst hi
      refine op_call (o := ⟨some 32, _, _, _, _, _⟩) 34 #[.slice (some ⟨g2, 24, none⟩) 8 8] rfl rfl (by kernel_rfl) (((num_key' v1 g2 24 8 HKY.out Fv1.out.2.1 (by omega) (by omega) KN3.out)).mono fun e v2 ⟨he, qv2⟩ => ⟨.int .u64 ((s1 : Nat) : Int), he, ?_⟩)
      simp only [Act.put, List.setIfInBounds_toArray, List.set_cons_zero, List.set_cons_succ]
      have Fv2 := Lib.hid (show Below g2 w v2 ∧ Blk v2 g2 23 (u8l key).toArray ∧ Blk v2 g4 39 (u8l (List.replicate 16 0)).toArray ∧ Blk v2 g5 88 (sumC h0' h1' h2' r0 r1 R2 0).toArray from ⟨Fv1.out.1.trans (qv2.mono (by have h1 := Fv1.out.1.size; have h2 := G2.out; omega)), Fv1.out.2.1.below qv2, Fv1.out.2.2.1.below qv2, Fv1.out.2.2.2.below qv2⟩)
      clear qv2
      refine wpAny_all (rs := [4]) (by kernel_rfl) (by simp) ?_
      intro i hi
      simp only [List.mem_cons, List.not_mem_nil, or_false] at hi
      subst hi
      refine op_call (o := ⟨some 33, _, _, _, _, _⟩) 37 #[.pointer (some ⟨g5, 0, none⟩), .int .u64 ((s0 : Nat) : Int), .int .u64 ((s1 : Nat) : Int)] rfl rfl (by kernel_rfl) (((end_any' v2 g5 h0' h1' h2' r0 r1 s0 s1 R2 0 Fv2.out.2.2.2 HL.out.1 HL.out.2.1 HL.out.2.2.1 KS.out.1 KS.out.2 (by rw [HL.out.2.2.2, ← code_part HV.out H0.out HR.out, ← EC.out]))).mono fun e v3 ⟨he, qv3⟩ => ⟨.agg (u8l (codeS key L.flatten)).toArray, he, ?_⟩)
      simp only [Act.put, List.setIfInBounds_toArray, List.set_cons_zero, List.set_cons_succ]
      have Fv3 := Lib.hid (show Below g2 w v3 ∧ Blk v3 g2 23 (u8l key).toArray ∧ Blk v3 g4 39 (u8l (List.replicate 16 0)).toArray ∧ Blk v3 g5 88 (sumC h0' h1' h2' r0 r1 R2 0).toArray from ⟨Fv2.out.1.trans (qv3.mono (by have h1 := Fv2.out.1.size; have h2 := G2.out; omega)), Fv2.out.2.1.below qv3, Fv2.out.2.2.1.below qv3, Fv2.out.2.2.2.below qv3⟩)
      clear qv3
      refine wpAny_of_idx [5] [⟨none, _, _, _, _, _⟩] _ _ _ (by rfl) (by kernel_rfl) ?_
      refine wpList_store_rowTo rfl 39 _ _ rfl rfl g4 (u8l (codeS key L.flatten)).toArray rfl (by kernel_rfl) 39 _ (Fv3.out.2.2.1) (by simp only [List.size_toArray, u8l_len, codeS_len]; kernel_rfl) (by simp [u8l, codeS_len]) (u8l_one _) ?_
      go_wp2_with fail
      refine bodyPost_ret (results_cell_row rfl _ _ g4 39 _ (0, 0) _ rfl (setRow_heap _ _ _ _ _ _ (Fv3.out.2.2.1)) Tryd.underlying39 rfl (by simp only [List.size_toArray, u8l_len, codeS_len]; kernel_rfl)) rfl ?_
      exact ⟨rfl, by rw [G2.out]; exact below_setRow Fv3.out.1 (by have := G4.out; omega) _⟩
     ·have H0 := Lib.hid h0
      clear h0
      go_upto_region 7 with (fail)
      refine wp_region_lit ?_
      refine zP (.pointer (some ⟨g5, 21, none⟩)) ?_
      refine zQ (.int .i64 ((hv : Nat) : Int)) (run_load_one _ _ _ 3 _ _ rfl (g5) (21) rfl (PM.out.held) (by kernel_rfl)) ?_
      refine zQ (.bool false) (run_gti Tryd.underlying3 rfl rfl rfl (by have := H0.out; rw [decide_eq_false_iff_not]; omega)) ?_
      obtain ⟨h0', h1', h2', hb, l0, l1, l2, hA, _⟩ := PM.out
      have HB := Lib.hid hb
      have HL := Lib.hid (And.intro l0 (And.intro l1 (And.intro l2 hA)))
      clear hb l0 l1 l2 hA
      have Y0 : Hid (Below g2 w wr.drew ∧ Blk wr.drew g2 23 (u8l key).toArray ∧ Blk wr.drew g4 39 (u8l (List.replicate 16 0)).toArray ∧ Blk wr.drew g5 88 (sumC h0' h1' h2' r0 r1 R hv).toArray) := Lib.hid ⟨FW.out.1.drew, FW.out.2.1, FW.out.2.2, HB.out⟩
      go_upto_region 9 with (fail)
      refine region_any (by kernel_rfl) 6 rfl ?_
      refine zA 0 29 (.slice (some ⟨g2, 16, none⟩) 16 16) ?_
      refine zA 2 31 (.slice (some ⟨g2, 24, none⟩) 8 8) ?_
      refine wpAny_all (rs := [1]) (by kernel_rfl) (by simp) ?_
      intro i hi
      simp only [List.mem_cons, List.not_mem_nil, or_false] at hi
      subst hi
      refine op_call (o := ⟨some 30, _, _, _, _, _⟩) 34 #[.slice (some ⟨g2, 16, none⟩) 16 16] rfl rfl (by kernel_rfl) (((num_key' wr.drew g2 16 16 HKY.out Y0.out.2.1 (by omega) (by omega) KN2.out)).mono fun e v1 ⟨he, qv1⟩ => ⟨.int .u64 ((s0 : Nat) : Int), he, ?_⟩)
      simp only [Act.put, List.setIfInBounds_toArray, List.set_cons_zero, List.set_cons_succ]
      have Fv1 := Lib.hid (show Below g2 w v1 ∧ Blk v1 g2 23 (u8l key).toArray ∧ Blk v1 g4 39 (u8l (List.replicate 16 0)).toArray ∧ Blk v1 g5 88 (sumC h0' h1' h2' r0 r1 R hv).toArray from ⟨Y0.out.1.trans (qv1.mono (by have h1 := Y0.out.1.size; have h2 := G2.out; omega)), Y0.out.2.1.below qv1, Y0.out.2.2.1.below qv1, Y0.out.2.2.2.below qv1⟩)
      clear qv1
      refine wpAny_all (rs := [3]) (by kernel_rfl) (by simp) ?_
      intro i hi
      simp only [List.mem_cons, List.not_mem_nil, or_false] at hi
      subst hi
      refine op_call (o := ⟨some 32, _, _, _, _, _⟩) 34 #[.slice (some ⟨g2, 24, none⟩) 8 8] rfl rfl (by kernel_rfl) (((num_key' v1 g2 24 8 HKY.out Fv1.out.2.1 (by omega) (by omega) KN3.out)).mono fun e v2 ⟨he, qv2⟩ => ⟨.int .u64 ((s1 : Nat) : Int), he, ?_⟩)
      simp only [Act.put, List.setIfInBounds_toArray, List.set_cons_zero, List.set_cons_succ]
      have Fv2 := Lib.hid (show Below g2 w v2 ∧ Blk v2 g2 23 (u8l key).toArray ∧ Blk v2 g4 39 (u8l (List.replicate 16 0)).toArray ∧ Blk v2 g5 88 (sumC h0' h1' h2' r0 r1 R hv).toArray from ⟨Fv1.out.1.trans (qv2.mono (by have h1 := Fv1.out.1.size; have h2 := G2.out; omega)), Fv1.out.2.1.below qv2, Fv1.out.2.2.1.below qv2, Fv1.out.2.2.2.below qv2⟩)
      clear qv2
      refine wpAny_all (rs := [4]) (by kernel_rfl) (by simp) ?_
      intro i hi
      simp only [List.mem_cons, List.not_mem_nil, or_false] at hi
      subst hi
      refine op_call (o := ⟨some 33, _, _, _, _, _⟩) 37 #[.pointer (some ⟨g5, 0, none⟩), .int .u64 ((s0 : Nat) : Int), .int .u64 ((s1 : Nat) : Int)] rfl rfl (by kernel_rfl) (((end_any' v2 g5 h0' h1' h2' r0 r1 s0 s1 R hv Fv2.out.2.2.2 HL.out.1 HL.out.2.1 HL.out.2.2.1 KS.out.1 KS.out.2 (by rw [HL.out.2.2.2, ← code_full HV.out H0.out, ← EC.out]))).mono fun e v3 ⟨he, qv3⟩ => ⟨.agg (u8l (codeS key L.flatten)).toArray, he, ?_⟩)
      simp only [Act.put, List.setIfInBounds_toArray, List.set_cons_zero, List.set_cons_succ]
      have Fv3 := Lib.hid (show Below g2 w v3 ∧ Blk v3 g2 23 (u8l key).toArray ∧ Blk v3 g4 39 (u8l (List.replicate 16 0)).toArray ∧ Blk v3 g5 88 (sumC h0' h1' h2' r0 r1 R hv).toArray from ⟨Fv2.out.1.trans (qv3.mono (by have h1 := Fv2.out.1.size; have h2 := G2.out; omega)), Fv2.out.2.1.below qv3, Fv2.out.2.2.1.below qv3, Fv2.out.2.2.2.below qv3⟩)
      clear qv3
      refine wpAny_of_idx [5] [⟨none, _, _, _, _, _⟩] _ _ _ (by rfl) (by kernel_rfl) ?_
      refine wpList_store_rowTo rfl 39 _ _ rfl rfl g4 (u8l (codeS key L.flatten)).toArray rfl (by kernel_rfl) 39 _ (Fv3.out.2.2.1) (by simp only [List.size_toArray, u8l_len, codeS_len]; kernel_rfl) (by simp [u8l, codeS_len]) (u8l_one _) ?_
      go_wp2_with fail
      refine bodyPost_ret (results_cell_row rfl _ _ g4 39 _ (0, 0) _ rfl (setRow_heap _ _ _ _ _ _ (Fv3.out.2.2.1)) Tryd.underlying39 rfl (by simp only [List.size_toArray, u8l_len, codeS_len]; kernel_rfl)) rfl ?_
      exact ⟨rfl, by rw [G2.out]; exact below_setRow Fv3.out.1 (by have := G4.out; omega) _⟩
 ·obtain ⟨z6, hz6⟩ : ∃ V, V = w2.drew.alloc (.cells (sumC 0 0 0 0 0 (List.replicate 16 0) 0).toArray 88) := ⟨_, rfl⟩
  obtain ⟨gz6, kz6⟩ : ∃ q, w2.drew.heap.size = q := ⟨_, rfl⟩
  have qz6 : Below w2.drew.heap.size w2.drew z6 := by rw [hz6]; exact (Below.refl _ _).alloc (Nat.le_refl _) _
  have bz6 : Blk z6 gz6 88 (sumC 0 0 0 0 0 (List.replicate 16 0) 0).toArray := by rw [hz6, ← kz6]; exact Blk.new _ _ _
  have Fz6 := Lib.hid (show Below g2 w z6 ∧ Blk z6 g2 23 (u8l key).toArray ∧ Blk z6 g4 39 (u8l (List.replicate 16 0)).toArray ∧ (Blk z6 gz6 88 (sumC 0 0 0 0 0 (List.replicate 16 0) 0).toArray ∧ g4 < gz6) from ⟨F0.out.1.trans (qz6.mono (by have h1 := F0.out.1.size; have h2 := G2.out; omega)), F0.out.2.1.below qz6, F0.out.2.2.below qz6, ⟨bz6, by have h1 := F0.out.2.2.lt; have h2 := kz6; omega⟩⟩)
  clear qz6 bz6
  refine op_valw (o := ⟨some 5, _, _, _, _, _⟩) (.pointer (some ⟨gz6, 0, none⟩)) z6 rfl rfl (by rw [hz6, ← kz6]; kernel_rfl) ?_
  simp only [Act.put, List.setIfInBounds_toArray, List.set_cons_zero, List.set_cons_succ]
  clear hz6 kz6
  refine wpAny_all (rs := [1]) (by kernel_rfl) (by simp) ?_
  intro i hi
  simp only [List.mem_cons, List.not_mem_nil, or_false] at hi
  subst hi
  refine op_call (o := ⟨some 9, _, _, _, _, _⟩) 34 #[.slice (some ⟨g2, 0, none⟩) 32 32] rfl rfl (by kernel_rfl) (((num_key' z6 g2 0 32 HKY.out Fz6.out.2.1 (by omega) (by omega) KN0.out)).mono fun e z7 ⟨he, qz7⟩ => ⟨.int .u64 ((n0 : Nat) : Int), he, ?_⟩)
  simp only [Act.put, List.setIfInBounds_toArray, List.set_cons_zero, List.set_cons_succ]
  have Fz7 := Lib.hid (show Below g2 w z7 ∧ Blk z7 g2 23 (u8l key).toArray ∧ Blk z7 g4 39 (u8l (List.replicate 16 0)).toArray ∧ (Blk z7 gz6 88 (sumC 0 0 0 0 0 (List.replicate 16 0) 0).toArray ∧ g4 < gz6) from ⟨Fz6.out.1.trans (qz7.mono (by have h1 := Fz6.out.1.size; have h2 := G2.out; omega)), Fz6.out.2.1.below qz7, Fz6.out.2.2.1.below qz7, ⟨Fz6.out.2.2.2.1.below qz7, Fz6.out.2.2.2.2⟩⟩)
  clear qz7
  refine zB 2 10 (.int .u64 ((r0 : Nat) : Int)) rfl (fun w => run_biti (.inr (.inl rfl)) Tryd.underlying82 rfl rfl rfl _ KA.out.1) ?_
  refine wpAny_all (rs := [4]) (by kernel_rfl) (by simp) ?_
  intro i hi
  simp only [List.mem_cons, List.not_mem_nil, or_false] at hi
  subst hi
  refine op_call (o := ⟨some 12, _, _, _, _, _⟩) 34 #[.slice (some ⟨g2, 8, none⟩) 24 24] rfl rfl (by kernel_rfl) (((num_key' z7 g2 8 24 HKY.out Fz7.out.2.1 (by omega) (by omega) KN1.out)).mono fun e z8 ⟨he, qz8⟩ => ⟨.int .u64 ((n1 : Nat) : Int), he, ?_⟩)
  simp only [Act.put, List.setIfInBounds_toArray, List.set_cons_zero, List.set_cons_succ]
  have Fz8 := Lib.hid (show Below g2 w z8 ∧ Blk z8 g2 23 (u8l key).toArray ∧ Blk z8 g4 39 (u8l (List.replicate 16 0)).toArray ∧ (Blk z8 gz6 88 (sumC 0 0 0 0 0 (List.replicate 16 0) 0).toArray ∧ g4 < gz6) from ⟨Fz7.out.1.trans (qz8.mono (by have h1 := Fz7.out.1.size; have h2 := G2.out; omega)), Fz7.out.2.1.below qz8, Fz7.out.2.2.1.below qz8, ⟨Fz7.out.2.2.2.1.below qz8, Fz7.out.2.2.2.2⟩⟩)
  clear qz8
  refine zB 5 13 (.int .u64 ((r1 : Nat) : Int)) rfl (fun w => run_biti (.inr (.inl rfl)) Tryd.underlying82 rfl rfl rfl _ KA.out.2) ?_
  refine zB 6 14 (.agg #[.int .u64 ((r0 : Nat) : Int), .int .u64 ((r1 : Nat) : Int)]) rfl (fun w => by kernel_rfl) ?_
  refine zB 7 15 (.agg (sumC 0 0 0 r0 r1 (List.replicate 16 0) 0).toArray) rfl (fun w => by kernel_rfl) ?_
  refine wpAny_of_idx [9] [⟨none, _, _, _, _, _⟩] _ _ _ (by rfl) (by kernel_rfl) ?_
  refine wpList_store_rowTo rfl 88 _ _ rfl rfl gz6 (sumC 0 0 0 r0 r1 (List.replicate 16 0) 0).toArray rfl rfl 88 _ (Fz8.out.2.2.2.1) (by kernel_rfl) (by simp [sumC, u8l]) (by simp [sumC, u8l, Value.oneCell']) ?_
  obtain ⟨w3, hw3⟩ : ∃ V, V = z8.setRow gz6 (sumC 0 0 0 r0 r1 (List.replicate 16 0) 0).toArray := ⟨_, rfl⟩
  rw [← hw3]
  have F3 : Hid (Below g2 w w3 ∧ Blk w3 g2 23 (u8l key).toArray ∧ Blk w3 g4 39 (u8l (List.replicate 16 0)).toArray ∧ g4 < gz6 ∧ PDig w3 gz6 r0 r1 []) := Lib.hid (by
   have hl : g4 < gz6 := Fz8.out.2.2.2.2
   rw [hw3]
   exact ⟨below_setRow Fz8.out.1 (by have := G4.out; omega) _, (setRow_other _ _ _ _ (by have := G4.out; omega)).trans Fz8.out.2.1, (setRow_other _ _ _ _ (by omega)).trans (Fz8.out.2.2.1), hl, pdig_nil (setRow_heap _ _ _ _ _ _ Fz8.out.2.2.2.1)⟩)
  clear hw3 Fz8
  generalize gz6 = g5 at F3 ⊢
  have HS : Hid (∀ X, w3.grownBy X (some g5) → PSl X a ln L) := Lib.hid (fun X hX => HP.out.below (by have h5 := F3.out.2.2.2.1; have h4 := G4.out; have h2 := G2.out; have q := gb_below hX (show g2 ≤ g5 by omega) (by have := F3.out.1.size; omega); rw [h2]; exact F3.out.1.trans q))
  have HNE : Hid (0 < ln → ∀ p : Addr, a = some p → p.block ≠ g5) := Lib.hid (fun h p hp => by obtain ⟨g, o, _, _, _, e, hc, _⟩ := HP.out.2.2 0 h; rw [hp] at e; cases e; have h1 := World.block_lt_of_cell? w _ hc; have h5 := F3.out.2.2.2.1; have h4 := G4.out; have h2 := G2.out; simp at h1 ⊢; omega)
  go_upto_region 2 with (fail)
  refine wp_region_lit ?_
  refine zP (.slice a ln lc) ?_
  refine zP (.int .i64 (ln : Int)) ?_
  refine zP (.int .i64 0) ?_
  go_wp2_with fail
  go_loopw [18] (fun s18 wr => ∃ k : Nat, s18 = .int .i64 (k : Int) ∧ Hid (k ≤ ln ∧ PDig wr g5 r0 r1 (L.take k).flatten ∧ w3.grownBy wr (some g5))) (fun s18 _ => ln - (intOf s18).toNat)
  case atStart => exact ⟨0, rfl, Lib.hid ⟨by omega, by simpa using F3.out.2.2.2.2, gb_refl _ _⟩⟩
  case round =>
   obtain ⟨k, rfl, RI⟩ := hrel
   by_cases hlt : k < ln
   ·have HK := Lib.hid hlt
    clear hlt
    obtain ⟨g, o, pa, pn, pc, ea, hc, hsl, hn⟩ := (HS.out wr RI.out.2.2).2.2 k HK.out
    have AE := Lib.hid ea
    have C0 := Lib.hid hc
    have PS := Lib.hid (parts_stay HS.out (HNE.out (by have := HK.out; omega)) RI.out.2.2 HK.out ea hc)
    clear ea hc hsl hn
    go_upto_region 3 with (fail)
    refine wp_region_lit ?_
    refine zQ (.bool true) (run_lti Tryd.underlying3 rfl rfl rfl (by have := HK.out; rw [decide_eq_true_eq]; omega)) ?_
    go_upto_region 4 with (fail)
    refine wp_region_lit ?_
    refine zQ (.pointer (some ⟨g, o + k, none⟩)) (run_idxp _ _ _ _ _ g o ln lc k rfl (by rw [AE.out]; rfl) rfl HK.out LL.out) ?_
    refine zQ (.slice pa pn pc) (run_load_one _ _ _ 24 _ _ rfl (g) (o + k) rfl (C0.out) (by kernel_rfl)) ?_
    refine zP (.slice pa pn pc) ?_
    go_upto_region 5 with (fail)
    refine wp_region_lit ?_
    refine zP (.slice pa pn pc) ?_
    refine wpL_call 35 #[.pointer (some ⟨g5, 0, none⟩), .slice pa pn pc] rfl (by kernel_rfl) (((write_any wr g5 r0 r1 (L.take k).flatten (L.getD k []) pa pn pc RI.out.2.1 PS.out KR.out.1 KR.out.2)).mono fun e w4 ⟨he, q1, q2⟩ => ⟨.tuple #[], he, ?_⟩)
    simp only [Act.put, List.setIfInBounds_toArray, List.set_cons_zero, List.set_cons_succ]
    have NX : Hid (k + 1 ≤ ln ∧ PDig w4 g5 r0 r1 (L.take (k + 1)).flatten ∧ w3.grownBy w4 (some g5)) := Lib.hid ⟨HK.out, by rw [← flat_take_succ LE.out HK.out]; exact q1, gb_trans RI.out.2.2 q2⟩
    clear q1 q2
    go_upto_region 6 with (fail)
    refine wp_region_lit ?_
    refine zQ (.int .i64 ((k + 1 : Nat) : Int)) (run_addi Tryd.underlying3 rfl rfl rfl _ (by have := HK.out; have := LL.out; unfold maxLen at this; have := LN.out; rw [wrap_in _ (by omega) (by omega)]; omega)) ?_
    refine zP (.int .i64 ((k + 1 : Nat) : Int)) ?_
    unfold wpList
    go_roundw
    case rel => first | exact ⟨_, rfl, NX⟩ | ((repeat apply Exists.intro); exact ⟨⟨_, rfl, NX⟩, rfl⟩)
    case measure => simp [intOf]; have := HK.out; omega
   ·have HK := Lib.hid hlt
    have EK : Hid (k = ln) := Lib.hid (by have := RI.out.1; omega)
    clear hlt
    obtain ⟨R, pm, hR⟩ := (show PDig wr g5 r0 r1 L.flatten by have h := RI.out.2.1; rw [EK.out, List.take_of_length_le (by rw [LE.out]; omega)] at h; exact h)
    have PM := Lib.hid pm
    have HR := Lib.hid hR
    have FW : Hid (Below g2 w wr ∧ Blk wr g2 23 (u8l key).toArray ∧ Blk wr g4 39 (u8l (List.replicate 16 0)).toArray) := Lib.hid ⟨F3.out.1.trans (gb_below RI.out.2.2 (by have := F3.out.2.2.2.1; have := G4.out; omega) (by have := F3.out.1.size; have := G2.out; omega)), F3.out.2.1.grown RI.out.2.2 (by have := F3.out.2.2.2.1; have := G4.out; simp; omega), F3.out.2.2.1.grown RI.out.2.2 (by have := F3.out.2.2.2.1; simp; omega)⟩
    clear pm hR
    obtain ⟨hv, hhv⟩ : ∃ q, L.flatten.length % 16 = q := ⟨_, rfl⟩
    have HV := Lib.hid hhv
    rw [hhv] at PM HR
    clear hhv
    go_upto_region 3 with (fail)
    refine wp_region_lit ?_
    refine zQ (.bool false) (run_lti Tryd.underlying3 rfl rfl rfl (by have := HK.out; rw [decide_eq_false_iff_not]; omega)) ?_
    by_cases h0 : 0 < hv
    ·have H0 := Lib.hid h0
     clear h0
     go_upto_region 7 with (fail)
     refine wp_region_lit ?_
     refine zP (.pointer (some ⟨g5, 21, none⟩)) ?_
     refine zQ (.int .i64 ((hv : Nat) : Int)) (run_load_one _ _ _ 3 _ _ rfl (g5) (21) rfl (PM.out.held) (by kernel_rfl)) ?_
     refine zQ (.bool true) (run_gti Tryd.underlying3 rfl rfl rfl (by have := H0.out; rw [decide_eq_true_eq]; omega)) ?_
     go_upto_region 8 with (fail)
     refine wp_region_lit ?_
     refine wpL_call 36 #[.pointer (some ⟨g5, 0, none⟩)] rfl (by kernel_rfl) (((take_part wr g5 r0 r1 _ hv R PM.out (by have := HV.out; omega) KR.out.1 KR.out.2)).mono fun e w5 ⟨he, q1, R2, q2⟩ => ⟨.tuple #[], he, ?_⟩)
     simp only [Act.put, List.setIfInBounds_toArray, List.set_cons_zero, List.set_cons_succ]
     have PM2 := Lib.hid q2
     have FX : Hid (Below g2 w w5 ∧ Blk w5 g2 23 (u8l key).toArray ∧ Blk w5 g4 39 (u8l (List.replicate 16 0)).toArray) := Lib.hid ⟨FW.out.1.trans (gb_below q1 (by have := F3.out.2.2.2.1; have := G4.out; omega) (by have := FW.out.1.size; have := G2.out; omega)), FW.out.2.1.grown q1 (by have := F3.out.2.2.2.1; have := G4.out; simp; omega), FW.out.2.2.grown q1 (by have := F3.out.2.2.2.1; simp; omega)⟩
     clear q1 q2 PM FW
     obtain ⟨h0', h1', h2', hb, l0, l1, l2, hA, _⟩ := PM2.out
     have HB := Lib.hid hb
     have HL := Lib.hid (And.intro l0 (And.intro l1 (And.intro l2 hA)))
     clear hb l0 l1 l2 hA
     have Y0 : Hid (Below g2 w w5.drew ∧ Blk w5.drew g2 23 (u8l key).toArray ∧ Blk w5.drew g4 39 (u8l (List.replicate 16 0)).toArray ∧ Blk w5.drew g5 88 (sumC h0' h1' h2' r0 r1 R2 0).toArray) := Lib.hid ⟨FX.out.1.drew, FX.out.2.1, FX.out.2.2, HB.out⟩
     go_upto_region 9 with (fail)
     refine region_any (by kernel_rfl) 6 rfl ?_
     refine zA 0 29 (.slice (some ⟨g2, 16, none⟩) 16 16) ?_
     refine zA 2 31 (.slice (some ⟨g2, 24, none⟩) 8 8) ?_
     refine wpAny_all (rs := [1]) (by kernel_rfl) (by simp) ?_
     intro i hi
     simp only [List.mem_cons, List.not_mem_nil, or_false] at hi
     subst hi
     refine op_call (o := ⟨some 30, _, _, _, _, _⟩) 34 #[.slice (some ⟨g2, 16, none⟩) 16 16] rfl rfl (by kernel_rfl) (((num_key' w5.drew g2 16 16 HKY.out Y0.out.2.1 (by omega) (by omega) KN2.out)).mono fun e v1 ⟨he, qv1⟩ => ⟨.int .u64 ((s0 : Nat) : Int), he, ?_⟩)
     simp only [Act.put, List.setIfInBounds_toArray, List.set_cons_zero, List.set_cons_succ]
     have Fv1 := Lib.hid (show Below g2 w v1 ∧ Blk v1 g2 23 (u8l key).toArray ∧ Blk v1 g4 39 (u8l (List.replicate 16 0)).toArray ∧ Blk v1 g5 88 (sumC h0' h1' h2' r0 r1 R2 0).toArray from ⟨Y0.out.1.trans (qv1.mono (by have h1 := Y0.out.1.size; have h2 := G2.out; omega)), Y0.out.2.1.below qv1, Y0.out.2.2.1.below qv1, Y0.out.2.2.2.below qv1⟩)
     clear qv1
     refine wpAny_all (rs := [3]) (by kernel_rfl) (by simp) ?_
     intro i hi
     simp only [List.mem_cons, List.not_mem_nil, or_false] at hi
     subst hi
     refine op_call (o := ⟨some 32, _, _, _, _, _⟩) 34 #[.slice (some ⟨g2, 24, none⟩) 8 8] rfl rfl (by kernel_rfl) (((num_key' v1 g2 24 8 HKY.out Fv1.out.2.1 (by omega) (by omega) KN3.out)).mono fun e v2 ⟨he, qv2⟩ => ⟨.int .u64 ((s1 : Nat) : Int), he, ?_⟩)
     simp only [Act.put, List.setIfInBounds_toArray, List.set_cons_zero, List.set_cons_succ]
     have Fv2 := Lib.hid (show Below g2 w v2 ∧ Blk v2 g2 23 (u8l key).toArray ∧ Blk v2 g4 39 (u8l (List.replicate 16 0)).toArray ∧ Blk v2 g5 88 (sumC h0' h1' h2' r0 r1 R2 0).toArray from ⟨Fv1.out.1.trans (qv2.mono (by have h1 := Fv1.out.1.size; have h2 := G2.out; omega)), Fv1.out.2.1.below qv2, Fv1.out.2.2.1.below qv2, Fv1.out.2.2.2.below qv2⟩)
     clear qv2
     refine wpAny_all (rs := [4]) (by kernel_rfl) (by simp) ?_
     intro i hi
     simp only [List.mem_cons, List.not_mem_nil, or_false] at hi
     subst hi
     refine op_call (o := ⟨some 33, _, _, _, _, _⟩) 37 #[.pointer (some ⟨g5, 0, none⟩), .int .u64 ((s0 : Nat) : Int), .int .u64 ((s1 : Nat) : Int)] rfl rfl (by kernel_rfl) (((end_any' v2 g5 h0' h1' h2' r0 r1 s0 s1 R2 0 Fv2.out.2.2.2 HL.out.1 HL.out.2.1 HL.out.2.2.1 KS.out.1 KS.out.2 (by rw [HL.out.2.2.2, ← code_part HV.out H0.out HR.out, ← EC.out]))).mono fun e v3 ⟨he, qv3⟩ => ⟨.agg (u8l (codeS key L.flatten)).toArray, he, ?_⟩)
     simp only [Act.put, List.setIfInBounds_toArray, List.set_cons_zero, List.set_cons_succ]
     have Fv3 := Lib.hid (show Below g2 w v3 ∧ Blk v3 g2 23 (u8l key).toArray ∧ Blk v3 g4 39 (u8l (List.replicate 16 0)).toArray ∧ Blk v3 g5 88 (sumC h0' h1' h2' r0 r1 R2 0).toArray from ⟨Fv2.out.1.trans (qv3.mono (by have h1 := Fv2.out.1.size; have h2 := G2.out; omega)), Fv2.out.2.1.below qv3, Fv2.out.2.2.1.below qv3, Fv2.out.2.2.2.below qv3⟩)
     clear qv3
     refine wpAny_of_idx [5] [⟨none, _, _, _, _, _⟩] _ _ _ (by rfl) (by kernel_rfl) ?_
     refine wpList_store_rowTo rfl 39 _ _ rfl rfl g4 (u8l (codeS key L.flatten)).toArray rfl (by kernel_rfl) 39 _ (Fv3.out.2.2.1) (by simp only [List.size_toArray, u8l_len, codeS_len]; kernel_rfl) (by simp [u8l, codeS_len]) (u8l_one _) ?_
     go_wp2_with fail
     refine bodyPost_ret (results_cell_row rfl _ _ g4 39 _ (0, 0) _ rfl (setRow_heap _ _ _ _ _ _ (Fv3.out.2.2.1)) Tryd.underlying39 rfl (by simp only [List.size_toArray, u8l_len, codeS_len]; kernel_rfl)) rfl ?_
     exact ⟨rfl, by rw [G2.out]; exact below_setRow Fv3.out.1 (by have := G4.out; omega) _⟩
    ·have H0 := Lib.hid h0
     clear h0
     go_upto_region 7 with (fail)
     refine wp_region_lit ?_
     refine zP (.pointer (some ⟨g5, 21, none⟩)) ?_
     refine zQ (.int .i64 ((hv : Nat) : Int)) (run_load_one _ _ _ 3 _ _ rfl (g5) (21) rfl (PM.out.held) (by kernel_rfl)) ?_
     refine zQ (.bool false) (run_gti Tryd.underlying3 rfl rfl rfl (by have := H0.out; rw [decide_eq_false_iff_not]; omega)) ?_
     obtain ⟨h0', h1', h2', hb, l0, l1, l2, hA, _⟩ := PM.out
     have HB := Lib.hid hb
     have HL := Lib.hid (And.intro l0 (And.intro l1 (And.intro l2 hA)))
     clear hb l0 l1 l2 hA
     have Y0 : Hid (Below g2 w wr.drew ∧ Blk wr.drew g2 23 (u8l key).toArray ∧ Blk wr.drew g4 39 (u8l (List.replicate 16 0)).toArray ∧ Blk wr.drew g5 88 (sumC h0' h1' h2' r0 r1 R hv).toArray) := Lib.hid ⟨FW.out.1.drew, FW.out.2.1, FW.out.2.2, HB.out⟩
     go_upto_region 9 with (fail)
     refine region_any (by kernel_rfl) 6 rfl ?_
     refine zA 0 29 (.slice (some ⟨g2, 16, none⟩) 16 16) ?_
     refine zA 2 31 (.slice (some ⟨g2, 24, none⟩) 8 8) ?_
     refine wpAny_all (rs := [1]) (by kernel_rfl) (by simp) ?_
     intro i hi
     simp only [List.mem_cons, List.not_mem_nil, or_false] at hi
     subst hi
     refine op_call (o := ⟨some 30, _, _, _, _, _⟩) 34 #[.slice (some ⟨g2, 16, none⟩) 16 16] rfl rfl (by kernel_rfl) (((num_key' wr.drew g2 16 16 HKY.out Y0.out.2.1 (by omega) (by omega) KN2.out)).mono fun e v1 ⟨he, qv1⟩ => ⟨.int .u64 ((s0 : Nat) : Int), he, ?_⟩)
     simp only [Act.put, List.setIfInBounds_toArray, List.set_cons_zero, List.set_cons_succ]
     have Fv1 := Lib.hid (show Below g2 w v1 ∧ Blk v1 g2 23 (u8l key).toArray ∧ Blk v1 g4 39 (u8l (List.replicate 16 0)).toArray ∧ Blk v1 g5 88 (sumC h0' h1' h2' r0 r1 R hv).toArray from ⟨Y0.out.1.trans (qv1.mono (by have h1 := Y0.out.1.size; have h2 := G2.out; omega)), Y0.out.2.1.below qv1, Y0.out.2.2.1.below qv1, Y0.out.2.2.2.below qv1⟩)
     clear qv1
     refine wpAny_all (rs := [3]) (by kernel_rfl) (by simp) ?_
     intro i hi
     simp only [List.mem_cons, List.not_mem_nil, or_false] at hi
     subst hi
     refine op_call (o := ⟨some 32, _, _, _, _, _⟩) 34 #[.slice (some ⟨g2, 24, none⟩) 8 8] rfl rfl (by kernel_rfl) (((num_key' v1 g2 24 8 HKY.out Fv1.out.2.1 (by omega) (by omega) KN3.out)).mono fun e v2 ⟨he, qv2⟩ => ⟨.int .u64 ((s1 : Nat) : Int), he, ?_⟩)
     simp only [Act.put, List.setIfInBounds_toArray, List.set_cons_zero, List.set_cons_succ]
     have Fv2 := Lib.hid (show Below g2 w v2 ∧ Blk v2 g2 23 (u8l key).toArray ∧ Blk v2 g4 39 (u8l (List.replicate 16 0)).toArray ∧ Blk v2 g5 88 (sumC h0' h1' h2' r0 r1 R hv).toArray from ⟨Fv1.out.1.trans (qv2.mono (by have h1 := Fv1.out.1.size; have h2 := G2.out; omega)), Fv1.out.2.1.below qv2, Fv1.out.2.2.1.below qv2, Fv1.out.2.2.2.below qv2⟩)
     clear qv2
     refine wpAny_all (rs := [4]) (by kernel_rfl) (by simp) ?_
     intro i hi
     simp only [List.mem_cons, List.not_mem_nil, or_false] at hi
     subst hi
     refine op_call (o := ⟨some 33, _, _, _, _, _⟩) 37 #[.pointer (some ⟨g5, 0, none⟩), .int .u64 ((s0 : Nat) : Int), .int .u64 ((s1 : Nat) : Int)] rfl rfl (by kernel_rfl) (((end_any' v2 g5 h0' h1' h2' r0 r1 s0 s1 R hv Fv2.out.2.2.2 HL.out.1 HL.out.2.1 HL.out.2.2.1 KS.out.1 KS.out.2 (by rw [HL.out.2.2.2, ← code_full HV.out H0.out, ← EC.out]))).mono fun e v3 ⟨he, qv3⟩ => ⟨.agg (u8l (codeS key L.flatten)).toArray, he, ?_⟩)
     simp only [Act.put, List.setIfInBounds_toArray, List.set_cons_zero, List.set_cons_succ]
     have Fv3 := Lib.hid (show Below g2 w v3 ∧ Blk v3 g2 23 (u8l key).toArray ∧ Blk v3 g4 39 (u8l (List.replicate 16 0)).toArray ∧ Blk v3 g5 88 (sumC h0' h1' h2' r0 r1 R hv).toArray from ⟨Fv2.out.1.trans (qv3.mono (by have h1 := Fv2.out.1.size; have h2 := G2.out; omega)), Fv2.out.2.1.below qv3, Fv2.out.2.2.1.below qv3, Fv2.out.2.2.2.below qv3⟩)
     clear qv3
     refine wpAny_of_idx [5] [⟨none, _, _, _, _, _⟩] _ _ _ (by rfl) (by kernel_rfl) ?_
     refine wpList_store_rowTo rfl 39 _ _ rfl rfl g4 (u8l (codeS key L.flatten)).toArray rfl (by kernel_rfl) 39 _ (Fv3.out.2.2.1) (by simp only [List.size_toArray, u8l_len, codeS_len]; kernel_rfl) (by simp [u8l, codeS_len]) (u8l_one _) ?_
     go_wp2_with fail
     refine bodyPost_ret (results_cell_row rfl _ _ g4 39 _ (0, 0) _ rfl (setRow_heap _ _ _ _ _ _ (Fv3.out.2.2.1)) Tryd.underlying39 rfl (by simp only [List.size_toArray, u8l_len, codeS_len]; kernel_rfl)) rfl ?_
     exact ⟨rfl, by rw [G2.out]; exact below_setRow Fv3.out.1 (by have := G4.out; omega) _⟩
end Go.Proofs.YtlbfohpkngmaoaaDoor.Po
