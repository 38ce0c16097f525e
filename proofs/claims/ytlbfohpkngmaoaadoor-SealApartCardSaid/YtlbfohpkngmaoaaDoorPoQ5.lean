/- What is written, into a sum under way. -/
import Derived.Test.YtlbfohpkngmaoaaDoorPoQ4
namespace Go.Proofs.YtlbfohpkngmaoaaDoor.Po
open Go Go.RowKit
theorem PMid.drew {w : World} {b r0 r1 A hl : Nat} {R : List Int} (h : PMid w b r0 r1 A R hl) : PMid w.drew b r0 r1 A R hl := h
theorem PMid.held {w : World} {b r0 r1 A hl : Nat} {R : List Int} (h : PMid w b r0 r1 A R hl) : w.cell? ⟨b, 21, none⟩ = some (.int .i64 ((hl : Nat) : Int)) := by
 obtain ⟨h0, h1, h2, hb, _, _, _, _, hR⟩ := h
 exact sum_c21 hR.1 hb
theorem PMid.free {w : World} {b r0 r1 A hl : Nat} {R : List Int} (h : PMid w b r0 r1 A R hl) : w.frozen? ⟨b, 21, none⟩ = false := by
 obtain ⟨h0, h1, h2, hb, _⟩ := h
 exact hb.free _
theorem PMid.lt {w : World} {b r0 r1 A hl : Nat} {R : List Int} (h : PMid w b r0 r1 A R hl) : b < w.heap.size := by
 obtain ⟨h0, h1, h2, hb, _⟩ := h
 exact hb.lt
theorem PMid.ok {w : World} {b r0 r1 A hl : Nat} {R : List Int} (h : PMid w b r0 r1 A R hl) : R.length = 16 ∧ ∀ x ∈ R, 0 ≤ x ∧ x ≤ 255 := by
 obtain ⟨h0, h1, h2, hb, _, _, _, _, hR⟩ := h
 exact hR
theorem PMid.setHeld {w : World} {b r0 r1 A hl : Nat} {R : List Int} (h : PMid w b r0 r1 A R hl) (x : Nat) : PMid (w.setCell ⟨b, 21, none⟩ (.int .i64 ((x : Nat) : Int))) b r0 r1 A R x := by
 obtain ⟨h0, h1, h2, hb, l0, l1, l2, hA, hR⟩ := h
 exact ⟨h0, h1, h2, sum_s21 hR.1 hb x, l0, l1, l2, hA, hR⟩
theorem PMid.below {w w' : World} {b r0 r1 A hl : Nat} {R : List Int} (h : PMid w b r0 r1 A R hl) (hb : Below w.heap.size w w') : PMid w' b r0 r1 A R hl := by
 obtain ⟨h0, h1, h2, hb', l⟩ := h
 exact ⟨h0, h1, h2, hb'.below hb, l⟩
theorem sumC_copy {h0 h1 h2 r0 r1 hl o k : Nat} {R : List Int} (xs : List Int) (hR : R.length = 16) (hk : xs.length = k) (ho : o + k ≤ 16) : (sumC h0 h1 h2 r0 r1 R hl).take (5 + o) ++ u8l xs ++ (sumC h0 h1 h2 r0 r1 R hl).drop (5 + o + k) = sumC h0 h1 h2 r0 r1 (R.take o ++ xs ++ R.drop (o + k)) hl := by
 rw [show 5 + o = o + 5 by omega, show o + 5 + k = (o + k) + 5 by omega]
 simp only [sumC, List.take_succ_cons, List.drop_succ_cons]
 rw [List.take_append_of_le_length (by rw [u8l_len, hR]; omega), List.drop_append_of_le_length (by rw [u8l_len, hR]; omega)]
 simp [u8l, List.map_take, List.map_drop]
theorem PMid.copyAt {w : World} {b r0 r1 A hv n c k : Nat} {R xs : List Int} {a : Option Addr} (h : PMid w b r0 r1 A R hv) (hs : Sl w a n c xs) (hv16 : hv < 16) (hk : Nat.min n (16 - hv) = k) :
  ∃ w', (Builtin.copy_ #[24, 24] 3 #[.slice (some ⟨b, 5 + hv, none⟩) (16 - hv) (16 - hv), .slice a n c]).run Tryd.prog w = .ok (.int .i64 ((k : Nat) : Int)) w' ∧ PMid w' b r0 r1 A (R.take hv ++ xs.take k ++ R.drop (hv + k)) hv ∧ w.grownBy w' (some b) := by
 obtain ⟨h0, h1, h2, hb, l0, l1, l2, hA, hR⟩ := h
 have hk2 : k = min n (16 - hv) := hk.symm
 obtain ⟨w', r1', r2, r3⟩ := copy_blk w b 88 (5 + hv) (16 - hv) (16 - hv) _ a n c xs hb hs.1 (by simp [sumC, u8l_len, hR.1]; omega) k hk.symm
 have hx : (xs.take k).length = k := by rw [List.length_take, hs.1.1]; omega
 refine ⟨w', r1', ⟨h0, h1, h2, ?_, l0, l1, l2, hA, ?_, ?_⟩, r3⟩
 ·rw [← sumC_copy (xs.take k) hR.1 hx (by omega)]; exact r2
 ·rw [List.length_append, List.length_append, hx, List.length_take, List.length_drop, hR.1]; omega
 ·intro x hx
  rcases List.mem_append.1 hx with hx | hx
  ·rcases List.mem_append.1 hx with hx | hx
   ·exact hR.2 x (List.mem_of_mem_take hx)
   ·exact hs.1.2.2.1 x (List.mem_of_mem_take hx)
  ·exact hR.2 x (List.mem_of_mem_drop hx)
def PDig (w : World) (b r0 r1 : Nat) (t : List Int) : Prop := ∃ R, PMid w b r0 r1 (pacc (r0 + 18446744073709551616 * r1) t (t.length / 16)) R (t.length % 16) ∧ R.take (t.length % 16) = t.drop (16 * (t.length / 16))
def PInv (w : World) (b r0 r1 : Nat) (t xs : List Int) (n q : Nat) (ap : Option Addr) (np cp : Nat) (wr : World) : Prop :=
 q ≤ n ∧ xs.length = n ∧ np = n - q ∧ PDig wr b r0 r1 (t ++ xs.take q) ∧ w.grownBy wr (some b) ∧ ∀ X, w.grownBy X (some b) → Sl X ap np cp (xs.drop q)
theorem PInv.mid {w wr : World} {b r0 r1 n q np cp hv k : Nat} {t xs : List Int} {ap : Option Addr} (h : PInv w b r0 r1 t xs n q ap np cp wr) (hhv : (t.length + q) % 16 = hv) (hkk : Nat.min np (16 - hv) = k) (h0 : 0 < np) :
  ∃ A R, (PMid wr b r0 r1 A R hv ∧ A = pacc (r0 + 18446744073709551616 * r1) (t ++ xs.take q) ((t.length + q) / 16) ∧ R.take hv = (t ++ xs.take q).drop (16 * ((t.length + q) / 16))) ∧ (hv < 16 ∧ (0 < k ∧ hv + k ≤ 16) ∧ k ≤ np ∧ (np ≤ cp ∧ (cp < 9223372036854775808 ∧ (0 < cp → ∀ p, ap = some p → p.spot = none))) ∧ w.grownBy wr (some b) ∧ (∀ X, wr.grownBy X (some b) → Sl X ap np cp (xs.drop q))) := by
 obtain ⟨a1, a2, a3, ⟨R, a4, a5⟩, a6, a7⟩ := h
 have hl : (t ++ xs.take q).length = t.length + q := by rw [List.length_append, List.length_take]; omega
 rw [hl, hhv] at a4 a5
 have hs := a7 w (gb_refl _ _)
 have hk2 : k = min np (16 - hv) := hkk.symm
 exact ⟨_, R, ⟨a4, rfl, a5⟩, by omega, by omega, by omega, hs.2, a6, fun X hX => a7 X (gb_trans a6 hX)⟩
theorem text_step {t xs : List Int} {n q k : Nat} (hl : xs.length = n) (hk : q + k ≤ n) : t ++ xs.take (q + k) = (t ++ xs.take q) ++ (xs.drop q).take k := by
 rw [List.append_assoc, List.take_add]
theorem sl_step {w : World} {b q np cp k : Nat} {xs : List Int} {ap : Option Addr} (h : ∀ X, w.grownBy X (some b) → Sl X ap np cp (xs.drop q)) (hk : k ≤ np) : ∀ X, w.grownBy X (some b) → Sl X (dropA ap cp k) (np - k) (cp - k) (xs.drop (q + k)) := by
 intro X hX
 rw [← List.drop_drop]
 exact (h X hX).drop k hk
theorem PInv.stepShort {w wr w3 : World} {b r0 r1 n q np cp hv k A : Nat} {t xs R : List Int} {ap : Option Addr} (h : PInv w b r0 r1 t xs n q ap np cp wr) (hhv : (t.length + q) % 16 = hv) (hkk : Nat.min np (16 - hv) = k)
  (hq : hv < 16 ∧ (0 < k ∧ hv + k ≤ 16) ∧ k ≤ np ∧ (np ≤ cp ∧ (cp < 9223372036854775808 ∧ (0 < cp → ∀ p, ap = some p → p.spot = none))) ∧ w.grownBy wr (some b) ∧ (∀ X, wr.grownBy X (some b) → Sl X ap np cp (xs.drop q))) (h16 : ¬ hv + k = 16)
  (pm : PMid wr b r0 r1 A R hv) (p3 : PMid w3 b r0 r1 A (R.take hv ++ (xs.drop q).take k ++ R.drop (hv + k)) (hv + k)) (g3 : w.grownBy w3 (some b))
  (hA : A = pacc (r0 + 18446744073709551616 * r1) (t ++ xs.take q) ((t.length + q) / 16)) (hR : R.take hv = (t ++ xs.take q).drop (16 * ((t.length + q) / 16))) : PInv w b r0 r1 t xs n (q + k) (dropA ap cp k) (np - k) (cp - k) w3 := by
 obtain ⟨a1, a2, a3, _, a6, a7⟩ := h
 have hl : (t ++ xs.take q).length = t.length + q := by rw [List.length_append, List.length_take]; omega
 have hz : ((xs.drop q).take k).length = k := by rw [List.length_take, List.length_drop]; omega
 refine ⟨by omega, a2, by omega, ⟨R.take hv ++ (xs.drop q).take k ++ R.drop (hv + k), ?_, ?_⟩, g3, sl_step a7 hq.2.2.1⟩
 ·rw [text_step a2 (by omega), List.length_append, hl, hz, show (t.length + q + k) % 16 = hv + k by omega, show (t.length + q + k) / 16 = (t.length + q) / 16 by omega, pacc_append _ _ _ _ (by rw [hl]; omega), ← hA]
  exact p3
 ·have hRl : (R.take hv).length = hv := by rw [List.length_take, pm.ok.1]; omega
  rw [text_step a2 (by omega), List.length_append, hl, hz, show (t.length + q + k) % 16 = hv + k by omega, show (t.length + q + k) / 16 = (t.length + q) / 16 by omega, List.drop_append_of_le_length (by rw [hl]; omega), ← hR, List.take_append_of_le_length (by rw [List.length_append, hRl, hz]; omega), List.take_of_length_le (by rw [List.length_append, hRl, hz]; omega)]
theorem PInv.stepFull {w wr w4 : World} {b r0 r1 n q np cp hv k A : Nat} {t xs R R' : List Int} {ap : Option Addr} (h : PInv w b r0 r1 t xs n q ap np cp wr) (hhv : (t.length + q) % 16 = hv) (hkk : Nat.min np (16 - hv) = k)
  (hq : hv < 16 ∧ (0 < k ∧ hv + k ≤ 16) ∧ k ≤ np ∧ (np ≤ cp ∧ (cp < 9223372036854775808 ∧ (0 < cp → ∀ p, ap = some p → p.spot = none))) ∧ w.grownBy wr (some b) ∧ (∀ X, wr.grownBy X (some b) → Sl X ap np cp (xs.drop q))) (h16 : hv + k = 16)
  (pm : PMid wr b r0 r1 A R hv) (p4 : PMid w4 b r0 r1 ((A + vb ((R.take hv ++ (xs.drop q).take k ++ R.drop (hv + k)).take (hv + k) ++ [1])) * (r0 + 18446744073709551616 * r1) % p130) R' 0) (g4 : w.grownBy w4 (some b))
  (hA : A = pacc (r0 + 18446744073709551616 * r1) (t ++ xs.take q) ((t.length + q) / 16)) (hR : R.take hv = (t ++ xs.take q).drop (16 * ((t.length + q) / 16))) : PInv w b r0 r1 t xs n (q + k) (dropA ap cp k) (np - k) (cp - k) w4 := by
 obtain ⟨a1, a2, a3, _, a6, a7⟩ := h
 have hl : (t ++ xs.take q).length = t.length + q := by rw [List.length_append, List.length_take]; omega
 have hz : ((xs.drop q).take k).length = k := by rw [List.length_take, List.length_drop]; omega
 have hRl : (R.take hv).length = hv := by rw [List.length_take, pm.ok.1]; omega
 refine ⟨by omega, a2, by omega, ⟨R', ?_, ?_⟩, g4, sl_step a7 hq.2.2.1⟩
 ·rw [text_step a2 (by omega), List.length_append, hl, hz, show (t.length + q + k) % 16 = 0 by omega, show (t.length + q + k) / 16 = (t.length + q) / 16 + 1 by omega, pacc, pacc_append _ _ _ _ (by rw [hl]; omega), ← hA]
  have e : pblk ((t ++ xs.take q) ++ (xs.drop q).take k) ((t.length + q) / 16) = vb ((R.take hv ++ (xs.drop q).take k ++ R.drop (hv + k)).take (hv + k) ++ [1]) := by
   unfold pblk
   rw [List.drop_append_of_le_length (by rw [hl]; omega), ← hR, h16, List.take_append_of_le_length (l₁ := R.take hv ++ (xs.drop q).take k) (l₂ := R.drop 16) (by rw [List.length_append, hRl, hz]; omega)]
  rw [e]
  exact p4
 ·rw [text_step a2 (by omega), List.length_append, hl, hz, show (t.length + q + k) % 16 = 0 by omega, List.take_zero, List.drop_of_length_le (by rw [List.length_append, hl, hz]; omega)]
theorem PInv.done {w wr : World} {b r0 r1 n q np cp : Nat} {t xs : List Int} {ap : Option Addr} (h : PInv w b r0 r1 t xs n q ap np cp wr) (h0 : np = 0) : PDig wr b r0 r1 (t ++ xs) ∧ w.grownBy wr (some b) := by
 obtain ⟨a1, a2, a3, a4, a5, a6⟩ := h
 rw [List.take_of_length_le (by omega)] at a4
 exact ⟨a4, a5⟩
attribute [local irreducible] wpList
set_option maxRecDepth 100000 in
set_option maxHeartbeats 4000000 in
theorem write_any (w : World) (b r0 r1 : Nat) (t xs : List Int) (a : Option Addr) (n c : Nat) (h : PDig w b r0 r1 t) (hs : ∀ X, w.grownBy X (some b) → Sl X a n c xs) (k0 : r0 < 1152921504606846976) (k1 : r1 < 1152921504606846976) :
  Calls Tryd.prog 35 #[.pointer (some ⟨b, 0, none⟩), .slice a n c] w fun e w' => e = .returned (.tuple #[]) ∧ PDig w' b r0 r1 (t ++ xs) ∧ w.grownBy w' (some b) := by
 have H0 : Hid (PInv w b r0 r1 t xs n 0 a n c w) := Lib.hid ⟨by omega, (hs w (gb_refl _ _)).1.1, by omega, by simpa using h, gb_refl _ _, by simpa using hs⟩
 have KR := Lib.hid (And.intro k0 k1)
 clear h hs k0 k1
 go_enter Tryd.func35, Tryd.ntmps35
 go_wp2_with fail
 go_loopw [1] (fun s1 wr => ∃ (q np cp : Nat) (ap : Option Addr), s1 = .slice ap np cp ∧ Hid (PInv w b r0 r1 t xs n q ap np cp wr)) (fun s1 _ => slLen s1)
 case atStart => exact ⟨0, n, c, a, rfl, H0⟩
 case round =>
  obtain ⟨q, np, cp, ap, rfl, RI⟩ := hrel
  by_cases hlt : 0 < np
  ·have HK := Lib.hid hlt
   clear hlt
   obtain ⟨hv, hhv⟩ : ∃ q', (t.length + q) % 16 = q' := ⟨_, rfl⟩
   obtain ⟨k, hkk⟩ : ∃ q', Nat.min np (16 - hv) = q' := ⟨_, rfl⟩
   obtain ⟨A, R, ⟨pm, ea, er⟩, hk0⟩ := RI.out.mid hhv hkk HK.out
   have PM := Lib.hid pm
   have HQ := Lib.hid hk0
   have EA := Lib.hid (And.intro ea er)
   have HH := Lib.hid (And.intro hhv hkk)
   clear pm ea er hk0 hhv hkk
   go_upto_region 0 with (fail)
   refine wp_region_lit ?_
   refine zP (.slice ap np cp) ?_
   refine zP (.int .i64 (np : Int)) ?_
   refine zQ (.bool true) (run_gti Tryd.underlying3 rfl rfl rfl (by have := HK.out; rw [decide_eq_true_eq]; omega)) ?_
   have PD : Hid (PMid wr.drew b r0 r1 A R hv) := Lib.hid PM.out.drew
   go_upto_region 1 with (fail)
   refine region_any (by kernel_rfl) 11 rfl ?_
   refine zA 0 8 (.pointer (some ⟨b, 0, none⟩)) ?_
   refine zA 1 9 (.pointer (some ⟨b, 0, none⟩)) ?_
   refine zA 2 10 (.pointer (some ⟨b, 5, none⟩)) ?_
   refine zA 3 11 (.pointer (some ⟨b, 0, none⟩)) ?_
   refine zA 4 12 (.pointer (some ⟨b, 0, none⟩)) ?_
   refine zA 5 13 (.pointer (some ⟨b, 21, none⟩)) ?_
   refine zA 8 16 (.slice ap np cp) ?_
   refine wpAny_all (rs := [6]) (by kernel_rfl) (by simp) ?_
   intro i hi
   simp only [List.mem_cons, List.not_mem_nil, or_false] at hi
   subst hi
   refine op_val (o := ⟨some 14, _, _, _, _, _⟩) (.int .i64 ((hv : Nat) : Int)) rfl rfl (run_load_one _ _ _ 3 _ _ rfl b 21 rfl (PD.out.held) (by kernel_rfl)) ?_
   simp only [Act.put, List.setIfInBounds_toArray, List.set_cons_zero, List.set_cons_succ]
   refine zB 7 15 (.slice (some ⟨b, 5 + hv, none⟩) (16 - hv) (16 - hv)) rfl (fun w => run_sl26 _ _ _ _ _ b 5 hv rfl rfl rfl HQ.out.1) ?_
   refine wpAny_of_idx [9, 10] [⟨some 17, _, _, _, _, _⟩, ⟨some 4, _, _, _, _, _⟩] _ _ _ (by rfl) (by kernel_rfl) ?_
   obtain ⟨w2, r1', r2', r3'⟩ := PD.out.copyAt (HQ.out.2.2.2.2.2 wr.drew (gb_drew (gb_refl _ _))) HQ.out.1 HH.out.2
   have C2 := Lib.hid r1'
   have P2 : Hid (PMid w2 b r0 r1 A (R.take hv ++ (xs.drop q).take k ++ R.drop (hv + k)) hv) := Lib.hid r2'
   have G2 : Hid (w.grownBy w2 (some b)) := Lib.hid (gb_trans (gb_drew HQ.out.2.2.2.2.1) r3')
   clear r1' r2' r3'
   refine zV (.int .i64 ((k : Nat) : Int)) w2 (run_cpy _ _ _ _ _ _ _ _ _ rfl rfl rfl rfl C2.out) ?_
   clear C2
   refine zP (.int .i64 ((k : Nat) : Int)) ?_
   go_upto_region 2 with (fail)
   refine wp_region_lit ?_
   refine zP (.pointer (some ⟨b, 0, none⟩)) ?_
   refine zP (.pointer (some ⟨b, 0, none⟩)) ?_
   refine zP (.pointer (some ⟨b, 21, none⟩)) ?_
   refine zQ (.int .i64 ((hv : Nat) : Int)) (run_load_one _ _ _ 3 _ _ rfl (b) (21) rfl (P2.out.held) (by kernel_rfl)) ?_
   refine zP (.int .i64 ((k : Nat) : Int)) ?_
   refine zQ (.int .i64 ((hv + k : Nat) : Int)) (run_addi Tryd.underlying3 rfl rfl rfl _ (by have := HQ.out.1; have := HQ.out.2.1; rw [wrap_in _ (by omega) (by omega)]; omega)) ?_
   refine zP (.pointer (some ⟨b, 0, none⟩)) ?_
   refine zP (.pointer (some ⟨b, 21, none⟩)) ?_
   refine wpL_store_one rfl rfl (b) (21) rfl (.int .i64 ((hv + k : Nat) : Int)) rfl rfl size3 (by rw [P2.out.held]; rfl) (P2.out.free) ?_
   simp only [Act.put, List.setIfInBounds_toArray, List.set_cons_zero, List.set_cons_succ]
   obtain ⟨w3, hw3⟩ : ∃ V, V = w2.setCell ⟨b, 21, none⟩ (.int .i64 ((hv + k : Nat) : Int)) := ⟨_, rfl⟩
   rw [← hw3]
   have P3 : Hid (PMid w3 b r0 r1 A (R.take hv ++ (xs.drop q).take k ++ R.drop (hv + k)) (hv + k)) := Lib.hid (by rw [hw3]; exact P2.out.setHeld _)
   have G3 : Hid (w.grownBy w3 (some b)) := Lib.hid (by rw [hw3]; exact gb_set G2.out _ _)
   clear hw3 P2 G2
   go_upto_region 3 with (fail)
   refine wp_region_lit ?_
   refine zP (.slice ap np cp) ?_
   refine zP (.int .i64 ((k : Nat) : Int)) ?_
   refine zQ (.slice (dropA ap cp k) (np - k) (cp - k)) (run_slicep' _ _ _ _ _ ap np cp k (np - k) rfl rfl rfl HQ.out.2.2.1 HQ.out.2.2.2.1.1 HQ.out.2.2.2.1.2 rfl) ?_
   refine zP (.slice (dropA ap cp k) (np - k) (cp - k)) ?_
   by_cases h16 : hv + k = 16
   ·have H16 := Lib.hid h16
    clear h16
    go_upto_region 4 with (fail)
    refine wp_region_lit ?_
    refine zP (.pointer (some ⟨b, 0, none⟩)) ?_
    refine zP (.pointer (some ⟨b, 0, none⟩)) ?_
    refine zP (.pointer (some ⟨b, 21, none⟩)) ?_
    refine zQ (.int .i64 ((hv + k : Nat) : Int)) (run_load_one _ _ _ 3 _ _ rfl (b) (21) rfl (P3.out.held) (by kernel_rfl)) ?_
    refine zQ (.bool true) (run_eqi Tryd.underlying3 rfl rfl rfl (by have := H16.out; rw [decide_eq_true_eq]; omega)) ?_
    go_upto_region 5 with (fail)
    refine wp_region_lit ?_
    refine zP (.pointer (some ⟨b, 0, none⟩)) ?_
    refine wpL_call 36 #[.pointer (some ⟨b, 0, none⟩)] rfl (by kernel_rfl) (((take_full w3 b r0 r1 A (hv + k) _ P3.out H16.out KR.out.1 KR.out.2)).mono fun e w4 ⟨he, q1, R', q2⟩ => ⟨.tuple #[], he, ?_⟩)
    simp only [Act.put, List.setIfInBounds_toArray, List.set_cons_zero, List.set_cons_succ]
    have NX : Hid (PInv w b r0 r1 t xs n (q + k) (dropA ap cp k) (np - k) (cp - k) w4) := Lib.hid (RI.out.stepFull HH.out.1 HH.out.2 HQ.out H16.out PM.out q2 (gb_trans G3.out q1) EA.out.1 EA.out.2)
    clear q1 q2
    unfold wpList
    go_roundw
    case rel => first | exact ⟨_, _, _, _, rfl, NX⟩ | ((repeat apply Exists.intro); exact ⟨⟨_, _, _, _, rfl, NX⟩, rfl⟩)
    case measure => simp [slLen]; have := HK.out; have := HQ.out.2.1; omega
   ·have H16 := Lib.hid h16
    clear h16
    go_upto_region 4 with (fail)
    refine wp_region_lit ?_
    refine zP (.pointer (some ⟨b, 0, none⟩)) ?_
    refine zP (.pointer (some ⟨b, 0, none⟩)) ?_
    refine zP (.pointer (some ⟨b, 21, none⟩)) ?_
    refine zQ (.int .i64 ((hv + k : Nat) : Int)) (run_load_one _ _ _ 3 _ _ rfl (b) (21) rfl (P3.out.held) (by kernel_rfl)) ?_
    refine zQ (.bool false) (run_eqi Tryd.underlying3 rfl rfl rfl (by have := H16.out; rw [decide_eq_false_iff_not]; omega)) ?_
    have NX : Hid (PInv w b r0 r1 t xs n (q + k) (dropA ap cp k) (np - k) (cp - k) w3) := Lib.hid (RI.out.stepShort HH.out.1 HH.out.2 HQ.out H16.out PM.out P3.out G3.out EA.out.1 EA.out.2)
    go_wp2_with fail
    exact ⟨⟨_, _, _, _, rfl, NX⟩, by simp [slLen]; have := HK.out; have := HQ.out.2.1; omega⟩
  ·have HK := Lib.hid hlt
   clear hlt
   go_upto_region 0 with (fail)
   refine wp_region_lit ?_
   refine zP (.slice ap np cp) ?_
   refine zP (.int .i64 (np : Int)) ?_
   refine zQ (.bool false) (run_gti Tryd.underlying3 rfl rfl rfl (by have := HK.out; rw [decide_eq_false_iff_not]; omega)) ?_
   go_wp2_with fail
   go_end0
   exact ⟨rfl, RI.out.done (by have := HK.out; omega)⟩
end Go.Proofs.YtlbfohpkngmaoaaDoor.Po
