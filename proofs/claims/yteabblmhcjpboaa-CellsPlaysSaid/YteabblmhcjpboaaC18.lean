/- What sectors tell, by the reference. -/
import Derived.Test.YteabblmhcjpboaaC17
namespace Go.Proofs.Yteabblmhcjpboaa.D
open Go Go.RowKit
set_option maxRecDepth 100000
/-- sectors in a row. -/
def SR (w : World) (gr n : Nat) (L : List (List Int)) : Prop := L.length = n ∧ ∀ k, k < n → ∃ g c, w.cell? ⟨gr, k, none⟩ = some (.slice (some ⟨g, 0, none⟩) 64 c) ∧ (64 ≤ c ∧ c < 9223372036854775808) ∧ Row w (some ⟨g, 0, none⟩) 64 (L.getD k [])
theorem SR.below {w w' : World} {gr n : Nat} {L : List (List Int)} (h : SR w gr n L) (hb : Below w.heap.size w w') : SR w' gr n L := ⟨h.1, fun k hk => by
  obtain ⟨g, c, e, cb, r⟩ := h.2 k hk
  exact ⟨g, c, (hb.cell (p := ⟨gr, k, none⟩) (World.block_lt_of_cell? w _ e)).trans e, cb, r.keep hb⟩⟩
theorem SR.ok {w : World} {gr n : Nat} {L : List (List Int)} (h : SR w gr n L) : ∀ k, k < n → ∃ s, L[k]? = some s ∧ SOk s := fun k hk => by
  obtain ⟨g, c, e, cb, r⟩ := h.2 k hk
  have hl : k < L.length := by rw [h.1]; exact hk
  have e2 : L.getD k [] = L[k] := by rw [List.getD, List.getElem?_eq_getElem hl]; rfl
  exact ⟨L[k], List.getElem?_eq_getElem hl, by rw [← e2]; exact ⟨r.1, r.2.2.1⟩⟩
theorem sr_of {w : World} {B : Nat} {v : Value} {vals : List Value} {L : List (List Int)} (h : OwnR w B v vals) (hl : LR w vals L) (h1 : 1 ≤ L.length) (n : Nat) (hn : n ≤ L.length) : ∃ gr c, v = .slice (some ⟨gr, 0, none⟩) L.length c ∧ L.length ≤ c ∧ c ≤ maxLen ∧ SR w gr n (L.take n) := by
  rcases h.1.2 with ⟨_, q⟩ | ⟨g, cap, cur, e1, e2, e3, e4, e5, e6, e7⟩
  · have := hl.1; omega
  refine ⟨g, cap, by rw [← hl.1]; exact e1, by rw [← hl.1]; exact e4, e5, by rw [List.length_take]; omega, fun k hk => ?_⟩
  obtain ⟨q, c, f1, f2, f3⟩ := hl.2 k (by omega)
  refine ⟨q, c, ?_, f2, ?_⟩
  · have hb : Blk w g 26 cur := e3
    rw [hb.cell, ← f1, ← e7, List.getElem?_take, if_pos (by rw [hl.1]; omega)]
    simp
  · rw [List.getD, List.getElem?_take, if_pos hk]
    exact f3
def hdP (most : Nat) (xs : List Int) (pl : Nat) : Bool × Nat × Nat × List Int := if (whole xs && fitM most (srl xs) (cntL xs) pl) = true then (true, srl xs, cntL xs, nteL xs) else (false, 0, 0, List.replicate 16 0)
theorem hd_any (most : Nat) (xs : List Int) (pl : Nat) (hl : xs.length = 64) (hb : ∀ x ∈ xs, 0 ≤ x ∧ x ≤ 255) : ∃ (z : Bool) (a c : Nat) (nt : List Int), hdT most xs pl = .tuple #[.int .u64 ((a : Nat) : Int), .int .u64 ((c : Nat) : Int), .agg (u8l nt).toArray, .bool z] ∧ hdP most xs pl = (z, a, c, nt) ∧ NtOk nt ∧ c ≤ most ∧ a < 18446744073709551616 := by
  unfold hdT hdP
  by_cases q : (whole xs && fitM most (srl xs) (cntL xs) pl) = true
  · rw [if_pos q, if_pos q]
    refine ⟨_, _, _, _, rfl, rfl, nte_ok ⟨hl, hb⟩, ?_, srl_lt hb⟩
    rw [Bool.and_eq_true, fitM, Bool.and_eq_true] at q
    exact of_decide_eq_true q.2.2
  · rw [if_neg q, if_neg q]
    exact ⟨_, 0, 0, _, rfl, rfl, ⟨by simp, fun x hx => by rw [List.eq_of_mem_replicate hx]; omega⟩, by omega, by omega⟩
theorem op_hd {rm : Nat} {X0 X1 : List Int} {z0 z1 : Bool} {a0 a1 c0 c1 : Nat} {n0 n1 : List Int} (h0 : hdP (rm * 64) X0 0 = (z0, a0, c0, n0)) (h1 : hdP (rm * 64) X1 1 = (z1, a1, c1, n1)) : opH rm X0 X1 = if (z1 && (!z0 || decide (a0 < a1))) = true then (a1, c1, n1) else (a0, c0, n0) := by
  have ev := opA_even rm X0
  have eA : opA rm X0 = (a0, c0, n0) := by
    unfold hdP at h0
    unfold opA
    split at h0
    · rename_i q
      have q' : (whole X0 && fitB rm (srl X0) (cntL X0) 0) = true := q
      rw [if_pos q']
      simp only [Prod.mk.injEq] at h0
      simp only [Prod.mk.injEq]; exact h0.2
    · rename_i q
      have q' : ¬ (whole X0 && fitB rm (srl X0) (cntL X0) 0) = true := q
      rw [if_neg q']
      simp only [Prod.mk.injEq] at h0
      simp only [Prod.mk.injEq]; exact h0.2
  have ez : z0 = false → a0 = 0 := by
    unfold hdP at h0
    split at h0
    · simp only [Prod.mk.injEq] at h0; intro e; rw [← h0.1] at e; cases e
    · simp only [Prod.mk.injEq] at h0; intro _; exact h0.2.1.symm
  unfold opH
  rw [eA] at ev ⊢
  unfold hdP at h1
  split at h1
  · rename_i q
    have q' := q
    rw [Bool.and_eq_true] at q
    have par : srl X1 % 2 = 1 := by
      have q2 := q.2
      rw [fitM, Bool.and_eq_true] at q2
      exact of_decide_eq_true q2.1
    have hf : fitB rm (srl X1) (cntL X1) 1 = true := q.2
    simp only [Prod.mk.injEq] at h1
    obtain ⟨rfl, rfl, rfl, rfl⟩ := h1
    rw [q.1, hf, Bool.true_and, Bool.true_and, Bool.true_and]
    have hev : a0 % 2 = 0 := ev
    by_cases g : a0 < srl X1
    · rw [if_pos (decide_eq_true (show a0 ≤ srl X1 by omega)), decide_eq_true g, Bool.or_true, if_pos rfl]
    · have hz : z0 = true := by
        cases z0 with
        | true => rfl
        | false => exfalso; have := ez rfl; omega
      rw [decide_eq_false (show ¬ a0 ≤ srl X1 by omega), decide_eq_false g, hz, if_neg (by decide), if_neg (by decide)]
  · rename_i q
    simp only [Prod.mk.injEq] at h1
    obtain ⟨rfl, rfl, rfl, rfl⟩ := h1
    have hq : ¬ (whole X1 && (fitB rm (srl X1) (cntL X1) 1 && decide ((a0, c0, n0).1 ≤ srl X1))) = true := fun e => by
      rw [Bool.and_eq_true, Bool.and_eq_true] at e
      exact q (by rw [Bool.and_eq_true]; exact ⟨e.1, e.2.1⟩)
    rw [if_neg hq]; rfl
def OfPost (L : List (List Int)) (rm : Nat) (w : World) (e : Ending) (w' : World) : Prop :=
  ∃ (s : Nat) (nt bs : List Int) (ua : Option Addr) (uc : Nat), e = .returned (.agg (stV s nt (.slice ua bs.length uc)).toArray) ∧ Below w.heap.size w w' ∧ Own w' w.heap.size (.slice ua bs.length uc) bs ∧ OpenIs L 0 rm s nt bs ∧ NtOk nt ∧ bs.length ≤ rm * 64
theorem of_post {w w' : World} {L : List (List Int)} {nn rm i s c : Nat} {nt : List Int} {va : Option Addr} {vc : Nat} (hL : ∀ k, k < nn → ∃ s, L[k]? = some s ∧ SOk s) (hn : nn = rm + 2 ∧ 1 ≤ rm ∧ rm ≤ 200) (h : opH rm (L.getD 0 []) (L.getD 1 []) = (s, c, nt)) (ho : NtOk nt) (hc : c ≤ 64 * i) (hi : i ≤ rm) (hm : c ≤ rm * 64) (bb : Below w.heap.size w w') (o : Own w' w.heap.size (.slice va c vc) ((roomL L 0 i).take c)) :
    OfPost L rm w (.returned (.agg (stV s nt (.slice va c vc)).toArray)) w' := by
  have l : (roomL L 0 i).length = 64 * i := roomL_len (fun j hj => hL _ (by omega))
  have lt : ((roomL L 0 i).take c).length = c := by rw [List.length_take, l]; omega
  obtain ⟨X0, h0, _⟩ := hL 0 (by omega)
  obtain ⟨X1, h1, _⟩ := hL 1 (by omega)
  rw [getD_some h0, getD_some h1] at h
  refine ⟨s, nt, (roomL L 0 i).take c, va, vc, by rw [lt], bb, by rw [lt]; exact o, ⟨⟨X0, X1, h0, h1, by rw [h, lt]⟩, fun j hj => ?_⟩, ho, by rw [lt]; exact hm⟩
  rw [lt] at hj
  rw [getD_take' _ hj, roomL_get (fun k hk => hL _ (by omega)) j (by omega)]
theorem OpenIs.cutL {S : List (List Int)} {fr rm s : Nat} {nt bs : List Int} (h : OpenIs S fr rm s nt bs) (hb : bs.length ≤ rm * 64) : OpenIs ((S.drop fr).take (rm + 2)) 0 rm s nt bs := by
  obtain ⟨⟨X0, X1, h0, h1, ho⟩, hr⟩ := h
  have g : ∀ k, k < rm + 2 → ((S.drop fr).take (rm + 2))[k]? = S[fr + k]? := fun k hk => by rw [List.getElem?_take, if_pos hk, List.getElem?_drop]
  refine ⟨⟨X0, X1, by rw [g 0 (by omega)]; exact h0, by rw [g 1 (by omega)]; exact h1, ho⟩, fun j hj => ?_⟩
  rw [← hr j hj]
  unfold bt
  simp only [List.getD_eq_getElem?_getD]
  rw [g _ (by omega), show fr + ((0 + 2) * 64 + j) / 64 = ((fr + 2) * 64 + j) / 64 by omega, show ((0 + 2) * 64 + j) % 64 = ((fr + 2) * 64 + j) % 64 by omega]
attribute [local irreducible] wpList
set_option maxHeartbeats 8000000
theorem of_any (w : World) (gr nn cc rm : Nat) (L : List (List Int)) (h : SR w gr nn L) (hn : nn = rm + 2 ∧ 1 ≤ rm ∧ rm ≤ 200) : Calls Try.prog 18 #[.slice (some ⟨gr, 0, none⟩) nn cc] w fun e w' => OfPost L rm w e w' := by
  have HS := Lib.hid h
  have HN : Hid ((nn = rm + 2 ∧ 1 ≤ rm ∧ rm ≤ 200) ∧ nn ≤ 202) := Lib.hid ⟨hn, by omega⟩
  clear h hn
  go_enter Try.func18, Try.ntmps18
  go_upto_region 0 with (fail)
  refine wp_region_lit ?_
  obtain ⟨W1, hW1⟩ : ∃ V, V = w.alloc (.cells (stV 0 (List.replicate 16 0) (.slice none 0 0)).toArray 42) := ⟨_, rfl⟩
  refine wpL_value (.pointer (some ⟨w.heap.size, 0, none⟩)) W1 rfl (by rw [hW1]; kernel_rfl) ?_
  simp only [Act.put, List.setIfInBounds_toArray, List.set_cons_zero, List.set_cons_succ]
  obtain ⟨g2, hg2⟩ : ∃ q, w.heap.size = q := ⟨_, rfl⟩
  have F1 : Hid (Below w.heap.size w W1 ∧ Blk W1 g2 42 (stV 0 (List.replicate 16 0) (.slice none 0 0)).toArray ∧ w.heap.size ≤ g2) := Lib.hid (by rw [hW1, ← hg2]; exact ⟨(Below.refl _ _).alloc (Nat.le_refl _) _, Blk.new _ _ _, Nat.le_refl _⟩)
  rw [hg2]
  clear hW1 hg2
  go_upto_region 1 with (fail)
  refine wp_region_lit ?_
  refine wpL_pure (.slice (some ⟨gr, 0, none⟩) nn cc) rfl (by kernel_rfl) ?_
  simp only [Act.put, List.setIfInBounds_toArray, List.set_cons_zero, List.set_cons_succ]
  refine wpL_pure (.int .i64 (nn : Int)) rfl (by kernel_rfl) ?_
  simp only [Act.put, List.setIfInBounds_toArray, List.set_cons_zero, List.set_cons_succ]
  refine wpL_pure (.int .i64 (rm : Int)) rfl (run_subi Try.underlying3 rfl rfl rfl _ (by have := HN.out; rw [wrap_in _ (by omega) (by omega)]; omega)) ?_
  simp only [Act.put, List.setIfInBounds_toArray, List.set_cons_zero, List.set_cons_succ]
  refine wpL_pure (.int .i64 ((rm * 64 : Nat) : Int)) rfl (run_muli Try.underlying3 rfl rfl rfl _ (by have := HN.out; rw [wrap_in _ (by omega) (by omega)]; omega)) ?_
  simp only [Act.put, List.setIfInBounds_toArray, List.set_cons_zero, List.set_cons_succ]
  refine wpL_pure (.int .i64 ((rm * 64 : Nat) : Int)) rfl (by kernel_rfl) ?_
  simp only [Act.put, List.setIfInBounds_toArray, List.set_cons_zero, List.set_cons_succ]
  obtain ⟨q0, x0, hc0, cb0, hr0⟩ := (HS.out.below F1.out.1).2 0 (by have := HN.out; omega)
  have HC0 := Lib.hid hc0
  have CB0 := Lib.hid cb0
  have HR0 := Lib.hid hr0
  clear hc0 cb0 hr0
  obtain ⟨z0, a0, c0, n0, ht0, hp0, hn0, hc0, ha0⟩ := hd_any (rm * 64) (L.getD 0 []) 0 HR0.out.1 HR0.out.2.2.1
  have H0 : Hid (hdP (rm * 64) (L.getD 0 []) 0 = (z0, a0, c0, n0) ∧ NtOk n0 ∧ c0 ≤ rm * 64 ∧ a0 < 18446744073709551616) := Lib.hid ⟨hp0, hn0, hc0, ha0⟩
  have HT0 := Lib.hid ht0
  clear ht0 hp0 hn0 hc0 ha0
  go_upto_region 2 with (fail)
  refine wp_region_lit ?_
  refine wpL_pure (.slice (some ⟨gr, 0, none⟩) nn cc) rfl (by kernel_rfl) ?_
  simp only [Act.put, List.setIfInBounds_toArray, List.set_cons_zero, List.set_cons_succ]
  refine wpL_pure (.pointer (some ⟨gr, 0 + 0, none⟩)) rfl (run_idxp _ _ _ _ _ gr 0 nn cc 0 rfl rfl rfl (by have := HN.out; omega) (by have := HN.out; unfold maxLen; omega)) ?_
  simp only [Act.put, List.setIfInBounds_toArray, List.set_cons_zero, List.set_cons_succ]
  refine wpL_pure (.slice (some ⟨q0, 0, none⟩) 64 x0) rfl (run_load_one _ _ _ 26 _ _ rfl gr (0 + 0) rfl (by rw [Nat.zero_add]; exact HC0.out) (by kernel_rfl)) ?_
  simp only [Act.put, List.setIfInBounds_toArray, List.set_cons_zero, List.set_cons_succ]
  refine wpL_pure (.int .i64 ((rm * 64 : Nat) : Int)) rfl (by kernel_rfl) ?_
  simp only [Act.put, List.setIfInBounds_toArray, List.set_cons_zero, List.set_cons_succ]
  refine wpL_call 40 #[.slice (some ⟨q0, 0, none⟩) 64 x0, .int .i64 0, .int .i64 ((rm * 64 : Nat) : Int)] rfl (by kernel_rfl) ((refhead_any W1 q0 0 x0 (L.getD 0 []) HR0.out CB0.out 0 (rm * 64) (by have := HN.out; omega)).mono fun e A0 ⟨he, bb⟩ => ⟨.tuple #[.int .u64 ((a0 : Nat) : Int), .int .u64 ((c0 : Nat) : Int), .agg (u8l n0).toArray, .bool z0], (he.trans (by rw [HT0.out])), ?_⟩)
  simp only [Act.put, List.setIfInBounds_toArray, List.set_cons_zero, List.set_cons_succ]
  have GA0 : Hid (Below w.heap.size w A0 ∧ Blk A0 g2 42 (stV 0 (List.replicate 16 0) (.slice none 0 0)).toArray) := Lib.hid ⟨F1.out.1.trans (bb.mono F1.out.1.size), F1.out.2.1.below bb⟩
  clear bb
  refine wpL_pure (.tuple #[.int .u64 ((a0 : Nat) : Int), .int .u64 ((c0 : Nat) : Int), .agg (u8l n0).toArray, .bool z0]) rfl (by kernel_rfl) ?_
  simp only [Act.put, List.setIfInBounds_toArray, List.set_cons_zero, List.set_cons_succ]
  refine wpL_pure (.int .u64 ((a0 : Nat) : Int)) rfl (by kernel_rfl) ?_
  simp only [Act.put, List.setIfInBounds_toArray, List.set_cons_zero, List.set_cons_succ]
  refine wpL_pure (.int .u64 ((c0 : Nat) : Int)) rfl (by kernel_rfl) ?_
  simp only [Act.put, List.setIfInBounds_toArray, List.set_cons_zero, List.set_cons_succ]
  refine wpL_pure (.agg (u8l n0).toArray) rfl (by kernel_rfl) ?_
  simp only [Act.put, List.setIfInBounds_toArray, List.set_cons_zero, List.set_cons_succ]
  refine wpL_pure (.bool z0) rfl (by kernel_rfl) ?_
  simp only [Act.put, List.setIfInBounds_toArray, List.set_cons_zero, List.set_cons_succ]
  obtain ⟨B0, hB0⟩ : ∃ V, V = A0.alloc (.cells (u8l (List.replicate 16 0)).toArray 32) := ⟨_, rfl⟩
  refine wpL_value (.pointer (some ⟨A0.heap.size, 0, none⟩)) B0 rfl (by rw [hB0]; kernel_rfl) ?_
  simp only [Act.put, List.setIfInBounds_toArray, List.set_cons_zero, List.set_cons_succ]
  obtain ⟨g6, hg6⟩ : ∃ q, A0.heap.size = q := ⟨_, rfl⟩
  have GB0 : Hid (Below w.heap.size w B0 ∧ Blk B0 g2 42 (stV 0 (List.replicate 16 0) (.slice none 0 0)).toArray ∧ Blk B0 g6 32 (u8l (List.replicate 16 0)).toArray ∧ w.heap.size ≤ g6 ∧ g2 ≠ g6) := Lib.hid (by have l := GA0.out.2.lt; have z := GA0.out.1.size; rw [hB0]; exact ⟨GA0.out.1.alloc GA0.out.1.size _, GA0.out.2.alloc _, by rw [← hg6]; exact Blk.new _ _ _, by omega, by omega⟩)
  rw [hg6]
  clear hB0 hg6
  refine wpL_pure (.int .u64 ((a0 : Nat) : Int)) rfl (by kernel_rfl) ?_
  simp only [Act.put, List.setIfInBounds_toArray, List.set_cons_zero, List.set_cons_succ]
  refine wpL_pure (.int .u64 ((c0 : Nat) : Int)) rfl (by kernel_rfl) ?_
  simp only [Act.put, List.setIfInBounds_toArray, List.set_cons_zero, List.set_cons_succ]
  refine wpList_store_row rfl 32 _ _ rfl g6 (u8l n0).toArray rfl rfl 32 _ (GB0.out.2.2.1) (by simp only [List.size_toArray, u8l_len, List.length_replicate, H0.out.2.1.1] <;> kernel_rfl) (by simp only [List.size_toArray, u8l_len, List.length_replicate, H0.out.2.1.1] <;> rfl) (u8l_one _) ?_
  simp only [Act.put, List.setIfInBounds_toArray, List.set_cons_zero, List.set_cons_succ]
  obtain ⟨C0, hC0⟩ : ∃ V, V = B0.setRow g6 (u8l n0).toArray := ⟨_, rfl⟩
  rw [← hC0]
  have GC0 : Hid ((Below w.heap.size w C0 ∧ Blk C0 g2 42 (stV 0 (List.replicate 16 0) (.slice none 0 0)).toArray ∧ Blk C0 g6 32 (u8l n0).toArray) ∧ w.heap.size ≤ g6 ∧ g2 ≠ g6) := Lib.hid (by rw [hC0]; exact ⟨⟨below_setRow GB0.out.1 GB0.out.2.2.2.1 _, (setRow_other _ _ _ _ GB0.out.2.2.2.2).trans GB0.out.2.1, setRow_heap _ _ _ _ _ _ GB0.out.2.2.1⟩, GB0.out.2.2.2⟩)
  clear hC0
  refine wpL_pure (.bool z0) rfl (by kernel_rfl) ?_
  simp only [Act.put, List.setIfInBounds_toArray, List.set_cons_zero, List.set_cons_succ]
  have F2 : Hid (Below w.heap.size w C0 ∧ Blk C0 g2 42 (stV 0 (List.replicate 16 0) (.slice none 0 0)).toArray ∧ Blk C0 g6 32 (u8l n0).toArray) := Lib.hid GC0.out.1
  obtain ⟨q1, x1, hc1, cb1, hr1⟩ := (HS.out.below F2.out.1).2 1 (by have := HN.out; omega)
  have HC1 := Lib.hid hc1
  have CB1 := Lib.hid cb1
  have HR1 := Lib.hid hr1
  clear hc1 cb1 hr1
  obtain ⟨z1, a1, c1, n1, ht1, hp1, hn1, hc1, ha1⟩ := hd_any (rm * 64) (L.getD 1 []) 1 HR1.out.1 HR1.out.2.2.1
  have H1 : Hid (hdP (rm * 64) (L.getD 1 []) 1 = (z1, a1, c1, n1) ∧ NtOk n1 ∧ c1 ≤ rm * 64 ∧ a1 < 18446744073709551616) := Lib.hid ⟨hp1, hn1, hc1, ha1⟩
  have HT1 := Lib.hid ht1
  clear ht1 hp1 hn1 hc1 ha1
  go_upto_region 3 with (fail)
  refine wp_region_lit ?_
  refine wpL_pure (.slice (some ⟨gr, 0, none⟩) nn cc) rfl (by kernel_rfl) ?_
  simp only [Act.put, List.setIfInBounds_toArray, List.set_cons_zero, List.set_cons_succ]
  refine wpL_pure (.pointer (some ⟨gr, 0 + 1, none⟩)) rfl (run_idxp _ _ _ _ _ gr 0 nn cc 1 rfl rfl rfl (by have := HN.out; omega) (by have := HN.out; unfold maxLen; omega)) ?_
  simp only [Act.put, List.setIfInBounds_toArray, List.set_cons_zero, List.set_cons_succ]
  refine wpL_pure (.slice (some ⟨q1, 0, none⟩) 64 x1) rfl (run_load_one _ _ _ 26 _ _ rfl gr (0 + 1) rfl (by rw [Nat.zero_add]; exact HC1.out) (by kernel_rfl)) ?_
  simp only [Act.put, List.setIfInBounds_toArray, List.set_cons_zero, List.set_cons_succ]
  refine wpL_pure (.int .i64 ((rm * 64 : Nat) : Int)) rfl (by kernel_rfl) ?_
  simp only [Act.put, List.setIfInBounds_toArray, List.set_cons_zero, List.set_cons_succ]
  refine wpL_call 40 #[.slice (some ⟨q1, 0, none⟩) 64 x1, .int .i64 1, .int .i64 ((rm * 64 : Nat) : Int)] rfl (by kernel_rfl) ((refhead_any C0 q1 0 x1 (L.getD 1 []) HR1.out CB1.out 1 (rm * 64) (by have := HN.out; omega)).mono fun e A1 ⟨he, bb⟩ => ⟨.tuple #[.int .u64 ((a1 : Nat) : Int), .int .u64 ((c1 : Nat) : Int), .agg (u8l n1).toArray, .bool z1], (he.trans (by rw [HT1.out])), ?_⟩)
  simp only [Act.put, List.setIfInBounds_toArray, List.set_cons_zero, List.set_cons_succ]
  have GA1 : Hid (Below w.heap.size w A1 ∧ Blk A1 g2 42 (stV 0 (List.replicate 16 0) (.slice none 0 0)).toArray ∧ Blk A1 g6 32 (u8l n0).toArray) := Lib.hid ⟨F2.out.1.trans (bb.mono F2.out.1.size), F2.out.2.1.below bb, (F2.out.2.2).below bb⟩
  clear bb
  refine wpL_pure (.tuple #[.int .u64 ((a1 : Nat) : Int), .int .u64 ((c1 : Nat) : Int), .agg (u8l n1).toArray, .bool z1]) rfl (by kernel_rfl) ?_
  simp only [Act.put, List.setIfInBounds_toArray, List.set_cons_zero, List.set_cons_succ]
  refine wpL_pure (.int .u64 ((a1 : Nat) : Int)) rfl (by kernel_rfl) ?_
  simp only [Act.put, List.setIfInBounds_toArray, List.set_cons_zero, List.set_cons_succ]
  refine wpL_pure (.int .u64 ((c1 : Nat) : Int)) rfl (by kernel_rfl) ?_
  simp only [Act.put, List.setIfInBounds_toArray, List.set_cons_zero, List.set_cons_succ]
  refine wpL_pure (.agg (u8l n1).toArray) rfl (by kernel_rfl) ?_
  simp only [Act.put, List.setIfInBounds_toArray, List.set_cons_zero, List.set_cons_succ]
  refine wpL_pure (.bool z1) rfl (by kernel_rfl) ?_
  simp only [Act.put, List.setIfInBounds_toArray, List.set_cons_zero, List.set_cons_succ]
  obtain ⟨B1, hB1⟩ : ∃ V, V = A1.alloc (.cells (u8l (List.replicate 16 0)).toArray 32) := ⟨_, rfl⟩
  refine wpL_value (.pointer (some ⟨A1.heap.size, 0, none⟩)) B1 rfl (by rw [hB1]; kernel_rfl) ?_
  simp only [Act.put, List.setIfInBounds_toArray, List.set_cons_zero, List.set_cons_succ]
  obtain ⟨g10, hg10⟩ : ∃ q, A1.heap.size = q := ⟨_, rfl⟩
  have GB1 : Hid (Below w.heap.size w B1 ∧ Blk B1 g2 42 (stV 0 (List.replicate 16 0) (.slice none 0 0)).toArray ∧ Blk B1 g6 32 (u8l n0).toArray ∧ Blk B1 g10 32 (u8l (List.replicate 16 0)).toArray ∧ w.heap.size ≤ g10 ∧ g2 ≠ g10 ∧ g6 ≠ g10) := Lib.hid (by have l := GA1.out.2.1.lt; have z := GA1.out.1.size; have l0 := (GA1.out.2.2).lt; rw [hB1]; exact ⟨GA1.out.1.alloc GA1.out.1.size _, GA1.out.2.1.alloc _, (GA1.out.2.2).alloc _, by rw [← hg10]; exact Blk.new _ _ _, by omega, by omega, by omega⟩)
  rw [hg10]
  clear hB1 hg10
  refine wpL_pure (.int .u64 ((a1 : Nat) : Int)) rfl (by kernel_rfl) ?_
  simp only [Act.put, List.setIfInBounds_toArray, List.set_cons_zero, List.set_cons_succ]
  refine wpL_pure (.int .u64 ((c1 : Nat) : Int)) rfl (by kernel_rfl) ?_
  simp only [Act.put, List.setIfInBounds_toArray, List.set_cons_zero, List.set_cons_succ]
  refine wpList_store_row rfl 32 _ _ rfl g10 (u8l n1).toArray rfl rfl 32 _ (GB1.out.2.2.2.1) (by simp only [List.size_toArray, u8l_len, List.length_replicate, H1.out.2.1.1] <;> kernel_rfl) (by simp only [List.size_toArray, u8l_len, List.length_replicate, H1.out.2.1.1] <;> rfl) (u8l_one _) ?_
  simp only [Act.put, List.setIfInBounds_toArray, List.set_cons_zero, List.set_cons_succ]
  obtain ⟨C1, hC1⟩ : ∃ V, V = B1.setRow g10 (u8l n1).toArray := ⟨_, rfl⟩
  rw [← hC1]
  have GC1 : Hid ((Below w.heap.size w C1 ∧ Blk C1 g2 42 (stV 0 (List.replicate 16 0) (.slice none 0 0)).toArray ∧ Blk C1 g6 32 (u8l n0).toArray ∧ Blk C1 g10 32 (u8l n1).toArray) ∧ w.heap.size ≤ g10 ∧ g2 ≠ g10 ∧ g6 ≠ g10) := Lib.hid (by rw [hC1]; exact ⟨⟨below_setRow GB1.out.1 GB1.out.2.2.2.2.1 _, (setRow_other _ _ _ _ GB1.out.2.2.2.2.2.1).trans GB1.out.2.1, (setRow_other _ _ _ _ GB1.out.2.2.2.2.2.2).trans GB1.out.2.2.1, setRow_heap _ _ _ _ _ _ GB1.out.2.2.2.1⟩, GB1.out.2.2.2.2⟩)
  clear hC1
  refine wpL_pure (.bool z1) rfl (by kernel_rfl) ?_
  simp only [Act.put, List.setIfInBounds_toArray, List.set_cons_zero, List.set_cons_succ]
  have SZ : Hid (w.heap.size ≤ g2 ∧ w.heap.size ≤ g6 ∧ w.heap.size ≤ g10 ∧ g2 ≠ g6 ∧ g2 ≠ g10 ∧ g6 ≠ g10) := Lib.hid ⟨F1.out.2.2, GC0.out.2.1, GC1.out.2.1, GC0.out.2.2, GC1.out.2.2.1, GC1.out.2.2.2⟩
  have LST := Lib.hid HS.out.ok
  cases z1 with
  | false =>
    have FIN : Hid (opH rm (L.getD 0 []) (L.getD 1 []) = (a0, c0, n0) ∧ c0 ≤ rm * 64 ∧ NtOk n0) := Lib.hid ⟨by rw [op_hd H0.out.1 H1.out.1]; rfl, H0.out.2.2.1, H0.out.2.1⟩
    go_upto_region 4 with (fail)
    refine wp_region_lit ?_
    refine wpL_pure (.bool false) rfl (by kernel_rfl) ?_
    simp only [Act.put, List.setIfInBounds_toArray, List.set_cons_zero, List.set_cons_succ]
    refine wpL_pure (.bool false) rfl (by kernel_rfl) ?_
    simp only [Act.put, List.setIfInBounds_toArray, List.set_cons_zero, List.set_cons_succ]
    refine wpL_skip (by kernel_rfl) ?_
    simp only [Act.put, List.setIfInBounds_toArray, List.set_cons_zero, List.set_cons_succ]
    refine wpL_skip (by kernel_rfl) ?_
    simp only [Act.put, List.setIfInBounds_toArray, List.set_cons_zero, List.set_cons_succ]
    refine wpL_skip (by kernel_rfl) ?_
    simp only [Act.put, List.setIfInBounds_toArray, List.set_cons_zero, List.set_cons_succ]
    refine wpL_skip (by kernel_rfl) ?_
    simp only [Act.put, List.setIfInBounds_toArray, List.set_cons_zero, List.set_cons_succ]
    refine wpL_skip (by kernel_rfl) ?_
    simp only [Act.put, List.setIfInBounds_toArray, List.set_cons_zero, List.set_cons_succ]
    refine wpL_skip (by kernel_rfl) ?_
    simp only [Act.put, List.setIfInBounds_toArray, List.set_cons_zero, List.set_cons_succ]
    refine wpL_skip (by kernel_rfl) ?_
    simp only [Act.put, List.setIfInBounds_toArray, List.set_cons_zero, List.set_cons_succ]
    refine wpL_pure (.bool false) rfl (by kernel_rfl) ?_
    simp only [Act.put, List.setIfInBounds_toArray, List.set_cons_zero, List.set_cons_succ]
    have FZ : Hid (Below w.heap.size w C1 ∧ Blk C1 g2 42 (stV 0 (List.replicate 16 0) (.slice none 0 0)).toArray ∧ Blk C1 g6 32 (u8l n0).toArray) := Lib.hid ⟨GC1.out.1.1, GC1.out.1.2.1, GC1.out.1.2.2.1⟩
    go_upto_region 8 with (fail)
    refine wp_region_lit ?_
    refine wpL_pure (.slice none 0 0) rfl (by kernel_rfl) ?_
    simp only [Act.put, List.setIfInBounds_toArray, List.set_cons_zero, List.set_cons_succ]
    go_upto_region 9 with (fail)
    refine wp_region_lit ?_
    refine wpL_pure (.int .i64 2) rfl (by kernel_rfl) ?_
    simp only [Act.put, List.setIfInBounds_toArray, List.set_cons_zero, List.set_cons_succ]
    obtain ⟨B, hB⟩ : ∃ q, C1.heap.size = q := ⟨_, rfl⟩
    have BB : Hid (w.heap.size ≤ B ∧ g2 < B ∧ g6 < B ∧ B = C1.heap.size) := Lib.hid ⟨by have := FZ.out.1.size; omega, by have := FZ.out.2.1.lt; omega, by have := FZ.out.2.2.lt; omega, hB.symm⟩
    clear hB
    unfold wpList
    go_wp2_with fail
    go_loopw [12, 13] (fun s12 s13 wr => ∃ (k : Nat) (va : Option Addr) (vc : Nat), (s12 = .slice va (64 * k) vc ∧ s13 = .int .i64 ((2 + k : Nat) : Int)) ∧ Hid (k ≤ rm ∧ Below w.heap.size w wr ∧ Blk wr g2 42 (stV 0 (List.replicate 16 0) (.slice none 0 0)).toArray ∧ Blk wr g6 32 (u8l n0).toArray ∧ Own wr B (.slice va (64 * k) vc) (roomL L 0 k) ∧ B ≤ wr.heap.size)) (fun _ s13 _ => 300 - (intOf s13).toNat)
    case atStart => exact ⟨0, none, 0, ⟨rfl, rfl⟩, Lib.hid ⟨by omega, FZ.out.1, FZ.out.2.1, FZ.out.2.2, Own.nil _ _, Nat.le_of_eq BB.out.2.2.2⟩⟩
    case round =>
      obtain ⟨k, va, vc, ⟨rfl, rfl⟩, RI0⟩ := hrel
      have RK := Lib.hid RI0.out.1
      have RI := Lib.hid RI0.out.2
      clear RI0
      by_cases hlt : k < rm
      · have HK := Lib.hid hlt
        clear hlt
        go_upto_region 10 with (fail)
        refine wp_region_lit ?_
        refine wpL_pure (.int .i64 ((2 + k : Nat) : Int)) rfl (by kernel_rfl) ?_
        simp only [Act.put, List.setIfInBounds_toArray, List.set_cons_zero, List.set_cons_succ]
        refine wpL_pure (.slice (some ⟨gr, 0, none⟩) nn cc) rfl (by kernel_rfl) ?_
        simp only [Act.put, List.setIfInBounds_toArray, List.set_cons_zero, List.set_cons_succ]
        refine wpL_pure (.int .i64 (nn : Int)) rfl (by kernel_rfl) ?_
        simp only [Act.put, List.setIfInBounds_toArray, List.set_cons_zero, List.set_cons_succ]
        refine wpL_pure (.bool true) rfl (run_lti Try.underlying3 rfl rfl rfl (by have := HK.out; have := HN.out; rw [decide_eq_true_eq]; omega)) ?_
        simp only [Act.put, List.setIfInBounds_toArray, List.set_cons_zero, List.set_cons_succ]
        obtain ⟨qk, xk, hck, cbk, hrk⟩ := (HS.out.below RI.out.1).2 (2 + k) (by have := HK.out; have := HN.out; omega)
        have HCK := Lib.hid hck
        have HRK := Lib.hid hrk
        clear hck cbk hrk
        have RLN : Hid ((roomL L 0 k).length = 64 * k) := Lib.hid (roomL_len (fun j hj => LST.out _ (by have := HN.out; have := HK.out; omega)))
        go_upto_region 12 with (fail)
        refine wp_region_lit ?_
        refine wpL_pure (.slice va (64 * k) vc) rfl (by kernel_rfl) ?_
        simp only [Act.put, List.setIfInBounds_toArray, List.set_cons_zero, List.set_cons_succ]
        refine wpL_pure (.slice (some ⟨gr, 0, none⟩) nn cc) rfl (by kernel_rfl) ?_
        simp only [Act.put, List.setIfInBounds_toArray, List.set_cons_zero, List.set_cons_succ]
        refine wpL_pure (.int .i64 ((2 + k : Nat) : Int)) rfl (by kernel_rfl) ?_
        simp only [Act.put, List.setIfInBounds_toArray, List.set_cons_zero, List.set_cons_succ]
        refine wpL_pure (.pointer (some ⟨gr, 0 + (2 + k), none⟩)) rfl (run_idxp _ _ _ _ _ gr 0 nn cc (2 + k) rfl rfl rfl (by have := HN.out; have := HK.out; omega) (by have := HN.out; unfold maxLen; omega)) ?_
        simp only [Act.put, List.setIfInBounds_toArray, List.set_cons_zero, List.set_cons_succ]
        refine wpL_pure (.slice (some ⟨qk, 0, none⟩) 64 xk) rfl (run_load_one _ _ _ 26 _ _ rfl gr (0 + (2 + k)) rfl (by rw [Nat.zero_add]; exact HCK.out) (by kernel_rfl)) ?_
        simp only [Act.put, List.setIfInBounds_toArray, List.set_cons_zero, List.set_cons_succ]
        obtain ⟨v6, W6, r1, r2, r3, r4, r5⟩ := append_own wr (B) ((.slice va (64 * k) vc)) (roomL L 0 k) (L.getD (2 + k) []) (some ⟨qk, 0, none⟩) 64 xk (RI.out.2.2.2.1) (HRK.out) (by rw [RLN.out]; have := HK.out; have := HN.out; omega) (RI.out.2.2.2.2)
        have R1 := Lib.hid r1
        obtain ⟨xa, xc, e4⟩ := r2.slice
        have e5 : v6 = .slice xa (64 * (k + 1)) xc := by rw [e4, List.length_append, RLN.out, HRK.out.1]; rfl
        subst e5
        have F6 : Hid (Below w.heap.size w W6 ∧ Blk W6 g2 42 (stV 0 (List.replicate 16 0) (.slice none 0 0)).toArray ∧ Blk W6 g6 32 (u8l n0).toArray ∧ Own W6 B (.slice xa (64 * (k + 1)) xc) (roomL L 0 (k + 1)) ∧ B ≤ W6.heap.size) := Lib.hid (by have nz : ∀ q, (Value.slice va (64 * k) vc).ownBlock = some q → B ≤ q := fun q hk => (RI.out.2.2.2.1.lt q hk).1; have hb := BB.out; exact ⟨RI.out.1.grown r3 RI.out.1.size (fun j hj => by have := nz j hj; omega), RI.out.2.1.grown r3 (fun z => by have := nz g2 z.symm; omega), RI.out.2.2.1.grown r3 (fun z => by have := nz g6 z.symm; omega), by rw [roomL, Nat.zero_add]; exact r2, Nat.le_trans RI.out.2.2.2.2 r3.size⟩)
        clear r1 r2 r3 r4 r5
        refine wpL_value (.slice xa (64 * (k + 1)) xc) W6 rfl (run_app _ _ _ _ _ _ _ _ _ rfl rfl rfl rfl R1.out) ?_
        simp only [Act.put, List.setIfInBounds_toArray, List.set_cons_zero, List.set_cons_succ]
        clear R1
        refine wpL_pure (.slice xa (64 * (k + 1)) xc) rfl (by kernel_rfl) ?_
        simp only [Act.put, List.setIfInBounds_toArray, List.set_cons_zero, List.set_cons_succ]
        go_upto_region 11 with (fail)
        refine wp_region_lit ?_
        refine wpL_pure (.int .i64 ((2 + k : Nat) : Int)) rfl (by kernel_rfl) ?_
        simp only [Act.put, List.setIfInBounds_toArray, List.set_cons_zero, List.set_cons_succ]
        refine wpL_pure (.int .i64 ((2 + (k + 1) : Nat) : Int)) rfl (run_addi Try.underlying3 rfl rfl rfl _ (by have := HK.out; have := HN.out; rw [wrap_in _ (by omega) (by omega)]; omega)) ?_
        simp only [Act.put, List.setIfInBounds_toArray, List.set_cons_zero, List.set_cons_succ]
        refine wpL_pure (.int .i64 ((2 + (k + 1) : Nat) : Int)) rfl (by kernel_rfl) ?_
        simp only [Act.put, List.setIfInBounds_toArray, List.set_cons_zero, List.set_cons_succ]
        have NX : Hid (k + 1 ≤ rm ∧ Below w.heap.size w W6 ∧ Blk W6 g2 42 (stV 0 (List.replicate 16 0) (.slice none 0 0)).toArray ∧ Blk W6 g6 32 (u8l n0).toArray ∧ Own W6 B (.slice xa (64 * (k + 1)) xc) (roomL L 0 (k + 1)) ∧ B ≤ W6.heap.size) := Lib.hid ⟨HK.out, F6.out⟩
        unfold wpList
        go_roundw
        case rel => first | exact ⟨_, _, _, ⟨rfl, rfl⟩, NX⟩ | ((repeat apply Exists.intro); exact ⟨⟨_, _, _, ⟨rfl, rfl⟩, NX⟩, rfl⟩)
        case measure => simp [intOf]; have := HK.out; have := HN.out; omega
      · have EK : Hid (k = rm) := Lib.hid (by have := RK.out; omega)
        clear hlt
        have RLN : Hid ((roomL L 0 k).length = 64 * k) := Lib.hid (roomL_len (fun j hj => LST.out _ (by have := HN.out; have := RK.out; omega)))
        go_upto_region 10 with (fail)
        refine wp_region_lit ?_
        refine wpL_pure (.int .i64 ((2 + k : Nat) : Int)) rfl (by kernel_rfl) ?_
        simp only [Act.put, List.setIfInBounds_toArray, List.set_cons_zero, List.set_cons_succ]
        refine wpL_pure (.slice (some ⟨gr, 0, none⟩) nn cc) rfl (by kernel_rfl) ?_
        simp only [Act.put, List.setIfInBounds_toArray, List.set_cons_zero, List.set_cons_succ]
        refine wpL_pure (.int .i64 (nn : Int)) rfl (by kernel_rfl) ?_
        simp only [Act.put, List.setIfInBounds_toArray, List.set_cons_zero, List.set_cons_succ]
        refine wpL_pure (.bool false) rfl (run_lti Try.underlying3 rfl rfl rfl (by have := EK.out; have := HN.out; rw [decide_eq_false_iff_not]; omega)) ?_
        simp only [Act.put, List.setIfInBounds_toArray, List.set_cons_zero, List.set_cons_succ]
        go_upto_region 13 with (fail)
        refine region_anyT (fun X => Blk X g6 32 (u8l n0).toArray ∧ True) (by kernel_rfl) 7 7 rfl ?_
        refine wpAnyT_take (i := 0) (oi := ⟨some 63, _, _, _, _, _⟩) (v := .int .u64 ((a0 : Nat) : Int)) rfl (by kernel_rfl) (by kernel_rfl) (by kernel_rfl) (fun _ _ _ h => h) (by kernel_rfl) (Or.inl ⟨rfl, fun w h => by kernel_rfl⟩) (⟨RI.out.2.2.1, trivial⟩) ?_
        simp only [Act.put, List.setIfInBounds_toArray, List.set_cons_zero, List.set_cons_succ]
        refine wpAnyT_take (i := 1) (oi := ⟨some 64, _, _, _, _, _⟩) (v := .agg (u8l n0).toArray) rfl (by kernel_rfl) (by kernel_rfl) (by kernel_rfl) (fun _ _ _ h => h) (by kernel_rfl) (Or.inl ⟨rfl, fun w h => run_load_mid _ _ _ 32 _ rfl g6 0 rfl (u8l n0) _ (blk_range h.1) Try.underlying32 rfl (by simp only [List.size_toArray, u8l_len, FIN.out.2.2.1] <;> kernel_rfl)⟩) (⟨RI.out.2.2.1, trivial⟩) ?_
        simp only [Act.put, List.setIfInBounds_toArray, List.set_cons_zero, List.set_cons_succ]
        refine wpAnyT_take (i := 2) (oi := ⟨some 65, _, _, _, _, _⟩) (v := .slice va (64 * k) vc) rfl (by kernel_rfl) (by kernel_rfl) (by kernel_rfl) (fun _ _ _ h => h) (by kernel_rfl) (Or.inl ⟨rfl, fun w h => by kernel_rfl⟩) (⟨RI.out.2.2.1, trivial⟩) ?_
        simp only [Act.put, List.setIfInBounds_toArray, List.set_cons_zero, List.set_cons_succ]
        refine wpAnyT_take (i := 3) (oi := ⟨some 66, _, _, _, _, _⟩) (v := .int .u64 ((c0 : Nat) : Int)) rfl (by kernel_rfl) (by kernel_rfl) (by kernel_rfl) (fun _ _ _ h => h) (by kernel_rfl) (Or.inl ⟨rfl, fun w h => by kernel_rfl⟩) (⟨RI.out.2.2.1, trivial⟩) ?_
        simp only [Act.put, List.setIfInBounds_toArray, List.set_cons_zero, List.set_cons_succ]
        refine wpAnyT_take (i := 4) (oi := ⟨some 67, _, _, _, _, _⟩) (v := .slice va c0 vc) rfl (by kernel_rfl) (by kernel_rfl) (by kernel_rfl) (fun _ _ _ h => h) (by kernel_rfl) (Or.inl ⟨rfl, fun w h => run_sltou _ _ _ _ _ va (64 * k) vc c0 (own_form RI.out.2.2.2.1) rfl rfl rfl (by have := FIN.out.2.1; have := EK.out; omega)⟩) (⟨RI.out.2.2.1, trivial⟩) ?_
        simp only [Act.put, List.setIfInBounds_toArray, List.set_cons_zero, List.set_cons_succ]
        refine wpAnyT_take (i := 5) (oi := ⟨some 68, _, _, _, _, _⟩) (v := .agg (stV a0 n0 (.slice va c0 vc)).toArray) rfl (by kernel_rfl) (by kernel_rfl) (by kernel_rfl) (fun _ _ _ h => h) (by kernel_rfl) (Or.inl ⟨rfl, fun w h => run_build42 _ _ _ _ _ _ _ _ _ _ _ FIN.out.2.2.1 rfl rfl rfl rfl⟩) (⟨RI.out.2.2.1, trivial⟩) ?_
        simp only [Act.put, List.setIfInBounds_toArray, List.set_cons_zero, List.set_cons_succ]
        refine wpAnyT_one (i := 6) (by kernel_rfl) ?_
        obtain ⟨W7, hW7⟩ : ∃ V, V = wr.drew.setRow g2 (stV a0 n0 (.slice va c0 vc)).toArray := ⟨_, rfl⟩
        have F7 : Hid (Below w.heap.size w W7 ∧ Blk W7 g2 42 (stV a0 n0 (.slice va c0 vc)).toArray ∧ Blk W7 g6 32 (u8l n0).toArray ∧ Own W7 B (.slice va c0 vc) ((roomL L 0 k).take c0)) := Lib.hid (by have hb := BB.out; have hz := SZ.out; rw [hW7]; exact ⟨below_setRow RI.out.1.drew hz.1 _, setRow_heap _ _ _ _ _ _ RI.out.2.1, (setRow_other _ _ _ _ (fun e => hz.2.2.2.1 e.symm)).trans RI.out.2.2.1, Own.grown (w := wr.drew) (own_take (w := wr.drew) RI.out.2.2.2.1 (by have := FIN.out.2.1; have := EK.out; omega)) (row_gb wr.drew g2 _) (.inr (fun e => by have q := ((own_take RI.out.2.2.2.1 (show c0 ≤ 64 * k by have := FIN.out.2.1; have := EK.out; omega)).lt g2 e).1; omega))⟩)
        refine op_skip (o := ⟨none, _, _, _, _, _⟩) W7 rfl rfl (by rw [hW7]; exact run_store_row _ _ _ 42 _ _ rfl g2 (stV a0 n0 (.slice va c0 vc)).toArray rfl rfl 42 _ RI.out.2.1 (by simp only [List.size_toArray, st_len FIN.out.2.2] <;> kernel_rfl) (by simp only [List.size_toArray, st_len FIN.out.2.2] <;> rfl) (st_one _ _ _ _ _)) ?_
        refine ⟨fun _ => ⟨F7.out.2.2.1, trivial⟩, ?_⟩
        simp only [Act.put, List.setIfInBounds_toArray, List.set_cons_zero, List.set_cons_succ]
        clear hW7
        refine wpAnyT_done (by kernel_rfl) ?_ _
        go_wp2_with fail
        exact bodyPost_ret (results_cell_row rfl _ _ g2 42 _ (0, 0) _ rfl F7.out.2.1 Try.underlying42 rfl (by simp only [List.size_toArray, st_len FIN.out.2.2] <;> kernel_rfl)) rfl (of_post (i := k) LST.out HN.out.1 FIN.out.1 FIN.out.2.2 (by have := FIN.out.2.1; have := EK.out; omega) RK.out FIN.out.2.1 F7.out.1 (F7.out.2.2.2.mono BB.out.1))
  | true =>
    cases z0 with
    | false =>
      have FIN : Hid (opH rm (L.getD 0 []) (L.getD 1 []) = (a1, c1, n1) ∧ c1 ≤ rm * 64 ∧ NtOk n1) := Lib.hid ⟨by rw [op_hd H0.out.1 H1.out.1]; rfl, H1.out.2.2.1, H1.out.2.1⟩
      go_upto_region 4 with (fail)
      refine wp_region_lit ?_
      refine wpL_pure (.bool true) rfl (by kernel_rfl) ?_
      simp only [Act.put, List.setIfInBounds_toArray, List.set_cons_zero, List.set_cons_succ]
      refine wpL_pure (.bool true) rfl (by kernel_rfl) ?_
      simp only [Act.put, List.setIfInBounds_toArray, List.set_cons_zero, List.set_cons_succ]
      refine wpL_pure (.bool false) rfl (by kernel_rfl) ?_
      simp only [Act.put, List.setIfInBounds_toArray, List.set_cons_zero, List.set_cons_succ]
      refine wpL_pure (.bool true) rfl (by kernel_rfl) ?_
      simp only [Act.put, List.setIfInBounds_toArray, List.set_cons_zero, List.set_cons_succ]
      refine wpL_pure (.bool true) rfl (by kernel_rfl) ?_
      simp only [Act.put, List.setIfInBounds_toArray, List.set_cons_zero, List.set_cons_succ]
      refine wpL_skip (by kernel_rfl) ?_
      simp only [Act.put, List.setIfInBounds_toArray, List.set_cons_zero, List.set_cons_succ]
      refine wpL_skip (by kernel_rfl) ?_
      simp only [Act.put, List.setIfInBounds_toArray, List.set_cons_zero, List.set_cons_succ]
      refine wpL_skip (by kernel_rfl) ?_
      simp only [Act.put, List.setIfInBounds_toArray, List.set_cons_zero, List.set_cons_succ]
      refine wpL_pure (.bool true) rfl (by kernel_rfl) ?_
      simp only [Act.put, List.setIfInBounds_toArray, List.set_cons_zero, List.set_cons_succ]
      refine wpL_pure (.bool true) rfl (by kernel_rfl) ?_
      simp only [Act.put, List.setIfInBounds_toArray, List.set_cons_zero, List.set_cons_succ]
      go_upto_region 5 with (fail)
      refine wp_region_lit ?_
      refine wpL_pure (.int .u64 ((a1 : Nat) : Int)) rfl (by kernel_rfl) ?_
      simp only [Act.put, List.setIfInBounds_toArray, List.set_cons_zero, List.set_cons_succ]
      refine wpL_pure (.int .u64 ((a1 : Nat) : Int)) rfl (by kernel_rfl) ?_
      simp only [Act.put, List.setIfInBounds_toArray, List.set_cons_zero, List.set_cons_succ]
      go_upto_region 6 with (fail)
      refine wp_region_lit ?_
      refine wpL_pure (.int .u64 ((c1 : Nat) : Int)) rfl (by kernel_rfl) ?_
      simp only [Act.put, List.setIfInBounds_toArray, List.set_cons_zero, List.set_cons_succ]
      refine wpL_pure (.int .u64 ((c1 : Nat) : Int)) rfl (by kernel_rfl) ?_
      simp only [Act.put, List.setIfInBounds_toArray, List.set_cons_zero, List.set_cons_succ]
      go_upto_region 7 with (fail)
      refine wp_region_lit ?_
      refine wpL_pure (.agg (u8l n1).toArray) rfl (run_load_mid _ _ _ 32 _ rfl g10 0 rfl (u8l n1) _ (blk_range GC1.out.1.2.2.2) Try.underlying32 rfl (by simp only [List.size_toArray, u8l_len, H1.out.2.1.1] <;> kernel_rfl)) ?_
      simp only [Act.put, List.setIfInBounds_toArray, List.set_cons_zero, List.set_cons_succ]
      obtain ⟨D1, hD1⟩ : ∃ V, V = C1.setRow g6 (u8l n1).toArray := ⟨_, rfl⟩
      refine wpList_store_row rfl 32 _ _ rfl g6 (u8l n1).toArray rfl rfl 32 _ GC1.out.1.2.2.1 (by simp only [List.size_toArray, u8l_len, H1.out.2.1.1] <;> kernel_rfl) (by simp only [List.size_toArray, u8l_len, H1.out.2.1.1, H0.out.2.1.1]) (u8l_one _) ?_
      simp only [Act.put, List.setIfInBounds_toArray, List.set_cons_zero, List.set_cons_succ]
      rw [← hD1]
      have FZ : Hid (Below w.heap.size w D1 ∧ Blk D1 g2 42 (stV 0 (List.replicate 16 0) (.slice none 0 0)).toArray ∧ Blk D1 g6 32 (u8l n1).toArray) := Lib.hid (by have hz := SZ.out; rw [hD1]; exact ⟨below_setRow GC1.out.1.1 hz.2.1 _, (setRow_other _ _ _ _ hz.2.2.2.1).trans GC1.out.1.2.1, setRow_heap _ _ _ _ _ _ GC1.out.1.2.2.1⟩)
      clear hD1
      go_upto_region 8 with (fail)
      refine wp_region_lit ?_
      refine wpL_pure (.slice none 0 0) rfl (by kernel_rfl) ?_
      simp only [Act.put, List.setIfInBounds_toArray, List.set_cons_zero, List.set_cons_succ]
      go_upto_region 9 with (fail)
      refine wp_region_lit ?_
      refine wpL_pure (.int .i64 2) rfl (by kernel_rfl) ?_
      simp only [Act.put, List.setIfInBounds_toArray, List.set_cons_zero, List.set_cons_succ]
      obtain ⟨B, hB⟩ : ∃ q, D1.heap.size = q := ⟨_, rfl⟩
      have BB : Hid (w.heap.size ≤ B ∧ g2 < B ∧ g6 < B ∧ B = D1.heap.size) := Lib.hid ⟨by have := FZ.out.1.size; omega, by have := FZ.out.2.1.lt; omega, by have := FZ.out.2.2.lt; omega, hB.symm⟩
      clear hB
      unfold wpList
      go_wp2_with fail
      go_loopw [12, 13] (fun s12 s13 wr => ∃ (k : Nat) (va : Option Addr) (vc : Nat), (s12 = .slice va (64 * k) vc ∧ s13 = .int .i64 ((2 + k : Nat) : Int)) ∧ Hid (k ≤ rm ∧ Below w.heap.size w wr ∧ Blk wr g2 42 (stV 0 (List.replicate 16 0) (.slice none 0 0)).toArray ∧ Blk wr g6 32 (u8l n1).toArray ∧ Own wr B (.slice va (64 * k) vc) (roomL L 0 k) ∧ B ≤ wr.heap.size)) (fun _ s13 _ => 300 - (intOf s13).toNat)
      case atStart => exact ⟨0, none, 0, ⟨rfl, rfl⟩, Lib.hid ⟨by omega, FZ.out.1, FZ.out.2.1, FZ.out.2.2, Own.nil _ _, Nat.le_of_eq BB.out.2.2.2⟩⟩
      case round =>
        obtain ⟨k, va, vc, ⟨rfl, rfl⟩, RI0⟩ := hrel
        have RK := Lib.hid RI0.out.1
        have RI := Lib.hid RI0.out.2
        clear RI0
        by_cases hlt : k < rm
        · have HK := Lib.hid hlt
          clear hlt
          go_upto_region 10 with (fail)
          refine wp_region_lit ?_
          refine wpL_pure (.int .i64 ((2 + k : Nat) : Int)) rfl (by kernel_rfl) ?_
          simp only [Act.put, List.setIfInBounds_toArray, List.set_cons_zero, List.set_cons_succ]
          refine wpL_pure (.slice (some ⟨gr, 0, none⟩) nn cc) rfl (by kernel_rfl) ?_
          simp only [Act.put, List.setIfInBounds_toArray, List.set_cons_zero, List.set_cons_succ]
          refine wpL_pure (.int .i64 (nn : Int)) rfl (by kernel_rfl) ?_
          simp only [Act.put, List.setIfInBounds_toArray, List.set_cons_zero, List.set_cons_succ]
          refine wpL_pure (.bool true) rfl (run_lti Try.underlying3 rfl rfl rfl (by have := HK.out; have := HN.out; rw [decide_eq_true_eq]; omega)) ?_
          simp only [Act.put, List.setIfInBounds_toArray, List.set_cons_zero, List.set_cons_succ]
          obtain ⟨qk, xk, hck, cbk, hrk⟩ := (HS.out.below RI.out.1).2 (2 + k) (by have := HK.out; have := HN.out; omega)
          have HCK := Lib.hid hck
          have HRK := Lib.hid hrk
          clear hck cbk hrk
          have RLN : Hid ((roomL L 0 k).length = 64 * k) := Lib.hid (roomL_len (fun j hj => LST.out _ (by have := HN.out; have := HK.out; omega)))
          go_upto_region 12 with (fail)
          refine wp_region_lit ?_
          refine wpL_pure (.slice va (64 * k) vc) rfl (by kernel_rfl) ?_
          simp only [Act.put, List.setIfInBounds_toArray, List.set_cons_zero, List.set_cons_succ]
          refine wpL_pure (.slice (some ⟨gr, 0, none⟩) nn cc) rfl (by kernel_rfl) ?_
          simp only [Act.put, List.setIfInBounds_toArray, List.set_cons_zero, List.set_cons_succ]
          refine wpL_pure (.int .i64 ((2 + k : Nat) : Int)) rfl (by kernel_rfl) ?_
          simp only [Act.put, List.setIfInBounds_toArray, List.set_cons_zero, List.set_cons_succ]
          refine wpL_pure (.pointer (some ⟨gr, 0 + (2 + k), none⟩)) rfl (run_idxp _ _ _ _ _ gr 0 nn cc (2 + k) rfl rfl rfl (by have := HN.out; have := HK.out; omega) (by have := HN.out; unfold maxLen; omega)) ?_
          simp only [Act.put, List.setIfInBounds_toArray, List.set_cons_zero, List.set_cons_succ]
          refine wpL_pure (.slice (some ⟨qk, 0, none⟩) 64 xk) rfl (run_load_one _ _ _ 26 _ _ rfl gr (0 + (2 + k)) rfl (by rw [Nat.zero_add]; exact HCK.out) (by kernel_rfl)) ?_
          simp only [Act.put, List.setIfInBounds_toArray, List.set_cons_zero, List.set_cons_succ]
          obtain ⟨v6, W6, r1, r2, r3, r4, r5⟩ := append_own wr (B) ((.slice va (64 * k) vc)) (roomL L 0 k) (L.getD (2 + k) []) (some ⟨qk, 0, none⟩) 64 xk (RI.out.2.2.2.1) (HRK.out) (by rw [RLN.out]; have := HK.out; have := HN.out; omega) (RI.out.2.2.2.2)
          have R1 := Lib.hid r1
          obtain ⟨xa, xc, e4⟩ := r2.slice
          have e5 : v6 = .slice xa (64 * (k + 1)) xc := by rw [e4, List.length_append, RLN.out, HRK.out.1]; rfl
          subst e5
          have F6 : Hid (Below w.heap.size w W6 ∧ Blk W6 g2 42 (stV 0 (List.replicate 16 0) (.slice none 0 0)).toArray ∧ Blk W6 g6 32 (u8l n1).toArray ∧ Own W6 B (.slice xa (64 * (k + 1)) xc) (roomL L 0 (k + 1)) ∧ B ≤ W6.heap.size) := Lib.hid (by have nz : ∀ q, (Value.slice va (64 * k) vc).ownBlock = some q → B ≤ q := fun q hk => (RI.out.2.2.2.1.lt q hk).1; have hb := BB.out; exact ⟨RI.out.1.grown r3 RI.out.1.size (fun j hj => by have := nz j hj; omega), RI.out.2.1.grown r3 (fun z => by have := nz g2 z.symm; omega), RI.out.2.2.1.grown r3 (fun z => by have := nz g6 z.symm; omega), by rw [roomL, Nat.zero_add]; exact r2, Nat.le_trans RI.out.2.2.2.2 r3.size⟩)
          clear r1 r2 r3 r4 r5
          refine wpL_value (.slice xa (64 * (k + 1)) xc) W6 rfl (run_app _ _ _ _ _ _ _ _ _ rfl rfl rfl rfl R1.out) ?_
          simp only [Act.put, List.setIfInBounds_toArray, List.set_cons_zero, List.set_cons_succ]
          clear R1
          refine wpL_pure (.slice xa (64 * (k + 1)) xc) rfl (by kernel_rfl) ?_
          simp only [Act.put, List.setIfInBounds_toArray, List.set_cons_zero, List.set_cons_succ]
          go_upto_region 11 with (fail)
          refine wp_region_lit ?_
          refine wpL_pure (.int .i64 ((2 + k : Nat) : Int)) rfl (by kernel_rfl) ?_
          simp only [Act.put, List.setIfInBounds_toArray, List.set_cons_zero, List.set_cons_succ]
          refine wpL_pure (.int .i64 ((2 + (k + 1) : Nat) : Int)) rfl (run_addi Try.underlying3 rfl rfl rfl _ (by have := HK.out; have := HN.out; rw [wrap_in _ (by omega) (by omega)]; omega)) ?_
          simp only [Act.put, List.setIfInBounds_toArray, List.set_cons_zero, List.set_cons_succ]
          refine wpL_pure (.int .i64 ((2 + (k + 1) : Nat) : Int)) rfl (by kernel_rfl) ?_
          simp only [Act.put, List.setIfInBounds_toArray, List.set_cons_zero, List.set_cons_succ]
          have NX : Hid (k + 1 ≤ rm ∧ Below w.heap.size w W6 ∧ Blk W6 g2 42 (stV 0 (List.replicate 16 0) (.slice none 0 0)).toArray ∧ Blk W6 g6 32 (u8l n1).toArray ∧ Own W6 B (.slice xa (64 * (k + 1)) xc) (roomL L 0 (k + 1)) ∧ B ≤ W6.heap.size) := Lib.hid ⟨HK.out, F6.out⟩
          unfold wpList
          go_roundw
          case rel => first | exact ⟨_, _, _, ⟨rfl, rfl⟩, NX⟩ | ((repeat apply Exists.intro); exact ⟨⟨_, _, _, ⟨rfl, rfl⟩, NX⟩, rfl⟩)
          case measure => simp [intOf]; have := HK.out; have := HN.out; omega
        · have EK : Hid (k = rm) := Lib.hid (by have := RK.out; omega)
          clear hlt
          have RLN : Hid ((roomL L 0 k).length = 64 * k) := Lib.hid (roomL_len (fun j hj => LST.out _ (by have := HN.out; have := RK.out; omega)))
          go_upto_region 10 with (fail)
          refine wp_region_lit ?_
          refine wpL_pure (.int .i64 ((2 + k : Nat) : Int)) rfl (by kernel_rfl) ?_
          simp only [Act.put, List.setIfInBounds_toArray, List.set_cons_zero, List.set_cons_succ]
          refine wpL_pure (.slice (some ⟨gr, 0, none⟩) nn cc) rfl (by kernel_rfl) ?_
          simp only [Act.put, List.setIfInBounds_toArray, List.set_cons_zero, List.set_cons_succ]
          refine wpL_pure (.int .i64 (nn : Int)) rfl (by kernel_rfl) ?_
          simp only [Act.put, List.setIfInBounds_toArray, List.set_cons_zero, List.set_cons_succ]
          refine wpL_pure (.bool false) rfl (run_lti Try.underlying3 rfl rfl rfl (by have := EK.out; have := HN.out; rw [decide_eq_false_iff_not]; omega)) ?_
          simp only [Act.put, List.setIfInBounds_toArray, List.set_cons_zero, List.set_cons_succ]
          go_upto_region 13 with (fail)
          refine region_anyT (fun X => Blk X g6 32 (u8l n1).toArray ∧ True) (by kernel_rfl) 7 7 rfl ?_
          refine wpAnyT_take (i := 0) (oi := ⟨some 63, _, _, _, _, _⟩) (v := .int .u64 ((a1 : Nat) : Int)) rfl (by kernel_rfl) (by kernel_rfl) (by kernel_rfl) (fun _ _ _ h => h) (by kernel_rfl) (Or.inl ⟨rfl, fun w h => by kernel_rfl⟩) (⟨RI.out.2.2.1, trivial⟩) ?_
          simp only [Act.put, List.setIfInBounds_toArray, List.set_cons_zero, List.set_cons_succ]
          refine wpAnyT_take (i := 1) (oi := ⟨some 64, _, _, _, _, _⟩) (v := .agg (u8l n1).toArray) rfl (by kernel_rfl) (by kernel_rfl) (by kernel_rfl) (fun _ _ _ h => h) (by kernel_rfl) (Or.inl ⟨rfl, fun w h => run_load_mid _ _ _ 32 _ rfl g6 0 rfl (u8l n1) _ (blk_range h.1) Try.underlying32 rfl (by simp only [List.size_toArray, u8l_len, FIN.out.2.2.1] <;> kernel_rfl)⟩) (⟨RI.out.2.2.1, trivial⟩) ?_
          simp only [Act.put, List.setIfInBounds_toArray, List.set_cons_zero, List.set_cons_succ]
          refine wpAnyT_take (i := 2) (oi := ⟨some 65, _, _, _, _, _⟩) (v := .slice va (64 * k) vc) rfl (by kernel_rfl) (by kernel_rfl) (by kernel_rfl) (fun _ _ _ h => h) (by kernel_rfl) (Or.inl ⟨rfl, fun w h => by kernel_rfl⟩) (⟨RI.out.2.2.1, trivial⟩) ?_
          simp only [Act.put, List.setIfInBounds_toArray, List.set_cons_zero, List.set_cons_succ]
          refine wpAnyT_take (i := 3) (oi := ⟨some 66, _, _, _, _, _⟩) (v := .int .u64 ((c1 : Nat) : Int)) rfl (by kernel_rfl) (by kernel_rfl) (by kernel_rfl) (fun _ _ _ h => h) (by kernel_rfl) (Or.inl ⟨rfl, fun w h => by kernel_rfl⟩) (⟨RI.out.2.2.1, trivial⟩) ?_
          simp only [Act.put, List.setIfInBounds_toArray, List.set_cons_zero, List.set_cons_succ]
          refine wpAnyT_take (i := 4) (oi := ⟨some 67, _, _, _, _, _⟩) (v := .slice va c1 vc) rfl (by kernel_rfl) (by kernel_rfl) (by kernel_rfl) (fun _ _ _ h => h) (by kernel_rfl) (Or.inl ⟨rfl, fun w h => run_sltou _ _ _ _ _ va (64 * k) vc c1 (own_form RI.out.2.2.2.1) rfl rfl rfl (by have := FIN.out.2.1; have := EK.out; omega)⟩) (⟨RI.out.2.2.1, trivial⟩) ?_
          simp only [Act.put, List.setIfInBounds_toArray, List.set_cons_zero, List.set_cons_succ]
          refine wpAnyT_take (i := 5) (oi := ⟨some 68, _, _, _, _, _⟩) (v := .agg (stV a1 n1 (.slice va c1 vc)).toArray) rfl (by kernel_rfl) (by kernel_rfl) (by kernel_rfl) (fun _ _ _ h => h) (by kernel_rfl) (Or.inl ⟨rfl, fun w h => run_build42 _ _ _ _ _ _ _ _ _ _ _ FIN.out.2.2.1 rfl rfl rfl rfl⟩) (⟨RI.out.2.2.1, trivial⟩) ?_
          simp only [Act.put, List.setIfInBounds_toArray, List.set_cons_zero, List.set_cons_succ]
          refine wpAnyT_one (i := 6) (by kernel_rfl) ?_
          obtain ⟨W7, hW7⟩ : ∃ V, V = wr.drew.setRow g2 (stV a1 n1 (.slice va c1 vc)).toArray := ⟨_, rfl⟩
          have F7 : Hid (Below w.heap.size w W7 ∧ Blk W7 g2 42 (stV a1 n1 (.slice va c1 vc)).toArray ∧ Blk W7 g6 32 (u8l n1).toArray ∧ Own W7 B (.slice va c1 vc) ((roomL L 0 k).take c1)) := Lib.hid (by have hb := BB.out; have hz := SZ.out; rw [hW7]; exact ⟨below_setRow RI.out.1.drew hz.1 _, setRow_heap _ _ _ _ _ _ RI.out.2.1, (setRow_other _ _ _ _ (fun e => hz.2.2.2.1 e.symm)).trans RI.out.2.2.1, Own.grown (w := wr.drew) (own_take (w := wr.drew) RI.out.2.2.2.1 (by have := FIN.out.2.1; have := EK.out; omega)) (row_gb wr.drew g2 _) (.inr (fun e => by have q := ((own_take RI.out.2.2.2.1 (show c1 ≤ 64 * k by have := FIN.out.2.1; have := EK.out; omega)).lt g2 e).1; omega))⟩)
          refine op_skip (o := ⟨none, _, _, _, _, _⟩) W7 rfl rfl (by rw [hW7]; exact run_store_row _ _ _ 42 _ _ rfl g2 (stV a1 n1 (.slice va c1 vc)).toArray rfl rfl 42 _ RI.out.2.1 (by simp only [List.size_toArray, st_len FIN.out.2.2] <;> kernel_rfl) (by simp only [List.size_toArray, st_len FIN.out.2.2] <;> rfl) (st_one _ _ _ _ _)) ?_
          refine ⟨fun _ => ⟨F7.out.2.2.1, trivial⟩, ?_⟩
          simp only [Act.put, List.setIfInBounds_toArray, List.set_cons_zero, List.set_cons_succ]
          clear hW7
          refine wpAnyT_done (by kernel_rfl) ?_ _
          go_wp2_with fail
          exact bodyPost_ret (results_cell_row rfl _ _ g2 42 _ (0, 0) _ rfl F7.out.2.1 Try.underlying42 rfl (by simp only [List.size_toArray, st_len FIN.out.2.2] <;> kernel_rfl)) rfl (of_post (i := k) LST.out HN.out.1 FIN.out.1 FIN.out.2.2 (by have := FIN.out.2.1; have := EK.out; omega) RK.out FIN.out.2.1 F7.out.1 (F7.out.2.2.2.mono BB.out.1))
    | true =>
      by_cases hg : a0 < a1
      · have HG := Lib.hid hg
        have FIN : Hid (opH rm (L.getD 0 []) (L.getD 1 []) = (a1, c1, n1) ∧ c1 ≤ rm * 64 ∧ NtOk n1) := Lib.hid ⟨by rw [op_hd H0.out.1 H1.out.1]; rw [decide_eq_true HG.out]; rfl, H1.out.2.2.1, H1.out.2.1⟩
        clear hg
        go_upto_region 4 with (fail)
        refine wp_region_lit ?_
        refine wpL_pure (.bool true) rfl (by kernel_rfl) ?_
        simp only [Act.put, List.setIfInBounds_toArray, List.set_cons_zero, List.set_cons_succ]
        refine wpL_pure (.bool true) rfl (by kernel_rfl) ?_
        simp only [Act.put, List.setIfInBounds_toArray, List.set_cons_zero, List.set_cons_succ]
        refine wpL_pure (.bool true) rfl (by kernel_rfl) ?_
        simp only [Act.put, List.setIfInBounds_toArray, List.set_cons_zero, List.set_cons_succ]
        refine wpL_pure (.bool false) rfl (by kernel_rfl) ?_
        simp only [Act.put, List.setIfInBounds_toArray, List.set_cons_zero, List.set_cons_succ]
        refine wpL_pure (.bool false) rfl (by kernel_rfl) ?_
        simp only [Act.put, List.setIfInBounds_toArray, List.set_cons_zero, List.set_cons_succ]
        refine wpL_pure (.int .u64 ((a1 : Nat) : Int)) rfl (by kernel_rfl) ?_
        simp only [Act.put, List.setIfInBounds_toArray, List.set_cons_zero, List.set_cons_succ]
        refine wpL_pure (.int .u64 ((a0 : Nat) : Int)) rfl (by kernel_rfl) ?_
        simp only [Act.put, List.setIfInBounds_toArray, List.set_cons_zero, List.set_cons_succ]
        refine wpL_pure (.bool true) rfl (run_gti Try.underlying35 rfl rfl rfl (by have := HG.out; rw [decide_eq_true_eq]; omega)) ?_
        simp only [Act.put, List.setIfInBounds_toArray, List.set_cons_zero, List.set_cons_succ]
        refine wpL_pure (.bool true) rfl (by kernel_rfl) ?_
        simp only [Act.put, List.setIfInBounds_toArray, List.set_cons_zero, List.set_cons_succ]
        refine wpL_pure (.bool true) rfl (by kernel_rfl) ?_
        simp only [Act.put, List.setIfInBounds_toArray, List.set_cons_zero, List.set_cons_succ]
        go_upto_region 5 with (fail)
        refine wp_region_lit ?_
        refine wpL_pure (.int .u64 ((a1 : Nat) : Int)) rfl (by kernel_rfl) ?_
        simp only [Act.put, List.setIfInBounds_toArray, List.set_cons_zero, List.set_cons_succ]
        refine wpL_pure (.int .u64 ((a1 : Nat) : Int)) rfl (by kernel_rfl) ?_
        simp only [Act.put, List.setIfInBounds_toArray, List.set_cons_zero, List.set_cons_succ]
        go_upto_region 6 with (fail)
        refine wp_region_lit ?_
        refine wpL_pure (.int .u64 ((c1 : Nat) : Int)) rfl (by kernel_rfl) ?_
        simp only [Act.put, List.setIfInBounds_toArray, List.set_cons_zero, List.set_cons_succ]
        refine wpL_pure (.int .u64 ((c1 : Nat) : Int)) rfl (by kernel_rfl) ?_
        simp only [Act.put, List.setIfInBounds_toArray, List.set_cons_zero, List.set_cons_succ]
        go_upto_region 7 with (fail)
        refine wp_region_lit ?_
        refine wpL_pure (.agg (u8l n1).toArray) rfl (run_load_mid _ _ _ 32 _ rfl g10 0 rfl (u8l n1) _ (blk_range GC1.out.1.2.2.2) Try.underlying32 rfl (by simp only [List.size_toArray, u8l_len, H1.out.2.1.1] <;> kernel_rfl)) ?_
        simp only [Act.put, List.setIfInBounds_toArray, List.set_cons_zero, List.set_cons_succ]
        obtain ⟨D1, hD1⟩ : ∃ V, V = C1.setRow g6 (u8l n1).toArray := ⟨_, rfl⟩
        refine wpList_store_row rfl 32 _ _ rfl g6 (u8l n1).toArray rfl rfl 32 _ GC1.out.1.2.2.1 (by simp only [List.size_toArray, u8l_len, H1.out.2.1.1] <;> kernel_rfl) (by simp only [List.size_toArray, u8l_len, H1.out.2.1.1, H0.out.2.1.1]) (u8l_one _) ?_
        simp only [Act.put, List.setIfInBounds_toArray, List.set_cons_zero, List.set_cons_succ]
        rw [← hD1]
        have FZ : Hid (Below w.heap.size w D1 ∧ Blk D1 g2 42 (stV 0 (List.replicate 16 0) (.slice none 0 0)).toArray ∧ Blk D1 g6 32 (u8l n1).toArray) := Lib.hid (by have hz := SZ.out; rw [hD1]; exact ⟨below_setRow GC1.out.1.1 hz.2.1 _, (setRow_other _ _ _ _ hz.2.2.2.1).trans GC1.out.1.2.1, setRow_heap _ _ _ _ _ _ GC1.out.1.2.2.1⟩)
        clear hD1
        go_upto_region 8 with (fail)
        refine wp_region_lit ?_
        refine wpL_pure (.slice none 0 0) rfl (by kernel_rfl) ?_
        simp only [Act.put, List.setIfInBounds_toArray, List.set_cons_zero, List.set_cons_succ]
        go_upto_region 9 with (fail)
        refine wp_region_lit ?_
        refine wpL_pure (.int .i64 2) rfl (by kernel_rfl) ?_
        simp only [Act.put, List.setIfInBounds_toArray, List.set_cons_zero, List.set_cons_succ]
        obtain ⟨B, hB⟩ : ∃ q, D1.heap.size = q := ⟨_, rfl⟩
        have BB : Hid (w.heap.size ≤ B ∧ g2 < B ∧ g6 < B ∧ B = D1.heap.size) := Lib.hid ⟨by have := FZ.out.1.size; omega, by have := FZ.out.2.1.lt; omega, by have := FZ.out.2.2.lt; omega, hB.symm⟩
        clear hB
        unfold wpList
        go_wp2_with fail
        go_loopw [12, 13] (fun s12 s13 wr => ∃ (k : Nat) (va : Option Addr) (vc : Nat), (s12 = .slice va (64 * k) vc ∧ s13 = .int .i64 ((2 + k : Nat) : Int)) ∧ Hid (k ≤ rm ∧ Below w.heap.size w wr ∧ Blk wr g2 42 (stV 0 (List.replicate 16 0) (.slice none 0 0)).toArray ∧ Blk wr g6 32 (u8l n1).toArray ∧ Own wr B (.slice va (64 * k) vc) (roomL L 0 k) ∧ B ≤ wr.heap.size)) (fun _ s13 _ => 300 - (intOf s13).toNat)
        case atStart => exact ⟨0, none, 0, ⟨rfl, rfl⟩, Lib.hid ⟨by omega, FZ.out.1, FZ.out.2.1, FZ.out.2.2, Own.nil _ _, Nat.le_of_eq BB.out.2.2.2⟩⟩
        case round =>
          obtain ⟨k, va, vc, ⟨rfl, rfl⟩, RI0⟩ := hrel
          have RK := Lib.hid RI0.out.1
          have RI := Lib.hid RI0.out.2
          clear RI0
          by_cases hlt : k < rm
          · have HK := Lib.hid hlt
            clear hlt
            go_upto_region 10 with (fail)
            refine wp_region_lit ?_
            refine wpL_pure (.int .i64 ((2 + k : Nat) : Int)) rfl (by kernel_rfl) ?_
            simp only [Act.put, List.setIfInBounds_toArray, List.set_cons_zero, List.set_cons_succ]
            refine wpL_pure (.slice (some ⟨gr, 0, none⟩) nn cc) rfl (by kernel_rfl) ?_
            simp only [Act.put, List.setIfInBounds_toArray, List.set_cons_zero, List.set_cons_succ]
            refine wpL_pure (.int .i64 (nn : Int)) rfl (by kernel_rfl) ?_
            simp only [Act.put, List.setIfInBounds_toArray, List.set_cons_zero, List.set_cons_succ]
            refine wpL_pure (.bool true) rfl (run_lti Try.underlying3 rfl rfl rfl (by have := HK.out; have := HN.out; rw [decide_eq_true_eq]; omega)) ?_
            simp only [Act.put, List.setIfInBounds_toArray, List.set_cons_zero, List.set_cons_succ]
            obtain ⟨qk, xk, hck, cbk, hrk⟩ := (HS.out.below RI.out.1).2 (2 + k) (by have := HK.out; have := HN.out; omega)
            have HCK := Lib.hid hck
            have HRK := Lib.hid hrk
            clear hck cbk hrk
            have RLN : Hid ((roomL L 0 k).length = 64 * k) := Lib.hid (roomL_len (fun j hj => LST.out _ (by have := HN.out; have := HK.out; omega)))
            go_upto_region 12 with (fail)
            refine wp_region_lit ?_
            refine wpL_pure (.slice va (64 * k) vc) rfl (by kernel_rfl) ?_
            simp only [Act.put, List.setIfInBounds_toArray, List.set_cons_zero, List.set_cons_succ]
            refine wpL_pure (.slice (some ⟨gr, 0, none⟩) nn cc) rfl (by kernel_rfl) ?_
            simp only [Act.put, List.setIfInBounds_toArray, List.set_cons_zero, List.set_cons_succ]
            refine wpL_pure (.int .i64 ((2 + k : Nat) : Int)) rfl (by kernel_rfl) ?_
            simp only [Act.put, List.setIfInBounds_toArray, List.set_cons_zero, List.set_cons_succ]
            refine wpL_pure (.pointer (some ⟨gr, 0 + (2 + k), none⟩)) rfl (run_idxp _ _ _ _ _ gr 0 nn cc (2 + k) rfl rfl rfl (by have := HN.out; have := HK.out; omega) (by have := HN.out; unfold maxLen; omega)) ?_
            simp only [Act.put, List.setIfInBounds_toArray, List.set_cons_zero, List.set_cons_succ]
            refine wpL_pure (.slice (some ⟨qk, 0, none⟩) 64 xk) rfl (run_load_one _ _ _ 26 _ _ rfl gr (0 + (2 + k)) rfl (by rw [Nat.zero_add]; exact HCK.out) (by kernel_rfl)) ?_
            simp only [Act.put, List.setIfInBounds_toArray, List.set_cons_zero, List.set_cons_succ]
            obtain ⟨v6, W6, r1, r2, r3, r4, r5⟩ := append_own wr (B) ((.slice va (64 * k) vc)) (roomL L 0 k) (L.getD (2 + k) []) (some ⟨qk, 0, none⟩) 64 xk (RI.out.2.2.2.1) (HRK.out) (by rw [RLN.out]; have := HK.out; have := HN.out; omega) (RI.out.2.2.2.2)
            have R1 := Lib.hid r1
            obtain ⟨xa, xc, e4⟩ := r2.slice
            have e5 : v6 = .slice xa (64 * (k + 1)) xc := by rw [e4, List.length_append, RLN.out, HRK.out.1]; rfl
            subst e5
            have F6 : Hid (Below w.heap.size w W6 ∧ Blk W6 g2 42 (stV 0 (List.replicate 16 0) (.slice none 0 0)).toArray ∧ Blk W6 g6 32 (u8l n1).toArray ∧ Own W6 B (.slice xa (64 * (k + 1)) xc) (roomL L 0 (k + 1)) ∧ B ≤ W6.heap.size) := Lib.hid (by have nz : ∀ q, (Value.slice va (64 * k) vc).ownBlock = some q → B ≤ q := fun q hk => (RI.out.2.2.2.1.lt q hk).1; have hb := BB.out; exact ⟨RI.out.1.grown r3 RI.out.1.size (fun j hj => by have := nz j hj; omega), RI.out.2.1.grown r3 (fun z => by have := nz g2 z.symm; omega), RI.out.2.2.1.grown r3 (fun z => by have := nz g6 z.symm; omega), by rw [roomL, Nat.zero_add]; exact r2, Nat.le_trans RI.out.2.2.2.2 r3.size⟩)
            clear r1 r2 r3 r4 r5
            refine wpL_value (.slice xa (64 * (k + 1)) xc) W6 rfl (run_app _ _ _ _ _ _ _ _ _ rfl rfl rfl rfl R1.out) ?_
            simp only [Act.put, List.setIfInBounds_toArray, List.set_cons_zero, List.set_cons_succ]
            clear R1
            refine wpL_pure (.slice xa (64 * (k + 1)) xc) rfl (by kernel_rfl) ?_
            simp only [Act.put, List.setIfInBounds_toArray, List.set_cons_zero, List.set_cons_succ]
            go_upto_region 11 with (fail)
            refine wp_region_lit ?_
            refine wpL_pure (.int .i64 ((2 + k : Nat) : Int)) rfl (by kernel_rfl) ?_
            simp only [Act.put, List.setIfInBounds_toArray, List.set_cons_zero, List.set_cons_succ]
            refine wpL_pure (.int .i64 ((2 + (k + 1) : Nat) : Int)) rfl (run_addi Try.underlying3 rfl rfl rfl _ (by have := HK.out; have := HN.out; rw [wrap_in _ (by omega) (by omega)]; omega)) ?_
            simp only [Act.put, List.setIfInBounds_toArray, List.set_cons_zero, List.set_cons_succ]
            refine wpL_pure (.int .i64 ((2 + (k + 1) : Nat) : Int)) rfl (by kernel_rfl) ?_
            simp only [Act.put, List.setIfInBounds_toArray, List.set_cons_zero, List.set_cons_succ]
            have NX : Hid (k + 1 ≤ rm ∧ Below w.heap.size w W6 ∧ Blk W6 g2 42 (stV 0 (List.replicate 16 0) (.slice none 0 0)).toArray ∧ Blk W6 g6 32 (u8l n1).toArray ∧ Own W6 B (.slice xa (64 * (k + 1)) xc) (roomL L 0 (k + 1)) ∧ B ≤ W6.heap.size) := Lib.hid ⟨HK.out, F6.out⟩
            unfold wpList
            go_roundw
            case rel => first | exact ⟨_, _, _, ⟨rfl, rfl⟩, NX⟩ | ((repeat apply Exists.intro); exact ⟨⟨_, _, _, ⟨rfl, rfl⟩, NX⟩, rfl⟩)
            case measure => simp [intOf]; have := HK.out; have := HN.out; omega
          · have EK : Hid (k = rm) := Lib.hid (by have := RK.out; omega)
            clear hlt
            have RLN : Hid ((roomL L 0 k).length = 64 * k) := Lib.hid (roomL_len (fun j hj => LST.out _ (by have := HN.out; have := RK.out; omega)))
            go_upto_region 10 with (fail)
            refine wp_region_lit ?_
            refine wpL_pure (.int .i64 ((2 + k : Nat) : Int)) rfl (by kernel_rfl) ?_
            simp only [Act.put, List.setIfInBounds_toArray, List.set_cons_zero, List.set_cons_succ]
            refine wpL_pure (.slice (some ⟨gr, 0, none⟩) nn cc) rfl (by kernel_rfl) ?_
            simp only [Act.put, List.setIfInBounds_toArray, List.set_cons_zero, List.set_cons_succ]
            refine wpL_pure (.int .i64 (nn : Int)) rfl (by kernel_rfl) ?_
            simp only [Act.put, List.setIfInBounds_toArray, List.set_cons_zero, List.set_cons_succ]
            refine wpL_pure (.bool false) rfl (run_lti Try.underlying3 rfl rfl rfl (by have := EK.out; have := HN.out; rw [decide_eq_false_iff_not]; omega)) ?_
            simp only [Act.put, List.setIfInBounds_toArray, List.set_cons_zero, List.set_cons_succ]
            go_upto_region 13 with (fail)
            refine region_anyT (fun X => Blk X g6 32 (u8l n1).toArray ∧ True) (by kernel_rfl) 7 7 rfl ?_
            refine wpAnyT_take (i := 0) (oi := ⟨some 63, _, _, _, _, _⟩) (v := .int .u64 ((a1 : Nat) : Int)) rfl (by kernel_rfl) (by kernel_rfl) (by kernel_rfl) (fun _ _ _ h => h) (by kernel_rfl) (Or.inl ⟨rfl, fun w h => by kernel_rfl⟩) (⟨RI.out.2.2.1, trivial⟩) ?_
            simp only [Act.put, List.setIfInBounds_toArray, List.set_cons_zero, List.set_cons_succ]
            refine wpAnyT_take (i := 1) (oi := ⟨some 64, _, _, _, _, _⟩) (v := .agg (u8l n1).toArray) rfl (by kernel_rfl) (by kernel_rfl) (by kernel_rfl) (fun _ _ _ h => h) (by kernel_rfl) (Or.inl ⟨rfl, fun w h => run_load_mid _ _ _ 32 _ rfl g6 0 rfl (u8l n1) _ (blk_range h.1) Try.underlying32 rfl (by simp only [List.size_toArray, u8l_len, FIN.out.2.2.1] <;> kernel_rfl)⟩) (⟨RI.out.2.2.1, trivial⟩) ?_
            simp only [Act.put, List.setIfInBounds_toArray, List.set_cons_zero, List.set_cons_succ]
            refine wpAnyT_take (i := 2) (oi := ⟨some 65, _, _, _, _, _⟩) (v := .slice va (64 * k) vc) rfl (by kernel_rfl) (by kernel_rfl) (by kernel_rfl) (fun _ _ _ h => h) (by kernel_rfl) (Or.inl ⟨rfl, fun w h => by kernel_rfl⟩) (⟨RI.out.2.2.1, trivial⟩) ?_
            simp only [Act.put, List.setIfInBounds_toArray, List.set_cons_zero, List.set_cons_succ]
            refine wpAnyT_take (i := 3) (oi := ⟨some 66, _, _, _, _, _⟩) (v := .int .u64 ((c1 : Nat) : Int)) rfl (by kernel_rfl) (by kernel_rfl) (by kernel_rfl) (fun _ _ _ h => h) (by kernel_rfl) (Or.inl ⟨rfl, fun w h => by kernel_rfl⟩) (⟨RI.out.2.2.1, trivial⟩) ?_
            simp only [Act.put, List.setIfInBounds_toArray, List.set_cons_zero, List.set_cons_succ]
            refine wpAnyT_take (i := 4) (oi := ⟨some 67, _, _, _, _, _⟩) (v := .slice va c1 vc) rfl (by kernel_rfl) (by kernel_rfl) (by kernel_rfl) (fun _ _ _ h => h) (by kernel_rfl) (Or.inl ⟨rfl, fun w h => run_sltou _ _ _ _ _ va (64 * k) vc c1 (own_form RI.out.2.2.2.1) rfl rfl rfl (by have := FIN.out.2.1; have := EK.out; omega)⟩) (⟨RI.out.2.2.1, trivial⟩) ?_
            simp only [Act.put, List.setIfInBounds_toArray, List.set_cons_zero, List.set_cons_succ]
            refine wpAnyT_take (i := 5) (oi := ⟨some 68, _, _, _, _, _⟩) (v := .agg (stV a1 n1 (.slice va c1 vc)).toArray) rfl (by kernel_rfl) (by kernel_rfl) (by kernel_rfl) (fun _ _ _ h => h) (by kernel_rfl) (Or.inl ⟨rfl, fun w h => run_build42 _ _ _ _ _ _ _ _ _ _ _ FIN.out.2.2.1 rfl rfl rfl rfl⟩) (⟨RI.out.2.2.1, trivial⟩) ?_
            simp only [Act.put, List.setIfInBounds_toArray, List.set_cons_zero, List.set_cons_succ]
            refine wpAnyT_one (i := 6) (by kernel_rfl) ?_
            obtain ⟨W7, hW7⟩ : ∃ V, V = wr.drew.setRow g2 (stV a1 n1 (.slice va c1 vc)).toArray := ⟨_, rfl⟩
            have F7 : Hid (Below w.heap.size w W7 ∧ Blk W7 g2 42 (stV a1 n1 (.slice va c1 vc)).toArray ∧ Blk W7 g6 32 (u8l n1).toArray ∧ Own W7 B (.slice va c1 vc) ((roomL L 0 k).take c1)) := Lib.hid (by have hb := BB.out; have hz := SZ.out; rw [hW7]; exact ⟨below_setRow RI.out.1.drew hz.1 _, setRow_heap _ _ _ _ _ _ RI.out.2.1, (setRow_other _ _ _ _ (fun e => hz.2.2.2.1 e.symm)).trans RI.out.2.2.1, Own.grown (w := wr.drew) (own_take (w := wr.drew) RI.out.2.2.2.1 (by have := FIN.out.2.1; have := EK.out; omega)) (row_gb wr.drew g2 _) (.inr (fun e => by have q := ((own_take RI.out.2.2.2.1 (show c1 ≤ 64 * k by have := FIN.out.2.1; have := EK.out; omega)).lt g2 e).1; omega))⟩)
            refine op_skip (o := ⟨none, _, _, _, _, _⟩) W7 rfl rfl (by rw [hW7]; exact run_store_row _ _ _ 42 _ _ rfl g2 (stV a1 n1 (.slice va c1 vc)).toArray rfl rfl 42 _ RI.out.2.1 (by simp only [List.size_toArray, st_len FIN.out.2.2] <;> kernel_rfl) (by simp only [List.size_toArray, st_len FIN.out.2.2] <;> rfl) (st_one _ _ _ _ _)) ?_
            refine ⟨fun _ => ⟨F7.out.2.2.1, trivial⟩, ?_⟩
            simp only [Act.put, List.setIfInBounds_toArray, List.set_cons_zero, List.set_cons_succ]
            clear hW7
            refine wpAnyT_done (by kernel_rfl) ?_ _
            go_wp2_with fail
            exact bodyPost_ret (results_cell_row rfl _ _ g2 42 _ (0, 0) _ rfl F7.out.2.1 Try.underlying42 rfl (by simp only [List.size_toArray, st_len FIN.out.2.2] <;> kernel_rfl)) rfl (of_post (i := k) LST.out HN.out.1 FIN.out.1 FIN.out.2.2 (by have := FIN.out.2.1; have := EK.out; omega) RK.out FIN.out.2.1 F7.out.1 (F7.out.2.2.2.mono BB.out.1))
      · have HG := Lib.hid hg
        have FIN : Hid (opH rm (L.getD 0 []) (L.getD 1 []) = (a0, c0, n0) ∧ c0 ≤ rm * 64 ∧ NtOk n0) := Lib.hid ⟨by rw [op_hd H0.out.1 H1.out.1]; rw [decide_eq_false HG.out]; rfl, H0.out.2.2.1, H0.out.2.1⟩
        clear hg
        go_upto_region 4 with (fail)
        refine wp_region_lit ?_
        refine wpL_pure (.bool true) rfl (by kernel_rfl) ?_
        simp only [Act.put, List.setIfInBounds_toArray, List.set_cons_zero, List.set_cons_succ]
        refine wpL_pure (.bool true) rfl (by kernel_rfl) ?_
        simp only [Act.put, List.setIfInBounds_toArray, List.set_cons_zero, List.set_cons_succ]
        refine wpL_pure (.bool true) rfl (by kernel_rfl) ?_
        simp only [Act.put, List.setIfInBounds_toArray, List.set_cons_zero, List.set_cons_succ]
        refine wpL_pure (.bool false) rfl (by kernel_rfl) ?_
        simp only [Act.put, List.setIfInBounds_toArray, List.set_cons_zero, List.set_cons_succ]
        refine wpL_pure (.bool false) rfl (by kernel_rfl) ?_
        simp only [Act.put, List.setIfInBounds_toArray, List.set_cons_zero, List.set_cons_succ]
        refine wpL_pure (.int .u64 ((a1 : Nat) : Int)) rfl (by kernel_rfl) ?_
        simp only [Act.put, List.setIfInBounds_toArray, List.set_cons_zero, List.set_cons_succ]
        refine wpL_pure (.int .u64 ((a0 : Nat) : Int)) rfl (by kernel_rfl) ?_
        simp only [Act.put, List.setIfInBounds_toArray, List.set_cons_zero, List.set_cons_succ]
        refine wpL_pure (.bool false) rfl (run_gti Try.underlying35 rfl rfl rfl (by have := HG.out; rw [decide_eq_false_iff_not]; omega)) ?_
        simp only [Act.put, List.setIfInBounds_toArray, List.set_cons_zero, List.set_cons_succ]
        refine wpL_pure (.bool false) rfl (by kernel_rfl) ?_
        simp only [Act.put, List.setIfInBounds_toArray, List.set_cons_zero, List.set_cons_succ]
        refine wpL_pure (.bool false) rfl (by kernel_rfl) ?_
        simp only [Act.put, List.setIfInBounds_toArray, List.set_cons_zero, List.set_cons_succ]
        have FZ : Hid (Below w.heap.size w C1 ∧ Blk C1 g2 42 (stV 0 (List.replicate 16 0) (.slice none 0 0)).toArray ∧ Blk C1 g6 32 (u8l n0).toArray) := Lib.hid ⟨GC1.out.1.1, GC1.out.1.2.1, GC1.out.1.2.2.1⟩
        go_upto_region 8 with (fail)
        refine wp_region_lit ?_
        refine wpL_pure (.slice none 0 0) rfl (by kernel_rfl) ?_
        simp only [Act.put, List.setIfInBounds_toArray, List.set_cons_zero, List.set_cons_succ]
        go_upto_region 9 with (fail)
        refine wp_region_lit ?_
        refine wpL_pure (.int .i64 2) rfl (by kernel_rfl) ?_
        simp only [Act.put, List.setIfInBounds_toArray, List.set_cons_zero, List.set_cons_succ]
        obtain ⟨B, hB⟩ : ∃ q, C1.heap.size = q := ⟨_, rfl⟩
        have BB : Hid (w.heap.size ≤ B ∧ g2 < B ∧ g6 < B ∧ B = C1.heap.size) := Lib.hid ⟨by have := FZ.out.1.size; omega, by have := FZ.out.2.1.lt; omega, by have := FZ.out.2.2.lt; omega, hB.symm⟩
        clear hB
        unfold wpList
        go_wp2_with fail
        go_loopw [12, 13] (fun s12 s13 wr => ∃ (k : Nat) (va : Option Addr) (vc : Nat), (s12 = .slice va (64 * k) vc ∧ s13 = .int .i64 ((2 + k : Nat) : Int)) ∧ Hid (k ≤ rm ∧ Below w.heap.size w wr ∧ Blk wr g2 42 (stV 0 (List.replicate 16 0) (.slice none 0 0)).toArray ∧ Blk wr g6 32 (u8l n0).toArray ∧ Own wr B (.slice va (64 * k) vc) (roomL L 0 k) ∧ B ≤ wr.heap.size)) (fun _ s13 _ => 300 - (intOf s13).toNat)
        case atStart => exact ⟨0, none, 0, ⟨rfl, rfl⟩, Lib.hid ⟨by omega, FZ.out.1, FZ.out.2.1, FZ.out.2.2, Own.nil _ _, Nat.le_of_eq BB.out.2.2.2⟩⟩
        case round =>
          obtain ⟨k, va, vc, ⟨rfl, rfl⟩, RI0⟩ := hrel
          have RK := Lib.hid RI0.out.1
          have RI := Lib.hid RI0.out.2
          clear RI0
          by_cases hlt : k < rm
          · have HK := Lib.hid hlt
            clear hlt
            go_upto_region 10 with (fail)
            refine wp_region_lit ?_
            refine wpL_pure (.int .i64 ((2 + k : Nat) : Int)) rfl (by kernel_rfl) ?_
            simp only [Act.put, List.setIfInBounds_toArray, List.set_cons_zero, List.set_cons_succ]
            refine wpL_pure (.slice (some ⟨gr, 0, none⟩) nn cc) rfl (by kernel_rfl) ?_
            simp only [Act.put, List.setIfInBounds_toArray, List.set_cons_zero, List.set_cons_succ]
            refine wpL_pure (.int .i64 (nn : Int)) rfl (by kernel_rfl) ?_
            simp only [Act.put, List.setIfInBounds_toArray, List.set_cons_zero, List.set_cons_succ]
            refine wpL_pure (.bool true) rfl (run_lti Try.underlying3 rfl rfl rfl (by have := HK.out; have := HN.out; rw [decide_eq_true_eq]; omega)) ?_
            simp only [Act.put, List.setIfInBounds_toArray, List.set_cons_zero, List.set_cons_succ]
            obtain ⟨qk, xk, hck, cbk, hrk⟩ := (HS.out.below RI.out.1).2 (2 + k) (by have := HK.out; have := HN.out; omega)
            have HCK := Lib.hid hck
            have HRK := Lib.hid hrk
            clear hck cbk hrk
            have RLN : Hid ((roomL L 0 k).length = 64 * k) := Lib.hid (roomL_len (fun j hj => LST.out _ (by have := HN.out; have := HK.out; omega)))
            go_upto_region 12 with (fail)
            refine wp_region_lit ?_
            refine wpL_pure (.slice va (64 * k) vc) rfl (by kernel_rfl) ?_
            simp only [Act.put, List.setIfInBounds_toArray, List.set_cons_zero, List.set_cons_succ]
            refine wpL_pure (.slice (some ⟨gr, 0, none⟩) nn cc) rfl (by kernel_rfl) ?_
            simp only [Act.put, List.setIfInBounds_toArray, List.set_cons_zero, List.set_cons_succ]
            refine wpL_pure (.int .i64 ((2 + k : Nat) : Int)) rfl (by kernel_rfl) ?_
            simp only [Act.put, List.setIfInBounds_toArray, List.set_cons_zero, List.set_cons_succ]
            refine wpL_pure (.pointer (some ⟨gr, 0 + (2 + k), none⟩)) rfl (run_idxp _ _ _ _ _ gr 0 nn cc (2 + k) rfl rfl rfl (by have := HN.out; have := HK.out; omega) (by have := HN.out; unfold maxLen; omega)) ?_
            simp only [Act.put, List.setIfInBounds_toArray, List.set_cons_zero, List.set_cons_succ]
            refine wpL_pure (.slice (some ⟨qk, 0, none⟩) 64 xk) rfl (run_load_one _ _ _ 26 _ _ rfl gr (0 + (2 + k)) rfl (by rw [Nat.zero_add]; exact HCK.out) (by kernel_rfl)) ?_
            simp only [Act.put, List.setIfInBounds_toArray, List.set_cons_zero, List.set_cons_succ]
            obtain ⟨v6, W6, r1, r2, r3, r4, r5⟩ := append_own wr (B) ((.slice va (64 * k) vc)) (roomL L 0 k) (L.getD (2 + k) []) (some ⟨qk, 0, none⟩) 64 xk (RI.out.2.2.2.1) (HRK.out) (by rw [RLN.out]; have := HK.out; have := HN.out; omega) (RI.out.2.2.2.2)
            have R1 := Lib.hid r1
            obtain ⟨xa, xc, e4⟩ := r2.slice
            have e5 : v6 = .slice xa (64 * (k + 1)) xc := by rw [e4, List.length_append, RLN.out, HRK.out.1]; rfl
            subst e5
            have F6 : Hid (Below w.heap.size w W6 ∧ Blk W6 g2 42 (stV 0 (List.replicate 16 0) (.slice none 0 0)).toArray ∧ Blk W6 g6 32 (u8l n0).toArray ∧ Own W6 B (.slice xa (64 * (k + 1)) xc) (roomL L 0 (k + 1)) ∧ B ≤ W6.heap.size) := Lib.hid (by have nz : ∀ q, (Value.slice va (64 * k) vc).ownBlock = some q → B ≤ q := fun q hk => (RI.out.2.2.2.1.lt q hk).1; have hb := BB.out; exact ⟨RI.out.1.grown r3 RI.out.1.size (fun j hj => by have := nz j hj; omega), RI.out.2.1.grown r3 (fun z => by have := nz g2 z.symm; omega), RI.out.2.2.1.grown r3 (fun z => by have := nz g6 z.symm; omega), by rw [roomL, Nat.zero_add]; exact r2, Nat.le_trans RI.out.2.2.2.2 r3.size⟩)
            clear r1 r2 r3 r4 r5
            refine wpL_value (.slice xa (64 * (k + 1)) xc) W6 rfl (run_app _ _ _ _ _ _ _ _ _ rfl rfl rfl rfl R1.out) ?_
            simp only [Act.put, List.setIfInBounds_toArray, List.set_cons_zero, List.set_cons_succ]
            clear R1
            refine wpL_pure (.slice xa (64 * (k + 1)) xc) rfl (by kernel_rfl) ?_
            simp only [Act.put, List.setIfInBounds_toArray, List.set_cons_zero, List.set_cons_succ]
            go_upto_region 11 with (fail)
            refine wp_region_lit ?_
            refine wpL_pure (.int .i64 ((2 + k : Nat) : Int)) rfl (by kernel_rfl) ?_
            simp only [Act.put, List.setIfInBounds_toArray, List.set_cons_zero, List.set_cons_succ]
            refine wpL_pure (.int .i64 ((2 + (k + 1) : Nat) : Int)) rfl (run_addi Try.underlying3 rfl rfl rfl _ (by have := HK.out; have := HN.out; rw [wrap_in _ (by omega) (by omega)]; omega)) ?_
            simp only [Act.put, List.setIfInBounds_toArray, List.set_cons_zero, List.set_cons_succ]
            refine wpL_pure (.int .i64 ((2 + (k + 1) : Nat) : Int)) rfl (by kernel_rfl) ?_
            simp only [Act.put, List.setIfInBounds_toArray, List.set_cons_zero, List.set_cons_succ]
            have NX : Hid (k + 1 ≤ rm ∧ Below w.heap.size w W6 ∧ Blk W6 g2 42 (stV 0 (List.replicate 16 0) (.slice none 0 0)).toArray ∧ Blk W6 g6 32 (u8l n0).toArray ∧ Own W6 B (.slice xa (64 * (k + 1)) xc) (roomL L 0 (k + 1)) ∧ B ≤ W6.heap.size) := Lib.hid ⟨HK.out, F6.out⟩
            unfold wpList
            go_roundw
            case rel => first | exact ⟨_, _, _, ⟨rfl, rfl⟩, NX⟩ | ((repeat apply Exists.intro); exact ⟨⟨_, _, _, ⟨rfl, rfl⟩, NX⟩, rfl⟩)
            case measure => simp [intOf]; have := HK.out; have := HN.out; omega
          · have EK : Hid (k = rm) := Lib.hid (by have := RK.out; omega)
            clear hlt
            have RLN : Hid ((roomL L 0 k).length = 64 * k) := Lib.hid (roomL_len (fun j hj => LST.out _ (by have := HN.out; have := RK.out; omega)))
            go_upto_region 10 with (fail)
            refine wp_region_lit ?_
            refine wpL_pure (.int .i64 ((2 + k : Nat) : Int)) rfl (by kernel_rfl) ?_
            simp only [Act.put, List.setIfInBounds_toArray, List.set_cons_zero, List.set_cons_succ]
            refine wpL_pure (.slice (some ⟨gr, 0, none⟩) nn cc) rfl (by kernel_rfl) ?_
            simp only [Act.put, List.setIfInBounds_toArray, List.set_cons_zero, List.set_cons_succ]
            refine wpL_pure (.int .i64 (nn : Int)) rfl (by kernel_rfl) ?_
            simp only [Act.put, List.setIfInBounds_toArray, List.set_cons_zero, List.set_cons_succ]
            refine wpL_pure (.bool false) rfl (run_lti Try.underlying3 rfl rfl rfl (by have := EK.out; have := HN.out; rw [decide_eq_false_iff_not]; omega)) ?_
            simp only [Act.put, List.setIfInBounds_toArray, List.set_cons_zero, List.set_cons_succ]
            go_upto_region 13 with (fail)
            refine region_anyT (fun X => Blk X g6 32 (u8l n0).toArray ∧ True) (by kernel_rfl) 7 7 rfl ?_
            refine wpAnyT_take (i := 0) (oi := ⟨some 63, _, _, _, _, _⟩) (v := .int .u64 ((a0 : Nat) : Int)) rfl (by kernel_rfl) (by kernel_rfl) (by kernel_rfl) (fun _ _ _ h => h) (by kernel_rfl) (Or.inl ⟨rfl, fun w h => by kernel_rfl⟩) (⟨RI.out.2.2.1, trivial⟩) ?_
            simp only [Act.put, List.setIfInBounds_toArray, List.set_cons_zero, List.set_cons_succ]
            refine wpAnyT_take (i := 1) (oi := ⟨some 64, _, _, _, _, _⟩) (v := .agg (u8l n0).toArray) rfl (by kernel_rfl) (by kernel_rfl) (by kernel_rfl) (fun _ _ _ h => h) (by kernel_rfl) (Or.inl ⟨rfl, fun w h => run_load_mid _ _ _ 32 _ rfl g6 0 rfl (u8l n0) _ (blk_range h.1) Try.underlying32 rfl (by simp only [List.size_toArray, u8l_len, FIN.out.2.2.1] <;> kernel_rfl)⟩) (⟨RI.out.2.2.1, trivial⟩) ?_
            simp only [Act.put, List.setIfInBounds_toArray, List.set_cons_zero, List.set_cons_succ]
            refine wpAnyT_take (i := 2) (oi := ⟨some 65, _, _, _, _, _⟩) (v := .slice va (64 * k) vc) rfl (by kernel_rfl) (by kernel_rfl) (by kernel_rfl) (fun _ _ _ h => h) (by kernel_rfl) (Or.inl ⟨rfl, fun w h => by kernel_rfl⟩) (⟨RI.out.2.2.1, trivial⟩) ?_
            simp only [Act.put, List.setIfInBounds_toArray, List.set_cons_zero, List.set_cons_succ]
            refine wpAnyT_take (i := 3) (oi := ⟨some 66, _, _, _, _, _⟩) (v := .int .u64 ((c0 : Nat) : Int)) rfl (by kernel_rfl) (by kernel_rfl) (by kernel_rfl) (fun _ _ _ h => h) (by kernel_rfl) (Or.inl ⟨rfl, fun w h => by kernel_rfl⟩) (⟨RI.out.2.2.1, trivial⟩) ?_
            simp only [Act.put, List.setIfInBounds_toArray, List.set_cons_zero, List.set_cons_succ]
            refine wpAnyT_take (i := 4) (oi := ⟨some 67, _, _, _, _, _⟩) (v := .slice va c0 vc) rfl (by kernel_rfl) (by kernel_rfl) (by kernel_rfl) (fun _ _ _ h => h) (by kernel_rfl) (Or.inl ⟨rfl, fun w h => run_sltou _ _ _ _ _ va (64 * k) vc c0 (own_form RI.out.2.2.2.1) rfl rfl rfl (by have := FIN.out.2.1; have := EK.out; omega)⟩) (⟨RI.out.2.2.1, trivial⟩) ?_
            simp only [Act.put, List.setIfInBounds_toArray, List.set_cons_zero, List.set_cons_succ]
            refine wpAnyT_take (i := 5) (oi := ⟨some 68, _, _, _, _, _⟩) (v := .agg (stV a0 n0 (.slice va c0 vc)).toArray) rfl (by kernel_rfl) (by kernel_rfl) (by kernel_rfl) (fun _ _ _ h => h) (by kernel_rfl) (Or.inl ⟨rfl, fun w h => run_build42 _ _ _ _ _ _ _ _ _ _ _ FIN.out.2.2.1 rfl rfl rfl rfl⟩) (⟨RI.out.2.2.1, trivial⟩) ?_
            simp only [Act.put, List.setIfInBounds_toArray, List.set_cons_zero, List.set_cons_succ]
            refine wpAnyT_one (i := 6) (by kernel_rfl) ?_
            obtain ⟨W7, hW7⟩ : ∃ V, V = wr.drew.setRow g2 (stV a0 n0 (.slice va c0 vc)).toArray := ⟨_, rfl⟩
            have F7 : Hid (Below w.heap.size w W7 ∧ Blk W7 g2 42 (stV a0 n0 (.slice va c0 vc)).toArray ∧ Blk W7 g6 32 (u8l n0).toArray ∧ Own W7 B (.slice va c0 vc) ((roomL L 0 k).take c0)) := Lib.hid (by have hb := BB.out; have hz := SZ.out; rw [hW7]; exact ⟨below_setRow RI.out.1.drew hz.1 _, setRow_heap _ _ _ _ _ _ RI.out.2.1, (setRow_other _ _ _ _ (fun e => hz.2.2.2.1 e.symm)).trans RI.out.2.2.1, Own.grown (w := wr.drew) (own_take (w := wr.drew) RI.out.2.2.2.1 (by have := FIN.out.2.1; have := EK.out; omega)) (row_gb wr.drew g2 _) (.inr (fun e => by have q := ((own_take RI.out.2.2.2.1 (show c0 ≤ 64 * k by have := FIN.out.2.1; have := EK.out; omega)).lt g2 e).1; omega))⟩)
            refine op_skip (o := ⟨none, _, _, _, _, _⟩) W7 rfl rfl (by rw [hW7]; exact run_store_row _ _ _ 42 _ _ rfl g2 (stV a0 n0 (.slice va c0 vc)).toArray rfl rfl 42 _ RI.out.2.1 (by simp only [List.size_toArray, st_len FIN.out.2.2] <;> kernel_rfl) (by simp only [List.size_toArray, st_len FIN.out.2.2] <;> rfl) (st_one _ _ _ _ _)) ?_
            refine ⟨fun _ => ⟨F7.out.2.2.1, trivial⟩, ?_⟩
            simp only [Act.put, List.setIfInBounds_toArray, List.set_cons_zero, List.set_cons_succ]
            clear hW7
            refine wpAnyT_done (by kernel_rfl) ?_ _
            go_wp2_with fail
            exact bodyPost_ret (results_cell_row rfl _ _ g2 42 _ (0, 0) _ rfl F7.out.2.1 Try.underlying42 rfl (by simp only [List.size_toArray, st_len FIN.out.2.2] <;> kernel_rfl)) rfl (of_post (i := k) LST.out HN.out.1 FIN.out.1 FIN.out.2.2 (by have := FIN.out.2.1; have := EK.out; omega) RK.out FIN.out.2.1 F7.out.1 (F7.out.2.2.2.mono BB.out.1))
end Go.Proofs.Yteabblmhcjpboaa.D
