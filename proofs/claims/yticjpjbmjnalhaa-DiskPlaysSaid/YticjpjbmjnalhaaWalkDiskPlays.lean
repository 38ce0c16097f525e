/- 'DiskPlays'. -/
import Derived.Test.YticjpjbmjnalhaaG3
namespace Go.Proofs.Yticjpjbmjnalhaa
open Go Go.RowKit
set_option maxRecDepth 100000
theorem wrap_u8 (x : Int) (h0 : 0 ≤ x) (h1 : x ≤ 255) : IntKind.u8.wrap x = x := by simp [IntKind.wrap, IntKind.bits, IntKind.signed]; omega
theorem run_remu (a : Act) (o : Oper) (w : World) (x : Operand) (p q k : Nat) (ho : o.op = .binOp .rem 5 x (.const (.int .u8 (q : Int))) 5) (hx : a.eval x = .int .u8 (p : Int)) (hq : 0 < q) (hk : p % q = k) : (execOp a.eval o).run Try.prog w = .ok (.value (.int .u8 ((k : Nat) : Int))) w := by
  subst hk
  have hc : a.eval (.const (.int .u8 (q : Int))) = .int .u8 (q : Int) := rfl
  have h0 : (0 : Int) ≤ (p : Int) := by omega
  have h1 : (0 : Int) < (q : Int) := by omega
  have h2 : ((p : Int)).tmod (q : Int) = ((p % q : Nat) : Int) := by rw [Int.tmod_eq_emod_of_nonneg h0]; rfl
  unfold execOp
  simp only [ho, hx, hc]
  go_simp
  omega
theorem op_keep {w w' : World} {B g o : Nat} {q I X : Int} {a : Option Addr} {n c : Nat} {bs : List Int} (h : OpAt w g o q I X a n c bs) (hb : Below w.heap.size w w') : OpAt w' g o q I X a n c bs := by
  obtain ⟨h0, h1, h2, h3, h4, h5, h6, h7⟩ := h
  refine ⟨(hb.cell (cell_lt h0)).trans h0, (hb.cell (cell_lt h1)).trans h1, (hb.cell (cell_lt h2)).trans h2, (hb.cell (cell_lt h3)).trans h3, h4, h5, h6, ?_⟩
  rcases h7 with h7 | ⟨x, e, h8, h9, h10, h11, h12⟩
  · exact .inl h7
  · exact .inr ⟨x, e, h8, h9, h10, fun i hi => (hb.cell (cell_lt (h11 i hi))).trans (h11 i hi), h12⟩
theorem OpsAt.keep {w w' : World} {a : Option Addr} {ln lc : Nat} (h : OpsAt w a ln lc) (hb : Below w.heap.size w w') : OpsAt w' a ln lc := by
  rcases h with h | ⟨g, o, h1, h2, h3, h4⟩
  · exact .inl h
  · refine .inr ⟨g, o, h1, h2, h3, fun k hk => ?_⟩
    obtain ⟨q, I, X, a', n, c, bs, hc⟩ := h4 k hk
    exact ⟨q, I, X, a', n, c, bs, op_keep (B := 0) hc hb⟩
theorem op_range {w w' : World} {g o : Nat} {q I X : Int} {a : Option Addr} {n c : Nat} {bs : List Int} (hb : Below w.heap.size w w') (h : OpAt w g o q I X a n c bs) : w'.rangeAt g o [.int .u8 q, .int .i64 I, .int .u8 X, .slice a n c] := by
  obtain ⟨h0, h1, h2, h3, _⟩ := op_keep (B := 0) h hb
  intro j v hj
  match j, hj with
  | 0, hj => simp at hj; subst hj; exact h0
  | 1, hj => simp at hj; subst hj; exact h1
  | 2, hj => simp at hj; subst hj; exact h2
  | 3, hj => simp at hj; subst hj; exact h3
  | k + 4, hj => simp at hj
theorem op_row {w w' : World} {g o : Nat} {q I X : Int} {a : Option Addr} {n c : Nat} {bs : List Int} (hb : Below w.heap.size w w') (h : OpAt w g o q I X a n c bs) : (-9223372036854775808 ≤ I ∧ I ≤ 9223372036854775807) ∧ (0 ≤ X ∧ X ≤ 255) ∧ Row w' a n (bs.take n) ∧ (0 < n → ∀ p, a = some p → p.block < w.heap.size) := by
  have hr := row_of h.2.2.2.2.2.2.2
  refine ⟨by have := h.2.2.2.2.2.1; omega, by have := h.2.2.2.2.2.2.1; omega, hr.keep hb, fun hn p hp => ?_⟩
  obtain ⟨g', o', e, hc⟩ := hr.2.2.2 0 hn
  rw [hp] at e
  cases e
  exact cell_lt hc
theorem RSD.mono {w : World} {base base' n : Nat} {D : RD} {N W : Nat → List Int} {I : Nat → Bool} {fz : Int} {go : Bool} (h : RSD w base n D N W I fz go) (hb : base' ≤ base) : RSD w base' n D N W I fz go :=
  { cells := h.cells, addr := h.addr, bN := h.bN, bW := h.bW, bI := h.bI, rN := h.rN, rW := h.rW, oN := h.oN, oW := h.oW, cap := h.cap, gNW := h.gNW, apart := h.apart, base0 := Nat.le_trans hb h.base0, base1 := fun q => ⟨Nat.le_trans hb (h.base1 q).1, Nat.le_trans hb (h.base1 q).2.1, Nat.le_trans hb (h.base1 q).2.2⟩, base2 := fun k hk => ⟨Nat.le_trans hb (h.base2 k hk).1, Nat.le_trans hb (h.base2 k hk).2⟩, fuse := h.fuse, few := h.few }
theorem RS.mono {w : World} {base base' r n : Nat} {N W : Nat → List Int} {I : Nat → Bool} {fz : Int} {go : Bool} (h : RS w base r n N W I fz go) (hb : base' ≤ base) : RS w base' r n N W I fz go := by
  obtain ⟨D, e, hd⟩ := h
  exact ⟨D, e, hd.mono hb⟩
theorem lk_new {w : World} {base b gs gm r n : Nat} (d : DS w b gs gm n [] 0 (zs n) false 0 false) (rs : RS w base r n (fun _ => z64) (fun _ => z64) (fun _ => false) (-1) false) (bs : base ≤ b ∧ base ≤ gs ∧ base ≤ gm) : LK w base b gs gm r n :=
  ⟨[], 0, zs n, false, 0, false, _, _, _, -1, d, rs, ⟨fun k hk => by unfold zs z64; rw [List.getElem?_replicate, if_pos hk], fun k _ => by simp, fun e he => by simp at he, fun _ _ _ => rfl⟩, ⟨fun q => (by cases q), fun _ => rfl⟩, bs⟩
attribute [local irreducible] wpList
set_option maxHeartbeats 4000000 in
theorem plays_any (nn : Nat) (h0 : nn < 256) (a : Option Addr) (ln lc : Nat) (w : World) (hp : OpsAt w a ln lc) :
    Calls Try.prog 4 #[.int .u8 ((nn : Nat) : Int), .slice a ln lc] w fun e w' => e = .returned (.bool true) ∧ Below w.heap.size w w' := by
  have HP := Lib.hid hp
  clear hp
  go_enter Try.func4, Try.ntmps4
  go_upto_region 0 with (fail)
  refine wp_region_lit ?_
  refine wpL_pure (.bool false) rfl (by kernel_rfl) ?_
  simp only [Act.put, List.setIfInBounds_toArray, List.set_cons_zero, List.set_cons_succ]
  go_upto_region 1 with (fail)
  refine wp_region_lit ?_
  refine wpL_call 9 #[] rfl (by kernel_rfl) ((awakeD w).mono ?_)
  rintro e W1 ⟨rfl, b1⟩
  have F1 : Hid (OpsAt W1 a ln lc ∧ Below w.heap.size w W1) := Lib.hid ⟨HP.out.keep b1, b1⟩
  clear b1
  refine ⟨_, rfl, ?_⟩
  simp only [Act.put, List.setIfInBounds_toArray, List.set_cons_zero, List.set_cons_succ]
  refine wpL_pure (.bool false) rfl (by kernel_rfl) ?_
  simp only [Act.put, List.setIfInBounds_toArray, List.set_cons_zero, List.set_cons_succ]
  refine wpL_pure (.bool false) rfl (by kernel_rfl) ?_
  simp only [Act.put, List.setIfInBounds_toArray, List.set_cons_zero, List.set_cons_succ]
  refine wpL_pure (.slice a ln lc) rfl (by kernel_rfl) ?_
  simp only [Act.put, List.setIfInBounds_toArray, List.set_cons_zero, List.set_cons_succ]
  refine wpL_call 13 #[.slice a ln lc] rfl (by kernel_rfl) ((few_any W1 a ln lc F1.out.1).mono ?_)
  rintro e w9 ⟨z, rfl, hx, hz⟩
  subst hx
  refine ⟨_, rfl, ?_⟩
  simp only [Act.put, List.setIfInBounds_toArray, List.set_cons_zero, List.set_cons_succ]
  have HZ := Lib.hid hz
  clear hz
  cases z
  · refine wpL_pure (.bool true) rfl (by kernel_rfl) ?_
    simp only [Act.put, List.setIfInBounds_toArray, List.set_cons_zero, List.set_cons_succ]
    refine wpL_pure (.bool true) rfl (by kernel_rfl) ?_
    simp only [Act.put, List.setIfInBounds_toArray, List.set_cons_zero, List.set_cons_succ]
    unfold wpList
    go_upto_region 2 with (fail)
    refine wp_region_lit ?_
    refine wpL_call 9 #[] rfl (by kernel_rfl) ((awakeD w9).mono ?_)
    rintro e W2 ⟨rfl, b2⟩
    have F2 : Hid (Below w.heap.size w W2) := Lib.hid (F1.out.2.trans (b2.mono F1.out.2.size))
    clear b2
    refine ⟨_, rfl, ?_⟩
    simp only [Act.put, List.setIfInBounds_toArray, List.set_cons_zero, List.set_cons_succ]
    refine wpL_pure (.bool true) rfl (by kernel_rfl) ?_
    simp only [Act.put, List.setIfInBounds_toArray, List.set_cons_zero, List.set_cons_succ]
    unfold wpList
    go_wp2_with fail
    go_ret
    exact ⟨rfl, F2.out⟩
  · refine wpL_pure (.bool false) rfl (by kernel_rfl) ?_
    simp only [Act.put, List.setIfInBounds_toArray, List.set_cons_zero, List.set_cons_succ]
    refine wpL_pure (.bool false) rfl (by kernel_rfl) ?_
    simp only [Act.put, List.setIfInBounds_toArray, List.set_cons_zero, List.set_cons_succ]
    unfold wpList
    have HLN : Hid (ln ≤ 60) := Lib.hid (HZ.out rfl)
    obtain ⟨n, hn⟩ : ∃ q, nn % 13 = q := ⟨_, rfl⟩
    have HN : Hid (nn % 13 = n ∧ n ≤ 12) := Lib.hid ⟨hn, by omega⟩
    clear hn HZ
    go_upto_region 3 with (fail)
    refine wp_region_lit ?_
    refine wpL_pure (.int .u8 ((nn : Nat) : Int)) rfl (by kernel_rfl) ?_
    simp only [Act.put, List.setIfInBounds_toArray, List.set_cons_zero, List.set_cons_succ]
    refine wpL_pure (.int .u8 ((n : Nat) : Int)) rfl (run_remu _ _ _ _ nn 13 n rfl rfl (by decide) HN.out.1) ?_
    simp only [Act.put, List.setIfInBounds_toArray, List.set_cons_zero, List.set_cons_succ]
    refine wpL_pure (.int .i64 ((n : Nat) : Int)) rfl (run_convi Try.underlying5 Try.underlying3 rfl rfl _ (by have := HN.out.2; rw [wrap_in _ (by omega) (by omega)])) ?_
    simp only [Act.put, List.setIfInBounds_toArray, List.set_cons_zero, List.set_cons_succ]
    refine wpL_call 8 #[.int .i64 ((n : Nat) : Int)] rfl (by kernel_rfl) ((newD n HN.out.2 w9).mono ?_)
    rintro e W2 ⟨b, gs, gm, rfl, d2, b2, l1, l2, l3⟩
    have F2 : Hid (DS W2 b gs gm n [] 0 (zs n) false 0 false ∧ OpsAt W2 a ln lc ∧ Below w.heap.size w W2 ∧ w.heap.size ≤ b ∧ w.heap.size ≤ gs ∧ w.heap.size ≤ gm) := Lib.hid ⟨d2, F1.out.1.keep b2, F1.out.2.trans (b2.mono F1.out.2.size), Nat.le_trans F1.out.2.size l1, Nat.le_trans F1.out.2.size l2, Nat.le_trans F1.out.2.size l3⟩
    clear d2 b2 l1 l2 l3 F1
    refine ⟨_, rfl, ?_⟩
    simp only [Act.put, List.setIfInBounds_toArray, List.set_cons_zero, List.set_cons_succ]
    refine wpL_pure (.int .u8 ((nn : Nat) : Int)) rfl (by kernel_rfl) ?_
    simp only [Act.put, List.setIfInBounds_toArray, List.set_cons_zero, List.set_cons_succ]
    refine wpL_pure (.int .u8 ((n : Nat) : Int)) rfl (run_remu _ _ _ _ nn 13 n rfl rfl (by decide) HN.out.1) ?_
    simp only [Act.put, List.setIfInBounds_toArray, List.set_cons_zero, List.set_cons_succ]
    refine wpL_pure (.int .i64 ((n : Nat) : Int)) rfl (run_convi Try.underlying5 Try.underlying3 rfl rfl _ (by have := HN.out.2; rw [wrap_in _ (by omega) (by omega)])) ?_
    simp only [Act.put, List.setIfInBounds_toArray, List.set_cons_zero, List.set_cons_succ]
    refine wpL_call 14 #[.int .i64 ((n : Nat) : Int)] rfl (by kernel_rfl) ((refnew W2 n HN.out.2).mono ?_)
    rintro e W3 ⟨r, rfl, r3, b3, l3⟩
    have F3 : Hid (LK W3 w.heap.size b gs gm r n ∧ OpsAt W3 a ln lc ∧ Below w.heap.size w W3) := Lib.hid ⟨lk_new (F2.out.1.below b3) (r3.mono F2.out.2.2.1.size) F2.out.2.2.2, F2.out.2.1.keep b3, F2.out.2.2.1.trans (b3.mono F2.out.2.2.1.size)⟩
    clear r3 b3 l3 F2
    refine ⟨_, rfl, ?_⟩
    simp only [Act.put, List.setIfInBounds_toArray, List.set_cons_zero, List.set_cons_succ]
    refine wpL_pure (.pointer (some ⟨b, 0, none⟩)) rfl (by kernel_rfl) ?_
    simp only [Act.put, List.setIfInBounds_toArray, List.set_cons_zero, List.set_cons_succ]
    refine wpL_pure (.pointer (some ⟨r, 0, none⟩)) rfl (by kernel_rfl) ?_
    simp only [Act.put, List.setIfInBounds_toArray, List.set_cons_zero, List.set_cons_succ]
    unfold wpList
    go_upto_region 4 with (fail)
    refine wp_region_lit ?_
    refine wpL_pure (.int .i64 0) rfl (by kernel_rfl) ?_
    simp only [Act.put, List.setIfInBounds_toArray, List.set_cons_zero, List.set_cons_succ]
    go_wp2_with fail
    go_loopw [7] (fun s7 wr => ∃ j : Nat, s7 = .int .i64 (j : Int) ∧ Hid (j ≤ ln ∧ LK wr w.heap.size b gs gm r n ∧ Below w.heap.size w wr)) (fun s7 _ => ln - (intOf s7).toNat)
    case atStart => exact ⟨0, rfl, Lib.hid ⟨Nat.zero_le _, F3.out.1, F3.out.2.2⟩⟩
    case round =>
      clear F3
      obtain ⟨j, rfl, RI⟩ := hrel
      by_cases hlt : j < ln
      · have HK := Lib.hid hlt
        clear hlt
        go_upto_region 5 with (fail)
        refine wp_region_lit ?_
        refine wpL_pure (.int .i64 (j : Int)) rfl (by kernel_rfl) ?_
        simp only [Act.put, List.setIfInBounds_toArray, List.set_cons_zero, List.set_cons_succ]
        refine wpL_pure (.slice a ln lc) rfl (by kernel_rfl) ?_
        simp only [Act.put, List.setIfInBounds_toArray, List.set_cons_zero, List.set_cons_succ]
        refine wpL_pure (.int .i64 (ln : Int)) rfl (by kernel_rfl) ?_
        simp only [Act.put, List.setIfInBounds_toArray, List.set_cons_zero, List.set_cons_succ]
        refine wpL_pure (.bool true) rfl (run_lti Try.underlying3 rfl rfl rfl (by have := HK.out; rw [decide_eq_true_eq]; omega)) ?_
        simp only [Act.put, List.setIfInBounds_toArray, List.set_cons_zero, List.set_cons_succ]
        obtain ⟨g, o, EA, hm, hc⟩ : ∃ g o, a = some ⟨g, o, none⟩ ∧ ln ≤ maxLen ∧ ∀ k, k < ln → ∃ q I X a' n c bs, OpAt w g (o + k * 4) q I X a' n c bs := by
          rcases HP.out with h | ⟨g, o, h1, h2, h3, h4⟩
          · have := HK.out; omega
          · exact ⟨g, o, h1, Nat.le_trans h2 h3, h4⟩
        obtain ⟨q, i, x, pa, pn, pc, bs, hc⟩ := hc j HK.out
        have EA := Lib.hid EA
        have HM := Lib.hid hm
        have OP : Hid (wr.rangeAt g (o + j * 4) [.int .u8 q, .int .i64 i, .int .u8 x, .slice pa pn pc]) := Lib.hid (op_range RI.out.2.2 hc)
        have OR : Hid ((-9223372036854775808 ≤ i ∧ i ≤ 9223372036854775807) ∧ (0 ≤ x ∧ x ≤ 255) ∧ Row wr pa pn (bs.take pn) ∧ (0 < pn → ∀ p, pa = some p → p.block < w.heap.size)) := Lib.hid (op_row RI.out.2.2 hc)
        clear hm hc
        go_upto_region 7 with (fail)
        refine wp_region_lit ?_
        refine wpL_pure (.pointer (some ⟨b, 0, none⟩)) rfl (by kernel_rfl) ?_
        simp only [Act.put, List.setIfInBounds_toArray, List.set_cons_zero, List.set_cons_succ]
        refine wpL_pure (.pointer (some ⟨r, 0, none⟩)) rfl (by kernel_rfl) ?_
        simp only [Act.put, List.setIfInBounds_toArray, List.set_cons_zero, List.set_cons_succ]
        refine wpL_pure (.slice a ln lc) rfl (by kernel_rfl) ?_
        simp only [Act.put, List.setIfInBounds_toArray, List.set_cons_zero, List.set_cons_succ]
        refine wpL_pure (.int .i64 (j : Int)) rfl (by kernel_rfl) ?_
        simp only [Act.put, List.setIfInBounds_toArray, List.set_cons_zero, List.set_cons_succ]
        refine wpL_pure (.pointer (some ⟨g, o + j * 4, none⟩)) rfl (run_idx32 _ _ _ _ _ g o ln lc j rfl (by rw [EA.out]; rfl) rfl HK.out HM.out) ?_
        simp only [Act.put, List.setIfInBounds_toArray, List.set_cons_zero, List.set_cons_succ]
        refine wpL_load 38 _ rfl rfl g (o + j * 4) rfl [.int .u8 q, .int .i64 i, .int .u8 x, .slice pa pn pc] _ OP.out Try.underlying38 rfl (by kernel_rfl) ?_
        simp only [Act.put, List.setIfInBounds_toArray, List.set_cons_zero, List.set_cons_succ]
        refine wpL_call 15 #[.pointer (some ⟨b, 0, none⟩), .pointer (some ⟨r, 0, none⟩), .agg #[.int .u8 q, .int .i64 i, .int .u8 x, .slice pa pn pc]] rfl (by kernel_rfl) ((do_any wr w.heap.size b gs gm r n RI.out.2.1 RI.out.2.2.size q i x pa pn pc _ OR.out.1 OR.out.2.1 OR.out.2.2.1 OR.out.2.2.2).mono ?_)
        rintro e W1 ⟨rfl, lk, b1⟩
        have F4 : Hid (LK W1 w.heap.size b gs gm r n ∧ Below w.heap.size w W1) := Lib.hid ⟨lk, RI.out.2.2.trans b1⟩
        clear lk b1
        refine ⟨_, rfl, ?_⟩
        simp only [Act.put, List.setIfInBounds_toArray, List.set_cons_zero, List.set_cons_succ]
        refine wpL_pure (.bool false) rfl (by kernel_rfl) ?_
        simp only [Act.put, List.setIfInBounds_toArray, List.set_cons_zero, List.set_cons_succ]
        refine wpL_pure (.bool false) rfl (by kernel_rfl) ?_
        simp only [Act.put, List.setIfInBounds_toArray, List.set_cons_zero, List.set_cons_succ]
        refine wpL_pure (.pointer (some ⟨b, 0, none⟩)) rfl (by kernel_rfl) ?_
        simp only [Act.put, List.setIfInBounds_toArray, List.set_cons_zero, List.set_cons_succ]
        refine wpL_pure (.pointer (some ⟨r, 0, none⟩)) rfl (by kernel_rfl) ?_
        simp only [Act.put, List.setIfInBounds_toArray, List.set_cons_zero, List.set_cons_succ]
        refine wpL_call 16 #[.pointer (some ⟨b, 0, none⟩), .pointer (some ⟨r, 0, none⟩)] rfl (by kernel_rfl) ((same_any W1 w.heap.size b gs gm r n F4.out.1).mono ?_)
        rintro e W2 ⟨rfl, lk, b1⟩
        have NX : Hid (j + 1 ≤ ln ∧ LK W2 w.heap.size b gs gm r n ∧ Below w.heap.size w W2) := Lib.hid ⟨HK.out, lk, F4.out.2.trans (b1.mono F4.out.2.size)⟩
        clear lk b1 F4
        refine ⟨_, rfl, ?_⟩
        simp only [Act.put, List.setIfInBounds_toArray, List.set_cons_zero, List.set_cons_succ]
        refine wpL_pure (.bool false) rfl (by kernel_rfl) ?_
        simp only [Act.put, List.setIfInBounds_toArray, List.set_cons_zero, List.set_cons_succ]
        refine wpL_pure (.bool false) rfl (by kernel_rfl) ?_
        simp only [Act.put, List.setIfInBounds_toArray, List.set_cons_zero, List.set_cons_succ]
        unfold wpList
        go_upto_region 6 with (fail)
        refine wp_region_lit ?_
        refine wpL_pure (.int .i64 (j : Int)) rfl (by kernel_rfl) ?_
        simp only [Act.put, List.setIfInBounds_toArray, List.set_cons_zero, List.set_cons_succ]
        refine wpL_pure (.int .i64 ((j + 1 : Nat) : Int)) rfl (run_addi Try.underlying3 rfl rfl rfl _ (by have := HK.out; have := HLN.out; rw [wrap_in _ (by omega) (by omega)]; omega)) ?_
        simp only [Act.put, List.setIfInBounds_toArray, List.set_cons_zero, List.set_cons_succ]
        refine wpL_pure (.int .i64 ((j + 1 : Nat) : Int)) rfl (by kernel_rfl) ?_
        simp only [Act.put, List.setIfInBounds_toArray, List.set_cons_zero, List.set_cons_succ]
        unfold wpList
        go_roundw
        case rel => first | exact ⟨j + 1, rfl, NX⟩ | ((repeat apply Exists.intro); exact ⟨⟨j + 1, rfl, NX⟩, rfl⟩)
        case measure => simp [intOf]; have := HK.out; omega
      · have HK := Lib.hid hlt
        clear hlt
        go_upto_region 5 with (fail)
        refine wp_region_lit ?_
        refine wpL_pure (.int .i64 (j : Int)) rfl (by kernel_rfl) ?_
        simp only [Act.put, List.setIfInBounds_toArray, List.set_cons_zero, List.set_cons_succ]
        refine wpL_pure (.slice a ln lc) rfl (by kernel_rfl) ?_
        simp only [Act.put, List.setIfInBounds_toArray, List.set_cons_zero, List.set_cons_succ]
        refine wpL_pure (.int .i64 (ln : Int)) rfl (by kernel_rfl) ?_
        simp only [Act.put, List.setIfInBounds_toArray, List.set_cons_zero, List.set_cons_succ]
        refine wpL_pure (.bool false) rfl (run_lti Try.underlying3 rfl rfl rfl (by have := HK.out; rw [decide_eq_false_iff_not]; omega)) ?_
        simp only [Act.put, List.setIfInBounds_toArray, List.set_cons_zero, List.set_cons_succ]
        go_upto_region 9 with (fail)
        refine wp_region_lit ?_
        refine wpL_pure (.bool true) rfl (by kernel_rfl) ?_
        simp only [Act.put, List.setIfInBounds_toArray, List.set_cons_zero, List.set_cons_succ]
        go_wp2_with fail
        go_ret
        exact ⟨rfl, RI.out.2.2⟩
open Go.ChangeShapes Go.WideShapes Go.ChangeAt in
theorem walkDiskPlays (x : Int) (a : Option Addr) (n c : Nat) (wx : (Lit.int .u8 x).wf = true) (w : World) (h : OpsAt w a n c) :
    Calls Try.prog 4 #[.int .u8 x, .slice a n c] w fun e w' => e = .returned (.bool true) ∧ Below w.heap.size w w' := by
  have hx := bounds_u8 wx
  obtain ⟨x, rfl⟩ : ∃ k : Nat, x = (k : Int) := ⟨x.toNat, by omega⟩
  exact plays_any x (by omega) a n c w h
end Go.Proofs.Yticjpjbmjnalhaa
