import Derived.Test.YteblaknbehfkgaaK17
import Derived.Great.BuildSlice
namespace Go.Proofs.Yteblaknbehfkgaa
open Go Go.RowKit

theorem size33 (w : World) : (sizeOf 33).run Try.prog w = .ok 1 w := by kernel_rfl
theorem part_range {w : World} {g o q X : Nat} {a : Option Addr} {n c : Nat} {bs : List Int} (h : PartAt w g o q X a n c bs) : w.rangeAt g o [.int .u8 (q : Int), .int .u64 (X : Int), .slice a n c] := by
  intro j v hj
  match j, hj with
  | 0, hj => simp at hj; subst hj; exact h.1
  | 1, hj => simp at hj; subst hj; exact h.2.1
  | 2, hj => simp at hj; subst hj; exact h.2.2.1
  | j + 3, hj => simp at hj
theorem run_str_same (a : Act) (o : Oper) (w : World) (x y : Operand) (s : ByteArray) (ho : o.op = .binOp .neq 9 x y 9) (hx : a.eval x = .string s) (hy : a.eval y = .string s) : (execOp a.eval o).run Try.prog w = .ok (.value (.bool false)) w := by
  unfold execOp
  simp only [ho, hx, hy]
  go_simp
theorem run_str_ne (a : Act) (o : Oper) (w : World) (x y : Operand) (xs ys : List Int) (b : Bool) (ho : o.op = .binOp .neq 9 x y 9) (hx : a.eval x = .string (strOfNums xs)) (hy : a.eval y = .string (strOfNums ys)) (hb : decide (xs ≠ ys) = b) (h0 : ∀ x ∈ xs, 0 ≤ x ∧ x ≤ 255) (h1 : ∀ y ∈ ys, 0 ≤ y ∧ y ≤ 255) : (execOp a.eval o).run Try.prog w = .ok (.value (.bool b)) w := by
  have e := str_beq xs ys h0 h1
  subst hb
  unfold execOp
  simp only [ho, hx, hy]
  go_simp
theorem parts_keep {M : Nat} {w w' : World} {la : Option Addr} {ln lc : Nat} {Q X : Nat → Nat} {B : Nat → List Int} (h : PartsF M w la ln lc Q X B) (hb : Below w.heap.size w w') : PartsF M w' la ln lc Q X B := by
  rcases h with h | ⟨g, o, h1, h2, h3, h4⟩
  · exact .inl h
  · refine .inr ⟨g, o, h1, h2, h3, fun k hk => ?_⟩
    obtain ⟨a, n, c, h5, h6⟩ := h4 k hk
    exact ⟨a, n, c, h5.keep hb, h6⟩
theorem own_nil_cap {w : World} {base : Nat} {a : Option Addr} {n c : Nat} {xs : List Int} (h : Own w base (.slice a n c) xs) : a = none → c = 0 := by
  intro e
  subst e
  rcases h.form with ⟨e, _⟩ | ⟨_, _, _, e, _⟩
  · simp only [Value.slice.injEq] at e; exact e.2.2
  · cases e
theorem part_at {M : Nat} {w : World} {la : Option Addr} {ln lc : Nat} {Q X : Nat → Nat} {B : Nat → List Int} (h : PartsF M w la ln lc Q X B) (k : Nat) (hk : k < ln) : ∃ gp op, Hid (la = some ⟨gp, op, none⟩) ∧ Hid (ln ≤ maxLen) ∧ ∃ pa pn pc, Hid (PartAt w gp (op + k * 3) (Q k) (X k) pa pn pc (B k)) ∧ Hid (pn ≤ M) := by
  rcases h with h | ⟨g, o, h1, h2, h3, h4⟩
  · omega
  · obtain ⟨a, n, c, h5, h6⟩ := h4 k hk
    exact ⟨g, o, Lib.hid h1, Lib.hid (Nat.le_trans h2 h3), a, n, c, Lib.hid h5, Lib.hid h6⟩
attribute [local irreducible] wpList
set_option maxHeartbeats 8000000 in
theorem walkPackBack (la : Option Addr) (ln lc : Nat) (w : World) (hp : ∃ Q X B, PartsF 140737488355328 w la ln lc Q X B) :
    Calls Try.prog 5 #[.slice la ln lc] w fun e w' => e = .returned (.bool true) ∧ Below w.heap.size w w' := by
  obtain ⟨Q, X, B, hp⟩ := hp
  have HP := Lib.hid hp
  clear hp
  go_enter Try.func5, Try.ntmps5
  go_upto_region 1 with (fail)
  refine wp_region_lit ?_
  refine wpL_call 8 #[] rfl (by kernel_rfl) (((awake_any w)).mono fun e w1 ⟨he, hb⟩ => ⟨.bool true, he, ?_⟩)
  simp only [Act.put, List.setIfInBounds_toArray, List.set_cons_zero, List.set_cons_succ]
  have B1 := Lib.hid hb
  clear hb
  refine wpL_pure (.bool false) rfl (by kernel_rfl) ?_
  simp only [Act.put, List.setIfInBounds_toArray, List.set_cons_zero, List.set_cons_succ]
  refine wpL_pure (.bool false) rfl (by kernel_rfl) ?_
  simp only [Act.put, List.setIfInBounds_toArray, List.set_cons_zero, List.set_cons_succ]
  refine wpL_pure (.slice la ln lc) rfl (by kernel_rfl) ?_
  simp only [Act.put, List.setIfInBounds_toArray, List.set_cons_zero, List.set_cons_succ]
  refine wpL_call 9 #[.slice la ln lc] rfl (by kernel_rfl) (((few_any w1 _ la ln lc Q X B (parts_keep HP.out B1.out))).mono fun e w2 ⟨z, he, hw, hz⟩ => ⟨.bool z, he, ?_⟩)
  simp only [Act.put, List.setIfInBounds_toArray, List.set_cons_zero, List.set_cons_succ]
  subst hw
  have L40i := Lib.hid hz
  clear hz
  cases z
  · refine wpL_pure (.bool true) rfl (by kernel_rfl) ?_
    simp only [Act.put, List.setIfInBounds_toArray, List.set_cons_zero, List.set_cons_succ]
    refine wpL_pure (.bool true) rfl (by kernel_rfl) ?_
    simp only [Act.put, List.setIfInBounds_toArray, List.set_cons_zero, List.set_cons_succ]
    go_upto_region 2 with (fail)
    refine wp_region_lit ?_
    refine wpL_call 8 #[] rfl (by kernel_rfl) (((awake_any w1)).mono fun e w2 ⟨he, hb⟩ => ⟨.bool true, he, ?_⟩)
    simp only [Act.put, List.setIfInBounds_toArray, List.set_cons_zero, List.set_cons_succ]
    have B2 := Lib.hid (B1.out.trans (hb.mono B1.out.size))
    clear hb
    refine wpL_pure (.bool true) rfl (by kernel_rfl) ?_
    simp only [Act.put, List.setIfInBounds_toArray, List.set_cons_zero, List.set_cons_succ]
    go_wp2_with fail
    go_ret
    exact ⟨rfl, B2.out⟩
  · have L40 : Hid (ln ≤ 40) := Lib.hid (L40i.out rfl)
    clear L40i
    refine wpL_pure (.bool false) rfl (by kernel_rfl) ?_
    simp only [Act.put, List.setIfInBounds_toArray, List.set_cons_zero, List.set_cons_succ]
    refine wpL_pure (.bool false) rfl (by kernel_rfl) ?_
    simp only [Act.put, List.setIfInBounds_toArray, List.set_cons_zero, List.set_cons_succ]
    go_upto_region 4 with (fail)
    have O0 : OutG (w1.alloc (.cells #[.slice none 0 0, .bool false, .pointer none] 30)) w1.heap.size (some []) := ⟨OutSt.new w1, by simp⟩
    have W0 : Below w.heap.size w (w1.alloc (.cells #[.slice none 0 0, .bool false, .pointer none] 30)) := B1.out.alloc B1.out.size _
    generalize w1.alloc (.cells #[.slice none 0 0, .bool false, .pointer none] 30) = w3 at O0 W0 ⊢
    have OH : Hid (OutG w3 w1.heap.size (some []) ∧ Below w.heap.size w w3 ∧ w.heap.size ≤ w1.heap.size) := Lib.hid ⟨O0, W0, B1.out.size⟩
    clear O0 W0 B1
    generalize w1.heap.size = go at *
    go_wp2_with fail
    go_loopw [4] (fun s4 wr => ∃ k : Nat, s4 = .int .i64 (k : Int) ∧ Hid (k ≤ ln ∧ OutG wr go (stk Q X B k) ∧ Below w.heap.size w wr)) (fun s4 _ => ln - (intOf s4).toNat)
    case atStart => exact ⟨0, rfl, Lib.hid ⟨by omega, OH.out.1, OH.out.2.1⟩⟩
    case round =>
      obtain ⟨k, rfl, RI⟩ := hrel
      by_cases hlt : k < ln
      · have HK := Lib.hid hlt
        obtain ⟨gp, op, AE, LL, pa, pn, pc, PA, PM⟩ := part_at HP.out k hlt
        have PW : Hid (PartAt wr gp (op + k * 3) (Q k) (X k) pa pn pc (B k)) := Lib.hid (PA.out.keep RI.out.2.2)
        clear hlt
        go_upto_region 5 with (fail)
        refine wp_region_lit ?_
        refine wpL_pure (.int .i64 (k : Int)) rfl (by kernel_rfl) ?_
        simp only [Act.put, List.setIfInBounds_toArray, List.set_cons_zero, List.set_cons_succ]
        refine wpL_pure (.slice la ln lc) rfl (by kernel_rfl) ?_
        simp only [Act.put, List.setIfInBounds_toArray, List.set_cons_zero, List.set_cons_succ]
        refine wpL_pure (.int .i64 (ln : Int)) rfl (by kernel_rfl) ?_
        simp only [Act.put, List.setIfInBounds_toArray, List.set_cons_zero, List.set_cons_succ]
        refine wpL_pure (.bool true) rfl (run_lti Try.underlying3 rfl rfl rfl (by have := HK.out; rw [decide_eq_true_eq]; omega)) ?_
        simp only [Act.put, List.setIfInBounds_toArray, List.set_cons_zero, List.set_cons_succ]
        go_upto_region 7 with (fail)
        refine wp_region_lit ?_
        refine wpL_pure (.slice la ln lc) rfl (by kernel_rfl) ?_
        simp only [Act.put, List.setIfInBounds_toArray, List.set_cons_zero, List.set_cons_succ]
        refine wpL_pure (.int .i64 (k : Int)) rfl (by kernel_rfl) ?_
        simp only [Act.put, List.setIfInBounds_toArray, List.set_cons_zero, List.set_cons_succ]
        refine wpL_pure (.pointer (some ⟨gp, op + k * 3, none⟩)) rfl (run_idxp _ _ _ _ _ gp op ln lc k rfl (by rw [AE.out]; rfl) rfl HK.out LL.out) ?_
        simp only [Act.put, List.setIfInBounds_toArray, List.set_cons_zero, List.set_cons_succ]
        refine wpL_load 35 _ rfl rfl (gp) (op + k * 3) rfl [.int .u8 (Q k : Int), .int .u64 (X k : Int), .slice pa pn pc] _ (part_range PW.out) Try.underlying35 rfl (by kernel_rfl) ?_
        simp only [Act.put, List.setIfInBounds_toArray, List.set_cons_zero, List.set_cons_succ]
        refine wpL_call 10 #[.pointer (some ⟨go, 0, none⟩), .agg #[.int .u8 (Q k : Int), .int .u64 (X k : Int), .slice pa pn pc]] rfl (by kernel_rfl) (((lawput_gen wr go (stk Q X B k) (Q k) (X k) pa pn pc (B k) RI.out.2.1 (fun Y hY => (PA.out.2.2.2.2.2.1.keep (RI.out.2.2.trans (hY.mono OH.out.2.2)))) (by have := PM.out; omega) PA.out.2.2.2.1 PA.out.2.2.2.2.1)).mono fun e w4 ⟨he, q1, q2⟩ => ⟨.tuple #[], he, ?_⟩)
        simp only [Act.put, List.setIfInBounds_toArray, List.set_cons_zero, List.set_cons_succ]
        have NX : Hid (k + 1 ≤ ln ∧ OutG w4 go (stk Q X B (k + 1)) ∧ Below w.heap.size w w4) := Lib.hid ⟨by have := HK.out; omega, q1, RI.out.2.2.trans (q2.mono OH.out.2.2)⟩
        clear q1 q2
        go_upto_region 6 with (fail)
        refine wp_region_lit ?_
        refine wpL_pure (.int .i64 (k : Int)) rfl (by kernel_rfl) ?_
        simp only [Act.put, List.setIfInBounds_toArray, List.set_cons_zero, List.set_cons_succ]
        refine wpL_pure (.int .i64 ((k + 1 : Nat) : Int)) rfl (run_addi Try.underlying3 rfl rfl rfl _ (by have := HK.out; have := LL.out; unfold maxLen at this; have := L40.out; rw [wrap_in _ (by omega) (by omega)]; omega)) ?_
        simp only [Act.put, List.setIfInBounds_toArray, List.set_cons_zero, List.set_cons_succ]
        refine wpL_pure (.int .i64 ((k + 1 : Nat) : Int)) rfl (by kernel_rfl) ?_
        simp only [Act.put, List.setIfInBounds_toArray, List.set_cons_zero, List.set_cons_succ]
        unfold wpList
        go_roundw
        case rel => first | exact ⟨_, rfl, NX⟩ | ((repeat apply Exists.intro); exact ⟨⟨_, rfl, NX⟩, rfl⟩)
        case measure => simp [intOf]; have := HK.out; omega
      · have HK := Lib.hid hlt
        have EK : Hid (k = ln) := Lib.hid (by have := RI.out.1; omega)
        clear hlt
        go_upto_region 5 with (fail)
        refine wp_region_lit ?_
        refine wpL_pure (.int .i64 (k : Int)) rfl (by kernel_rfl) ?_
        simp only [Act.put, List.setIfInBounds_toArray, List.set_cons_zero, List.set_cons_succ]
        refine wpL_pure (.slice la ln lc) rfl (by kernel_rfl) ?_
        simp only [Act.put, List.setIfInBounds_toArray, List.set_cons_zero, List.set_cons_succ]
        refine wpL_pure (.int .i64 (ln : Int)) rfl (by kernel_rfl) ?_
        simp only [Act.put, List.setIfInBounds_toArray, List.set_cons_zero, List.set_cons_succ]
        refine wpL_pure (.bool false) rfl (run_lti Try.underlying3 rfl rfl rfl (by have := HK.out; rw [decide_eq_false_iff_not]; omega)) ?_
        simp only [Act.put, List.setIfInBounds_toArray, List.set_cons_zero, List.set_cons_succ]
        have RO : Hid (OutG wr go (stk Q X B ln)) := Lib.hid (by rw [← EK.out]; exact RI.out.2.1)
        obtain ⟨st, hst⟩ : ∃ z, stk Q X B ln = z := ⟨_, rfl⟩
        have HS := Lib.hid hst
        rw [hst] at RO
        clear hst
        cases st with
        | none =>
          go_upto_region 8 with (fail)
          refine wp_region_lit ?_
          refine wpL_call 12 #[.pointer (some ⟨go, 0, none⟩)] rfl (by kernel_rfl) (((end_long wr go RO.out)).mono fun e w4 ⟨he, hw⟩ => ⟨.tuple #[.slice none 0 0, .int .i64 3], he, ?_⟩)
          simp only [Act.put, List.setIfInBounds_toArray, List.set_cons_zero, List.set_cons_succ]
          subst hw
          refine wpL_pure (.tuple #[.slice none 0 0, .int .i64 3]) rfl (by kernel_rfl) ?_
          simp only [Act.put, List.setIfInBounds_toArray, List.set_cons_zero, List.set_cons_succ]
          refine wpL_pure (.slice none 0 0) rfl (by kernel_rfl) ?_
          simp only [Act.put, List.setIfInBounds_toArray, List.set_cons_zero, List.set_cons_succ]
          refine wpL_pure (.int .i64 3) rfl (by kernel_rfl) ?_
          simp only [Act.put, List.setIfInBounds_toArray, List.set_cons_zero, List.set_cons_succ]
          refine wpL_pure (.slice none 0 0) rfl (by kernel_rfl) ?_
          simp only [Act.put, List.setIfInBounds_toArray, List.set_cons_zero, List.set_cons_succ]
          refine wpL_pure (.int .i64 3) rfl (by kernel_rfl) ?_
          simp only [Act.put, List.setIfInBounds_toArray, List.set_cons_zero, List.set_cons_succ]
          go_upto_region 9 with (fail)
          refine wp_region_lit ?_
          refine wpL_pure (.int .i64 3) rfl (by kernel_rfl) ?_
          simp only [Act.put, List.setIfInBounds_toArray, List.set_cons_zero, List.set_cons_succ]
          refine wpL_pure (.bool true) rfl (by kernel_rfl) ?_
          simp only [Act.put, List.setIfInBounds_toArray, List.set_cons_zero, List.set_cons_succ]
          go_upto_region 10 with (fail)
          refine wp_region_lit ?_
          refine wpL_pure (.int .i64 3) rfl (by kernel_rfl) ?_
          simp only [Act.put, List.setIfInBounds_toArray, List.set_cons_zero, List.set_cons_succ]
          refine wpL_pure (.bool true) rfl (by kernel_rfl) ?_
          simp only [Act.put, List.setIfInBounds_toArray, List.set_cons_zero, List.set_cons_succ]
          refine wpL_pure (.bool true) rfl (by kernel_rfl) ?_
          simp only [Act.put, List.setIfInBounds_toArray, List.set_cons_zero, List.set_cons_succ]
          go_wp2_with fail
          go_ret
          exact ⟨rfl, RI.out.2.2⟩
        | some xs =>
          have XL : Hid (xs.length ≤ 16384) := Lib.hid RO.out.2
          go_upto_region 8 with (fail)
          refine wp_region_lit ?_
          refine wpL_call 12 #[.pointer (some ⟨go, 0, none⟩)] rfl (by kernel_rfl) (((end_any wr go xs RO.out.1 XL.out)).mono fun e w4 ⟨v, he, q1, q2⟩ => ⟨.tuple #[v, .int .i64 0], he, ?_⟩)
          simp only [Act.put, List.setIfInBounds_toArray, List.set_cons_zero, List.set_cons_succ]
          obtain ⟨a4, c4, ev⟩ := q1.slice
          subst ev
          have B4 : Hid (Below w.heap.size w w4 ∧ Row w4 a4 xs.length xs ∧ (a4 = none → c4 = 0)) := Lib.hid ⟨RI.out.2.2.trans (q2.mono RI.out.2.2.size), q1.row.1, own_nil_cap q1⟩
          clear q1 q2 RI
          refine wpL_pure (.tuple #[.slice a4 xs.length c4, .int .i64 0]) rfl (by kernel_rfl) ?_
          simp only [Act.put, List.setIfInBounds_toArray, List.set_cons_zero, List.set_cons_succ]
          refine wpL_pure (.slice a4 xs.length c4) rfl (by kernel_rfl) ?_
          simp only [Act.put, List.setIfInBounds_toArray, List.set_cons_zero, List.set_cons_succ]
          refine wpL_pure (.int .i64 0) rfl (by kernel_rfl) ?_
          simp only [Act.put, List.setIfInBounds_toArray, List.set_cons_zero, List.set_cons_succ]
          refine wpL_pure (.slice a4 xs.length c4) rfl (by kernel_rfl) ?_
          simp only [Act.put, List.setIfInBounds_toArray, List.set_cons_zero, List.set_cons_succ]
          refine wpL_pure (.int .i64 0) rfl (by kernel_rfl) ?_
          simp only [Act.put, List.setIfInBounds_toArray, List.set_cons_zero, List.set_cons_succ]
          go_upto_region 9 with (fail)
          refine wp_region_lit ?_
          refine wpL_pure (.int .i64 0) rfl (by kernel_rfl) ?_
          simp only [Act.put, List.setIfInBounds_toArray, List.set_cons_zero, List.set_cons_succ]
          refine wpL_pure (.bool false) rfl (by kernel_rfl) ?_
          simp only [Act.put, List.setIfInBounds_toArray, List.set_cons_zero, List.set_cons_succ]
          go_upto_region 11 with (fail)
          refine wp_region_lit ?_
          refine wpL_pure (.slice a4 xs.length c4) rfl (by kernel_rfl) ?_
          simp only [Act.put, List.setIfInBounds_toArray, List.set_cons_zero, List.set_cons_succ]
          refine wpL_call 13 #[.slice a4 xs.length c4] rfl (by kernel_rfl) (((read_any w4 a4 xs.length c4 xs B4.out.2.1 (by have := XL.out; omega) B4.out.2.2)).mono fun e w5 ⟨g, he, hg, hI, hb⟩ => ⟨.pointer (some ⟨g, 0, none⟩), he, ?_⟩)
          simp only [Act.put, List.setIfInBounds_toArray, List.set_cons_zero, List.set_cons_succ]
          have B5 : Hid (InSt w5 g xs false ∧ Below w.heap.size w w5 ∧ w.heap.size ≤ g) := Lib.hid ⟨hI, B4.out.1.trans (hb.mono B4.out.1.size), Nat.le_trans B4.out.1.size hg⟩
          clear hg hI hb B4
          refine wpL_pure (.pointer (some ⟨g, 0, none⟩)) rfl (by kernel_rfl) ?_
          simp only [Act.put, List.setIfInBounds_toArray, List.set_cons_zero, List.set_cons_succ]
          clear RO HK EK
          go_wp2_with fail
          go_loopw [8] (fun s8 wr => ∃ k : Nat, s8 = .int .i64 (k : Int) ∧ Hid (k ≤ ln ∧ (∃ y r, stk Q X B k = some y ∧ xs = y ++ r ∧ InSt wr g r false) ∧ Below w.heap.size w wr)) (fun s8 _ => ln - (intOf s8).toNat)
          case atStart => exact ⟨0, rfl, Lib.hid ⟨by omega, ⟨[], xs, rfl, rfl, B5.out.1⟩, B5.out.2.1⟩⟩
          case round =>
            obtain ⟨k, rfl, RI⟩ := hrel
            by_cases hlt : k < ln
            · have HK := Lib.hid hlt
              obtain ⟨y, r, hy, hxr, hI⟩ := RI.out.2.1
              obtain ⟨r', hr, hy2, hxr2, h96⟩ := stk_step HS.out hlt hy hxr
              subst hr
              obtain ⟨gp, op, AE, LL, pa, pn, pc, PA, PM⟩ := part_at HP.out k hlt
              have PW : Hid (PartAt wr gp (op + k * 3) (Q k) (X k) pa pn pc (B k)) := Lib.hid (PA.out.keep RI.out.2.2)
              have BL : Hid ((B k).length = pn) := Lib.hid PA.out.2.2.2.2.2.1.1
              have IV : Hid (InSt wr g (partB (Q k) (X k) (B k) ++ r') false) := Lib.hid hI
              have ST : Hid (stk Q X B (k + 1) = some (y ++ partB (Q k) (X k) (B k)) ∧ xs = (y ++ partB (Q k) (X k) (B k)) ++ r') := Lib.hid ⟨hy2, hxr2⟩
              have GOT := Lib.hid (got_back (Q k) (X k) (B k) r' PA.out.2.2.2.2.1 h96 (by have := BL.out; have := PM.out; omega))
              have LN : Hid ((partB (Q k) (X k) (B k) ++ r').length ≤ 16384) := Lib.hid (by have h1 := congrArg List.length hxr; rw [List.length_append] at h1; have := XL.out; omega)
              clear hy hxr hI hy2 hxr2 h96 hlt
              go_upto_region 13 with (fail)
              refine wp_region_lit ?_
              refine wpL_pure (.int .i64 (k : Int)) rfl (by kernel_rfl) ?_
              simp only [Act.put, List.setIfInBounds_toArray, List.set_cons_zero, List.set_cons_succ]
              refine wpL_pure (.slice la ln lc) rfl (by kernel_rfl) ?_
              simp only [Act.put, List.setIfInBounds_toArray, List.set_cons_zero, List.set_cons_succ]
              refine wpL_pure (.int .i64 (ln : Int)) rfl (by kernel_rfl) ?_
              simp only [Act.put, List.setIfInBounds_toArray, List.set_cons_zero, List.set_cons_succ]
              refine wpL_pure (.bool true) rfl (run_lti Try.underlying3 rfl rfl rfl (by have := HK.out; rw [decide_eq_true_eq]; omega)) ?_
              simp only [Act.put, List.setIfInBounds_toArray, List.set_cons_zero, List.set_cons_succ]
              obtain ⟨W0, hW0⟩ : ∃ V, V = (wr.alloc (.cells #[.int .u8 0, .int .u64 0, .slice none 0 0] 35)).setRow wr.heap.size #[.int .u8 (Q k : Int), .int .u64 (X k : Int), .slice pa pn pc] := ⟨_, rfl⟩
              have B0 : Hid (Blk W0 wr.heap.size 35 #[.int .u8 (Q k : Int), .int .u64 (X k : Int), .slice pa pn pc] ∧ Below wr.heap.size wr W0) := Lib.hid (by rw [hW0]; exact ⟨setRow_heap _ _ _ _ _ _ (Blk.new wr 35 _), below_setRow ((Below.refl _ _).alloc (Nat.le_refl _) _) (Nat.le_refl _) _⟩)
              go_upto_region 15 with (fail)
              refine wp_region_lit ?_
              refine wpL_pure (.slice la ln lc) rfl (by kernel_rfl) ?_
              simp only [Act.put, List.setIfInBounds_toArray, List.set_cons_zero, List.set_cons_succ]
              refine wpL_pure (.int .i64 (k : Int)) rfl (by kernel_rfl) ?_
              simp only [Act.put, List.setIfInBounds_toArray, List.set_cons_zero, List.set_cons_succ]
              refine wpL_pure (.pointer (some ⟨gp, op + k * 3, none⟩)) rfl (run_idxp _ _ _ _ _ gp op ln lc k rfl (by rw [AE.out]; rfl) rfl HK.out LL.out) ?_
              simp only [Act.put, List.setIfInBounds_toArray, List.set_cons_zero, List.set_cons_succ]
              refine wpL_load 35 _ rfl rfl (gp) (op + k * 3) rfl [.int .u8 (Q k : Int), .int .u64 (X k : Int), .slice pa pn pc] _ (part_range PW.out) Try.underlying35 rfl (by kernel_rfl) ?_
              simp only [Act.put, List.setIfInBounds_toArray, List.set_cons_zero, List.set_cons_succ]
              refine wpL_value (.pointer (some ⟨wr.heap.size, 0, none⟩)) (wr.alloc (.cells #[.int .u8 0, .int .u64 0, .slice none 0 0] 35)) rfl (by kernel_rfl) ?_
              simp only [Act.put, List.setIfInBounds_toArray, List.set_cons_zero, List.set_cons_succ]
              refine wpList_store_rowTo rfl 35 _ _ rfl rfl wr.heap.size #[.int .u8 (Q k : Int), .int .u64 (X k : Int), .slice pa pn pc] rfl rfl 35 _ (Blk.new wr 35 _) (by kernel_rfl) rfl (by kernel_rfl) ?_
              rw [← hW0]
              clear hW0
              have I0 : Hid ((∀ Y, Below wr.heap.size wr Y → InSt Y g (partB (Q k) (X k) (B k) ++ r') false ∧ Below w.heap.size w Y) ∧ Below wr.heap.size wr W0 ∧ wr.heap.size ≠ g) := Lib.hid ⟨fun Y hY => ⟨IV.out.below hY, RI.out.2.2.trans (hY.mono RI.out.2.2.size)⟩, B0.out.2, (by obtain ⟨a, n, c, h1, _⟩ := IV.out; have := h1.lt; omega)⟩
              replace B0 : Hid (Blk W0 wr.heap.size 35 #[.int .u8 (Q k : Int), .int .u64 (X k : Int), .slice pa pn pc]) := Lib.hid B0.out.1
              clear RI IV PW
              generalize wr.heap.size = gq at *
              have QL : Hid (Q k < 256 ∧ X k < 18446744073709551616) := Lib.hid ⟨PA.out.2.2.2.1, PA.out.2.2.2.2.1⟩
              have hq : Q k % 4 = 0 ∨ Q k % 4 = 1 ∨ Q k % 4 = 2 ∨ Q k % 4 = 3 := by omega
              rcases hq with hq | hq | hq | hq
              · have HQ : Hid (Q k % 4 = 0) := Lib.hid hq
                clear hq
                go_upto_region 16 with (fail)
                refine wp_region_lit ?_
                refine wpL_pure (.pointer (some ⟨gq, 0, none⟩)) rfl (by kernel_rfl) ?_
                simp only [Act.put, List.setIfInBounds_toArray, List.set_cons_zero, List.set_cons_succ]
                refine wpL_pure (.int .u8 (Q k : Int)) rfl (run_load_one _ _ _ 5 _ _ rfl (gq) (0) rfl (by rw [B0.out.cell]; rfl) (by kernel_rfl)) ?_
                simp only [Act.put, List.setIfInBounds_toArray, List.set_cons_zero, List.set_cons_succ]
                refine wpL_pure (.int .u8 ((Q k % 4 : Nat) : Int)) rfl (run_rem4 _ _ _ _ _ (Q k) rfl rfl rfl QL.out.1) ?_
                simp only [Act.put, List.setIfInBounds_toArray, List.set_cons_zero, List.set_cons_succ]
                refine wpL_pure (.bool false) rfl (run_eqi Try.underlying5 rfl rfl rfl (by have := HQ.out; rw [decide_eq_false_iff_not]; omega)) ?_
                simp only [Act.put, List.setIfInBounds_toArray, List.set_cons_zero, List.set_cons_succ]
                refine wpL_pure (.bool false) rfl (by kernel_rfl) ?_
                simp only [Act.put, List.setIfInBounds_toArray, List.set_cons_zero, List.set_cons_succ]
                refine wpL_pure (.pointer (some ⟨gq, 0, none⟩)) rfl (by kernel_rfl) ?_
                simp only [Act.put, List.setIfInBounds_toArray, List.set_cons_zero, List.set_cons_succ]
                refine wpL_pure (.int .u8 (Q k : Int)) rfl (run_load_one _ _ _ 5 _ _ rfl (gq) (0) rfl (by rw [B0.out.cell]; rfl) (by kernel_rfl)) ?_
                simp only [Act.put, List.setIfInBounds_toArray, List.set_cons_zero, List.set_cons_succ]
                refine wpL_pure (.int .u8 ((Q k % 4 : Nat) : Int)) rfl (run_rem4 _ _ _ _ _ (Q k) rfl rfl rfl QL.out.1) ?_
                simp only [Act.put, List.setIfInBounds_toArray, List.set_cons_zero, List.set_cons_succ]
                refine wpL_pure (.bool false) rfl (run_eqi Try.underlying5 rfl rfl rfl (by have := HQ.out; rw [decide_eq_false_iff_not]; omega)) ?_
                simp only [Act.put, List.setIfInBounds_toArray, List.set_cons_zero, List.set_cons_succ]
                refine wpL_pure (.bool false) rfl (by kernel_rfl) ?_
                simp only [Act.put, List.setIfInBounds_toArray, List.set_cons_zero, List.set_cons_succ]
                have B1 : Hid (Blk W0 gq 35 #[.int .u8 (Q k : Int), .int .u64 (X k : Int), .slice pa pn pc] ∧ InSt W0 g (partB (Q k) (X k) (B k) ++ r') false ∧ Below w.heap.size w W0) := Lib.hid ⟨B0.out, (I0.out.1 _ I0.out.2.1).1, (I0.out.1 _ I0.out.2.1).2⟩
                have GN : Hid (gq ≠ g) := Lib.hid I0.out.2.2
                clear B0 I0
                have GB : Hid (gotO (Q k % 4) (X k) (partB (Q k) (X k) (B k) ++ r') = some (X k, [], (partB (Q k) (X k) (B k)).length)) := Lib.hid (by
                  have h := GOT.out
                  have h4 := HQ.out
                  unfold backX backV backT at h
                  rw [if_neg (by omega), if_pos h4, if_neg (by omega)] at h
                  exact h)
                have TK := Lib.hid (take_any W0 g (Q k) (X k) pa pn pc (partB (Q k) (X k) (B k) ++ r') false B1.out.2.1 (by have := LN.out; omega) QL.out.1 (QL.out.2))
                rw [GB.out] at TK
                go_upto_region 18 with (fail)
                refine wp_region_lit ?_
                refine wpL_pure (.pointer (some ⟨g, 0, none⟩)) rfl (by kernel_rfl) ?_
                simp only [Act.put, List.setIfInBounds_toArray, List.set_cons_zero, List.set_cons_succ]
                refine wpL_load 35 _ rfl rfl (gq) (0) rfl [.int .u8 (Q k : Int), .int .u64 (X k : Int), .slice pa pn pc] _ (range_blk (l := [.int .u8 (Q k : Int), .int .u64 (X k : Int), .slice pa pn pc]) B1.out.1) Try.underlying35 rfl (by kernel_rfl) ?_
                simp only [Act.put, List.setIfInBounds_toArray, List.set_cons_zero, List.set_cons_succ]
                refine wpL_call 14 #[.pointer (some ⟨g, 0, none⟩), .agg #[.int .u8 (Q k : Int), .int .u64 (X k : Int), .slice pa pn pc]] rfl (by kernel_rfl) ((TK.out).mono fun e w6 ⟨v, he, q1, q2, q3⟩ => ⟨.tuple #[.int .u64 (X k : Int), v], he, ?_⟩)
                simp only [Act.put, List.setIfInBounds_toArray, List.set_cons_zero, List.set_cons_succ]
                obtain ⟨av, cv, ev⟩ := q1.slice
                have ev' : v = .slice av 0 cv := ev
                subst ev'
                clear ev
                have A1 : Hid (Row w6 av 0 ([]) ∧ InSt w6 g r' false ∧ Below w.heap.size w w6 ∧ Blk w6 gq 35 #[.int .u8 (Q k : Int), .int .u64 (X k : Int), .slice pa pn pc]) := Lib.hid ⟨q1.row.1, (by have h : InSt w6 g ((partB (Q k) (X k) (B k) ++ r').drop (partB (Q k) (X k) (B k)).length) false := q2; rw [List.drop_left] at h; exact h), B1.out.2.2.trans (gb_below q3 B5.out.2.2 B1.out.2.2.size), B1.out.1.grown q3 (by intro e; exact absurd (Option.some.inj e) GN.out)⟩
                clear q1 q2 q3 TK B1
                refine wpL_pure (.tuple #[.int .u64 (X k : Int), .slice av 0 cv]) rfl (by kernel_rfl) ?_
                simp only [Act.put, List.setIfInBounds_toArray, List.set_cons_zero, List.set_cons_succ]
                refine wpL_pure (.int .u64 (X k : Int)) rfl (by kernel_rfl) ?_
                simp only [Act.put, List.setIfInBounds_toArray, List.set_cons_zero, List.set_cons_succ]
                refine wpL_pure (.slice av 0 cv) rfl (by kernel_rfl) ?_
                simp only [Act.put, List.setIfInBounds_toArray, List.set_cons_zero, List.set_cons_succ]
                refine wpL_pure (.int .u64 (X k : Int)) rfl (by kernel_rfl) ?_
                simp only [Act.put, List.setIfInBounds_toArray, List.set_cons_zero, List.set_cons_succ]
                refine wpL_pure (.slice av 0 cv) rfl (by kernel_rfl) ?_
                simp only [Act.put, List.setIfInBounds_toArray, List.set_cons_zero, List.set_cons_succ]
                have PR : Hid (Row w6 pa pn (B k)) := Lib.hid (PA.out.2.2.2.2.2.1.keep A1.out.2.2.1)
                obtain ⟨z, hz⟩ : ∃ z, decide ([] ≠ B k) = z := ⟨_, rfl⟩
                have ZZ := Lib.hid hz
                clear hz
                cases z
                · go_upto_region 19 with (fail)
                  refine wp_region_lit ?_
                  refine wpL_pure (.slice av 0 cv) rfl (by kernel_rfl) ?_
                  simp only [Act.put, List.setIfInBounds_toArray, List.set_cons_zero, List.set_cons_succ]
                  refine wpL_pure (.string (strOfNums ([]))) rfl (run_conv_str _ _ _ _ av 0 cv _ rfl rfl A1.out.1) ?_
                  simp only [Act.put, List.setIfInBounds_toArray, List.set_cons_zero, List.set_cons_succ]
                  refine wpL_pure (.pointer (some ⟨gq, 2, none⟩)) rfl (by kernel_rfl) ?_
                  simp only [Act.put, List.setIfInBounds_toArray, List.set_cons_zero, List.set_cons_succ]
                  refine wpL_pure (.slice pa pn pc) rfl (run_load_one _ _ _ 25 _ _ rfl (gq) (2) rfl (by rw [A1.out.2.2.2.cell]; rfl) (by kernel_rfl)) ?_
                  simp only [Act.put, List.setIfInBounds_toArray, List.set_cons_zero, List.set_cons_succ]
                  refine wpL_pure (.string (strOfNums (B k))) rfl (run_conv_str _ _ _ _ pa pn pc _ rfl rfl PR.out) ?_
                  simp only [Act.put, List.setIfInBounds_toArray, List.set_cons_zero, List.set_cons_succ]
                  refine wpL_pure (.bool false) rfl (run_str_ne _ _ _ _ _ _ _ false rfl rfl rfl ZZ.out (by simp) (fun v hv => PR.out.2.2.1 v hv)) ?_
                  simp only [Act.put, List.setIfInBounds_toArray, List.set_cons_zero, List.set_cons_succ]
                  refine wpL_pure (.bool false) rfl (by kernel_rfl) ?_
                  simp only [Act.put, List.setIfInBounds_toArray, List.set_cons_zero, List.set_cons_succ]
                  refine wpL_skip (by kernel_rfl) ?_
                  simp only [Act.put, List.setIfInBounds_toArray, List.set_cons_zero, List.set_cons_succ]
                  refine wpL_skip (by kernel_rfl) ?_
                  simp only [Act.put, List.setIfInBounds_toArray, List.set_cons_zero, List.set_cons_succ]
                  refine wpL_skip (by kernel_rfl) ?_
                  simp only [Act.put, List.setIfInBounds_toArray, List.set_cons_zero, List.set_cons_succ]
                  refine wpL_skip (by kernel_rfl) ?_
                  simp only [Act.put, List.setIfInBounds_toArray, List.set_cons_zero, List.set_cons_succ]
                  refine wpL_pure (.bool false) rfl (by kernel_rfl) ?_
                  simp only [Act.put, List.setIfInBounds_toArray, List.set_cons_zero, List.set_cons_succ]
                  refine wpL_pure (.bool false) rfl (by kernel_rfl) ?_
                  simp only [Act.put, List.setIfInBounds_toArray, List.set_cons_zero, List.set_cons_succ]
                  refine wpL_skip (by kernel_rfl) ?_
                  simp only [Act.put, List.setIfInBounds_toArray, List.set_cons_zero, List.set_cons_succ]
                  refine wpL_skip (by kernel_rfl) ?_
                  simp only [Act.put, List.setIfInBounds_toArray, List.set_cons_zero, List.set_cons_succ]
                  refine wpL_skip (by kernel_rfl) ?_
                  simp only [Act.put, List.setIfInBounds_toArray, List.set_cons_zero, List.set_cons_succ]
                  refine wpL_skip (by kernel_rfl) ?_
                  simp only [Act.put, List.setIfInBounds_toArray, List.set_cons_zero, List.set_cons_succ]
                  refine wpL_pure (.bool false) rfl (by kernel_rfl) ?_
                  simp only [Act.put, List.setIfInBounds_toArray, List.set_cons_zero, List.set_cons_succ]
                  refine wpL_pure (.bool false) rfl (by kernel_rfl) ?_
                  simp only [Act.put, List.setIfInBounds_toArray, List.set_cons_zero, List.set_cons_succ]
                  refine wpL_pure (.pointer (some ⟨gq, 0, none⟩)) rfl (by kernel_rfl) ?_
                  simp only [Act.put, List.setIfInBounds_toArray, List.set_cons_zero, List.set_cons_succ]
                  refine wpL_pure (.int .u8 (Q k : Int)) rfl (run_load_one _ _ _ 5 _ _ rfl (gq) (0) rfl (by rw [A1.out.2.2.2.cell]; rfl) (by kernel_rfl)) ?_
                  simp only [Act.put, List.setIfInBounds_toArray, List.set_cons_zero, List.set_cons_succ]
                  refine wpL_pure (.int .u8 ((Q k % 4 : Nat) : Int)) rfl (run_rem4 _ _ _ _ _ (Q k) rfl rfl rfl QL.out.1) ?_
                  simp only [Act.put, List.setIfInBounds_toArray, List.set_cons_zero, List.set_cons_succ]
                  refine wpL_pure (.bool true) rfl (run_eqi Try.underlying5 rfl rfl rfl (by have := HQ.out; rw [decide_eq_true_eq]; omega)) ?_
                  simp only [Act.put, List.setIfInBounds_toArray, List.set_cons_zero, List.set_cons_succ]
                  refine wpL_pure (.bool true) rfl (by kernel_rfl) ?_
                  simp only [Act.put, List.setIfInBounds_toArray, List.set_cons_zero, List.set_cons_succ]
                  refine wpL_pure (.int .u64 (X k : Int)) rfl (by kernel_rfl) ?_
                  simp only [Act.put, List.setIfInBounds_toArray, List.set_cons_zero, List.set_cons_succ]
                  refine wpL_pure (.pointer (some ⟨gq, 1, none⟩)) rfl (by kernel_rfl) ?_
                  simp only [Act.put, List.setIfInBounds_toArray, List.set_cons_zero, List.set_cons_succ]
                  refine wpL_pure (.int .u64 (X k : Int)) rfl (run_load_one _ _ _ 33 _ _ rfl (gq) (1) rfl (by rw [A1.out.2.2.2.cell]; rfl) (by kernel_rfl)) ?_
                  simp only [Act.put, List.setIfInBounds_toArray, List.set_cons_zero, List.set_cons_succ]
                  refine wpL_pure (.bool false) rfl (run_nei Try.underlying33 rfl rfl rfl (by simp)) ?_
                  simp only [Act.put, List.setIfInBounds_toArray, List.set_cons_zero, List.set_cons_succ]
                  refine wpL_pure (.bool false) rfl (by kernel_rfl) ?_
                  simp only [Act.put, List.setIfInBounds_toArray, List.set_cons_zero, List.set_cons_succ]
                  refine wpL_pure (.bool false) rfl (by kernel_rfl) ?_
                  simp only [Act.put, List.setIfInBounds_toArray, List.set_cons_zero, List.set_cons_succ]
                  refine wpL_pure (.bool false) rfl (by kernel_rfl) ?_
                  simp only [Act.put, List.setIfInBounds_toArray, List.set_cons_zero, List.set_cons_succ]
                  refine wpL_pure (.pointer (some ⟨gq, 0, none⟩)) rfl (by kernel_rfl) ?_
                  simp only [Act.put, List.setIfInBounds_toArray, List.set_cons_zero, List.set_cons_succ]
                  refine wpL_pure (.int .u8 (Q k : Int)) rfl (run_load_one _ _ _ 5 _ _ rfl (gq) (0) rfl (by rw [A1.out.2.2.2.cell]; rfl) (by kernel_rfl)) ?_
                  simp only [Act.put, List.setIfInBounds_toArray, List.set_cons_zero, List.set_cons_succ]
                  refine wpL_pure (.int .u8 ((Q k % 4 : Nat) : Int)) rfl (run_rem4 _ _ _ _ _ (Q k) rfl rfl rfl QL.out.1) ?_
                  simp only [Act.put, List.setIfInBounds_toArray, List.set_cons_zero, List.set_cons_succ]
                  refine wpL_pure (.bool false) rfl (run_eqi Try.underlying5 rfl rfl rfl (by have := HQ.out; rw [decide_eq_false_iff_not]; omega)) ?_
                  simp only [Act.put, List.setIfInBounds_toArray, List.set_cons_zero, List.set_cons_succ]
                  refine wpL_pure (.bool false) rfl (by kernel_rfl) ?_
                  simp only [Act.put, List.setIfInBounds_toArray, List.set_cons_zero, List.set_cons_succ]
                  refine wpL_skip (by kernel_rfl) ?_
                  simp only [Act.put, List.setIfInBounds_toArray, List.set_cons_zero, List.set_cons_succ]
                  refine wpL_skip (by kernel_rfl) ?_
                  simp only [Act.put, List.setIfInBounds_toArray, List.set_cons_zero, List.set_cons_succ]
                  refine wpL_skip (by kernel_rfl) ?_
                  simp only [Act.put, List.setIfInBounds_toArray, List.set_cons_zero, List.set_cons_succ]
                  refine wpL_skip (by kernel_rfl) ?_
                  simp only [Act.put, List.setIfInBounds_toArray, List.set_cons_zero, List.set_cons_succ]
                  refine wpL_skip (by kernel_rfl) ?_
                  simp only [Act.put, List.setIfInBounds_toArray, List.set_cons_zero, List.set_cons_succ]
                  refine wpL_pure (.bool false) rfl (by kernel_rfl) ?_
                  simp only [Act.put, List.setIfInBounds_toArray, List.set_cons_zero, List.set_cons_succ]
                  refine wpL_pure (.bool false) rfl (by kernel_rfl) ?_
                  simp only [Act.put, List.setIfInBounds_toArray, List.set_cons_zero, List.set_cons_succ]
                  go_upto_region 14 with (fail)
                  refine wp_region_lit ?_
                  refine wpL_pure (.int .i64 (k : Int)) rfl (by kernel_rfl) ?_
                  simp only [Act.put, List.setIfInBounds_toArray, List.set_cons_zero, List.set_cons_succ]
                  refine wpL_pure (.int .i64 ((k + 1 : Nat) : Int)) rfl (run_addi Try.underlying3 rfl rfl rfl _ (by have := HK.out; have := L40.out; rw [wrap_in _ (by omega) (by omega)]; omega)) ?_
                  simp only [Act.put, List.setIfInBounds_toArray, List.set_cons_zero, List.set_cons_succ]
                  refine wpL_pure (.int .i64 ((k + 1 : Nat) : Int)) rfl (by kernel_rfl) ?_
                  simp only [Act.put, List.setIfInBounds_toArray, List.set_cons_zero, List.set_cons_succ]
                  have NX : Hid (k + 1 ≤ ln ∧ (∃ y r, stk Q X B (k + 1) = some y ∧ xs = y ++ r ∧ InSt w6 g r false) ∧ Below w.heap.size w w6) := Lib.hid ⟨by have := HK.out; omega, ⟨_, r', ST.out.1, ST.out.2, A1.out.2.1⟩, A1.out.2.2.1⟩
                  unfold wpList
                  go_roundw
                  case rel => first | exact ⟨_, rfl, NX⟩ | ((repeat apply Exists.intro); exact ⟨⟨_, rfl, NX⟩, rfl⟩)
                  case measure => simp [intOf]; have := HK.out; omega
                · go_upto_region 19 with (fail)
                  refine wp_region_lit ?_
                  refine wpL_pure (.slice av 0 cv) rfl (by kernel_rfl) ?_
                  simp only [Act.put, List.setIfInBounds_toArray, List.set_cons_zero, List.set_cons_succ]
                  refine wpL_pure (.string (strOfNums ([]))) rfl (run_conv_str _ _ _ _ av 0 cv _ rfl rfl A1.out.1) ?_
                  simp only [Act.put, List.setIfInBounds_toArray, List.set_cons_zero, List.set_cons_succ]
                  refine wpL_pure (.pointer (some ⟨gq, 2, none⟩)) rfl (by kernel_rfl) ?_
                  simp only [Act.put, List.setIfInBounds_toArray, List.set_cons_zero, List.set_cons_succ]
                  refine wpL_pure (.slice pa pn pc) rfl (run_load_one _ _ _ 25 _ _ rfl (gq) (2) rfl (by rw [A1.out.2.2.2.cell]; rfl) (by kernel_rfl)) ?_
                  simp only [Act.put, List.setIfInBounds_toArray, List.set_cons_zero, List.set_cons_succ]
                  refine wpL_pure (.string (strOfNums (B k))) rfl (run_conv_str _ _ _ _ pa pn pc _ rfl rfl PR.out) ?_
                  simp only [Act.put, List.setIfInBounds_toArray, List.set_cons_zero, List.set_cons_succ]
                  refine wpL_pure (.bool true) rfl (run_str_ne _ _ _ _ _ _ _ true rfl rfl rfl ZZ.out (by simp) (fun v hv => PR.out.2.2.1 v hv)) ?_
                  simp only [Act.put, List.setIfInBounds_toArray, List.set_cons_zero, List.set_cons_succ]
                  refine wpL_pure (.bool true) rfl (by kernel_rfl) ?_
                  simp only [Act.put, List.setIfInBounds_toArray, List.set_cons_zero, List.set_cons_succ]
                  refine wpL_pure (.pointer (some ⟨gq, 0, none⟩)) rfl (by kernel_rfl) ?_
                  simp only [Act.put, List.setIfInBounds_toArray, List.set_cons_zero, List.set_cons_succ]
                  refine wpL_pure (.int .u8 (Q k : Int)) rfl (run_load_one _ _ _ 5 _ _ rfl (gq) (0) rfl (by rw [A1.out.2.2.2.cell]; rfl) (by kernel_rfl)) ?_
                  simp only [Act.put, List.setIfInBounds_toArray, List.set_cons_zero, List.set_cons_succ]
                  refine wpL_pure (.int .u8 ((Q k % 4 : Nat) : Int)) rfl (run_rem4 _ _ _ _ _ (Q k) rfl rfl rfl QL.out.1) ?_
                  simp only [Act.put, List.setIfInBounds_toArray, List.set_cons_zero, List.set_cons_succ]
                  refine wpL_pure (.bool false) rfl (run_nei Try.underlying5 rfl rfl rfl (by have := HQ.out; rw [decide_eq_false_iff_not]; omega)) ?_
                  simp only [Act.put, List.setIfInBounds_toArray, List.set_cons_zero, List.set_cons_succ]
                  refine wpL_pure (.bool false) rfl (by kernel_rfl) ?_
                  simp only [Act.put, List.setIfInBounds_toArray, List.set_cons_zero, List.set_cons_succ]
                  refine wpL_pure (.bool false) rfl (by kernel_rfl) ?_
                  simp only [Act.put, List.setIfInBounds_toArray, List.set_cons_zero, List.set_cons_succ]
                  refine wpL_skip (by kernel_rfl) ?_
                  simp only [Act.put, List.setIfInBounds_toArray, List.set_cons_zero, List.set_cons_succ]
                  refine wpL_skip (by kernel_rfl) ?_
                  simp only [Act.put, List.setIfInBounds_toArray, List.set_cons_zero, List.set_cons_succ]
                  refine wpL_skip (by kernel_rfl) ?_
                  simp only [Act.put, List.setIfInBounds_toArray, List.set_cons_zero, List.set_cons_succ]
                  refine wpL_skip (by kernel_rfl) ?_
                  simp only [Act.put, List.setIfInBounds_toArray, List.set_cons_zero, List.set_cons_succ]
                  refine wpL_pure (.bool false) rfl (by kernel_rfl) ?_
                  simp only [Act.put, List.setIfInBounds_toArray, List.set_cons_zero, List.set_cons_succ]
                  refine wpL_pure (.bool false) rfl (by kernel_rfl) ?_
                  simp only [Act.put, List.setIfInBounds_toArray, List.set_cons_zero, List.set_cons_succ]
                  refine wpL_pure (.pointer (some ⟨gq, 0, none⟩)) rfl (by kernel_rfl) ?_
                  simp only [Act.put, List.setIfInBounds_toArray, List.set_cons_zero, List.set_cons_succ]
                  refine wpL_pure (.int .u8 (Q k : Int)) rfl (run_load_one _ _ _ 5 _ _ rfl (gq) (0) rfl (by rw [A1.out.2.2.2.cell]; rfl) (by kernel_rfl)) ?_
                  simp only [Act.put, List.setIfInBounds_toArray, List.set_cons_zero, List.set_cons_succ]
                  refine wpL_pure (.int .u8 ((Q k % 4 : Nat) : Int)) rfl (run_rem4 _ _ _ _ _ (Q k) rfl rfl rfl QL.out.1) ?_
                  simp only [Act.put, List.setIfInBounds_toArray, List.set_cons_zero, List.set_cons_succ]
                  refine wpL_pure (.bool true) rfl (run_eqi Try.underlying5 rfl rfl rfl (by have := HQ.out; rw [decide_eq_true_eq]; omega)) ?_
                  simp only [Act.put, List.setIfInBounds_toArray, List.set_cons_zero, List.set_cons_succ]
                  refine wpL_pure (.bool true) rfl (by kernel_rfl) ?_
                  simp only [Act.put, List.setIfInBounds_toArray, List.set_cons_zero, List.set_cons_succ]
                  refine wpL_pure (.int .u64 (X k : Int)) rfl (by kernel_rfl) ?_
                  simp only [Act.put, List.setIfInBounds_toArray, List.set_cons_zero, List.set_cons_succ]
                  refine wpL_pure (.pointer (some ⟨gq, 1, none⟩)) rfl (by kernel_rfl) ?_
                  simp only [Act.put, List.setIfInBounds_toArray, List.set_cons_zero, List.set_cons_succ]
                  refine wpL_pure (.int .u64 (X k : Int)) rfl (run_load_one _ _ _ 33 _ _ rfl (gq) (1) rfl (by rw [A1.out.2.2.2.cell]; rfl) (by kernel_rfl)) ?_
                  simp only [Act.put, List.setIfInBounds_toArray, List.set_cons_zero, List.set_cons_succ]
                  refine wpL_pure (.bool false) rfl (run_nei Try.underlying33 rfl rfl rfl (by simp)) ?_
                  simp only [Act.put, List.setIfInBounds_toArray, List.set_cons_zero, List.set_cons_succ]
                  refine wpL_pure (.bool false) rfl (by kernel_rfl) ?_
                  simp only [Act.put, List.setIfInBounds_toArray, List.set_cons_zero, List.set_cons_succ]
                  refine wpL_pure (.bool false) rfl (by kernel_rfl) ?_
                  simp only [Act.put, List.setIfInBounds_toArray, List.set_cons_zero, List.set_cons_succ]
                  refine wpL_pure (.bool false) rfl (by kernel_rfl) ?_
                  simp only [Act.put, List.setIfInBounds_toArray, List.set_cons_zero, List.set_cons_succ]
                  refine wpL_pure (.pointer (some ⟨gq, 0, none⟩)) rfl (by kernel_rfl) ?_
                  simp only [Act.put, List.setIfInBounds_toArray, List.set_cons_zero, List.set_cons_succ]
                  refine wpL_pure (.int .u8 (Q k : Int)) rfl (run_load_one _ _ _ 5 _ _ rfl (gq) (0) rfl (by rw [A1.out.2.2.2.cell]; rfl) (by kernel_rfl)) ?_
                  simp only [Act.put, List.setIfInBounds_toArray, List.set_cons_zero, List.set_cons_succ]
                  refine wpL_pure (.int .u8 ((Q k % 4 : Nat) : Int)) rfl (run_rem4 _ _ _ _ _ (Q k) rfl rfl rfl QL.out.1) ?_
                  simp only [Act.put, List.setIfInBounds_toArray, List.set_cons_zero, List.set_cons_succ]
                  refine wpL_pure (.bool false) rfl (run_eqi Try.underlying5 rfl rfl rfl (by have := HQ.out; rw [decide_eq_false_iff_not]; omega)) ?_
                  simp only [Act.put, List.setIfInBounds_toArray, List.set_cons_zero, List.set_cons_succ]
                  refine wpL_pure (.bool false) rfl (by kernel_rfl) ?_
                  simp only [Act.put, List.setIfInBounds_toArray, List.set_cons_zero, List.set_cons_succ]
                  refine wpL_skip (by kernel_rfl) ?_
                  simp only [Act.put, List.setIfInBounds_toArray, List.set_cons_zero, List.set_cons_succ]
                  refine wpL_skip (by kernel_rfl) ?_
                  simp only [Act.put, List.setIfInBounds_toArray, List.set_cons_zero, List.set_cons_succ]
                  refine wpL_skip (by kernel_rfl) ?_
                  simp only [Act.put, List.setIfInBounds_toArray, List.set_cons_zero, List.set_cons_succ]
                  refine wpL_skip (by kernel_rfl) ?_
                  simp only [Act.put, List.setIfInBounds_toArray, List.set_cons_zero, List.set_cons_succ]
                  refine wpL_skip (by kernel_rfl) ?_
                  simp only [Act.put, List.setIfInBounds_toArray, List.set_cons_zero, List.set_cons_succ]
                  refine wpL_pure (.bool false) rfl (by kernel_rfl) ?_
                  simp only [Act.put, List.setIfInBounds_toArray, List.set_cons_zero, List.set_cons_succ]
                  refine wpL_pure (.bool false) rfl (by kernel_rfl) ?_
                  simp only [Act.put, List.setIfInBounds_toArray, List.set_cons_zero, List.set_cons_succ]
                  go_upto_region 14 with (fail)
                  refine wp_region_lit ?_
                  refine wpL_pure (.int .i64 (k : Int)) rfl (by kernel_rfl) ?_
                  simp only [Act.put, List.setIfInBounds_toArray, List.set_cons_zero, List.set_cons_succ]
                  refine wpL_pure (.int .i64 ((k + 1 : Nat) : Int)) rfl (run_addi Try.underlying3 rfl rfl rfl _ (by have := HK.out; have := L40.out; rw [wrap_in _ (by omega) (by omega)]; omega)) ?_
                  simp only [Act.put, List.setIfInBounds_toArray, List.set_cons_zero, List.set_cons_succ]
                  refine wpL_pure (.int .i64 ((k + 1 : Nat) : Int)) rfl (by kernel_rfl) ?_
                  simp only [Act.put, List.setIfInBounds_toArray, List.set_cons_zero, List.set_cons_succ]
                  have NX : Hid (k + 1 ≤ ln ∧ (∃ y r, stk Q X B (k + 1) = some y ∧ xs = y ++ r ∧ InSt w6 g r false) ∧ Below w.heap.size w w6) := Lib.hid ⟨by have := HK.out; omega, ⟨_, r', ST.out.1, ST.out.2, A1.out.2.1⟩, A1.out.2.2.1⟩
                  unfold wpList
                  go_roundw
                  case rel => first | exact ⟨_, rfl, NX⟩ | ((repeat apply Exists.intro); exact ⟨⟨_, rfl, NX⟩, rfl⟩)
                  case measure => simp [intOf]; have := HK.out; omega
              · have HQ : Hid (Q k % 4 = 1) := Lib.hid hq
                clear hq
                go_upto_region 16 with (fail)
                refine wp_region_lit ?_
                refine wpL_pure (.pointer (some ⟨gq, 0, none⟩)) rfl (by kernel_rfl) ?_
                simp only [Act.put, List.setIfInBounds_toArray, List.set_cons_zero, List.set_cons_succ]
                refine wpL_pure (.int .u8 (Q k : Int)) rfl (run_load_one _ _ _ 5 _ _ rfl (gq) (0) rfl (by rw [B0.out.cell]; rfl) (by kernel_rfl)) ?_
                simp only [Act.put, List.setIfInBounds_toArray, List.set_cons_zero, List.set_cons_succ]
                refine wpL_pure (.int .u8 ((Q k % 4 : Nat) : Int)) rfl (run_rem4 _ _ _ _ _ (Q k) rfl rfl rfl QL.out.1) ?_
                simp only [Act.put, List.setIfInBounds_toArray, List.set_cons_zero, List.set_cons_succ]
                refine wpL_pure (.bool true) rfl (run_eqi Try.underlying5 rfl rfl rfl (by have := HQ.out; rw [decide_eq_true_eq]; omega)) ?_
                simp only [Act.put, List.setIfInBounds_toArray, List.set_cons_zero, List.set_cons_succ]
                refine wpL_pure (.bool true) rfl (by kernel_rfl) ?_
                simp only [Act.put, List.setIfInBounds_toArray, List.set_cons_zero, List.set_cons_succ]
                refine wpL_skip (by kernel_rfl) ?_
                simp only [Act.put, List.setIfInBounds_toArray, List.set_cons_zero, List.set_cons_succ]
                refine wpL_skip (by kernel_rfl) ?_
                simp only [Act.put, List.setIfInBounds_toArray, List.set_cons_zero, List.set_cons_succ]
                refine wpL_skip (by kernel_rfl) ?_
                simp only [Act.put, List.setIfInBounds_toArray, List.set_cons_zero, List.set_cons_succ]
                refine wpL_skip (by kernel_rfl) ?_
                simp only [Act.put, List.setIfInBounds_toArray, List.set_cons_zero, List.set_cons_succ]
                refine wpL_pure (.bool true) rfl (by kernel_rfl) ?_
                simp only [Act.put, List.setIfInBounds_toArray, List.set_cons_zero, List.set_cons_succ]
                go_upto_region 17 with (fail)
                refine wp_region_lit ?_
                refine wpL_pure (.pointer (some ⟨gq, 2, none⟩)) rfl (by kernel_rfl) ?_
                simp only [Act.put, List.setIfInBounds_toArray, List.set_cons_zero, List.set_cons_succ]
                refine wpL_pure (.slice pa pn pc) rfl (run_load_one _ _ _ 25 _ _ rfl (gq) (2) rfl (by rw [B0.out.cell]; rfl) (by kernel_rfl)) ?_
                simp only [Act.put, List.setIfInBounds_toArray, List.set_cons_zero, List.set_cons_succ]
                refine wpL_pure (.int .i64 (pn : Int)) rfl (by kernel_rfl) ?_
                simp only [Act.put, List.setIfInBounds_toArray, List.set_cons_zero, List.set_cons_succ]
                refine wpL_pure (.int .u64 (pn : Int)) rfl (run_convi Try.underlying3 Try.underlying33 rfl rfl _ (u64_in _ (by omega) (by have := PM.out; omega))) ?_
                simp only [Act.put, List.setIfInBounds_toArray, List.set_cons_zero, List.set_cons_succ]
                refine wpL_pure (.pointer (some ⟨gq, 1, none⟩)) rfl (by kernel_rfl) ?_
                simp only [Act.put, List.setIfInBounds_toArray, List.set_cons_zero, List.set_cons_succ]
                refine wpL_store_one rfl rfl (gq) (1) rfl (.int .u64 (pn : Int)) rfl rfl size33 (by rw [B0.out.cell]; rfl) (B0.out.free _) ?_
                simp only [Act.put, List.setIfInBounds_toArray, List.set_cons_zero, List.set_cons_succ]
                obtain ⟨W1, hW1⟩ : ∃ V, V = W0.setCell ⟨gq, 1, none⟩ (.int .u64 (pn : Int)) := ⟨_, rfl⟩
                rw [← hW1]
                have B1 : Hid (Blk W1 gq 35 #[.int .u8 (Q k : Int), .int .u64 (pn : Int), .slice pa pn pc] ∧ InSt W1 g (partB (Q k) (X k) (B k) ++ r') false ∧ Below w.heap.size w W1) := Lib.hid (by rw [hW1]; exact ⟨Blk.set (l := [.int .u8 (Q k : Int), .int .u64 (X k : Int), .slice pa pn pc]) B0.out 1 _, (I0.out.1 _ (I0.out.2.1.setCell (Nat.le_refl _) _)).1, (I0.out.1 _ (I0.out.2.1.setCell (Nat.le_refl _) _)).2⟩)
                have GN : Hid (gq ≠ g) := Lib.hid I0.out.2.2
                clear hW1 B0 I0
                have GB : Hid (gotO (Q k % 4) (pn) (partB (Q k) (X k) (B k) ++ r') = some (0, B k, (partB (Q k) (X k) (B k)).length)) := Lib.hid (by
                  have h := GOT.out
                  have h4 := HQ.out
                  unfold backX backV backT at h
                  rw [if_pos (.inl h4), if_neg (by omega), if_neg (by omega), if_pos (.inl h4), BL.out] at h
                  exact h)
                have TK := Lib.hid (take_any W1 g (Q k) (pn) pa pn pc (partB (Q k) (X k) (B k) ++ r') false B1.out.2.1 (by have := LN.out; omega) QL.out.1 (by have := PM.out; omega))
                rw [GB.out] at TK
                go_upto_region 18 with (fail)
                refine wp_region_lit ?_
                refine wpL_pure (.pointer (some ⟨g, 0, none⟩)) rfl (by kernel_rfl) ?_
                simp only [Act.put, List.setIfInBounds_toArray, List.set_cons_zero, List.set_cons_succ]
                refine wpL_load 35 _ rfl rfl (gq) (0) rfl [.int .u8 (Q k : Int), .int .u64 (pn : Int), .slice pa pn pc] _ (range_blk (l := [.int .u8 (Q k : Int), .int .u64 (pn : Int), .slice pa pn pc]) B1.out.1) Try.underlying35 rfl (by kernel_rfl) ?_
                simp only [Act.put, List.setIfInBounds_toArray, List.set_cons_zero, List.set_cons_succ]
                refine wpL_call 14 #[.pointer (some ⟨g, 0, none⟩), .agg #[.int .u8 (Q k : Int), .int .u64 (pn : Int), .slice pa pn pc]] rfl (by kernel_rfl) ((TK.out).mono fun e w6 ⟨v, he, q1, q2, q3⟩ => ⟨.tuple #[.int .u64 0, v], he, ?_⟩)
                simp only [Act.put, List.setIfInBounds_toArray, List.set_cons_zero, List.set_cons_succ]
                obtain ⟨av, cv, ev⟩ := q1.slice
                have ev' : v = .slice av (B k).length cv := ev
                subst ev'
                clear ev
                have A1 : Hid (Row w6 av (B k).length (B k) ∧ InSt w6 g r' false ∧ Below w.heap.size w w6 ∧ Blk w6 gq 35 #[.int .u8 (Q k : Int), .int .u64 (pn : Int), .slice pa pn pc]) := Lib.hid ⟨q1.row.1, (by have h : InSt w6 g ((partB (Q k) (X k) (B k) ++ r').drop (partB (Q k) (X k) (B k)).length) false := q2; rw [List.drop_left] at h; exact h), B1.out.2.2.trans (gb_below q3 B5.out.2.2 B1.out.2.2.size), B1.out.1.grown q3 (by intro e; exact absurd (Option.some.inj e) GN.out)⟩
                clear q1 q2 q3 TK B1
                refine wpL_pure (.tuple #[.int .u64 0, .slice av (B k).length cv]) rfl (by kernel_rfl) ?_
                simp only [Act.put, List.setIfInBounds_toArray, List.set_cons_zero, List.set_cons_succ]
                refine wpL_pure (.int .u64 0) rfl (by kernel_rfl) ?_
                simp only [Act.put, List.setIfInBounds_toArray, List.set_cons_zero, List.set_cons_succ]
                refine wpL_pure (.slice av (B k).length cv) rfl (by kernel_rfl) ?_
                simp only [Act.put, List.setIfInBounds_toArray, List.set_cons_zero, List.set_cons_succ]
                refine wpL_pure (.int .u64 0) rfl (by kernel_rfl) ?_
                simp only [Act.put, List.setIfInBounds_toArray, List.set_cons_zero, List.set_cons_succ]
                refine wpL_pure (.slice av (B k).length cv) rfl (by kernel_rfl) ?_
                simp only [Act.put, List.setIfInBounds_toArray, List.set_cons_zero, List.set_cons_succ]
                have PR : Hid (Row w6 pa pn (B k)) := Lib.hid (PA.out.2.2.2.2.2.1.keep A1.out.2.2.1)
                go_upto_region 19 with (fail)
                refine wp_region_lit ?_
                refine wpL_pure (.slice av (B k).length cv) rfl (by kernel_rfl) ?_
                simp only [Act.put, List.setIfInBounds_toArray, List.set_cons_zero, List.set_cons_succ]
                refine wpL_pure (.string (strOfNums (B k))) rfl (run_conv_str _ _ _ _ av ((B k).length) cv _ rfl rfl A1.out.1) ?_
                simp only [Act.put, List.setIfInBounds_toArray, List.set_cons_zero, List.set_cons_succ]
                refine wpL_pure (.pointer (some ⟨gq, 2, none⟩)) rfl (by kernel_rfl) ?_
                simp only [Act.put, List.setIfInBounds_toArray, List.set_cons_zero, List.set_cons_succ]
                refine wpL_pure (.slice pa pn pc) rfl (run_load_one _ _ _ 25 _ _ rfl (gq) (2) rfl (by rw [A1.out.2.2.2.cell]; rfl) (by kernel_rfl)) ?_
                simp only [Act.put, List.setIfInBounds_toArray, List.set_cons_zero, List.set_cons_succ]
                refine wpL_pure (.string (strOfNums (B k))) rfl (run_conv_str _ _ _ _ pa pn pc _ rfl rfl PR.out) ?_
                simp only [Act.put, List.setIfInBounds_toArray, List.set_cons_zero, List.set_cons_succ]
                refine wpL_pure (.bool false) rfl (run_str_same _ _ _ _ _ _ rfl rfl rfl) ?_
                simp only [Act.put, List.setIfInBounds_toArray, List.set_cons_zero, List.set_cons_succ]
                refine wpL_pure (.bool false) rfl (by kernel_rfl) ?_
                simp only [Act.put, List.setIfInBounds_toArray, List.set_cons_zero, List.set_cons_succ]
                refine wpL_skip (by kernel_rfl) ?_
                simp only [Act.put, List.setIfInBounds_toArray, List.set_cons_zero, List.set_cons_succ]
                refine wpL_skip (by kernel_rfl) ?_
                simp only [Act.put, List.setIfInBounds_toArray, List.set_cons_zero, List.set_cons_succ]
                refine wpL_skip (by kernel_rfl) ?_
                simp only [Act.put, List.setIfInBounds_toArray, List.set_cons_zero, List.set_cons_succ]
                refine wpL_skip (by kernel_rfl) ?_
                simp only [Act.put, List.setIfInBounds_toArray, List.set_cons_zero, List.set_cons_succ]
                refine wpL_pure (.bool false) rfl (by kernel_rfl) ?_
                simp only [Act.put, List.setIfInBounds_toArray, List.set_cons_zero, List.set_cons_succ]
                refine wpL_pure (.bool false) rfl (by kernel_rfl) ?_
                simp only [Act.put, List.setIfInBounds_toArray, List.set_cons_zero, List.set_cons_succ]
                refine wpL_skip (by kernel_rfl) ?_
                simp only [Act.put, List.setIfInBounds_toArray, List.set_cons_zero, List.set_cons_succ]
                refine wpL_skip (by kernel_rfl) ?_
                simp only [Act.put, List.setIfInBounds_toArray, List.set_cons_zero, List.set_cons_succ]
                refine wpL_skip (by kernel_rfl) ?_
                simp only [Act.put, List.setIfInBounds_toArray, List.set_cons_zero, List.set_cons_succ]
                refine wpL_skip (by kernel_rfl) ?_
                simp only [Act.put, List.setIfInBounds_toArray, List.set_cons_zero, List.set_cons_succ]
                refine wpL_pure (.bool false) rfl (by kernel_rfl) ?_
                simp only [Act.put, List.setIfInBounds_toArray, List.set_cons_zero, List.set_cons_succ]
                refine wpL_pure (.bool false) rfl (by kernel_rfl) ?_
                simp only [Act.put, List.setIfInBounds_toArray, List.set_cons_zero, List.set_cons_succ]
                refine wpL_pure (.pointer (some ⟨gq, 0, none⟩)) rfl (by kernel_rfl) ?_
                simp only [Act.put, List.setIfInBounds_toArray, List.set_cons_zero, List.set_cons_succ]
                refine wpL_pure (.int .u8 (Q k : Int)) rfl (run_load_one _ _ _ 5 _ _ rfl (gq) (0) rfl (by rw [A1.out.2.2.2.cell]; rfl) (by kernel_rfl)) ?_
                simp only [Act.put, List.setIfInBounds_toArray, List.set_cons_zero, List.set_cons_succ]
                refine wpL_pure (.int .u8 ((Q k % 4 : Nat) : Int)) rfl (run_rem4 _ _ _ _ _ (Q k) rfl rfl rfl QL.out.1) ?_
                simp only [Act.put, List.setIfInBounds_toArray, List.set_cons_zero, List.set_cons_succ]
                refine wpL_pure (.bool false) rfl (run_eqi Try.underlying5 rfl rfl rfl (by have := HQ.out; rw [decide_eq_false_iff_not]; omega)) ?_
                simp only [Act.put, List.setIfInBounds_toArray, List.set_cons_zero, List.set_cons_succ]
                refine wpL_pure (.bool false) rfl (by kernel_rfl) ?_
                simp only [Act.put, List.setIfInBounds_toArray, List.set_cons_zero, List.set_cons_succ]
                refine wpL_skip (by kernel_rfl) ?_
                simp only [Act.put, List.setIfInBounds_toArray, List.set_cons_zero, List.set_cons_succ]
                refine wpL_skip (by kernel_rfl) ?_
                simp only [Act.put, List.setIfInBounds_toArray, List.set_cons_zero, List.set_cons_succ]
                refine wpL_skip (by kernel_rfl) ?_
                simp only [Act.put, List.setIfInBounds_toArray, List.set_cons_zero, List.set_cons_succ]
                refine wpL_skip (by kernel_rfl) ?_
                simp only [Act.put, List.setIfInBounds_toArray, List.set_cons_zero, List.set_cons_succ]
                refine wpL_pure (.bool false) rfl (by kernel_rfl) ?_
                simp only [Act.put, List.setIfInBounds_toArray, List.set_cons_zero, List.set_cons_succ]
                refine wpL_pure (.bool false) rfl (by kernel_rfl) ?_
                simp only [Act.put, List.setIfInBounds_toArray, List.set_cons_zero, List.set_cons_succ]
                refine wpL_pure (.bool false) rfl (by kernel_rfl) ?_
                simp only [Act.put, List.setIfInBounds_toArray, List.set_cons_zero, List.set_cons_succ]
                refine wpL_pure (.pointer (some ⟨gq, 0, none⟩)) rfl (by kernel_rfl) ?_
                simp only [Act.put, List.setIfInBounds_toArray, List.set_cons_zero, List.set_cons_succ]
                refine wpL_pure (.int .u8 (Q k : Int)) rfl (run_load_one _ _ _ 5 _ _ rfl (gq) (0) rfl (by rw [A1.out.2.2.2.cell]; rfl) (by kernel_rfl)) ?_
                simp only [Act.put, List.setIfInBounds_toArray, List.set_cons_zero, List.set_cons_succ]
                refine wpL_pure (.int .u8 ((Q k % 4 : Nat) : Int)) rfl (run_rem4 _ _ _ _ _ (Q k) rfl rfl rfl QL.out.1) ?_
                simp only [Act.put, List.setIfInBounds_toArray, List.set_cons_zero, List.set_cons_succ]
                refine wpL_pure (.bool false) rfl (run_eqi Try.underlying5 rfl rfl rfl (by have := HQ.out; rw [decide_eq_false_iff_not]; omega)) ?_
                simp only [Act.put, List.setIfInBounds_toArray, List.set_cons_zero, List.set_cons_succ]
                refine wpL_pure (.bool false) rfl (by kernel_rfl) ?_
                simp only [Act.put, List.setIfInBounds_toArray, List.set_cons_zero, List.set_cons_succ]
                refine wpL_skip (by kernel_rfl) ?_
                simp only [Act.put, List.setIfInBounds_toArray, List.set_cons_zero, List.set_cons_succ]
                refine wpL_skip (by kernel_rfl) ?_
                simp only [Act.put, List.setIfInBounds_toArray, List.set_cons_zero, List.set_cons_succ]
                refine wpL_skip (by kernel_rfl) ?_
                simp only [Act.put, List.setIfInBounds_toArray, List.set_cons_zero, List.set_cons_succ]
                refine wpL_skip (by kernel_rfl) ?_
                simp only [Act.put, List.setIfInBounds_toArray, List.set_cons_zero, List.set_cons_succ]
                refine wpL_skip (by kernel_rfl) ?_
                simp only [Act.put, List.setIfInBounds_toArray, List.set_cons_zero, List.set_cons_succ]
                refine wpL_pure (.bool false) rfl (by kernel_rfl) ?_
                simp only [Act.put, List.setIfInBounds_toArray, List.set_cons_zero, List.set_cons_succ]
                refine wpL_pure (.bool false) rfl (by kernel_rfl) ?_
                simp only [Act.put, List.setIfInBounds_toArray, List.set_cons_zero, List.set_cons_succ]
                go_upto_region 14 with (fail)
                refine wp_region_lit ?_
                refine wpL_pure (.int .i64 (k : Int)) rfl (by kernel_rfl) ?_
                simp only [Act.put, List.setIfInBounds_toArray, List.set_cons_zero, List.set_cons_succ]
                refine wpL_pure (.int .i64 ((k + 1 : Nat) : Int)) rfl (run_addi Try.underlying3 rfl rfl rfl _ (by have := HK.out; have := L40.out; rw [wrap_in _ (by omega) (by omega)]; omega)) ?_
                simp only [Act.put, List.setIfInBounds_toArray, List.set_cons_zero, List.set_cons_succ]
                refine wpL_pure (.int .i64 ((k + 1 : Nat) : Int)) rfl (by kernel_rfl) ?_
                simp only [Act.put, List.setIfInBounds_toArray, List.set_cons_zero, List.set_cons_succ]
                have NX : Hid (k + 1 ≤ ln ∧ (∃ y r, stk Q X B (k + 1) = some y ∧ xs = y ++ r ∧ InSt w6 g r false) ∧ Below w.heap.size w w6) := Lib.hid ⟨by have := HK.out; omega, ⟨_, r', ST.out.1, ST.out.2, A1.out.2.1⟩, A1.out.2.2.1⟩
                unfold wpList
                go_roundw
                case rel => first | exact ⟨_, rfl, NX⟩ | ((repeat apply Exists.intro); exact ⟨⟨_, rfl, NX⟩, rfl⟩)
                case measure => simp [intOf]; have := HK.out; omega
              · have HQ : Hid (Q k % 4 = 2) := Lib.hid hq
                clear hq
                go_upto_region 16 with (fail)
                refine wp_region_lit ?_
                refine wpL_pure (.pointer (some ⟨gq, 0, none⟩)) rfl (by kernel_rfl) ?_
                simp only [Act.put, List.setIfInBounds_toArray, List.set_cons_zero, List.set_cons_succ]
                refine wpL_pure (.int .u8 (Q k : Int)) rfl (run_load_one _ _ _ 5 _ _ rfl (gq) (0) rfl (by rw [B0.out.cell]; rfl) (by kernel_rfl)) ?_
                simp only [Act.put, List.setIfInBounds_toArray, List.set_cons_zero, List.set_cons_succ]
                refine wpL_pure (.int .u8 ((Q k % 4 : Nat) : Int)) rfl (run_rem4 _ _ _ _ _ (Q k) rfl rfl rfl QL.out.1) ?_
                simp only [Act.put, List.setIfInBounds_toArray, List.set_cons_zero, List.set_cons_succ]
                refine wpL_pure (.bool false) rfl (run_eqi Try.underlying5 rfl rfl rfl (by have := HQ.out; rw [decide_eq_false_iff_not]; omega)) ?_
                simp only [Act.put, List.setIfInBounds_toArray, List.set_cons_zero, List.set_cons_succ]
                refine wpL_pure (.bool false) rfl (by kernel_rfl) ?_
                simp only [Act.put, List.setIfInBounds_toArray, List.set_cons_zero, List.set_cons_succ]
                refine wpL_pure (.pointer (some ⟨gq, 0, none⟩)) rfl (by kernel_rfl) ?_
                simp only [Act.put, List.setIfInBounds_toArray, List.set_cons_zero, List.set_cons_succ]
                refine wpL_pure (.int .u8 (Q k : Int)) rfl (run_load_one _ _ _ 5 _ _ rfl (gq) (0) rfl (by rw [B0.out.cell]; rfl) (by kernel_rfl)) ?_
                simp only [Act.put, List.setIfInBounds_toArray, List.set_cons_zero, List.set_cons_succ]
                refine wpL_pure (.int .u8 ((Q k % 4 : Nat) : Int)) rfl (run_rem4 _ _ _ _ _ (Q k) rfl rfl rfl QL.out.1) ?_
                simp only [Act.put, List.setIfInBounds_toArray, List.set_cons_zero, List.set_cons_succ]
                refine wpL_pure (.bool true) rfl (run_eqi Try.underlying5 rfl rfl rfl (by have := HQ.out; rw [decide_eq_true_eq]; omega)) ?_
                simp only [Act.put, List.setIfInBounds_toArray, List.set_cons_zero, List.set_cons_succ]
                refine wpL_pure (.bool true) rfl (by kernel_rfl) ?_
                simp only [Act.put, List.setIfInBounds_toArray, List.set_cons_zero, List.set_cons_succ]
                go_upto_region 17 with (fail)
                refine wp_region_lit ?_
                refine wpL_pure (.pointer (some ⟨gq, 2, none⟩)) rfl (by kernel_rfl) ?_
                simp only [Act.put, List.setIfInBounds_toArray, List.set_cons_zero, List.set_cons_succ]
                refine wpL_pure (.slice pa pn pc) rfl (run_load_one _ _ _ 25 _ _ rfl (gq) (2) rfl (by rw [B0.out.cell]; rfl) (by kernel_rfl)) ?_
                simp only [Act.put, List.setIfInBounds_toArray, List.set_cons_zero, List.set_cons_succ]
                refine wpL_pure (.int .i64 (pn : Int)) rfl (by kernel_rfl) ?_
                simp only [Act.put, List.setIfInBounds_toArray, List.set_cons_zero, List.set_cons_succ]
                refine wpL_pure (.int .u64 (pn : Int)) rfl (run_convi Try.underlying3 Try.underlying33 rfl rfl _ (u64_in _ (by omega) (by have := PM.out; omega))) ?_
                simp only [Act.put, List.setIfInBounds_toArray, List.set_cons_zero, List.set_cons_succ]
                refine wpL_pure (.pointer (some ⟨gq, 1, none⟩)) rfl (by kernel_rfl) ?_
                simp only [Act.put, List.setIfInBounds_toArray, List.set_cons_zero, List.set_cons_succ]
                refine wpL_store_one rfl rfl (gq) (1) rfl (.int .u64 (pn : Int)) rfl rfl size33 (by rw [B0.out.cell]; rfl) (B0.out.free _) ?_
                simp only [Act.put, List.setIfInBounds_toArray, List.set_cons_zero, List.set_cons_succ]
                obtain ⟨W1, hW1⟩ : ∃ V, V = W0.setCell ⟨gq, 1, none⟩ (.int .u64 (pn : Int)) := ⟨_, rfl⟩
                rw [← hW1]
                have B1 : Hid (Blk W1 gq 35 #[.int .u8 (Q k : Int), .int .u64 (pn : Int), .slice pa pn pc] ∧ InSt W1 g (partB (Q k) (X k) (B k) ++ r') false ∧ Below w.heap.size w W1) := Lib.hid (by rw [hW1]; exact ⟨Blk.set (l := [.int .u8 (Q k : Int), .int .u64 (X k : Int), .slice pa pn pc]) B0.out 1 _, (I0.out.1 _ (I0.out.2.1.setCell (Nat.le_refl _) _)).1, (I0.out.1 _ (I0.out.2.1.setCell (Nat.le_refl _) _)).2⟩)
                have GN : Hid (gq ≠ g) := Lib.hid I0.out.2.2
                clear hW1 B0 I0
                have GB : Hid (gotO (Q k % 4) (pn) (partB (Q k) (X k) (B k) ++ r') = some (0, B k, (partB (Q k) (X k) (B k)).length)) := Lib.hid (by
                  have h := GOT.out
                  have h4 := HQ.out
                  unfold backX backV backT at h
                  rw [if_pos (.inr h4), if_neg (by omega), if_neg (by omega), if_pos (.inr h4), BL.out] at h
                  exact h)
                have TK := Lib.hid (take_any W1 g (Q k) (pn) pa pn pc (partB (Q k) (X k) (B k) ++ r') false B1.out.2.1 (by have := LN.out; omega) QL.out.1 (by have := PM.out; omega))
                rw [GB.out] at TK
                go_upto_region 18 with (fail)
                refine wp_region_lit ?_
                refine wpL_pure (.pointer (some ⟨g, 0, none⟩)) rfl (by kernel_rfl) ?_
                simp only [Act.put, List.setIfInBounds_toArray, List.set_cons_zero, List.set_cons_succ]
                refine wpL_load 35 _ rfl rfl (gq) (0) rfl [.int .u8 (Q k : Int), .int .u64 (pn : Int), .slice pa pn pc] _ (range_blk (l := [.int .u8 (Q k : Int), .int .u64 (pn : Int), .slice pa pn pc]) B1.out.1) Try.underlying35 rfl (by kernel_rfl) ?_
                simp only [Act.put, List.setIfInBounds_toArray, List.set_cons_zero, List.set_cons_succ]
                refine wpL_call 14 #[.pointer (some ⟨g, 0, none⟩), .agg #[.int .u8 (Q k : Int), .int .u64 (pn : Int), .slice pa pn pc]] rfl (by kernel_rfl) ((TK.out).mono fun e w6 ⟨v, he, q1, q2, q3⟩ => ⟨.tuple #[.int .u64 0, v], he, ?_⟩)
                simp only [Act.put, List.setIfInBounds_toArray, List.set_cons_zero, List.set_cons_succ]
                obtain ⟨av, cv, ev⟩ := q1.slice
                have ev' : v = .slice av (B k).length cv := ev
                subst ev'
                clear ev
                have A1 : Hid (Row w6 av (B k).length (B k) ∧ InSt w6 g r' false ∧ Below w.heap.size w w6 ∧ Blk w6 gq 35 #[.int .u8 (Q k : Int), .int .u64 (pn : Int), .slice pa pn pc]) := Lib.hid ⟨q1.row.1, (by have h : InSt w6 g ((partB (Q k) (X k) (B k) ++ r').drop (partB (Q k) (X k) (B k)).length) false := q2; rw [List.drop_left] at h; exact h), B1.out.2.2.trans (gb_below q3 B5.out.2.2 B1.out.2.2.size), B1.out.1.grown q3 (by intro e; exact absurd (Option.some.inj e) GN.out)⟩
                clear q1 q2 q3 TK B1
                refine wpL_pure (.tuple #[.int .u64 0, .slice av (B k).length cv]) rfl (by kernel_rfl) ?_
                simp only [Act.put, List.setIfInBounds_toArray, List.set_cons_zero, List.set_cons_succ]
                refine wpL_pure (.int .u64 0) rfl (by kernel_rfl) ?_
                simp only [Act.put, List.setIfInBounds_toArray, List.set_cons_zero, List.set_cons_succ]
                refine wpL_pure (.slice av (B k).length cv) rfl (by kernel_rfl) ?_
                simp only [Act.put, List.setIfInBounds_toArray, List.set_cons_zero, List.set_cons_succ]
                refine wpL_pure (.int .u64 0) rfl (by kernel_rfl) ?_
                simp only [Act.put, List.setIfInBounds_toArray, List.set_cons_zero, List.set_cons_succ]
                refine wpL_pure (.slice av (B k).length cv) rfl (by kernel_rfl) ?_
                simp only [Act.put, List.setIfInBounds_toArray, List.set_cons_zero, List.set_cons_succ]
                have PR : Hid (Row w6 pa pn (B k)) := Lib.hid (PA.out.2.2.2.2.2.1.keep A1.out.2.2.1)
                go_upto_region 19 with (fail)
                refine wp_region_lit ?_
                refine wpL_pure (.slice av (B k).length cv) rfl (by kernel_rfl) ?_
                simp only [Act.put, List.setIfInBounds_toArray, List.set_cons_zero, List.set_cons_succ]
                refine wpL_pure (.string (strOfNums (B k))) rfl (run_conv_str _ _ _ _ av ((B k).length) cv _ rfl rfl A1.out.1) ?_
                simp only [Act.put, List.setIfInBounds_toArray, List.set_cons_zero, List.set_cons_succ]
                refine wpL_pure (.pointer (some ⟨gq, 2, none⟩)) rfl (by kernel_rfl) ?_
                simp only [Act.put, List.setIfInBounds_toArray, List.set_cons_zero, List.set_cons_succ]
                refine wpL_pure (.slice pa pn pc) rfl (run_load_one _ _ _ 25 _ _ rfl (gq) (2) rfl (by rw [A1.out.2.2.2.cell]; rfl) (by kernel_rfl)) ?_
                simp only [Act.put, List.setIfInBounds_toArray, List.set_cons_zero, List.set_cons_succ]
                refine wpL_pure (.string (strOfNums (B k))) rfl (run_conv_str _ _ _ _ pa pn pc _ rfl rfl PR.out) ?_
                simp only [Act.put, List.setIfInBounds_toArray, List.set_cons_zero, List.set_cons_succ]
                refine wpL_pure (.bool false) rfl (run_str_same _ _ _ _ _ _ rfl rfl rfl) ?_
                simp only [Act.put, List.setIfInBounds_toArray, List.set_cons_zero, List.set_cons_succ]
                refine wpL_pure (.bool false) rfl (by kernel_rfl) ?_
                simp only [Act.put, List.setIfInBounds_toArray, List.set_cons_zero, List.set_cons_succ]
                refine wpL_skip (by kernel_rfl) ?_
                simp only [Act.put, List.setIfInBounds_toArray, List.set_cons_zero, List.set_cons_succ]
                refine wpL_skip (by kernel_rfl) ?_
                simp only [Act.put, List.setIfInBounds_toArray, List.set_cons_zero, List.set_cons_succ]
                refine wpL_skip (by kernel_rfl) ?_
                simp only [Act.put, List.setIfInBounds_toArray, List.set_cons_zero, List.set_cons_succ]
                refine wpL_skip (by kernel_rfl) ?_
                simp only [Act.put, List.setIfInBounds_toArray, List.set_cons_zero, List.set_cons_succ]
                refine wpL_pure (.bool false) rfl (by kernel_rfl) ?_
                simp only [Act.put, List.setIfInBounds_toArray, List.set_cons_zero, List.set_cons_succ]
                refine wpL_pure (.bool false) rfl (by kernel_rfl) ?_
                simp only [Act.put, List.setIfInBounds_toArray, List.set_cons_zero, List.set_cons_succ]
                refine wpL_skip (by kernel_rfl) ?_
                simp only [Act.put, List.setIfInBounds_toArray, List.set_cons_zero, List.set_cons_succ]
                refine wpL_skip (by kernel_rfl) ?_
                simp only [Act.put, List.setIfInBounds_toArray, List.set_cons_zero, List.set_cons_succ]
                refine wpL_skip (by kernel_rfl) ?_
                simp only [Act.put, List.setIfInBounds_toArray, List.set_cons_zero, List.set_cons_succ]
                refine wpL_skip (by kernel_rfl) ?_
                simp only [Act.put, List.setIfInBounds_toArray, List.set_cons_zero, List.set_cons_succ]
                refine wpL_pure (.bool false) rfl (by kernel_rfl) ?_
                simp only [Act.put, List.setIfInBounds_toArray, List.set_cons_zero, List.set_cons_succ]
                refine wpL_pure (.bool false) rfl (by kernel_rfl) ?_
                simp only [Act.put, List.setIfInBounds_toArray, List.set_cons_zero, List.set_cons_succ]
                refine wpL_pure (.pointer (some ⟨gq, 0, none⟩)) rfl (by kernel_rfl) ?_
                simp only [Act.put, List.setIfInBounds_toArray, List.set_cons_zero, List.set_cons_succ]
                refine wpL_pure (.int .u8 (Q k : Int)) rfl (run_load_one _ _ _ 5 _ _ rfl (gq) (0) rfl (by rw [A1.out.2.2.2.cell]; rfl) (by kernel_rfl)) ?_
                simp only [Act.put, List.setIfInBounds_toArray, List.set_cons_zero, List.set_cons_succ]
                refine wpL_pure (.int .u8 ((Q k % 4 : Nat) : Int)) rfl (run_rem4 _ _ _ _ _ (Q k) rfl rfl rfl QL.out.1) ?_
                simp only [Act.put, List.setIfInBounds_toArray, List.set_cons_zero, List.set_cons_succ]
                refine wpL_pure (.bool false) rfl (run_eqi Try.underlying5 rfl rfl rfl (by have := HQ.out; rw [decide_eq_false_iff_not]; omega)) ?_
                simp only [Act.put, List.setIfInBounds_toArray, List.set_cons_zero, List.set_cons_succ]
                refine wpL_pure (.bool false) rfl (by kernel_rfl) ?_
                simp only [Act.put, List.setIfInBounds_toArray, List.set_cons_zero, List.set_cons_succ]
                refine wpL_skip (by kernel_rfl) ?_
                simp only [Act.put, List.setIfInBounds_toArray, List.set_cons_zero, List.set_cons_succ]
                refine wpL_skip (by kernel_rfl) ?_
                simp only [Act.put, List.setIfInBounds_toArray, List.set_cons_zero, List.set_cons_succ]
                refine wpL_skip (by kernel_rfl) ?_
                simp only [Act.put, List.setIfInBounds_toArray, List.set_cons_zero, List.set_cons_succ]
                refine wpL_skip (by kernel_rfl) ?_
                simp only [Act.put, List.setIfInBounds_toArray, List.set_cons_zero, List.set_cons_succ]
                refine wpL_pure (.bool false) rfl (by kernel_rfl) ?_
                simp only [Act.put, List.setIfInBounds_toArray, List.set_cons_zero, List.set_cons_succ]
                refine wpL_pure (.bool false) rfl (by kernel_rfl) ?_
                simp only [Act.put, List.setIfInBounds_toArray, List.set_cons_zero, List.set_cons_succ]
                refine wpL_pure (.bool false) rfl (by kernel_rfl) ?_
                simp only [Act.put, List.setIfInBounds_toArray, List.set_cons_zero, List.set_cons_succ]
                refine wpL_pure (.pointer (some ⟨gq, 0, none⟩)) rfl (by kernel_rfl) ?_
                simp only [Act.put, List.setIfInBounds_toArray, List.set_cons_zero, List.set_cons_succ]
                refine wpL_pure (.int .u8 (Q k : Int)) rfl (run_load_one _ _ _ 5 _ _ rfl (gq) (0) rfl (by rw [A1.out.2.2.2.cell]; rfl) (by kernel_rfl)) ?_
                simp only [Act.put, List.setIfInBounds_toArray, List.set_cons_zero, List.set_cons_succ]
                refine wpL_pure (.int .u8 ((Q k % 4 : Nat) : Int)) rfl (run_rem4 _ _ _ _ _ (Q k) rfl rfl rfl QL.out.1) ?_
                simp only [Act.put, List.setIfInBounds_toArray, List.set_cons_zero, List.set_cons_succ]
                refine wpL_pure (.bool false) rfl (run_eqi Try.underlying5 rfl rfl rfl (by have := HQ.out; rw [decide_eq_false_iff_not]; omega)) ?_
                simp only [Act.put, List.setIfInBounds_toArray, List.set_cons_zero, List.set_cons_succ]
                refine wpL_pure (.bool false) rfl (by kernel_rfl) ?_
                simp only [Act.put, List.setIfInBounds_toArray, List.set_cons_zero, List.set_cons_succ]
                refine wpL_skip (by kernel_rfl) ?_
                simp only [Act.put, List.setIfInBounds_toArray, List.set_cons_zero, List.set_cons_succ]
                refine wpL_skip (by kernel_rfl) ?_
                simp only [Act.put, List.setIfInBounds_toArray, List.set_cons_zero, List.set_cons_succ]
                refine wpL_skip (by kernel_rfl) ?_
                simp only [Act.put, List.setIfInBounds_toArray, List.set_cons_zero, List.set_cons_succ]
                refine wpL_skip (by kernel_rfl) ?_
                simp only [Act.put, List.setIfInBounds_toArray, List.set_cons_zero, List.set_cons_succ]
                refine wpL_skip (by kernel_rfl) ?_
                simp only [Act.put, List.setIfInBounds_toArray, List.set_cons_zero, List.set_cons_succ]
                refine wpL_pure (.bool false) rfl (by kernel_rfl) ?_
                simp only [Act.put, List.setIfInBounds_toArray, List.set_cons_zero, List.set_cons_succ]
                refine wpL_pure (.bool false) rfl (by kernel_rfl) ?_
                simp only [Act.put, List.setIfInBounds_toArray, List.set_cons_zero, List.set_cons_succ]
                go_upto_region 14 with (fail)
                refine wp_region_lit ?_
                refine wpL_pure (.int .i64 (k : Int)) rfl (by kernel_rfl) ?_
                simp only [Act.put, List.setIfInBounds_toArray, List.set_cons_zero, List.set_cons_succ]
                refine wpL_pure (.int .i64 ((k + 1 : Nat) : Int)) rfl (run_addi Try.underlying3 rfl rfl rfl _ (by have := HK.out; have := L40.out; rw [wrap_in _ (by omega) (by omega)]; omega)) ?_
                simp only [Act.put, List.setIfInBounds_toArray, List.set_cons_zero, List.set_cons_succ]
                refine wpL_pure (.int .i64 ((k + 1 : Nat) : Int)) rfl (by kernel_rfl) ?_
                simp only [Act.put, List.setIfInBounds_toArray, List.set_cons_zero, List.set_cons_succ]
                have NX : Hid (k + 1 ≤ ln ∧ (∃ y r, stk Q X B (k + 1) = some y ∧ xs = y ++ r ∧ InSt w6 g r false) ∧ Below w.heap.size w w6) := Lib.hid ⟨by have := HK.out; omega, ⟨_, r', ST.out.1, ST.out.2, A1.out.2.1⟩, A1.out.2.2.1⟩
                unfold wpList
                go_roundw
                case rel => first | exact ⟨_, rfl, NX⟩ | ((repeat apply Exists.intro); exact ⟨⟨_, rfl, NX⟩, rfl⟩)
                case measure => simp [intOf]; have := HK.out; omega
              · have HQ : Hid (Q k % 4 = 3) := Lib.hid hq
                clear hq
                go_upto_region 16 with (fail)
                refine wp_region_lit ?_
                refine wpL_pure (.pointer (some ⟨gq, 0, none⟩)) rfl (by kernel_rfl) ?_
                simp only [Act.put, List.setIfInBounds_toArray, List.set_cons_zero, List.set_cons_succ]
                refine wpL_pure (.int .u8 (Q k : Int)) rfl (run_load_one _ _ _ 5 _ _ rfl (gq) (0) rfl (by rw [B0.out.cell]; rfl) (by kernel_rfl)) ?_
                simp only [Act.put, List.setIfInBounds_toArray, List.set_cons_zero, List.set_cons_succ]
                refine wpL_pure (.int .u8 ((Q k % 4 : Nat) : Int)) rfl (run_rem4 _ _ _ _ _ (Q k) rfl rfl rfl QL.out.1) ?_
                simp only [Act.put, List.setIfInBounds_toArray, List.set_cons_zero, List.set_cons_succ]
                refine wpL_pure (.bool false) rfl (run_eqi Try.underlying5 rfl rfl rfl (by have := HQ.out; rw [decide_eq_false_iff_not]; omega)) ?_
                simp only [Act.put, List.setIfInBounds_toArray, List.set_cons_zero, List.set_cons_succ]
                refine wpL_pure (.bool false) rfl (by kernel_rfl) ?_
                simp only [Act.put, List.setIfInBounds_toArray, List.set_cons_zero, List.set_cons_succ]
                refine wpL_pure (.pointer (some ⟨gq, 0, none⟩)) rfl (by kernel_rfl) ?_
                simp only [Act.put, List.setIfInBounds_toArray, List.set_cons_zero, List.set_cons_succ]
                refine wpL_pure (.int .u8 (Q k : Int)) rfl (run_load_one _ _ _ 5 _ _ rfl (gq) (0) rfl (by rw [B0.out.cell]; rfl) (by kernel_rfl)) ?_
                simp only [Act.put, List.setIfInBounds_toArray, List.set_cons_zero, List.set_cons_succ]
                refine wpL_pure (.int .u8 ((Q k % 4 : Nat) : Int)) rfl (run_rem4 _ _ _ _ _ (Q k) rfl rfl rfl QL.out.1) ?_
                simp only [Act.put, List.setIfInBounds_toArray, List.set_cons_zero, List.set_cons_succ]
                refine wpL_pure (.bool false) rfl (run_eqi Try.underlying5 rfl rfl rfl (by have := HQ.out; rw [decide_eq_false_iff_not]; omega)) ?_
                simp only [Act.put, List.setIfInBounds_toArray, List.set_cons_zero, List.set_cons_succ]
                refine wpL_pure (.bool false) rfl (by kernel_rfl) ?_
                simp only [Act.put, List.setIfInBounds_toArray, List.set_cons_zero, List.set_cons_succ]
                have B1 : Hid (Blk W0 gq 35 #[.int .u8 (Q k : Int), .int .u64 (X k : Int), .slice pa pn pc] ∧ InSt W0 g (partB (Q k) (X k) (B k) ++ r') false ∧ Below w.heap.size w W0) := Lib.hid ⟨B0.out, (I0.out.1 _ I0.out.2.1).1, (I0.out.1 _ I0.out.2.1).2⟩
                have GN : Hid (gq ≠ g) := Lib.hid I0.out.2.2
                clear B0 I0
                have GB : Hid (gotO (Q k % 4) (X k) (partB (Q k) (X k) (B k) ++ r') = some ((X k % 2 : Nat), [], (partB (Q k) (X k) (B k)).length)) := Lib.hid (by
                  have h := GOT.out
                  have h4 := HQ.out
                  unfold backX backV backT at h
                  rw [if_neg (by omega), if_neg (by omega), if_pos h4, if_neg (by omega)] at h
                  exact h)
                have TK := Lib.hid (take_any W0 g (Q k) (X k) pa pn pc (partB (Q k) (X k) (B k) ++ r') false B1.out.2.1 (by have := LN.out; omega) QL.out.1 (QL.out.2))
                rw [GB.out] at TK
                go_upto_region 18 with (fail)
                refine wp_region_lit ?_
                refine wpL_pure (.pointer (some ⟨g, 0, none⟩)) rfl (by kernel_rfl) ?_
                simp only [Act.put, List.setIfInBounds_toArray, List.set_cons_zero, List.set_cons_succ]
                refine wpL_load 35 _ rfl rfl (gq) (0) rfl [.int .u8 (Q k : Int), .int .u64 (X k : Int), .slice pa pn pc] _ (range_blk (l := [.int .u8 (Q k : Int), .int .u64 (X k : Int), .slice pa pn pc]) B1.out.1) Try.underlying35 rfl (by kernel_rfl) ?_
                simp only [Act.put, List.setIfInBounds_toArray, List.set_cons_zero, List.set_cons_succ]
                refine wpL_call 14 #[.pointer (some ⟨g, 0, none⟩), .agg #[.int .u8 (Q k : Int), .int .u64 (X k : Int), .slice pa pn pc]] rfl (by kernel_rfl) ((TK.out).mono fun e w6 ⟨v, he, q1, q2, q3⟩ => ⟨.tuple #[.int .u64 ((X k % 2 : Nat) : Int), v], he, ?_⟩)
                simp only [Act.put, List.setIfInBounds_toArray, List.set_cons_zero, List.set_cons_succ]
                obtain ⟨av, cv, ev⟩ := q1.slice
                have ev' : v = .slice av 0 cv := ev
                subst ev'
                clear ev
                have A1 : Hid (Row w6 av 0 ([]) ∧ InSt w6 g r' false ∧ Below w.heap.size w w6 ∧ Blk w6 gq 35 #[.int .u8 (Q k : Int), .int .u64 (X k : Int), .slice pa pn pc]) := Lib.hid ⟨q1.row.1, (by have h : InSt w6 g ((partB (Q k) (X k) (B k) ++ r').drop (partB (Q k) (X k) (B k)).length) false := q2; rw [List.drop_left] at h; exact h), B1.out.2.2.trans (gb_below q3 B5.out.2.2 B1.out.2.2.size), B1.out.1.grown q3 (by intro e; exact absurd (Option.some.inj e) GN.out)⟩
                clear q1 q2 q3 TK B1
                refine wpL_pure (.tuple #[.int .u64 ((X k % 2 : Nat) : Int), .slice av 0 cv]) rfl (by kernel_rfl) ?_
                simp only [Act.put, List.setIfInBounds_toArray, List.set_cons_zero, List.set_cons_succ]
                refine wpL_pure (.int .u64 ((X k % 2 : Nat) : Int)) rfl (by kernel_rfl) ?_
                simp only [Act.put, List.setIfInBounds_toArray, List.set_cons_zero, List.set_cons_succ]
                refine wpL_pure (.slice av 0 cv) rfl (by kernel_rfl) ?_
                simp only [Act.put, List.setIfInBounds_toArray, List.set_cons_zero, List.set_cons_succ]
                refine wpL_pure (.int .u64 ((X k % 2 : Nat) : Int)) rfl (by kernel_rfl) ?_
                simp only [Act.put, List.setIfInBounds_toArray, List.set_cons_zero, List.set_cons_succ]
                refine wpL_pure (.slice av 0 cv) rfl (by kernel_rfl) ?_
                simp only [Act.put, List.setIfInBounds_toArray, List.set_cons_zero, List.set_cons_succ]
                have PR : Hid (Row w6 pa pn (B k)) := Lib.hid (PA.out.2.2.2.2.2.1.keep A1.out.2.2.1)
                obtain ⟨z, hz⟩ : ∃ z, decide ([] ≠ B k) = z := ⟨_, rfl⟩
                have ZZ := Lib.hid hz
                clear hz
                cases z
                · go_upto_region 19 with (fail)
                  refine wp_region_lit ?_
                  refine wpL_pure (.slice av 0 cv) rfl (by kernel_rfl) ?_
                  simp only [Act.put, List.setIfInBounds_toArray, List.set_cons_zero, List.set_cons_succ]
                  refine wpL_pure (.string (strOfNums ([]))) rfl (run_conv_str _ _ _ _ av 0 cv _ rfl rfl A1.out.1) ?_
                  simp only [Act.put, List.setIfInBounds_toArray, List.set_cons_zero, List.set_cons_succ]
                  refine wpL_pure (.pointer (some ⟨gq, 2, none⟩)) rfl (by kernel_rfl) ?_
                  simp only [Act.put, List.setIfInBounds_toArray, List.set_cons_zero, List.set_cons_succ]
                  refine wpL_pure (.slice pa pn pc) rfl (run_load_one _ _ _ 25 _ _ rfl (gq) (2) rfl (by rw [A1.out.2.2.2.cell]; rfl) (by kernel_rfl)) ?_
                  simp only [Act.put, List.setIfInBounds_toArray, List.set_cons_zero, List.set_cons_succ]
                  refine wpL_pure (.string (strOfNums (B k))) rfl (run_conv_str _ _ _ _ pa pn pc _ rfl rfl PR.out) ?_
                  simp only [Act.put, List.setIfInBounds_toArray, List.set_cons_zero, List.set_cons_succ]
                  refine wpL_pure (.bool false) rfl (run_str_ne _ _ _ _ _ _ _ false rfl rfl rfl ZZ.out (by simp) (fun v hv => PR.out.2.2.1 v hv)) ?_
                  simp only [Act.put, List.setIfInBounds_toArray, List.set_cons_zero, List.set_cons_succ]
                  refine wpL_pure (.bool false) rfl (by kernel_rfl) ?_
                  simp only [Act.put, List.setIfInBounds_toArray, List.set_cons_zero, List.set_cons_succ]
                  refine wpL_skip (by kernel_rfl) ?_
                  simp only [Act.put, List.setIfInBounds_toArray, List.set_cons_zero, List.set_cons_succ]
                  refine wpL_skip (by kernel_rfl) ?_
                  simp only [Act.put, List.setIfInBounds_toArray, List.set_cons_zero, List.set_cons_succ]
                  refine wpL_skip (by kernel_rfl) ?_
                  simp only [Act.put, List.setIfInBounds_toArray, List.set_cons_zero, List.set_cons_succ]
                  refine wpL_skip (by kernel_rfl) ?_
                  simp only [Act.put, List.setIfInBounds_toArray, List.set_cons_zero, List.set_cons_succ]
                  refine wpL_pure (.bool false) rfl (by kernel_rfl) ?_
                  simp only [Act.put, List.setIfInBounds_toArray, List.set_cons_zero, List.set_cons_succ]
                  refine wpL_pure (.bool false) rfl (by kernel_rfl) ?_
                  simp only [Act.put, List.setIfInBounds_toArray, List.set_cons_zero, List.set_cons_succ]
                  refine wpL_skip (by kernel_rfl) ?_
                  simp only [Act.put, List.setIfInBounds_toArray, List.set_cons_zero, List.set_cons_succ]
                  refine wpL_skip (by kernel_rfl) ?_
                  simp only [Act.put, List.setIfInBounds_toArray, List.set_cons_zero, List.set_cons_succ]
                  refine wpL_skip (by kernel_rfl) ?_
                  simp only [Act.put, List.setIfInBounds_toArray, List.set_cons_zero, List.set_cons_succ]
                  refine wpL_skip (by kernel_rfl) ?_
                  simp only [Act.put, List.setIfInBounds_toArray, List.set_cons_zero, List.set_cons_succ]
                  refine wpL_pure (.bool false) rfl (by kernel_rfl) ?_
                  simp only [Act.put, List.setIfInBounds_toArray, List.set_cons_zero, List.set_cons_succ]
                  refine wpL_pure (.bool false) rfl (by kernel_rfl) ?_
                  simp only [Act.put, List.setIfInBounds_toArray, List.set_cons_zero, List.set_cons_succ]
                  refine wpL_pure (.pointer (some ⟨gq, 0, none⟩)) rfl (by kernel_rfl) ?_
                  simp only [Act.put, List.setIfInBounds_toArray, List.set_cons_zero, List.set_cons_succ]
                  refine wpL_pure (.int .u8 (Q k : Int)) rfl (run_load_one _ _ _ 5 _ _ rfl (gq) (0) rfl (by rw [A1.out.2.2.2.cell]; rfl) (by kernel_rfl)) ?_
                  simp only [Act.put, List.setIfInBounds_toArray, List.set_cons_zero, List.set_cons_succ]
                  refine wpL_pure (.int .u8 ((Q k % 4 : Nat) : Int)) rfl (run_rem4 _ _ _ _ _ (Q k) rfl rfl rfl QL.out.1) ?_
                  simp only [Act.put, List.setIfInBounds_toArray, List.set_cons_zero, List.set_cons_succ]
                  refine wpL_pure (.bool false) rfl (run_eqi Try.underlying5 rfl rfl rfl (by have := HQ.out; rw [decide_eq_false_iff_not]; omega)) ?_
                  simp only [Act.put, List.setIfInBounds_toArray, List.set_cons_zero, List.set_cons_succ]
                  refine wpL_pure (.bool false) rfl (by kernel_rfl) ?_
                  simp only [Act.put, List.setIfInBounds_toArray, List.set_cons_zero, List.set_cons_succ]
                  refine wpL_skip (by kernel_rfl) ?_
                  simp only [Act.put, List.setIfInBounds_toArray, List.set_cons_zero, List.set_cons_succ]
                  refine wpL_skip (by kernel_rfl) ?_
                  simp only [Act.put, List.setIfInBounds_toArray, List.set_cons_zero, List.set_cons_succ]
                  refine wpL_skip (by kernel_rfl) ?_
                  simp only [Act.put, List.setIfInBounds_toArray, List.set_cons_zero, List.set_cons_succ]
                  refine wpL_skip (by kernel_rfl) ?_
                  simp only [Act.put, List.setIfInBounds_toArray, List.set_cons_zero, List.set_cons_succ]
                  refine wpL_pure (.bool false) rfl (by kernel_rfl) ?_
                  simp only [Act.put, List.setIfInBounds_toArray, List.set_cons_zero, List.set_cons_succ]
                  refine wpL_pure (.bool false) rfl (by kernel_rfl) ?_
                  simp only [Act.put, List.setIfInBounds_toArray, List.set_cons_zero, List.set_cons_succ]
                  refine wpL_pure (.bool false) rfl (by kernel_rfl) ?_
                  simp only [Act.put, List.setIfInBounds_toArray, List.set_cons_zero, List.set_cons_succ]
                  refine wpL_pure (.pointer (some ⟨gq, 0, none⟩)) rfl (by kernel_rfl) ?_
                  simp only [Act.put, List.setIfInBounds_toArray, List.set_cons_zero, List.set_cons_succ]
                  refine wpL_pure (.int .u8 (Q k : Int)) rfl (run_load_one _ _ _ 5 _ _ rfl (gq) (0) rfl (by rw [A1.out.2.2.2.cell]; rfl) (by kernel_rfl)) ?_
                  simp only [Act.put, List.setIfInBounds_toArray, List.set_cons_zero, List.set_cons_succ]
                  refine wpL_pure (.int .u8 ((Q k % 4 : Nat) : Int)) rfl (run_rem4 _ _ _ _ _ (Q k) rfl rfl rfl QL.out.1) ?_
                  simp only [Act.put, List.setIfInBounds_toArray, List.set_cons_zero, List.set_cons_succ]
                  refine wpL_pure (.bool true) rfl (run_eqi Try.underlying5 rfl rfl rfl (by have := HQ.out; rw [decide_eq_true_eq]; omega)) ?_
                  simp only [Act.put, List.setIfInBounds_toArray, List.set_cons_zero, List.set_cons_succ]
                  refine wpL_pure (.bool true) rfl (by kernel_rfl) ?_
                  simp only [Act.put, List.setIfInBounds_toArray, List.set_cons_zero, List.set_cons_succ]
                  refine wpL_pure (.int .u64 ((X k % 2 : Nat) : Int)) rfl (by kernel_rfl) ?_
                  simp only [Act.put, List.setIfInBounds_toArray, List.set_cons_zero, List.set_cons_succ]
                  refine wpL_pure (.pointer (some ⟨gq, 1, none⟩)) rfl (by kernel_rfl) ?_
                  simp only [Act.put, List.setIfInBounds_toArray, List.set_cons_zero, List.set_cons_succ]
                  refine wpL_pure (.int .u64 (X k : Int)) rfl (run_load_one _ _ _ 33 _ _ rfl (gq) (1) rfl (by rw [A1.out.2.2.2.cell]; rfl) (by kernel_rfl)) ?_
                  simp only [Act.put, List.setIfInBounds_toArray, List.set_cons_zero, List.set_cons_succ]
                  refine wpL_pure (.int .u64 ((X k % 2 : Nat) : Int)) rfl (run_rem2 _ _ _ _ (X k) rfl rfl QL.out.2) ?_
                  simp only [Act.put, List.setIfInBounds_toArray, List.set_cons_zero, List.set_cons_succ]
                  refine wpL_pure (.bool false) rfl (run_nei Try.underlying33 rfl rfl rfl (by simp)) ?_
                  simp only [Act.put, List.setIfInBounds_toArray, List.set_cons_zero, List.set_cons_succ]
                  refine wpL_pure (.bool false) rfl (by kernel_rfl) ?_
                  simp only [Act.put, List.setIfInBounds_toArray, List.set_cons_zero, List.set_cons_succ]
                  refine wpL_pure (.bool false) rfl (by kernel_rfl) ?_
                  simp only [Act.put, List.setIfInBounds_toArray, List.set_cons_zero, List.set_cons_succ]
                  go_upto_region 14 with (fail)
                  refine wp_region_lit ?_
                  refine wpL_pure (.int .i64 (k : Int)) rfl (by kernel_rfl) ?_
                  simp only [Act.put, List.setIfInBounds_toArray, List.set_cons_zero, List.set_cons_succ]
                  refine wpL_pure (.int .i64 ((k + 1 : Nat) : Int)) rfl (run_addi Try.underlying3 rfl rfl rfl _ (by have := HK.out; have := L40.out; rw [wrap_in _ (by omega) (by omega)]; omega)) ?_
                  simp only [Act.put, List.setIfInBounds_toArray, List.set_cons_zero, List.set_cons_succ]
                  refine wpL_pure (.int .i64 ((k + 1 : Nat) : Int)) rfl (by kernel_rfl) ?_
                  simp only [Act.put, List.setIfInBounds_toArray, List.set_cons_zero, List.set_cons_succ]
                  have NX : Hid (k + 1 ≤ ln ∧ (∃ y r, stk Q X B (k + 1) = some y ∧ xs = y ++ r ∧ InSt w6 g r false) ∧ Below w.heap.size w w6) := Lib.hid ⟨by have := HK.out; omega, ⟨_, r', ST.out.1, ST.out.2, A1.out.2.1⟩, A1.out.2.2.1⟩
                  unfold wpList
                  go_roundw
                  case rel => first | exact ⟨_, rfl, NX⟩ | ((repeat apply Exists.intro); exact ⟨⟨_, rfl, NX⟩, rfl⟩)
                  case measure => simp [intOf]; have := HK.out; omega
                · go_upto_region 19 with (fail)
                  refine wp_region_lit ?_
                  refine wpL_pure (.slice av 0 cv) rfl (by kernel_rfl) ?_
                  simp only [Act.put, List.setIfInBounds_toArray, List.set_cons_zero, List.set_cons_succ]
                  refine wpL_pure (.string (strOfNums ([]))) rfl (run_conv_str _ _ _ _ av 0 cv _ rfl rfl A1.out.1) ?_
                  simp only [Act.put, List.setIfInBounds_toArray, List.set_cons_zero, List.set_cons_succ]
                  refine wpL_pure (.pointer (some ⟨gq, 2, none⟩)) rfl (by kernel_rfl) ?_
                  simp only [Act.put, List.setIfInBounds_toArray, List.set_cons_zero, List.set_cons_succ]
                  refine wpL_pure (.slice pa pn pc) rfl (run_load_one _ _ _ 25 _ _ rfl (gq) (2) rfl (by rw [A1.out.2.2.2.cell]; rfl) (by kernel_rfl)) ?_
                  simp only [Act.put, List.setIfInBounds_toArray, List.set_cons_zero, List.set_cons_succ]
                  refine wpL_pure (.string (strOfNums (B k))) rfl (run_conv_str _ _ _ _ pa pn pc _ rfl rfl PR.out) ?_
                  simp only [Act.put, List.setIfInBounds_toArray, List.set_cons_zero, List.set_cons_succ]
                  refine wpL_pure (.bool true) rfl (run_str_ne _ _ _ _ _ _ _ true rfl rfl rfl ZZ.out (by simp) (fun v hv => PR.out.2.2.1 v hv)) ?_
                  simp only [Act.put, List.setIfInBounds_toArray, List.set_cons_zero, List.set_cons_succ]
                  refine wpL_pure (.bool true) rfl (by kernel_rfl) ?_
                  simp only [Act.put, List.setIfInBounds_toArray, List.set_cons_zero, List.set_cons_succ]
                  refine wpL_pure (.pointer (some ⟨gq, 0, none⟩)) rfl (by kernel_rfl) ?_
                  simp only [Act.put, List.setIfInBounds_toArray, List.set_cons_zero, List.set_cons_succ]
                  refine wpL_pure (.int .u8 (Q k : Int)) rfl (run_load_one _ _ _ 5 _ _ rfl (gq) (0) rfl (by rw [A1.out.2.2.2.cell]; rfl) (by kernel_rfl)) ?_
                  simp only [Act.put, List.setIfInBounds_toArray, List.set_cons_zero, List.set_cons_succ]
                  refine wpL_pure (.int .u8 ((Q k % 4 : Nat) : Int)) rfl (run_rem4 _ _ _ _ _ (Q k) rfl rfl rfl QL.out.1) ?_
                  simp only [Act.put, List.setIfInBounds_toArray, List.set_cons_zero, List.set_cons_succ]
                  refine wpL_pure (.bool true) rfl (run_nei Try.underlying5 rfl rfl rfl (by have := HQ.out; rw [decide_eq_true_eq]; omega)) ?_
                  simp only [Act.put, List.setIfInBounds_toArray, List.set_cons_zero, List.set_cons_succ]
                  refine wpL_pure (.bool true) rfl (by kernel_rfl) ?_
                  simp only [Act.put, List.setIfInBounds_toArray, List.set_cons_zero, List.set_cons_succ]
                  refine wpL_pure (.bool true) rfl (by kernel_rfl) ?_
                  simp only [Act.put, List.setIfInBounds_toArray, List.set_cons_zero, List.set_cons_succ]
                  refine wpL_pure (.pointer (some ⟨gq, 0, none⟩)) rfl (by kernel_rfl) ?_
                  simp only [Act.put, List.setIfInBounds_toArray, List.set_cons_zero, List.set_cons_succ]
                  refine wpL_pure (.int .u8 (Q k : Int)) rfl (run_load_one _ _ _ 5 _ _ rfl (gq) (0) rfl (by rw [A1.out.2.2.2.cell]; rfl) (by kernel_rfl)) ?_
                  simp only [Act.put, List.setIfInBounds_toArray, List.set_cons_zero, List.set_cons_succ]
                  refine wpL_pure (.int .u8 ((Q k % 4 : Nat) : Int)) rfl (run_rem4 _ _ _ _ _ (Q k) rfl rfl rfl QL.out.1) ?_
                  simp only [Act.put, List.setIfInBounds_toArray, List.set_cons_zero, List.set_cons_succ]
                  refine wpL_pure (.bool false) rfl (run_nei Try.underlying5 rfl rfl rfl (by have := HQ.out; rw [decide_eq_false_iff_not]; omega)) ?_
                  simp only [Act.put, List.setIfInBounds_toArray, List.set_cons_zero, List.set_cons_succ]
                  refine wpL_pure (.bool false) rfl (by kernel_rfl) ?_
                  simp only [Act.put, List.setIfInBounds_toArray, List.set_cons_zero, List.set_cons_succ]
                  refine wpL_pure (.bool false) rfl (by kernel_rfl) ?_
                  simp only [Act.put, List.setIfInBounds_toArray, List.set_cons_zero, List.set_cons_succ]
                  refine wpL_pure (.pointer (some ⟨gq, 0, none⟩)) rfl (by kernel_rfl) ?_
                  simp only [Act.put, List.setIfInBounds_toArray, List.set_cons_zero, List.set_cons_succ]
                  refine wpL_pure (.int .u8 (Q k : Int)) rfl (run_load_one _ _ _ 5 _ _ rfl (gq) (0) rfl (by rw [A1.out.2.2.2.cell]; rfl) (by kernel_rfl)) ?_
                  simp only [Act.put, List.setIfInBounds_toArray, List.set_cons_zero, List.set_cons_succ]
                  refine wpL_pure (.int .u8 ((Q k % 4 : Nat) : Int)) rfl (run_rem4 _ _ _ _ _ (Q k) rfl rfl rfl QL.out.1) ?_
                  simp only [Act.put, List.setIfInBounds_toArray, List.set_cons_zero, List.set_cons_succ]
                  refine wpL_pure (.bool false) rfl (run_eqi Try.underlying5 rfl rfl rfl (by have := HQ.out; rw [decide_eq_false_iff_not]; omega)) ?_
                  simp only [Act.put, List.setIfInBounds_toArray, List.set_cons_zero, List.set_cons_succ]
                  refine wpL_pure (.bool false) rfl (by kernel_rfl) ?_
                  simp only [Act.put, List.setIfInBounds_toArray, List.set_cons_zero, List.set_cons_succ]
                  refine wpL_skip (by kernel_rfl) ?_
                  simp only [Act.put, List.setIfInBounds_toArray, List.set_cons_zero, List.set_cons_succ]
                  refine wpL_skip (by kernel_rfl) ?_
                  simp only [Act.put, List.setIfInBounds_toArray, List.set_cons_zero, List.set_cons_succ]
                  refine wpL_skip (by kernel_rfl) ?_
                  simp only [Act.put, List.setIfInBounds_toArray, List.set_cons_zero, List.set_cons_succ]
                  refine wpL_skip (by kernel_rfl) ?_
                  simp only [Act.put, List.setIfInBounds_toArray, List.set_cons_zero, List.set_cons_succ]
                  refine wpL_pure (.bool false) rfl (by kernel_rfl) ?_
                  simp only [Act.put, List.setIfInBounds_toArray, List.set_cons_zero, List.set_cons_succ]
                  refine wpL_pure (.bool false) rfl (by kernel_rfl) ?_
                  simp only [Act.put, List.setIfInBounds_toArray, List.set_cons_zero, List.set_cons_succ]
                  refine wpL_pure (.bool false) rfl (by kernel_rfl) ?_
                  simp only [Act.put, List.setIfInBounds_toArray, List.set_cons_zero, List.set_cons_succ]
                  refine wpL_pure (.pointer (some ⟨gq, 0, none⟩)) rfl (by kernel_rfl) ?_
                  simp only [Act.put, List.setIfInBounds_toArray, List.set_cons_zero, List.set_cons_succ]
                  refine wpL_pure (.int .u8 (Q k : Int)) rfl (run_load_one _ _ _ 5 _ _ rfl (gq) (0) rfl (by rw [A1.out.2.2.2.cell]; rfl) (by kernel_rfl)) ?_
                  simp only [Act.put, List.setIfInBounds_toArray, List.set_cons_zero, List.set_cons_succ]
                  refine wpL_pure (.int .u8 ((Q k % 4 : Nat) : Int)) rfl (run_rem4 _ _ _ _ _ (Q k) rfl rfl rfl QL.out.1) ?_
                  simp only [Act.put, List.setIfInBounds_toArray, List.set_cons_zero, List.set_cons_succ]
                  refine wpL_pure (.bool true) rfl (run_eqi Try.underlying5 rfl rfl rfl (by have := HQ.out; rw [decide_eq_true_eq]; omega)) ?_
                  simp only [Act.put, List.setIfInBounds_toArray, List.set_cons_zero, List.set_cons_succ]
                  refine wpL_pure (.bool true) rfl (by kernel_rfl) ?_
                  simp only [Act.put, List.setIfInBounds_toArray, List.set_cons_zero, List.set_cons_succ]
                  refine wpL_pure (.int .u64 ((X k % 2 : Nat) : Int)) rfl (by kernel_rfl) ?_
                  simp only [Act.put, List.setIfInBounds_toArray, List.set_cons_zero, List.set_cons_succ]
                  refine wpL_pure (.pointer (some ⟨gq, 1, none⟩)) rfl (by kernel_rfl) ?_
                  simp only [Act.put, List.setIfInBounds_toArray, List.set_cons_zero, List.set_cons_succ]
                  refine wpL_pure (.int .u64 (X k : Int)) rfl (run_load_one _ _ _ 33 _ _ rfl (gq) (1) rfl (by rw [A1.out.2.2.2.cell]; rfl) (by kernel_rfl)) ?_
                  simp only [Act.put, List.setIfInBounds_toArray, List.set_cons_zero, List.set_cons_succ]
                  refine wpL_pure (.int .u64 ((X k % 2 : Nat) : Int)) rfl (run_rem2 _ _ _ _ (X k) rfl rfl QL.out.2) ?_
                  simp only [Act.put, List.setIfInBounds_toArray, List.set_cons_zero, List.set_cons_succ]
                  refine wpL_pure (.bool false) rfl (run_nei Try.underlying33 rfl rfl rfl (by simp)) ?_
                  simp only [Act.put, List.setIfInBounds_toArray, List.set_cons_zero, List.set_cons_succ]
                  refine wpL_pure (.bool false) rfl (by kernel_rfl) ?_
                  simp only [Act.put, List.setIfInBounds_toArray, List.set_cons_zero, List.set_cons_succ]
                  refine wpL_pure (.bool false) rfl (by kernel_rfl) ?_
                  simp only [Act.put, List.setIfInBounds_toArray, List.set_cons_zero, List.set_cons_succ]
                  go_upto_region 14 with (fail)
                  refine wp_region_lit ?_
                  refine wpL_pure (.int .i64 (k : Int)) rfl (by kernel_rfl) ?_
                  simp only [Act.put, List.setIfInBounds_toArray, List.set_cons_zero, List.set_cons_succ]
                  refine wpL_pure (.int .i64 ((k + 1 : Nat) : Int)) rfl (run_addi Try.underlying3 rfl rfl rfl _ (by have := HK.out; have := L40.out; rw [wrap_in _ (by omega) (by omega)]; omega)) ?_
                  simp only [Act.put, List.setIfInBounds_toArray, List.set_cons_zero, List.set_cons_succ]
                  refine wpL_pure (.int .i64 ((k + 1 : Nat) : Int)) rfl (by kernel_rfl) ?_
                  simp only [Act.put, List.setIfInBounds_toArray, List.set_cons_zero, List.set_cons_succ]
                  have NX : Hid (k + 1 ≤ ln ∧ (∃ y r, stk Q X B (k + 1) = some y ∧ xs = y ++ r ∧ InSt w6 g r false) ∧ Below w.heap.size w w6) := Lib.hid ⟨by have := HK.out; omega, ⟨_, r', ST.out.1, ST.out.2, A1.out.2.1⟩, A1.out.2.2.1⟩
                  unfold wpList
                  go_roundw
                  case rel => first | exact ⟨_, rfl, NX⟩ | ((repeat apply Exists.intro); exact ⟨⟨_, rfl, NX⟩, rfl⟩)
                  case measure => simp [intOf]; have := HK.out; omega
            · have HK := Lib.hid hlt
              have EK : Hid (k = ln) := Lib.hid (by have := RI.out.1; omega)
              clear hlt
              obtain ⟨y, r, hy, hxr, hI⟩ := RI.out.2.1
              have hr : r = [] := by rw [EK.out, HS.out] at hy; cases hy; exact (List.append_right_eq_self.1 hxr.symm)
              subst hr
              have IV := Lib.hid hI
              clear hy hxr hI
              go_upto_region 13 with (fail)
              refine wp_region_lit ?_
              refine wpL_pure (.int .i64 (k : Int)) rfl (by kernel_rfl) ?_
              simp only [Act.put, List.setIfInBounds_toArray, List.set_cons_zero, List.set_cons_succ]
              refine wpL_pure (.slice la ln lc) rfl (by kernel_rfl) ?_
              simp only [Act.put, List.setIfInBounds_toArray, List.set_cons_zero, List.set_cons_succ]
              refine wpL_pure (.int .i64 (ln : Int)) rfl (by kernel_rfl) ?_
              simp only [Act.put, List.setIfInBounds_toArray, List.set_cons_zero, List.set_cons_succ]
              refine wpL_pure (.bool false) rfl (run_lti Try.underlying3 rfl rfl rfl (by have := HK.out; rw [decide_eq_false_iff_not]; omega)) ?_
              simp only [Act.put, List.setIfInBounds_toArray, List.set_cons_zero, List.set_cons_succ]
              go_upto_region 21 with (fail)
              refine wp_region_lit ?_
              refine wpL_pure (.pointer (some ⟨g, 0, none⟩)) rfl (by kernel_rfl) ?_
              simp only [Act.put, List.setIfInBounds_toArray, List.set_cons_zero, List.set_cons_succ]
              refine wpL_call 18 #[.pointer (some ⟨g, 0, none⟩)] rfl (by kernel_rfl) (((over_any wr g _ _ IV.out)).mono fun e w6 ⟨he, hw⟩ => ⟨.bool true, (he.trans (by simp)), ?_⟩)
              simp only [Act.put, List.setIfInBounds_toArray, List.set_cons_zero, List.set_cons_succ]
              subst hw
              refine wpL_pure (.bool true) rfl (by kernel_rfl) ?_
              simp only [Act.put, List.setIfInBounds_toArray, List.set_cons_zero, List.set_cons_succ]
              go_wp2_with fail
              go_ret
              exact ⟨rfl, RI.out.2.2⟩
end Go.Proofs.Yteblaknbehfkgaa
