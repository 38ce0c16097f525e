import Derived.Test.YteblaknbehfkgaaArith
import Derived.Laws.BitsAllLaws
namespace Go.Proofs.Yteblaknbehfkgaa
open Go Go.RowKit

def accN (c : Nat → Nat) : Nat → Nat
  | 0 => 0
  | k + 1 => accN c k + c k % 128 * 2 ^ (7 * k)
theorem accN_lt (c : Nat → Nat) : ∀ k, accN c k < 2 ^ (7 * k)
  | 0 => by simp [accN]
  | k + 1 => by
    have h := accN_lt c k
    have e : 2 ^ (7 * (k + 1)) = 128 * 2 ^ (7 * k) := by rw [Nat.mul_add, Nat.pow_add, Nat.mul_comm]
    rw [e, accN]
    have h2 : c k % 128 * 2 ^ (7 * k) ≤ 127 * 2 ^ (7 * k) := Nat.mul_le_mul_right _ (by omega)
    omega
theorem or_acc (c : Nat → Nat) (k : Nat) : accN c k ||| c k % 128 * 2 ^ (7 * k) = accN c (k + 1) := by
  have h := Nat.two_pow_add_eq_or_of_lt (accN_lt c k) (c k % 128)
  rw [Nat.or_comm, Nat.mul_comm, ← h, accN, Nat.mul_comm, Nat.add_comm]
theorem and127 (x : Nat) (h : x < 256) : bits .and .u8 (x : Int) 127 = ((x % 128 : Nat) : Int) := by
  have e := u8_and_nat x 127 (by omega) (by omega)
  rw [show ((127 : Nat) : Int) = 127 from rfl] at e
  rw [e, Nat.and_two_pow_sub_one_eq_mod x 7]
theorem wrap_u64s (x : Nat) (h : x < 18446744073709551616) : IntKind.u64.wrap (x : Int) = (x : Int) := by rw [IntKind.wrap_u64]; omega
theorem run_shl7 (a : Act) (o : Oper) (w : World) (x y : Operand) (k b : Nat) (ho : o.op = .binOp .shl 33 x y 3) (hx : a.eval x = .int .u64 (b : Int)) (hy : a.eval y = .int .i64 ((7 * k : Nat) : Int)) (hk : k ≤ 9) (hb : b < 128) (hs : b * 2 ^ (7 * k) < 18446744073709551616) : (execOp a.eval o).run Try.prog w = .ok (.value (.int .u64 ((b * 2 ^ (7 * k) : Nat) : Int))) w := by
  have b0 : (0 : Int) ≤ (b : Int) := by omega
  have b1 : (b : Int) < 128 := by omega
  unfold execOp
  simp only [ho, hx, hy]
  rcases (show k = 0 ∨ k = 1 ∨ k = 2 ∨ k = 3 ∨ k = 4 ∨ k = 5 ∨ k = 6 ∨ k = 7 ∨ k = 8 ∨ k = 9 by omega) with rfl | rfl | rfl | rfl | rfl | rfl | rfl | rfl | rfl | rfl
  all_goals go_simp
  all_goals (first | done | (rw [IntKind.wrap_u64]; omega) | omega)
def Good (c : Nat → Nat) (n k : Nat) : Prop := k < n ∧ k ≤ 9 ∧ (∀ j, j < k → 128 ≤ c j) ∧ c k < 128 ∧ (k = 9 → c k ≤ 1) ∧ (0 < c k ∨ k = 0)
theorem acc9 (c : Nat → Nat) (k : Nat) (hk : k ≤ 9) (h9 : k = 9 → c k ≤ 1) : c k % 128 * 2 ^ (7 * k) < 18446744073709551616 ∧ accN c (k + 1) < 18446744073709551616 := by
  have h1 := accN_lt c k
  rcases Nat.lt_or_ge k 9 with h | h
  · have h2 := accN_lt c (k + 1)
    have e : 2 ^ (7 * (k + 1)) ≤ 2 ^ 63 := Nat.pow_le_pow_right (by omega) (by omega)
    have e2 : (2 : Nat) ^ 63 = 9223372036854775808 := by decide
    have h3 : c k % 128 * 2 ^ (7 * k) ≤ accN c (k + 1) := by rw [accN]; omega
    omega
  · obtain rfl : k = 9 := by omega
    have h2 := h9 rfl
    have e2 : (2 : Nat) ^ (7 * 9) = 9223372036854775808 := by decide
    have e3 : c 9 % 128 = c 9 := by omega
    rw [accN]
    rw [e2] at h1 ⊢
    rw [e3]
    have : c 9 = 0 ∨ c 9 = 1 := by omega
    rcases this with h | h <;> rw [h] <;> omega
theorem no_other {c : Nat → Nat} {n k : Nat} (h3 : ∀ j, j < k → 128 ≤ c j) (hl : c k < 128) (hb : ¬ (0 < c k ∨ k = 0)) (i : Nat) (hi : Good c n i) : False := by
  obtain ⟨q1, q2, q3, q4, q5, q6⟩ := hi
  rcases Nat.lt_trichotomy i k with h | h | h
  · have := h3 i h; omega
  · subst h; exact hb q6
  · have := q3 k h; omega
def NumP (c : Nat → Nat) (n : Nat) (w : World) (e : Ending) (w' : World) : Prop := ∃ (x s : Nat) (ok : Bool), e = .returned (.tuple #[.int .u64 (x : Int), .int .i64 (s : Int), .bool ok]) ∧ w = w' ∧ x < 18446744073709551616 ∧ s ≤ n ∧ (ok = true → ∃ k, Good c n k ∧ x = accN c (k + 1) ∧ s = k + 1) ∧ (ok = false → ∀ k, ¬ Good c n k)
set_option maxRecDepth 100000 in
set_option maxHeartbeats 2000000 in
theorem number_at (w : World) (g off n cp : Nat) (c : Nat → Nat) (hc : ∀ j, c j < 256) (hn : n ≤ maxLen) (hcell : ∀ j, j < n → w.cell? ⟨g, off + j, none⟩ = some (.int .u8 (c j : Nat))) :
    Calls Try.prog 30 #[.slice (some ⟨g, off, none⟩) n cp] w (NumP c n w) := by
  have HC := Lib.hid hcell
  have HCC := Lib.hid hc
  have HM := Lib.hid hn
  clear hcell hc hn
  go_enter Try.func30, Try.ntmps30
  go_wp2_with fail
  go_loop [5, 10] (fun s5 s10 => ∃ k : Nat, s10 = .int .i64 (k : Int) ∧ s5 = .int .u64 ((accN c k : Nat) : Int) ∧ Hid (k ≤ n ∧ k ≤ 9 ∧ ∀ j, j < k → 128 ≤ c j)) (fun _ s10 => n - (intOf s10).toNat)
  case atStart => exact ⟨0, rfl, rfl, Lib.hid ⟨by omega, by omega, fun j hj => absurd hj (by omega)⟩⟩
  case round =>
    obtain ⟨k, rfl, rfl, RI⟩ := hrel
    by_cases hlt : k < n
    · have HK : Hid (k < n ∧ k ≤ 9 ∧ ∀ j, j < k → 128 ≤ c j) := Lib.hid ⟨hlt, RI.out.2⟩
      clear RI hlt
      go_upto_region 3 with (fail)
      refine wp_region_lit ?_
      refine wpL_pure (.bool true) rfl (run_lti Try.underlying3 rfl rfl rfl (by have := HK.out.1; rw [decide_eq_true_eq]; omega)) ?_
      simp only [Act.put, List.setIfInBounds_toArray, List.set_cons_zero, List.set_cons_succ]
      go_upto_region 4 with (fail)
      refine wp_region_lit ?_
      refine wpL_pure (.int .i64 (k : Int)) rfl (by kernel_rfl) ?_
      simp only [Act.put, List.setIfInBounds_toArray, List.set_cons_zero, List.set_cons_succ]
      refine wpL_pure (.pointer (some ⟨g, off + k, none⟩)) rfl (run_idx _ _ _ _ _ g off n cp k rfl rfl rfl HK.out.1 HM.out) ?_
      simp only [Act.put, List.setIfInBounds_toArray, List.set_cons_zero, List.set_cons_succ]
      refine wpL_pure (.int .u8 ((c k : Nat) : Int)) rfl (run_load_one _ _ _ 5 _ (.int .u8 (c k : Nat)) rfl g (off + k) rfl (HC.out k HK.out.1) (by kernel_rfl)) ?_
      simp only [Act.put, List.setIfInBounds_toArray, List.set_cons_zero, List.set_cons_succ]
      refine wpL_pure (.int .i64 (k : Int)) rfl (by kernel_rfl) ?_
      simp only [Act.put, List.setIfInBounds_toArray, List.set_cons_zero, List.set_cons_succ]
      refine wpL_pure (.int .u8 ((c k : Nat) : Int)) rfl (by kernel_rfl) ?_
      simp only [Act.put, List.setIfInBounds_toArray, List.set_cons_zero, List.set_cons_succ]
      by_cases hbad : k = 9 ∧ 1 < c k
      · have N9 : Hid (decide ((k : Int) = 9) = true) := Lib.hid (by rw [decide_eq_true_eq]; omega)
        have NB : Hid (decide (1 < ((c k : Nat) : Int)) = true) := Lib.hid (by rw [decide_eq_true_eq]; omega)
        have FIN : Hid (∀ i, ¬ Good c n i) := Lib.hid (fun i hi => by
          obtain ⟨h1, h2, h3, h4, h5, h6⟩ := hi
          have q := HK.out.2.2
          rcases Nat.lt_trichotomy i k with h | h | h
          · have := q i h; omega
          · subst h; have := h5 hbad.1; omega
          · omega)
        clear hbad
        go_upto_region 5 with (fail)
        refine wp_region_lit ?_
        refine wpL_pure (.int .i64 (k : Int)) rfl (by kernel_rfl) ?_
        simp only [Act.put, List.setIfInBounds_toArray, List.set_cons_zero, List.set_cons_succ]
        refine wpL_pure (.bool true) rfl (run_eqi Try.underlying3 rfl rfl rfl N9.out) ?_
        simp only [Act.put, List.setIfInBounds_toArray, List.set_cons_zero, List.set_cons_succ]
        refine wpL_pure (.bool true) rfl (by kernel_rfl) ?_
        simp only [Act.put, List.setIfInBounds_toArray, List.set_cons_zero, List.set_cons_succ]
        refine wpL_pure (.int .u8 ((c k : Nat) : Int)) rfl (by kernel_rfl) ?_
        simp only [Act.put, List.setIfInBounds_toArray, List.set_cons_zero, List.set_cons_succ]
        refine wpL_pure (.bool true) rfl (run_gti Try.underlying5 rfl rfl rfl NB.out) ?_
        simp only [Act.put, List.setIfInBounds_toArray, List.set_cons_zero, List.set_cons_succ]
        refine wpL_pure (.bool true) rfl (by kernel_rfl) ?_
        simp only [Act.put, List.setIfInBounds_toArray, List.set_cons_zero, List.set_cons_succ]
        go_wp2_with fail
        go_ret3
        exact ⟨0, 0, false, rfl, rfl, by omega, by omega, (fun h => by cases h), fun _ => FIN.out⟩
      · have h9 : k = 9 → c k ≤ 1 := fun h => by omega
        have A9 := acc9 c k HK.out.2.1 h9
        have SB := Lib.hid A9.1
        have SA := Lib.hid A9.2
        have H9 := Lib.hid h9
        have OR : Hid (bits .or .u64 ((accN c k : Nat) : Int) ((c k % 128 * 2 ^ (7 * k) : Nat) : Int) = ((accN c (k + 1) : Nat) : Int)) := Lib.hid (by rw [u64_or_nat _ _ (by have := A9.2; rw [accN] at this; omega) A9.1, or_acc])
        clear A9 h9
        have key : ∀ {Q : Prop}, (∀ (n9 : Bool), Hid (decide ((k : Int) = 9) = n9) → (n9 = true → Hid (decide (1 < ((c k : Nat) : Int)) = false)) → Q) → Q := fun h => h _ (Lib.hid rfl) (fun h9 => Lib.hid (by rw [decide_eq_true_eq] at h9; rw [decide_eq_false_iff_not]; omega))
        clear hbad
        refine key ?_
        clear key
        intro n9 N9 NB'
        cases n9
        · clear NB'
          go_upto_region 5 with (fail)
          refine wp_region_lit ?_
          refine wpL_pure (.int .i64 (k : Int)) rfl (by kernel_rfl) ?_
          simp only [Act.put, List.setIfInBounds_toArray, List.set_cons_zero, List.set_cons_succ]
          refine wpL_pure (.bool false) rfl (run_eqi Try.underlying3 rfl rfl rfl N9.out) ?_
          simp only [Act.put, List.setIfInBounds_toArray, List.set_cons_zero, List.set_cons_succ]
          refine wpL_pure (.bool false) rfl (by kernel_rfl) ?_
          simp only [Act.put, List.setIfInBounds_toArray, List.set_cons_zero, List.set_cons_succ]
          refine wpL_skip rfl ?_
          simp only [Act.put, List.setIfInBounds_toArray, List.set_cons_zero, List.set_cons_succ]
          refine wpL_skip rfl ?_
          simp only [Act.put, List.setIfInBounds_toArray, List.set_cons_zero, List.set_cons_succ]
          refine wpL_pure (.bool false) rfl (by kernel_rfl) ?_
          simp only [Act.put, List.setIfInBounds_toArray, List.set_cons_zero, List.set_cons_succ]
          go_upto_region 6 with (fail)
          refine wp_region_lit ?_
          refine wpL_pure (.int .u64 ((accN c k : Nat) : Int)) rfl (by kernel_rfl) ?_
          simp only [Act.put, List.setIfInBounds_toArray, List.set_cons_zero, List.set_cons_succ]
          refine wpL_pure (.int .u8 ((c k : Nat) : Int)) rfl (by kernel_rfl) ?_
          simp only [Act.put, List.setIfInBounds_toArray, List.set_cons_zero, List.set_cons_succ]
          refine wpL_pure (.int .u8 ((c k % 128 : Nat) : Int)) rfl (run_biti (.inr (.inl rfl)) Try.underlying5 rfl rfl rfl _ (and127 _ (HCC.out k))) ?_
          simp only [Act.put, List.setIfInBounds_toArray, List.set_cons_zero, List.set_cons_succ]
          refine wpL_pure (.int .u64 ((c k % 128 : Nat) : Int)) rfl (run_convi Try.underlying5 Try.underlying33 rfl rfl _ (wrap_u64s _ (by omega))) ?_
          simp only [Act.put, List.setIfInBounds_toArray, List.set_cons_zero, List.set_cons_succ]
          refine wpL_pure (.int .i64 (k : Int)) rfl (by kernel_rfl) ?_
          simp only [Act.put, List.setIfInBounds_toArray, List.set_cons_zero, List.set_cons_succ]
          refine wpL_pure (.int .i64 ((7 * k : Nat) : Int)) rfl (run_muli Try.underlying3 rfl rfl rfl _ (by rw [wrap_in _ (by omega) (by have := HK.out.2.1; omega)]; omega)) ?_
          simp only [Act.put, List.setIfInBounds_toArray, List.set_cons_zero, List.set_cons_succ]
          refine wpL_pure (.int .u64 ((c k % 128 * 2 ^ (7 * k) : Nat) : Int)) rfl (run_shl7 _ _ _ _ _ k (c k % 128) rfl rfl rfl HK.out.2.1 (by omega) SB.out) ?_
          simp only [Act.put, List.setIfInBounds_toArray, List.set_cons_zero, List.set_cons_succ]
          refine wpL_pure (.int .u64 ((accN c (k + 1) : Nat) : Int)) rfl (run_biti (.inl rfl) Try.underlying33 rfl rfl rfl _ (OR.out)) ?_
          simp only [Act.put, List.setIfInBounds_toArray, List.set_cons_zero, List.set_cons_succ]
          refine wpL_pure (.int .u64 ((accN c (k + 1) : Nat) : Int)) rfl (by kernel_rfl) ?_
          simp only [Act.put, List.setIfInBounds_toArray, List.set_cons_zero, List.set_cons_succ]
          by_cases hl : c k < 128
          · have NL : Hid (decide (((c k : Nat) : Int) < 128) = true) := Lib.hid (by rw [decide_eq_true_eq]; omega)
            obtain ⟨gt, hg⟩ : ∃ b, decide (0 < ((c k : Nat) : Int)) = b := ⟨_, rfl⟩
            have NG := Lib.hid hg
            clear hg
            go_upto_region 7 with (fail)
            refine wp_region_lit ?_
            refine wpL_pure (.int .u8 ((c k : Nat) : Int)) rfl (by kernel_rfl) ?_
            simp only [Act.put, List.setIfInBounds_toArray, List.set_cons_zero, List.set_cons_succ]
            refine wpL_pure (.bool true) rfl (run_lti Try.underlying5 rfl rfl rfl NL.out) ?_
            simp only [Act.put, List.setIfInBounds_toArray, List.set_cons_zero, List.set_cons_succ]
            go_upto_region 8 with (fail)
            refine wp_region_lit ?_
            refine wpL_pure (.int .u64 ((accN c (k + 1) : Nat) : Int)) rfl (by kernel_rfl) ?_
            simp only [Act.put, List.setIfInBounds_toArray, List.set_cons_zero, List.set_cons_succ]
            refine wpL_pure (.int .i64 (k : Int)) rfl (by kernel_rfl) ?_
            simp only [Act.put, List.setIfInBounds_toArray, List.set_cons_zero, List.set_cons_succ]
            refine wpL_pure (.int .i64 ((k + 1 : Nat) : Int)) rfl (run_addi Try.underlying3 rfl rfl rfl _ (by rw [wrap_in _ (by omega) (by have := HK.out.2.1; omega)]; omega)) ?_
            simp only [Act.put, List.setIfInBounds_toArray, List.set_cons_zero, List.set_cons_succ]
            refine wpL_pure (.int .u8 ((c k : Nat) : Int)) rfl (by kernel_rfl) ?_
            simp only [Act.put, List.setIfInBounds_toArray, List.set_cons_zero, List.set_cons_succ]
            refine wpL_pure (.bool gt) rfl (run_gti Try.underlying5 rfl rfl rfl NG.out) ?_
            simp only [Act.put, List.setIfInBounds_toArray, List.set_cons_zero, List.set_cons_succ]
            refine wpL_pure (.bool gt) rfl (by kernel_rfl) ?_
            simp only [Act.put, List.setIfInBounds_toArray, List.set_cons_zero, List.set_cons_succ]
            cases gt
            · obtain ⟨z, hz⟩ : ∃ b, decide ((k : Int) = 0) = b := ⟨_, rfl⟩
              have NZ := Lib.hid hz
              clear hz
              refine wpL_pure (.int .i64 (k : Int)) rfl (by kernel_rfl) ?_
              simp only [Act.put, List.setIfInBounds_toArray, List.set_cons_zero, List.set_cons_succ]
              refine wpL_pure (.bool z) rfl (run_eqi Try.underlying3 rfl rfl rfl NZ.out) ?_
              simp only [Act.put, List.setIfInBounds_toArray, List.set_cons_zero, List.set_cons_succ]
              refine wpL_pure (.bool z) rfl (by kernel_rfl) ?_
              simp only [Act.put, List.setIfInBounds_toArray, List.set_cons_zero, List.set_cons_succ]
              refine wpL_pure (.int .u64 ((accN c (k + 1) : Nat) : Int)) rfl (by kernel_rfl) ?_
              simp only [Act.put, List.setIfInBounds_toArray, List.set_cons_zero, List.set_cons_succ]
              refine wpL_pure (.int .i64 ((k + 1 : Nat) : Int)) rfl (by kernel_rfl) ?_
              simp only [Act.put, List.setIfInBounds_toArray, List.set_cons_zero, List.set_cons_succ]
              refine wpL_pure (.bool z) rfl (by kernel_rfl) ?_
              simp only [Act.put, List.setIfInBounds_toArray, List.set_cons_zero, List.set_cons_succ]
              go_wp2_with fail
              go_ret3
              exact ⟨accN c (k + 1), k + 1, z, rfl, rfl, SA.out, by have := HK.out.1; omega, fun h => ⟨k, ⟨HK.out.1, HK.out.2.1, HK.out.2.2, by have := NL.out; simp at this; omega, H9.out, .inr (by have := NZ.out; rw [h, decide_eq_true_eq] at this; omega)⟩, rfl, rfl⟩, fun h i hi => no_other HK.out.2.2 (by have := NL.out; simp at this; omega) (by have := NZ.out; rw [h, decide_eq_false_iff_not] at this; have := NG.out; rw [decide_eq_false_iff_not] at this; omega) i hi⟩
            · refine wpL_skip rfl ?_
              simp only [Act.put, List.setIfInBounds_toArray, List.set_cons_zero, List.set_cons_succ]
              refine wpL_skip rfl ?_
              simp only [Act.put, List.setIfInBounds_toArray, List.set_cons_zero, List.set_cons_succ]
              refine wpL_pure (.bool true) rfl (by kernel_rfl) ?_
              simp only [Act.put, List.setIfInBounds_toArray, List.set_cons_zero, List.set_cons_succ]
              refine wpL_pure (.int .u64 ((accN c (k + 1) : Nat) : Int)) rfl (by kernel_rfl) ?_
              simp only [Act.put, List.setIfInBounds_toArray, List.set_cons_zero, List.set_cons_succ]
              refine wpL_pure (.int .i64 ((k + 1 : Nat) : Int)) rfl (by kernel_rfl) ?_
              simp only [Act.put, List.setIfInBounds_toArray, List.set_cons_zero, List.set_cons_succ]
              refine wpL_pure (.bool true) rfl (by kernel_rfl) ?_
              simp only [Act.put, List.setIfInBounds_toArray, List.set_cons_zero, List.set_cons_succ]
              go_wp2_with fail
              go_ret3
              exact ⟨accN c (k + 1), k + 1, true, rfl, rfl, SA.out, by have := HK.out.1; omega, fun _ => ⟨k, ⟨HK.out.1, HK.out.2.1, HK.out.2.2, by have := NL.out; simp at this; omega, H9.out, .inl (by have := NG.out; rw [decide_eq_true_eq] at this; omega)⟩, rfl, rfl⟩, fun h => by cases h⟩
          · have NL : Hid (decide (((c k : Nat) : Int) < 128) = false) := Lib.hid (by rw [decide_eq_false_iff_not]; omega)
            have HL := Lib.hid hl
            clear hl
            go_upto_region 7 with (fail)
            refine wp_region_lit ?_
            refine wpL_pure (.int .u8 ((c k : Nat) : Int)) rfl (by kernel_rfl) ?_
            simp only [Act.put, List.setIfInBounds_toArray, List.set_cons_zero, List.set_cons_succ]
            refine wpL_pure (.bool false) rfl (run_lti Try.underlying5 rfl rfl rfl NL.out) ?_
            simp only [Act.put, List.setIfInBounds_toArray, List.set_cons_zero, List.set_cons_succ]
            have hk9 : k ≤ 9 := HK.out.2.1
            go_wp2_with fail
            go_round
            case rel => exact ⟨k + 1, by go_num, rfl, Lib.hid ⟨by have := HK.out.1; omega, by have := HK.out.2.1; have := HL.out; have := H9.out; omega, fun j hj => by rcases Nat.lt_or_ge j k with h | h; exact HK.out.2.2 j h; (obtain rfl : j = k := by omega); have := HL.out; omega⟩⟩
            case measure => simp [intOf]; have := HK.out.1; omega
        · have NB := NB' rfl
          clear NB'
          go_upto_region 5 with (fail)
          refine wp_region_lit ?_
          refine wpL_pure (.int .i64 (k : Int)) rfl (by kernel_rfl) ?_
          simp only [Act.put, List.setIfInBounds_toArray, List.set_cons_zero, List.set_cons_succ]
          refine wpL_pure (.bool true) rfl (run_eqi Try.underlying3 rfl rfl rfl N9.out) ?_
          simp only [Act.put, List.setIfInBounds_toArray, List.set_cons_zero, List.set_cons_succ]
          refine wpL_pure (.bool true) rfl (by kernel_rfl) ?_
          simp only [Act.put, List.setIfInBounds_toArray, List.set_cons_zero, List.set_cons_succ]
          refine wpL_pure (.int .u8 ((c k : Nat) : Int)) rfl (by kernel_rfl) ?_
          simp only [Act.put, List.setIfInBounds_toArray, List.set_cons_zero, List.set_cons_succ]
          refine wpL_pure (.bool false) rfl (run_gti Try.underlying5 rfl rfl rfl NB.out) ?_
          simp only [Act.put, List.setIfInBounds_toArray, List.set_cons_zero, List.set_cons_succ]
          refine wpL_pure (.bool false) rfl (by kernel_rfl) ?_
          simp only [Act.put, List.setIfInBounds_toArray, List.set_cons_zero, List.set_cons_succ]
          go_upto_region 6 with (fail)
          refine wp_region_lit ?_
          refine wpL_pure (.int .u64 ((accN c k : Nat) : Int)) rfl (by kernel_rfl) ?_
          simp only [Act.put, List.setIfInBounds_toArray, List.set_cons_zero, List.set_cons_succ]
          refine wpL_pure (.int .u8 ((c k : Nat) : Int)) rfl (by kernel_rfl) ?_
          simp only [Act.put, List.setIfInBounds_toArray, List.set_cons_zero, List.set_cons_succ]
          refine wpL_pure (.int .u8 ((c k % 128 : Nat) : Int)) rfl (run_biti (.inr (.inl rfl)) Try.underlying5 rfl rfl rfl _ (and127 _ (HCC.out k))) ?_
          simp only [Act.put, List.setIfInBounds_toArray, List.set_cons_zero, List.set_cons_succ]
          refine wpL_pure (.int .u64 ((c k % 128 : Nat) : Int)) rfl (run_convi Try.underlying5 Try.underlying33 rfl rfl _ (wrap_u64s _ (by omega))) ?_
          simp only [Act.put, List.setIfInBounds_toArray, List.set_cons_zero, List.set_cons_succ]
          refine wpL_pure (.int .i64 (k : Int)) rfl (by kernel_rfl) ?_
          simp only [Act.put, List.setIfInBounds_toArray, List.set_cons_zero, List.set_cons_succ]
          refine wpL_pure (.int .i64 ((7 * k : Nat) : Int)) rfl (run_muli Try.underlying3 rfl rfl rfl _ (by rw [wrap_in _ (by omega) (by have := HK.out.2.1; omega)]; omega)) ?_
          simp only [Act.put, List.setIfInBounds_toArray, List.set_cons_zero, List.set_cons_succ]
          refine wpL_pure (.int .u64 ((c k % 128 * 2 ^ (7 * k) : Nat) : Int)) rfl (run_shl7 _ _ _ _ _ k (c k % 128) rfl rfl rfl HK.out.2.1 (by omega) SB.out) ?_
          simp only [Act.put, List.setIfInBounds_toArray, List.set_cons_zero, List.set_cons_succ]
          refine wpL_pure (.int .u64 ((accN c (k + 1) : Nat) : Int)) rfl (run_biti (.inl rfl) Try.underlying33 rfl rfl rfl _ (OR.out)) ?_
          simp only [Act.put, List.setIfInBounds_toArray, List.set_cons_zero, List.set_cons_succ]
          refine wpL_pure (.int .u64 ((accN c (k + 1) : Nat) : Int)) rfl (by kernel_rfl) ?_
          simp only [Act.put, List.setIfInBounds_toArray, List.set_cons_zero, List.set_cons_succ]
          by_cases hl : c k < 128
          · have NL : Hid (decide (((c k : Nat) : Int) < 128) = true) := Lib.hid (by rw [decide_eq_true_eq]; omega)
            obtain ⟨gt, hg⟩ : ∃ b, decide (0 < ((c k : Nat) : Int)) = b := ⟨_, rfl⟩
            have NG := Lib.hid hg
            clear hg
            go_upto_region 7 with (fail)
            refine wp_region_lit ?_
            refine wpL_pure (.int .u8 ((c k : Nat) : Int)) rfl (by kernel_rfl) ?_
            simp only [Act.put, List.setIfInBounds_toArray, List.set_cons_zero, List.set_cons_succ]
            refine wpL_pure (.bool true) rfl (run_lti Try.underlying5 rfl rfl rfl NL.out) ?_
            simp only [Act.put, List.setIfInBounds_toArray, List.set_cons_zero, List.set_cons_succ]
            go_upto_region 8 with (fail)
            refine wp_region_lit ?_
            refine wpL_pure (.int .u64 ((accN c (k + 1) : Nat) : Int)) rfl (by kernel_rfl) ?_
            simp only [Act.put, List.setIfInBounds_toArray, List.set_cons_zero, List.set_cons_succ]
            refine wpL_pure (.int .i64 (k : Int)) rfl (by kernel_rfl) ?_
            simp only [Act.put, List.setIfInBounds_toArray, List.set_cons_zero, List.set_cons_succ]
            refine wpL_pure (.int .i64 ((k + 1 : Nat) : Int)) rfl (run_addi Try.underlying3 rfl rfl rfl _ (by rw [wrap_in _ (by omega) (by have := HK.out.2.1; omega)]; omega)) ?_
            simp only [Act.put, List.setIfInBounds_toArray, List.set_cons_zero, List.set_cons_succ]
            refine wpL_pure (.int .u8 ((c k : Nat) : Int)) rfl (by kernel_rfl) ?_
            simp only [Act.put, List.setIfInBounds_toArray, List.set_cons_zero, List.set_cons_succ]
            refine wpL_pure (.bool gt) rfl (run_gti Try.underlying5 rfl rfl rfl NG.out) ?_
            simp only [Act.put, List.setIfInBounds_toArray, List.set_cons_zero, List.set_cons_succ]
            refine wpL_pure (.bool gt) rfl (by kernel_rfl) ?_
            simp only [Act.put, List.setIfInBounds_toArray, List.set_cons_zero, List.set_cons_succ]
            cases gt
            · obtain ⟨z, hz⟩ : ∃ b, decide ((k : Int) = 0) = b := ⟨_, rfl⟩
              have NZ := Lib.hid hz
              clear hz
              refine wpL_pure (.int .i64 (k : Int)) rfl (by kernel_rfl) ?_
              simp only [Act.put, List.setIfInBounds_toArray, List.set_cons_zero, List.set_cons_succ]
              refine wpL_pure (.bool z) rfl (run_eqi Try.underlying3 rfl rfl rfl NZ.out) ?_
              simp only [Act.put, List.setIfInBounds_toArray, List.set_cons_zero, List.set_cons_succ]
              refine wpL_pure (.bool z) rfl (by kernel_rfl) ?_
              simp only [Act.put, List.setIfInBounds_toArray, List.set_cons_zero, List.set_cons_succ]
              refine wpL_pure (.int .u64 ((accN c (k + 1) : Nat) : Int)) rfl (by kernel_rfl) ?_
              simp only [Act.put, List.setIfInBounds_toArray, List.set_cons_zero, List.set_cons_succ]
              refine wpL_pure (.int .i64 ((k + 1 : Nat) : Int)) rfl (by kernel_rfl) ?_
              simp only [Act.put, List.setIfInBounds_toArray, List.set_cons_zero, List.set_cons_succ]
              refine wpL_pure (.bool z) rfl (by kernel_rfl) ?_
              simp only [Act.put, List.setIfInBounds_toArray, List.set_cons_zero, List.set_cons_succ]
              go_wp2_with fail
              go_ret3
              exact ⟨accN c (k + 1), k + 1, z, rfl, rfl, SA.out, by have := HK.out.1; omega, fun h => ⟨k, ⟨HK.out.1, HK.out.2.1, HK.out.2.2, by have := NL.out; simp at this; omega, H9.out, .inr (by have := NZ.out; rw [h, decide_eq_true_eq] at this; omega)⟩, rfl, rfl⟩, fun h i hi => no_other HK.out.2.2 (by have := NL.out; simp at this; omega) (by have := NZ.out; rw [h, decide_eq_false_iff_not] at this; have := NG.out; rw [decide_eq_false_iff_not] at this; omega) i hi⟩
            · refine wpL_skip rfl ?_
              simp only [Act.put, List.setIfInBounds_toArray, List.set_cons_zero, List.set_cons_succ]
              refine wpL_skip rfl ?_
              simp only [Act.put, List.setIfInBounds_toArray, List.set_cons_zero, List.set_cons_succ]
              refine wpL_pure (.bool true) rfl (by kernel_rfl) ?_
              simp only [Act.put, List.setIfInBounds_toArray, List.set_cons_zero, List.set_cons_succ]
              refine wpL_pure (.int .u64 ((accN c (k + 1) : Nat) : Int)) rfl (by kernel_rfl) ?_
              simp only [Act.put, List.setIfInBounds_toArray, List.set_cons_zero, List.set_cons_succ]
              refine wpL_pure (.int .i64 ((k + 1 : Nat) : Int)) rfl (by kernel_rfl) ?_
              simp only [Act.put, List.setIfInBounds_toArray, List.set_cons_zero, List.set_cons_succ]
              refine wpL_pure (.bool true) rfl (by kernel_rfl) ?_
              simp only [Act.put, List.setIfInBounds_toArray, List.set_cons_zero, List.set_cons_succ]
              go_wp2_with fail
              go_ret3
              exact ⟨accN c (k + 1), k + 1, true, rfl, rfl, SA.out, by have := HK.out.1; omega, fun _ => ⟨k, ⟨HK.out.1, HK.out.2.1, HK.out.2.2, by have := NL.out; simp at this; omega, H9.out, .inl (by have := NG.out; rw [decide_eq_true_eq] at this; omega)⟩, rfl, rfl⟩, fun h => by cases h⟩
          · have NL : Hid (decide (((c k : Nat) : Int) < 128) = false) := Lib.hid (by rw [decide_eq_false_iff_not]; omega)
            have HL := Lib.hid hl
            clear hl
            go_upto_region 7 with (fail)
            refine wp_region_lit ?_
            refine wpL_pure (.int .u8 ((c k : Nat) : Int)) rfl (by kernel_rfl) ?_
            simp only [Act.put, List.setIfInBounds_toArray, List.set_cons_zero, List.set_cons_succ]
            refine wpL_pure (.bool false) rfl (run_lti Try.underlying5 rfl rfl rfl NL.out) ?_
            simp only [Act.put, List.setIfInBounds_toArray, List.set_cons_zero, List.set_cons_succ]
            have hk9 : k ≤ 9 := HK.out.2.1
            go_wp2_with fail
            go_round
            case rel => exact ⟨k + 1, by go_num, rfl, Lib.hid ⟨by have := HK.out.1; omega, by have := HK.out.2.1; have := HL.out; have := H9.out; omega, fun j hj => by rcases Nat.lt_or_ge j k with h | h; exact HK.out.2.2 j h; (obtain rfl : j = k := by omega); have := HL.out; omega⟩⟩
            case measure => simp [intOf]; have := HK.out.1; omega
    · have ke : k = n := by have := RI.out.1; omega
      have FIN : Hid (∀ i, ¬ Good c n i) := Lib.hid (fun i hi => by
        obtain ⟨h1, h2, h3, h4, h5, h6⟩ := hi
        have := RI.out.2.2 i (by omega)
        omega)
      clear ke
      go_upto_region 3 with (fail)
      refine wp_region_lit ?_
      refine wpL_pure (.bool false) rfl (run_lti Try.underlying3 rfl rfl rfl (by rw [decide_eq_false_iff_not]; omega)) ?_
      simp only [Act.put, List.setIfInBounds_toArray, List.set_cons_zero, List.set_cons_succ]
      go_wp2_with fail
      go_ret3
      exact ⟨0, 0, false, rfl, rfl, by omega, by omega, (fun h => by cases h), fun _ => FIN.out⟩
theorem number_nil (w : World) (c : Nat → Nat) : Calls Try.prog 30 #[.slice none 0 0] w (NumP c 0 w) := by
  go_enter Try.func30, Try.ntmps30
  go_wp2
  go_loop [5, 10] (fun s5 s10 => s5 = .int .u64 0 ∧ s10 = .int .i64 0) (fun _ _ => 0)
  case atStart => exact ⟨rfl, rfl⟩
  case round =>
    obtain ⟨rfl, rfl⟩ := hrel
    go_wp2
    go_ret3
    exact ⟨0, 0, false, rfl, rfl, by omega, by omega, (fun h => by cases h), fun _ k hk => by have := hk.1; omega⟩
theorem number_zero (w : World) (a : Option Addr) (cp : Nat) (c : Nat → Nat) : Calls Try.prog 30 #[.slice a 0 cp] w (NumP c 0 w) := by
  go_enter Try.func30, Try.ntmps30
  go_wp2
  go_loop [5, 10] (fun s5 s10 => s5 = .int .u64 0 ∧ s10 = .int .i64 0) (fun _ _ => 0)
  case atStart => exact ⟨rfl, rfl⟩
  case round =>
    obtain ⟨rfl, rfl⟩ := hrel
    go_wp2
    go_ret3
    exact ⟨0, 0, false, rfl, rfl, by omega, by omega, (fun h => by cases h), fun _ k hk => by have := hk.1; omega⟩
end Go.Proofs.Yteblaknbehfkgaa
