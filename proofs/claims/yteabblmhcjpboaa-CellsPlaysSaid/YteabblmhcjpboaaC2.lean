/- Numbers of eight bytes; the place of a head. -/
import Derived.Test.YteabblmhcjpboaaC1
import Derived.Laws.BitsAllLaws
namespace Go.Proofs.Yteabblmhcjpboaa.D
open Go Go.RowKit
set_option maxRecDepth 100000
/-- the number of bytes, the greatest first. -/
def numA (xs : List Int) : Nat := xs.foldl (fun x c => x * 256 + c.toNat) 0
theorem numA_next (xs : List Int) (k : Nat) (h : k < xs.length) : numA (xs.take (k + 1)) = numA (xs.take k) * 256 + (xs.getD k 0).toNat := by
  rw [List.take_add_one, List.getElem?_eq_getElem h]
  unfold numA
  rw [List.foldl_append]
  simp [List.getD, List.getElem?_eq_getElem h]
theorem numA_lt : ∀ (k : Nat) (xs : List Int), (∀ x ∈ xs, 0 ≤ x ∧ x ≤ 255) → numA (xs.take k) < 256 ^ k
  | 0, xs, _ => by simp [numA]
  | k + 1, xs, h => by
    have q := numA_lt k xs h
    have e : 256 ^ (k + 1) = 256 ^ k * 256 := Nat.pow_succ ..
    rcases Nat.lt_or_ge k xs.length with hk | hk
    · rw [numA_next xs k hk]
      have b := getD_byte h k
      omega
    · rw [List.take_of_length_le (by omega), ← List.take_of_length_le (i := k) hk]
      omega
theorem num_step {w : World} {a : Option Addr} {n k m y : Nat} {xs : List Int} (h : Row w a n xs) (hy : xs.getD k 0 = (y : Int)) (hk : k < n) (hn : n ≤ 8) (hm : m = numA (xs.take k)) : m * 256 + y = numA (xs.take (k + 1)) ∧ m * 256 + y < 18446744073709551616 ∧ y < 256 ∧ m < 72057594037927936 := by
  have e := numA_next xs k (by rw [h.1]; exact hk)
  have b := getD_byte h.2.2.1 k
  have l := numA_lt k xs h.2.2.1
  have p : 256 ^ k ≤ 256 ^ 7 := Nat.pow_le_pow_right (by omega) (by omega)
  have p7 : (256 : Nat) ^ 7 = 72057594037927936 := by decide
  rw [e, hy, hm]
  have t : ((y : Int)).toNat = y := by omega
  rw [t]
  omega
theorem or8 (m y : Nat) (hm : m < 72057594037927936) (hy : y < 256) : bits .or .u64 ((m * 256 : Nat) : Int) ((y : Nat) : Int) = ((m * 256 + y : Nat) : Int) := by
  rw [u64_or_nat _ _ (by omega) (by omega)]
  have e := Nat.two_pow_add_eq_or_of_lt (i := 8) (b := y) (by omega) m
  rw [Nat.mul_comm m 256, show (256 : Nat) = 2 ^ 8 from rfl, e]
theorem run_shl8 (a : Act) (o : Oper) (w : World) (x : Operand) (p : Nat) (ho : o.op = .binOp .shl 35 x (.const (.int .u64 8)) 91) (hx : a.eval x = .int .u64 ((p : Nat) : Int)) (hp : p < 72057594037927936) : (execOp a.eval o).run Try.prog w = .ok (.value (.int .u64 ((p * 256 : Nat) : Int))) w := by
  have b0 : (0 : Int) ≤ (p : Int) := by omega
  have hc : a.eval (.const (.int .u64 8)) = .int .u64 8 := rfl
  have u := run_underlying Try.underlying35 w
  unfold execOp
  simp only [ho, hx, hc]
  go_simp
  first | done | (rw [IntKind.wrap_u64]; omega)
theorem run_shr8 (a : Act) (o : Oper) (w : World) (x y : Operand) (k b : Nat) (ho : o.op = .binOp .shr 35 x y 3) (hx : a.eval x = .int .u64 (b : Int)) (hy : a.eval y = .int .i64 ((8 * k : Nat) : Int)) (hk : k < 8) (hb : b < 18446744073709551616) : (execOp a.eval o).run Try.prog w = .ok (.value (.int .u64 ((b / 2 ^ (8 * k) : Nat) : Int))) w := by
  have b0 : (0 : Int) ≤ (b : Int) := by omega
  have b1 : (b : Int) < 18446744073709551616 := by omega
  unfold execOp
  simp only [ho, hx, hy]
  rcases (show k = 0 ∨ k = 1 ∨ k = 2 ∨ k = 3 ∨ k = 4 ∨ k = 5 ∨ k = 6 ∨ k = 7 by omega) with rfl | rfl | rfl | rfl | rfl | rfl | rfl | rfl
  all_goals go_simp
  all_goals (first | done | (rw [IntKind.wrap_u64]; omega) | omega)
theorem run_rem2 (a : Act) (o : Oper) (w : World) (x : Operand) (p : Nat) (ho : o.op = .binOp .rem 35 x (.const (.int .u64 2)) 35) (hx : a.eval x = .int .u64 (p : Int)) (hp : p < 18446744073709551616) : (execOp a.eval o).run Try.prog w = .ok (.value (.int .u64 ((p % 2 : Nat) : Int))) w := by
  have hc : a.eval (.const (.int .u64 2)) = .int .u64 2 := rfl
  have b0 : (0 : Int) ≤ (p : Int) := by omega
  have b1 : (p : Int) < 18446744073709551616 := by omega
  have u := run_underlying Try.underlying35 w
  unfold execOp
  simp only [ho, hx, hc]
  go_simp
  rw [Int.tmod_eq_emod_of_nonneg b0]
  first | done | (rw [IntKind.wrap_u64]; omega) | omega
/-- a number's eight bytes, of which i are there. -/
def beU (x i : Nat) : List Int := (List.range 8).map fun j => if j < i then ((x / 2 ^ (8 * (7 - j)) % 256 : Nat) : Int) else 0
def be (x : Nat) : List Int := beU x 8
theorem be_len (x : Nat) : (be x).length = 8 := by simp [be, beU]
theorem be_byte (x : Nat) : ∀ y ∈ be x, 0 ≤ y ∧ y ≤ 255 := by
  intro y hy
  obtain ⟨j, _, rfl⟩ := List.mem_map.1 hy
  split <;> omega
theorem beU_some {w : World} {g x i : Nat} (h : Blk w g 5 (u8l (beU x i)).toArray) (hi : i < 8) : (w.cell? ⟨g, 0 + i, none⟩).isSome = true := by
  rw [h.cell, Nat.zero_add, List.getElem?_toArray, u8l, List.getElem?_map, beU, List.getElem?_map, List.getElem?_range hi]; rfl
theorem beU_put {w : World} {g x i : Nat} (h : Blk w g 5 (u8l (beU x i)).toArray) (hi : i < 8) : Blk (w.setCell ⟨g, 0 + i, none⟩ (.int .u8 ((x / 2 ^ (8 * (7 - i)) % 256 : Nat) : Int))) g 5 (u8l (beU x (i + 1))).toArray := by
  have q := h.set (0 + i) (.int .u8 ((x / 2 ^ (8 * (7 - i)) % 256 : Nat) : Int))
  have e : (u8l (beU x i)).set (0 + i) (.int .u8 ((x / 2 ^ (8 * (7 - i)) % 256 : Nat) : Int)) = u8l (beU x (i + 1)) := by
    unfold u8l
    rw [← List.map_set]
    congr 1
    apply List.ext_getElem?
    intro j
    rw [List.getElem?_set]
    simp only [beU, List.getElem?_map, List.length_map, List.length_range, Nat.zero_add]
    by_cases hj : j < 8
    · rw [List.getElem?_range hj]
      by_cases q : i = j
      · subst q; simp [hi]
      · rw [if_neg q]
        by_cases q2 : j < i
        · simp [q2, show j < i + 1 by omega]
        · simp [q2, show ¬ j < i + 1 by omega]
    · rw [List.getElem?_eq_none (by simp; omega)]
      rw [if_neg (by omega)]
      rfl
  rw [← e]; simpa using q
attribute [local irreducible] wpList
set_option maxHeartbeats 2000000
theorem number_any (w : World) (a : Option Addr) (n cx : Nat) (xs : List Int) (h : Row w a n xs) (hn : n ≤ 8) : Calls Try.prog 44 #[.slice a n cx] w fun e w' => e = .returned (.int .u64 ((numA xs : Nat) : Int)) ∧ w = w' := by
  have HR := Lib.hid h
  have HN := Lib.hid hn
  clear h hn
  go_enter Try.func44, Try.ntmps44
  go_wp2_with fail
  go_loopw [3, 8] (fun s3 s8 wr => ∃ k m : Nat, (s3 = .int .u64 ((m : Nat) : Int) ∧ s8 = .int .i64 ((k : Nat) : Int)) ∧ Hid (k ≤ n ∧ m = numA (xs.take k) ∧ w = wr)) (fun _ s8 _ => 8 - (intOf s8).toNat)
  case atStart => exact ⟨0, 0, ⟨rfl, rfl⟩, Lib.hid ⟨by omega, rfl, rfl⟩⟩
  case round =>
    obtain ⟨k, m, ⟨rfl, rfl⟩, RI⟩ := hrel
    obtain ⟨k1, k2, rfl⟩ := RI.out
    replace RI := Lib.hid (And.intro k1 k2)
    clear k1 k2
    by_cases hlt : k < n
    · have HK := Lib.hid hlt
      clear hlt
      obtain ⟨gb, ob, rfl, _⟩ := HR.out.2.2.2 k HK.out
      have KC : Hid (w.cell? ⟨gb, ob + k, none⟩ = some (.int .u8 (xs.getD k 0))) := Lib.hid (by
        obtain ⟨g', o', e, hc⟩ := HR.out.2.2.2 k HK.out
        simp only [Option.some.injEq, Addr.mk.injEq, and_true] at e
        obtain ⟨rfl, rfl⟩ := e
        exact hc)
      obtain ⟨y, hy⟩ : ∃ y : Nat, xs.getD k 0 = (y : Int) := ⟨(xs.getD k 0).toNat, by have := getD_byte HR.out.2.2.1 k; omega⟩
      rw [hy] at KC
      have HM : Hid (m * 256 + y = numA (xs.take (k + 1)) ∧ m * 256 + y < 18446744073709551616 ∧ y < 256 ∧ m < 72057594037927936) := Lib.hid (num_step HR.out hy HK.out HN.out RI.out.2)
      go_upto_region 3 with (fail)
      refine wp_region_lit ?_
      refine wpL_pure (.bool true) rfl (run_lti Try.underlying3 rfl rfl rfl (by have := HK.out; rw [decide_eq_true_eq]; omega)) ?_
      simp only [Act.put, List.setIfInBounds_toArray, List.set_cons_zero, List.set_cons_succ]
      go_upto_region 4 with (fail)
      refine wp_region_lit ?_
      refine wpL_pure (.pointer (some ⟨gb, ob + k, none⟩)) rfl (run_idx _ _ _ _ _ gb ob n cx k rfl rfl rfl HK.out (by have := HN.out; unfold maxLen; omega)) ?_
      simp only [Act.put, List.setIfInBounds_toArray, List.set_cons_zero, List.set_cons_succ]
      refine wpL_pure (.int .u8 ((y : Nat) : Int)) rfl (run_load_one _ _ _ 5 _ _ rfl gb (ob + k) rfl KC.out (by kernel_rfl)) ?_
      simp only [Act.put, List.setIfInBounds_toArray, List.set_cons_zero, List.set_cons_succ]
      refine wpL_pure (.int .u8 ((y : Nat) : Int)) rfl (by kernel_rfl) ?_
      simp only [Act.put, List.setIfInBounds_toArray, List.set_cons_zero, List.set_cons_succ]
      go_upto_region 5 with (fail)
      refine wp_region_lit ?_
      refine wpL_pure (.int .u64 ((m : Nat) : Int)) rfl (by kernel_rfl) ?_
      simp only [Act.put, List.setIfInBounds_toArray, List.set_cons_zero, List.set_cons_succ]
      refine wpL_pure (.int .u64 ((m * 256 : Nat) : Int)) rfl (run_shl8 _ _ _ _ _ rfl rfl HM.out.2.2.2) ?_
      simp only [Act.put, List.setIfInBounds_toArray, List.set_cons_zero, List.set_cons_succ]
      refine wpL_pure (.int .u8 ((y : Nat) : Int)) rfl (by kernel_rfl) ?_
      simp only [Act.put, List.setIfInBounds_toArray, List.set_cons_zero, List.set_cons_succ]
      refine wpL_pure (.int .u64 ((y : Nat) : Int)) rfl (run_convi Try.underlying5 Try.underlying35 rfl rfl _ (by have := HM.out.2.2.1; rw [IntKind.wrap_u64]; omega)) ?_
      simp only [Act.put, List.setIfInBounds_toArray, List.set_cons_zero, List.set_cons_succ]
      refine wpL_pure (.int .u64 ((m * 256 + y : Nat) : Int)) rfl (run_biti (.inl rfl) Try.underlying35 rfl rfl rfl _ (or8 _ _ HM.out.2.2.2 HM.out.2.2.1)) ?_
      simp only [Act.put, List.setIfInBounds_toArray, List.set_cons_zero, List.set_cons_succ]
      refine wpL_pure (.int .u64 ((m * 256 + y : Nat) : Int)) rfl (by kernel_rfl) ?_
      simp only [Act.put, List.setIfInBounds_toArray, List.set_cons_zero, List.set_cons_succ]
      go_upto_region 6 with (fail)
      refine wp_region_lit ?_
      refine wpL_pure (.int .i64 ((k + 1 : Nat) : Int)) rfl (run_addi Try.underlying3 rfl rfl rfl _ (by have := HK.out; have := HN.out; rw [wrap_in _ (by omega) (by omega)]; omega)) ?_
      simp only [Act.put, List.setIfInBounds_toArray, List.set_cons_zero, List.set_cons_succ]
      refine wpL_pure (.int .i64 ((k + 1 : Nat) : Int)) rfl (by kernel_rfl) ?_
      simp only [Act.put, List.setIfInBounds_toArray, List.set_cons_zero, List.set_cons_succ]
      have NX : Hid (k + 1 ≤ n ∧ m * 256 + y = numA (xs.take (k + 1)) ∧ w = w) := Lib.hid ⟨HK.out, HM.out.1, rfl⟩
      unfold wpList
      go_roundw
      case rel => first | exact ⟨_, _, ⟨rfl, rfl⟩, NX⟩ | ((repeat apply Exists.intro); exact ⟨⟨_, _, ⟨rfl, rfl⟩, NX⟩, rfl⟩)
      case measure => simp [intOf]; have := HK.out; have := HN.out; omega
    · have EK : Hid (k = n) := Lib.hid (by have := RI.out.1; omega)
      clear hlt
      go_upto_region 3 with (fail)
      refine wp_region_lit ?_
      refine wpL_pure (.bool false) rfl (run_lti Try.underlying3 rfl rfl rfl (by have := EK.out; rw [decide_eq_false_iff_not]; omega)) ?_
      simp only [Act.put, List.setIfInBounds_toArray, List.set_cons_zero, List.set_cons_succ]
      go_upto_region 7 with (fail)
      refine wp_region_lit ?_
      refine wpL_pure (.int .u64 ((m : Nat) : Int)) rfl (by kernel_rfl) ?_
      simp only [Act.put, List.setIfInBounds_toArray, List.set_cons_zero, List.set_cons_succ]
      refine wpL_pure (.int .u64 ((m : Nat) : Int)) rfl (by kernel_rfl) ?_
      simp only [Act.put, List.setIfInBounds_toArray, List.set_cons_zero, List.set_cons_succ]
      go_wp2_with fail
      go_ret
      exact ⟨by rw [RI.out.2, EK.out, List.take_of_length_le (by rw [HR.out.1]; exact Nat.le_refl _)]; rfl, rfl⟩
theorem refnumber_any (w : World) (a : Option Addr) (n cx : Nat) (xs : List Int) (h : Row w a n xs) (hn : n = 8) : Calls Try.prog 51 #[.slice a n cx] w fun e w' => e = .returned (.int .u64 ((numA xs : Nat) : Int)) ∧ w = w' := by
  have HR := Lib.hid h
  have HN := Lib.hid hn
  clear h hn
  go_enter Try.func51, Try.ntmps51
  go_wp2_with fail
  go_loopw [3, 4] (fun s3 s8 wr => ∃ k m : Nat, (s3 = .int .u64 ((m : Nat) : Int) ∧ s8 = .int .i64 ((k : Nat) : Int)) ∧ Hid (k ≤ n ∧ m = numA (xs.take k) ∧ w = wr)) (fun _ s8 _ => 8 - (intOf s8).toNat)
  case atStart => exact ⟨0, 0, ⟨rfl, rfl⟩, Lib.hid ⟨by omega, rfl, rfl⟩⟩
  case round =>
    obtain ⟨k, m, ⟨rfl, rfl⟩, RI⟩ := hrel
    obtain ⟨k1, k2, rfl⟩ := RI.out
    replace RI := Lib.hid (And.intro k1 k2)
    clear k1 k2
    by_cases hlt : k < n
    · have HK := Lib.hid hlt
      clear hlt
      obtain ⟨gb, ob, rfl, _⟩ := HR.out.2.2.2 k HK.out
      have KC : Hid (w.cell? ⟨gb, ob + k, none⟩ = some (.int .u8 (xs.getD k 0))) := Lib.hid (by
        obtain ⟨g', o', e, hc⟩ := HR.out.2.2.2 k HK.out
        simp only [Option.some.injEq, Addr.mk.injEq, and_true] at e
        obtain ⟨rfl, rfl⟩ := e
        exact hc)
      obtain ⟨y, hy⟩ : ∃ y : Nat, xs.getD k 0 = (y : Int) := ⟨(xs.getD k 0).toNat, by have := getD_byte HR.out.2.2.1 k; omega⟩
      rw [hy] at KC
      have HM : Hid (m * 256 + y = numA (xs.take (k + 1)) ∧ m * 256 + y < 18446744073709551616 ∧ y < 256 ∧ m < 72057594037927936) := Lib.hid (num_step HR.out hy HK.out (Nat.le_of_eq HN.out) RI.out.2)
      go_upto_region 3 with (fail)
      refine wp_region_lit ?_
      refine wpL_pure (.int .i64 ((k : Nat) : Int)) rfl (by kernel_rfl) ?_
      simp only [Act.put, List.setIfInBounds_toArray, List.set_cons_zero, List.set_cons_succ]
      refine wpL_pure (.bool true) rfl (run_lti Try.underlying3 rfl rfl rfl (by have := HK.out; have := HN.out; rw [decide_eq_true_eq]; omega)) ?_
      simp only [Act.put, List.setIfInBounds_toArray, List.set_cons_zero, List.set_cons_succ]
      go_upto_region 5 with (fail)
      refine wp_region_lit ?_
      refine wpL_pure (.int .u64 ((m : Nat) : Int)) rfl (by kernel_rfl) ?_
      simp only [Act.put, List.setIfInBounds_toArray, List.set_cons_zero, List.set_cons_succ]
      refine wpL_pure (.int .u64 ((m * 256 : Nat) : Int)) rfl (run_muli Try.underlying35 rfl rfl rfl _ (by have := HM.out.2.2.2; rw [IntKind.wrap_u64]; omega)) ?_
      simp only [Act.put, List.setIfInBounds_toArray, List.set_cons_zero, List.set_cons_succ]
      refine wpL_pure (.slice (some ⟨gb, ob, none⟩) n cx) rfl (by kernel_rfl) ?_
      simp only [Act.put, List.setIfInBounds_toArray, List.set_cons_zero, List.set_cons_succ]
      refine wpL_pure (.int .i64 ((k : Nat) : Int)) rfl (by kernel_rfl) ?_
      simp only [Act.put, List.setIfInBounds_toArray, List.set_cons_zero, List.set_cons_succ]
      refine wpL_pure (.pointer (some ⟨gb, ob + k, none⟩)) rfl (run_idx _ _ _ _ _ gb ob n cx k rfl rfl rfl HK.out (by have := HN.out; unfold maxLen; omega)) ?_
      simp only [Act.put, List.setIfInBounds_toArray, List.set_cons_zero, List.set_cons_succ]
      refine wpL_pure (.int .u8 ((y : Nat) : Int)) rfl (run_load_one _ _ _ 5 _ _ rfl gb (ob + k) rfl KC.out (by kernel_rfl)) ?_
      simp only [Act.put, List.setIfInBounds_toArray, List.set_cons_zero, List.set_cons_succ]
      refine wpL_pure (.int .u64 ((y : Nat) : Int)) rfl (run_convi Try.underlying5 Try.underlying35 rfl rfl _ (by have := HM.out.2.2.1; rw [IntKind.wrap_u64]; omega)) ?_
      simp only [Act.put, List.setIfInBounds_toArray, List.set_cons_zero, List.set_cons_succ]
      refine wpL_pure (.int .u64 ((m * 256 + y : Nat) : Int)) rfl (run_addi Try.underlying35 rfl rfl rfl _ (by have := HM.out.2.1; rw [IntKind.wrap_u64]; omega)) ?_
      simp only [Act.put, List.setIfInBounds_toArray, List.set_cons_zero, List.set_cons_succ]
      refine wpL_pure (.int .u64 ((m * 256 + y : Nat) : Int)) rfl (by kernel_rfl) ?_
      simp only [Act.put, List.setIfInBounds_toArray, List.set_cons_zero, List.set_cons_succ]
      go_upto_region 4 with (fail)
      refine wp_region_lit ?_
      refine wpL_pure (.int .i64 ((k : Nat) : Int)) rfl (by kernel_rfl) ?_
      simp only [Act.put, List.setIfInBounds_toArray, List.set_cons_zero, List.set_cons_succ]
      refine wpL_pure (.int .i64 ((k + 1 : Nat) : Int)) rfl (run_addi Try.underlying3 rfl rfl rfl _ (by have := HK.out; have := HN.out; rw [wrap_in _ (by omega) (by omega)]; omega)) ?_
      simp only [Act.put, List.setIfInBounds_toArray, List.set_cons_zero, List.set_cons_succ]
      refine wpL_pure (.int .i64 ((k + 1 : Nat) : Int)) rfl (by kernel_rfl) ?_
      simp only [Act.put, List.setIfInBounds_toArray, List.set_cons_zero, List.set_cons_succ]
      have NX : Hid (k + 1 ≤ n ∧ m * 256 + y = numA (xs.take (k + 1)) ∧ w = w) := Lib.hid ⟨HK.out, HM.out.1, rfl⟩
      unfold wpList
      go_roundw
      case rel => first | exact ⟨_, _, ⟨rfl, rfl⟩, NX⟩ | ((repeat apply Exists.intro); exact ⟨⟨_, _, ⟨rfl, rfl⟩, NX⟩, rfl⟩)
      case measure => simp [intOf]; have := HK.out; have := HN.out; omega
    · have EK : Hid (k = n) := Lib.hid (by have := RI.out.1; omega)
      clear hlt
      go_upto_region 3 with (fail)
      refine wp_region_lit ?_
      refine wpL_pure (.int .i64 ((k : Nat) : Int)) rfl (by kernel_rfl) ?_
      simp only [Act.put, List.setIfInBounds_toArray, List.set_cons_zero, List.set_cons_succ]
      refine wpL_pure (.bool false) rfl (run_lti Try.underlying3 rfl rfl rfl (by have := EK.out; have := HN.out; rw [decide_eq_false_iff_not]; omega)) ?_
      simp only [Act.put, List.setIfInBounds_toArray, List.set_cons_zero, List.set_cons_succ]
      go_upto_region 6 with (fail)
      refine wp_region_lit ?_
      refine wpL_pure (.int .u64 ((m : Nat) : Int)) rfl (by kernel_rfl) ?_
      simp only [Act.put, List.setIfInBounds_toArray, List.set_cons_zero, List.set_cons_succ]
      refine wpL_pure (.int .u64 ((m : Nat) : Int)) rfl (by kernel_rfl) ?_
      simp only [Act.put, List.setIfInBounds_toArray, List.set_cons_zero, List.set_cons_succ]
      go_wp2_with fail
      go_ret
      exact ⟨by rw [RI.out.2, EK.out, List.take_of_length_le (by rw [HR.out.1]; exact Nat.le_refl _)]; rfl, rfl⟩
theorem eight_any (w : World) (x : Nat) (hx : U64 x) : Calls Try.prog 58 #[.int .u64 ((x : Nat) : Int)] w fun e w' => ∃ g, e = .returned (.slice (some ⟨g, 0, none⟩) 8 8) ∧ Below w.heap.size w w' ∧ w.heap.size ≤ g ∧ Blk w' g 5 (u8l (be x)).toArray := by
  have HX := Lib.hid hx
  clear hx
  go_enter Try.func58, Try.ntmps58
  go_upto_region 1 with (fail)
  refine wp_region_lit ?_
  obtain ⟨W1, hW1⟩ : ∃ V, V = w.alloc (.cells (u8l (List.replicate 8 0)).toArray 5) := ⟨_, rfl⟩
  refine wpL_value (.slice (some ⟨w.heap.size, 0, none⟩) 8 8) W1 rfl (by rw [hW1]; kernel_rfl) ?_
  simp only [Act.put, List.setIfInBounds_toArray, List.set_cons_zero, List.set_cons_succ]
  have F1 : Hid (Below w.heap.size w W1 ∧ Blk W1 w.heap.size 5 (u8l (beU x 0)).toArray) := Lib.hid (by rw [hW1]; exact ⟨(Below.refl _ _).alloc (Nat.le_refl _) _, Blk.new _ _ _⟩)
  clear hW1
  obtain ⟨g, hg⟩ : ∃ q, w.heap.size = q := ⟨_, rfl⟩
  have G : Hid (w.heap.size = g) := Lib.hid hg
  rw [hg] at F1
  rw [hg]
  clear hg
  refine wpL_pure (.slice (some ⟨g, 0, none⟩) 8 8) rfl (by kernel_rfl) ?_
  simp only [Act.put, List.setIfInBounds_toArray, List.set_cons_zero, List.set_cons_succ]
  go_upto_region 2 with (fail)
  refine wp_region_lit ?_
  refine wpL_pure (.slice (some ⟨g, 0, none⟩) 8 8) rfl (by kernel_rfl) ?_
  simp only [Act.put, List.setIfInBounds_toArray, List.set_cons_zero, List.set_cons_succ]
  refine wpL_pure (.int .i64 (8 : Int)) rfl (by kernel_rfl) ?_
  simp only [Act.put, List.setIfInBounds_toArray, List.set_cons_zero, List.set_cons_succ]
  refine wpL_pure (.int .i64 0) rfl (by kernel_rfl) ?_
  simp only [Act.put, List.setIfInBounds_toArray, List.set_cons_zero, List.set_cons_succ]
  unfold wpList
  go_wp2_with fail
  go_loopw [4, 8] (fun s4 s8 wr => ∃ i : Nat, s8 = .int .i64 ((i : Nat) : Int) ∧ Hid (i ≤ 8 ∧ Below g w wr ∧ Blk wr g 5 (u8l (beU x i)).toArray)) (fun _ s8 _ => 8 - (intOf s8).toNat)
  case atStart => exact ⟨0, rfl, Lib.hid ⟨by omega, F1.out⟩⟩
  case round =>
    obtain ⟨i, rfl, RI⟩ := hrel
    by_cases hlt : i < 8
    · have HK := Lib.hid hlt
      clear hlt
      go_upto_region 3 with (fail)
      refine wp_region_lit ?_
      refine wpL_pure (.bool true) rfl (run_lti Try.underlying3 rfl rfl rfl (by have := HK.out; rw [decide_eq_true_eq]; omega)) ?_
      simp only [Act.put, List.setIfInBounds_toArray, List.set_cons_zero, List.set_cons_succ]
      go_upto_region 4 with (fail)
      refine wp_region_lit ?_
      refine wpL_pure (.int .i64 ((i : Nat) : Int)) rfl (by kernel_rfl) ?_
      simp only [Act.put, List.setIfInBounds_toArray, List.set_cons_zero, List.set_cons_succ]
      refine wpL_pure (.int .i64 ((i : Nat) : Int)) rfl (by kernel_rfl) ?_
      simp only [Act.put, List.setIfInBounds_toArray, List.set_cons_zero, List.set_cons_succ]
      go_upto_region 5 with (fail)
      refine wp_region_lit ?_
      refine wpL_pure (.slice (some ⟨g, 0, none⟩) 8 8) rfl (by kernel_rfl) ?_
      simp only [Act.put, List.setIfInBounds_toArray, List.set_cons_zero, List.set_cons_succ]
      refine wpL_pure (.int .i64 ((i : Nat) : Int)) rfl (by kernel_rfl) ?_
      simp only [Act.put, List.setIfInBounds_toArray, List.set_cons_zero, List.set_cons_succ]
      refine wpL_pure (.int .u64 ((x : Nat) : Int)) rfl (by kernel_rfl) ?_
      simp only [Act.put, List.setIfInBounds_toArray, List.set_cons_zero, List.set_cons_succ]
      refine wpL_pure (.int .i64 ((i : Nat) : Int)) rfl (by kernel_rfl) ?_
      simp only [Act.put, List.setIfInBounds_toArray, List.set_cons_zero, List.set_cons_succ]
      refine wpL_pure (.int .i64 ((8 * i : Nat) : Int)) rfl (run_muli Try.underlying3 rfl rfl rfl _ ((by have := HK.out; rw [wrap_in _ (by omega) (by omega)]; omega))) ?_
      simp only [Act.put, List.setIfInBounds_toArray, List.set_cons_zero, List.set_cons_succ]
      refine wpL_pure (.int .i64 ((8 * (7 - i) : Nat) : Int)) rfl (run_subi Try.underlying3 rfl rfl rfl _ ((by have := HK.out; rw [wrap_in _ (by omega) (by omega)]; omega))) ?_
      simp only [Act.put, List.setIfInBounds_toArray, List.set_cons_zero, List.set_cons_succ]
      refine wpL_pure (.int .u64 ((x / 2 ^ (8 * (7 - i)) : Nat) : Int)) rfl (run_shr8 _ _ _ _ _ (7 - i) x rfl rfl rfl (by have := HK.out; omega) HX.out) ?_
      simp only [Act.put, List.setIfInBounds_toArray, List.set_cons_zero, List.set_cons_succ]
      refine wpL_pure (.int .u8 ((x / 2 ^ (8 * (7 - i)) % 256 : Nat) : Int)) rfl (run_convi Try.underlying35 Try.underlying5 rfl rfl _ (by rw [IntKind.wrap_u8]; rfl)) ?_
      simp only [Act.put, List.setIfInBounds_toArray, List.set_cons_zero, List.set_cons_succ]
      refine wpL_pure (.pointer (some ⟨g, 0 + i, none⟩)) rfl (run_idx _ _ _ _ _ g 0 8 8 i rfl rfl rfl HK.out (by unfold maxLen; omega)) ?_
      simp only [Act.put, List.setIfInBounds_toArray, List.set_cons_zero, List.set_cons_succ]
      refine wpL_store_one rfl rfl (g) (0 + i) rfl (.int .u8 ((x / 2 ^ (8 * (7 - i)) % 256 : Nat) : Int)) rfl rfl size5 ((beU_some RI.out.2.2 HK.out)) (RI.out.2.2.free _) ?_
      simp only [Act.put, List.setIfInBounds_toArray, List.set_cons_zero, List.set_cons_succ]
      obtain ⟨w2, hw2⟩ : ∃ V, V = wr.setCell ⟨g, 0 + i, none⟩ (.int .u8 ((x / 2 ^ (8 * (7 - i)) % 256 : Nat) : Int)) := ⟨_, rfl⟩
      rw [← hw2]
      have NX : Hid (i + 1 ≤ 8 ∧ Below g w w2 ∧ Blk w2 g 5 (u8l (beU x (i + 1))).toArray) := Lib.hid (by
        refine ⟨HK.out, ?_, ?_⟩
        · rw [hw2]; exact RI.out.2.1.setCell (p := ⟨g, 0 + i, none⟩) (Nat.le_refl _) _
        · rw [hw2]; exact beU_put RI.out.2.2 HK.out)
      clear hw2
      go_upto_region 6 with (fail)
      refine wp_region_lit ?_
      refine wpL_pure (.int .i64 ((i + 1 : Nat) : Int)) rfl (run_addi Try.underlying3 rfl rfl rfl _ ((by have := HK.out; rw [wrap_in _ (by omega) (by omega)]; omega))) ?_
      simp only [Act.put, List.setIfInBounds_toArray, List.set_cons_zero, List.set_cons_succ]
      refine wpL_pure (.int .i64 ((i + 1 : Nat) : Int)) rfl (by kernel_rfl) ?_
      simp only [Act.put, List.setIfInBounds_toArray, List.set_cons_zero, List.set_cons_succ]
      unfold wpList
      go_roundw
      case rel => first | exact ⟨_, rfl, NX⟩ | ((repeat apply Exists.intro); exact ⟨⟨_, rfl, NX⟩, rfl⟩)
      case measure => simp [intOf]; have := HK.out; omega
    · have EK : Hid (i = 8) := Lib.hid (by have := RI.out.1; omega)
      clear hlt
      have F2 : Hid (Below g w wr ∧ Blk wr g 5 (u8l (be x)).toArray) := Lib.hid (by have h := RI.out.2; rw [EK.out] at h; exact h)
      go_upto_region 3 with (fail)
      refine wp_region_lit ?_
      refine wpL_pure (.bool false) rfl (run_lti Try.underlying3 rfl rfl rfl (by have := EK.out; rw [decide_eq_false_iff_not]; omega)) ?_
      simp only [Act.put, List.setIfInBounds_toArray, List.set_cons_zero, List.set_cons_succ]
      go_upto_region 7 with (fail)
      refine wp_region_lit ?_
      refine wpL_pure (.slice (some ⟨g, 0, none⟩) 8 8) rfl (by kernel_rfl) ?_
      simp only [Act.put, List.setIfInBounds_toArray, List.set_cons_zero, List.set_cons_succ]
      refine wpL_pure (.slice (some ⟨g, 0, none⟩) 8 8) rfl (by kernel_rfl) ?_
      simp only [Act.put, List.setIfInBounds_toArray, List.set_cons_zero, List.set_cons_succ]
      go_wp2_with fail
      go_ret
      exact ⟨g, rfl, by rw [G.out]; exact F2.out.1, Nat.le_of_eq G.out, F2.out.2⟩
theorem place_any (w : World) (s c : Nat) (nt : List Int) (hs : U64 s) : Calls Try.prog 45 #[.agg (hdV s c nt).toArray] w fun e w' => e = .returned (.int .i64 ((s % 2 : Nat) : Int)) ∧ Below w.heap.size w w' := by
  have HS := Lib.hid hs
  clear hs
  go_enter Try.func45, Try.ntmps45
  go_upto_region 0 with (fail)
  refine wp_region_lit ?_
  obtain ⟨W1, hW1⟩ : ∃ V, V = w.alloc (.cells (hdV s c nt).toArray 64) := ⟨_, rfl⟩
  refine wpL_value (.pointer (some ⟨w.heap.size, 0, none⟩)) W1 rfl (by rw [hW1]; kernel_rfl) ?_
  simp only [Act.put, List.setIfInBounds_toArray, List.set_cons_zero, List.set_cons_succ]
  have F1 : Hid (Below w.heap.size w W1 ∧ W1.cell? ⟨w.heap.size, 0, none⟩ = some (.int .u64 ((s : Nat) : Int))) := Lib.hid (by rw [hW1]; exact ⟨(Below.refl _ _).alloc (Nat.le_refl _) _, by rw [(Blk.new w 64 _).cell]; rfl⟩)
  clear hW1
  refine wpL_pure (.int .i64 0) rfl (by kernel_rfl) ?_
  simp only [Act.put, List.setIfInBounds_toArray, List.set_cons_zero, List.set_cons_succ]
  go_upto_region 1 with (fail)
  refine wp_region_lit ?_
  refine wpL_pure (.pointer (some ⟨w.heap.size, 0, none⟩)) rfl (by kernel_rfl) ?_
  simp only [Act.put, List.setIfInBounds_toArray, List.set_cons_zero, List.set_cons_succ]
  refine wpL_pure (.int .u64 ((s : Nat) : Int)) rfl (run_load_one _ _ _ 35 _ _ rfl (w.heap.size) (0) rfl (F1.out.2) (by kernel_rfl)) ?_
  simp only [Act.put, List.setIfInBounds_toArray, List.set_cons_zero, List.set_cons_succ]
  refine wpL_pure (.int .u64 ((s % 2 : Nat) : Int)) rfl (run_rem2 _ _ _ _ s rfl rfl HS.out) ?_
  simp only [Act.put, List.setIfInBounds_toArray, List.set_cons_zero, List.set_cons_succ]
  refine wpL_pure (.int .i64 ((s % 2 : Nat) : Int)) rfl (run_convi Try.underlying35 Try.underlying3 rfl rfl _ (by rw [wrap_in _ (by omega) (by omega)])) ?_
  simp only [Act.put, List.setIfInBounds_toArray, List.set_cons_zero, List.set_cons_succ]
  refine wpL_pure (.int .i64 ((s % 2 : Nat) : Int)) rfl (by kernel_rfl) ?_
  simp only [Act.put, List.setIfInBounds_toArray, List.set_cons_zero, List.set_cons_succ]
  go_wp2_with fail
  go_ret
  exact ⟨rfl, F1.out.1⟩
end Go.Proofs.Yteabblmhcjpboaa.D
