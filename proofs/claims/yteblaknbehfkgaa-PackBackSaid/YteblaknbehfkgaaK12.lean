import Derived.Test.YteblaknbehfkgaaK11
import Derived.Test.YteblaknbehfkgaaIdx
namespace Go.Proofs.Yteblaknbehfkgaa
open Go Go.RowKit

section
variable {Pg : Program} {ops : Array Oper}
theorem op_val {Q' : Exit → Act → World → Prop} {i : Nat} {o : Oper} {a : Act} {w : World} {K : Act → World → Prop} (v : Value) (ho : ops[i]? = some o) (hw : Region.wanted o (yielded ops a.tmps) = true) (hr : (execOp a.eval o).run Pg w = .ok (.value v) w) (hK : K (a.put o.dst v) w) : wpOp Pg ops Q' i K a w := by
  unfold wpOp
  simp only [ho, hw, if_true, Oper.wp, hr, Oper.upon]
  exact .inl hK
theorem op_call {Q' : Exit → Act → World → Prop} {i : Nat} {o : Oper} {a : Act} {w : World} {K : Act → World → Prop} (f : FuncId) (args : Array Value) (ho : ops[i]? = some o) (hw : Region.wanted o (yielded ops a.tmps) = true) (hr : (execOp a.eval o).run Pg w = .ok (.enter f args) w)
    (h : Calls Pg f args w fun e w' => ∃ v, e = .returned v ∧ K (a.put o.dst v) w') : wpOp Pg ops Q' i K a w := by
  unfold wpOp
  simp only [ho, hw, if_true, Oper.wp, hr, Oper.upon]
  refine .inl (Calls.mono h fun e w' ⟨v, he, hq⟩ => ?_)
  subst he
  exact hq
end
theorem run_quo128 (a : Act) (o : Oper) (w : World) (x : Operand) (y : Nat) (ho : o.op = .binOp .quo 33 x (.const (.int .u64 128)) 33) (hx : a.eval x = .int .u64 (y : Int)) (hy : y < 18446744073709551616) : (execOp a.eval o).run Try.prog w = .ok (.value (.int .u64 ((y / 128 : Nat) : Int))) w := by
  have hc : a.eval (.const (.int .u64 128)) = .int .u64 128 := rfl
  have u := run_underlying Try.underlying33 w
  unfold execOp
  simp only [ho, hx, hc]
  go_simp
  simp [Int.tdiv_eq_ediv_of_nonneg, IntKind.wrap, IntKind.bits, IntKind.signed]
  try omega
theorem run_rem128 (a : Act) (o : Oper) (w : World) (x : Operand) (y : Nat) (ho : o.op = .binOp .rem 33 x (.const (.int .u64 128)) 33) (hx : a.eval x = .int .u64 (y : Int)) (hy : y < 18446744073709551616) : (execOp a.eval o).run Try.prog w = .ok (.value (.int .u64 ((y % 128 : Nat) : Int))) w := by
  have hc : a.eval (.const (.int .u64 128)) = .int .u64 128 := rfl
  have u := run_underlying Try.underlying33 w
  unfold execOp
  simp only [ho, hx, hc]
  go_simp
  simp [Int.tmod_eq_emod_of_nonneg, IntKind.wrap, IntKind.bits, IntKind.signed]
  try omega
theorem run_rem128b (a : Act) (o : Oper) (w : World) (x : Operand) (y : Nat) (ho : o.op = .binOp .rem 5 x (.const (.int .u8 128)) 5) (hx : a.eval x = .int .u8 (y : Int)) (hy : y < 256) : (execOp a.eval o).run Try.prog w = .ok (.value (.int .u8 ((y % 128 : Nat) : Int))) w := by
  have hc : a.eval (.const (.int .u8 128)) = .int .u8 128 := rfl
  have u := run_underlying Try.underlying5 w
  unfold execOp
  simp only [ho, hx, hc]
  go_simp
  simp [Int.tmod_eq_emod_of_nonneg, IntKind.wrap, IntKind.bits, IntKind.signed]
  try omega
theorem enc_pos (x : Nat) : 0 < (enc x).length := by
  by_cases h : x < 128
  · rw [enc_lo _ h]; simp
  · rw [enc_hi _ h]; simp
set_option maxHeartbeats 1000000 in
theorem refnum_any (w : World) (x : Nat) (hx : x < 18446744073709551616) :
    Calls Try.prog 25 #[.int .u64 (x : Int)] w fun e w' => ∃ v, e = .returned v ∧ Own w' w.heap.size v (enc x) ∧ Below w.heap.size w w' := by
  have HX := Lib.hid hx
  clear hx
  go_enter Try.func25, Try.ntmps25
  go_wp2_with fail
  go_loopw [0, 3] (fun s0 s3 wr => ∃ (y : Nat) (pre : List Int), s0 = .int .u64 (y : Int) ∧ Hid (enc x = pre ++ enc y ∧ Own wr w.heap.size s3 pre ∧ Below w.heap.size w wr) ∧ Hid (y < 18446744073709551616)) (fun s0 _ _ => (intOf s0).toNat)
  case atStart => exact ⟨x, [], rfl, Lib.hid ⟨rfl, Own.nil _ _, Below.refl _ _⟩, HX⟩
  case round =>
    obtain ⟨y, pre, rfl, RI, HY⟩ := hrel
    have HE : Hid (pre.length + 1 ≤ 140737488355328) := Lib.hid (by
      have h1 := enc_10 x HX.out
      rw [RI.out.1, List.length_append] at h1
      have h2 := enc_pos y
      omega)
    by_cases hlt : y < 128
    · have HL := Lib.hid hlt
      clear hlt
      obtain ⟨v2, w2, r1, r2, r3, r4, r5⟩ := append_own (wr.alloc (.cells #[.int .u8 ((y % 256 : Nat) : Int)] 5)) w.heap.size u3 pre [((y % 256 : Nat) : Int)] (some ⟨wr.heap.size, 0, none⟩) 1 1 (RI.out.2.1.alloc _) (row_one wr _ (by omega) (by omega)) (by have := HE.out; omega) (Nat.le_trans RI.out.2.2.size (by simp))
      have BW : Below w.heap.size w w2 := (RI.out.2.2.alloc RI.out.2.2.size _).grown r3 (Nat.le_trans RI.out.2.2.size (by simp)) (fun k hk => (RI.out.2.1.lt k hk).1)
      have AP := Lib.hid (And.intro r1 (And.intro r2 BW))
      clear r1 r2 r3 r4 r5 BW
      go_upto_region 2 with (fail)
      refine wp_region_lit ?_
      refine wpL_pure (.int .u64 (y : Int)) rfl (by kernel_rfl) ?_
      simp only [Act.put, List.setIfInBounds_toArray, List.set_cons_zero, List.set_cons_succ]
      refine wpL_pure (.int .u64 ((y / 128 : Nat) : Int)) rfl (run_quo128 _ _ _ _ y rfl rfl HY.out) ?_
      simp only [Act.put, List.setIfInBounds_toArray, List.set_cons_zero, List.set_cons_succ]
      refine wpL_pure (.bool false) rfl (run_gti Try.underlying33 rfl rfl rfl (by have := HL.out; rw [decide_eq_false_iff_not]; omega)) ?_
      simp only [Act.put, List.setIfInBounds_toArray, List.set_cons_zero, List.set_cons_succ]
      go_upto_region 5 with (fail)
      refine wp_region_lit ?_
      refine wpL_pure (u3) rfl (by kernel_rfl) ?_
      simp only [Act.put, List.setIfInBounds_toArray, List.set_cons_zero, List.set_cons_succ]
      refine wpL_pure (.int .u64 (y : Int)) rfl (by kernel_rfl) ?_
      simp only [Act.put, List.setIfInBounds_toArray, List.set_cons_zero, List.set_cons_succ]
      refine wpL_pure (.int .u8 ((y % 256 : Nat) : Int)) rfl (run_convi Try.underlying33 Try.underlying5 rfl rfl _ (by rw [IntKind.wrap_u8]; omega)) ?_
      simp only [Act.put, List.setIfInBounds_toArray, List.set_cons_zero, List.set_cons_succ]
      refine wpL_value (.slice (some ⟨wr.heap.size, 0, none⟩) 1 1) (wr.alloc (.cells #[.int .u8 ((y % 256 : Nat) : Int)] 5)) rfl (by kernel_rfl) ?_
      simp only [Act.put, List.setIfInBounds_toArray, List.set_cons_zero, List.set_cons_succ]
      refine wpL_value (v2) (w2) rfl (run_app _ _ _ _ _ _ _ _ _ rfl rfl rfl rfl AP.out.1) ?_
      simp only [Act.put, List.setIfInBounds_toArray, List.set_cons_zero, List.set_cons_succ]
      refine wpL_pure (v2) rfl (by kernel_rfl) ?_
      simp only [Act.put, List.setIfInBounds_toArray, List.set_cons_zero, List.set_cons_succ]
      go_wp2_with fail
      go_ret
      exact ⟨v2, rfl, by rw [RI.out.1, enc_lo y HL.out, show (y : Int) = ((y % 256 : Nat) : Int) by have := HL.out; omega]; exact AP.out.2.1, AP.out.2.2⟩
    · have HL := Lib.hid hlt
      clear hlt
      obtain ⟨v2, w2, r1, r2, r3, r4, r5⟩ := append_own (wr.alloc (.cells #[.int .u8 ((y % 128 + 128 : Nat) : Int)] 5)) w.heap.size u3 pre [((y % 128 + 128 : Nat) : Int)] (some ⟨wr.heap.size, 0, none⟩) 1 1 (RI.out.2.1.alloc _) (row_one wr _ (by omega) (by omega)) (by have := HE.out; omega) (Nat.le_trans RI.out.2.2.size (by simp))
      have BW : Below w.heap.size w w2 := (RI.out.2.2.alloc RI.out.2.2.size _).grown r3 (Nat.le_trans RI.out.2.2.size (by simp)) (fun k hk => (RI.out.2.1.lt k hk).1)
      have AP := Lib.hid (And.intro r1 (And.intro r2 BW))
      clear r1 r2 r3 r4 r5 BW
      go_upto_region 2 with (fail)
      refine wp_region_lit ?_
      refine wpL_pure (.int .u64 (y : Int)) rfl (by kernel_rfl) ?_
      simp only [Act.put, List.setIfInBounds_toArray, List.set_cons_zero, List.set_cons_succ]
      refine wpL_pure (.int .u64 ((y / 128 : Nat) : Int)) rfl (run_quo128 _ _ _ _ y rfl rfl HY.out) ?_
      simp only [Act.put, List.setIfInBounds_toArray, List.set_cons_zero, List.set_cons_succ]
      refine wpL_pure (.bool true) rfl (run_gti Try.underlying33 rfl rfl rfl (by have := HL.out; rw [decide_eq_true_eq]; omega)) ?_
      simp only [Act.put, List.setIfInBounds_toArray, List.set_cons_zero, List.set_cons_succ]
      go_upto_region 3 with (fail)
      refine wp_region_lit ?_
      refine wpL_pure (u3) rfl (by kernel_rfl) ?_
      simp only [Act.put, List.setIfInBounds_toArray, List.set_cons_zero, List.set_cons_succ]
      refine wpL_pure (.int .u64 (y : Int)) rfl (by kernel_rfl) ?_
      simp only [Act.put, List.setIfInBounds_toArray, List.set_cons_zero, List.set_cons_succ]
      refine wpL_pure (.int .u64 ((y % 128 : Nat) : Int)) rfl (run_rem128 _ _ _ _ y rfl rfl HY.out) ?_
      simp only [Act.put, List.setIfInBounds_toArray, List.set_cons_zero, List.set_cons_succ]
      refine wpL_pure (.int .u64 ((y % 128 + 128 : Nat) : Int)) rfl (run_addi Try.underlying33 rfl rfl rfl _ (by rw [u64_in _ (by omega) (by omega)]; omega)) ?_
      simp only [Act.put, List.setIfInBounds_toArray, List.set_cons_zero, List.set_cons_succ]
      refine wpL_pure (.int .u8 ((y % 128 + 128 : Nat) : Int)) rfl (run_convi Try.underlying33 Try.underlying5 rfl rfl _ (by rw [IntKind.wrap_u8]; omega)) ?_
      simp only [Act.put, List.setIfInBounds_toArray, List.set_cons_zero, List.set_cons_succ]
      refine wpL_value (.slice (some ⟨wr.heap.size, 0, none⟩) 1 1) (wr.alloc (.cells #[.int .u8 ((y % 128 + 128 : Nat) : Int)] 5)) rfl (by kernel_rfl) ?_
      simp only [Act.put, List.setIfInBounds_toArray, List.set_cons_zero, List.set_cons_succ]
      refine wpL_value (v2) (w2) rfl (run_app _ _ _ _ _ _ _ _ _ rfl rfl rfl rfl AP.out.1) ?_
      simp only [Act.put, List.setIfInBounds_toArray, List.set_cons_zero, List.set_cons_succ]
      refine wpL_pure (v2) rfl (by kernel_rfl) ?_
      simp only [Act.put, List.setIfInBounds_toArray, List.set_cons_zero, List.set_cons_succ]
      go_upto_region 4 with (fail)
      refine wp_region_lit ?_
      refine wpL_pure (.int .u64 (y : Int)) rfl (by kernel_rfl) ?_
      simp only [Act.put, List.setIfInBounds_toArray, List.set_cons_zero, List.set_cons_succ]
      refine wpL_pure (.int .u64 ((y / 128 : Nat) : Int)) rfl (run_quo128 _ _ _ _ y rfl rfl HY.out) ?_
      simp only [Act.put, List.setIfInBounds_toArray, List.set_cons_zero, List.set_cons_succ]
      refine wpL_pure (.int .u64 ((y / 128 : Nat) : Int)) rfl (by kernel_rfl) ?_
      simp only [Act.put, List.setIfInBounds_toArray, List.set_cons_zero, List.set_cons_succ]
      have E2 : Hid (enc x = (pre ++ [((y % 128 + 128 : Nat) : Int)]) ++ enc (y / 128)) := Lib.hid (by rw [RI.out.1, enc_hi y HL.out]; simp)
      go_roundw
      case rel => first | exact ⟨y / 128, _, rfl, Lib.hid ⟨E2.out, AP.out.2⟩, Lib.hid (by have := HY.out; omega)⟩ | ((repeat apply Exists.intro); exact ⟨⟨y / 128, _, rfl, Lib.hid ⟨E2.out, AP.out.2⟩, Lib.hid (by have := HY.out; omega)⟩, rfl⟩)
      case measure => simp [intOf]; have := HL.out; omega
def accM (c : Nat → Nat) (k : Nat) : Nat := accN c k % 18446744073709551616
def powM (k : Nat) : Nat := 2 ^ (7 * k) % 18446744073709551616
theorem accM_lt (c : Nat → Nat) (k : Nat) : accM c k < 18446744073709551616 := Nat.mod_lt _ (by omega)
theorem wrap64 (n : Nat) : IntKind.u64.wrap (n : Int) = ((n % 18446744073709551616 : Nat) : Int) := by
  simp [IntKind.wrap, IntKind.bits, IntKind.signed]
theorem acc_step (c : Nat → Nat) (k : Nat) : IntKind.u64.wrap ((accM c k : Int) + IntKind.u64.wrap (((c k % 128 : Nat) : Int) * (powM k : Int))) = (accM c (k + 1) : Int) := by
  rw [← Int.natCast_mul, wrap64, ← Int.natCast_add, wrap64]
  congr 1
  unfold accM powM
  rw [accN, Nat.add_mod_mod, Nat.mod_add_mod, Nat.add_mod, Nat.mul_mod_mod, ← Nat.add_mod]
theorem pow_step (k : Nat) : IntKind.u64.wrap ((powM k : Int) * 128) = (powM (k + 1) : Int) := by
  rw [show (128 : Int) = ((128 : Nat) : Int) from rfl, ← Int.natCast_mul, wrap64]
  congr 1
  unfold powM
  rw [Nat.mod_mul_mod, Nat.mul_add, Nat.pow_add]
theorem enc_last : ∀ (k x : Nat), (enc x).length = k + 1 → (enc x).getD k 0 = ((x / 2 ^ (7 * k) : Nat) : Int) ∧ (0 < k → 0 < x / 2 ^ (7 * k))
  | 0, x, h => by
    have hx : x < 128 := by
      by_cases hx : x < 128
      · exact hx
      · rw [enc_hi x hx] at h
        by_cases hy : x / 128 < 128
        · rw [enc_lo _ hy] at h; simp at h
        · rw [enc_hi _ hy] at h; simp at h
    rw [enc_lo x hx]
    exact ⟨by simp, fun h => absurd h (by omega)⟩
  | k + 1, x, h => by
    have hx : ¬ x < 128 := fun hx => by rw [enc_lo x hx] at h; simp at h
    rw [enc_hi x hx] at h ⊢
    rw [List.length_cons] at h
    have ih := enc_last k (x / 128) (by omega)
    have e : x / 2 ^ (7 * (k + 1)) = x / 128 / 2 ^ (7 * k) := by rw [Nat.div_div_eq_div_mul, Nat.mul_add, Nat.pow_add, Nat.mul_comm]
    rw [List.getD_cons_succ, e]
    refine ⟨ih.1, fun _ => ?_⟩
    rcases Nat.eq_zero_or_pos k with rfl | hk
    · simp; omega
    · exact ih.2 hk
theorem is_good {xs : List Int} {n k : Nat} (hn : xs.length = n) (hb : ∀ x ∈ xs, 0 ≤ x ∧ x ≤ 255) (hk : k < n ∧ k < 10 ∧ ∀ j, j < k → 128 ≤ byt xs j) (hl : byt xs k < 128) (he : enc (accM (byt xs) (k + 1)) = xs.take (k + 1)) : numO xs = some (accM (byt xs) (k + 1), k + 1) := by
  have hlen : (enc (accM (byt xs) (k + 1))).length = k + 1 := by rw [he, List.length_take]; omega
  obtain ⟨h1, h2⟩ := enc_last k _ hlen
  have hc : byt xs k = accM (byt xs) (k + 1) / 2 ^ (7 * k) := by
    have e : (xs.take (k + 1)).getD k 0 = xs.getD k 0 := by simp [List.getD, List.getElem?_take]
    rw [he, e] at h1
    have h3 : ((byt xs k : Nat) : Int) = xs.getD k 0 := by unfold byt; exact Int.toNat_of_nonneg (getD_byte hb k).1
    omega
  have hg : Good (byt xs) xs.length k := by
    refine ⟨by omega, by omega, hk.2.2, hl, fun h9 => ?_, ?_⟩
    · subst h9
      have := accM_lt (byt xs) (9 + 1)
      rw [hc]
      have e : (2 : Nat) ^ (7 * 9) = 9223372036854775808 := by decide
      rw [e]
      omega
    · rcases Nat.eq_zero_or_pos k with h0 | h0
      · exact .inr h0
      · exact .inl (by rw [hc]; exact h2 h0)
  rw [numO_some hg]
  have := (acc9 (byt xs) k (by omega) hg.2.2.2.2.1).2
  unfold accM
  rw [Nat.mod_eq_of_lt this]
theorem not_good {xs : List Int} {n k k' : Nat} (hn : xs.length = n) (hb : ∀ x ∈ xs, 0 ≤ x ∧ x ≤ 255) (hk : k < 10 ∧ ∀ j, j < k → 128 ≤ byt xs j) (hl : byt xs k < 128) (he : ¬ enc (accM (byt xs) (k + 1)) = xs.take (k + 1)) (hg : Good (byt xs) xs.length k') : False := by
  have h1 := hg.2.2.1 k
  have h2 := hk.2 k'
  have h3 := hg.2.2.2.1
  obtain rfl : k = k' := by omega
  apply he
  have := (acc9 (byt xs) k (by omega) hg.2.2.2.2.1).2
  unfold accM
  rw [Nat.mod_eq_of_lt this]
  exact enc_good hb hg
set_option maxHeartbeats 2000000 in
theorem reftake_any (w : World) (a : Option Addr) (n c : Nat) (xs : List Int) (h : Row w a n xs) (hc : n ≤ c) (hw : c < 9223372036854775808 ∧ (0 < c → ∀ p, a = some p → p.spot = none)) :
    Calls Try.prog 29 #[.slice a n c] w fun e w' => e = .returned (.tuple #[.int .u64 (((numO xs).getD (0, 0)).1 : Int), .int .i64 (((numO xs).getD (0, 0)).2 : Int)]) ∧ Below w.heap.size w w' := by
  have HN := Lib.hid h.1
  have NL := Lib.hid h.2.1
  have HX := Lib.hid h.2.2.1
  have XB := Lib.hid h.2.2.1
  have HR := Lib.hid h
  have NC := Lib.hid hc
  have SP := Lib.hid hw
  clear h hc hw
  go_enter Try.func29, Try.ntmps29
  go_upto_region 2 with (fail)
  go_wp2_with fail
  go_loopw [4, 5, 6] (fun s4 s5 s6 wr => ∃ k : Nat, s4 = .int .u64 (accM (byt xs) k : Int) ∧ s5 = .int .u64 (powM k : Int) ∧ s6 = .int .i64 (k : Int) ∧ wr = w ∧ Hid (k ≤ n ∧ k ≤ 10 ∧ ∀ j, j < k → 128 ≤ byt xs j)) (fun _ _ s6 _ => 10 - (intOf s6).toNat)
  case atStart => exact ⟨0, rfl, rfl, rfl, rfl, Lib.hid ⟨by omega, by omega, fun j hj => absurd hj (by omega)⟩⟩
  case round =>
    obtain ⟨k, rfl, rfl, rfl, rfl, KI⟩ := hrel
    by_cases hlt : k < n
    · by_cases hten : k < 10
      · have HK : Hid (k < n ∧ k < 10 ∧ ∀ j, j < k → 128 ≤ byt xs j) := Lib.hid ⟨hlt, hten, KI.out.2.2⟩
        obtain ⟨g0, o0, ea, hc0⟩ := HR.out.2.2.2 k hlt
        have AE := Lib.hid ea
        have C0 : Hid (wr.cell? ⟨g0, o0 + k, none⟩ = some (.int .u8 (byt xs k : Int))) := Lib.hid (by rw [hc0]; have := getD_byte HX.out k; unfold byt; rw [Int.toNat_of_nonneg this.1])
        have B0 := Lib.hid (byt_lt HX.out k)
        have PR := Lib.hid (row_pre HR.out (k + 1) (by omega))
        clear hc0 ea
        by_cases hlow : byt xs k < 128
        · have HB := Lib.hid hlow
          clear hlow
          go_upto_region 3 with (fail)
          refine wp_region_lit ?_
          refine wpL_pure (.int .i64 (k : Int)) rfl (by kernel_rfl) ?_
          simp only [Act.put, List.setIfInBounds_toArray, List.set_cons_zero, List.set_cons_succ]
          refine wpL_pure (.slice a n c) rfl (by kernel_rfl) ?_
          simp only [Act.put, List.setIfInBounds_toArray, List.set_cons_zero, List.set_cons_succ]
          refine wpL_pure (.int .i64 (n : Int)) rfl (by kernel_rfl) ?_
          simp only [Act.put, List.setIfInBounds_toArray, List.set_cons_zero, List.set_cons_succ]
          refine wpL_pure (.bool true) rfl (run_lti Try.underlying3 rfl rfl rfl (by rw [decide_eq_true_eq]; omega)) ?_
          simp only [Act.put, List.setIfInBounds_toArray, List.set_cons_zero, List.set_cons_succ]
          refine wpL_pure (.bool true) rfl (by kernel_rfl) ?_
          simp only [Act.put, List.setIfInBounds_toArray, List.set_cons_zero, List.set_cons_succ]
          refine wpL_pure (.int .i64 (k : Int)) rfl (by kernel_rfl) ?_
          simp only [Act.put, List.setIfInBounds_toArray, List.set_cons_zero, List.set_cons_succ]
          refine wpL_pure (.bool true) rfl (run_lti Try.underlying3 rfl rfl rfl (by rw [decide_eq_true_eq]; omega)) ?_
          simp only [Act.put, List.setIfInBounds_toArray, List.set_cons_zero, List.set_cons_succ]
          refine wpL_pure (.bool true) rfl (by kernel_rfl) ?_
          simp only [Act.put, List.setIfInBounds_toArray, List.set_cons_zero, List.set_cons_succ]
          go_upto_region 5 with (fail)
          refine wp_region_lit ?_
          refine wpL_pure (.int .u64 (accM (byt xs) k : Int)) rfl (by kernel_rfl) ?_
          simp only [Act.put, List.setIfInBounds_toArray, List.set_cons_zero, List.set_cons_succ]
          refine wpL_pure (.slice a n c) rfl (by kernel_rfl) ?_
          simp only [Act.put, List.setIfInBounds_toArray, List.set_cons_zero, List.set_cons_succ]
          refine wpL_pure (.int .i64 (k : Int)) rfl (by kernel_rfl) ?_
          simp only [Act.put, List.setIfInBounds_toArray, List.set_cons_zero, List.set_cons_succ]
          refine wpL_pure (.pointer (some ⟨g0, o0 + k, none⟩)) rfl (run_idx _ _ _ _ _ g0 o0 n c k rfl (by rw [AE.out]; rfl) rfl HK.out.1 NL.out) ?_
          simp only [Act.put, List.setIfInBounds_toArray, List.set_cons_zero, List.set_cons_succ]
          refine wpL_pure (.int .u8 (byt xs k : Int)) rfl (run_load_one _ _ _ 5 _ _ rfl g0 (o0 + k) rfl C0.out (by kernel_rfl)) ?_
          simp only [Act.put, List.setIfInBounds_toArray, List.set_cons_zero, List.set_cons_succ]
          refine wpL_pure (.int .u8 ((byt xs k % 128 : Nat) : Int)) rfl (run_rem128b _ _ _ _ (byt xs k) rfl rfl B0.out) ?_
          simp only [Act.put, List.setIfInBounds_toArray, List.set_cons_zero, List.set_cons_succ]
          refine wpL_pure (.int .u64 ((byt xs k % 128 : Nat) : Int)) rfl (run_convi Try.underlying5 Try.underlying33 rfl rfl _ (u64_in _ (by omega) (by omega))) ?_
          simp only [Act.put, List.setIfInBounds_toArray, List.set_cons_zero, List.set_cons_succ]
          refine wpL_pure (.int .u64 (powM k : Int)) rfl (by kernel_rfl) ?_
          simp only [Act.put, List.setIfInBounds_toArray, List.set_cons_zero, List.set_cons_succ]
          refine wpL_pure (.int .u64 (IntKind.u64.wrap (((byt xs k % 128 : Nat) : Int) * (powM k : Int)))) rfl (run_muli Try.underlying33 rfl rfl rfl _ rfl) ?_
          simp only [Act.put, List.setIfInBounds_toArray, List.set_cons_zero, List.set_cons_succ]
          refine wpL_pure (.int .u64 (accM (byt xs) (k + 1) : Int)) rfl (run_addi Try.underlying33 rfl rfl rfl _ (acc_step _ _)) ?_
          simp only [Act.put, List.setIfInBounds_toArray, List.set_cons_zero, List.set_cons_succ]
          refine wpL_pure (.int .u64 (accM (byt xs) (k + 1) : Int)) rfl (by kernel_rfl) ?_
          simp only [Act.put, List.setIfInBounds_toArray, List.set_cons_zero, List.set_cons_succ]
          go_upto_region 6 with (fail)
          refine wp_region_lit ?_
          refine wpL_pure (.int .u64 (powM k : Int)) rfl (by kernel_rfl) ?_
          simp only [Act.put, List.setIfInBounds_toArray, List.set_cons_zero, List.set_cons_succ]
          refine wpL_pure (.int .u64 (powM (k + 1) : Int)) rfl (run_muli Try.underlying33 rfl rfl rfl _ (pow_step _)) ?_
          simp only [Act.put, List.setIfInBounds_toArray, List.set_cons_zero, List.set_cons_succ]
          refine wpL_pure (.int .u64 (powM (k + 1) : Int)) rfl (by kernel_rfl) ?_
          simp only [Act.put, List.setIfInBounds_toArray, List.set_cons_zero, List.set_cons_succ]
          go_upto_region 7 with (fail)
          refine wp_region_lit ?_
          refine wpL_pure (.slice a n c) rfl (by kernel_rfl) ?_
          simp only [Act.put, List.setIfInBounds_toArray, List.set_cons_zero, List.set_cons_succ]
          refine wpL_pure (.int .i64 (k : Int)) rfl (by kernel_rfl) ?_
          simp only [Act.put, List.setIfInBounds_toArray, List.set_cons_zero, List.set_cons_succ]
          refine wpL_pure (.pointer (some ⟨g0, o0 + k, none⟩)) rfl (run_idx _ _ _ _ _ g0 o0 n c k rfl (by rw [AE.out]; rfl) rfl HK.out.1 NL.out) ?_
          simp only [Act.put, List.setIfInBounds_toArray, List.set_cons_zero, List.set_cons_succ]
          refine wpL_pure (.int .u8 (byt xs k : Int)) rfl (run_load_one _ _ _ 5 _ _ rfl g0 (o0 + k) rfl C0.out (by kernel_rfl)) ?_
          simp only [Act.put, List.setIfInBounds_toArray, List.set_cons_zero, List.set_cons_succ]
          refine wpL_pure (.bool true) rfl (run_lti Try.underlying5 rfl rfl rfl (by have := HB.out; rw [decide_eq_true_eq]; omega)) ?_
          simp only [Act.put, List.setIfInBounds_toArray, List.set_cons_zero, List.set_cons_succ]
          go_upto_region 8 with (fail)
          refine region_any (by kernel_rfl) 9 rfl ?_
          refine wpAny_take (i := 0) (oi := ⟨some 34, _, _, _, _, _⟩) (v := .int .u64 (accM (byt xs) (k + 1) : Int)) rfl (by kernel_rfl) (by kernel_rfl) (by kernel_rfl) (fun _ _ _ h => h) (Or.inl ⟨rfl, fun w => by kernel_rfl⟩) ?_
          simp only [Act.put, List.setIfInBounds_toArray, List.set_cons_zero, List.set_cons_succ]
          refine wpAny_take (i := 3) (oi := ⟨some 37, _, _, _, _, _⟩) (v := .slice a n c) rfl (by kernel_rfl) (by kernel_rfl) (by kernel_rfl) (fun _ _ _ h => h) (Or.inl ⟨rfl, fun w => by kernel_rfl⟩) ?_
          simp only [Act.put, List.setIfInBounds_toArray, List.set_cons_zero, List.set_cons_succ]
          refine wpAny_take (i := 4) (oi := ⟨some 38, _, _, _, _, _⟩) (v := .int .i64 (k : Int)) rfl (by kernel_rfl) (by kernel_rfl) (by kernel_rfl) (fun _ _ _ h => h) (Or.inl ⟨rfl, fun w => by kernel_rfl⟩) ?_
          simp only [Act.put, List.setIfInBounds_toArray, List.set_cons_zero, List.set_cons_succ]
          refine wpAny_take (i := 5) (oi := ⟨some 39, _, _, _, _, _⟩) (v := .int .i64 ((k + 1 : Nat) : Int)) rfl (by kernel_rfl) (by kernel_rfl) (by kernel_rfl) (fun _ _ _ h => h) (Or.inl ⟨rfl, fun w => run_addi Try.underlying3 rfl rfl rfl _ (by have := HK.out.2.1; rw [wrap_in _ (by omega) (by omega)]; omega)⟩) ?_
          simp only [Act.put, List.setIfInBounds_toArray, List.set_cons_zero, List.set_cons_succ]
          refine wpAny_take (i := 6) (oi := ⟨some 40, _, _, _, _, _⟩) (v := .slice a (k + 1) c) rfl (by kernel_rfl) (by kernel_rfl) (by kernel_rfl) (fun _ _ _ h => h) (Or.inl ⟨rfl, fun w => run_sliceto _ _ _ _ _ a n c (k + 1) rfl rfl rfl (by have := HK.out.1; omega) NC.out ⟨SP.out.1, SP.out.2 (by have h1 := HK.out.1; have h2 := NC.out; omega)⟩⟩) ?_
          simp only [Act.put, List.setIfInBounds_toArray, List.set_cons_zero, List.set_cons_succ]
          refine wpAny_all (rs := [1, 7]) (by kernel_rfl) (by simp) ?_
          intro i hi
          simp only [List.mem_cons, List.not_mem_nil, or_false] at hi
          rcases hi with rfl | rfl
          · refine op_call (o := ⟨some 35, _, _, _, _, _⟩) 25 #[.int .u64 (accM (byt xs) (k + 1) : Int)] rfl rfl (by kernel_rfl) ((refnum_any _ _ (accM_lt _ _)).mono fun e w2 ⟨v2, he, q1, q2⟩ => ⟨v2, he, ?_⟩)
            simp only [Act.put, List.setIfInBounds_toArray, List.set_cons_zero, List.set_cons_succ]
            obtain ⟨ax, cx, hv2⟩ := q1.slice
            generalize hlx : (enc (accM (byt xs) (k + 1))).length = lx at hv2
            subst hv2
            have OX := Lib.hid q1
            have RW : Hid (Row w2 a (k + 1) (xs.take (k + 1))) := Lib.hid ((show Row wr.drew a (k + 1) (xs.take (k + 1)) from PR.out).keep q2)
            have Q2 : Hid (Below wr.heap.size wr w2) := Lib.hid ((Below.refl wr.heap.size wr).drew.trans q2)
            clear q1 q2 hlx
            refine wpAny_all (rs := [2, 7]) (by kernel_rfl) (by simp) ?_
            intro i hi
            simp only [List.mem_cons, List.not_mem_nil, or_false] at hi
            rcases hi with rfl | rfl
            · refine op_val (o := ⟨some 36, _, _, _, _, _⟩) (.string (strOfNums (enc (accM (byt xs) (k + 1))))) rfl rfl (run_conv_str _ _ _ _ ax lx cx _ rfl rfl OX.out.row.1) ?_
              simp only [Act.put, List.setIfInBounds_toArray, List.set_cons_zero, List.set_cons_succ]
              refine wpAny_of_idx [7, 8] [⟨some 41, _, _, _, _, _⟩, ⟨some 42, _, _, _, _, _⟩] _ _ _ (by rfl) (by kernel_rfl) ?_
              refine wpL_pure (.string (strOfNums (xs.take (k + 1)))) rfl (run_conv_str _ _ _ _ a (k + 1) c _ rfl rfl RW.out) ?_
              simp only [Act.put, List.setIfInBounds_toArray, List.set_cons_zero, List.set_cons_succ]
              obtain ⟨eqb, hq⟩ : ∃ z, decide (enc (accM (byt xs) (k + 1)) = xs.take (k + 1)) = z := ⟨_, rfl⟩
              have EB := Lib.hid hq
              clear hq
              refine wpL_pure (.bool eqb) rfl (run_str_eql _ _ _ _ _ _ _ eqb rfl rfl rfl EB.out.symm (fun v hv => enc_byte _ _ (Nat.le_refl _) v hv) (fun v hv => XB.out v (List.mem_of_mem_take hv))) ?_
              simp only [Act.put, List.setIfInBounds_toArray, List.set_cons_zero, List.set_cons_succ]
              cases eqb
              · go_upto_region 10 with (fail)
                refine wp_region_lit ?_
                refine wpL_pure (.int .u64 0) rfl (by kernel_rfl) ?_
                simp only [Act.put, List.setIfInBounds_toArray, List.set_cons_zero, List.set_cons_succ]
                refine wpL_pure (.int .i64 0) rfl (by kernel_rfl) ?_
                simp only [Act.put, List.setIfInBounds_toArray, List.set_cons_zero, List.set_cons_succ]
                go_wp2_with fail
                go_ret2
                have NO : numO xs = none := numO_none (fun k' hg => not_good HN.out HX.out HK.out.2 HB.out (by have h1 := EB.out; rw [decide_eq_false_iff_not] at h1; exact h1) hg)
                exact ⟨by rw [NO]; rfl, Q2.out⟩
              · go_upto_region 9 with (fail)
                refine wp_region_lit ?_
                refine wpL_pure (.int .u64 (accM (byt xs) (k + 1) : Int)) rfl (by kernel_rfl) ?_
                simp only [Act.put, List.setIfInBounds_toArray, List.set_cons_zero, List.set_cons_succ]
                refine wpL_pure (.int .i64 (k : Int)) rfl (by kernel_rfl) ?_
                simp only [Act.put, List.setIfInBounds_toArray, List.set_cons_zero, List.set_cons_succ]
                refine wpL_pure (.int .i64 ((k + 1 : Nat) : Int)) rfl (run_addi Try.underlying3 rfl rfl rfl _ (by have := HK.out.2.1; rw [wrap_in _ (by omega) (by omega)]; omega)) ?_
                simp only [Act.put, List.setIfInBounds_toArray, List.set_cons_zero, List.set_cons_succ]
                refine wpL_pure (.int .u64 (accM (byt xs) (k + 1) : Int)) rfl (by kernel_rfl) ?_
                simp only [Act.put, List.setIfInBounds_toArray, List.set_cons_zero, List.set_cons_succ]
                refine wpL_pure (.int .i64 ((k + 1 : Nat) : Int)) rfl (by kernel_rfl) ?_
                simp only [Act.put, List.setIfInBounds_toArray, List.set_cons_zero, List.set_cons_succ]
                go_wp2_with fail
                go_ret2
                have NO := is_good HN.out HX.out HK.out HB.out (by have h1 := EB.out; rw [decide_eq_true_eq] at h1; exact h1)
                exact ⟨by rw [NO]; rfl, Q2.out⟩
            · refine op_val (o := ⟨some 41, _, _, _, _, _⟩) (.string (strOfNums (xs.take (k + 1)))) rfl rfl (run_conv_str _ _ _ _ a (k + 1) c _ rfl rfl RW.out) ?_
              simp only [Act.put, List.setIfInBounds_toArray, List.set_cons_zero, List.set_cons_succ]
              refine wpAny_of_idx [2, 8] [⟨some 36, _, _, _, _, _⟩, ⟨some 42, _, _, _, _, _⟩] _ _ _ (by rfl) (by kernel_rfl) ?_
              refine wpL_pure (.string (strOfNums (enc (accM (byt xs) (k + 1))))) rfl (run_conv_str _ _ _ _ ax lx cx _ rfl rfl OX.out.row.1) ?_
              simp only [Act.put, List.setIfInBounds_toArray, List.set_cons_zero, List.set_cons_succ]
              obtain ⟨eqb, hq⟩ : ∃ z, decide (enc (accM (byt xs) (k + 1)) = xs.take (k + 1)) = z := ⟨_, rfl⟩
              have EB := Lib.hid hq
              clear hq
              refine wpL_pure (.bool eqb) rfl (run_str_eql _ _ _ _ _ _ _ eqb rfl rfl rfl EB.out.symm (fun v hv => enc_byte _ _ (Nat.le_refl _) v hv) (fun v hv => XB.out v (List.mem_of_mem_take hv))) ?_
              simp only [Act.put, List.setIfInBounds_toArray, List.set_cons_zero, List.set_cons_succ]
              cases eqb
              · go_upto_region 10 with (fail)
                refine wp_region_lit ?_
                refine wpL_pure (.int .u64 0) rfl (by kernel_rfl) ?_
                simp only [Act.put, List.setIfInBounds_toArray, List.set_cons_zero, List.set_cons_succ]
                refine wpL_pure (.int .i64 0) rfl (by kernel_rfl) ?_
                simp only [Act.put, List.setIfInBounds_toArray, List.set_cons_zero, List.set_cons_succ]
                go_wp2_with fail
                go_ret2
                have NO : numO xs = none := numO_none (fun k' hg => not_good HN.out HX.out HK.out.2 HB.out (by have h1 := EB.out; rw [decide_eq_false_iff_not] at h1; exact h1) hg)
                exact ⟨by rw [NO]; rfl, Q2.out⟩
              · go_upto_region 9 with (fail)
                refine wp_region_lit ?_
                refine wpL_pure (.int .u64 (accM (byt xs) (k + 1) : Int)) rfl (by kernel_rfl) ?_
                simp only [Act.put, List.setIfInBounds_toArray, List.set_cons_zero, List.set_cons_succ]
                refine wpL_pure (.int .i64 (k : Int)) rfl (by kernel_rfl) ?_
                simp only [Act.put, List.setIfInBounds_toArray, List.set_cons_zero, List.set_cons_succ]
                refine wpL_pure (.int .i64 ((k + 1 : Nat) : Int)) rfl (run_addi Try.underlying3 rfl rfl rfl _ (by have := HK.out.2.1; rw [wrap_in _ (by omega) (by omega)]; omega)) ?_
                simp only [Act.put, List.setIfInBounds_toArray, List.set_cons_zero, List.set_cons_succ]
                refine wpL_pure (.int .u64 (accM (byt xs) (k + 1) : Int)) rfl (by kernel_rfl) ?_
                simp only [Act.put, List.setIfInBounds_toArray, List.set_cons_zero, List.set_cons_succ]
                refine wpL_pure (.int .i64 ((k + 1 : Nat) : Int)) rfl (by kernel_rfl) ?_
                simp only [Act.put, List.setIfInBounds_toArray, List.set_cons_zero, List.set_cons_succ]
                go_wp2_with fail
                go_ret2
                have NO := is_good HN.out HX.out HK.out HB.out (by have h1 := EB.out; rw [decide_eq_true_eq] at h1; exact h1)
                exact ⟨by rw [NO]; rfl, Q2.out⟩
          · refine op_val (o := ⟨some 41, _, _, _, _, _⟩) (.string (strOfNums (xs.take (k + 1)))) rfl rfl (run_conv_str _ _ _ _ a (k + 1) c _ rfl rfl PR.out) ?_
            simp only [Act.put, List.setIfInBounds_toArray, List.set_cons_zero, List.set_cons_succ]
            refine wpAny_of_idx [1, 2, 8] [⟨some 35, _, _, _, _, _⟩, ⟨some 36, _, _, _, _, _⟩, ⟨some 42, _, _, _, _, _⟩] _ _ _ (by rfl) (by kernel_rfl) ?_
            refine wpL_call 25 #[.int .u64 (accM (byt xs) (k + 1) : Int)] rfl (by kernel_rfl) (((refnum_any _ _ (accM_lt _ _))).mono fun e w2 ⟨v2, he, q1, q2⟩ => ⟨v2, he, ?_⟩)
            simp only [Act.put, List.setIfInBounds_toArray, List.set_cons_zero, List.set_cons_succ]
            obtain ⟨ax, cx, hv2⟩ := q1.slice
            generalize hlx : (enc (accM (byt xs) (k + 1))).length = lx at hv2
            subst hv2
            have OX := Lib.hid q1
            have RW : Hid (Row w2 a (k + 1) (xs.take (k + 1))) := Lib.hid ((show Row wr.drew a (k + 1) (xs.take (k + 1)) from PR.out).keep q2)
            have Q2 : Hid (Below wr.heap.size wr w2) := Lib.hid ((Below.refl wr.heap.size wr).drew.trans q2)
            clear q1 q2 hlx
            refine wpL_pure (.string (strOfNums (enc (accM (byt xs) (k + 1))))) rfl (run_conv_str _ _ _ _ ax lx cx _ rfl rfl OX.out.row.1) ?_
            simp only [Act.put, List.setIfInBounds_toArray, List.set_cons_zero, List.set_cons_succ]
            obtain ⟨eqb, hq⟩ : ∃ z, decide (enc (accM (byt xs) (k + 1)) = xs.take (k + 1)) = z := ⟨_, rfl⟩
            have EB := Lib.hid hq
            clear hq
            refine wpL_pure (.bool eqb) rfl (run_str_eql _ _ _ _ _ _ _ eqb rfl rfl rfl EB.out.symm (fun v hv => enc_byte _ _ (Nat.le_refl _) v hv) (fun v hv => XB.out v (List.mem_of_mem_take hv))) ?_
            simp only [Act.put, List.setIfInBounds_toArray, List.set_cons_zero, List.set_cons_succ]
            cases eqb
            · go_upto_region 10 with (fail)
              refine wp_region_lit ?_
              refine wpL_pure (.int .u64 0) rfl (by kernel_rfl) ?_
              simp only [Act.put, List.setIfInBounds_toArray, List.set_cons_zero, List.set_cons_succ]
              refine wpL_pure (.int .i64 0) rfl (by kernel_rfl) ?_
              simp only [Act.put, List.setIfInBounds_toArray, List.set_cons_zero, List.set_cons_succ]
              go_wp2_with fail
              go_ret2
              have NO : numO xs = none := numO_none (fun k' hg => not_good HN.out HX.out HK.out.2 HB.out (by have h1 := EB.out; rw [decide_eq_false_iff_not] at h1; exact h1) hg)
              exact ⟨by rw [NO]; rfl, Q2.out⟩
            · go_upto_region 9 with (fail)
              refine wp_region_lit ?_
              refine wpL_pure (.int .u64 (accM (byt xs) (k + 1) : Int)) rfl (by kernel_rfl) ?_
              simp only [Act.put, List.setIfInBounds_toArray, List.set_cons_zero, List.set_cons_succ]
              refine wpL_pure (.int .i64 (k : Int)) rfl (by kernel_rfl) ?_
              simp only [Act.put, List.setIfInBounds_toArray, List.set_cons_zero, List.set_cons_succ]
              refine wpL_pure (.int .i64 ((k + 1 : Nat) : Int)) rfl (run_addi Try.underlying3 rfl rfl rfl _ (by have := HK.out.2.1; rw [wrap_in _ (by omega) (by omega)]; omega)) ?_
              simp only [Act.put, List.setIfInBounds_toArray, List.set_cons_zero, List.set_cons_succ]
              refine wpL_pure (.int .u64 (accM (byt xs) (k + 1) : Int)) rfl (by kernel_rfl) ?_
              simp only [Act.put, List.setIfInBounds_toArray, List.set_cons_zero, List.set_cons_succ]
              refine wpL_pure (.int .i64 ((k + 1 : Nat) : Int)) rfl (by kernel_rfl) ?_
              simp only [Act.put, List.setIfInBounds_toArray, List.set_cons_zero, List.set_cons_succ]
              go_wp2_with fail
              go_ret2
              have NO := is_good HN.out HX.out HK.out HB.out (by have h1 := EB.out; rw [decide_eq_true_eq] at h1; exact h1)
              exact ⟨by rw [NO]; rfl, Q2.out⟩
        · have HB := Lib.hid hlow
          have NX : Hid (k + 1 ≤ n ∧ k + 1 ≤ 10 ∧ ∀ j, j < k + 1 → 128 ≤ byt xs j) := Lib.hid ⟨by omega, by omega, fun j hj => by
            rcases Nat.lt_or_ge j k with h | h
            · exact HK.out.2.2 j h
            · obtain rfl : j = k := by omega
              omega⟩
          clear hlow
          go_upto_region 3 with (fail)
          refine wp_region_lit ?_
          refine wpL_pure (.int .i64 (k : Int)) rfl (by kernel_rfl) ?_
          simp only [Act.put, List.setIfInBounds_toArray, List.set_cons_zero, List.set_cons_succ]
          refine wpL_pure (.slice a n c) rfl (by kernel_rfl) ?_
          simp only [Act.put, List.setIfInBounds_toArray, List.set_cons_zero, List.set_cons_succ]
          refine wpL_pure (.int .i64 (n : Int)) rfl (by kernel_rfl) ?_
          simp only [Act.put, List.setIfInBounds_toArray, List.set_cons_zero, List.set_cons_succ]
          refine wpL_pure (.bool true) rfl (run_lti Try.underlying3 rfl rfl rfl (by rw [decide_eq_true_eq]; omega)) ?_
          simp only [Act.put, List.setIfInBounds_toArray, List.set_cons_zero, List.set_cons_succ]
          refine wpL_pure (.bool true) rfl (by kernel_rfl) ?_
          simp only [Act.put, List.setIfInBounds_toArray, List.set_cons_zero, List.set_cons_succ]
          refine wpL_pure (.int .i64 (k : Int)) rfl (by kernel_rfl) ?_
          simp only [Act.put, List.setIfInBounds_toArray, List.set_cons_zero, List.set_cons_succ]
          refine wpL_pure (.bool true) rfl (run_lti Try.underlying3 rfl rfl rfl (by rw [decide_eq_true_eq]; omega)) ?_
          simp only [Act.put, List.setIfInBounds_toArray, List.set_cons_zero, List.set_cons_succ]
          refine wpL_pure (.bool true) rfl (by kernel_rfl) ?_
          simp only [Act.put, List.setIfInBounds_toArray, List.set_cons_zero, List.set_cons_succ]
          go_upto_region 5 with (fail)
          refine wp_region_lit ?_
          refine wpL_pure (.int .u64 (accM (byt xs) k : Int)) rfl (by kernel_rfl) ?_
          simp only [Act.put, List.setIfInBounds_toArray, List.set_cons_zero, List.set_cons_succ]
          refine wpL_pure (.slice a n c) rfl (by kernel_rfl) ?_
          simp only [Act.put, List.setIfInBounds_toArray, List.set_cons_zero, List.set_cons_succ]
          refine wpL_pure (.int .i64 (k : Int)) rfl (by kernel_rfl) ?_
          simp only [Act.put, List.setIfInBounds_toArray, List.set_cons_zero, List.set_cons_succ]
          refine wpL_pure (.pointer (some ⟨g0, o0 + k, none⟩)) rfl (run_idx _ _ _ _ _ g0 o0 n c k rfl (by rw [AE.out]; rfl) rfl HK.out.1 NL.out) ?_
          simp only [Act.put, List.setIfInBounds_toArray, List.set_cons_zero, List.set_cons_succ]
          refine wpL_pure (.int .u8 (byt xs k : Int)) rfl (run_load_one _ _ _ 5 _ _ rfl g0 (o0 + k) rfl C0.out (by kernel_rfl)) ?_
          simp only [Act.put, List.setIfInBounds_toArray, List.set_cons_zero, List.set_cons_succ]
          refine wpL_pure (.int .u8 ((byt xs k % 128 : Nat) : Int)) rfl (run_rem128b _ _ _ _ (byt xs k) rfl rfl B0.out) ?_
          simp only [Act.put, List.setIfInBounds_toArray, List.set_cons_zero, List.set_cons_succ]
          refine wpL_pure (.int .u64 ((byt xs k % 128 : Nat) : Int)) rfl (run_convi Try.underlying5 Try.underlying33 rfl rfl _ (u64_in _ (by omega) (by omega))) ?_
          simp only [Act.put, List.setIfInBounds_toArray, List.set_cons_zero, List.set_cons_succ]
          refine wpL_pure (.int .u64 (powM k : Int)) rfl (by kernel_rfl) ?_
          simp only [Act.put, List.setIfInBounds_toArray, List.set_cons_zero, List.set_cons_succ]
          refine wpL_pure (.int .u64 (IntKind.u64.wrap (((byt xs k % 128 : Nat) : Int) * (powM k : Int)))) rfl (run_muli Try.underlying33 rfl rfl rfl _ rfl) ?_
          simp only [Act.put, List.setIfInBounds_toArray, List.set_cons_zero, List.set_cons_succ]
          refine wpL_pure (.int .u64 (accM (byt xs) (k + 1) : Int)) rfl (run_addi Try.underlying33 rfl rfl rfl _ (acc_step _ _)) ?_
          simp only [Act.put, List.setIfInBounds_toArray, List.set_cons_zero, List.set_cons_succ]
          refine wpL_pure (.int .u64 (accM (byt xs) (k + 1) : Int)) rfl (by kernel_rfl) ?_
          simp only [Act.put, List.setIfInBounds_toArray, List.set_cons_zero, List.set_cons_succ]
          go_upto_region 6 with (fail)
          refine wp_region_lit ?_
          refine wpL_pure (.int .u64 (powM k : Int)) rfl (by kernel_rfl) ?_
          simp only [Act.put, List.setIfInBounds_toArray, List.set_cons_zero, List.set_cons_succ]
          refine wpL_pure (.int .u64 (powM (k + 1) : Int)) rfl (run_muli Try.underlying33 rfl rfl rfl _ (pow_step _)) ?_
          simp only [Act.put, List.setIfInBounds_toArray, List.set_cons_zero, List.set_cons_succ]
          refine wpL_pure (.int .u64 (powM (k + 1) : Int)) rfl (by kernel_rfl) ?_
          simp only [Act.put, List.setIfInBounds_toArray, List.set_cons_zero, List.set_cons_succ]
          go_upto_region 7 with (fail)
          refine wp_region_lit ?_
          refine wpL_pure (.slice a n c) rfl (by kernel_rfl) ?_
          simp only [Act.put, List.setIfInBounds_toArray, List.set_cons_zero, List.set_cons_succ]
          refine wpL_pure (.int .i64 (k : Int)) rfl (by kernel_rfl) ?_
          simp only [Act.put, List.setIfInBounds_toArray, List.set_cons_zero, List.set_cons_succ]
          refine wpL_pure (.pointer (some ⟨g0, o0 + k, none⟩)) rfl (run_idx _ _ _ _ _ g0 o0 n c k rfl (by rw [AE.out]; rfl) rfl HK.out.1 NL.out) ?_
          simp only [Act.put, List.setIfInBounds_toArray, List.set_cons_zero, List.set_cons_succ]
          refine wpL_pure (.int .u8 (byt xs k : Int)) rfl (run_load_one _ _ _ 5 _ _ rfl g0 (o0 + k) rfl C0.out (by kernel_rfl)) ?_
          simp only [Act.put, List.setIfInBounds_toArray, List.set_cons_zero, List.set_cons_succ]
          refine wpL_pure (.bool false) rfl (run_lti Try.underlying5 rfl rfl rfl (by have := HB.out; rw [decide_eq_false_iff_not]; omega)) ?_
          simp only [Act.put, List.setIfInBounds_toArray, List.set_cons_zero, List.set_cons_succ]
          go_upto_region 4 with (fail)
          refine wp_region_lit ?_
          refine wpL_pure (.int .i64 (k : Int)) rfl (by kernel_rfl) ?_
          simp only [Act.put, List.setIfInBounds_toArray, List.set_cons_zero, List.set_cons_succ]
          refine wpL_pure (.int .i64 ((k + 1 : Nat) : Int)) rfl (run_addi Try.underlying3 rfl rfl rfl _ (by have := HK.out.2.1; rw [wrap_in _ (by omega) (by omega)]; omega)) ?_
          simp only [Act.put, List.setIfInBounds_toArray, List.set_cons_zero, List.set_cons_succ]
          refine wpL_pure (.int .i64 ((k + 1 : Nat) : Int)) rfl (by kernel_rfl) ?_
          simp only [Act.put, List.setIfInBounds_toArray, List.set_cons_zero, List.set_cons_succ]
          go_roundw
          case rel => first | exact ⟨k + 1, rfl, rfl, rfl, rfl, NX⟩ | ((repeat apply Exists.intro); exact ⟨⟨k + 1, rfl, rfl, rfl, rfl, NX⟩, rfl⟩)
          case measure => simp [intOf]; have := HK.out; omega
      · have NO : Hid (numO xs = none) := Lib.hid (numO_none (fun k' hg => by have h1 := KI.out.2.2 k'; have h2 := hg.2.1; have h3 := hg.2.2.2.1; omega))
        go_upto_region 3 with (fail)
        refine wp_region_lit ?_
        refine wpL_pure (.int .i64 (k : Int)) rfl (by kernel_rfl) ?_
        simp only [Act.put, List.setIfInBounds_toArray, List.set_cons_zero, List.set_cons_succ]
        refine wpL_pure (.slice a n c) rfl (by kernel_rfl) ?_
        simp only [Act.put, List.setIfInBounds_toArray, List.set_cons_zero, List.set_cons_succ]
        refine wpL_pure (.int .i64 (n : Int)) rfl (by kernel_rfl) ?_
        simp only [Act.put, List.setIfInBounds_toArray, List.set_cons_zero, List.set_cons_succ]
        refine wpL_pure (.bool true) rfl (run_lti Try.underlying3 rfl rfl rfl (by rw [decide_eq_true_eq]; omega)) ?_
        simp only [Act.put, List.setIfInBounds_toArray, List.set_cons_zero, List.set_cons_succ]
        refine wpL_pure (.bool true) rfl (by kernel_rfl) ?_
        simp only [Act.put, List.setIfInBounds_toArray, List.set_cons_zero, List.set_cons_succ]
        refine wpL_pure (.int .i64 (k : Int)) rfl (by kernel_rfl) ?_
        simp only [Act.put, List.setIfInBounds_toArray, List.set_cons_zero, List.set_cons_succ]
        refine wpL_pure (.bool false) rfl (run_lti Try.underlying3 rfl rfl rfl (by rw [decide_eq_false_iff_not]; omega)) ?_
        simp only [Act.put, List.setIfInBounds_toArray, List.set_cons_zero, List.set_cons_succ]
        refine wpL_pure (.bool false) rfl (by kernel_rfl) ?_
        simp only [Act.put, List.setIfInBounds_toArray, List.set_cons_zero, List.set_cons_succ]
        go_upto_region 11 with (fail)
        refine wp_region_lit ?_
        refine wpL_pure (.int .u64 0) rfl (by kernel_rfl) ?_
        simp only [Act.put, List.setIfInBounds_toArray, List.set_cons_zero, List.set_cons_succ]
        refine wpL_pure (.int .i64 0) rfl (by kernel_rfl) ?_
        simp only [Act.put, List.setIfInBounds_toArray, List.set_cons_zero, List.set_cons_succ]
        go_wp2_with fail
        go_ret2
        exact ⟨by rw [NO.out]; rfl, Below.refl _ _⟩
    · have NO : Hid (numO xs = none) := Lib.hid (numO_none (fun k' hg => by have h1 := KI.out.2.2 k'; have h2 := hg.1; rw [HN.out] at h2; have h3 := hg.2.2.2.1; omega))
      go_upto_region 3 with (fail)
      refine wp_region_lit ?_
      refine wpL_pure (.int .i64 (k : Int)) rfl (by kernel_rfl) ?_
      simp only [Act.put, List.setIfInBounds_toArray, List.set_cons_zero, List.set_cons_succ]
      refine wpL_pure (.slice a n c) rfl (by kernel_rfl) ?_
      simp only [Act.put, List.setIfInBounds_toArray, List.set_cons_zero, List.set_cons_succ]
      refine wpL_pure (.int .i64 (n : Int)) rfl (by kernel_rfl) ?_
      simp only [Act.put, List.setIfInBounds_toArray, List.set_cons_zero, List.set_cons_succ]
      refine wpL_pure (.bool false) rfl (run_lti Try.underlying3 rfl rfl rfl (by rw [decide_eq_false_iff_not]; omega)) ?_
      simp only [Act.put, List.setIfInBounds_toArray, List.set_cons_zero, List.set_cons_succ]
      refine wpL_pure (.bool false) rfl (by kernel_rfl) ?_
      simp only [Act.put, List.setIfInBounds_toArray, List.set_cons_zero, List.set_cons_succ]
      refine wpL_skip rfl ?_
      simp only [Act.put, List.setIfInBounds_toArray, List.set_cons_zero, List.set_cons_succ]
      refine wpL_skip rfl ?_
      simp only [Act.put, List.setIfInBounds_toArray, List.set_cons_zero, List.set_cons_succ]
      refine wpL_pure (.bool false) rfl (by kernel_rfl) ?_
      simp only [Act.put, List.setIfInBounds_toArray, List.set_cons_zero, List.set_cons_succ]
      go_upto_region 11 with (fail)
      refine wp_region_lit ?_
      refine wpL_pure (.int .u64 0) rfl (by kernel_rfl) ?_
      simp only [Act.put, List.setIfInBounds_toArray, List.set_cons_zero, List.set_cons_succ]
      refine wpL_pure (.int .i64 0) rfl (by kernel_rfl) ?_
      simp only [Act.put, List.setIfInBounds_toArray, List.set_cons_zero, List.set_cons_succ]
      go_wp2_with fail
      go_ret2
      exact ⟨by rw [NO.out]; rfl, Below.refl _ _⟩

end Go.Proofs.Yteblaknbehfkgaa
