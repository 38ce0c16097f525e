import Derived.Test.YteblaknbehfkgaaK3
namespace Go.Proofs.Yteblaknbehfkgaa
open Go Go.RowKit

/-- a number's bytes. -/
def enc (x : Nat) : List Int := if h : x < 128 then [(x : Int)] else ((x % 128 + 128 : Nat) : Int) :: enc (x / 128)
termination_by x
decreasing_by omega
theorem enc_lo (x : Nat) (h : x < 128) : enc x = [(x : Int)] := by rw [enc, dif_pos h]
theorem enc_hi (x : Nat) (h : ¬ x < 128) : enc x = ((x % 128 + 128 : Nat) : Int) :: enc (x / 128) := by rw [enc, dif_neg h]
theorem enc_len : ∀ (k x : Nat), x < 2 ^ (7 * k) → (enc x).length ≤ k ∨ x < 128
  | 0, x, h => by right; simp at h; omega
  | k + 1, x, h => by
    by_cases hx : x < 128
    · exact .inr hx
    · left
      rw [enc_hi x hx, List.length_cons]
      have e : 2 ^ (7 * (k + 1)) = 128 * 2 ^ (7 * k) := by rw [Nat.mul_add, Nat.pow_add, Nat.mul_comm]
      rcases enc_len k (x / 128) (by rw [e] at h; omega) with h1 | h1
      · omega
      · rw [enc_lo _ h1]
        rcases k with _ | k
        · simp at h; omega
        · simp
theorem enc_10 (x : Nat) (h : x < 18446744073709551616) : (enc x).length ≤ 10 := by
  rcases enc_len 10 x (by have e : (2 : Nat) ^ (7 * 10) = 1180591620717411303424 := by decide
                          rw [e]; omega) with h1 | h1
  · exact h1
  · rw [enc_lo _ h1]; simp
theorem enc_byte : ∀ (n x : Nat), x ≤ n → ∀ v ∈ enc x, 0 ≤ v ∧ v ≤ 255
  | n, x, hn, v, hv => by
    by_cases hx : x < 128
    · rw [enc_lo _ hx] at hv; simp at hv; omega
    · rw [enc_hi _ hx] at hv
      rcases List.mem_cons.1 hv with h | h
      · omega
      · rcases n with _ | n
        · omega
        · exact enc_byte n (x / 128) (by omega) v h
theorem or128 (y : Nat) : bits .or .u8 ((y % 256 : Nat) : Int) 128 = ((y % 128 + 128 : Nat) : Int) := by
  have e := u8_or_nat (y % 256) 128 (by omega) (by omega)
  rw [show ((128 : Nat) : Int) = 128 from rfl] at e
  rw [e]
  congr 1
  have h : ∀ z : Nat, z < 256 → z ||| 128 = z % 128 + 128 := by decide +kernel
  rw [h _ (by omega)]
  omega
theorem row_one (w : World) (x : Int) (h0 : 0 ≤ x) (h1 : x ≤ 255) : Row (w.alloc (.cells #[.int .u8 x] 5)) (some ⟨w.heap.size, 0, none⟩) 1 [x] :=
  ⟨rfl, by simp [maxLen], by simp; omega, fun j hj => ⟨_, _, rfl, by rw [(Blk.new w 5 _).cell]; (obtain rfl : j = 0 := by omega); rfl⟩⟩
theorem run_shr7 (a : Act) (o : Oper) (w : World) (x : Operand) (y : Nat) (ho : o.op = .binOp .shr 33 x (.const (.int .u64 7)) 64) (hx : a.eval x = .int .u64 (y : Int)) (hy : y < 18446744073709551616) : (execOp a.eval o).run Try.prog w = .ok (.value (.int .u64 ((y / 128 : Nat) : Int))) w := by
  have hc : a.eval (.const (.int .u64 7)) = .int .u64 7 := rfl
  have b0 : (0 : Int) ≤ (y : Int) := by omega
  have b1 : (y : Int) < 18446744073709551616 := by omega
  unfold execOp
  simp only [ho, hx, hc]
  go_simp
  try omega
set_option maxHeartbeats 1000000 in
theorem onum_any (w : World) (b x : Nat) (xs : List Int) (h : OutSt w b xs) (hx : x < 18446744073709551616) (hn : xs.length + (enc x).length ≤ 16384) :
    Calls Try.prog 20 #[.pointer (some ⟨b, 0, none⟩), .int .u64 (x : Int)] w fun e w' => e = .returned (.tuple #[]) ∧ OutSt w' b (xs ++ enc x) ∧ Below b w w' := by
  have HH := Lib.hid h
  have HN := Lib.hid hn
  have HX := Lib.hid hx
  clear h hn hx
  go_enter Try.func20, Try.ntmps20
  go_wp2_with fail
  go_loopw [1] (fun s1 wr => ∃ (y : Nat) (pre : List Int), s1 = .int .u64 (y : Int) ∧ Hid (enc x = pre ++ enc y ∧ OutSt wr b (xs ++ pre) ∧ Below b w wr) ∧ Hid (y < 18446744073709551616)) (fun s1 _ => (intOf s1).toNat)
  case atStart => exact ⟨x, [], rfl, Lib.hid ⟨rfl, by simpa using HH.out, Below.refl _ _⟩, HX⟩
  case round =>
    obtain ⟨y, pre, rfl, RI, HY⟩ := hrel
    by_cases hlt : y < 128
    · have HE : Hid (xs.length + (pre.length + 1) ≤ 16384) := Lib.hid (by have h1 := HN.out; rw [RI.out.1, enc_lo y hlt, List.length_append] at h1; simpa using h1)
      have HL := Lib.hid hlt
      clear hlt
      go_upto_region 0 with (fail)
      refine wp_region_lit ?_
      refine wpL_pure (.int .u64 (y : Int)) rfl (by kernel_rfl) ?_
      simp only [Act.put, List.setIfInBounds_toArray, List.set_cons_zero, List.set_cons_succ]
      refine wpL_pure (.bool false) rfl (run_gei Try.underlying33 rfl rfl rfl (by have := HL.out; rw [decide_eq_false_iff_not]; omega)) ?_
      simp only [Act.put, List.setIfInBounds_toArray, List.set_cons_zero, List.set_cons_succ]
      go_upto_region 3 with (fail)
      refine wp_region_lit ?_
      refine wpL_pure (.pointer (some ⟨b, 0, none⟩)) rfl (by kernel_rfl) ?_
      simp only [Act.put, List.setIfInBounds_toArray, List.set_cons_zero, List.set_cons_succ]
      refine wpL_pure (.pointer (some ⟨b, 0, none⟩)) rfl (by kernel_rfl) ?_
      simp only [Act.put, List.setIfInBounds_toArray, List.set_cons_zero, List.set_cons_succ]
      refine wpL_pure (.pointer (some ⟨b, 0, none⟩)) rfl (by kernel_rfl) ?_
      simp only [Act.put, List.setIfInBounds_toArray, List.set_cons_zero, List.set_cons_succ]
      refine wpL_pure (.int .u64 (y : Int)) rfl (by kernel_rfl) ?_
      simp only [Act.put, List.setIfInBounds_toArray, List.set_cons_zero, List.set_cons_succ]
      refine wpL_pure (.int .u8 ((y % 256 : Nat) : Int)) rfl (run_convi Try.underlying33 Try.underlying5 rfl rfl _ (by rw [IntKind.wrap_u8]; omega)) ?_
      simp only [Act.put, List.setIfInBounds_toArray, List.set_cons_zero, List.set_cons_succ]
      obtain ⟨w1, hw1⟩ : ∃ V, V = wr.alloc (.cells #[.int .u8 ((y % 256 : Nat) : Int)] 5) := ⟨_, rfl⟩
      have PU := Lib.hid (put_any w1 b (xs ++ pre) [((y % 256 : Nat) : Int)] (some ⟨wr.heap.size, 0, none⟩) 1 1 (by rw [hw1]; exact RI.out.2.1.below ((Below.refl _ _).alloc (Nat.le_refl _) _)) (fun X hX => Row.grown (by rw [hw1]; exact row_one wr _ (by omega) (by omega)) hX (fun p hp => by cases hp; intro e; have := RI.out.2.1.lt; simp at e; omega)) (by have := HE.out; rw [List.length_append]; omega))
      have BW : Hid (Below b wr w1) := Lib.hid (by rw [hw1]; exact (Below.refl _ _).alloc (Nat.le_of_lt RI.out.2.1.lt) _)
      refine wpL_value (.slice (some ⟨wr.heap.size, 0, none⟩) 1 1) (w1) rfl (by rw [hw1]; kernel_rfl) ?_
      simp only [Act.put, List.setIfInBounds_toArray, List.set_cons_zero, List.set_cons_succ]
      refine wpL_call 31 #[.pointer (some ⟨b, 0, none⟩), .slice (some ⟨wr.heap.size, 0, none⟩) 1 1] rfl (by kernel_rfl) ((PU.out).mono fun e w2 ⟨he, hO, hB⟩ => ⟨_, he, ?_⟩)
      simp only [Act.put, List.setIfInBounds_toArray, List.set_cons_zero, List.set_cons_succ]
      have NX := Lib.hid (And.intro hO (RI.out.2.2.trans (BW.out.trans hB)))
      clear hO hB PU hw1
      go_wp2_with fail
      go_end0
      exact ⟨rfl, by
        have e : xs ++ enc x = xs ++ pre ++ [((y % 256 : Nat) : Int)] := by
          rw [RI.out.1, enc_lo y HL.out, ← List.append_assoc, show y % 256 = y by have := HL.out; omega]
        rw [e]
        exact NX.out.1, NX.out.2⟩
    · have HE : Hid (xs.length + (pre.length + 1) ≤ 16384) := Lib.hid (by have h1 := HN.out; rw [RI.out.1, enc_hi y hlt, List.length_append, List.length_cons] at h1; omega)
      have HL := Lib.hid hlt
      clear hlt
      go_upto_region 0 with (fail)
      refine wp_region_lit ?_
      refine wpL_pure (.int .u64 (y : Int)) rfl (by kernel_rfl) ?_
      simp only [Act.put, List.setIfInBounds_toArray, List.set_cons_zero, List.set_cons_succ]
      refine wpL_pure (.bool true) rfl (run_gei Try.underlying33 rfl rfl rfl (by have := HL.out; rw [decide_eq_true_eq]; omega)) ?_
      simp only [Act.put, List.setIfInBounds_toArray, List.set_cons_zero, List.set_cons_succ]
      go_upto_region 1 with (fail)
      refine wp_region_lit ?_
      refine wpL_pure (.pointer (some ⟨b, 0, none⟩)) rfl (by kernel_rfl) ?_
      simp only [Act.put, List.setIfInBounds_toArray, List.set_cons_zero, List.set_cons_succ]
      refine wpL_pure (.pointer (some ⟨b, 0, none⟩)) rfl (by kernel_rfl) ?_
      simp only [Act.put, List.setIfInBounds_toArray, List.set_cons_zero, List.set_cons_succ]
      refine wpL_pure (.pointer (some ⟨b, 0, none⟩)) rfl (by kernel_rfl) ?_
      simp only [Act.put, List.setIfInBounds_toArray, List.set_cons_zero, List.set_cons_succ]
      refine wpL_pure (.int .u64 (y : Int)) rfl (by kernel_rfl) ?_
      simp only [Act.put, List.setIfInBounds_toArray, List.set_cons_zero, List.set_cons_succ]
      refine wpL_pure (.int .u8 ((y % 256 : Nat) : Int)) rfl (run_convi Try.underlying33 Try.underlying5 rfl rfl _ (by rw [IntKind.wrap_u8]; omega)) ?_
      simp only [Act.put, List.setIfInBounds_toArray, List.set_cons_zero, List.set_cons_succ]
      refine wpL_pure (.int .u8 ((y % 128 + 128 : Nat) : Int)) rfl (run_biti (.inl rfl) Try.underlying5 rfl rfl rfl _ (or128 y)) ?_
      simp only [Act.put, List.setIfInBounds_toArray, List.set_cons_zero, List.set_cons_succ]
      obtain ⟨w1, hw1⟩ : ∃ V, V = wr.alloc (.cells #[.int .u8 ((y % 128 + 128 : Nat) : Int)] 5) := ⟨_, rfl⟩
      have PU := Lib.hid (put_any w1 b (xs ++ pre) [((y % 128 + 128 : Nat) : Int)] (some ⟨wr.heap.size, 0, none⟩) 1 1 (by rw [hw1]; exact RI.out.2.1.below ((Below.refl _ _).alloc (Nat.le_refl _) _)) (fun X hX => Row.grown (by rw [hw1]; exact row_one wr _ (by omega) (by omega)) hX (fun p hp => by cases hp; intro e; have := RI.out.2.1.lt; simp at e; omega)) (by have := HE.out; rw [List.length_append]; omega))
      have BW : Hid (Below b wr w1) := Lib.hid (by rw [hw1]; exact (Below.refl _ _).alloc (Nat.le_of_lt RI.out.2.1.lt) _)
      refine wpL_value (.slice (some ⟨wr.heap.size, 0, none⟩) 1 1) (w1) rfl (by rw [hw1]; kernel_rfl) ?_
      simp only [Act.put, List.setIfInBounds_toArray, List.set_cons_zero, List.set_cons_succ]
      refine wpL_call 31 #[.pointer (some ⟨b, 0, none⟩), .slice (some ⟨wr.heap.size, 0, none⟩) 1 1] rfl (by kernel_rfl) ((PU.out).mono fun e w2 ⟨he, hO, hB⟩ => ⟨_, he, ?_⟩)
      simp only [Act.put, List.setIfInBounds_toArray, List.set_cons_zero, List.set_cons_succ]
      have NX := Lib.hid (And.intro hO (RI.out.2.2.trans (BW.out.trans hB)))
      clear hO hB PU hw1
      go_upto_region 2 with (fail)
      refine wp_region_lit ?_
      refine wpL_pure (.int .u64 (y : Int)) rfl (by kernel_rfl) ?_
      simp only [Act.put, List.setIfInBounds_toArray, List.set_cons_zero, List.set_cons_succ]
      refine wpL_pure (.int .u64 ((y / 128 : Nat) : Int)) rfl (run_shr7 _ _ _ _ y rfl rfl HY.out) ?_
      simp only [Act.put, List.setIfInBounds_toArray, List.set_cons_zero, List.set_cons_succ]
      refine wpL_pure (.int .u64 ((y / 128 : Nat) : Int)) rfl (by kernel_rfl) ?_
      simp only [Act.put, List.setIfInBounds_toArray, List.set_cons_zero, List.set_cons_succ]
      go_roundw
      case rel =>
        refine ⟨_, _, _, _, _, _, _, _, _, _, _, _, _, ⟨y / 128, pre ++ [((y % 128 + 128 : Nat) : Int)], rfl, Lib.hid ⟨?_, ?_, NX.out.2⟩, Lib.hid (by have := HY.out; omega)⟩, rfl⟩
        · rw [RI.out.1, enc_hi y HL.out]; simp
        · rw [← List.append_assoc]; exact NX.out.1
      case measure => simp [intOf]; have := HL.out; omega
end Go.Proofs.Yteblaknbehfkgaa
