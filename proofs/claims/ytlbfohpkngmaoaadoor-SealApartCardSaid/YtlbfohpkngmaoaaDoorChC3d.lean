import Derived.Test.YtlbfohpkngmaoaaDoorChC3a
namespace Go.Proofs.YtlbfohpkngmaoaaDoor.Ch
open Go.RowKit
set_option maxRecDepth 100000 in
set_option maxHeartbeats 8000000 in
theorem rq5 (w : World) (x0 x1 x2 x3 x4 x5 x6 x7 x8 x9 x10 x11 x12 x13 x14 x15 A1 D1 C1 B1 A2 D2 C2 B2 : Nat) (k1 : x1 < 4294967296) (k6 : x6 < 4294967296) (k11 : x11 < 4294967296) (k12 : x12 < 4294967296)
  (hA1 : A1 = (x1 + x6) % 4294967296)
  (hD1 : D1 = rl 16 (x12 ^^^ A1))
  (hC1 : C1 = (x11 + D1) % 4294967296)
  (hB1 : B1 = rl 12 (x6 ^^^ C1))
  (hA2 : A2 = (A1 + B1) % 4294967296)
  (hD2 : D2 = rl 8 (D1 ^^^ A2))
  (hC2 : C2 = (C1 + D2) % 4294967296)
  (hB2 : B2 = rl 7 (B1 ^^^ C2)) :
  Calls Tryd.prog 43 #[.agg #[.int .u32 (x0 : Int), .int .u32 (x1 : Int), .int .u32 (x2 : Int), .int .u32 (x3 : Int), .int .u32 (x4 : Int), .int .u32 (x5 : Int), .int .u32 (x6 : Int), .int .u32 (x7 : Int), .int .u32 (x8 : Int), .int .u32 (x9 : Int), .int .u32 (x10 : Int), .int .u32 (x11 : Int), .int .u32 (x12 : Int), .int .u32 (x13 : Int), .int .u32 (x14 : Int), .int .u32 (x15 : Int)], .int .i64 1, .int .i64 6, .int .i64 11, .int .i64 12] w fun e w' => e = .returned (.agg #[.int .u32 (x0 : Int), .int .u32 (A2 : Int), .int .u32 (x2 : Int), .int .u32 (x3 : Int), .int .u32 (x4 : Int), .int .u32 (x5 : Int), .int .u32 (B2 : Int), .int .u32 (x7 : Int), .int .u32 (x8 : Int), .int .u32 (x9 : Int), .int .u32 (x10 : Int), .int .u32 (C2 : Int), .int .u32 (D2 : Int), .int .u32 (x13 : Int), .int .u32 (x14 : Int), .int .u32 (x15 : Int)]) ∧ Below w.heap.size w w' := by
 have lA1 : A1 < 4294967296 := by omega
 have rA1 : (((x1 : Nat) : Int) + ((x6 : Nat) : Int)) % 4294967296 = ((A1 : Nat) : Int) := by omega
 have lD1 : D1 < 4294967296 := by rw [hD1]; exact rl_16_lt _ (Nat.xor_lt_two_pow (n := 32) (by omega) (by omega))
 have rD1 : bits BinOp.xor IntKind.u32 (x12 : Int) (A1 : Int) = ((x12 ^^^ A1 : Nat) : Int) := u32_xor_nat _ _ (by omega) (by omega)
 have sD1 : ((rl 16 (x12 ^^^ A1) : Nat) : Int) = ((D1 : Nat) : Int) := by rw [hD1]
 have mD1 : x12 ^^^ A1 < 4294967296 := Nat.xor_lt_two_pow (n := 32) (by omega) (by omega)
 have lC1 : C1 < 4294967296 := by omega
 have rC1 : (((x11 : Nat) : Int) + ((D1 : Nat) : Int)) % 4294967296 = ((C1 : Nat) : Int) := by omega
 have lB1 : B1 < 4294967296 := by rw [hB1]; exact rl_12_lt _ (Nat.xor_lt_two_pow (n := 32) (by omega) (by omega))
 have rB1 : bits BinOp.xor IntKind.u32 (x6 : Int) (C1 : Int) = ((x6 ^^^ C1 : Nat) : Int) := u32_xor_nat _ _ (by omega) (by omega)
 have sB1 : ((rl 12 (x6 ^^^ C1) : Nat) : Int) = ((B1 : Nat) : Int) := by rw [hB1]
 have mB1 : x6 ^^^ C1 < 4294967296 := Nat.xor_lt_two_pow (n := 32) (by omega) (by omega)
 have lA2 : A2 < 4294967296 := by omega
 have rA2 : (((A1 : Nat) : Int) + ((B1 : Nat) : Int)) % 4294967296 = ((A2 : Nat) : Int) := by omega
 have lD2 : D2 < 4294967296 := by rw [hD2]; exact rl_8_lt _ (Nat.xor_lt_two_pow (n := 32) (by omega) (by omega))
 have rD2 : bits BinOp.xor IntKind.u32 (D1 : Int) (A2 : Int) = ((D1 ^^^ A2 : Nat) : Int) := u32_xor_nat _ _ (by omega) (by omega)
 have sD2 : ((rl 8 (D1 ^^^ A2) : Nat) : Int) = ((D2 : Nat) : Int) := by rw [hD2]
 have mD2 : D1 ^^^ A2 < 4294967296 := Nat.xor_lt_two_pow (n := 32) (by omega) (by omega)
 have lC2 : C2 < 4294967296 := by omega
 have rC2 : (((C1 : Nat) : Int) + ((D2 : Nat) : Int)) % 4294967296 = ((C2 : Nat) : Int) := by omega
 have lB2 : B2 < 4294967296 := by rw [hB2]; exact rl_7_lt _ (Nat.xor_lt_two_pow (n := 32) (by omega) (by omega))
 have rB2 : bits BinOp.xor IntKind.u32 (B1 : Int) (C2 : Int) = ((B1 ^^^ C2 : Nat) : Int) := u32_xor_nat _ _ (by omega) (by omega)
 have sB2 : ((rl 7 (B1 ^^^ C2) : Nat) : Int) = ((B2 : Nat) : Int) := by rw [hB2]
 have mB2 : B1 ^^^ C2 < 4294967296 := Nat.xor_lt_two_pow (n := 32) (by omega) (by omega)
 have HA1 := Lib.hid hA1
 clear hA1
 have HD1 := Lib.hid hD1
 clear hD1
 have HC1 := Lib.hid hC1
 clear hC1
 have HB1 := Lib.hid hB1
 clear hB1
 have HA2 := Lib.hid hA2
 clear hA2
 have HD2 := Lib.hid hD2
 clear hD2
 have HC2 := Lib.hid hC2
 clear hC2
 have HB2 := Lib.hid hB2
 clear hB2
 have zA1 : (0 : Int) ≤ (A1 : Int) := by omega
 have zD1 : (0 : Int) ≤ (D1 : Int) := by omega
 have zC1 : (0 : Int) ≤ (C1 : Int) := by omega
 have zB1 : (0 : Int) ≤ (B1 : Int) := by omega
 have zA2 : (0 : Int) ≤ (A2 : Int) := by omega
 have zD2 : (0 : Int) ≤ (D2 : Int) := by omega
 have zC2 : (0 : Int) ≤ (C2 : Int) := by omega
 have zB2 : (0 : Int) ≤ (B2 : Int) := by omega
 have zx1 : (0 : Int) ≤ (x1 : Int) := by omega
 have zx6 : (0 : Int) ≤ (x6 : Int) := by omega
 have zx11 : (0 : Int) ≤ (x11 : Int) := by omega
 have zx12 : (0 : Int) ≤ (x12 : Int) := by omega
 go_enter Tryd.func43, Tryd.ntmps43
 go_wp2
 go_region
 go_wp2
 go_cut [5] (fun s5 wx => s5 = .pointer (some ⟨w.heap.size, 0, none⟩) ∧ wx = ((w.alloc (.cells #[.int .u32 (x0 : Int), .int .u32 (A1 : Int), .int .u32 (x2 : Int), .int .u32 (x3 : Int), .int .u32 (x4 : Int), .int .u32 (x5 : Int), .int .u32 (x6 : Int), .int .u32 (x7 : Int), .int .u32 (x8 : Int), .int .u32 (x9 : Int), .int .u32 (x10 : Int), .int .u32 (x11 : Int), .int .u32 (D1 : Int), .int .u32 (x13 : Int), .int .u32 (x14 : Int), .int .u32 (x15 : Int)] 77)).alloc (.cells #[.int .u32 0, .int .u32 0, .int .u32 0, .int .u32 0, .int .u32 0, .int .u32 0, .int .u32 0, .int .u32 0, .int .u32 0, .int .u32 0, .int .u32 0, .int .u32 0, .int .u32 0, .int .u32 0, .int .u32 0, .int .u32 0] 77)).drew.drew)
 case first =>
  go_region_with (go_at_call 53; refine (left_any _ 16 mD1 (by omega) _).mono ?_; rintro e w' ⟨rfl, rfl⟩)
  all_goals (go_wp2; go_meet; case rel => exact ⟨rfl, rfl⟩)
 case rest =>
  obtain ⟨rfl, rfl⟩ := hcut
  go_wp2
  go_region
  go_wp2
  go_cut [5] (fun s5 wx => s5 = .pointer (some ⟨w.heap.size, 0, none⟩) ∧ wx = ((w.alloc (.cells #[.int .u32 (x0 : Int), .int .u32 (A1 : Int), .int .u32 (x2 : Int), .int .u32 (x3 : Int), .int .u32 (x4 : Int), .int .u32 (x5 : Int), .int .u32 (B1 : Int), .int .u32 (x7 : Int), .int .u32 (x8 : Int), .int .u32 (x9 : Int), .int .u32 (x10 : Int), .int .u32 (C1 : Int), .int .u32 (D1 : Int), .int .u32 (x13 : Int), .int .u32 (x14 : Int), .int .u32 (x15 : Int)] 77)).alloc (.cells #[.int .u32 0, .int .u32 0, .int .u32 0, .int .u32 0, .int .u32 0, .int .u32 0, .int .u32 0, .int .u32 0, .int .u32 0, .int .u32 0, .int .u32 0, .int .u32 0, .int .u32 0, .int .u32 0, .int .u32 0, .int .u32 0] 77)).drew.drew.drew.drew)
  case first =>
   go_region_with (go_at_call 53; refine (left_any _ 12 mB1 (by omega) _).mono ?_; rintro e w' ⟨rfl, rfl⟩)
   all_goals (go_wp2; go_meet; case rel => exact ⟨rfl, rfl⟩)
  case rest =>
   obtain ⟨rfl, rfl⟩ := hcut
   go_wp2
   go_region
   go_wp2
   go_cut [5] (fun s5 wx => s5 = .pointer (some ⟨w.heap.size, 0, none⟩) ∧ wx = ((w.alloc (.cells #[.int .u32 (x0 : Int), .int .u32 (A2 : Int), .int .u32 (x2 : Int), .int .u32 (x3 : Int), .int .u32 (x4 : Int), .int .u32 (x5 : Int), .int .u32 (B1 : Int), .int .u32 (x7 : Int), .int .u32 (x8 : Int), .int .u32 (x9 : Int), .int .u32 (x10 : Int), .int .u32 (C1 : Int), .int .u32 (D2 : Int), .int .u32 (x13 : Int), .int .u32 (x14 : Int), .int .u32 (x15 : Int)] 77)).alloc (.cells #[.int .u32 0, .int .u32 0, .int .u32 0, .int .u32 0, .int .u32 0, .int .u32 0, .int .u32 0, .int .u32 0, .int .u32 0, .int .u32 0, .int .u32 0, .int .u32 0, .int .u32 0, .int .u32 0, .int .u32 0, .int .u32 0] 77)).drew.drew.drew.drew.drew.drew)
   case first =>
    go_region_with (go_at_call 53; refine (left_any _ 8 mD2 (by omega) _).mono ?_; rintro e w' ⟨rfl, rfl⟩)
    all_goals (go_wp2; go_meet; case rel => exact ⟨rfl, rfl⟩)
   case rest =>
    obtain ⟨rfl, rfl⟩ := hcut
    go_wp2
    go_region
    go_wp2
    go_cut [5] (fun s5 wx => s5 = .pointer (some ⟨w.heap.size, 0, none⟩) ∧ wx = ((w.alloc (.cells #[.int .u32 (x0 : Int), .int .u32 (A2 : Int), .int .u32 (x2 : Int), .int .u32 (x3 : Int), .int .u32 (x4 : Int), .int .u32 (x5 : Int), .int .u32 (B2 : Int), .int .u32 (x7 : Int), .int .u32 (x8 : Int), .int .u32 (x9 : Int), .int .u32 (x10 : Int), .int .u32 (C2 : Int), .int .u32 (D2 : Int), .int .u32 (x13 : Int), .int .u32 (x14 : Int), .int .u32 (x15 : Int)] 77)).alloc (.cells #[.int .u32 0, .int .u32 0, .int .u32 0, .int .u32 0, .int .u32 0, .int .u32 0, .int .u32 0, .int .u32 0, .int .u32 0, .int .u32 0, .int .u32 0, .int .u32 0, .int .u32 0, .int .u32 0, .int .u32 0, .int .u32 0] 77)).drew.drew.drew.drew.drew.drew.drew.drew)
    case first =>
     go_region_with (go_at_call 53; refine (left_any _ 7 mB2 (by omega) _).mono ?_; rintro e w' ⟨rfl, rfl⟩)
     all_goals (go_wp2; go_meet; case rel => exact ⟨rfl, rfl⟩)
    case rest =>
     obtain ⟨rfl, rfl⟩ := hcut
     go_wp2
     refine bodyPost_ret (v := .agg #[.int .u32 (x0 : Int), .int .u32 (A2 : Int), .int .u32 (x2 : Int), .int .u32 (x3 : Int), .int .u32 (x4 : Int), .int .u32 (x5 : Int), .int .u32 (B2 : Int), .int .u32 (x7 : Int), .int .u32 (x8 : Int), .int .u32 (x9 : Int), .int .u32 (x10 : Int), .int .u32 (C2 : Int), .int .u32 (D2 : Int), .int .u32 (x13 : Int), .int .u32 (x14 : Int), .int .u32 (x15 : Int)]) (by simp [results, Tryd.results19, go_sem]) rfl ⟨rfl, ?_⟩
     repeat (first | exact Below.refl _ _ | refine Below.drew ?_ | refine below_alloc ?_ (Nat.le_refl _) _)
set_option maxRecDepth 100000 in
set_option maxHeartbeats 8000000 in
theorem rq6 (w : World) (x0 x1 x2 x3 x4 x5 x6 x7 x8 x9 x10 x11 x12 x13 x14 x15 A1 D1 C1 B1 A2 D2 C2 B2 : Nat) (k2 : x2 < 4294967296) (k7 : x7 < 4294967296) (k8 : x8 < 4294967296) (k13 : x13 < 4294967296)
  (hA1 : A1 = (x2 + x7) % 4294967296)
  (hD1 : D1 = rl 16 (x13 ^^^ A1))
  (hC1 : C1 = (x8 + D1) % 4294967296)
  (hB1 : B1 = rl 12 (x7 ^^^ C1))
  (hA2 : A2 = (A1 + B1) % 4294967296)
  (hD2 : D2 = rl 8 (D1 ^^^ A2))
  (hC2 : C2 = (C1 + D2) % 4294967296)
  (hB2 : B2 = rl 7 (B1 ^^^ C2)) :
  Calls Tryd.prog 43 #[.agg #[.int .u32 (x0 : Int), .int .u32 (x1 : Int), .int .u32 (x2 : Int), .int .u32 (x3 : Int), .int .u32 (x4 : Int), .int .u32 (x5 : Int), .int .u32 (x6 : Int), .int .u32 (x7 : Int), .int .u32 (x8 : Int), .int .u32 (x9 : Int), .int .u32 (x10 : Int), .int .u32 (x11 : Int), .int .u32 (x12 : Int), .int .u32 (x13 : Int), .int .u32 (x14 : Int), .int .u32 (x15 : Int)], .int .i64 2, .int .i64 7, .int .i64 8, .int .i64 13] w fun e w' => e = .returned (.agg #[.int .u32 (x0 : Int), .int .u32 (x1 : Int), .int .u32 (A2 : Int), .int .u32 (x3 : Int), .int .u32 (x4 : Int), .int .u32 (x5 : Int), .int .u32 (x6 : Int), .int .u32 (B2 : Int), .int .u32 (C2 : Int), .int .u32 (x9 : Int), .int .u32 (x10 : Int), .int .u32 (x11 : Int), .int .u32 (x12 : Int), .int .u32 (D2 : Int), .int .u32 (x14 : Int), .int .u32 (x15 : Int)]) ∧ Below w.heap.size w w' := by
 have lA1 : A1 < 4294967296 := by omega
 have rA1 : (((x2 : Nat) : Int) + ((x7 : Nat) : Int)) % 4294967296 = ((A1 : Nat) : Int) := by omega
 have lD1 : D1 < 4294967296 := by rw [hD1]; exact rl_16_lt _ (Nat.xor_lt_two_pow (n := 32) (by omega) (by omega))
 have rD1 : bits BinOp.xor IntKind.u32 (x13 : Int) (A1 : Int) = ((x13 ^^^ A1 : Nat) : Int) := u32_xor_nat _ _ (by omega) (by omega)
 have sD1 : ((rl 16 (x13 ^^^ A1) : Nat) : Int) = ((D1 : Nat) : Int) := by rw [hD1]
 have mD1 : x13 ^^^ A1 < 4294967296 := Nat.xor_lt_two_pow (n := 32) (by omega) (by omega)
 have lC1 : C1 < 4294967296 := by omega
 have rC1 : (((x8 : Nat) : Int) + ((D1 : Nat) : Int)) % 4294967296 = ((C1 : Nat) : Int) := by omega
 have lB1 : B1 < 4294967296 := by rw [hB1]; exact rl_12_lt _ (Nat.xor_lt_two_pow (n := 32) (by omega) (by omega))
 have rB1 : bits BinOp.xor IntKind.u32 (x7 : Int) (C1 : Int) = ((x7 ^^^ C1 : Nat) : Int) := u32_xor_nat _ _ (by omega) (by omega)
 have sB1 : ((rl 12 (x7 ^^^ C1) : Nat) : Int) = ((B1 : Nat) : Int) := by rw [hB1]
 have mB1 : x7 ^^^ C1 < 4294967296 := Nat.xor_lt_two_pow (n := 32) (by omega) (by omega)
 have lA2 : A2 < 4294967296 := by omega
 have rA2 : (((A1 : Nat) : Int) + ((B1 : Nat) : Int)) % 4294967296 = ((A2 : Nat) : Int) := by omega
 have lD2 : D2 < 4294967296 := by rw [hD2]; exact rl_8_lt _ (Nat.xor_lt_two_pow (n := 32) (by omega) (by omega))
 have rD2 : bits BinOp.xor IntKind.u32 (D1 : Int) (A2 : Int) = ((D1 ^^^ A2 : Nat) : Int) := u32_xor_nat _ _ (by omega) (by omega)
 have sD2 : ((rl 8 (D1 ^^^ A2) : Nat) : Int) = ((D2 : Nat) : Int) := by rw [hD2]
 have mD2 : D1 ^^^ A2 < 4294967296 := Nat.xor_lt_two_pow (n := 32) (by omega) (by omega)
 have lC2 : C2 < 4294967296 := by omega
 have rC2 : (((C1 : Nat) : Int) + ((D2 : Nat) : Int)) % 4294967296 = ((C2 : Nat) : Int) := by omega
 have lB2 : B2 < 4294967296 := by rw [hB2]; exact rl_7_lt _ (Nat.xor_lt_two_pow (n := 32) (by omega) (by omega))
 have rB2 : bits BinOp.xor IntKind.u32 (B1 : Int) (C2 : Int) = ((B1 ^^^ C2 : Nat) : Int) := u32_xor_nat _ _ (by omega) (by omega)
 have sB2 : ((rl 7 (B1 ^^^ C2) : Nat) : Int) = ((B2 : Nat) : Int) := by rw [hB2]
 have mB2 : B1 ^^^ C2 < 4294967296 := Nat.xor_lt_two_pow (n := 32) (by omega) (by omega)
 have HA1 := Lib.hid hA1
 clear hA1
 have HD1 := Lib.hid hD1
 clear hD1
 have HC1 := Lib.hid hC1
 clear hC1
 have HB1 := Lib.hid hB1
 clear hB1
 have HA2 := Lib.hid hA2
 clear hA2
 have HD2 := Lib.hid hD2
 clear hD2
 have HC2 := Lib.hid hC2
 clear hC2
 have HB2 := Lib.hid hB2
 clear hB2
 have zA1 : (0 : Int) ≤ (A1 : Int) := by omega
 have zD1 : (0 : Int) ≤ (D1 : Int) := by omega
 have zC1 : (0 : Int) ≤ (C1 : Int) := by omega
 have zB1 : (0 : Int) ≤ (B1 : Int) := by omega
 have zA2 : (0 : Int) ≤ (A2 : Int) := by omega
 have zD2 : (0 : Int) ≤ (D2 : Int) := by omega
 have zC2 : (0 : Int) ≤ (C2 : Int) := by omega
 have zB2 : (0 : Int) ≤ (B2 : Int) := by omega
 have zx2 : (0 : Int) ≤ (x2 : Int) := by omega
 have zx7 : (0 : Int) ≤ (x7 : Int) := by omega
 have zx8 : (0 : Int) ≤ (x8 : Int) := by omega
 have zx13 : (0 : Int) ≤ (x13 : Int) := by omega
 go_enter Tryd.func43, Tryd.ntmps43
 go_wp2
 go_region
 go_wp2
 go_cut [5] (fun s5 wx => s5 = .pointer (some ⟨w.heap.size, 0, none⟩) ∧ wx = ((w.alloc (.cells #[.int .u32 (x0 : Int), .int .u32 (x1 : Int), .int .u32 (A1 : Int), .int .u32 (x3 : Int), .int .u32 (x4 : Int), .int .u32 (x5 : Int), .int .u32 (x6 : Int), .int .u32 (x7 : Int), .int .u32 (x8 : Int), .int .u32 (x9 : Int), .int .u32 (x10 : Int), .int .u32 (x11 : Int), .int .u32 (x12 : Int), .int .u32 (D1 : Int), .int .u32 (x14 : Int), .int .u32 (x15 : Int)] 77)).alloc (.cells #[.int .u32 0, .int .u32 0, .int .u32 0, .int .u32 0, .int .u32 0, .int .u32 0, .int .u32 0, .int .u32 0, .int .u32 0, .int .u32 0, .int .u32 0, .int .u32 0, .int .u32 0, .int .u32 0, .int .u32 0, .int .u32 0] 77)).drew.drew)
 case first =>
  go_region_with (go_at_call 53; refine (left_any _ 16 mD1 (by omega) _).mono ?_; rintro e w' ⟨rfl, rfl⟩)
  all_goals (go_wp2; go_meet; case rel => exact ⟨rfl, rfl⟩)
 case rest =>
  obtain ⟨rfl, rfl⟩ := hcut
  go_wp2
  go_region
  go_wp2
  go_cut [5] (fun s5 wx => s5 = .pointer (some ⟨w.heap.size, 0, none⟩) ∧ wx = ((w.alloc (.cells #[.int .u32 (x0 : Int), .int .u32 (x1 : Int), .int .u32 (A1 : Int), .int .u32 (x3 : Int), .int .u32 (x4 : Int), .int .u32 (x5 : Int), .int .u32 (x6 : Int), .int .u32 (B1 : Int), .int .u32 (C1 : Int), .int .u32 (x9 : Int), .int .u32 (x10 : Int), .int .u32 (x11 : Int), .int .u32 (x12 : Int), .int .u32 (D1 : Int), .int .u32 (x14 : Int), .int .u32 (x15 : Int)] 77)).alloc (.cells #[.int .u32 0, .int .u32 0, .int .u32 0, .int .u32 0, .int .u32 0, .int .u32 0, .int .u32 0, .int .u32 0, .int .u32 0, .int .u32 0, .int .u32 0, .int .u32 0, .int .u32 0, .int .u32 0, .int .u32 0, .int .u32 0] 77)).drew.drew.drew.drew)
  case first =>
   go_region_with (go_at_call 53; refine (left_any _ 12 mB1 (by omega) _).mono ?_; rintro e w' ⟨rfl, rfl⟩)
   all_goals (go_wp2; go_meet; case rel => exact ⟨rfl, rfl⟩)
  case rest =>
   obtain ⟨rfl, rfl⟩ := hcut
   go_wp2
   go_region
   go_wp2
   go_cut [5] (fun s5 wx => s5 = .pointer (some ⟨w.heap.size, 0, none⟩) ∧ wx = ((w.alloc (.cells #[.int .u32 (x0 : Int), .int .u32 (x1 : Int), .int .u32 (A2 : Int), .int .u32 (x3 : Int), .int .u32 (x4 : Int), .int .u32 (x5 : Int), .int .u32 (x6 : Int), .int .u32 (B1 : Int), .int .u32 (C1 : Int), .int .u32 (x9 : Int), .int .u32 (x10 : Int), .int .u32 (x11 : Int), .int .u32 (x12 : Int), .int .u32 (D2 : Int), .int .u32 (x14 : Int), .int .u32 (x15 : Int)] 77)).alloc (.cells #[.int .u32 0, .int .u32 0, .int .u32 0, .int .u32 0, .int .u32 0, .int .u32 0, .int .u32 0, .int .u32 0, .int .u32 0, .int .u32 0, .int .u32 0, .int .u32 0, .int .u32 0, .int .u32 0, .int .u32 0, .int .u32 0] 77)).drew.drew.drew.drew.drew.drew)
   case first =>
    go_region_with (go_at_call 53; refine (left_any _ 8 mD2 (by omega) _).mono ?_; rintro e w' ⟨rfl, rfl⟩)
    all_goals (go_wp2; go_meet; case rel => exact ⟨rfl, rfl⟩)
   case rest =>
    obtain ⟨rfl, rfl⟩ := hcut
    go_wp2
    go_region
    go_wp2
    go_cut [5] (fun s5 wx => s5 = .pointer (some ⟨w.heap.size, 0, none⟩) ∧ wx = ((w.alloc (.cells #[.int .u32 (x0 : Int), .int .u32 (x1 : Int), .int .u32 (A2 : Int), .int .u32 (x3 : Int), .int .u32 (x4 : Int), .int .u32 (x5 : Int), .int .u32 (x6 : Int), .int .u32 (B2 : Int), .int .u32 (C2 : Int), .int .u32 (x9 : Int), .int .u32 (x10 : Int), .int .u32 (x11 : Int), .int .u32 (x12 : Int), .int .u32 (D2 : Int), .int .u32 (x14 : Int), .int .u32 (x15 : Int)] 77)).alloc (.cells #[.int .u32 0, .int .u32 0, .int .u32 0, .int .u32 0, .int .u32 0, .int .u32 0, .int .u32 0, .int .u32 0, .int .u32 0, .int .u32 0, .int .u32 0, .int .u32 0, .int .u32 0, .int .u32 0, .int .u32 0, .int .u32 0] 77)).drew.drew.drew.drew.drew.drew.drew.drew)
    case first =>
     go_region_with (go_at_call 53; refine (left_any _ 7 mB2 (by omega) _).mono ?_; rintro e w' ⟨rfl, rfl⟩)
     all_goals (go_wp2; go_meet; case rel => exact ⟨rfl, rfl⟩)
    case rest =>
     obtain ⟨rfl, rfl⟩ := hcut
     go_wp2
     refine bodyPost_ret (v := .agg #[.int .u32 (x0 : Int), .int .u32 (x1 : Int), .int .u32 (A2 : Int), .int .u32 (x3 : Int), .int .u32 (x4 : Int), .int .u32 (x5 : Int), .int .u32 (x6 : Int), .int .u32 (B2 : Int), .int .u32 (C2 : Int), .int .u32 (x9 : Int), .int .u32 (x10 : Int), .int .u32 (x11 : Int), .int .u32 (x12 : Int), .int .u32 (D2 : Int), .int .u32 (x14 : Int), .int .u32 (x15 : Int)]) (by simp [results, Tryd.results19, go_sem]) rfl ⟨rfl, ?_⟩
     repeat (first | exact Below.refl _ _ | refine Below.drew ?_ | refine below_alloc ?_ (Nat.le_refl _) _)
set_option maxRecDepth 100000 in
set_option maxHeartbeats 8000000 in
theorem rq7 (w : World) (x0 x1 x2 x3 x4 x5 x6 x7 x8 x9 x10 x11 x12 x13 x14 x15 A1 D1 C1 B1 A2 D2 C2 B2 : Nat) (k3 : x3 < 4294967296) (k4 : x4 < 4294967296) (k9 : x9 < 4294967296) (k14 : x14 < 4294967296)
  (hA1 : A1 = (x3 + x4) % 4294967296)
  (hD1 : D1 = rl 16 (x14 ^^^ A1))
  (hC1 : C1 = (x9 + D1) % 4294967296)
  (hB1 : B1 = rl 12 (x4 ^^^ C1))
  (hA2 : A2 = (A1 + B1) % 4294967296)
  (hD2 : D2 = rl 8 (D1 ^^^ A2))
  (hC2 : C2 = (C1 + D2) % 4294967296)
  (hB2 : B2 = rl 7 (B1 ^^^ C2)) :
  Calls Tryd.prog 43 #[.agg #[.int .u32 (x0 : Int), .int .u32 (x1 : Int), .int .u32 (x2 : Int), .int .u32 (x3 : Int), .int .u32 (x4 : Int), .int .u32 (x5 : Int), .int .u32 (x6 : Int), .int .u32 (x7 : Int), .int .u32 (x8 : Int), .int .u32 (x9 : Int), .int .u32 (x10 : Int), .int .u32 (x11 : Int), .int .u32 (x12 : Int), .int .u32 (x13 : Int), .int .u32 (x14 : Int), .int .u32 (x15 : Int)], .int .i64 3, .int .i64 4, .int .i64 9, .int .i64 14] w fun e w' => e = .returned (.agg #[.int .u32 (x0 : Int), .int .u32 (x1 : Int), .int .u32 (x2 : Int), .int .u32 (A2 : Int), .int .u32 (B2 : Int), .int .u32 (x5 : Int), .int .u32 (x6 : Int), .int .u32 (x7 : Int), .int .u32 (x8 : Int), .int .u32 (C2 : Int), .int .u32 (x10 : Int), .int .u32 (x11 : Int), .int .u32 (x12 : Int), .int .u32 (x13 : Int), .int .u32 (D2 : Int), .int .u32 (x15 : Int)]) ∧ Below w.heap.size w w' := by
 have lA1 : A1 < 4294967296 := by omega
 have rA1 : (((x3 : Nat) : Int) + ((x4 : Nat) : Int)) % 4294967296 = ((A1 : Nat) : Int) := by omega
 have lD1 : D1 < 4294967296 := by rw [hD1]; exact rl_16_lt _ (Nat.xor_lt_two_pow (n := 32) (by omega) (by omega))
 have rD1 : bits BinOp.xor IntKind.u32 (x14 : Int) (A1 : Int) = ((x14 ^^^ A1 : Nat) : Int) := u32_xor_nat _ _ (by omega) (by omega)
 have sD1 : ((rl 16 (x14 ^^^ A1) : Nat) : Int) = ((D1 : Nat) : Int) := by rw [hD1]
 have mD1 : x14 ^^^ A1 < 4294967296 := Nat.xor_lt_two_pow (n := 32) (by omega) (by omega)
 have lC1 : C1 < 4294967296 := by omega
 have rC1 : (((x9 : Nat) : Int) + ((D1 : Nat) : Int)) % 4294967296 = ((C1 : Nat) : Int) := by omega
 have lB1 : B1 < 4294967296 := by rw [hB1]; exact rl_12_lt _ (Nat.xor_lt_two_pow (n := 32) (by omega) (by omega))
 have rB1 : bits BinOp.xor IntKind.u32 (x4 : Int) (C1 : Int) = ((x4 ^^^ C1 : Nat) : Int) := u32_xor_nat _ _ (by omega) (by omega)
 have sB1 : ((rl 12 (x4 ^^^ C1) : Nat) : Int) = ((B1 : Nat) : Int) := by rw [hB1]
 have mB1 : x4 ^^^ C1 < 4294967296 := Nat.xor_lt_two_pow (n := 32) (by omega) (by omega)
 have lA2 : A2 < 4294967296 := by omega
 have rA2 : (((A1 : Nat) : Int) + ((B1 : Nat) : Int)) % 4294967296 = ((A2 : Nat) : Int) := by omega
 have lD2 : D2 < 4294967296 := by rw [hD2]; exact rl_8_lt _ (Nat.xor_lt_two_pow (n := 32) (by omega) (by omega))
 have rD2 : bits BinOp.xor IntKind.u32 (D1 : Int) (A2 : Int) = ((D1 ^^^ A2 : Nat) : Int) := u32_xor_nat _ _ (by omega) (by omega)
 have sD2 : ((rl 8 (D1 ^^^ A2) : Nat) : Int) = ((D2 : Nat) : Int) := by rw [hD2]
 have mD2 : D1 ^^^ A2 < 4294967296 := Nat.xor_lt_two_pow (n := 32) (by omega) (by omega)
 have lC2 : C2 < 4294967296 := by omega
 have rC2 : (((C1 : Nat) : Int) + ((D2 : Nat) : Int)) % 4294967296 = ((C2 : Nat) : Int) := by omega
 have lB2 : B2 < 4294967296 := by rw [hB2]; exact rl_7_lt _ (Nat.xor_lt_two_pow (n := 32) (by omega) (by omega))
 have rB2 : bits BinOp.xor IntKind.u32 (B1 : Int) (C2 : Int) = ((B1 ^^^ C2 : Nat) : Int) := u32_xor_nat _ _ (by omega) (by omega)
 have sB2 : ((rl 7 (B1 ^^^ C2) : Nat) : Int) = ((B2 : Nat) : Int) := by rw [hB2]
 have mB2 : B1 ^^^ C2 < 4294967296 := Nat.xor_lt_two_pow (n := 32) (by omega) (by omega)
 have HA1 := Lib.hid hA1
 clear hA1
 have HD1 := Lib.hid hD1
 clear hD1
 have HC1 := Lib.hid hC1
 clear hC1
 have HB1 := Lib.hid hB1
 clear hB1
 have HA2 := Lib.hid hA2
 clear hA2
 have HD2 := Lib.hid hD2
 clear hD2
 have HC2 := Lib.hid hC2
 clear hC2
 have HB2 := Lib.hid hB2
 clear hB2
 have zA1 : (0 : Int) ≤ (A1 : Int) := by omega
 have zD1 : (0 : Int) ≤ (D1 : Int) := by omega
 have zC1 : (0 : Int) ≤ (C1 : Int) := by omega
 have zB1 : (0 : Int) ≤ (B1 : Int) := by omega
 have zA2 : (0 : Int) ≤ (A2 : Int) := by omega
 have zD2 : (0 : Int) ≤ (D2 : Int) := by omega
 have zC2 : (0 : Int) ≤ (C2 : Int) := by omega
 have zB2 : (0 : Int) ≤ (B2 : Int) := by omega
 have zx3 : (0 : Int) ≤ (x3 : Int) := by omega
 have zx4 : (0 : Int) ≤ (x4 : Int) := by omega
 have zx9 : (0 : Int) ≤ (x9 : Int) := by omega
 have zx14 : (0 : Int) ≤ (x14 : Int) := by omega
 go_enter Tryd.func43, Tryd.ntmps43
 go_wp2
 go_region
 go_wp2
 go_cut [5] (fun s5 wx => s5 = .pointer (some ⟨w.heap.size, 0, none⟩) ∧ wx = ((w.alloc (.cells #[.int .u32 (x0 : Int), .int .u32 (x1 : Int), .int .u32 (x2 : Int), .int .u32 (A1 : Int), .int .u32 (x4 : Int), .int .u32 (x5 : Int), .int .u32 (x6 : Int), .int .u32 (x7 : Int), .int .u32 (x8 : Int), .int .u32 (x9 : Int), .int .u32 (x10 : Int), .int .u32 (x11 : Int), .int .u32 (x12 : Int), .int .u32 (x13 : Int), .int .u32 (D1 : Int), .int .u32 (x15 : Int)] 77)).alloc (.cells #[.int .u32 0, .int .u32 0, .int .u32 0, .int .u32 0, .int .u32 0, .int .u32 0, .int .u32 0, .int .u32 0, .int .u32 0, .int .u32 0, .int .u32 0, .int .u32 0, .int .u32 0, .int .u32 0, .int .u32 0, .int .u32 0] 77)).drew.drew)
 case first =>
  go_region_with (go_at_call 53; refine (left_any _ 16 mD1 (by omega) _).mono ?_; rintro e w' ⟨rfl, rfl⟩)
  all_goals (go_wp2; go_meet; case rel => exact ⟨rfl, rfl⟩)
 case rest =>
  obtain ⟨rfl, rfl⟩ := hcut
  go_wp2
  go_region
  go_wp2
  go_cut [5] (fun s5 wx => s5 = .pointer (some ⟨w.heap.size, 0, none⟩) ∧ wx = ((w.alloc (.cells #[.int .u32 (x0 : Int), .int .u32 (x1 : Int), .int .u32 (x2 : Int), .int .u32 (A1 : Int), .int .u32 (B1 : Int), .int .u32 (x5 : Int), .int .u32 (x6 : Int), .int .u32 (x7 : Int), .int .u32 (x8 : Int), .int .u32 (C1 : Int), .int .u32 (x10 : Int), .int .u32 (x11 : Int), .int .u32 (x12 : Int), .int .u32 (x13 : Int), .int .u32 (D1 : Int), .int .u32 (x15 : Int)] 77)).alloc (.cells #[.int .u32 0, .int .u32 0, .int .u32 0, .int .u32 0, .int .u32 0, .int .u32 0, .int .u32 0, .int .u32 0, .int .u32 0, .int .u32 0, .int .u32 0, .int .u32 0, .int .u32 0, .int .u32 0, .int .u32 0, .int .u32 0] 77)).drew.drew.drew.drew)
  case first =>
   go_region_with (go_at_call 53; refine (left_any _ 12 mB1 (by omega) _).mono ?_; rintro e w' ⟨rfl, rfl⟩)
   all_goals (go_wp2; go_meet; case rel => exact ⟨rfl, rfl⟩)
  case rest =>
   obtain ⟨rfl, rfl⟩ := hcut
   go_wp2
   go_region
   go_wp2
   go_cut [5] (fun s5 wx => s5 = .pointer (some ⟨w.heap.size, 0, none⟩) ∧ wx = ((w.alloc (.cells #[.int .u32 (x0 : Int), .int .u32 (x1 : Int), .int .u32 (x2 : Int), .int .u32 (A2 : Int), .int .u32 (B1 : Int), .int .u32 (x5 : Int), .int .u32 (x6 : Int), .int .u32 (x7 : Int), .int .u32 (x8 : Int), .int .u32 (C1 : Int), .int .u32 (x10 : Int), .int .u32 (x11 : Int), .int .u32 (x12 : Int), .int .u32 (x13 : Int), .int .u32 (D2 : Int), .int .u32 (x15 : Int)] 77)).alloc (.cells #[.int .u32 0, .int .u32 0, .int .u32 0, .int .u32 0, .int .u32 0, .int .u32 0, .int .u32 0, .int .u32 0, .int .u32 0, .int .u32 0, .int .u32 0, .int .u32 0, .int .u32 0, .int .u32 0, .int .u32 0, .int .u32 0] 77)).drew.drew.drew.drew.drew.drew)
   case first =>
    go_region_with (go_at_call 53; refine (left_any _ 8 mD2 (by omega) _).mono ?_; rintro e w' ⟨rfl, rfl⟩)
    all_goals (go_wp2; go_meet; case rel => exact ⟨rfl, rfl⟩)
   case rest =>
    obtain ⟨rfl, rfl⟩ := hcut
    go_wp2
    go_region
    go_wp2
    go_cut [5] (fun s5 wx => s5 = .pointer (some ⟨w.heap.size, 0, none⟩) ∧ wx = ((w.alloc (.cells #[.int .u32 (x0 : Int), .int .u32 (x1 : Int), .int .u32 (x2 : Int), .int .u32 (A2 : Int), .int .u32 (B2 : Int), .int .u32 (x5 : Int), .int .u32 (x6 : Int), .int .u32 (x7 : Int), .int .u32 (x8 : Int), .int .u32 (C2 : Int), .int .u32 (x10 : Int), .int .u32 (x11 : Int), .int .u32 (x12 : Int), .int .u32 (x13 : Int), .int .u32 (D2 : Int), .int .u32 (x15 : Int)] 77)).alloc (.cells #[.int .u32 0, .int .u32 0, .int .u32 0, .int .u32 0, .int .u32 0, .int .u32 0, .int .u32 0, .int .u32 0, .int .u32 0, .int .u32 0, .int .u32 0, .int .u32 0, .int .u32 0, .int .u32 0, .int .u32 0, .int .u32 0] 77)).drew.drew.drew.drew.drew.drew.drew.drew)
    case first =>
     go_region_with (go_at_call 53; refine (left_any _ 7 mB2 (by omega) _).mono ?_; rintro e w' ⟨rfl, rfl⟩)
     all_goals (go_wp2; go_meet; case rel => exact ⟨rfl, rfl⟩)
    case rest =>
     obtain ⟨rfl, rfl⟩ := hcut
     go_wp2
     refine bodyPost_ret (v := .agg #[.int .u32 (x0 : Int), .int .u32 (x1 : Int), .int .u32 (x2 : Int), .int .u32 (A2 : Int), .int .u32 (B2 : Int), .int .u32 (x5 : Int), .int .u32 (x6 : Int), .int .u32 (x7 : Int), .int .u32 (x8 : Int), .int .u32 (C2 : Int), .int .u32 (x10 : Int), .int .u32 (x11 : Int), .int .u32 (x12 : Int), .int .u32 (x13 : Int), .int .u32 (D2 : Int), .int .u32 (x15 : Int)]) (by simp [results, Tryd.results19, go_sem]) rfl ⟨rfl, ?_⟩
     repeat (first | exact Below.refl _ _ | refine Below.drew ?_ | refine below_alloc ?_ (Nat.le_refl _) _)
end Go.Proofs.YtlbfohpkngmaoaaDoor.Ch
