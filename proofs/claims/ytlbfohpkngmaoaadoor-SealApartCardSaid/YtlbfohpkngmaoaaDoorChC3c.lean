import Derived.Test.YtlbfohpkngmaoaaDoorChC3a
namespace Go.Proofs.YtlbfohpkngmaoaaDoor.Ch
open Go.RowKit
set_option maxRecDepth 100000 in
set_option maxHeartbeats 8000000 in
theorem rq3 (w : World) (x0 x1 x2 x3 x4 x5 x6 x7 x8 x9 x10 x11 x12 x13 x14 x15 A1 D1 C1 B1 A2 D2 C2 B2 : Nat) (k3 : x3 < 4294967296) (k7 : x7 < 4294967296) (k11 : x11 < 4294967296) (k15 : x15 < 4294967296)
  (hA1 : A1 = (x3 + x7) % 4294967296)
  (hD1 : D1 = rl 16 (x15 ^^^ A1))
  (hC1 : C1 = (x11 + D1) % 4294967296)
  (hB1 : B1 = rl 12 (x7 ^^^ C1))
  (hA2 : A2 = (A1 + B1) % 4294967296)
  (hD2 : D2 = rl 8 (D1 ^^^ A2))
  (hC2 : C2 = (C1 + D2) % 4294967296)
  (hB2 : B2 = rl 7 (B1 ^^^ C2)) :
  Calls Tryd.prog 43 #[.agg #[.int .u32 (x0 : Int), .int .u32 (x1 : Int), .int .u32 (x2 : Int), .int .u32 (x3 : Int), .int .u32 (x4 : Int), .int .u32 (x5 : Int), .int .u32 (x6 : Int), .int .u32 (x7 : Int), .int .u32 (x8 : Int), .int .u32 (x9 : Int), .int .u32 (x10 : Int), .int .u32 (x11 : Int), .int .u32 (x12 : Int), .int .u32 (x13 : Int), .int .u32 (x14 : Int), .int .u32 (x15 : Int)], .int .i64 3, .int .i64 7, .int .i64 11, .int .i64 15] w fun e w' => e = .returned (.agg #[.int .u32 (x0 : Int), .int .u32 (x1 : Int), .int .u32 (x2 : Int), .int .u32 (A2 : Int), .int .u32 (x4 : Int), .int .u32 (x5 : Int), .int .u32 (x6 : Int), .int .u32 (B2 : Int), .int .u32 (x8 : Int), .int .u32 (x9 : Int), .int .u32 (x10 : Int), .int .u32 (C2 : Int), .int .u32 (x12 : Int), .int .u32 (x13 : Int), .int .u32 (x14 : Int), .int .u32 (D2 : Int)]) ∧ Below w.heap.size w w' := by
 have lA1 : A1 < 4294967296 := by omega
 have rA1 : (((x3 : Nat) : Int) + ((x7 : Nat) : Int)) % 4294967296 = ((A1 : Nat) : Int) := by omega
 have lD1 : D1 < 4294967296 := by rw [hD1]; exact rl_16_lt _ (Nat.xor_lt_two_pow (n := 32) (by omega) (by omega))
 have rD1 : bits BinOp.xor IntKind.u32 (x15 : Int) (A1 : Int) = ((x15 ^^^ A1 : Nat) : Int) := u32_xor_nat _ _ (by omega) (by omega)
 have sD1 : ((rl 16 (x15 ^^^ A1) : Nat) : Int) = ((D1 : Nat) : Int) := by rw [hD1]
 have mD1 : x15 ^^^ A1 < 4294967296 := Nat.xor_lt_two_pow (n := 32) (by omega) (by omega)
 have lC1 : C1 < 4294967296 := by omega
 have rC1 : (((x11 : Nat) : Int) + ((D1 : Nat) : Int)) % 4294967296 = ((C1 : Nat) : Int) := by omega
 have lB1 : B1 < 4294967296 := by rw [hB1]; exact rl_12_lt _ (Nat.xor_lt_two_pow (n := 32) (by omega) (by omega))
 have rB1 : bits BinOp.xor IntKind.u32 (x7 : Int) (C1 : Int) = ((x7 ^^^ C1 : Nat) : Int) := u32_xor_nat _ _ (by omega) (by omega)
 have sB1 : ((rl 12 (x7 ^^^ C1) : Nat) : Int) = ((B1 : Nat) : Int) := by rw [hB1]
 have mB1 : x7 ^^^ C1 < 4294967296 := Nat.xor_lt_two_pow (n := 32) (by omega) (by omega)
 have lA2 : A2 < 4294967296 := by omega
 have rA2 : (((A1 : Nat) : Int) + ((B1 : Nat) : Int)) % 4294967296 = ((A2 : Nat) : Int) := by omega
 have lD2 : D2 < 4294967296 := by rw [hD2]; exact rl_8_lt _ (Nat.xor_lt_two_pow (n := 32) (by omega) (by omega))
 have rD2 : bits BinOp.xor IntKind.u32 (D1 : Int) (A2 : Int) = ((D1 ^^^ A2 : Nat) : Int) := u32_xor_nat _ _ (by omega) (by omega)
 have sD2 : ((rl 8 (D1 ^^^ A2) : Nat) : Int) = ((D2 : Nat) : Int) := by rw [hD2]
 have mD2 : D1 ^^^ A2 < 4294967296 := Nat.xor_lt_two_pow (n := 32) (by omega) (by omega)
 have lC2 : C2 < 4294967296 := by omega
 have rC2 : (((C1 : Nat) : Int) + ((D2 : Nat) : Int)) % 4294967296 = ((C2 : Nat) : Int) := by omega
 have lB2 : B2 < 4294967296 := by rw [hB2]; exact rl_7_lt _ (Nat.xor_lt_two_pow (n := 32) (by omega) (by omega))
 have rB2 : bits BinOp.xor IntKind.u32 (B1 : Int) (C2 : Int) = ((B1 ^^^ C2 : Nat) : Int) := u32_xor_nat _ _ (by omega) (by omega)
 have sB2 : ((rl 7 (B1 ^^^ C2) : Nat) : Int) = ((B2 : Nat) : Int) := by rw [hB2]
 have mB2 : B1 ^^^ C2 < 4294967296 := Nat.xor_lt_two_pow (n := 32) (by omega) (by omega)
 have HA1 := Lib.hid hA1
 clear hA1
 have HD1 := Lib.hid hD1
 clear hD1
 have HC1 := Lib.hid hC1
 clear hC1
 have HB1 := Lib.hid hB1
 clear hB1
 have HA2 := Lib.hid hA2
 clear hA2
 have HD2 := Lib.hid hD2
 clear hD2
 have HC2 := Lib.hid hC2
 clear hC2
 have HB2 := Lib.hid hB2
 clear hB2
 have zA1 : (0 : Int) ≤ (A1 : Int) := by omega
 have zD1 : (0 : Int) ≤ (D1 : Int) := by omega
 have zC1 : (0 : Int) ≤ (C1 : Int) := by omega
 have zB1 : (0 : Int) ≤ (B1 : Int) := by omega
 have zA2 : (0 : Int) ≤ (A2 : Int) := by omega
 have zD2 : (0 : Int) ≤ (D2 : Int) := by omega
 have zC2 : (0 : Int) ≤ (C2 : Int) := by omega
 have zB2 : (0 : Int) ≤ (B2 : Int) := by omega
 have zx3 : (0 : Int) ≤ (x3 : Int) := by omega
 have zx7 : (0 : Int) ≤ (x7 : Int) := by omega
 have zx11 : (0 : Int) ≤ (x11 : Int) := by omega
 have zx15 : (0 : Int) ≤ (x15 : Int) := by omega
 go_enter Tryd.func43, Tryd.ntmps43
 go_wp2
 go_region
 go_wp2
 go_cut [5] (fun s5 wx => s5 = .pointer (some ⟨w.heap.size, 0, none⟩) ∧ wx = ((w.alloc (.cells #[.int .u32 (x0 : Int), .int .u32 (x1 : Int), .int .u32 (x2 : Int), .int .u32 (A1 : Int), .int .u32 (x4 : Int), .int .u32 (x5 : Int), .int .u32 (x6 : Int), .int .u32 (x7 : Int), .int .u32 (x8 : Int), .int .u32 (x9 : Int), .int .u32 (x10 : Int), .int .u32 (x11 : Int), .int .u32 (x12 : Int), .int .u32 (x13 : Int), .int .u32 (x14 : Int), .int .u32 (D1 : Int)] 77)).alloc (.cells #[.int .u32 0, .int .u32 0, .int .u32 0, .int .u32 0, .int .u32 0, .int .u32 0, .int .u32 0, .int .u32 0, .int .u32 0, .int .u32 0, .int .u32 0, .int .u32 0, .int .u32 0, .int .u32 0, .int .u32 0, .int .u32 0] 77)).drew.drew)
 case first =>
  go_region_with (go_at_call 53; refine (left_any _ 16 mD1 (by omega) _).mono ?_; rintro e w' ⟨rfl, rfl⟩)
  all_goals (go_wp2; go_meet; case rel => exact ⟨rfl, rfl⟩)
 case rest =>
  obtain ⟨rfl, rfl⟩ := hcut
  go_wp2
  go_region
  go_wp2
  go_cut [5] (fun s5 wx => s5 = .pointer (some ⟨w.heap.size, 0, none⟩) ∧ wx = ((w.alloc (.cells #[.int .u32 (x0 : Int), .int .u32 (x1 : Int), .int .u32 (x2 : Int), .int .u32 (A1 : Int), .int .u32 (x4 : Int), .int .u32 (x5 : Int), .int .u32 (x6 : Int), .int .u32 (B1 : Int), .int .u32 (x8 : Int), .int .u32 (x9 : Int), .int .u32 (x10 : Int), .int .u32 (C1 : Int), .int .u32 (x12 : Int), .int .u32 (x13 : Int), .int .u32 (x14 : Int), .int .u32 (D1 : Int)] 77)).alloc (.cells #[.int .u32 0, .int .u32 0, .int .u32 0, .int .u32 0, .int .u32 0, .int .u32 0, .int .u32 0, .int .u32 0, .int .u32 0, .int .u32 0, .int .u32 0, .int .u32 0, .int .u32 0, .int .u32 0, .int .u32 0, .int .u32 0] 77)).drew.drew.drew.drew)
  case first =>
   go_region_with (go_at_call 53; refine (left_any _ 12 mB1 (by omega) _).mono ?_; rintro e w' ⟨rfl, rfl⟩)
   all_goals (go_wp2; go_meet; case rel => exact ⟨rfl, rfl⟩)
  case rest =>
   obtain ⟨rfl, rfl⟩ := hcut
   go_wp2
   go_region
   go_wp2
   go_cut [5] (fun s5 wx => s5 = .pointer (some ⟨w.heap.size, 0, none⟩) ∧ wx = ((w.alloc (.cells #[.int .u32 (x0 : Int), .int .u32 (x1 : Int), .int .u32 (x2 : Int), .int .u32 (A2 : Int), .int .u32 (x4 : Int), .int .u32 (x5 : Int), .int .u32 (x6 : Int), .int .u32 (B1 : Int), .int .u32 (x8 : Int), .int .u32 (x9 : Int), .int .u32 (x10 : Int), .int .u32 (C1 : Int), .int .u32 (x12 : Int), .int .u32 (x13 : Int), .int .u32 (x14 : Int), .int .u32 (D2 : Int)] 77)).alloc (.cells #[.int .u32 0, .int .u32 0, .int .u32 0, .int .u32 0, .int .u32 0, .int .u32 0, .int .u32 0, .int .u32 0, .int .u32 0, .int .u32 0, .int .u32 0, .int .u32 0, .int .u32 0, .int .u32 0, .int .u32 0, .int .u32 0] 77)).drew.drew.drew.drew.drew.drew)
   case first =>
    go_region_with (go_at_call 53; refine (left_any _ 8 mD2 (by omega) _).mono ?_; rintro e w' ⟨rfl, rfl⟩)
    all_goals (go_wp2; go_meet; case rel => exact ⟨rfl, rfl⟩)
   case rest =>
    obtain ⟨rfl, rfl⟩ := hcut
    go_wp2
    go_region
    go_wp2
    go_cut [5] (fun s5 wx => s5 = .pointer (some ⟨w.heap.size, 0, none⟩) ∧ wx = ((w.alloc (.cells #[.int .u32 (x0 : Int), .int .u32 (x1 : Int), .int .u32 (x2 : Int), .int .u32 (A2 : Int), .int .u32 (x4 : Int), .int .u32 (x5 : Int), .int .u32 (x6 : Int), .int .u32 (B2 : Int), .int .u32 (x8 : Int), .int .u32 (x9 : Int), .int .u32 (x10 : Int), .int .u32 (C2 : Int), .int .u32 (x12 : Int), .int .u32 (x13 : Int), .int .u32 (x14 : Int), .int .u32 (D2 : Int)] 77)).alloc (.cells #[.int .u32 0, .int .u32 0, .int .u32 0, .int .u32 0, .int .u32 0, .int .u32 0, .int .u32 0, .int .u32 0, .int .u32 0, .int .u32 0, .int .u32 0, .int .u32 0, .int .u32 0, .int .u32 0, .int .u32 0, .int .u32 0] 77)).drew.drew.drew.drew.drew.drew.drew.drew)
    case first =>
     go_region_with (go_at_call 53; refine (left_any _ 7 mB2 (by omega) _).mono ?_; rintro e w' ⟨rfl, rfl⟩)
     all_goals (go_wp2; go_meet; case rel => exact ⟨rfl, rfl⟩)
    case rest =>
     obtain ⟨rfl, rfl⟩ := hcut
     go_wp2
     refine bodyPost_ret (v := .agg #[.int .u32 (x0 : Int), .int .u32 (x1 : Int), .int .u32 (x2 : Int), .int .u32 (A2 : Int), .int .u32 (x4 : Int), .int .u32 (x5 : Int), .int .u32 (x6 : Int), .int .u32 (B2 : Int), .int .u32 (x8 : Int), .int .u32 (x9 : Int), .int .u32 (x10 : Int), .int .u32 (C2 : Int), .int .u32 (x12 : Int), .int .u32 (x13 : Int), .int .u32 (x14 : Int), .int .u32 (D2 : Int)]) (by simp [results, Tryd.results19, go_sem]) rfl ⟨rfl, ?_⟩
     repeat (first | exact Below.refl _ _ | refine Below.drew ?_ | refine below_alloc ?_ (Nat.le_refl _) _)
set_option maxRecDepth 100000 in
set_option maxHeartbeats 8000000 in
theorem rq4 (w : World) (x0 x1 x2 x3 x4 x5 x6 x7 x8 x9 x10 x11 x12 x13 x14 x15 A1 D1 C1 B1 A2 D2 C2 B2 : Nat) (k0 : x0 < 4294967296) (k5 : x5 < 4294967296) (k10 : x10 < 4294967296) (k15 : x15 < 4294967296)
  (hA1 : A1 = (x0 + x5) % 4294967296)
  (hD1 : D1 = rl 16 (x15 ^^^ A1))
  (hC1 : C1 = (x10 + D1) % 4294967296)
  (hB1 : B1 = rl 12 (x5 ^^^ C1))
  (hA2 : A2 = (A1 + B1) % 4294967296)
  (hD2 : D2 = rl 8 (D1 ^^^ A2))
  (hC2 : C2 = (C1 + D2) % 4294967296)
  (hB2 : B2 = rl 7 (B1 ^^^ C2)) :
  Calls Tryd.prog 43 #[.agg #[.int .u32 (x0 : Int), .int .u32 (x1 : Int), .int .u32 (x2 : Int), .int .u32 (x3 : Int), .int .u32 (x4 : Int), .int .u32 (x5 : Int), .int .u32 (x6 : Int), .int .u32 (x7 : Int), .int .u32 (x8 : Int), .int .u32 (x9 : Int), .int .u32 (x10 : Int), .int .u32 (x11 : Int), .int .u32 (x12 : Int), .int .u32 (x13 : Int), .int .u32 (x14 : Int), .int .u32 (x15 : Int)], .int .i64 0, .int .i64 5, .int .i64 10, .int .i64 15] w fun e w' => e = .returned (.agg #[.int .u32 (A2 : Int), .int .u32 (x1 : Int), .int .u32 (x2 : Int), .int .u32 (x3 : Int), .int .u32 (x4 : Int), .int .u32 (B2 : Int), .int .u32 (x6 : Int), .int .u32 (x7 : Int), .int .u32 (x8 : Int), .int .u32 (x9 : Int), .int .u32 (C2 : Int), .int .u32 (x11 : Int), .int .u32 (x12 : Int), .int .u32 (x13 : Int), .int .u32 (x14 : Int), .int .u32 (D2 : Int)]) ∧ Below w.heap.size w w' := by
 have lA1 : A1 < 4294967296 := by omega
 have rA1 : (((x0 : Nat) : Int) + ((x5 : Nat) : Int)) % 4294967296 = ((A1 : Nat) : Int) := by omega
 have lD1 : D1 < 4294967296 := by rw [hD1]; exact rl_16_lt _ (Nat.xor_lt_two_pow (n := 32) (by omega) (by omega))
 have rD1 : bits BinOp.xor IntKind.u32 (x15 : Int) (A1 : Int) = ((x15 ^^^ A1 : Nat) : Int) := u32_xor_nat _ _ (by omega) (by omega)
 have sD1 : ((rl 16 (x15 ^^^ A1) : Nat) : Int) = ((D1 : Nat) : Int) := by rw [hD1]
 have mD1 : x15 ^^^ A1 < 4294967296 := Nat.xor_lt_two_pow (n := 32) (by omega) (by omega)
 have lC1 : C1 < 4294967296 := by omega
 have rC1 : (((x10 : Nat) : Int) + ((D1 : Nat) : Int)) % 4294967296 = ((C1 : Nat) : Int) := by omega
 have lB1 : B1 < 4294967296 := by rw [hB1]; exact rl_12_lt _ (Nat.xor_lt_two_pow (n := 32) (by omega) (by omega))
 have rB1 : bits BinOp.xor IntKind.u32 (x5 : Int) (C1 : Int) = ((x5 ^^^ C1 : Nat) : Int) := u32_xor_nat _ _ (by omega) (by omega)
 have sB1 : ((rl 12 (x5 ^^^ C1) : Nat) : Int) = ((B1 : Nat) : Int) := by rw [hB1]
 have mB1 : x5 ^^^ C1 < 4294967296 := Nat.xor_lt_two_pow (n := 32) (by omega) (by omega)
 have lA2 : A2 < 4294967296 := by omega
 have rA2 : (((A1 : Nat) : Int) + ((B1 : Nat) : Int)) % 4294967296 = ((A2 : Nat) : Int) := by omega
 have lD2 : D2 < 4294967296 := by rw [hD2]; exact rl_8_lt _ (Nat.xor_lt_two_pow (n := 32) (by omega) (by omega))
 have rD2 : bits BinOp.xor IntKind.u32 (D1 : Int) (A2 : Int) = ((D1 ^^^ A2 : Nat) : Int) := u32_xor_nat _ _ (by omega) (by omega)
 have sD2 : ((rl 8 (D1 ^^^ A2) : Nat) : Int) = ((D2 : Nat) : Int) := by rw [hD2]
 have mD2 : D1 ^^^ A2 < 4294967296 := Nat.xor_lt_two_pow (n := 32) (by omega) (by omega)
 have lC2 : C2 < 4294967296 := by omega
 have rC2 : (((C1 : Nat) : Int) + ((D2 : Nat) : Int)) % 4294967296 = ((C2 : Nat) : Int) := by omega
 have lB2 : B2 < 4294967296 := by rw [hB2]; exact rl_7_lt _ (Nat.xor_lt_two_pow (n := 32) (by omega) (by omega))
 have rB2 : bits BinOp.xor IntKind.u32 (B1 : Int) (C2 : Int) = ((B1 ^^^ C2 : Nat) : Int) := u32_xor_nat _ _ (by omega) (by omega)
 have sB2 : ((rl 7 (B1 ^^^ C2) : Nat) : Int) = ((B2 : Nat) : Int) := by rw [hB2]
 have mB2 : B1 ^^^ C2 < 4294967296 := Nat.xor_lt_two_pow (n := 32) (by omega) (by omega)
 have HA1 := Lib.hid hA1
 clear hA1
 have HD1 := Lib.hid hD1
 clear hD1
 have HC1 := Lib.hid hC1
 clear hC1
 have HB1 := Lib.hid hB1
 clear hB1
 have HA2 := Lib.hid hA2
 clear hA2
 have HD2 := Lib.hid hD2
 clear hD2
 have HC2 := Lib.hid hC2
 clear hC2
 have HB2 := Lib.hid hB2
 clear hB2
 have zA1 : (0 : Int) ≤ (A1 : Int) := by omega
 have zD1 : (0 : Int) ≤ (D1 : Int) := by omega
 have zC1 : (0 : Int) ≤ (C1 : Int) := by omega
 have zB1 : (0 : Int) ≤ (B1 : Int) := by omega
 have zA2 : (0 : Int) ≤ (A2 : Int) := by omega
 have zD2 : (0 : Int) ≤ (D2 : Int) := by omega
 have zC2 : (0 : Int) ≤ (C2 : Int) := by omega
 have zB2 : (0 : Int) ≤ (B2 : Int) := by omega
 have zx0 : (0 : Int) ≤ (x0 : Int) := by omega
 have zx5 : (0 : Int) ≤ (x5 : Int) := by omega
 have zx10 : (0 : Int) ≤ (x10 : Int) := by omega
 have zx15 : (0 : Int) ≤ (x15 : Int) := by omega
 go_enter Tryd.func43, Tryd.ntmps43
 go_wp2
 go_region
 go_wp2
 go_cut [5] (fun s5 wx => s5 = .pointer (some ⟨w.heap.size, 0, none⟩) ∧ wx = ((w.alloc (.cells #[.int .u32 (A1 : Int), .int .u32 (x1 : Int), .int .u32 (x2 : Int), .int .u32 (x3 : Int), .int .u32 (x4 : Int), .int .u32 (x5 : Int), .int .u32 (x6 : Int), .int .u32 (x7 : Int), .int .u32 (x8 : Int), .int .u32 (x9 : Int), .int .u32 (x10 : Int), .int .u32 (x11 : Int), .int .u32 (x12 : Int), .int .u32 (x13 : Int), .int .u32 (x14 : Int), .int .u32 (D1 : Int)] 77)).alloc (.cells #[.int .u32 0, .int .u32 0, .int .u32 0, .int .u32 0, .int .u32 0, .int .u32 0, .int .u32 0, .int .u32 0, .int .u32 0, .int .u32 0, .int .u32 0, .int .u32 0, .int .u32 0, .int .u32 0, .int .u32 0, .int .u32 0] 77)).drew.drew)
 case first =>
  go_region_with (go_at_call 53; refine (left_any _ 16 mD1 (by omega) _).mono ?_; rintro e w' ⟨rfl, rfl⟩)
  all_goals (go_wp2; go_meet; case rel => exact ⟨rfl, rfl⟩)
 case rest =>
  obtain ⟨rfl, rfl⟩ := hcut
  go_wp2
  go_region
  go_wp2
  go_cut [5] (fun s5 wx => s5 = .pointer (some ⟨w.heap.size, 0, none⟩) ∧ wx = ((w.alloc (.cells #[.int .u32 (A1 : Int), .int .u32 (x1 : Int), .int .u32 (x2 : Int), .int .u32 (x3 : Int), .int .u32 (x4 : Int), .int .u32 (B1 : Int), .int .u32 (x6 : Int), .int .u32 (x7 : Int), .int .u32 (x8 : Int), .int .u32 (x9 : Int), .int .u32 (C1 : Int), .int .u32 (x11 : Int), .int .u32 (x12 : Int), .int .u32 (x13 : Int), .int .u32 (x14 : Int), .int .u32 (D1 : Int)] 77)).alloc (.cells #[.int .u32 0, .int .u32 0, .int .u32 0, .int .u32 0, .int .u32 0, .int .u32 0, .int .u32 0, .int .u32 0, .int .u32 0, .int .u32 0, .int .u32 0, .int .u32 0, .int .u32 0, .int .u32 0, .int .u32 0, .int .u32 0] 77)).drew.drew.drew.drew)
  case first =>
   go_region_with (go_at_call 53; refine (left_any _ 12 mB1 (by omega) _).mono ?_; rintro e w' ⟨rfl, rfl⟩)
   all_goals (go_wp2; go_meet; case rel => exact ⟨rfl, rfl⟩)
  case rest =>
   obtain ⟨rfl, rfl⟩ := hcut
   go_wp2
   go_region
   go_wp2
   go_cut [5] (fun s5 wx => s5 = .pointer (some ⟨w.heap.size, 0, none⟩) ∧ wx = ((w.alloc (.cells #[.int .u32 (A2 : Int), .int .u32 (x1 : Int), .int .u32 (x2 : Int), .int .u32 (x3 : Int), .int .u32 (x4 : Int), .int .u32 (B1 : Int), .int .u32 (x6 : Int), .int .u32 (x7 : Int), .int .u32 (x8 : Int), .int .u32 (x9 : Int), .int .u32 (C1 : Int), .int .u32 (x11 : Int), .int .u32 (x12 : Int), .int .u32 (x13 : Int), .int .u32 (x14 : Int), .int .u32 (D2 : Int)] 77)).alloc (.cells #[.int .u32 0, .int .u32 0, .int .u32 0, .int .u32 0, .int .u32 0, .int .u32 0, .int .u32 0, .int .u32 0, .int .u32 0, .int .u32 0, .int .u32 0, .int .u32 0, .int .u32 0, .int .u32 0, .int .u32 0, .int .u32 0] 77)).drew.drew.drew.drew.drew.drew)
   case first =>
    go_region_with (go_at_call 53; refine (left_any _ 8 mD2 (by omega) _).mono ?_; rintro e w' ⟨rfl, rfl⟩)
    all_goals (go_wp2; go_meet; case rel => exact ⟨rfl, rfl⟩)
   case rest =>
    obtain ⟨rfl, rfl⟩ := hcut
    go_wp2
    go_region
    go_wp2
    go_cut [5] (fun s5 wx => s5 = .pointer (some ⟨w.heap.size, 0, none⟩) ∧ wx = ((w.alloc (.cells #[.int .u32 (A2 : Int), .int .u32 (x1 : Int), .int .u32 (x2 : Int), .int .u32 (x3 : Int), .int .u32 (x4 : Int), .int .u32 (B2 : Int), .int .u32 (x6 : Int), .int .u32 (x7 : Int), .int .u32 (x8 : Int), .int .u32 (x9 : Int), .int .u32 (C2 : Int), .int .u32 (x11 : Int), .int .u32 (x12 : Int), .int .u32 (x13 : Int), .int .u32 (x14 : Int), .int .u32 (D2 : Int)] 77)).alloc (.cells #[.int .u32 0, .int .u32 0, .int .u32 0, .int .u32 0, .int .u32 0, .int .u32 0, .int .u32 0, .int .u32 0, .int .u32 0, .int .u32 0, .int .u32 0, .int .u32 0, .int .u32 0, .int .u32 0, .int .u32 0, .int .u32 0] 77)).drew.drew.drew.drew.drew.drew.drew.drew)
    case first =>
     go_region_with (go_at_call 53; refine (left_any _ 7 mB2 (by omega) _).mono ?_; rintro e w' ⟨rfl, rfl⟩)
     all_goals (go_wp2; go_meet; case rel => exact ⟨rfl, rfl⟩)
    case rest =>
     obtain ⟨rfl, rfl⟩ := hcut
     go_wp2
     refine bodyPost_ret (v := .agg #[.int .u32 (A2 : Int), .int .u32 (x1 : Int), .int .u32 (x2 : Int), .int .u32 (x3 : Int), .int .u32 (x4 : Int), .int .u32 (B2 : Int), .int .u32 (x6 : Int), .int .u32 (x7 : Int), .int .u32 (x8 : Int), .int .u32 (x9 : Int), .int .u32 (C2 : Int), .int .u32 (x11 : Int), .int .u32 (x12 : Int), .int .u32 (x13 : Int), .int .u32 (x14 : Int), .int .u32 (D2 : Int)]) (by simp [results, Tryd.results19, go_sem]) rfl ⟨rfl, ?_⟩
     repeat (first | exact Below.refl _ _ | refine Below.drew ?_ | refine below_alloc ?_ (Nat.le_refl _) _)
end Go.Proofs.YtlbfohpkngmaoaaDoor.Ch
