import Derived.Test.YtlbfohpkngmaoaaDoorChC0
namespace Go.Proofs.YtlbfohpkngmaoaaDoor.Ch
open Go.RowKit
set_option maxHeartbeats 8000000 in
theorem quarter_eq (w : World) (bk a b c d xa xb xc xd A1 D1 C1 B1 A2 D2 C2 B2 : Nat) (h : St w bk a b c d xa xb xc xd) (la : a < 16) (lb : b < 16) (lc : c < 16) (ld : d < 16) (ha : xa < 4294967296) (hb : xb < 4294967296) (hc : xc < 4294967296) (hd : xd < 4294967296)
  (ab : a ≠ b) (ac : a ≠ c) (ad : a ≠ d) (bc : b ≠ c) (bd : b ≠ d) (cd : c ≠ d)
  (hA1 : A1 = (xa + xb) % 4294967296)
  (hD1 : D1 = rl 16 (xd ^^^ A1))
  (hC1 : C1 = (xc + D1) % 4294967296)
  (hB1 : B1 = rl 12 (xb ^^^ C1))
  (hA2 : A2 = (A1 + B1) % 4294967296)
  (hD2 : D2 = rl 8 (D1 ^^^ A2))
  (hC2 : C2 = (C1 + D2) % 4294967296)
  (hB2 : B2 = rl 7 (B1 ^^^ C2)) :
  Calls Tryd.prog 33 #[.pointer (some ⟨bk, 0, none⟩), .int .i64 a, .int .i64 b, .int .i64 c, .int .i64 d] w fun e w' => e = .returned (.tuple #[]) ∧ St w' bk a b c d A2 B2 C2 D2 ∧ Only bk [a, b, c, d] w w' := by
 have H := Lib.hid h
 obtain ⟨ca, cb, cc, ce, fa, fb, fc, fd⟩ := h
 have lA1 : A1 < 4294967296 := by omega
 have rA1 : (((xa : Nat) : Int) + ((xb : Nat) : Int)) % 4294967296 = ((A1 : Nat) : Int) := by omega
 have lD1 : D1 < 4294967296 := by rw [hD1]; exact rl_16_lt _ (Nat.xor_lt_two_pow (n := 32) (by omega) (by omega))
 have rD1 : bits BinOp.xor IntKind.u32 (xd : Int) (A1 : Int) = ((xd ^^^ A1 : Nat) : Int) := u32_xor_nat _ _ (by omega) (by omega)
 have sD1 : ((rl 16 (xd ^^^ A1) : Nat) : Int) = ((D1 : Nat) : Int) := by rw [hD1]
 have mD1 : xd ^^^ A1 < 4294967296 := Nat.xor_lt_two_pow (n := 32) (by omega) (by omega)
 have lC1 : C1 < 4294967296 := by omega
 have rC1 : (((xc : Nat) : Int) + ((D1 : Nat) : Int)) % 4294967296 = ((C1 : Nat) : Int) := by omega
 have lB1 : B1 < 4294967296 := by rw [hB1]; exact rl_12_lt _ (Nat.xor_lt_two_pow (n := 32) (by omega) (by omega))
 have rB1 : bits BinOp.xor IntKind.u32 (xb : Int) (C1 : Int) = ((xb ^^^ C1 : Nat) : Int) := u32_xor_nat _ _ (by omega) (by omega)
 have sB1 : ((rl 12 (xb ^^^ C1) : Nat) : Int) = ((B1 : Nat) : Int) := by rw [hB1]
 have mB1 : xb ^^^ C1 < 4294967296 := Nat.xor_lt_two_pow (n := 32) (by omega) (by omega)
 have lA2 : A2 < 4294967296 := by omega
 have rA2 : (((A1 : Nat) : Int) + ((B1 : Nat) : Int)) % 4294967296 = ((A2 : Nat) : Int) := by omega
 have lD2 : D2 < 4294967296 := by rw [hD2]; exact rl_8_lt _ (Nat.xor_lt_two_pow (n := 32) (by omega) (by omega))
 have rD2 : bits BinOp.xor IntKind.u32 (D1 : Int) (A2 : Int) = ((D1 ^^^ A2 : Nat) : Int) := u32_xor_nat _ _ (by omega) (by omega)
 have sD2 : ((rl 8 (D1 ^^^ A2) : Nat) : Int) = ((D2 : Nat) : Int) := by rw [hD2]
 have mD2 : D1 ^^^ A2 < 4294967296 := Nat.xor_lt_two_pow (n := 32) (by omega) (by omega)
 have lC2 : C2 < 4294967296 := by omega
 have rC2 : (((C1 : Nat) : Int) + ((D2 : Nat) : Int)) % 4294967296 = ((C2 : Nat) : Int) := by omega
 have lB2 : B2 < 4294967296 := by rw [hB2]; exact rl_7_lt _ (Nat.xor_lt_two_pow (n := 32) (by omega) (by omega))
 have rB2 : bits BinOp.xor IntKind.u32 (B1 : Int) (C2 : Int) = ((B1 ^^^ C2 : Nat) : Int) := u32_xor_nat _ _ (by omega) (by omega)
 have sB2 : ((rl 7 (B1 ^^^ C2) : Nat) : Int) = ((B2 : Nat) : Int) := by rw [hB2]
 have mB2 : B1 ^^^ C2 < 4294967296 := Nat.xor_lt_two_pow (n := 32) (by omega) (by omega)
 have HA1 := Lib.hid hA1
 clear hA1
 have HD1 := Lib.hid hD1
 clear hD1
 have HC1 := Lib.hid hC1
 clear hC1
 have HB1 := Lib.hid hB1
 clear hB1
 have HA2 := Lib.hid hA2
 clear hA2
 have HD2 := Lib.hid hD2
 clear hD2
 have HC2 := Lib.hid hC2
 clear hC2
 have HB2 := Lib.hid hB2
 clear hB2
 have la0 : (0 : Int) ≤ (a : Int) := by omega
 have la1 : (a : Int) < 16 := by omega
 have lb0 : (0 : Int) ≤ (b : Int) := by omega
 have lb1 : (b : Int) < 16 := by omega
 have lc0 : (0 : Int) ≤ (c : Int) := by omega
 have lc1 : (c : Int) < 16 := by omega
 have ld0 : (0 : Int) ≤ (d : Int) := by omega
 have ld1 : (d : Int) < 16 := by omega
 have zxa : (0 : Int) ≤ (xa : Int) := by omega
 have zxb : (0 : Int) ≤ (xb : Int) := by omega
 have zxc : (0 : Int) ≤ (xc : Int) := by omega
 have zxd : (0 : Int) ≤ (xd : Int) := by omega
 have zA1 : (0 : Int) ≤ (A1 : Int) := by omega
 have zD1 : (0 : Int) ≤ (D1 : Int) := by omega
 have zC1 : (0 : Int) ≤ (C1 : Int) := by omega
 have zB1 : (0 : Int) ≤ (B1 : Int) := by omega
 have zA2 : (0 : Int) ≤ (A2 : Int) := by omega
 have zD2 : (0 : Int) ≤ (D2 : Int) := by omega
 have zC2 : (0 : Int) ≤ (C2 : Int) := by omega
 have zB2 : (0 : Int) ≤ (B2 : Int) := by omega
 go_enter Tryd.func33, Tryd.ntmps33
 all_goals go_wp2
 all_goals go_region
 all_goals go_wp2
 all_goals go_region_with (go_at_call 49; refine (rot16 _ mD1 _).mono ?_; rintro e w' ⟨rfl, rfl⟩)
 all_goals go_wp2
 all_goals go_region
 all_goals go_wp2
 all_goals go_region_with (go_at_call 49; refine (rot12 _ mB1 _).mono ?_; rintro e w' ⟨rfl, rfl⟩)
 all_goals
  go_wp2
  obtain ⟨W4, hW4⟩ : ∃ W4, W4 = ((((w.setCell ⟨bk, a, none⟩ (.int .u32 (A1 : Int))).setCell ⟨bk, d, none⟩ (.int .u32 (D1 : Int))).setCell ⟨bk, c, none⟩ (.int .u32 (C1 : Int))).setCell ⟨bk, b, none⟩ (.int .u32 (B1 : Int))).drew.drew.drew.drew := ⟨_, rfl⟩
  rw [← hW4]
  have h4 : St W4 bk a b c d A1 B1 C1 D1 := by rw [hW4]; exact St.half A1 D1 C1 B1 H.out ab ac ad bc bd cd
  have o4 : Only bk [a, b, c, d] w W4 := by rw [hW4]; exact (((((((Only.refl _ _ _).setCell a (by simp) _).setCell d (by simp) _).setCell c (by simp) _).setCell b (by simp) _).drew).drew).drew.drew
  have O4 := Lib.hid o4
  have H4 := Lib.hid h4
  clear o4 hW4 ca cb cc ce fa fb fc fd
  obtain ⟨ca, cb, cc, ce, fa, fb, fc, fd⟩ := h4
  go_region
  go_wp2
  go_region_with (go_at_call 49; refine (rot8 _ mD2 _).mono ?_; rintro e w' ⟨rfl, rfl⟩)
  all_goals go_wp2
  all_goals go_region
  all_goals go_wp2
  all_goals go_region_with (go_at_call 49; refine (rot7 _ mB2 _).mono ?_; rintro e w' ⟨rfl, rfl⟩)
  all_goals go_wp2
  all_goals go_end0
  all_goals exact ⟨rfl, St.half A2 D2 C2 B2 H4.out ab ac ad bc bd cd, O4.out.trans ((((((((Only.refl _ _ _).setCell a (by simp) _).setCell d (by simp) _).setCell c (by simp) _).setCell b (by simp) _).drew).drew).drew.drew)⟩
end Go.Proofs.YtlbfohpkngmaoaaDoor.Ch
